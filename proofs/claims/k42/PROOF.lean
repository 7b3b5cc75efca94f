import PyProof.Rows.All
import KE.KDictOf
import PyProof.DictWalks
import Wide.All
import OpenK.AllK
import Wide.FinOn
import Lean
import PyProof.EqAt
import PyProof.EqKinds
import PyProof.TupleCall
import KE.LcSums
import PySem.Challenge.RW_fewways_k42_webs_of_plans
open And renaming intro->zE6
open Array renaming getElem?_eq_getElem->zAJ,toList_append->zAM,getElem?_toList->zA5,length_toList->zA9,toList_push->zBQ,toList_reverse->zCu,toList_setIfInBounds->zE1,toList_modify->zFV,append_assoc->zF5,toList_map->zFn,toList_zip->zFo,toList->zGZ
open Bool renaming false_ne_true->zAI,and_eq_true->zAO,false_eq_true->zCE,not_eq_true'->zEC,or_eq_true->zE2,and_false->zEo,and_true->zEx,and_assoc->zGP
open False renaming elim->zAE
open ForInStep renaming yield->zBL,done->zF6
open Int renaming emod_lt_of_pos->zDK,emod_nonneg->zD8,toNat_of_nonneg->zDq,toNat_natCast->zEI,add_assoc->zGk
open LawfulBEq renaming eq_of_beq->zDC
open List renaming length_append->zAC,size_toArray->zAF,length_map->zAH,getElem?_eq_getElem->zAL,replicate->zAT,mem_cons_self->zAU,length_take->zAV,mem_cons->zAZ,mem_append_right->zA0,append_assoc->zA2,append_nil->zA3,getElem?_eq_some_iff->zA4,take_append_drop->zA6,mem_append_left->zAa,mem_cons_of_mem->zAb,take_of_length_le->zAe,getElem?_map->zAi,map_cons->zAj,pairwise_cons->zAm,length_cons->zAq,mem_append->zAs,lookup_cons->zAt,pairwise_append->zAu,length_drop->zAv,getElem?_append_left->zAx,getElem?_take_of_lt->zAz,replicate_succ->zBA,drop_eq_getElem_cons->zBF,range->zBG,mem_of_mem_drop->zBH,mem_reverse->zBI,getElem?_append_right->zBK,mem_of_getElem?->zBM,mem_of_mem_take->zBN,mem_singleton->zBO,all_eq_true->zBP,flatten_cons->zBR,getElem_take->zBS,getElem?_cons_succ->zBU,map_append->zBV,zip_cons_cons->zBW,drop_of_length_le->zB3,pairwise_iff_getElem->zB7,map_map->zB8,getElem?_set_ne->zBc,getElem?_cons_zero->zBe,drop_zero->zBf,filterMap_cons->zBi,getElem_of_mem->zBj,length_set->zBk,flatten_singleton->zBl,getElem?_drop->zBp,mem_filterMap->zBq,pairwise_reverse->zBr,mem_range->zBs,nil_append->zBx,reverse_append->zCA,getElem?_set_self->zCD,take_take->zCT,drop_length->zCV,getElem_mem->zCW,flatten_append->zC1,length_reverse->zC2,mem_map->zC3,of_mem_zip->zC8,pairwise_singleton->zC9,take_succ_eq_append_getElem->zCc,drop_drop->zCj,take_zero->zCk,length_replicate->zCq,cons_append->zCv,take_append->zCw,take_append_of_le_length->zCx,reverse_reverse->zCy,length_nil->zDE,length_range->zDQ,reverse_perm->zDR,length_eq_zero_iff->zDX,mem_filter->zD4,nodup_cons->zD5,foldl->zD9,contains_cons->zDv,lookup_append->zDw,getElem_drop->zEE,pairwise_map->zEF,drop_append_of_le_length->zEM,not_mem_nil->zEN,length->zE4,Nodup->zEr,getElem?_replicate->zFA,dropLast_eq_take->zFR,length_singleton->zFS,getElem_toArray->zFX,isEmpty_toArray->zFY,getElem?_range->zF9,ext_getElem?->zFq,take_sublist->zFr,flatten_nil->zFx,map_flatMap->zFy,foldl_cons->zGJ,length_zip->zGK,take_left'->zGL,drop_left->zGS,any_cons->zG4,map_take->zG5,map_nil->zGl
open List.Pairwise renaming nil->zE9
open List.Perm renaming refl->zBB,swap->zF8
open Nat renaming le_refl->zAP,lt_of_lt_of_le->zAQ,ne_of_lt->zAk,zero_le->zAn,le_trans->zAr,add_sub_cancel_left->zAw,min_eq_left->zBY,lt_irrefl->zBg,le_of_lt->zCL,add_assoc->zCP,lt_succ_self->zDZ,mul_le_mul->zDo,add_zero->zEO,min_self->zEP,mul_comm->zEQ,ne_of_gt->zER,zero_add->zES,le_add_right->zET,le_max_right->zEU,min_eq_right->zEV,le_max_left->zEa,not_lt->zFB,le_of_ble_eq_true->zFZ,le_of_eq->zF0,sub_self->zF1,sub_zero->zF2,le_succ->zFe,lt_of_le_of_lt->zFs,add_sub_assoc->zFz,not_lt_zero->zGT,max_assoc->zGm
open Nat.succ renaming inj->zGA
open Ne renaming symm->zDx
open Option renaming bind_some->zBZ,map_some->zDB,getD_none->zFf,none->zG6
open Option.some renaming inj->zAf,injEq->zDa
open Or renaming inr->zBz,inl->zCd
open Prod.mk renaming injEq->zGC
open PyProof.Rows renaming wpS_bind->zAK,wpS_pure->zAR,pendingOf->zAl,SortSt->zAp,wpS_forRange->zBJ,slot_tuple_getitem->zBX,kindOf->zB0,KeyOrd->zBn,IntsAre->zBo,failedOf->zBw,wpS_modify->zCZ,wpS_mono->zC0,envOfC->zC6,SortKind->zCb,callWith_type1->zCg,reverseSlice'->zCn,seqObj->zCo,wpS_get->zDY,AllBare->zDp,wpS_lift->zE0,lt_int->zE5,minRun'->zEj,get?_update_seq->zFM,subscriptTail_builtinR->zFw,entry_tuple_getitem->zGU,seqEpoch_at->zGW,args_tuple_getitem->zG8,sortedHeap->zGt
open PyProof.Rows.IsTup renaming new->zFG
open PyProof.Rows.KeyOrd renaming kle_of_klt->zAc,kle_trans->zAo,kle_refl->zC4,kle_antisymm->zFQ,kle->zF7
open PyProof.Rows.SortSt renaming mk'->zFa
open PySem renaming Shared->zAB,wpAny_bind->zAG,sizeLine->zAN,Program->zAS,mainGlobals->zAX,starEach->zAY,wpAny_pure->zA7,Around->zA8,mem_of_lookup->zAg,FuncData->zAy,wpAny_mono->zBE,foldedSetIterable->zBT,compareOp->zB2,bootBuiltins->zB5,behindInMarks->zBu,binaryOp->zBv,wpAny_loadPart_at->zCC,codeAny->zCH,assignEach->zCJ,callerA->zCN,wpAny_Call_Name_kw->zCO,backTo->zCQ,wpAny_passesOwn->zCR,call_meets->zCX,wpAny_newObj_type->zCY,cellsFrom->zC5,Arguments->zCh,Keyword->zCi,letOwnedTupleGo->zCm,wpAny_loadPart'->zCp,wpAny_rule->zCz,wpAny_truthy_bool->zDA,NameKind->zDG,attributeBase->zDJ,sliceBounds->zDN,wpAny_execs_nil->zDO,wpAny_isSubtype_exc->zDP,wpAny_newFunctionEnv_cells->zDW,swapsWith->zD2,sysModules->zD3,excClassObj->zDb,keywordEach->zDc,sizeLine_eq->zDd,wpAny_holding->zDe,wpAny_standAt->zDf,codeAny_call_function->zDt,codeAny_mono->zDu,wpAny_Name->zDz,wpAny_loadName_local->zEB,newFunctionEnv->zEG,recursionLimit->zEH,wpAny_loadName_cell->zEL,Paired->zEW,codeAmong->zEZ,Builtin->zE7,closureFor->zEh,holding->zEi,relabel->zEk,standAt->zEl,typeIs_int->zEm,typeLookup->zEn,IsPart->zEp,noFill_tuple_add->zEv,wpAny_call_entry->zEw,GenState->zEz,backToKw->zFD,DictEntry->zFF,Result->zFJ,assign->zFL,getItem->zFN,wpAny_binaryOp_repeat_ref->zF4,wpAny_comprehension_free->zFb,BindsTo->zFc,call->zFg,SetTable->zFh,seq_tuple_add->zFj,swappedStores->zFk,swapsWithSole->zFl,wpAny_callSpecial?_slot->zFm,seqSlot_of->zFv,PassesOwn->zGB,codeAny_func->zGF,concat_meets->zGG,wpAny_isTrue_Compare1->zGH,wpAny_typeOf->zGI,codeAny_call_builtin->zGO,newList->zGV,wpAny_field->zGX,wpAny_loadName_free->zGY,Within->zG7,bindArgs->zG9,compTurn->zGa,builtinsNs->zGq,defaultsOf->zGr,slot_list_getitem->zGs,wpAny_call->zGu,wpAny_sequenceKey->zGv
open PySem.Around renaming frames_deeper->zFE
open PySem.Builtin.List renaming listTooLong->zCK,listUpdate->zED
open PySem.Builtin.Range renaming rangeSize->zGb
open PySem.Builtin.Slice renaming slicePlaces->zCF,sliceAdjust->zCt,sliceApplied->zDl,sliceFields->zGc,slicePartIndex->zGd
open PySem.Builtin.Tuple renaming tupleExact->zCI,tupleItemsOf->zDm,tupleTooMany->zDn,tupleCompareSizes->zGe,tupleHashOf->zGf,tupleIsExact->zGg
open PySem.Calls renaming Name_function_global->zE3,callWith_builtin->zEy,evalArgs_plain->zFO
open PySem.CmpOp renaming NotIn->zGh
open PySem.F renaming plainAttrs_list->zBa,slot_list_extend->zC7,args_tuple_add_2->zDH,type_list_extend->zDI,entry_tuple_add->zDL,slot_tuple_add->zDU,slot_int_rmul->zDg,typeOf_object_class->zDh,slot_tuple_mul->zE8,slot_list_count->zEb,slot_list_index->zEc,slot_gs_get->zFW,slot_list_pop->zFd,slot_tuple_eq_refl->zFp,args_int_rmul_2->zGQ,slot_tuple_rmul->zGR,entry_int_rmul->zG0,slot_int_index->zG1,sub_tuple_dict->zG2,fills_int_mul->zGi
open PySem.Heap renaming get?_push_of_some->zAD,lt_size->zAW,get?_push_size->zAh,size_push->zCS,get?_update_ne->zDD,SameBut->zFP,FlyingW->zGj
open PySem.Heap.IsSliceOf renaming new->zG3
open PySem.NameKind renaming free->zBm,cell->zCr
open PySem.Obj renaming mapSeq->zCl
open PySem.Paired renaming length->zGM
open PySem.SeqAt renaming EqAt->zDM
open PySem.SeqAt.EqAt renaming of_refs->zD7,same->zDy,bool_bool->zEe,int_int->zEs,int_str->zEt,str_int->zEu
open PySem.SeqAt.RcAt renaming lists_lengths->zEK,tuples->zFC,lists->zFK
open PySem.Value renaming ref->zBb,type->zCM,bool->zCf,builtin->zDV,int->zEY,notImplemented->zFU,none->zFi,str->zGE,float->zGp
open PySem.W renaming Frag->zAA,mg_of->zA1,nsIn->zAd,kia_one->zBC,findIn->zBD,emptyDict->zB1,keepIn->zB4,fnOf->zB6,mg_none_of->zB9,kitOne->zBd,hideAll->zBh,instObj->zBt,hideAll_get->zBy,tabObj->zCB,kla_obj->zCG,envX->zCU,cellsFrom_some->zCa,codeIn->zCe,looks_findIn->zCs,of_hideAll->zDF,codeHdIn->zDS,hideAll_none->zD0,hideAll_size->zD1,lookIn->zD6,Looks->zDi,callWith_K->zDj,codeRec_of->zDk,kitx_dict->zDr,methodObj->zDs,plainGet->zEA,OpenLaw->zEJ,kla_fn->zEX,excIn->zEd,funFrames_hide->zEq,codeHd_of_K->zFH,plainGet_of->zFI,kitx_tuple->zFT,kitx_list->zF3,CodeHd->zFt,InstAt->zFu,WalkO->zGD,isFn->zGN
open PySem.W.Looks renaming ld->zGn,now->zGo
open Sum renaming inl->zEf,inr->zEg
open True renaming intro->zDT
noncomputable section
namespace PySem.W.Fast
def tw2984845229297266046:=0
def tw7148733104785140350:=0
def tw3921457183905520318:=0
def tw14535147459550908222:=0
def tw13034594807558580446:=0
def tw14424640694881639358:=0
def tw5240046261891129278:=0
def tw11227692980801733918:=0
def tw11821340480946680286:=0
def tw14054301329086652663:=0
def tw11263068736330835191:=0
def tw17171542365652395319:=0
def tw13690662512381577527:=0
def tw8455968967069437687:=0
def tw15707347952775880503:=0
def tw8231231017032945527:=0
def tw9674617487032932695:=0
def tw1226345163495539692:=0
def tw9660648568940463276:=0
def tw1287183055506999852:=0
def tw880891969942051372:=0
def tw4170021161361695340:=0
def tw14801300777716623212:=0
def tw14975297288281815525:=0
def tw4169037791327859525:=0
def tw15335221608566716357:=0
def tw16528846454759901861:=0
def tw186090502665816133:=0
def tw9058747399181379365:=0
def tw9278559337137964165:=0
def tw5312131676112123141:=0
def tw12799630919575159173:=0
def tw16023210980116781157:=0
def tw2807195044014637157:=0
def tw6524680700236710053:=0
def tw16099549215071301797:=0
def tw17032884599557150970:=0
def tw4108597931056424602:=0
def tw270851626351504826:=0
def tw6400839423633826426:=0
def tw9636974504451133466:=0
def tw11932010744695106362:=0
def tw13589268279912895642:=0
def tw1959194135932437658:=0
def tw4017284024062434298:=0
def tw8932844548376546650:=0
def tw9484613222155144483:=0
def tw260705723549558403:=0
def tw15157454860108551523:=0
def tw360661193789383619:=0
def tw8270376960231925475:=0
def tw4096833413467225059:=0
def tw562829969324719267:=0
def tw1694880476169994920:=0
def tw17760650535055031368:=0
def tw8313569657233972264:=0
def tw10495984888073804296:=0
def tw15100800322874920456:=0
def tw9394875851262803176:=0
def tw335039510633921096:=0
def tw2605710810484222664:=0
def tw757402840645843656:=0
def tw8065371344276822001:=0
def tw9462830335507607377:=0
def tw9569060073226662321:=0
def tw14725777255664771345:=0
def tw6233410928122159857:=0
def tw813013349667098065:=0
def tw863652793483388497:=0
def tw156146733844965297:=0
def tw3423459270358021350:=0
def tw15282592127369171238:=0
def tw4741088398273336742:=0
def tw17829848921630920774:=0
def tw6603312413770816710:=0
def tw13326468826270076230:=0
def tw7884541119199559110:=0
def tw7817916909307823622:=0
def tw5372329337853863391:=0
def tw16819895937796261183:=0
def tw4624530259514305375:=0
def tw17352235932004528031:=0
def tw11939787362556936831:=0
def tw17666093961145039903:=0
def tw8267215841284178815:=0
def tw3539588965260740831:=0
def tw4434663836662531732:=0
def tw4115456205322937460:=0
def tw7063324135962611892:=0
def tw9628551320215958772:=0
def tw6666114274941774132:=0
def tw16272655939143360820:=0
def tw10467287803592482964:=0
def tw13004205339359659508:=0
def tw12432332271694658036:=0
def tw12500462303726887412:=0
def tw9682185226441409748:=0
def tw4644176268987192052:=0
def tw6563252411440347604:=0
def tw9937993010358021037:=0
def tw8957224434218736621:=0
def tw930856798240227149:=0
def tw11335466014063554797:=0
def tw1759732980535485869:=0
def tw17889801548190945773:=0
def tw4124147499901824557:=0
def tw14122944456627571202:=0
def tw12008942600079048994:=0
def tw14343120871147564738:=0
def tw16927045992175861442:=0
def tw483539288643405634:=0
def tw11888212026571489154:=0
def tw3616156727273799394:=0
def tw14151222053989040866:=0
def tw13865674856627491906:=0
def tw13327536833638691618:=0
def tw8744324538769465963:=0
def tw16089304053947950411:=0
def tw4737619867173129899:=0
def tw3581083674081080043:=0
def tw2647402518817225227:=0
def tw11393989959195622192:=0
def tw15977711718371794640:=0
def tw13141482503517517712:=0
def tw598246622033646480:=0
def tw12934520213481338288:=0
def tw6059595959957042640:=0
def tw18001616147944915705:=0
def tw461112529043247929:=0
def tw13214082166713358489:=0
def tw11377595107150588153:=0
def tw14087599480633392793:=0
def tw8389727541002860249:=0
def tw15942504989113363353:=0
def tw12583966149290814073:=0
def tw17398617830046754350:=0
def tw1122229933875022158:=0
def tw10106738359841445614:=0
def tw15824632779479421742:=0
def tw10737462034433919854:=0
def tw1456513718142380622:=0
def tw4630766736845078446:=0
def tw4060877079705662158:=0
def tw13052129669143797806:=0
def tw531521718860609646:=0
def tw10152690107923359982:=0
def tw8455040760325282766:=0
def tw15060842032293315886:=0
def tw14554337942181387630:=0
def tw4314527104875818350:=0
def tw12342249153553283502:=0
def tw14477425576263202958:=0
def tw3355620081390469511:=0
def tw10880033191465954407:=0
def tw12459299289220231943:=0
def tw5453945879031670503:=0
def tw14802621902531683175:=0
def tw3895158205063144295:=0
def tw1753245932034942215:=0
def tw16367417250202041372:=0
def tw3726839697105408476:=0
def tw5737347821668567900:=0
def tw17171747117390068245:=0
def tw8392277751578434421:=0
def tw13324007978711870453:=0
def tw433850153104751445:=0
def tw17326506706665668789:=0
def tw13271071225332202453:=0
def tw8265338798533692789:=0
def tw9821416116818205109:=0
def tw8643175982456581333:=0
def tw2147130395250368245:=0
def tw4927438007082527306:=0
def tw18271895936905145898:=0
def tw8867275802200662570:=0
def tw10332710661612625034:=0
def tw2021510606569426122:=0
def tw13925719956595686666:=0
def tw14133510043912299498:=0
def tw11093648229564256819:=0
def tw16259482671749553491:=0
def tw12395534491301020115:=0
def tw4153145731996840467:=0
def tw16038732498762791859:=0
def tw1584155530708570771:=0
def tw17882735691216173779:=0
def tw9946183006948441139:=0
def tw5188732655487299347:=0
def tw427835487730027539:=0
def tw13660589153792333235:=0
def tw13032121004162827224:=0
def tw11642979325670646456:=0
def tw2069758795048058680:=0
def tw17978277612957849752:=0
def tw188103400586718072:=0
def tw2226306745462319992:=0
def tw9076045185448187096:=0
def tw16467243327166584088:=0
def tw409031501988404472:=0
def tw3831173469535087928:=0
def tw5868364704523704984:=0
def tw18395282923045859032:=0
def tw6666940184203666081:=0
def tw8801034562222213025:=0
def tw3141704302740925345:=0
def tw14244241139091522945:=0
def tw9318216993346854337:=0
def tw3102153716884644353:=0
def tw17490918518747661729:=0
def tw16913401517583486369:=0
def tw17060500430743185217:=0
def tw733820168019138390:=0
def tw16565765352714477110:=0
def tw12838647823166041046:=0
def tw7978009110874364726:=0
def tw15560331083320325046:=0
def tw15728650967295888726:=0
def tw391838377356238166:=0
def tw1112867068249373142:=0
def tw17669839819965997487:=0
def tw17853977581807174127:=0
def tw13423277561671059183:=0
def tw11711554724686300975:=0
def tw9825756553137269391:=0
def tw1950223111452305519:=0
def tw11020169741468112719:=0
def tw4112739977091689647:=0
def tw15579953775721234564:=0
def tw7829573072017076452:=0
def tw1566343106794242948:=0
def tw17577327693207055236:=0
def tw7172938109207550461:=0
def tw4961243732964300605:=0
def tw16698670656132397949:=0
def tw6401448572946045821:=0
def tw7584473717252193757:=0
def tw12374381555895183965:=0
def tw12516423450353783581:=0
def tw13289998142879058354:=0
def tw5002034328141706770:=0
def tw14865421742773124690:=0
def tw7148557991731258066:=0
def tw3094128612744958258:=0
def tw15947006283091440658:=0
def tw10087058096017412411:=0
def tw12006875916157883035:=0
def tw3774001050630559099:=0
def tw1121864633066306043:=0
def tw17193517211583928347:=0
def tw249904732349937819:=0
def tw7645058115480906075:=0
def tw12769918346687560027:=0
def tw4769779961587899:=0
def tw13970239875262484992:=0
def tw15999032410062230080:=0
def tw11269352715448231840:=0
def tw9612662582420530144:=0
def tw11992407914333926144:=0
def tw14812968510645143648:=0
def tw14516011523447894240:=0
def tw11530584959597789120:=0
def tw18087394588345112576:=0
def tw13112725870369362944:=0
def tw1914059857446022144:=0
def tw386726147078914176:=0
def tw17598993529981000960:=0
def tw8626648482411550016:=0
def tw11633609918510478656:=0
def tw1108200317754397408:=0
def tw12118583786127593920:=0
def tw15954947423428387913:=0
def tw6374863423944943593:=0
def tw12596513027439330761:=0
def tw12005270896929536169:=0
def tw7517030122061846761:=0
def tw14407197847179811177:=0
def tw2309895589563752873:=0
def tw7764401427899925321:=0
def tw10151770478600282729:=0
def tw14919251280842036169:=0
def tw7589803612748829665:=0
def tw5794212026174558459:=0
end PySem.W.Fast
set_option bootstrap.genMatcherCode false
set_option compiler.extract_closed false
set_option Elab.async false
set_option linter.all false
set_option maxRecDepth 100000
namespace L2
open PySem PySem.Spec PyProof.Rows
abbrev Key:=Sum Int Str
def aEI:Key->Value->Bool
 | .inl k,v=>Value.isInt k v
 | .inr x,v=>Value.isStrOf x v
def aHN(w:World):Key->Int
 | .inl k=>hashInt k
 | .inr x=>hashStr w x
def bj:∀{k:Key} {v:Value},aEI k v=true->(∃i t,k=zEf i/\v=zEY i t)\/(∃x t,k=zEg x/\v=zGE x t)
 | .inl i,v,h=>by
  obtain⟨t,e⟩:=Value.isInt_shape (k:=i) (v:=v) h;exact .inl ⟨i,t,rfl,e⟩
 | .inr x,v,h=>by
  obtain⟨t,e⟩:=Value.isStrOf_shape (x:=x) (v:=v) h;exact .inr ⟨x,t,rfl,e⟩
def aF3(a b:Int):decide ((zEf a:Key)=zEf b)=(a==b):=by
 by_cases e:a=b
 .subst e;simp
 .have h:¬(zEf a:Key)=zEf b:=λ q=>e (Sum.inl.inj q)
  rw[decide_eq_false h];exact(beq_eq_false_iff_ne.mpr e).symm
def aF0(a b:Str):decide ((zEg a:Key)=zEg b)=decide (a=b):=by
 by_cases e:a=b
 .subst e;simp
 .have h:¬(zEg a:Key)=zEg b:=λ q=>e (Sum.inr.inj q)
  rw[decide_eq_false h,decide_eq_false e]
def aF2(a:Int)(b:Str):decide ((zEf a:Key)=zEg b)=false:=decide_eq_false (λ q=>nomatch q)
def aF1(a:Str)(b:Int):decide ((zEg a:Key)=zEf b)=false:=decide_eq_false (λ q=>nomatch q)
def uR(prog:zAS)(w:World):PySem.KeyKind prog w Key where
 is:=aEI
 hash:=aHN w
 inj:=λ v a b ha hb=>by
  rcases bj ha with ⟨i,t,rfl,rfl⟩|⟨x,t,rfl,rfl⟩
  .rcases bj hb with ⟨j,u,rfl,e⟩|⟨y,u,rfl,e⟩
   .injection e with e1 _;rw[e1]
   .exact nomatch e
  .rcases bj hb with ⟨j,u,rfl,e⟩|⟨y,u,rfl,e⟩
   .exact nomatch e
   .injection e with e1 _;rw[e1]
 byValue:=λ k v h=>by
  rcases bj h with ⟨i,t,rfl,rfl⟩|⟨x,t,rfl,rfl⟩<;>rfl
 pyHash:=λ hv h=>by
  rcases bj hv with ⟨i,t,rfl,rfl⟩|⟨x,t,rfl,rfl⟩
  .exact wpAny_pyHash_int h
  .exact wpAny_pyHash_str h
 eqBool:=λ hu hv h=>by
  rcases bj hu with ⟨i,t,rfl,rfl⟩|⟨x,t,rfl,rfl⟩
  .rcases bj hv with ⟨j,u,rfl,rfl⟩|⟨y,u,rfl,rfl⟩
   .rw[aF3]at h;exact wpAny_eqBool_int h
   .rw[aF2]at h;exact zEt i t y u _ _ _ _ h
  .rcases bj hv with ⟨j,u,rfl,rfl⟩|⟨y,u,rfl,rfl⟩
   .rw[aF1]at h;exact zEu x t j u _ _ _ _ h
   .rw[aF0]at h;exact wpAny_eqBool_str h
 «strs»:=λ k x t v h=>by
  rcases bj h with ⟨i,u,rfl,e⟩|⟨y,u,rfl,e⟩
  .exact nomatch e
  .injection e with e1 _
   subst e1;cases v<;>rfl
inductive V where
 |non|bl (b:Bool)|int (i:Int)|str (x:Str)|byt (b:Array UInt8)|flt (b:UInt64)|ref (a:Addr)|ty (n:String)
 deriving DecidableEq
def RelV:V->Value->Prop
 | .non,u=>u=zFi
 | .bl b,u=>u=zCf b
 | .int i,u=>∃t,u=zEY i t
 | .str x,u=>∃t,u=zGE x t
 | .byt b,u=>∃t,u=Value.bytes b t
 | .flt b,u=>∃t,u=zGp b t
 | .ref a,u=>u=zBb a
 | .ty n,u=>u=zCM n
abbrev Vals:List V->List Value->Prop:=zEW RelV
theorem Vals.length(r:Vals xs us):xs.length=us.length:=zGM r
theorem Vals.get:∀{xs:List V} {us:List Value} {i:Nat} {x:V},Vals xs us->xs[i]? =some x->∃u,us[i]? =some u/\RelV x u
 |_,_,_,_,.nil,e=>by simp at e
 |_,_,0,_,.cons r _,e=>by simp at e;subst e;exact⟨_,rfl,r⟩
 |_,_,i+1,x,.cons _ t,e=>by
  obtain⟨u,h1,h2⟩:=Vals.get (i:=i) (x:=x) t (by simpa using e);exact⟨u,by simpa using h1,h2⟩
theorem Vals.append:∀{xs ys:List V} {us ws:List Value},Vals xs us->Vals ys ws->Vals (xs++ys) (us++ws)
 |_,_,_,_,.nil,s=>s
 |_,_,_,_,.cons r t,s=>.cons r (Vals.append t s)
theorem Vals.take:∀{xs:List V} {us:List Value} (n:Nat),Vals xs us->Vals (xs.take n) (us.take n)
 |_,_,0,_=>.nil
 |_,_,_+1,.nil=>.nil
 |_,_,n+1,.cons r t=>.cons r (Vals.take n t)
theorem Vals.drop:∀{xs:List V} {us:List Value} (n:Nat),Vals xs us->Vals (xs.drop n) (us.drop n)
 |_,_,0,r=>r
 |_,_,_+1,.nil=>.nil
 |_,_,n+1,.cons _ t=>Vals.drop n t
def aAL:Option V->Option Value->Prop
 |some v,some u=>RelV v u
 |none,none=>True
 |_,_=>False
def KV{κ:Type}:List (κ×V)->List (κ×Value)->Prop:=zEW λ(p:κ×V) (q:κ×Value)=>p.1=q.1/\RelV p.2 q.2
def kV:Key->V
 | .inl i=>.int i
 | .inr x=>.str x
inductive HO where
 |lst (xs:List V)
 |tup (xs:List V)
 |dK (kvs:List (Key×V))|dT (kvs:List (List Key×V))
 |set (S:Int->Bool) (n:Nat)
 |ins (C dx:Addr) (fs:List (Str×V))
 |own (x:Addr)
 |xd (fs:List (Str×V))
 |met (f x:Addr)
 |rng (lo hi:Int)
 |frz (o:Obj) (u:HO)
 |tbl (ps:Array Value)
 |ext (φ:Heap->Prop)
abbrev Hp:=Addr->Option HO
def upd(H:Hp)(a:Addr)(o:HO):Hp:=λ b=>if b=a then some o else H b
def aj:upd H a o a=some o:=by unfold upd;rw[if_pos rfl]
def aQ(h:b≠a):upd H a o b=H b:=by unfold upd;rw[if_neg h]
def bL{H:Hp}{a b:Addr}{o:HO}(h:H a=some o)(h':H b=none):a≠b:=by
 intro e;subst e;rw[h]at h';cases h'
def NoD(h:Heap)(a:Addr):Prop:=∀o,h.get? a=some o->o.dict=none
theorem NoD.push(h:Heap){o:Obj}(hl:o.isFreed=false:=by rfl)(hd:o.dict=none:=by rfl):NoD (h.push o) h.objs.size:=λ u e=>by rw[zAh _ hl]at e;cases e;exact hd
def NoD.keep{h h':Heap}{a:Addr}{o:Obj}(n:NoD h a)(e:h.get? a=some o)(e':h'.get? a=some o):NoD h' a:=λ u q=>by rw[e']at q;cases q;exact n o e
section
variable(P:zAS)(w:World)
def cH(H:Hp)(h:Heap)(a:Addr):HO->Prop
 | .lst xs=>xs.length<=zAN/\∃(its:List Value) (n:Nat),Vals xs its/\h.get? a=some {cls:=.type "list",data:=.seq its.toArray n}
 | .tup xs=>(xs.length<=zAN/\NoD h a)/\∃its:List Value,Vals xs its/\IsTup h a its.toArray
 | .dK kvs=>kvs.length<=zAN/\(a==zD3)=false/\∃vs,KV kvs vs/\h.DictOf (uR P w) a vs
 | .dT kvs=>kvs.length<=zAN/\(a==zD3)=false/\∃xs:List (List Key×Addr×Value),
   zEW (λ(p:List Key×V) (q:List Key×Addr×Value)=>p.1=q.1/\H q.2.1=some (.tup (p.1.map kV))/\RelV p.2 q.2.2) kvs xs/\
   ∃o es ep,h.get? a=some o/\o.ExactDict/\o.data= .dict es ep/\es.toList=xs.map (entryOfKey (tupleKind (uR P w)))/\(xs.map (·.1)).Nodup
 | .set S n=>h.SetOf (intKind P w) a S n
 | .ins C dx fs=>H dx=some (.own a)/\fs.length<=1000/\dx≠a/\h.get? a=some (zBt C dx)/\
   ∃mA,h.Ns1 dx mA/\(∀f,aAL (fs.lookup f) (mA f))/\zG7 mA (fs.map (·.1))
 | .own _=>∃o,h.get? a=some o
 | .xd fs=>∃mA,h.Ns1 a mA/\∀f,aAL (fs.lookup f) (mA f)
 | .rng lo hi=>∃t u v,h.get? a=some {cls:=.type "range",data:=.fields #[.int lo t,.int hi u,.int 1 v]}
 | .frz o u=>h.get? a=some o/\cH H h a u
 | .tbl ps=>h.get? a=some {cls:=.none,data:=.fields ps}
 | .met f x=>h.get? a=some (zDs (.ref f) (.ref x))
 | .ext φ=>φ h/\(∃o,h.get? a=some o)/\∀h1 h2:Heap,φ h1->(∀o,h1.get? a=some o->h2.get? a=some o)->φ h2
def HOk(H:Hp)(h:Heap):Prop:=∀a o,H a=some o->cH P w H h a o
end
section
variable{P:zAS}{w:World}{H H':Hp}{h h':Heap}{a:Addr}{o:HO}
theorem cH.lt(x:cH P w H h a o):a<h.objs.size:=by
 cases o with
 |lst xs=>obtain⟨_,_,_,_,e⟩:=x;exact zAW e
 |tup xs=>obtain⟨_,_,_,p⟩:=x;exact p.lt
 |dK kvs=>obtain⟨_,_,_,_,o,_,_,e,_⟩:=x;exact zAW e
 |dT kvs=>obtain⟨_,_,_,_,o,_,_,e,_⟩:=x;exact zAW e
 |set S n=>obtain⟨o,_,_,_,e,_⟩:=x;exact zAW e
 |ins C dx fs=>obtain⟨_,_,_,e,_⟩:=x;exact zAW e
 |own y=>obtain⟨_,e⟩:=x;exact zAW e
 |xd fs=>obtain⟨_,⟨_,_,_,e,_⟩,_⟩:=x;exact zAW e
 |rng lo hi=>obtain⟨_,_,_,e⟩:=x;exact zAW e
 |frz ob u=>obtain⟨e,_⟩:=x;exact zAW e
 |tbl ps=>exact zAW (show h.get? a=some _ from x)
 |met f y=>exact zAW (show h.get? a=some _ from x)
 |ext φ=>obtain⟨_,⟨_,e⟩,_⟩:=x;exact zAW e
theorem Paired.mapP:∀{l₁:List α} {l₂:List β},zEW F l₁ l₂->(∀a b,F a b->G a b)->zEW G l₁ l₂
 |_,_,.nil,_=>.nil
 |_,_,.cons r t,f=>.cons (f _ _ r) (Paired.mapP t f)
def cH.stay(x:cH P w H h a o)(k:∀b u,(b=a\/H b=some (.own a))->h.get? b=some u->h'.get? b=some u)
  (ho:∀b,H b=some (.own a)->H' b=some (.own a))(ht:∀b xs,H b=some (.tup xs)->H' b=some (.tup xs)):cH P w H' h' a o:=by
 induction o with
 |lst xs=>obtain⟨z,its,n,r,e⟩:=x;exact⟨z,its,n,r,k _ _ (.inl rfl) e⟩
 |tup xs=>obtain⟨z,its,r,ob,e,c⟩:=x;exact⟨⟨z.1,z.2.keep e (k _ _ (.inl rfl) e)⟩,its,r,ob,k _ _ (.inl rfl) e,c⟩
 |dK kvs=>obtain⟨z,y,vs,r,ob,es,ep,e,c⟩:=x;exact⟨z,y,vs,r,ob,es,ep,k _ _ (.inl rfl) e,c⟩
 |dT kvs=>
  obtain⟨z,y,xs,r,ob,es,ep,e,c⟩:=x;exact⟨z,y,xs,Paired.mapP r λ p q z=>⟨z.1,ht _ _ z.2.1,z.2.2⟩,ob,es,ep,k _ _ (.inl rfl) e,c⟩
 |set S n=>obtain⟨ob,es,ep,t,e,c⟩:=x;exact⟨ob,es,ep,t,k _ _ (.inl rfl) e,c⟩
 |ins C dx fs=>
  obtain⟨d,z,ne,e,mA,⟨od,es,ep,e2,c⟩,r⟩:=x;exact⟨ho _ d,z,ne,k _ _ (.inl rfl) e,mA,⟨od,es,ep,k _ _ (.inr d) e2,c⟩,r⟩
 |own y=>obtain⟨ob,e⟩:=x;exact⟨ob,k _ _ (.inl rfl) e⟩
 |xd fs=>obtain⟨mA,⟨od,es,ep,e,c⟩,r⟩:=x;exact⟨mA,⟨od,es,ep,k _ _ (.inl rfl) e,c⟩,r⟩
 |rng lo hi=>obtain⟨t,u,v,e⟩:=x;exact⟨t,u,v,k _ _ (.inl rfl) e⟩
 |frz ob u ih=>obtain⟨e,q⟩:=x;exact⟨k _ _ (.inl rfl) e,ih q⟩
 |tbl ps=>
  have e:h.get? a=some {cls:=.none,data:=.fields ps}:=x;show h'.get? a=some {cls:=.none,data:=.fields ps};exact k a _ (.inl rfl) e
 |met f y=>
  have e:h.get? a=some (zDs (.ref f) (.ref y)):=x;show h'.get? a=some (zDs (.ref f) (.ref y));exact k a _ (.inl rfl) e
 |ext φ=>obtain⟨p,⟨o,e⟩,st⟩:=x;exact⟨st _ _ p λ o q=>k _ _ (.inl rfl) q,⟨o,k _ _ (.inl rfl) e⟩,st⟩
theorem HOk.lt(x:HOk P w H h)(e:H a=some o):a<h.objs.size:=(x a o e).lt
def HOk.fresh(x:HOk P w H h)(e:h.objs.size<=a):H a=none:=by
 cases q:H a with
 |none=>rfl
 |some u=>exact absurd (zAQ (x.lt q) e) (zBg _)
def HOk.kept(x:HOk P w H h)(k:∀b u,h.get? b=some u->h'.get? b=some u):HOk P w H h':=λ a o e=>
 (x a o e).stay (λ b u _ q=>k b u q) (λ _ q=>q) λ _ _ q=>q
def HOk.laid(x:HOk P w H h)(k:∀b u,h.get? b=some u->h'.get? b=some u)(hp:h.objs.size<=a)(new:cH P w (upd H a o) h' a o):HOk P w (upd H a o) h':=λ b u e=>by
 have hn:=x.fresh hp;by_cases hb:b=a
 .subst hb;rw[aj]at e;cases e;exact new
 .rw[aQ hb]at e
  exact(x b u e).stay (λ c v _ q=>k c v q) (λ c q=>by rw[aQ (bL q hn)];exact q) λ c xs q=>by rw[aQ (bL q hn)];exact q
end
def Rd(H:Hp)(a:Addr)(u:HO):Prop:=H a=some u\/∃o,H a=some (.frz o u)
def Rd.ok(r:Rd H a u)(x:HOk P w H h):cH P w H h a u:=by
 rcases r with r|⟨o,r⟩
 .exact x a u r
 .obtain⟨_,q⟩:=x a _ r
  exact q
def Mut:Option HO->Prop
 |some (.lst _)=>True
 |some (.dK _)=>True
 |some (.dT _)=>True
 |some (.set _ _)=>True
 |some (.ins _ _ _)=>True
 |some (.ext _)=>True
 |_=>False
section
variable{P:zAS}{w:World}{H:Hp}{h h':Heap}{x e:Addr}{o':HO}
def HOk.write(ok:HOk P w H h)(mu:Mut (H x))(he:e=x\/H e=some (.own x))(k:∀b u,b≠e->h.get? b=some u->h'.get? b=some u)(heo:∃u,h'.get? e=some u)
  (new:cH P w (upd H x o') h' x o'):HOk P w (upd H x o') h':=λ b u q=>by
 have nown:∀c y,H c=some (.own y)->c≠x:=λ c y r z=>by subst z;rw[r]at mu;exact mu
 have ntup:∀c xs,H c=some (.tup xs)->c≠x:=λ c xs r z=>by subst z;rw[r]at mu;exact mu
 by_cases hb:b=x
 .subst hb;rw[aj]at q;cases q;exact new
 .rw[aQ hb]at q
  by_cases hbe:b=e
  .have q':H b=some (.own x):=by
    rcases he with z|z
    .exact absurd (hbe.trans z) hb
    .rw[hbe];exact z
   rw[q]at q';cases q';obtain⟨v,hv⟩:=heo;exact⟨v,by rw[hbe];exact hv⟩
  .refine(ok b u q).stay (λ c v hc r=>k c v ?_ r) (λ c r=>by rw[aQ (nown c b r)];exact r) λ c xs r=>by rw[aQ (ntup c xs r)];exact r
   rcases hc with rfl|hc
   .exact hbe
   .rintro rfl
    rcases he with z|z
    .exact nown c b hc z
    .rw[hc]at z;cases z;exact hb rfl
end
structure Un(fs ex:List Addr)(H H':Hp)(h h':Heap):Prop where
 keep:∀b o,h.get? b=some o->H b=none->b∉fs->b∉ex->h'.get? b=some o
 slot:∀b o,h.get? b=some o->H b=none->b∈fs->b∉ex->∃sl,h'.get? b=some {o with slots:=sl}
 free:∀b o,h.get? b=some o->H b=none->b∉ex->H' b=none
 there:∀b o,h.get? b=some o->b∉ex->∃o',h'.get? b=some o'
 tups:∀b xs,H b=some (.tup xs)->H' b=some (.tup xs)
 frzs:∀b o u,H b=some (.frz o u)->H' b=some (.frz o u)
 tbls:∀b ps,H b=some (.tbl ps)->∃more,H' b=some (.tbl (ps++more))
section
variable{fs fs' ex ex':List Addr}{H H1:Hp}{h h1 h':Heap}{a x e:Addr}{o:HO}
def Un.any(u:Un fs ex H H1 h h1)(q:h.get? b=some ob)(n:H b=none)(hx:b∉ex):∃sl,h1.get? b=some {ob with slots:=sl}:=by
 by_cases hb:b∈fs
 .exact u.slot b ob q n hb hx
 .exact⟨ob.slots,u.keep b ob q n hb hx⟩
def Un.kept(k:∀b u,h.get? b=some u->h'.get? b=some u):Un fs ex H H h h':=
 ⟨λ b ob q _ _ _=>k b ob q,λ b ob q _ _ _=>⟨ob.slots,k b ob q⟩,λ _ _ _ n _=>n,λ b ob q _=>⟨ob,k b ob q⟩,λ _ _ q=>q,λ _ _ _ q=>q,λ _ ps q=>⟨#[],by rw[q];simp⟩⟩
def Un.refl:Un fs ex H H h h:=Un.kept λ _ _ q=>q
def Un.laid(k:∀b u,h.get? b=some u->h'.get? b=some u)(hp:h.objs.size<=a)(hn:H a=none):Un fs ex H (upd H a o) h h' where
 keep:=λ b u q _ _ _=>k b u q
 slot:=λ b u q _ _ _=>⟨u.slots,k b u q⟩
 free:=λ b u q n _=>by rw[aQ (zAk (zAQ (zAW q) hp))];exact n
 there:=λ b u q _=>⟨u,k b u q⟩
 tups:=λ b xs q=>by rw[aQ (bL q hn)];exact q
 frzs:=λ b u xs q=>by rw[aQ (bL q hn)];exact q
 tbls:=λ b ps q=>⟨#[],by rw[aQ (bL q hn),q];simp⟩
def Un.write(mu:Mut (H x))(he:e=x\/H e=some (.own x))(k:∀b u,b≠e->h.get? b=some u->h'.get? b=some u)(heo:∃u,h'.get? e=some u):Un fs ex H (upd H x o) h h':=by
 have hx:∀b,H b=none->b≠x:=λ b n z=>by subst z;rw[n]at mu;exact mu
 have hb:∀b,H b=none->b≠e:=λ b n z=>by
  subst z;rcases he with r|r
  .exact hx b n r
  .rw[n]at r;cases r
 have hm:∀b u,H b=some u->¬Mut (some u)->b≠x:=λ b u q nm z=>by subst z;rw[q]at mu;exact nm mu
 refine⟨λ b u q n _ _=>k b u (hb b n) q,λ b u q n _ _=>⟨u.slots,k b u (hb b n) q⟩,λ b u q n _=>by rw[aQ (hx b n)];exact n,λ b u q _=>?_,
  λ b xs q=>by rw[aQ (hm b _ q λ z=>z)];exact q,λ b u xs q=>by rw[aQ (hm b _ q λ z=>z)];exact q,λ b ps q=>⟨#[],by rw[aQ (hm b _ q λ z=>z),q];simp⟩⟩
 by_cases hbe:b=e
 .subst hbe;exact heo
 .exact⟨u,k b u hbe q⟩
def Un.mono(u:Un fs ex H H1 h h1)(hs:∀b∈fs,b∈fs')(hx:∀b∈ex,b∈ex'):Un fs' ex' H H1 h h1:=
 ⟨λ b ob q n hb he=>u.keep b ob q n (λ z=>hb (hs b z)) λ z=>he (hx b z),λ _ _ q n _ he=>u.any q n λ z=>he (hx _ z),λ b ob q n he=>u.free b ob q n λ z=>he (hx b z),λ b ob q he=>u.there b ob q λ z=>he (hx b z),u.tups,u.frzs,u.tbls⟩
end
def trk(h:Heap)(H:Hp):List Addr:=(zBG h.objs.size).filter λ a=>(H a).isSome
def aBk(h:Heap)(H:Hp):Heap:=zBh h (trk h H)
def aAB(h:Heap)(H:Hp):(aBk h H).objs.size=h.objs.size:=zD1 _ _
def aBj(e:h.get? b=some o)(n:H b=none):(aBk h H).get? b=some o:=
 zBy _ e λ hm=>by
  have q:(H b).isSome=true:=(zD4.mp hm).2;rw[n]at q;simp at q
def aDI(e:(aBk h H).get? b=some o):h.get? b=some o/\H b=none:=by
 have e':h.get? b=some o:=zDF (trk h H) e;refine⟨e',?_⟩;cases q:H b with
 |none=>rfl
 |some x=>
  have hm:b∈trk h H:=zD4.mpr ⟨zBs.mpr (zAW e'),by simp[q]⟩;have z:(aBk h H).get? b=none:=zD0 (trk h H) hm;rw[z]at e;cases e
def aDd(g h:Heap)(L:Addr):List (Addr×Obj):=(zBG h.objs.size).filterMap λ a=>if a=L\/(g.get? a).isSome=true then none else(h.get? a).map λ o=>(a,o)
def rest(g h:Heap)(L d:Addr):List (Addr×Obj):=(aDd g h L).filter λ p=>decide (p.1≠d)
structure Mod(K:zAA)(mg:Str->Option Value)(base:Heap):Prop where
 kin:K.In base
 glob:base.Ns zAX mg
 blt:∃mb,base.Ns zGq mb/\∀x:Str,x≠"__name__"->mb x=zB5 x
 nolimit:base.NoLimit
structure Cx where
 prog:zAS
 w:World
 K:zAA
 mg:Str->Option Value
 base:Heap
 A:zA8
 N:List Str
 z5:zAB
 z0:Hp
 env:Env
 outer:List Env
 stack:List Env
 ex:List Addr
 fn:Str->Bool
 calm:Bool
 pn:List (Addr×Obj)
 xe:Value->zAB->Prop
 ta:List (Addr×Obj):=[]
 tq:Str:=""
def frs(l:List Env):List Addr:=l.filterMap (·.frame)
abbrev Cx.fs(X:Cx):List Addr:=frs X.outer
def Vis(sc:Scope)(x:Str):Prop:=sc.names.lookup x=some .local\/sc.names.lookup x=some .cell\/sc.names.lookup x=some .free
def Loc(sc:Scope)(x:Str):Prop:=sc.names.lookup x=some .local\/sc.names.lookup x=some .cell
def Look(env:Env)(h:Heap)(m:Str->Option Value)(x:Str)(u:Value):Prop:=
 (env.kindOf x=some .local/\m x=some u)\/((env.kindOf x=some .cell\/env.kindOf x=some .free)/\∃c,env.cells.lookup x=some c/\h.IsCell c (some u))
structure Cx.Ok(X:Cx):Prop where
 mod:Mod X.K X.mg X.base
 kind:X.env.scope.kind= .function
 glob:X.env.globals=zAX
 blt:X.env.builtins=zGq
 above:X.z5.heap.objs.size<=X.env.locals
 inj:∀x y c,X.env.cells.lookup x=some c->X.env.cells.lookup y=some c->x=y
 has:∀x,(X.env.kindOf x=some .cell\/X.env.kindOf x=some .free)->∃c,X.env.cells.lookup x=some c
 cab:∀x c,X.fn x=true->X.env.cells.lookup x=some c->X.z5.heap.objs.size<=c
 hd:X.calm=true->X.A.handled=none
 frames:X.A.frames=some X.stack
 stk:X.stack=X.outer\/(X.stack=X.env::X.outer/\X.env.frame=some X.env.locals)
 exf:∀b∈X.ex,b≠X.env.locals/\∀x c,X.env.cells.lookup x=some c->c≠b
 bs:∀b o,X.base.get? b=some o->X.z5.heap.get? b=some o/\X.z0 b=none
 bsz:X.base.objs.size<=X.z5.heap.objs.size
 noex:∀b o,X.base.get? b=some o->b∉X.ex
 exfs:∀b∈X.ex,b∉X.fs
 funs:X.z5.heap.FunFrames X.base X.outer
 frf:∀b∈X.fs,X.z0 b=none
def aEP(q:Str)(oc:Obj):Prop:=∃vs t,oc.data= .fields vs/\vs[1]? =some (.str q t)
def TabOk(q:Str)(H:Hp)(ps:Array Value):Prop:=TriplesOk ps.toList/\∀pos cv,zEZ pos ps.toList=some cv->∃c' oc,cv= .ref c'/\H c'=some (.frz oc (.own c'))/\aEP q oc
def TabOk.mono(t:TabOk q H ps)(f:∀b o u,H b=some (.frz o u)->H' b=some (.frz o u)):TabOk q H' ps:=⟨t.1,λ pos cv hc=>let⟨c',oc,z,a,b⟩:=t.2 pos cv hc;⟨c',oc,z,f _ _ _ a,b⟩⟩
structure Inv(X:Cx)(pins:List (Addr×Obj))(Z:List (Option V))(H:Hp)(s:zAB):Prop where
 ok:X.Ok
 os:s.os=X.z5.os
 bare:zDp s.gens
 base:Un X.fs X.ex X.z0 H X.z5.heap s.heap
 loc:∃m,s.heap.Ns X.env.locals m/\∀(i:Nat) (x:Str) (v:V),X.N[i]? =some x->Z[i]? =some (some v)->Vis X.env.scope x->∃u,RelV v u/\Look X.env s.heap m x u
 cell:∀x c,X.env.cells.lookup x=some c->∃v,s.heap.IsCell c v
 free:H X.env.locals=none
 freeC:∀x c,X.env.cells.lookup x=some c->H c=none
 pin:∀p∈X.pn++pins,s.heap.get? p.1=some p.2/\H p.1=none/\p.1≠X.env.locals/\p.1∉X.fs/\∀v,p.2.data≠.cell v
 hok:HOk X.prog X.w H s.heap
 len:Z.length=X.N.length
 tab:∀p∈X.ta,H p.1=none/\p.1≠X.env.locals/\p.1∉X.fs/\(∀q∈X.pn++pins,q.1≠p.1)/\∃ps,s.heap.get? p.1=some {cls:=.none,data:=.fields ps}/\TabOk X.tq H ps
section
variable{X:Cx}{pins:List (Addr×Obj)}{Z:List (Option V)}{H H':Hp}{s:zAB}{h':Heap}
def Cx.Ok.nofr(ok:X.Ok)(e:X.base.get? b=some o):b∉X.fs:=λ hb=>by
 have:=(ok.funs.mem hb).1
 rw[e]at this;cases this
theorem Inv.bs(I:Inv X pins Z H s):∀b o,X.base.get? b=some o->s.heap.get? b=some o/\H b=none:=λ b o e=>
 ⟨I.base.keep b o (I.ok.bs b o e).1 (I.ok.bs b o e).2 (I.ok.nofr e) (I.ok.noex b o e),I.base.free b o (I.ok.bs b o e).1 (I.ok.bs b o e).2 (I.ok.noex b o e)⟩
def Inv.bk(I:Inv X pins Z H s):∀b o,X.base.get? b=some o->s.heap.get? b=some o:=λ b o e=>(I.bs b o e).1
theorem Inv.mod(I:Inv X pins Z H s):Mod X.K X.mg X.base:=I.ok.mod
def Inv.kIn(I:Inv X pins Z H s):X.K.In s.heap:=I.ok.mod.kin.keeps I.bk
def Inv.fr(I:Inv X pins Z H s):∃m,Fr X.base X.env.locals s.heap m:=
 let⟨m,hn,_⟩:=I.loc
 ⟨m,hn,I.bk,zAr I.ok.bsz I.ok.above⟩
theorem Inv.lt(I:Inv X pins Z H s):X.env.locals<s.heap.objs.size:=let⟨_,hn,_⟩:=I.loc;hn.lt
def Inv.sz(I:Inv X pins Z H s):X.z5.heap.objs.size<=s.heap.objs.size:=zAr I.ok.above (zCL I.lt)
def Inv.nofs(I:Inv X pins Z H s)(h:s.heap.objs.size<=a):a∉X.fs:=λ hb=>by
 obtain⟨_,o,ho,_⟩:=I.ok.funs.mem hb;exact absurd (zAQ (zAW ho) (zAr I.sz h)) (zBg _)
def Inv.cne(I:Inv X pins Z H s):∀x c,X.env.cells.lookup x=some c->c≠X.env.locals:=λ x c e z=>by
 obtain⟨v,o,ho,hd⟩:=I.cell x c e;obtain⟨m,⟨o',es,ep,ho',hd',_⟩,_⟩:=I.loc;rw[z,ho']at ho;cases ho;rw[hd']at hd;cases hd
theorem Inv.funs(I:Inv X pins Z H s):s.heap.FunFrames X.base X.outer:=by
 have all:∀(l:List Env),(∀b∈frs l,b∈X.fs)->X.z5.heap.FunFrames X.base l->s.heap.FunFrames X.base l:=by
  intro l;induction l with
  |nil=>intro _ _;trivial
  |cons env r ih=>
   intro hs hl;obtain⟨hk,⟨L,o,hf,hn,ho,hd⟩,hr⟩:=hl;have hL:L∈X.fs:=hs L (by unfold frs;rw[zBi,hf];exact zAU);obtain⟨sl,e⟩:=I.base.slot L o ho (I.ok.frf L hL) hL λ z=>I.ok.exfs L z hL
   exact⟨hk,⟨L,_,hf,hn,e,hd⟩,ih (λ b hb=>hs b (by unfold frs;rw[zBi,hf];exact zAb _ hb)) hr⟩
 exact all X.outer (λ _ hb=>hb) I.ok.funs
theorem Inv.stack(I:Inv X pins Z H s):s.heap.FunFrames X.base X.stack:=by
 rcases I.ok.stk with e|⟨e,hf⟩
 .rw[e];exact I.funs
 .rw[e]
  obtain⟨m,hn,_⟩:=I.loc;refine .cons (by rw[I.ok.kind];decide) hf hn ?_ I.funs;exact Heap.get?_none_of_le (zAr I.ok.bsz I.ok.above)
def Inv.stkSub(I:Inv X pins Z H s):∀b∈frs X.stack,b∈X.env.locals::X.fs:=λ b hb=>by
 rcases I.ok.stk with e|⟨e,hf⟩
 .rw[e]at hb;exact zAb _ hb
 .rw[e]at hb
  unfold frs at hb;rw[zBi,hf]at hb;exact hb
def Inv.stkFree(I:Inv X pins Z H s):∀b∈frs X.stack,H b=none:=λ b hb=>by
 rcases zAZ.mp (I.stkSub b hb)with e|hb
 .rw[e];exact I.free
 .obtain⟨_,o,ho,_⟩:=I.ok.funs.mem hb
  exact I.base.free b o ho (I.ok.frf b hb) λ z=>I.ok.exfs b z hb
def Inv.step{g':Array zEz}{t':Nat}{d':Drawn}{ch:List Addr}(I:Inv X pins Z H s)
  (hch:∀b∈ch,(b∈X.ex\/X.z5.heap.objs.size<=b)/\b≠X.env.locals/\(∀x c,X.env.cells.lookup x=some c->c≠b)/\∀p∈X.ta++(X.pn++pins),p.1≠b)
  (keep:∀b o,b≠X.env.locals->b∉X.fs->b∉ch->s.heap.get? b=some o->H b=none->h'.get? b=some o)
  (slot:∀b o,b≠X.env.locals->b∈X.fs->b∉ch->s.heap.get? b=some o->H b=none->∃sl,h'.get? b=some {o with slots:=sl})(free:∀b o,b∉ch->s.heap.get? b=some o->H b=none->H' b=none)
  (there:∀b o,b∉ch->s.heap.get? b=some o->∃o',h'.get? b=some o')
  (tups:∀b xs,H b=some (.tup xs)->H' b=some (.tup xs))(frzs:∀b o u,H b=some (.frz o u)->H' b=some (.frz o u))(tbls:∀b ps,H b=some (.tbl ps)->∃more,H' b=some (.tbl (ps++more)))
  (ns:∀m,s.heap.Ns X.env.locals m->h'.Ns X.env.locals m)(hok:HOk X.prog X.w H' h')(hg:zDp g'):
  Inv X pins Z H' {s with heap:=h',gens:=g',drawn:=d',toks:=t'}:=by
 have neL:∀b o,X.z5.heap.get? b=some o->b≠X.env.locals:=λ b o e=>zAk (zAQ (zAW e) I.ok.above)
 have neC:∀b o,X.z5.heap.get? b=some o->b∉X.ex->b∉ch:=λ b o e hx hb=>by
  rcases(hch b hb).1 with z|z
  .exact hx z
  .exact absurd (zAQ (zAW e) z) (zBg _)
 have cellK:∀x c,X.env.cells.lookup x=some c->∀v,s.heap.IsCell c v->h'.IsCell c v:=λ x c e v ⟨o,ho,hd⟩=>by
  have nch:c∉ch:=λ z=>(hch c z).2.2.1 x c e rfl
  by_cases hc:c∈X.fs
  .obtain⟨sl,q⟩:=slot c o (I.cne x c e) hc nch ho (I.freeC x c e)
   exact⟨_,q,hd⟩
  .exact⟨o,keep c o (I.cne x c e) hc nch ho (I.freeC x c e),hd⟩
 refine⟨I.ok,I.os,hg,⟨λ b o e n hb hx=>?_,λ b o e n hb hx=>?_,λ b o e n hx=>?_,λ b o e hx=>?_,λ b xs e=>tups b xs (I.base.tups b xs e),λ b o xs e=>frzs b o xs (I.base.frzs b o xs e),λ b ps e=>?_⟩,?_,λ x c e=>?_,?_,λ x c e=>?_,λ p hp=>?_,hok,I.len,λ p hp=>?_⟩
 .exact keep b o (neL b o e) hb (neC b o e hx) (I.base.keep b o e n hb hx) (I.base.free b o e n hx)
 .obtain⟨sl,e1⟩:=I.base.slot b o e n hb hx
  obtain⟨sl',e2⟩:=slot b _ (neL b o e) hb (neC b o e hx) e1 (I.base.free b o e n hx);exact⟨sl',e2⟩
 .obtain⟨o',e1⟩:=I.base.there b o e hx
  exact free b o' (neC b o e hx) e1 (I.base.free b o e n hx)
 .obtain⟨o',e1⟩:=I.base.there b o e hx
  exact there b o' (neC b o e hx) e1
 .obtain⟨m1,e1⟩:=I.base.tbls b ps e
  obtain⟨m2,e2⟩:=tbls b _ e1;exact⟨m1++m2,by rw[e2,zF5]⟩
 .obtain⟨m,hn,hl⟩:=I.loc
  refine⟨m,ns m hn,λ i x v e1 e2 e3=>?_⟩;obtain⟨u,r,l⟩:=hl i x v e1 e2 e3;refine⟨u,r,?_⟩;rcases l with l|⟨k,c,e,z⟩
  .exact .inl l
  .exact .inr ⟨k,c,e,cellK x c e _ z⟩
 .obtain⟨v,z⟩:=I.cell x c e
  exact⟨v,cellK x c e v z⟩
 .obtain⟨m,⟨o,_,_,ho,_⟩,_⟩:=I.loc
  exact free _ o (λ z=>(hch _ z).2.1 rfl) ho I.free
 .obtain⟨v,o,ho,hd⟩:=I.cell x c e
  exact free c o (λ z=>(hch c z).2.2.1 x c e rfl) ho (I.freeC x c e)
 .obtain⟨e,n,ne,nf,d⟩:=I.pin p hp
  have nch:p.1∉ch:=λ z=>(hch p.1 z).2.2.2 p (zA0 _ hp) rfl
  exact⟨keep p.1 p.2 ne nf nch e n,free p.1 p.2 nch e n,ne,nf,d⟩
 .obtain⟨n,ne,nf,np,ps,e,t⟩:=I.tab p hp
  have nch:p.1∉ch:=λ z=>(hch p.1 z).2.2.2 p (zAa _ hp) rfl
  exact⟨free p.1 _ nch e n,ne,nf,np,ps,keep p.1 _ ne nf nch e n,t.mono frzs⟩
def Inv.pinL(I:Inv X pins Z H s)(hp:p∈X.ta++(X.pn++pins)):p.1<s.heap.objs.size:=by
 rcases zAs.mp hp with z|z
 .obtain⟨_,_,_,_,_,e,_⟩:=I.tab p z
  exact zAW e
 .exact zAW (I.pin p z).1
def Inv.un{t':Nat}(I:Inv X pins Z H s)(u:Un X.fs [] H H' s.heap h')(hok:HOk X.prog X.w H' h'):Inv X pins Z H' {s with heap:=h',toks:=t'}:=by
 obtain⟨m,⟨o,es,ep,ho,r⟩,_⟩:=id I.loc;obtain⟨sl,hL⟩:=u.any ho I.free (by simp);exact I.step (g':=s.gens) (d':=s.drawn) (ch:=[]) (λ _ z=>nomatch z) (λ b o _ hb _ e n=>u.keep b o e n hb (by simp)) (λ b o _ hb _ e n=>u.slot b o e n hb (by simp)) (λ b o _ e n=>u.free b o e n (by simp)) (λ b o _ e=>u.there b o e (by simp)) u.tups u.frzs u.tbls (λ m' hm=>by
  obtain⟨o',es',ep',ho',r'⟩:=hm;rw[ho]at ho';cases ho';exact⟨_,es',ep',hL,r'⟩) hok I.bare
def Inv.call{g':Array zEz}{t':Nat}{d':Drawn}{ch:List Addr}(I:Inv X pins Z H s)(u:Un (frs X.stack) ch H H' s.heap h')(hok:HOk X.prog X.w H' h')(hg:zDp g')
  (hch:∀b∈ch,(b∈X.ex\/X.z5.heap.objs.size<=b)/\b≠X.env.locals/\(∀x c,X.env.cells.lookup x=some c->c≠b)/\∀p∈X.ta++(X.pn++pins),p.1≠b):
  Inv X pins Z H' {s with heap:=h',gens:=g',drawn:=d',toks:=t'}:=by
 obtain⟨m,⟨o,es,ep,ho,r⟩,_⟩:=id I.loc;obtain⟨sl,hL⟩:=u.any ho I.free λ z=>(hch _ z).2.1 rfl
 exact I.step (ch:=ch) hch (λ b o hL hb hc e n=>u.keep b o e n (λ z=>(zAZ.mp (I.stkSub b z)).elim hL hb) hc) (λ b o _ _ hc e n=>u.any e n hc) (λ b o hc e n=>u.free b o e n hc) (λ b o hc e=>u.there b o e hc) u.tups u.frzs u.tbls (λ m' hm=>by
  obtain⟨o',es',ep',ho',r'⟩:=hm;rw[ho]at ho';cases ho';exact⟨_,es',ep',hL,r'⟩) hok hg
def Inv.turned{t':Nat}{it:Addr}(I:Inv X pins Z H s)(k:∀b o,b≠it->s.heap.get? b=some o->h'.get? b=some o)(hn:H it=none)(hL:it≠X.env.locals)
  (h1:it∈X.ex\/X.z5.heap.objs.size<=it)(h2:∀x c,X.env.cells.lookup x=some c->c≠it)(h3:∀p∈X.ta++(X.pn++pins),p.1≠it):Inv X pins Z H {s with heap:=h',toks:=t'}:=by
 have nit:∀b u,H b=some u->b≠it:=λ b u e z=>by rw[z,hn]at e;cases e
 refine I.step (g':=s.gens) (d':=s.drawn) (ch:=[it]) (λ b hb=>?_) (λ b o _ _ hc e _=>k b o (λ z=>hc (by simp[z])) e) (λ b o _ _ hc e _=>⟨o.slots,k b o (λ z=>hc (by simp[z])) e⟩) (λ _ _ _ _ n=>n)
  (λ b o hc e=>⟨o,k b o (λ z=>hc (by simp[z])) e⟩) (λ _ _ e=>e) (λ _ _ _ e=>e) (λ b ps e=>⟨#[],by rw[e];simp⟩) (λ m hm=>?_) (λ b u e=>?_) I.bare
 .have e:b=it:=by simpa using hb
  subst e;exact⟨h1,hL,h2,h3⟩
 .obtain⟨o,es,ep,ho,r⟩:=hm
  exact⟨o,es,ep,k _ o (zDx hL) ho,r⟩
 .refine(I.hok b u e).stay (λ c v hc q=>k c v ?_ q) (λ _ q=>q) λ _ _ q=>q
  rcases hc with z|z
  .rw[z];exact nit b u e
  .exact nit c _ z
def Inv.tok(I:Inv X pins Z H s)(t:Nat):Inv X pins Z H {s with toks:=t}:=I.un (h':=s.heap) (t':=t) Un.refl I.hok
theorem Inv.kept(I:Inv X pins Z H s)(k:∀b u,s.heap.get? b=some u->h'.get? b=some u):Inv X pins Z H {s with heap:=h',toks:=t'}:=I.un (Un.kept k) (I.hok.kept k)
theorem Inv.laid(I:Inv X pins Z H s)(k:∀b u,s.heap.get? b=some u->h'.get? b=some u)(hp:s.heap.objs.size<=a)(new:cH X.prog X.w (upd H a o) h' a o):
  Inv X pins Z (upd H a o) {s with heap:=h',toks:=t'}:=I.un (Un.laid k hp (I.hok.fresh hp)) (I.hok.laid k hp new)
theorem Inv.write(I:Inv X pins Z H s)(mu:Mut (H x))(he:e=x\/H e=some (.own x))(k:∀b u,b≠e->s.heap.get? b=some u->h'.get? b=some u)(heo:∃u,h'.get? e=some u)
  (new:cH X.prog X.w (upd H x o) h' x o):Inv X pins Z (upd H x o) {s with heap:=h',toks:=t'}:=I.un (Un.write mu he k heo) (I.hok.write mu he k heo new)
def Inv.weak(I:Inv X pins Z H s)(hl:Z'.length=Z.length)(w:∀(i:Nat) v,Z'[i]? =some (some v)->Z[i]? =some (some v)):Inv X pins Z' H s:=
 ⟨I.ok,I.os,I.bare,I.base,let⟨m,hn,hl'⟩:=I.loc;⟨m,hn,λ i x v e1 e2 e3=>hl' i x v e1 (w i v e2) e3⟩,I.cell,I.free,I.freeC,I.pin,I.hok,hl.trans I.len,I.tab⟩
def Inv.pins_of(I:Inv X pins Z H s)(h:∀p∈pins',s.heap.get? p.1=some p.2/\H p.1=none/\p.1≠X.env.locals/\p.1∉X.fs/\∀v,p.2.data≠.cell v)(h2:∀q∈pins',∀p∈X.ta,q.1≠p.1):Inv X pins' Z H s:=
 ⟨I.ok,I.os,I.bare,I.base,I.loc,I.cell,I.free,I.freeC,λ p hp=>(zAs.mp hp).elim (λ z=>I.pin p (zAa _ z)) (h p),I.hok,I.len,λ p hp=>let⟨a,b,c,d,e⟩:=I.tab p hp;⟨a,b,c,λ q hq=>(zAs.mp hq).elim (λ z=>d q (zAa _ z)) (λ z=>h2 q z p hp),e⟩⟩
def qG{N:List Str}(hN:N.Nodup){i j:Nat}{x:Str}(a:N[i]? =some x)(b:N[j]? =some x):i=j:=by
 obtain⟨h1,e1⟩:=zA4.mp a;obtain⟨h2,e2⟩:=zA4.mp b;exact(List.getElem_inj hN).mp (e1.trans e2.symm)
def zQ{M:Model}{A:zA8}{E:Value->zAB->Prop}{i:Nat}{x:Str}{v:V}{u:Value}{Q:Unit->zAB->Prop}(I:Inv X pins Z H s)(hN:X.N.Nodup)(hi:X.N[i]? =some x)(hx:Loc X.env.scope x)(r:RelV v u)
  (h:∀s',Inv X pins (Z.set i (some v)) H s'->(∃a,zFP a s.heap s'.heap/\(a=X.env.locals\/X.env.cells.lookup x=some a))->Q () s')(hf:X.fn x=true\/X.env.scope.names.lookup x=some .local:=by first|exact .inl rfl|exact .inr rfl|assumption):wpAny M A (storeName X.env x u) Q E s:=by
 obtain⟨m,hn,hl⟩:=id I.loc;have hcls:(X.env.scope.kind== .class||(X.env.scope.kind== .module&&X.env.locals !=X.env.globals))=false:=by rw[I.ok.kind];rfl
 have hiZ:i<Z.length:=by rw[I.len];exact(zA4.mp hi).1
 have cne:=I.cne;have tracked:∀{a:Addr} {h':Heap},(∃o,s.heap.get? a=some o/\H a=none)->zFP a s.heap h'->HOk X.prog X.w H h':=λ{a h'} ha hs b ob e=>by
  obtain⟨_,_,hfree⟩:=ha;refine(I.hok b ob e).stay (λ c w' hc q=>(hs.2 c ?_).trans q) (λ _ q=>q) λ _ _ q=>q
  rintro rfl;rcases hc with rfl|hc
  .rw[hfree]at e;cases e
  .rw[hfree]at hc;cases hc
 rcases hx with hk|hk
 .refine wpAny_storeName_local hk hn (λ h' hn' hs=>?_) hcls
  obtain⟨oL,_,_,hoL,_⟩:=id hn;refine h _ ⟨I.ok,I.os,I.bare,⟨λ b o e n hb hx=>?_,λ b o e n hb hx=>?_,I.base.free,λ b o e hx=>?_,I.base.tups,I.base.frzs,I.base.tbls⟩,⟨_,hn',λ j y v' e1 e2 e3=>?_⟩,λ y c e=>?_,I.free,I.freeC,λ p hp=>?_,tracked ⟨oL,hoL,I.free⟩ hs,by simpa using I.len,λ p hp=>?_⟩ ⟨_,hs,.inl rfl⟩
  .exact(hs.2 b (zAk (zAQ (zAW e) I.ok.above))).trans (I.base.keep b o e n hb hx)
  .obtain⟨sl,e1⟩:=I.base.slot b o e n hb hx
   exact⟨sl,(hs.2 b (zAk (zAQ (zAW e) I.ok.above))).trans e1⟩
  .obtain⟨o',e1⟩:=I.base.there b o e hx
   exact⟨o',(hs.2 b (zAk (zAQ (zAW e) I.ok.above))).trans e1⟩
  .by_cases hj:j=i
   .subst hj
    rw[hi]at e1;cases e1;rw[zCD hiZ]at e2;cases e2;exact⟨u,r,.inl ⟨hk,by simp⟩⟩
   .rw[zBc (zDx hj)]at e2
    obtain⟨u',r',q⟩:=hl j y v' e1 e2 e3;refine⟨u',r',?_⟩;rcases q with ⟨k,e⟩|⟨k,c,e,z⟩
    .refine .inl ⟨k,?_⟩
     have:y≠x:=λ e=>hj (qG hN e1 (e▸hi))
     simp[this,e]
    .exact .inr ⟨k,c,e,z.sameBut hs (cne y c e)⟩
  .obtain⟨w',z⟩:=I.cell y c e
   exact⟨w',z.sameBut hs (cne y c e)⟩
  .obtain⟨e,n,ne,nf,d⟩:=I.pin p hp
   exact⟨(hs.2 p.1 ne).trans e,n,ne,nf,d⟩
  .obtain⟨n,ne,nf,np,ps,e,t⟩:=I.tab p hp
   exact⟨n,ne,nf,np,ps,(hs.2 p.1 ne).trans e,t⟩
 .have hfn:X.fn x=true:=by
   rcases hf with z|z
   .exact z
   .rw[z]at hk;cases hk
  obtain⟨c,hc⟩:=I.ok.has x (.inl hk);obtain⟨w',z⟩:=I.cell x c hc;refine wpAny_storeName_cell I.ok.kind hk hc z (λ h' hc' hs=>?_);obtain⟨oc,hoc,hocd⟩:=id z;refine h {s with heap:=h'} ⟨I.ok,I.os,I.bare,⟨λ b o e n hb hx=>?_,λ b o e n hb hx=>?_,I.base.free,λ b o e hx=>?_,I.base.tups,I.base.frzs,I.base.tbls⟩,⟨m,hn.sameBut hs (zDx (cne x c hc)),λ j y v' e1 e2 e3=>?_⟩,λ y c' e=>?_,I.free,I.freeC,λ p hp=>?_,tracked ⟨oc,hoc,I.freeC x c hc⟩ hs,by simpa using I.len,λ p hp=>?_⟩ ⟨c,hs,.inr hc⟩
  .exact(hs.2 b (zAk (zAQ (zAW e) (I.ok.cab x c hfn hc)))).trans (I.base.keep b o e n hb hx)
  .obtain⟨sl,e1⟩:=I.base.slot b o e n hb hx
   exact⟨sl,(hs.2 b (zAk (zAQ (zAW e) (I.ok.cab x c hfn hc)))).trans e1⟩
  .obtain⟨o',e1⟩:=I.base.there b o e hx
   exact⟨o',(hs.2 b (zAk (zAQ (zAW e) (I.ok.cab x c hfn hc)))).trans e1⟩
  .by_cases hj:j=i
   .subst hj
    rw[hi]at e1;cases e1;rw[zCD hiZ]at e2;cases e2;exact⟨u,r,.inr ⟨.inl hk,c,hc,hc'⟩⟩
   .rw[zBc (zDx hj)]at e2
    obtain⟨u',r',q⟩:=hl j y v' e1 e2 e3;refine⟨u',r',?_⟩;rcases q with q|⟨k,c',e,z'⟩
    .exact .inl q
    .refine .inr ⟨k,c',e,z'.sameBut hs ?_⟩
     rintro rfl;exact hj (qG hN e1 (I.ok.inj _ _ _ e hc▸hi))
  .by_cases hcc:c'=c
   .subst hcc;exact⟨_,hc'⟩
   .obtain⟨w2,z2⟩:=I.cell y c' e
    exact⟨w2,z2.sameBut hs hcc⟩
  .obtain⟨e,n,ne,nf,d⟩:=I.pin p hp
   refine⟨(hs.2 p.1 ?_).trans e,n,ne,nf,d⟩;intro q;rw[q,hoc]at e;have q':oc=p.2:=zAf e;exact d w' (by rw[<-q'];exact hocd)
  .obtain⟨n,ne,nf,np,ps,e,t⟩:=I.tab p hp
   refine⟨n,ne,nf,np,ps,(hs.2 p.1 ?_).trans e,t⟩;intro q;rw[q,hoc]at e;rw[zAf e]at hocd;cases hocd
def lU(I:Inv X pins Z H s)(hN:X.N.Nodup)(hi:X.N[i]? =some x)(hx:Loc X.env.scope x)(r:RelV v u)
  (h:∀s',Inv X pins (Z.set i (some v)) H s'->Q () s')(hf:X.fn x=true\/X.env.scope.names.lookup x=some .local:=by first|exact .inl rfl|exact .inr rfl|assumption):wpAny M A (storeName X.env x u) Q E s:=
 zQ I hN hi hx r (λ s' I' _=>h s' I') hf
def Inv.call'(I:Inv X pins Z H s)(ho:s'.os=s.os)(u:Un (frs X.stack) ch H H' s.heap s'.heap)(hok:HOk X.prog X.w H' s'.heap)(hg:zDp s'.gens)
  (hch:∀b∈ch,(b∈X.ex\/X.z5.heap.objs.size<=b)/\b≠X.env.locals/\(∀x c,X.env.cells.lookup x=some c->c≠b)/\∀p∈X.ta++(X.pn++pins),p.1≠b):Inv X pins Z H' s':=by
 obtain⟨h',g',d',t',o'⟩:=s';have e:o'=s.os:=ho;subst e;exact I.call (g':=g') (t':=t') (d':=d') u hok hg hch
end
abbrev XK:=Value->Option Addr->Hp->Prop
abbrev St:=List (Option V)
abbrev VK:=V->Hp->Prop
abbrev TE:=St->Hp->VK->Prop
abbrev TT:=St->Hp->(Bool->Hp->Prop)->Prop
abbrev TA:=St->Hp->(List V->Hp->Prop)->Prop
structure Ends where
 nx:St->Hp->Prop
 rt:VK
 bk:St->Hp->Prop:=λ _ _=>False
 ct:St->Hp->Prop:=λ _ _=>False
abbrev TS:=Ends->St->Hp->Prop
def EP(X:Cx)(pins:List (Addr×Obj))(Z:St)(Q:VK)(u:Value)(s':zAB):Prop:=∃v H',Inv X pins Z H' s'/\RelV v u/\Q v H'
def TP(X:Cx)(pins:List (Addr×Obj))(Z:St)(Q:Bool->Hp->Prop)(b:Bool)(s':zAB):Prop:=∃H',Inv X pins Z H' s'/\Q b H'
def AP(X:Cx)(pins:List (Addr×Obj))(Z:St)(Q:List V->Hp->Prop)(us:List Value)(s':zAB):Prop:=∃vs H',Inv X pins Z H' s'/\Vals vs us/\Q vs H'
def SP(X:Cx)(pins:List (Addr×Obj))(D:Ends)(f:Flow)(s':zAB):Prop:=
 match f with
 | .next=>∃Z' H',Inv X pins Z' H' s'/\D.nx Z' H'
 | .brk=>∃Z' H',Inv X pins Z' H' s'/\D.bk Z' H'
 | .cont=>∃Z' H',Inv X pins Z' H' s'/\D.ct Z' H'
 | .ret u=>∃v Z' H',Inv X pins Z' H' s'/\RelV v u/\D.rt v H'
def PE(X:Cx)(e:Expr)(t:TE):Prop:=
 ∀(pins:List (Addr×Obj)) (s:zAB) (Z:St) (H:Hp) (Q:VK),Inv X pins Z H s->t Z H Q->wpAny (model X.prog X.w) X.A (eval e X.env) (EP X pins Z Q) X.xe s
def PT(X:Cx)(e:Expr)(t:TT):Prop:=
 ∀(pins:List (Addr×Obj)) (s:zAB) (Z:St) (H:Hp) (Q:Bool->Hp->Prop),Inv X pins Z H s->t Z H Q->wpAny (model X.prog X.w) X.A (isTrue e X.env (eval e X.env)) (TP X pins Z Q) X.xe s
def PW(X:Cx)(e:Expr)(t:TT):Prop:=
 ∀(whole:Sem Value) (pins:List (Addr×Obj)) (s:zAB) (Z:St) (H:Hp) (Q:Bool->Hp->Prop),Inv X pins Z H s->t Z H Q->wpAny (model X.prog X.w) X.A (isTrue e X.env whole) (TP X pins Z Q) X.xe s
def PW.pt(h:PW X e t):PT X e t:=h _
def PA(X:Cx)(es:List Expr)(t:TA):Prop:=
 ∀(pos:Pos) (pins:List (Addr×Obj)) (s:zAB) (Z:St) (H:Hp) (Q:List V->Hp->Prop),Inv X pins Z H s->t Z H Q->wpAny (model X.prog X.w) X.A (spliced (zCQ pos (zAY es X.env))) (AP X pins Z Q) X.xe s
def PS(X:Cx)(st:Stmt)(t:TS):Prop:=
 ∀(pins:List (Addr×Obj)) (s:zAB) (Z:St) (H:Hp) (D:Ends),Inv X pins Z H s->t D Z H->wpAny (model X.prog X.w) X.A (exec st X.env) (SP X pins D) X.xe s
def PSs(X:Cx)(st:List Stmt)(t:TS):Prop:=
 ∀(pins:List (Addr×Obj)) (s:zAB) (Z:St) (H:Hp) (D:Ends),Inv X pins Z H s->t D Z H->wpAny (model X.prog X.w) X.A (execs st X.env) (SP X pins D) X.xe s
def thn(h:wpAny M A t Q E s)(hQ:∀a s,Q a s->Q' a s):wpAny M A t Q' E s:=zBE h hQ λ _ _ x=>x
section
variable{X:Cx}
def bin{a b:Expr}{ta tb:TE}(ha:PE X a ta)(hb:PE X b tb){pins:List (Addr×Obj)}{s:zAB}{Z:St}{H:Hp}{R:V->V->Hp->Prop}(I:Inv X pins Z H s)(h:ta Z H λ x H1=>tb Z H1 λ y H2=>R x y H2)
  {α:Type}{Q:α->zAB->Prop}{f:Value->Value->Sem α}
  (hf:∀v u s2 x y H2,Inv X pins Z H2 s2->RelV x v->RelV y u->R x y H2->wpAny (model X.prog X.w) X.A (f v u) Q X.xe s2):
  wpAny (model X.prog X.w) X.A (eval a X.env) (λ v zS=>wpAny (model X.prog X.w) X.A (eval b X.env) (λ u z4=>wpAny (model X.prog X.w) X.A (f v u) Q X.xe z4) X.xe zS) X.xe s:=by
 refine thn (ha pins s Z H _ I h) λ v s1 ⟨x,H1,I1,r1,q1⟩=>?_
 refine thn (hb pins s1 Z H1 _ I1 q1) λ u s2 ⟨y,H2,I2,r2,q2⟩=>?_
 exact hf v u s2 x y H2 I2 r1 r2 q2
def jo(i:Nat):TE:=λ Z H Q=>∃v,Z[i]? =some (some v)/\Q v H
def tC(v:V):TE:=λ _ H Q=>Q v H
abbrev _root_.Nd(x:PySem.Str):Prop:=(x==("__debug__":PySem.Str))=false
def dq(hN:X.N[i]? =some x)(hv:Vis X.env.scope x)(hd:Nd x:=by decide)(hcd:(x==("__classdict__":Str))=false:=by decide):PE X (.Name x pos) (jo i):=by
 intro pins s Z H Q I h;obtain⟨v,e,h⟩:=h;obtain⟨m,hn,hl⟩:=I.loc;obtain⟨u,r,l⟩:=hl i x v hN e hv;have fin:EP X pins Z Q u s:=⟨v,H,I,r,h⟩;rcases l with ⟨hk,hm⟩|⟨hk,c,hc,hcell⟩
 .exact zDz (zEB I.ok.kind hk hn hm fin) hd
 .rcases hk with hk|hk
  .exact zDz (zEL I.ok.kind hk hc hcell fin) hd
  .exact zDz (zGY I.ok.kind hk hc hcell fin hcd) hd
def aBG{i j pos}:PE X (.Constant (.int i) j pos) (tC (.int i)):=λ _ _ _ H _ I h=>wpAny_Constant_int ⟨.int i,H,I.tok _,⟨_,rfl⟩,h⟩
def aBJ{b j pos}:PE X (.Constant (.bool b) j pos) (tC (.bl b)):=λ _ _ _ H _ I h=>Constant_bool ⟨.bl b,H,I,rfl,h⟩
def aEv{j pos}:PE X (.Constant .none j pos) (tC .non):=λ _ _ _ H _ I h=>Constant_none ⟨.non,H,I,rfl,h⟩
def cZ{x j pos}:PE X (.Constant (.str x) j pos) (tC (.str x)):=λ _ _ _ H _ I h=>Calls.Constant_str ⟨.str x,H,I.tok _,⟨_,rfl⟩,h⟩
def Gl(X:Cx)(x:Str):Prop:=X.env.kindOf x=some .globalImplicit
def jf(I:Inv X pins Z H s)(hg:Gl X x)(hm:X.mg x=some u)(h:Q u s)
  (hd:Nd x:=by decide):wpAny (model X.prog X.w) X.A (eval (.Name x pos) X.env) Q E s:=
 zE3 I.ok.kind hg (Calls.loadGlobal_global (by rw[I.ok.glob];exact I.mod.glob.keeps I.bk) hm h) hd
def qP(I:Inv X pins Z H s)(hg:Gl X x)(hm:X.mg x=none)(hv:zB5 x=some u)(h:Q u s)
  (hn:x≠"__name__":=by decide)(hd:Nd x:=by decide):wpAny (model X.prog X.w) X.A (eval (.Name x pos) X.env) Q E s:=by
 obtain⟨mb,h1,h2⟩:=I.mod.blt;exact zE3 I.ok.kind hg (Calls.loadGlobal_builtin (by rw[I.ok.glob];exact I.mod.glob.keeps I.bk) hm (by rw[I.ok.blt];exact h1.keeps I.bk) ((h2 x hn).trans hv) h) hd
def cO(hg:Gl X x)(hm:X.mg x=some u)(r:RelV v u)(hd:Nd x:=by decide):PE X (.Name x pos) (tC v):=
 λ _ _ _ H _ I h=>jf I hg hm ⟨v,H,I,r,h⟩ hd
def yf(hg:Gl X x)(hm:X.mg x=none)(hv:zB5 x=some u)(r:RelV v u)(hn:x≠"__name__":=by decide)(hd:Nd x:=by decide):PE X (.Name x pos) (tC v):=
 λ _ _ _ H _ I h=>qP I hg hm hv ⟨v,H,I,r,h⟩ hn hd
def t2I(ta tb:TE)(k:Int->Int->Hp->Prop):St->Hp->Prop:=λ Z H=>ta Z H λ x H1=>tb Z H1 λ y H2=>∃i j,x= .int i/\y= .int j/\k i j H2
variable{a b:Expr}{ta tb:TE}{pos:Pos}
def PC(X:Cx)(op:CmpOp)(a b:Expr)(t:TE):Prop:=
 ∀(pins:List (Addr×Obj)) (s:zAB) (Z:St) (H:Hp) (Q:VK),Inv X pins Z H s->t Z H Q->
  wpAny (model X.prog X.w) X.A (eval a X.env) (λ v zS=>wpAny (model X.prog X.w) X.A (eval b X.env) (λ u z4=>wpAny (model X.prog X.w) X.A (zB2 op v u) (EP X pins Z Q) X.xe z4) X.xe zS) X.xe s
def aBQ(b:Expr)(h:op≠.In)(h2:op≠.NotIn):zBu op b=false:=by
 have e1:(op==CmpOp.In)=false:=by cases op<;>first|rfl|exact absurd rfl h
 have e2:(op==zGh)=false:=by cases op<;>first|rfl|exact absurd rfl h2
 cases b<;>simp[zBu,e1,e2]
def aGM(p:Int->Int->Bool)(ta tb:TE):TE:=λ Z H Q=>t2I ta tb (λ i j H2=>Q (.bl (p i j)) H2) Z H
abbrev aHD:TE->TE->TE:=aGM λ i j=>!decide (i=j)
def aFB{op:CmpOp}{p:Int->Int->Bool}(ha:PE X a ta)(hb:PE X b tb)
  (rule:∀(i j:Int) (t u:Tok) (Q:Value->zAB->Prop) (s:zAB),Q (.bool (p i j)) s->wpAny (model X.prog X.w) X.A (zB2 op (.int i t) (.int j u)) Q X.xe s):PC X op a b (aGM p ta tb):=by
 intro pins s Z H Q I h;refine bin ha hb I h λ v u s2 x y H2 I2 rx ry q=>?_
 obtain⟨i,j,rfl,rfl,q⟩:=q;obtain⟨t,rfl⟩:=rx;obtain⟨t',rfl⟩:=ry;exact rule i j t t' _ s2 ⟨.bl _,H2,I2,rfl,q⟩
def aFA(ha:PE X a ta)(hb:PE X b tb):PC X .NotEq a b (aHD ta tb):=aFB ha hb λ _ _ _ _ _ _ h=>ne_int (by rw[bne,Bool.beq_eq_decide_eq];exact h)
def tB(t:TE):TT:=λ Z H Q=>t Z H λ x H1=>∃c,x= .bl c/\Q c H1
def aEj(h:PC X op a b t)(h1:zBu op b=false:=by first|exact aBQ _ (by decide) (by decide)|rfl):PT X (.Compare a [op] [b] pos) (tB t):=by
 intro pins s Z H Q I hw;refine zGH (thn (h pins s Z H _ I hw) λ v s1 h1=>thn h1 λ u s2 h2=>thn h2 λ c s3 ⟨x,H1,I1,r1,q1⟩=>?_) h1;obtain⟨d,rfl,q⟩:=q1;cases r1;exact zDA ⟨H1,I1,q⟩
def aAt(h:PE X e t)(he:∀whole,isTrue e X.env whole=(do let v <-whole;zEl e.pos;zEi [v] (truthy v)):=by intro _;rfl):PT X e (tB t):=by
 intro pins s Z H Q I hw;refine isTrue_plain (thn (h pins s Z H _ I hw) λ v s1 ⟨x,H1,I1,r1,q1⟩=>?_) (he _);obtain⟨d,rfl,q⟩:=q1;cases r1;exact zDA ⟨H1,I1,q⟩
variable{tA tB':TT}{rest:List Expr}
def tOr(t u:TT):TT:=λ Z H Q=>t Z H λ c H1=>if c=true then Q true H1 else u Z H1 Q
def aHC(t:TT):TT:=λ Z H Q=>t Z H λ c H1=>Q (!c) H1
def aAs(ha:PT X a tA):PW X (.BoolOp .Or [a] pos) tA:=by
 intro wh pins s Z H Q I h;refine isTrue_or (thn (ha pins s Z H Q I h) λ c s1 e=>?_);cases c with
 |false=>exact isTrue_or_nil e
 |true=>exact e
def aEB(ha:PT X a tA)(hb:PW X (.BoolOp .Or (b::rest) pos) tB'):PW X (.BoolOp .Or (a::b::rest) pos) (tOr tA tB'):=by
 intro wh pins s Z H Q I h;refine isTrue_or (thn (ha pins s Z H _ I h) λ c s1 ⟨H1,I1,q1⟩=>?_);cases c with
 |true=>exact⟨H1,I1,q1⟩
 |false=>exact hb wh pins s1 Z H1 Q I1 q1
def wu(ha:PT X a tA):PT X (.UnaryOp .Not a pos) (aHC tA):=by
 intro pins s Z H Q I h;exact isTrue_not (ha pins s Z H (λ c H1=>Q (!c) H1) I h)
def aGP(ta tb:TE):TE:=λ Z H Q=>ta Z H λ x H1=>∃c,x= .bl c/\if c=true then tb Z H1 Q else Q (.bl false) H1
def aEu{op}(h:PE X a t):PE X (.BoolOp op [a] pos) t:=λ pins s Z H Q I hw=>BoolOp_one (h pins s Z H Q I hw)
def aEz(ha:PE X a ta)(hb:PE X (.BoolOp .And (b::rest) pos) tb):PE X (.BoolOp .And (a::b::rest) pos) (aGP ta tb):=by
 intro pins s Z H Q I h;refine BoolOp_and (thn (ha pins s Z H _ I h) λ v s1 ⟨x,H1,I1,r1,q1⟩=>?_);obtain⟨c,rfl,q1⟩:=q1;cases r1;refine zDA ?_;cases c with
 |true=>exact hb pins s1 Z H1 Q I1 q1
 |false=>exact⟨.bl false,H1,I1,rfl,q1⟩
end
def SqL(K:zAA)(H:Hp)(a:Addr)(xs:List V):Prop:=
 Rd H a (.lst xs)\/
  ∃(o:Obj) (its:Array Value) (n:Nat),K.lookup a=some o/\o.cls= .type "list"/\o.dict=none/\o.data= .seq its n/\its.size<=zAN/\Vals xs its.toList
def SqT(K:zAA)(H:Hp)(a:Addr)(xs:List V):Prop:=
 Rd H a (.tup xs)\/
  ∃(o:Obj) (its:Array Value) (n:Nat),K.lookup a=some o/\o.cls= .type "tuple"/\o.dict=none/\o.data= .seq its n/\its.size<=zAN/\Vals xs its.toList
def aHQ:Value->Option V
 | .none=>some .non
 | .bool b=>some (.bl b)
 | .int i _=>some (.int i)
 | .str x _=>some (.str x)
 | .bytes b _=>some (.byt b)
 | .float b _=>some (.flt b)
 | .ref a=>some (.ref a)
 | .type n=>some (.ty n)
 |_=>none
def RelV.abs(r:RelV x u):aHQ u=some x:=by
 cases x with
 |non=>cases r;rfl
 |bl _=>cases r;rfl
 |int _=>obtain⟨t,rfl⟩:=r;rfl
 |str _=>obtain⟨t,rfl⟩:=r;rfl
 |byt _=>obtain⟨t,rfl⟩:=r;rfl
 |flt _=>obtain⟨t,rfl⟩:=r;rfl
 |ref _=>cases r;rfl
 |ty _=>cases r;rfl
def RelV.inj(r:RelV x u)(q:RelV y u):x=y:=zAf (r.abs.symm.trans q.abs)
theorem Vals.inj:∀{xs ys:List V} {us:List Value},Vals xs us->Vals ys us->xs=ys
 |_,_,_,.nil,.nil=>rfl
 |_,_,_,.cons r t,.cons r' t'=>by rw[r.inj r',Vals.inj t t']
section
variable{X:Cx}{pins:List (Addr×Obj)}{Z:St}{H:Hp}{s:zAB}{a:Addr}{xs ys:List V}
def SqL.of{K:zAA}(h:H a=some (.lst xs)):SqL K H a xs:=.inl (.inl h)
def SqT.of{K:zAA}(h:H a=some (.tup xs)):SqT K H a xs:=.inl (.inl h)
def Inv.list(I:Inv X pins Z H s)(h:SqL X.K H a xs):∃its:List Value,Vals xs its/\PlainL s.heap a its.toArray/\xs.length<=zAN:=by
 rcases h with h|⟨o,its,n,hk,hc,hd,hs,hz,r⟩
 .obtain⟨z,its,n,r,e⟩:=h.ok I.hok
  exact⟨its,r,⟨_,n,e,rfl,rfl,rfl⟩,z⟩
 .refine⟨its.toList,r,⟨o,n,I.kIn a o hk,hc,hd,by simpa using hs⟩,?_⟩
  have e:=r.length;simp only[zA9]at e;lia
def Inv.tuple(I:Inv X pins Z H s)(h:SqT X.K H a xs):∃its:List Value,Vals xs its/\IsTup s.heap a its.toArray/\xs.length<=zAN:=by
 rcases h with h|⟨o,its,n,hk,hc,hd,hs,hz,r⟩
 .obtain⟨z,its,r,p⟩:=h.ok I.hok
  exact⟨its,r,p,z.1⟩
 .refine⟨its.toList,r,⟨o,I.kIn a o hk,hc,n,by simpa using hs⟩,?_⟩
  have e:=r.length;simp only[zA9]at e;lia
def Inv.list_inj(I:Inv X pins Z H s)(h:SqL X.K H a xs)(h':SqL X.K H a ys):xs=ys:=by
 obtain⟨its,r,⟨o,n,e,_,_,d⟩,_⟩:=I.list h;obtain⟨its',r',⟨o',n',e',_,_,d'⟩,_⟩:=I.list h';rw[e]at e';cases e';rw[d]at d';injection d' with d1 _
 have:its=its':=by simpa using congrArg zGZ d1
 subst this;exact r.inj r'
def Inv.tuple_inj(I:Inv X pins Z H s)(h:SqT X.K H a xs)(h':SqT X.K H a ys):xs=ys:=by
 obtain⟨its,r,⟨o,e,_,n,d⟩,_⟩:=I.tuple h;obtain⟨its',r',⟨o',e',_,n',d'⟩,_⟩:=I.tuple h';rw[e]at e';cases e';rw[d]at d';injection d' with d1 _
 have:its=its':=by simpa using congrArg zGZ d1
 subst this;exact r.inj r'
end
section
variable{X:Cx}{st:Stmt}{rest:List Stmt}{t u:TS}{e:Expr}{te:TE}{pos:Pos}
def aGK:TS:=λ D Z H=>D.nx Z H
def aHB(t u:TS):TS:=λ D Z H=>t {D with nx:=u D} Z H
def uI:PSs X [] aGK:=λ _ _ Z H _ I h=>zDO ⟨Z,H,I,h⟩
def cz(h1:PS X st t)(h2:PSs X rest u):PSs X (st::rest) (aHB t u):=by
 intro pins s Z H D I h;refine wpAny_execs_cons (thn (h1 pins s Z H {D with nx:=u D} I h) λ f s1 q=>?_);cases f with
 |next=>
  obtain⟨Z',H',I',q⟩:=q;exact h2 pins s1 Z' H' D I' q
 |ret v=>exact q
 |brk=>exact q
 |cont=>exact q
def iU(h1:PS X st t):PSs X [st] t:=by
 intro pins s Z H D I h;refine wpAny_execs_cons (thn (h1 pins s Z H D I h) λ f s1 q=>?_);cases f with
 |next=>exact zDO q
 |ret v=>exact q
 |brk=>exact q
 |cont=>exact q
def Inv.quiet(I:Inv X pins Z H s):interactive X.env=false:=by simp[interactive,I.ok.kind]
def rW(te:TE):TS:=λ D Z H=>te Z H λ _ H1=>D.nx Z H1
def mC(he:PE X e te)(hs:zD2 e none pos.line X.env=pure false:=by rfl):PS X (.Expr e pos) (rW te):=by
 intro pins s Z H D I h;exact wpAny_Expr_any (thn (he pins s Z H _ I h) λ v s1 ⟨x,H1,I1,r1,q1⟩=>⟨Z,H1,I1,q1⟩) I.quiet hs
def aEW(te:TE):TS:=λ D Z H=>te Z H D.rt
def pZ(he:PE X e te):PS X (.Return (some e) pos) (aEW te):=by
 intro pins s Z H D I h;exact wpAny_Return_some (thn (he pins s Z H _ I h) λ v s1 ⟨x,H1,I1,r1,q1⟩=>⟨x,Z,H1,I1,r1,q1⟩)
def aHG(c:TT)(t u:TS):TS:=λ D Z H=>c Z H λ b H1=>if b=true then t D Z H1 else u D Z H1
def aAy(hc:PT X c tc)(ha:PSs X a t)(hb:PSs X b u):PS X (.If c a b pos) (aHG tc t u):=by
 intro pins s Z H D I h;refine wpAny_If (thn (hc pins s Z H _ I h) λ d s1 ⟨H1,I1,q1⟩=>?_);cases d with
 |true=>exact ha pins s1 Z H1 D I1 q1
 |false=>exact hb pins s1 Z H1 D I1 q1
end
abbrev TG:=V->St->Hp->(St->Hp->Prop)->Prop
abbrev TGs:=List V->St->Hp->(St->Hp->Prop)->Prop
def PG(X:Cx)(target:Expr)(t:TG):Prop:=
 ∀(pins:List (Addr×Obj)) (s:zAB) (Z:St) (H:Hp) (v:V) (u:Value) (Q:St->Hp->Prop),Inv X pins Z H s->RelV v u->t v Z H Q->
  wpAny (model X.prog X.w) X.A (zFL target X.env u) (λ _ s'=>∃Z' H',Inv X pins Z' H' s'/\Q Z' H') X.xe s
def PGs(X:Cx)(ts:List Expr)(t:TGs):Prop:=
 ∀(pins:List (Addr×Obj)) (s:zAB) (Z:St) (H:Hp) (vs:List V) (us:List Value) (Q:St->Hp->Prop),Inv X pins Z H s->Vals vs us->t vs Z H Q->
  wpAny (model X.prog X.w) X.A (assignInOrder ((zCJ ts X.env).map (·.2)) us) (λ _ s'=>∃Z' H',Inv X pins Z' H' s'/\Q Z' H') X.xe s
abbrev TIp:=V->V->Hp->VK->Prop
def PIp(X:Cx)(op:Operator)(t:TIp):Prop:=
 ∀(pins:List (Addr×Obj)) (s:zAB) (Z:St) (H:Hp) (x y:V) (v u:Value) (Q:VK),Inv X pins Z H s->RelV x v->RelV y u->t x y H Q->
  wpAny (model X.prog X.w) X.A (inplaceOp op v u) (EP X pins Z Q) X.xe s
section
variable{X:Cx}{pos:Pos}
def oF(i:Nat):TG:=λ v Z H Q=>Q (Z.set i (some v)) H
def aCt(hN:X.N.Nodup)(hi:X.N[i]? =some x)(hx:Loc X.env.scope x)(hf:X.fn x=true\/X.env.scope.names.lookup x=some .local:=by first|exact .inl rfl|exact .inr rfl|assumption):PG X (.Name x pos) (oF i):=by
 intro pins s Z H v u Q I r h;exact wpAny_assign_Name (lU I hN hi hx r (λ s' I'=>⟨_,H,I',h⟩) hf)
def aFi:TGs:=λ vs Z H Q=>vs=[]/\Q Z H
def aBp(t:TG)(u:TGs):TGs:=λ vs Z H Q=>∃v r,vs=v::r/\t v Z H λ Z' H'=>u r Z' H' Q
def aCs:PGs X [] aFi:=by
 intro pins s Z H vs us Q I r h;obtain⟨e,h⟩:=h;subst e;cases r;exact assignInOrder_nil ⟨Z,H,I,h⟩
def aBC(h1:PG X e t)(h2:PGs X es u)
  (hs:(zCJ (e::es) X.env).map (·.2)=zFL e X.env::(zCJ es X.env).map (·.2):=by rfl):PGs X (e::es) (aBp t u):=by
 intro pins s Z H vs us Q I r h;obtain⟨v,vr,e1,h⟩:=h;subst e1;cases r with
 |cons r rr=>
  rw[hs];refine assignInOrder_cons (thn (h1 pins s Z H _ _ _ I r h) λ _ s1 ⟨Z1,H1,I1,q1⟩=>?_);exact h2 pins s1 Z1 H1 _ _ Q I1 rr q1
def aD6(K:zAA)(n:Nat)(t:TGs):TG:=λ v Z H Q=>∃a xs,v= .ref a/\SqT K H a xs/\xs.length=n/\t xs Z H Q
def aEr(hc:X.calm=true)(h:PGs X es t)
  (hn:(zCJ es X.env).length=n:=by rfl)(hst:(zCJ es X.env).findIdx? (·.1)=none:=by rfl):PG X (.Tuple es k pos) (aD6 X.K n t):=by
 intro pins s Z H v u Q I r hw;obtain⟨a,xs,e1,hq,hl,hw⟩:=hw;subst e1;cases r;obtain⟨its,rv,ht,hz⟩:=I.tuple hq;refine assign_Tuple_tuple (I.ok.hd hc) ht (by simp[hn,<-hl,rv.length]) hst λ h' hx=>?_
 have I1:Inv X pins Z H {s with heap:=h'}:=I.kept (t':=s.toks) λ b o e=>hx b o (zAk (zAW e)) e
 exact h pins _ Z H xs _ Q I1 (by simpa using rv) hw
def wR(te:TE)(g:TG):TS:=λ D Z H=>te Z H λ x H1=>g x Z H1 D.nx
def aAz(he:PE X e te)(hg:PG X tg g)(hs:zFl [tg] e pos.line X.env=pure false:=by rfl)(hw:zFk [tg] e X.env=pure none:=by rfl)
  (h1:(zCJ [tg] X.env).map (·.2)=[zFL tg X.env]:=by rfl):PS X (.Assign [tg] e pos) (wR te g):=by
 intro pins s Z H D I h;refine wpAny_Assign_stores (thn (he pins s Z H _ I h) λ v s1 ⟨x,H1,I1,r1,q1⟩=>?_) hs hw;rw[h1];exact thn (hg pins s1 Z H1 x v _ I1 r1 q1) λ _ s2 q=>q
def iV(hN:X.N.Nodup)(hi:X.N[i]? =some x)(hx:Loc X.env.scope x)(he:PE X e te)(hs:zD2 e (some (.Name x pos')) pos.line X.env=pure false:=by rfl)(hf:X.fn x=true\/X.env.scope.names.lookup x=some .local:=by first|exact .inl rfl|exact .inr rfl|assumption):
  PS X (.Assign [.Name x pos'] e pos) (wR te (oF i)):=by
 intro pins s Z H D I h;refine wpAny_Assign_Name (thn (he pins s Z H _ I h) λ v s1 ⟨y,H1,I1,r1,q1⟩=>?_) hs;exact lU I1 hN hi hx r1 (λ s2 I2=>⟨_,H1,I2,q1⟩) hf
def aHI(i:Nat)(te:TE)(ti:TIp):TS:=λ D Z H=>∃x,Z[i]? =some (some x)/\te Z H λ y H1=>ti x y H1 λ z H2=>D.nx (Z.set i (some z)) H2
def aEn(hN:X.N.Nodup)(hi:X.N[i]? =some x)(hx:Loc X.env.scope x)(he:PE X e te)(ho:PIp X op ti)(hf:X.fn x=true\/X.env.scope.names.lookup x=some .local:=by first|exact .inl rfl|exact .inr rfl|assumption):
  PS X (.AugAssign (.Name x pos') op e pos) (aHI i te ti):=by
 intro pins s Z H D I h;obtain⟨v,e1,h⟩:=h;obtain⟨m,hn,hl⟩:=I.loc;have vis:Vis X.env.scope x:=by rcases hx with k|k;exact .inl k;exact .inr (.inl k)
 obtain⟨u,r,l⟩:=hl i x v hi e1 vis;refine wpAny_AugAssign_Name ?_;have go:wpAny (model X.prog X.w) X.A (eval e X.env) (λ w z4=>wpAny (model X.prog X.w) X.A (inplaceOp op u w) (λ r zD=>wpAny (model X.prog X.w) X.A (storeName X.env x r) (λ _=>SP X pins D .next) X.xe zD) X.xe z4) X.xe s:=by
  refine thn (he pins s Z H _ I h) λ w s1 ⟨y,H1,I1,r1,q1⟩=>?_
  refine thn (ho pins s1 Z H1 v y u w _ I1 r r1 q1) λ z s2 ⟨zv,H2,I2,r2,q2⟩=>?_
  exact lU I2 hN hi hx r2 (λ s3 I3=>⟨_,H2,I3,q2⟩) hf
 rcases l with ⟨hk,hm⟩|⟨hk,c,hc,hcell⟩
 .exact zEB I.ok.kind hk hn hm go
 .rcases hk with hk|hk
  .exact zEL I.ok.kind hk hc hcell go
  .rcases hx with k|k
   .have:X.env.scope.names.lookup x=some .free:=hk
    rw[k]at this;cases this
   .have:X.env.scope.names.lookup x=some .free:=hk
    rw[k]at this;cases this
def ipI(f:Int->Int->Int):TIp:=λ x y H Q=>∃i j,x= .int i/\y= .int j/\Q (.int (f i j)) H
def aF8:PIp X .Add (ipI λ i j=>i+j):=by
 intro pins s Z H x y v u Q I r1 r2 h;obtain⟨i,j,e1,e2,q⟩:=h;subst e1;subst e2;obtain⟨t,rfl⟩:=r1;obtain⟨t',rfl⟩:=r2;exact iadd_int ⟨.int _,H,I.tok _,⟨_,rfl⟩,q⟩
end
section
variable{X:Cx}{pos:Pos}
def aEV(c:TT)(tb:TS):TS:=λ D Z H=>∃W:Nat->St->Hp->Prop,(∃m,W m Z H)/\∀m Z H,W m Z H->
 c Z H λ b H1=>if b=true then∃N:St->Hp->Prop,(∀Z' H',N Z' H'->∃m',m'<m/\W m' Z' H')/\tb {D with nx:=N,ct:=N,bk:=D.nx} Z H1 else D.nx Z H1
def aAv(hp:zGB (model X.prog X.w) X.A X.env X.xe)(hc:PT X c tc)(hb:PSs X body tb):PS X (.While c body [] pos) (aEV tc tb):=by
 intro pins s Z H D I h;obtain⟨W,⟨m0,w0⟩,turn⟩:=h;refine wpAny_While (codeAny_whileLoop (λ n s'=>∃Z' H',Inv X pins Z' H' s'/\W n Z' H') ?_ m0 ⟨Z,H,I,w0⟩);rintro n s1 ⟨Z1,H1,I1,w1⟩;refine zCR hp (thn (hc pins s1 Z1 H1 _ I1 (turn n Z1 H1 w1)) λ b s2 ⟨H2,I2,q2⟩=>?_);cases b with
 |true=>
  obtain⟨N,hN,q2⟩:=q2;rw[if_pos rfl];refine zCR hp (thn (hb pins s2 Z1 H2 _ I2 q2) λ f s3 q3=>?_);cases f with
  |next=>
   obtain⟨Z3,H3,I3,n3⟩:=q3;obtain⟨m',hm,w3⟩:=hN Z3 H3 n3;exact⟨m',hm,Z3,H3,I3,w3⟩
  |cont=>
   obtain⟨Z3,H3,I3,n3⟩:=q3;obtain⟨m',hm,w3⟩:=hN Z3 H3 n3;exact⟨m',hm,Z3,H3,I3,w3⟩
  |brk=>exact q3
  |ret v=>exact q3
 |false=>
  rw[if_neg zAI];exact zDO ⟨Z1,H2,I2,q2⟩
end
structure It where
 go:Nat->Hp->Prop
 yld:Nat->Hp->V->Hp->Prop
 stop:Nat->Hp->Prop
def m7(X:Cx)(pins:List (Addr×Obj))(H:Hp)(b:Addr):Prop:=
 H b=none/\b≠X.env.locals/\b∉X.fs/\(b∈X.ex\/X.z5.heap.objs.size<=b)/\(∀x c,X.env.cells.lookup x=some c->c≠b)/\∀p∈X.ta++(X.pn++pins),p.1≠b
def Inv.fpOk(I:Inv X pins Z H s)(hb:s.heap.objs.size<=b)(hn:H' b=none):m7 X pins H' b:=by
 refine⟨hn,zER (zAQ I.lt hb),I.nofs hb,.inr (zAr I.sz hb),λ x c e z=>?_,λ p hp z=>?_⟩
 .obtain⟨v,q⟩:=I.cell x c e
  exact absurd (zAQ q.lt (by rw[z];exact hb)) (zBg _)
 .exact absurd (zAQ (I.pinL hp) (by rw[z];exact hb)) (zBg _)
structure Turn(P:zAS)(w:World)(K:zAA)(tg:Expr)(J:It)(fp:List Addr)(it:Addr)(tn:Nat->Heap->Prop):Prop where
 mem:it∈fp
 obj:∀i h,tn i h->∀b∈fp,∃o,h.get? b=some o/\∀v,o.data≠.cell v
 keep:∀i h h',tn i h->(∀b∈fp,∀o,h.get? b=some o->h'.get? b=some o)->tn i h'
 item:∀(X:Cx),X.prog=P->X.w=w->X.K=K->X.calm=true->∀(i:Nat) (pins:List (Addr×Obj)) (s:zAB) (Z:St) (H:Hp) (E:Value->zAB->Prop),Inv X pins Z H s->(∀b∈fp,m7 X pins H b)->tn i s.heap->J.go i H->
  wpAny (model P w) X.A (pyNext (.ref it)) (λ r s1=>∃u,r=some u/\
   wpAny (model P w) X.A (zCm tg (.ref it) u) (λ _ s2=>∃x H',Inv X pins Z H' s2/\RelV x u/\J.yld i H x H'/\tn (i+1) s2.heap/\∀b∈fp,H' b=none) E s1) E s
 done:∀(X:Cx),X.prog=P->X.w=w->X.K=K->X.calm=true->∀(i:Nat) (pins:List (Addr×Obj)) (s:zAB) (Z:St) (H:Hp) (E:Value->zAB->Prop),Inv X pins Z H s->(∀b∈fp,m7 X pins H b)->tn i s.heap->J.stop i H->
  wpAny (model P w) X.A (pyNext (.ref it)) (λ r s1=>r=none/\Inv X pins Z H s1) E s
 self:∀(A:zA8) (i:Nat) (s:zAB) (Q:Value->zAB->Prop) (E:Value->zAB->Prop),tn i s.heap->Q (.ref it) s->wpAny (model P w) A (pyIter (.ref it)) Q E s
abbrev TI:=St->Hp->(It->Hp->Prop)->Prop
def PIE(X:Cx)(pins:List (Addr×Obj))(Z:St)(tg:Expr)(R:It->Hp->Prop)(itv:Value)(s2:zAB):Prop:=
 ∃(it:Addr) (fp:List Addr) (tn:Nat->Heap->Prop) (J:It) (H':Hp),itv= .ref it/\Inv X pins Z H' s2/\Turn X.prog X.w X.K tg J fp it tn/\tn 0 s2.heap/\(∀b∈fp,m7 X pins H' b)/\R J H'
def PI(X:Cx)(tg iter:Expr)(wi:TI):Prop:=
 ∀(pins:List (Addr×Obj)) (s:zAB) (Z:St) (H:Hp) (R:It->Hp->Prop),Inv X pins Z H s->wi Z H R->
  wpAny (model X.prog X.w) X.A (eval iter X.env) (λ v s1=>wpAny (model X.prog X.w) X.A (pyIter v) (PIE X pins Z tg R) X.xe s1) X.xe s
def aBm(ho:s.heap.get? it=some o)(hc:o.cls= .type n)(hd:o.data= .fields vs)
    (hn:["enumerate","zip","dict_itemiterator","dict_reverseitemiterator","odict_iterator","itertools.zip_longest","itertools.pairwise"].contains n=false)(hQ:Q () s):wpAny M A (zCm tg (.ref it) u) Q E s:=by
  unfold zCm;cases tg<;>first
    |exact zA7 hQ
    | (cases u <;> first
        |exact zA7 hQ
        | (refine zAG (wpAny_load ho ?_)
           rw[hc,hd];show wpAny M A (if (["enumerate","zip","dict_itemiterator","dict_reverseitemiterator","odict_iterator","itertools.zip_longest","itertools.pairwise"].contains n&&vs[0]? ==some (rawInt _))=true then _ else _) Q E s;rw[if_neg (by intro h;rw[hn,Bool.false_and]at h;cases h)];exact zA7 hQ))
def Itl(K:zAA)(a:Addr):It:=
 ⟨λ i H=>∃xs x,SqL K H a xs/\xs[i]? =some x,λ i H x H'=>H'=H/\∀xs,SqL K H a xs->xs[i]? =some x,λ i H=>∃xs,SqL K H a xs/\xs.length<=i⟩
def Itt(K:zAA)(a:Addr):It:=
 ⟨λ i H=>∃xs x,SqT K H a xs/\xs[i]? =some x,λ i H x H'=>H'=H/\∀xs,SqT K H a xs->xs[i]? =some x,λ i H=>∃xs,SqT K H a xs/\xs.length<=i⟩
def Itr(lo:Int)(n:Nat):It:=⟨λ i _=>i<n,λ i H x H'=>H'=H/\x= .int (lo+i),λ i _=>n<=i⟩
def zO{P:zAS}{w:World}{K:zAA}{tg:Expr}(a it:Addr):Turn P w K tg (Itl K a) [it] it (λ i h=>h.IsListIter it a i) where
 mem:=by simp
 obj:=λ i h st b hb=>by
  have e:b=it:=by simpa using hb
  subst e;obtain⟨o,e,c,d⟩:=st;exact⟨o,e,λ v z=>by rw[d]at z;cases z⟩
 keep:=λ i h h' st k=>st.at λ o e=>k it (by simp) o e
 item:=by
  intro X hP hw hK hc i pins s Z H E I hf st hg;subst hP hw hK;obtain⟨xs,x,hq,hx⟩:=hg;obtain⟨its,rv,p,hz⟩:=I.list hq;obtain⟨u,hu,ru⟩:=rv.get hx;obtain⟨f0,f1,f2,f3,f4,f5⟩:=hf it (by simp);refine wpAny_pyNext_list_item st p.isList (x:=u) (by simpa using hu) λ h' st' sb=>?_
  have I1:Inv X pins Z H {s with heap:=h'}:=I.turned (t':=s.toks) (λ b o hb e=>(sb.2 b hb).trans e) f0 f1 f3 f4 f5;obtain⟨o,e,c,d⟩:=id st';exact⟨u,rfl,aBm (s:={s with heap:=h'}) e c d (by decide) ⟨x,H,I1,ru,⟨rfl,λ ys hy=>by rw[I.list_inj hy hq];exact hx⟩,st',λ b hb=>(hf b hb).1⟩⟩
 done:=by
  intro X hP hw hK hc i pins s Z H E I hf st hg;subst hP hw hK;obtain⟨xs,hq,hx⟩:=hg;obtain⟨its,rv,p,hz⟩:=I.list hq;obtain⟨f0,f1,f2,f3,f4,f5⟩:=hf it (by simp);have hl:=rv.length;exact wpAny_pyNext_list_end (I.ok.hd hc) st p.isList (by simp;lia) λ h' eb=>⟨rfl,I.turned (t':=s.toks) (λ b o hb e=>eb b o hb e) f0 f1 f3 f4 f5⟩
 self:=λ _ _ _ _ _ st h=>wpAny_pyIter_listiter st h
def wM{P:zAS}{w:World}{K:zAA}{tg:Expr}(a it:Addr):Turn P w K tg (Itt K a) [it] it (λ i h=>h.IsTupleIter it a i) where
 mem:=by simp
 obj:=λ i h st b hb=>by
  have e:b=it:=by simpa using hb
  subst e;obtain⟨o,e,c,d⟩:=st;exact⟨o,e,λ v z=>by rw[d]at z;cases z⟩
 keep:=λ i h h' st k=>st.at λ o e=>k it (by simp) o e
 item:=by
  intro X hP hw hK hc i pins s Z H E I hf st hg;subst hP hw hK;obtain⟨xs,x,hq,hx⟩:=hg;obtain⟨its,rv,p,hz⟩:=I.tuple hq;obtain⟨u,hu,ru⟩:=rv.get hx;obtain⟨f0,f1,f2,f3,f4,f5⟩:=hf it (by simp);refine wpAny_pyNext_tuple_item st (show s.heap.IsTuple a its.toArray from p) (x:=u) (by simpa using hu) λ h' st' sb=>?_
  have I1:Inv X pins Z H {s with heap:=h'}:=I.turned (t':=s.toks) (λ b o hb e=>(sb.2 b hb).trans e) f0 f1 f3 f4 f5;obtain⟨o,e,c,d⟩:=id st';exact⟨u,rfl,aBm (s:={s with heap:=h'}) e c d (by decide) ⟨x,H,I1,ru,⟨rfl,λ ys hy=>by rw[I.tuple_inj hy hq];exact hx⟩,st',λ b hb=>(hf b hb).1⟩⟩
 done:=by
  intro X hP hw hK hc i pins s Z H E I hf st hg;subst hP hw hK;obtain⟨xs,hq,hx⟩:=hg;obtain⟨its,rv,p,hz⟩:=I.tuple hq;obtain⟨f0,f1,f2,f3,f4,f5⟩:=hf it (by simp);have hl:=rv.length;exact wpAny_pyNext_tuple_end (I.ok.hd hc) st (show s.heap.IsTuple a its.toArray from p) (by simp;lia) λ h' eb=>⟨rfl,I.turned (t':=s.toks) (λ b o hb e=>eb b o hb e) f0 f1 f3 f4 f5⟩
 self:=λ _ _ _ _ _ st h=>wpAny_pyIter_tupleiter st h
def wN{P:zAS}{w:World}{K:zAA}{tg:Expr}(it:Addr)(lo:Int)(n:Nat):Turn P w K tg (Itr lo n) [it] it (λ i h=>IsRangeIter h it (lo+(i:Nat)*1) ((n:Int)-(i:Nat)) 1) where
 mem:=by simp
 obj:=λ i h st b hb=>by
  have e:b=it:=by simpa using hb
  subst e;exact⟨_,st,λ v z=>by
   have z':Data.fields _=Data.cell v:=z;cases z'⟩
 keep:=λ i h h' st k=>k it (by simp) _ st
 item:=by
  intro X hP hw hK hc i pins s Z H E I hf st hg;subst hP hw hK;obtain⟨f0,f1,f2,f3,f4,f5⟩:=hf it (by simp);have W:=Walks.range (prog:=X.prog) (w:=X.w) (I.ok.hd hc) it lo 1 n;refine W.item i s _ _ hg st λ v h' tk hv st' kk=>?_
  obtain⟨t,rfl⟩:=hv;have I1:Inv X pins Z H {s with heap:=h',toks:=tk}:=I.turned (λ b o hb e=>kk b o (by simpa using hb) e) f0 f1 f3 f4 f5;refine⟨_,rfl,aBm (s:={s with heap:=h',toks:=tk}) (n:="range_iterator") st' rfl rfl (by decide) ⟨.int (lo+i),H,I1,⟨t,?_⟩,⟨rfl,rfl⟩,st',λ b hb=>(hf b hb).1⟩⟩;rw[Int.mul_one]
 done:=by
  intro X hP hw hK hc i pins s Z H E I hf st hg;subst hP hw hK;obtain⟨f0,f1,f2,f3,f4,f5⟩:=hf it (by simp);exact wpAny_pyNext_range_end (I.ok.hd hc) st (by have:n<=i:=hg;lia) λ h' eb=>⟨rfl,I.turned (t':=s.toks) (λ b o hb e=>eb b o hb e) f0 f1 f3 f4 f5⟩
 self:=λ _ _ _ _ _ st h=>wpAny_pyIter_rangeiter st h
section
variable{X:Cx}{tg:Expr}
def vR{pins:List (Addr×Obj)}{Z:St}{H:Hp}{s:zAB}{R:It->Hp->Prop}{E:Value->zAB->Prop}{lo hi:Int}{t u v:Tok}{tk:Nat}(I:Inv X pins Z H s)(h1: -(2^62)<=lo)(h2:lo<2^62)(h3: -(2^62)<=hi)(h4:hi<2^62)
  (q:R (Itr lo (hi-lo).toNat) H):wpAny (model X.prog X.w) X.A (pyIter (.ref s.heap.objs.size)) (PIE X pins Z tg R) E {s with heap:=s.heap.push {cls:=.type "range",data:=.fields #[.int lo t,.int hi u,.int 1 v]},toks:=tk}:=by
 refine wpAny_pyIter_range (IsRange.new ..) (small_one h1 h2 h3 h4) ?_;have I1:Inv X pins Z H {s with heap:=s.heap.push {cls:=.type "range",data:=.fields #[.int lo t,.int hi u,.int 1 v]},toks:=tk}:=I.kept λ b o e=>zAD _ e
 refine⟨(s.heap.push {cls:=.type "range",data:=.fields #[.int lo t,.int hi u,.int 1 v]}).objs.size,[(s.heap.push {cls:=.type "range",data:=.fields #[.int lo t,.int hi u,.int 1 v]}).objs.size],_,_,H,rfl,
  I1.kept (t':=tk) λ b o e=>zAD _ e,wN _ lo (hi-lo).toNat,?_,λ b hb=>?_,q⟩
 .have e1:lo+((0:Nat):Int)*1=lo:=by simp
  have e2:(((hi-lo).toNat:Nat):Int)-((0:Nat):Int)=zGb lo hi 1:=by rw[rangeSize_one];split<;>lia
  show IsRangeIter _ _ (lo+((0:Nat):Int)*1) ((((hi-lo).toNat:Nat):Int)-((0:Nat):Int)) 1;rw[e1,e2];exact zAh _ rfl
 .have e:b=(s.heap.push {cls:=.type "range",data:=.fields #[.int lo t,.int hi u,.int 1 v]}).objs.size:=by simpa using hb
  subst e;exact I1.fpOk (zAP _) (I1.hok.fresh (zAP _))
def aGk(ta:TA):TI:=λ Z H R=>ta Z H λ vs H1=>∃j:Int,vs=[.int j]/\-(2^62)<=j/\j<2^62/\R (Itr 0 j.toNat) H1
def aGj(ta:TA):TI:=λ Z H R=>ta Z H λ vs H1=>∃i j:Int,vs=[.int i,.int j]/\(-(2^62)<=i/\i<2^62/\-(2^62)<=j/\j<2^62)/\R (Itr i (j-i).toNat) H1
def z6{a:Expr}{ta:TA}{p pos:Pos}(hg:Gl X "range")(hm:X.mg "range"=none)(ha:PA X [a] ta)(hs:zAY [a] X.env=[(false,eval a X.env)]:=by rfl):PI X tg (.Call (.Name "range" p) [a] [] pos) (aGk ta):=by
 intro pins s Z H R I h;refine Call_ (qP I hg hm boot_range (zCg (thn (ha pos pins s Z H _ I h) λ us s1 ⟨vs,H1,I1,r1,q1⟩=>?_) hs rfl));obtain⟨j,e,q1,q2,q⟩:=q1;subst e;cases r1 with
 |cons r rr=>
  cases rr;obtain⟨t,rfl⟩:=r;exact call_range_1 (vR I1 (by lia) (by lia) q1 q2 (by simpa using q))
def zZ(hg:Gl X "range")(hm:X.mg "range"=none)(ha:PA X [a,b] ta)(hs:zAY [a,b] X.env=[(false,eval a X.env),(false,eval b X.env)]:=by rfl)(hs2:zAY [b] X.env=[(false,eval b X.env)]:=by rfl):
  PI X tg (.Call (.Name "range" p) [a,b] [] pos) (aGj ta):=by
 intro pins s Z H R I h;refine Call_ (qP I hg hm boot_range (zCg (thn (ha pos pins s Z H _ I h) λ us s1 ⟨vs,H1,I1,r1,q1⟩=>?_) (by rw[hs,hs2]) (by rw[hs2];rfl)));obtain⟨i,j,e,⟨q1,q2,q3,q4⟩,q⟩:=q1;subst e;cases r1 with
 |cons r rr=>
  cases rr with
  |cons r' rr=>
   cases rr;obtain⟨t,rfl⟩:=r;obtain⟨t',rfl⟩:=r';exact call_range_2 (vR I1 q1 q2 q3 q4 q)
def aHH(wi:TI)(g:TG)(tb:TS):TS:=λ D Z H=>wi Z H λ J H1=>∃W:Nat->Nat->St->Hp->Prop,(∃m,W 0 m Z H1)/\∀i m Z H,W i m Z H->
 (J.stop i H/\D.nx Z H)\/(J.go i H/\∃N:St->Hp->Prop,(∀Z' H',N Z' H'->∃m',m'<m/\W (i+1) m' Z' H')/\∀x H',J.yld i H x H'->g x Z H' λ Z2 H2=>tb {D with nx:=N,ct:=N,bk:=D.nx} Z2 H2)
def lD(fp:List Addr)(h:Heap):List (Addr×Obj):=fp.filterMap λ b=>(h.get? b).map λ o=>(b,o)
def fM(hb:b∈fp)(e:h.get? b=some o):(b,o)∈lD fp h:=zBq.mpr ⟨b,hb,by rw[e];rfl⟩
def rm(hp:p∈lD fp h):p.1∈fp/\h.get? p.1=some p.2:=by
 obtain⟨b,hb,e⟩:=zBq.mp hp;cases q:h.get? b with
 |none=>rw[q]at e;cases e
 |some o=>
  rw[q]at e;have e':(b,o)=p:=zAf e;subst e';exact⟨hb,q⟩
def Inv.pinned(I:Inv X pins Z H s)(hf:∀b∈fp,m7 X pins H b)(ho:∀b∈fp,∃o,s.heap.get? b=some o/\∀v,o.data≠.cell v):Inv X (pins++lD fp s.heap) Z H s:=
 I.pins_of (λ p hp=>(zAs.mp hp).elim (λ z=>I.pin p (zA0 _ z)) λ z=>by
  obtain⟨hb,e⟩:=rm z;obtain⟨f0,f1,f2,_⟩:=hf p.1 hb;obtain⟨o,e',d⟩:=ho p.1 hb;rw[e]at e';cases e';exact⟨e,f0,f1,f2,d⟩) λ q hq p hp=>(zAs.mp hq).elim (λ z=>(I.tab p hp).2.2.2.1 q (zA0 _ z)) λ z=>((hf q.1 (rm z).1).2.2.2.2.2 p (zAa _ hp)).symm
def Inv.unpinned(I:Inv X (pins++pl) Z H s):Inv X pins Z H s:=I.pins_of (λ p hp=>I.pin p (zA0 _ (zAa _ hp))) λ q hq p hp=>(I.tab p hp).2.2.2.1 q (zA0 _ (zAa _ hq))
def aEm(hp:zGB (model X.prog X.w) X.A X.env X.xe)(hc:X.calm=true)(hi:PI X tg iter wi)(hg:PG X tg g)(hb:PSs X body tb)
  (hs:∀x,zBT iter X.env x=pure x:=by intro _;rfl):PS X (.For tg iter body [] pos) (aHH wi g tb):=by
 intro pins s Z H D I h;refine wpAny_For (thn (hi pins s Z H _ I h) λ v s1 h1=>thn h1 λ itv s2 h2=>?_) hs;obtain⟨it,fp,tn,J,H2,e,I2,T,st2,f2,W,⟨m0,w0⟩,turn⟩:=h2;subst e;have stat:∀{H':Hp},(∀b∈fp,H' b=none)->∀b∈fp,m7 X pins H' b:=λ hn b hb=>⟨hn b hb,(f2 b hb).2⟩
 refine codeAny_forLoop_any (λ n s'=>∃i Z' H',Inv X pins Z' H' s'/\tn i s'.heap/\(∀b∈fp,H' b=none)/\W i n Z' H') ?_ m0 ⟨0,Z,H2,I2,st2,λ b hb=>(f2 b hb).1,w0⟩;rintro n s3 ⟨i,Z3,H3,I3,st3,fr3,w3⟩;rcases turn i n Z3 H3 w3 with ⟨stop,qn⟩|⟨go,N,hN,step⟩
 .refine zCR hp (thn (T.done X rfl rfl rfl hc i pins s3 Z3 H3 X.xe I3 (stat fr3) st3 stop) λ r s4 ⟨hr,I4⟩=>?_)
  subst hr;exact zDO ⟨Z3,H3,I4,qn⟩
 .refine zCR hp (thn (T.item X rfl rfl rfl hc i pins s3 Z3 H3 X.xe I3 (stat fr3) st3 go) λ r s4 ⟨u,hr,h4⟩=>?_)
  subst hr;refine zCR hp (thn h4 λ _ s5 ⟨x,H5,I5,r5,y5,st5,fr5⟩=>?_);have I5':=I5.pinned (stat fr5) (T.obj _ _ st5);refine zCR hp (thn (hg _ s5 Z3 H5 x u _ I5' r5 (step x H5 y5)) λ _ s6 ⟨Z6,H6,I6,q6⟩=>?_);refine zCR hp (thn (hb _ s6 Z6 H6 _ I6 q6) λ f s7 q7=>?_);have again:∀{Z7:St} {H7:Hp},Inv X (pins++lD fp s5.heap) Z7 H7 s7->N Z7 H7->∃m,m<n/\∃i Z' H',Inv X pins Z' H' s7/\tn i s7.heap/\(∀b∈fp,H' b=none)/\W i m Z' H':=λ{Z7 H7} I7 n7=>by
   obtain⟨m',hm,w7⟩:=hN Z7 H7 n7;refine⟨m',hm,i+1,Z7,H7,I7.unpinned,T.keep _ _ _ st5 λ b hb o e=>(I7.pin (b,o) (zA0 _ (zA0 _ (fM hb e)))).1,λ b hb=>?_,w7⟩;obtain⟨o,e,d⟩:=T.obj _ _ st5 b hb;exact(I7.pin (b,o) (zA0 _ (zA0 _ (fM hb e)))).2.1
  cases f with
  |next=>obtain⟨Z7,H7,I7,n7⟩:=q7;exact again I7 n7
  |cont=>obtain⟨Z7,H7,I7,n7⟩:=q7;exact again I7 n7
  |brk=>obtain⟨Z7,H7,I7,q7⟩:=q7;exact⟨Z7,H7,I7.unpinned,q7⟩
  |ret v=>obtain⟨x7,Z7,H7,I7,r7,q7⟩:=q7;exact⟨x7,Z7,H7,I7.unpinned,r7,q7⟩
end
abbrev R2:=V->V->Hp->VK->Prop
def OpR(X:Cx)(f:Value->Value->Sem Value)(r:R2):Prop:=
 ∀(pins:List (Addr×Obj)) (s:zAB) (Z:St) (H:Hp) (x y:V) (v u:Value) (Q:VK),Inv X pins Z H s->RelV x v->RelV y u->r x y H Q->
  wpAny (model X.prog X.w) X.A (f v u) (EP X pins Z Q) X.xe s
def jH(X:Cx)(f:Value)(r:List V->Hp->VK->Prop):Prop:=
 ∀(pins:List (Addr×Obj)) (s:zAB) (Z:St) (H:Hp) (xs:List V) (us:List Value) (Q:VK),Inv X pins Z H s->Vals xs us->r xs H Q->
  wpAny (model X.prog X.w) X.A (call f us) (EP X pins Z Q) X.xe s
def aHR(X:Cx)(r:V->Hp->(Bool->Hp->Prop)->Prop):Prop:=
 ∀(pins:List (Addr×Obj)) (s:zAB) (Z:St) (H:Hp) (x:V) (v:Value) (Q:Bool->Hp->Prop),Inv X pins Z H s->RelV x v->r x H Q->
  wpAny (model X.prog X.w) X.A (truthy v) (TP X pins Z Q) X.xe s
def tOp(r:R2)(ta tb:TE):TE:=λ Z H Q=>ta Z H λ x H1=>tb Z H1 λ y H2=>r x y H2 Q
def rI(C:Int->Int->Prop)(g:Int->Int->V):R2:=λ x y H Q=>∃i j,x= .int i/\y= .int j/\C i j/\Q (g i j) H
def rI0(g:Int->Int->V):R2:=λ x y H Q=>∃i j,x= .int i/\y= .int j/\Q (g i j) H
section
variable{X:Cx}{a b:Expr}{ta tb:TE}{pos:Pos}
def aFv(ha:PE X a ta)(hb:PE X b tb){pins:List (Addr×Obj)}{s:zAB}{Z:St}{H:Hp}{R:V->V->Hp->Prop}(I:Inv X pins Z H s)
  (h:ta Z H λ x H1=>tb Z H1 λ y H2=>R x y H2){Q:Value->zAB->Prop}{f:Value->Value->Sem Value}
  (hf:∀v u s2 x y H2,Inv X pins Z H2 s2->RelV x v->RelV y u->R x y H2->wpAny (model X.prog X.w) X.A (f v u) Q X.xe s2):
  wpAny (model X.prog X.w) X.A (eval a X.env) (λ v zS=>wpAny (model X.prog X.w) X.A (eval b X.env) (λ u z4=>wpAny (model X.prog X.w) X.A (f v u) Q X.xe z4) X.xe zS) X.xe s:=by
 refine thn (ha pins s Z H _ I h) λ v s1 ⟨x,H1,I1,r1,q1⟩=>?_
 refine thn (hb pins s1 Z H1 _ I1 q1) λ u s2 ⟨y,H2,I2,r2,q2⟩=>?_
 exact hf v u s2 x y H2 I2 r1 r2 q2
def aBF{op:Operator}{r:R2}(ho:OpR X (zBv op) r)(ha:PE X a ta)(hb:PE X b tb):PE X (.BinOp a op b pos) (tOp r ta tb):=by
 intro pins s Z H Q I h;exact wpAny_BinOp (aFv ha hb I h λ v u s2 x y H2 I2 rx ry q=>ho pins s2 Z H2 x y v u Q I2 rx ry q)
def opI{f:Value->Value->Sem Value}{C:Int->Int->Prop}{g:Int->Int->Int}
  (rule:∀(i j:Int) (t u:Tok) (s:zAB) (Q:Value->zAB->Prop) (E:Value->zAB->Prop),C i j->Q (.int (g i j) s.toks) {s with toks:=s.toks+1}->wpAny (model X.prog X.w) X.A (f (.int i t) (.int j u)) Q E s):
  OpR X f (rI C λ i j=>.int (g i j)):=by
 intro pins s Z H x y v u Q I rx ry h;obtain⟨i,j,rfl,rfl,hc,q⟩:=h;obtain⟨t,rfl⟩:=rx;obtain⟨t',rfl⟩:=ry;exact rule i j t t' s _ _ hc ⟨.int (g i j),H,I.tok _,⟨_,rfl⟩,q⟩
def aGa{f:Value->Value->Sem Value}{g:Int->Int->Int}
  (rule:∀(i j:Int) (t u:Tok) (s:zAB) (Q:Value->zAB->Prop) (E:Value->zAB->Prop),Q (.int (g i j) s.toks) {s with toks:=s.toks+1}->wpAny (model X.prog X.w) X.A (f (.int i t) (.int j u)) Q E s):
  OpR X f (rI0 λ i j=>.int (g i j)):=by
 intro pins s Z H x y v u Q I rx ry h;obtain⟨i,j,rfl,rfl,q⟩:=h;obtain⟨t,rfl⟩:=rx;obtain⟨t',rfl⟩:=ry;exact rule i j t t' s _ _ ⟨.int (g i j),H,I.tok _,⟨_,rfl⟩,q⟩
def aFR{f:Value->Value->Sem Value}{g:Int->Int->Bool}
  (rule:∀(i j:Int) (t u:Tok) (s:zAB) (Q:Value->zAB->Prop) (E:Value->zAB->Prop),Q (.bool (g i j)) s->wpAny (model X.prog X.w) X.A (f (.int i t) (.int j u)) Q E s):
  OpR X f (rI0 λ i j=>.bl (g i j)):=by
 intro pins s Z H x y v u Q I rx ry h;obtain⟨i,j,rfl,rfl,q⟩:=h;obtain⟨t,rfl⟩:=rx;obtain⟨t',rfl⟩:=ry;exact rule i j t t' s _ _ ⟨.bl (g i j),H,I,rfl,q⟩
def aGx(i j:Int):Prop:=0<j/\j<1073741824
def aHT(i j:Int):Prop:=0<=j/\j<=1000000/\i.natAbs<2^64
def aDj(i j:Int):Prop:=(-(2^64)<i/\i<2^64)\/(-(2^64)<j/\j<2^64)
def aDj.ok(h:aDj i j):IntMulOk i j:=by
 rcases h with ⟨h1,h2⟩|⟨h1,h2⟩
 .exact .of_left (intBits_le_64 h1 h2)
 .exact .of_right (intBits_le_64 h1 h2)
def aFQ:OpR X (zBv .Add) (rI0 λ i j=>.int (i+j)):=aGa λ _ _ _ _ _ _ _ q=>add_int q
def aFG:OpR X (zBv .Sub) (rI0 λ i j=>.int (i-j)):=aGa λ _ _ _ _ _ _ _ q=>sub_int q
def aFK:OpR X (zBv .Mult) (rI aDj λ i j=>.int (i*j)):=opI λ _ _ _ _ _ _ _ hc q=>mul_int q hc.ok
def aDE:OpR X (zBv .FloorDiv) (rI aGx λ i j=>.int (i / j)):=opI λ i j _ _ _ _ _ hc q=>by
 have h1:(0:Int)<j:=hc.1;have h2:j<1073741824:=hc.2;exact floordiv_int (by lia) (by rw[Int.fdiv_eq_ediv_of_nonneg i (by lia)];exact q) (.inl (PyProof.noPylong_small (by lia)))
def aFL:OpR X (zBv .Mod) (rI (λ _ j=>0<j) λ i j=>.int (i%j)):=opI λ i j _ _ _ _ _ hc q=>by
 have h1:(0:Int)<j:=hc;exact mod_int' (by lia) (by rw[Int.fmod_eq_emod_of_nonneg i (by lia)];exact q)
def aFI:OpR X (zBv .Pow) (rI aHT λ i j=>.int (i^j.toNat)):=opI λ _ _ _ _ _ _ _ hc q=>pow_int_small hc.1 hc.2.1 hc.2.2 q
end
section
variable{X:Cx}{a b c:Expr}{ta tb:TE}{pos:Pos}
def aG8:OpR X (zB2 .Lt) (rI0 λ i j=>.bl (decide (i<j))):=aFR λ _ _ _ _ _ _ _ q=>lt_int q
def aG9:OpR X (zB2 .Gt) (rI0 λ i j=>.bl (decide (j<i))):=aFR λ _ _ _ _ _ _ _ q=>gt_int q
def aEG:OpR X (zB2 .GtE) (rI0 λ i j=>.bl (decide (j<=i))):=aFR λ _ _ _ _ _ _ _ q=>ge_int q
def isObj:HO->Bool
 | .lst _=>true
 | .ins _ _ _=>true
 |_=>false
def aBP(b:Expr)(h:op≠.In:=by decide)(h2:op≠.NotIn:=by decide):zBu op b=false:=by
 have e1:(op==CmpOp.In)=false:=by cases op<;>first|rfl|exact absurd rfl h
 have e2:(op==zGh)=false:=by cases op<;>first|rfl|exact absurd rfl h2
 cases b<;>simp[zBu,e1,e2]
def aCw{op:CmpOp}{r:R2}(ho:OpR X (zB2 op) r)(ha:PE X a ta)(hb:PE X b tb)(hm:zBu op b=false):PE X (.Compare a [op] [b] pos) (tOp r ta tb):=by
 intro pins s Z H Q I h;exact wpAny_Compare1 (aFv ha hb I h λ v u s2 x y H2 I2 rx ry q=>ho pins s2 Z H2 x y v u Q I2 rx ry q) hm
def aDo(t:TE):TT:=λ Z H Q=>t Z H λ x H'=>∃k,x= .bl k/\Q k H'
def aCo(ho:OpR X (zB2 op) r)(ha:PE X a ta)(hb:PE X b tb)(hm:zBu op b=false):PT X (.Compare a [op] [b] pos) (aDo (tOp r ta tb)):=by
 intro pins s Z H Q I h;refine zGH (thn (ha pins s Z H _ I h) λ v s1 ⟨x,H1,I1,r1,q1⟩=>thn (hb pins s1 Z H1 _ I1 q1) λ u s2 ⟨y,H2,I2,r2,q2⟩=>
  thn (ho pins s2 Z H2 x y v u _ I2 r1 r2 q2) λ c s3 ⟨z,H3,I3,r3,k,e,q3⟩=>?_) hm
 subst e;cases r3;exact zDA ⟨H3,I3,q3⟩
def aFz(K:zAA)(x:V)(H:Hp)(k:Bool):Prop:=
 match x with
 | .non=>k=false
 | .bl b=>k=b
 | .int i=>k=(i !=0)
 | .str y=>y.length<=zAN/\k=((y.length:Int)!=0)
 | .byt y=>y.size<=zAN/\k=((y.size:Int)!=0)
 | .ref p=>(∃xs,SqL K H p xs/\k= !xs.isEmpty)\/(∃xs,SqT K H p xs/\k= !xs.isEmpty)\/∃kvs,H p=some (.dK kvs)/\k= !kvs.isEmpty
 |_=>False
def xX(r:KV kvs vs):(!vs.isEmpty)= !kvs.isEmpty:=by
 cases r<;>rfl
def qW(r:Vals xs its):(!its.toArray.isEmpty)= !xs.isEmpty:=by
 cases r<;>simp
def qM:(zAN:Nat)<2^63:=by rw[zDd];decide
def aEU:aHR X (λ x H Q=>∃k,aFz X.K x H k/\Q k H):=by
 intro pins s Z H x v Q I rx h;obtain⟨k,e,q⟩:=h;have hl:=qM;have hs:zAN=16777216:=zDd;cases x with
 |non=>
  cases rx;have e':k=false:=e;subst e';exact truthy_none ⟨H,I,q⟩
 |bl b=>
  cases rx;have e':k=b:=e;subst e';exact zDA ⟨H,I,q⟩
 |int i=>
  obtain⟨t,rfl⟩:=rx;have e':k=(i !=0):=e;subst e';exact PySem.P.truthy_int ⟨H,I,q⟩
 |str y=>
  obtain⟨t,rfl⟩:=rx;obtain⟨hy,e'⟩:y.length<=zAN/\k=((y.length:Int)!=0):=e;subst e';exact PySem.P.truthy_str (by lia) ⟨H,I.tok _,q⟩
 |byt y=>
  obtain⟨t,rfl⟩:=rx;obtain⟨hy,e'⟩:y.size<=zAN/\k=((y.size:Int)!=0):=e;subst e';exact PySem.W.truthy_bytes (by lia) ⟨H,I.tok _,q⟩
 |ref p=>
  cases rx;have e':(∃xs,SqL X.K H p xs/\k= !xs.isEmpty)\/(∃xs,SqT X.K H p xs/\k= !xs.isEmpty)\/∃kvs,H p=some (.dK kvs)/\k= !kvs.isEmpty:=e
  rcases e' with ⟨xs,hx,e'⟩|⟨xs,hx,e'⟩|⟨kvs,hx,e'⟩
  .subst e'
   obtain⟨its,r,pl,hz⟩:=I.list hx;have hlen:=r.length;exact wpAny_truthy_list pl.isList (by simp only[zAF];lia) ⟨H,I.tok _,by rw[qW r];exact q⟩
  .subst e'
   obtain⟨its,r,pl,hz⟩:=I.tuple hx;have hlen:=r.length;exact truthy_tuple pl (by simp only[zAF];lia) ⟨H,I.tok _,by rw[qW r];exact q⟩
  .subst e'
   obtain⟨hz,hS,vs,r,m⟩:kvs.length<=zAN/\(p==zD3)=false/\∃vs,KV kvs vs/\s.heap.DictOf (uR X.prog X.w) p vs:=I.hok p _ hx
   have hlen:kvs.length=vs.length:=zGM r;exact wpAny_truthy_dict hS m (by lia) ⟨H,I.tok _,by rw[xX r];exact q⟩
 |_=>exact(show False from e).elim
def aAu(ha:PE X a ta)(he:∀whole,isTrue a X.env whole=(do let v <-whole;zEl a.pos;zEi [v] (truthy v))):
  PT X a (λ Z H Q=>ta Z H λ x H'=>∃k,aFz X.K x H' k/\Q k H'):=by
 intro pins s Z H Q I h;exact isTrue_plain (thn (ha pins s Z H _ I h) λ v s1 ⟨x,H1,I1,r1,q1⟩=>aEU pins s1 Z H1 x v Q I1 r1 q1) (he _)
def vals1(r:Vals [x] us):∃u,us=[u]/\RelV x u:=by
 cases r with
 |cons r1 r2=>cases r2;exact⟨_,rfl,r1⟩
def vals2(r:Vals [x,y] us):∃u w',us=[u,w']/\RelV x u/\RelV y w':=by
 cases r with
 |cons r1 r2=>
  cases r2 with
  |cons r3 r4=>cases r4;exact⟨_,_,rfl,r1,r3⟩
def aAH(hc:X.calm=true):jH X (.builtin "max") (λ xs H Q=>∃i j,xs=[.int i,.int j]/\Q (.int (if j>i then j else i)) H):=by
 intro pins s Z H xs us Q I r h;obtain⟨i,j,rfl,q⟩:=h;obtain⟨u,w',rfl,⟨t,rfl⟩,⟨t',rfl⟩⟩:=vals2 r;refine max_two_ints (I.ok.hd hc) λ h' tk k=>⟨_,H,I.kept k,?_,q⟩
 by_cases hj:j>i
 .rw[if_pos hj,if_pos hj];exact⟨_,rfl⟩
 .rw[if_neg hj,if_neg hj];exact⟨_,rfl⟩
def aAG(hc:X.calm=true):jH X (.builtin "min") (λ xs H Q=>∃i j,xs=[.int i,.int j]/\Q (.int (if j<i then j else i)) H):=by
 intro pins s Z H xs us Q I r h;obtain⟨i,j,rfl,q⟩:=h;obtain⟨u,w',rfl,⟨t,rfl⟩,⟨t',rfl⟩⟩:=vals2 r;refine min_two_ints (I.ok.hd hc) λ h' tk k=>⟨_,H,I.kept k,?_,q⟩
 by_cases hj:j<i
 .rw[if_pos hj,if_pos hj];exact⟨_,rfl⟩
 .rw[if_neg hj,if_neg hj];exact⟨_,rfl⟩
end
structure aDg(h:Heap)(x dx C:Addr)(mA:Str->Option Value):Prop where
 obj:h.get? x=some (zBt C dx)
 ns:h.Ns1 dx mA
 ne:dx≠x
def zm{h:Heap}{dx:Addr}{mA:Str->Option Value}(n:h.Ns1 dx mA):∃od,h.get? dx=some od/\∀name,zD6 name od=some (mA name):=by
 obtain⟨o,es,ep,ho,hd,hk,_,hm⟩:=n;refine⟨o,ho,λ name=>?_⟩;have e:=hm name;unfold nsFind findBy at e;rw[<-Array.find?_toList]at e;unfold zD6;rw[hd];dsimp only;split
 .rename_i y q
  rw[q]at e;exact congrArg some e
 .rename_i q
  rw[q]at e;have a:es.toList.any (·.refKey)=false:=by
   rw[List.any_eq_false];intro y hy;obtain⟨z,t,hkey⟩:=hk y (Array.mem_toList_iff.mp hy);simp[DictEntry.refKey,hkey]
  have a':¬es.toList.any (·.refKey)=true:=by rw[a];exact zAI
  rw[if_neg a'];exact congrArg some e
def aDg.look(I:aDg h x dx C mA):∃od,zFu h x (zBt C dx) C (some od)/\∀name,zD6 name od=some (mA name):=
 let⟨od,ho,hl⟩:=zm I.ns
 ⟨od,⟨I.obj,rfl,rfl,ho⟩,hl⟩
section
variable{prog:zAS}{w:World}{A:zA8}{E:Value->zAB->Prop}{s:zAB}{K:zAA}{x dx C f:Addr}{mA:Str->Option Value}{name:Str}
def aBo(X:K.In s.heap)(I:aDg s.heap x dx C mA)(hg:zEA K C name=true)
  (hf:zBD K (.ref C) name=some (some (.ref f)))(ht:zGN K (.ref f)=true)(hv:mA name=none)(h:Q (.ref f,[.ref x]) s):
  wpAny (model prog w) A (getMethod (.ref x) name pl) Q E s:=by
 obtain⟨od,J,hl⟩:=I.look;exact PySem.W.method_fn X J (zFI hg).1 (zFI hg).2 hf (beq_iff_eq.mp ht) (by show(zD6 name od).map (·.isSome)=some false;rw[hl,hv];rfl) h
def make_map(X:K.In s.heap)(hm:PySem.W.makesIn K C=true)
  (hi:zBD K (.ref C) "__init__"=some (some (.ref f)))(hf:PySem.W.typeIn K (.ref f)=some (.type "function"))
  (h:zCH (model prog w) (A.under (.builtin "type.__call__" ⟨.ref C::vs,kw⟩)) (.call (.ref f) ⟨.ref (s.heap.objs.size+1)::vs,kw⟩) (PySem.W.InitBack (s.heap.objs.size+1) R)
   {s with heap:=(s.heap.push zB1).push (zBt C s.heap.objs.size)}):
  zCH (model prog w) A (.call (.ref C) ⟨vs,kw⟩) R s:=by
 obtain⟨hh,g,d,t,os⟩:=s;exact PySem.W.make_core (PySem.W.makes_of X hm) (zCs X hi) (λ self=>PySem.W.bind_fn X self hf) (.inl rfl) h
end
def aAL.none_of(r:aAL none o):o=none:=by
 cases o with
 |none=>rfl
 |some u=>exact(show False from r).elim
section
variable{P:zAS}{w:World}{H:Hp}{h:Heap}{a C dx:Addr}{fs:List (Str×V)}
def yt(hok:HOk P w H h)(e:H a=some (.ins C dx fs)):∃mA,aDg h a dx C mA/\(∀f,aAL (fs.lookup f) (mA f))/\zG7 mA (fs.map (·.1))/\fs.length<=1000/\H dx=some (.own a):=by
 obtain⟨d,z,ne,ob,mA,n,r,q⟩:=(show cH P w H h a (.ins C dx fs)from hok a _ e);exact⟨mA,⟨ob,n,ne⟩,r,q,z,d⟩
end
structure Cls(K:zAA)(C:Addr):Prop where
 pg:zEA K C Str.empty=true
 hd:PySem.W.hasDictIn K C=true
 po:PySem.W.plainOver K C=true
 sa:zBD K (.ref C) "__setattr__"=some (some (.builtin "object.__setattr__"))
def Cls.get{K:zAA}{C:Addr}(c:Cls K C)(f:Str):zEA K C f=true:=c.pg
def aGA(K:zAA)(C:Addr)(f:Str):Prop:=zBD K (.ref C) f=some none
structure Meth(K:zAA)(C:Addr)(m:Str)(f:Addr):Prop where
 at_:zBD K (.ref C) m=some (some (.ref f))
 fn:zGN K (.ref f)=true
 kp:zB4 K (.ref f)=true
section
variable{X:Cx}{pins:List (Addr×Obj)}{Z:St}{H:Hp}{s:zAB}{a C dx:Addr}{fs:List (Str×V)}{A:zA8}{E:Value->zAB->Prop}
def xf(I:Inv X pins Z H s)(e:H a=some (.ins C dx fs))(c:Cls X.K C)(k:Meth X.K C m g)(l:fs.lookup m=none)
  (h:Q (.ref g,[.ref a]) s):wpAny (model X.prog X.w) A (getMethod (.ref a) m pl) Q E s:=by
 obtain⟨mA,O,r,_,_,_⟩:=yt I.hok e;have hn:mA m=none:=aAL.none_of (by rw[<-l];exact r m);exact aBo I.kIn O (c.get m) k.at_ k.fn hn h
def Inv.made(I:Inv X pins Z H s):Inv X pins Z (upd (upd H s.heap.objs.size (.own (s.heap.objs.size+1))) (s.heap.objs.size+1) (.ins C s.heap.objs.size []))
  {s with heap:=(s.heap.push zB1).push (zBt C s.heap.objs.size)}:=by
 have e1:(s.heap.push zB1).get? s.heap.objs.size=some zB1:=zAh s.heap rfl;have e2:((s.heap.push zB1).push (zBt C s.heap.objs.size)).get? (s.heap.objs.size+1)=some (zBt C s.heap.objs.size):=by
  have:=zAh (s.heap.push zB1) (o:=zBt C s.heap.objs.size) rfl
  rwa [zCS]at this
 have e3:(s.heap.push zB1).Ns s.heap.objs.size (λ _=>none):=⟨zB1,#[],_,e1,rfl,(λ e he=>absurd he (by simp)),λ _=>rfl⟩;have I1:=I.laid (a:=s.heap.objs.size) (o:=.own (s.heap.objs.size+1)) (h':=s.heap.push zB1) (t':=s.toks) (λ b u q=>zAD _ q) (zAP _) ⟨_,e1⟩;refine I1.laid (a:=s.heap.objs.size+1) (o:=.ins C s.heap.objs.size []) (t':=s.toks) (λ b u q=>zAD _ q) (zF0 (zCS _ _)) ?_;have ne:s.heap.objs.size≠s.heap.objs.size+1:=zAk (zDZ _);refine⟨by rw[aQ ne,aj],zAn _,ne,e2,λ _=>none,(Heap.Ns1.of_empty e3).at λ o q=>zAD _ q,λ _=>zDT,λ y hy=>absurd rfl hy⟩
end
def tFld(K:zAA)(ta:TE)(f:Str):TE:=λ Z H Q=>ta Z H λ x H1=>∃a C dx fs v,x= .ref a/\H1 a=some (.ins C dx fs)/\Cls K C/\aGA K C f/\fs.lookup f=some v/\Q v H1
section
variable{X:Cx}{e:Expr}{f:Str}{pos:Pos}
def methcall_of(he:PE X e te)(I:Inv X pins Z H s)
  (h:te Z H λ x H1=>∃a C dx fs g,x= .ref a/\H1 a=some (.ins C dx fs)/\Cls X.K C/\Meth X.K C m g/\fs.lookup m=none/\
   ∀s1,Inv X pins Z H1 s1->wpAny (model X.prog X.w) X.A (callWith pos (.ref g) [.ref a] (zCQ pos (zAY args X.env)) (zFD pos (zDc [] X.env))) Q X.xe s1)
  (ht:eval (.Call (.Attribute e m apos) args [] pos) X.env=(do
   let ov <-eval e X.env
   zEl apos.atName
   let(f,first) <-zEi [ov] (getMethod ov m pl)
   callWith pos f first (zCQ pos (zAY args X.env)) (zFD pos (zDc [] X.env)))):
  wpAny (model X.prog X.w) X.A (eval (.Call (.Attribute e m apos) args [] pos) X.env) Q X.xe s:=by
 refine PySem.W.methodCall_KW (pl:=pl) (thn (he pins s Z H _ I h) λ u s1 ⟨x,H1,I1,rx,a,C,dx,fs,g,ex,ea,c,k,l,q⟩=>?_) ht;subst ex;obtain rfl:u=zBb a:=rx;exact xf I1 ea c k l (q s1 I1)
end
section
variable{X:Cx}{pins:List (Addr×Obj)}{Z:St}{H:Hp}{s:zAB}{A:zA8}{E:Value->zAB->Prop}{Q:Value->zAB->Prop}{c:Value}{b:Bool}
inductive nW(K:zAA)(H:Hp):V->Value->Prop where
 |non:nW K H .non (.type "NoneType")
 |bl (x:Bool):nW K H (.bl x) (.type "bool")
 |int (i:Int):nW K H (.int i) (.type "int")
 |str (x:Str):nW K H (.str x) (.type "str")
 |flt (x:UInt64):nW K H (.flt x) (.type "float")
 |lst {a:Addr} {xs:List V} (e:H a=some (.lst xs)):nW K H (.ref a) (.type "list")
 |frz {a:Addr} {o:Obj} {xs:List V} (e:H a=some (.frz o (.lst xs))):nW K H (.ref a) (.type "list")
 |tup {a:Addr} {xs:List V} (e:H a=some (.tup xs)):nW K H (.ref a) (.type "tuple")
 |dK {a:Addr} {kvs:List (Key×V)} (e:H a=some (.dK kvs)):nW K H (.ref a) (.type "dict")
 |dT {a:Addr} {kvs:List (List Key×V)} (e:H a=some (.dT kvs)):nW K H (.ref a) (.type "dict")
 |ins {a C dx:Addr} {fs:List (Str×V)} (e:H a=some (.ins C dx fs)) (cl:Cls K C) (ha:zBD K (.ref C) "__class__"=some (some (.builtin "object.__class__")))
   (hn:PySem.W.specialIn K (.builtin "object.__class__") "__get__"=some (some (.builtin "getset_descriptor.__get__"))) (htk:PySem.W.takesIn K (.builtin "object.__class__")=some true)
   (hm:PySem.W.mroIn K C (.type "object")=some true):nW K H (.ref a) (.ref C)
def zz(I:Inv X pins Z H s)(rx:RelV x u)(ty:nW X.K H x t)(e:zBd X.K t c=some b)(h:∀tk,Q (.bool b) {s with toks:=tk}):
  wpAny (model X.prog X.w) A (call (.builtin "isinstance") [u,c]) Q E s:=by
 cases ty with
 |non=>cases (show u=zFi from rx);exact zBC PySem.W.kitx_none I.kIn zDT e (λ z=>nomatch z) h
 |bl y=>cases (show u=zCf y from rx);exact zBC PySem.W.kitx_bool I.kIn zDT e (λ z=>nomatch z) h
 |int i=>obtain⟨t,q⟩:=(show∃t,u=zEY i t from rx);cases q;exact zBC PySem.W.kitx_int I.kIn zDT e (λ z=>nomatch z) h
 |str y=>obtain⟨t,q⟩:=(show∃t,u=zGE y t from rx);cases q;exact zBC PySem.W.kitx_str I.kIn zDT e (λ z=>nomatch z) h
 |flt y=>obtain⟨t,q⟩:=(show∃t,u=zGp y t from rx);cases q;exact zBC PySem.W.kitx_float I.kIn zDT e (λ z=>nomatch z) h
 |@lst a xs ea=>
  cases (show u=zBb a from rx);obtain⟨_,_,n,_,h1⟩:=(show cH X.prog X.w H s.heap a (.lst xs)from I.hok a _ ea);exact zBC zF3 I.kIn ⟨_,h1,rfl⟩ e (λ z=>nomatch z) h
 |@frz a ob xs ea=>
  cases (show u=zBb a from rx);obtain⟨_,_,_,n,_,h1⟩:=(show cH X.prog X.w H s.heap a (.frz ob (.lst xs))from I.hok a _ ea);exact zBC zF3 I.kIn ⟨_,h1,rfl⟩ e (λ z=>nomatch z) h
 |@tup a xs ea=>
  cases (show u=zBb a from rx);obtain⟨_,_,_,p⟩:=(show cH X.prog X.w H s.heap a (.tup xs)from I.hok a _ ea);obtain⟨o,h1,h2,_⟩:=p;exact zBC zFT I.kIn ⟨o,h1,h2⟩ e (λ z=>nomatch z) h
 |@dK a kvs ea=>
  cases (show u=zBb a from rx);obtain⟨_,_,vs,_,p⟩:=(show cH X.prog X.w H s.heap a (.dK kvs)from I.hok a _ ea);obtain⟨o,es,ep,h1,h2,_⟩:=p;exact zBC zDr I.kIn ⟨o,h1,h2.1⟩ e (λ z=>nomatch z) h
 |@dT a kvs ea=>
  cases (show u=zBb a from rx);obtain⟨_,_,xs,_,o,es,ep,h1,h2,_⟩:=(show cH X.prog X.w H s.heap a (.dT kvs)from I.hok a _ ea);exact zBC zDr I.kIn ⟨o,h1,h2.1⟩ e (λ z=>nomatch z) h
 |@ins a C dx fs ea cl ha hn htk hm=>
  cases (show u=zBb a from rx);obtain⟨mA,O,_⟩:=yt I.hok ea;obtain⟨od,J,_⟩:=O.look;exact zBC (PySem.W.kitx_own (cl.get _) cl.hd ha hn htk hm) I.kIn J e (λ z=>nomatch z) h
end
structure cX(k:Nat)(A:zA8):Prop where
 hd:A.handled=none
 dp:A.depth+3*k+5<zEH
 un:A.units+16*k+200<cLine
def cX.mono(r:cX k A)(h:j<=k):cX j A:=⟨r.hd,by have:=r.dp;lia,by have:=r.un;lia⟩
theorem cX.deeper(r:cX (k+1) A)(env:Env):cX k (A.deeper env):=
 ⟨r.hd,by have:=r.dp;show A.depth+1+3*k+5<_;lia,by have:=r.un;show A.units+3+16*k+200<_;lia⟩
theorem cX.depth(r:cX k A):A.depth<zEH:=by have:=r.dp;lia
theorem cX.units(r:cX k A):A.units+64<cLine:=by have:=r.un;lia
def cX.units0(r:cX k A):A.units<cLine:=by have:=r.un;lia
def qx:TA:=λ _ H Q=>Q [] H
def jE(ta:TE)(tr:TA):TA:=λ Z H Q=>ta Z H λ x H1=>tr Z H1 λ xs H2=>Q (x::xs) H2
section
variable{X:Cx}{e:Expr}{es:List Expr}{te:TE}{t:TA}{pos:Pos}
def cg:PA X [] qx:=λ _ _ _ _ H Q I h=>Calls.spliced_nil ⟨[],H,I,.nil,h⟩
def aV(ha:PE X e te)(hr:PA X es t)(hs:zAY (e::es) X.env=(false,eval e X.env)::zAY es X.env:=by rfl):PA X (e::es) (jE te t):=by
 intro pos pins s Z H Q I h;rw[hs];show wpAny _ _ (spliced ((false,eval e X.env)::zCQ pos (zAY es X.env))) _ _ s;refine Calls.spliced_cons (thn (ha pins s Z H _ I h) λ u s1 ⟨x,H1,I1,r1,q1⟩=>?_);exact thn (hr pos pins s1 Z H1 _ I1 q1) λ us s2 ⟨xs,H2,I2,r2,q2⟩=>⟨x::xs,H2,I2,.cons r1 r2,q2⟩
def aHA(t:TA):TE:=λ Z H Q=>t Z H λ xs H1=>xs.length<=zAN/\∀p,H1 p=none->Q (.ref p) (upd H1 p (.tup xs))
def aHE(t:TA):TE:=λ Z H Q=>t Z H λ xs H1=>xs.length<=zAN/\∀p,H1 p=none->Q (.ref p) (upd H1 p (.lst xs))
def aEt{x1}(h:PA X es t):PE X (.Tuple es x1 pos) (aHA t):=by
 intro pins s Z H Q I hq;refine wpAny_Tuple_spliced (thn (h pos pins s Z H _ I hq) λ us s1 ⟨xs,H1,I1,r,z,q⟩=>⟨by rw[<-r.length];exact z,?_⟩);have hf:H1 s1.heap.objs.size=none:=I1.hok.fresh (zAP _);refine⟨.ref s1.heap.objs.size,upd H1 s1.heap.objs.size (.tup xs),I1.laid (t':=s1.toks) (λ b u e=>zAD _ e) (zAP _) ?_,rfl,q _ hf⟩;exact⟨⟨z,NoD.push _⟩,us,r,⟨_,zAh _ rfl,rfl,_,rfl⟩⟩
def aEw(h:PA X es t):PE X (.List es pos) (aHE t):=by
 intro pins s Z H Q I hq;refine wpAny_List_spliced (thn (h pos pins s Z H _ I hq) λ us s1 ⟨xs,H1,I1,r,z,q⟩=>⟨by rw[<-r.length];exact z,?_⟩);have hf:H1 s1.heap.objs.size=none:=I1.hok.fresh (zAP _);refine⟨.ref s1.heap.objs.size,upd H1 s1.heap.objs.size (.lst xs),I1.laid (t':=s1.toks) (λ b u e=>zAD _ e) (zAP _) ?_,rfl,q _ hf⟩;exact⟨z,us,0,r,zAh _ rfl⟩
end
abbrev Sp:=List V->Hp->VK->XK->Prop
abbrev CXT:=List Env->Hp->zAB->XK->Value->zAB->Prop
structure wK(P:zAS)(w:World)(K:zAA)(mg:Str->Option Value)(base:Heap)(A:zA8)(outer:List Env)(s:zAB)(H:Hp):Prop where
 frames:A.frames=some outer
 mod:Mod K mg base
 bs:∀b o,base.get? b=some o->s.heap.get? b=some o/\H b=none
 bsz:base.objs.size<=s.heap.objs.size
 funs:s.heap.FunFrames base outer
 frf:∀b∈frs outer,H b=none
 hok:HOk P w H s.heap
 bare:zDp s.gens
def CE(outer:List Env)(P:zAS)(w:World)(H:Hp)(s:zAB)(Q:VK)(u:Value)(s':zAB):Prop:=
 ∃v H',s'.os=s.os/\zDp s'.gens/\Un (frs outer) [] H H' s.heap s'.heap/\HOk P w H' s'.heap/\RelV v u/\Q v H'
def CR(CX:CXT)(outer:List Env)(P:zAS)(w:World)(H:Hp)(s:zAB)(Q:VK)(E:XK)(r:zFJ)(s':zAB):Prop:=
 match r with
 | .ok (.ret u)=>CE outer P w H s Q u s'
 | .ok _=>False
 | .error e=>CX outer H s E e s'
structure dC(P:zAS)(w:World)(K:zAA)(mg:Str->Option Value)(base:Heap)(CX:CXT)(k:Nat)(f:Addr)(fd:zAy)(ps:List Str)(sp:Sp):Prop where
 len:∀vs H Q E,sp vs H Q E->vs.length=ps.length
 run:∀(A:zA8) (outer:List Env) (s:zAB) (H:Hp) (args:Args) (us:List Value) (vs:List V) (Q:VK) (E:XK),cX k A->wK P w K mg base A outer s H->zFc s fd args (ps.zip us)->Vals vs us->sp vs H Q E->
  zCH (model P w) A (.call (.ref f) args) (CR CX outer P w H s Q E) s
section
variable{X:Cx}{pins:List (Addr×Obj)}{Z:St}{H:Hp}{s s':zAB}
def Inv.env0(I:Inv X pins Z H s):wK X.prog X.w X.K X.mg X.base X.A X.stack s H:=
 ⟨I.ok.frames,I.ok.mod,I.bs,zAr I.ok.bsz I.sz,I.stack,I.stkFree,I.hok,I.bare⟩
def Inv.after(I:Inv X pins Z H s)(h:CE X.stack X.prog X.w H s Q u s'):EP X pins Z Q u s':=by
 obtain⟨v,H',os,bare,un,hok,r,q⟩:=h;obtain⟨hh,g,d,t,os'⟩:=s';obtain rfl:os'=s.os:=os;exact⟨v,H',I.call (h':=hh) (g':=g) (d':=d) (t':=t) (ch:=[]) un hok bare (λ b z=>absurd z (by simp)),r,q⟩
end
def vG(sp:Sp)(dvs:List V)(E:XK)(t:TA):TE:=λ Z H Q=>t Z H λ vs H1=>sp (vs++dvs) H1 Q E
def tMeth(C:Addr)(m:Str)(sp:Sp)(dvs:List V)(E:XK)(ta:TE)(t:TA):TE:=λ Z H Q=>ta Z H λ x H1=>∃a dx fs,x= .ref a/\H1 a=some (.ins C dx fs)/\fs.lookup m=none/\
 t Z H1 λ vs H2=>sp (x::(vs++dvs)) H2 Q E
def tMake(C:Addr)(sp:Sp)(dvs:List V)(E:XK)(t:TA):TE:=λ Z H Q=>t Z H λ vs H1=>∀x dx,H1 x=none->H1 dx=none->dx≠x->
 sp (.ref x::(vs++dvs)) (upd (upd H1 dx (.own x)) x (.ins C dx [])) (λ v H2=>v= .non/\Q (.ref x) H2) E
def Binds(K:zAA)(fd:zAy)(ps:List Str)(ds:List Value):Prop:=
 ∀(s:zAB) (us:List Value),K.In s.heap->(us++ds).length=ps.length->zFc s fd ⟨us,[]⟩ (ps.zip (us++ds))
def Binds.all{K:zAA}{fd:zAy}{ps:List Str}(h:∀us:List Value,us.length=ps.length->zG9 fd ⟨us,[]⟩=pure (ps.zip us)):Binds K fd ps []:=λ s us _ hl=>by
 rw[zA3]at hl ⊢;exact .of_eq (h us hl)
def lK(CX:CXT)(X:Cx)(E:XK):Prop:=∀(pins:List (Addr×Obj)) (Z:St) (H:Hp) (s:zAB) (e:Value) (s':zAB),Inv X pins Z H s->CX X.stack H s E e s'->X.xe e s'
section
variable{X:Cx}{CX:CXT}{k:Nat}{f:Addr}{fd:zAy}{ps:List Str}{sp:Sp}{dvs:List V}{ds:List Value}{E:XK}{x:Str}{p pos:Pos}{e:Expr}{es:List Expr}{t:TA}
def aAk(F:dC X.prog X.w X.K X.mg X.base CX k f fd ps sp)(hr:cX k X.A)(hb:Binds X.K fd ps ds)(hd:Vals dvs ds)(hx:lK CX X E)
  (I:Inv X pins Z H s)(r:Vals vs us)(h:sp (vs++dvs) H Q E):wpAny (model X.prog X.w) X.A (call (.ref f) us) (EP X pins Z Q) X.xe s:=by
 have r2:Vals (vs++dvs) (us++ds):=r.append hd;have hl:(us++ds).length=ps.length:=by rw[<-r2.length];exact F.len _ _ _ _ h
 refine zGu (zDu (F.run X.A X.stack s H ⟨us,[]⟩ (us++ds) (vs++dvs) Q E hr I.env0 (hb s us I.kIn hl) r2 h) λ r s' hq=>?_);cases r with
 |error e=>exact hx pins Z H s e s' I hq
 |ok fl=>
  cases fl with
  |ret u=>exact I.after hq
  |next=>exact zAE hq
  |brk=>exact zAE hq
  |cont=>exact zAE hq
def aCx(F:dC X.prog X.w X.K X.mg X.base CX k f fd ps sp)(hr:cX k X.A)(hg:Gl X x)(hm:X.mg x=some (.ref f))(hk:zB4 X.K (.ref f)=true)(hb:Binds X.K fd ps ds)(hd:Vals dvs ds)(hx:lK CX X E)
  (ha:PA X (e::es) t)(hdb:Nd x:=by decide)(he:zAY (e::es) X.env=(false,eval e X.env)::zAY es X.env:=by rfl)(hpl:(zCQ pos (zAY es X.env)).any (·.1)=false:=by rfl):
  PE X (.Call (.Name x p) (e::es) [] pos) (vG sp dvs E t):=by
 intro pins s Z H Q I h;refine zCO (jf I hg hm ?_ hdb);refine zDj (h₀:=X.base) I.ok.mod.kin hk (thn (ha pos pins s Z H _ I h) λ us s1 ⟨vs,H1,I1,r,q⟩=>⟨I1.kIn,?_⟩) he hpl;exact aAk F hr hb hd hx I1 r q
end
structure aq(N P:List Str)(sc:Scope):Prop where
 kind:sc.kind= .function
 co:sc.isCoroutine=false
 gen:sc.isGenerator=false
 nd:N.Nodup
 pre:N.take P.length=P
 par:∀x∈P,sc.names.lookup x=some .local\/sc.names.lookup x=some .cell
 nofree:∀y∈sc.names,y.2≠.free
theorem su{zB0:Str->Option zDG}{x:Str}:∀{binds:List (Str×Value)} {m:Str->Option Value},(∀v,(x,v)∉binds)->bindL zB0 binds m x=m x
 |[],_,_=>rfl
 |(n,v)::r,m,h=>by
  unfold bindL;rw[su λ w hw=>h w (zAb _ hw)];split
  .have:x≠n:=by rintro rfl;exact h v zAU
   simp[this]
  .rfl
theorem tD{zB0:Str->Option zDG}{x:Str}:∀{binds:List (Str×Value)} {m:Str->Option Value},(∀v,(x,v)∉binds)->bindC zB0 binds m x=m x
 |[],_,_=>rfl
 |(n,v)::r,m,h=>by
  unfold bindC;rw[tD λ w hw=>h w (zAb _ hw)];split
  .rfl
  .have:x≠n:=by rintro rfl;exact h v zAU
   simp[this]
theorem sy{zB0:Str->Option zDG}{x:Str}{v:Value}:∀{P:List Str} {vs:List Value} {i:Nat} {m:Str->Option Value},P.Nodup->P[i]? =some x->vs[i]? =some v->zB0 x=some .local->
  bindL zB0 (P.zip vs) m x=some v
 |[],_,_,_,_,h,_,_=>by simp at h
 |_::_,[],_,_,_,_,h,_=>by simp at h
 |p::P,w::vs,0,m,nd,h1,h2,hk=>by
  simp at h1 h2;subst h1;subst h2;show bindL zB0 ((p,w)::P.zip vs) m p=_;unfold bindL;rw[su λ v hv=>(zD5.mp nd).1 (zC8 hv).1,if_pos hk];simp
 |p::P,w::vs,i+1,m,nd,h1,h2,hk=>by
  show bindL zB0 ((p,w)::P.zip vs) m x=_;unfold bindL;exact sy (i:=i) (zD5.mp nd).2 (by simpa using h1) (by simpa using h2) hk
theorem tE{zB0:Str->Option zDG}{x:Str}{v:Value}:∀{P:List Str} {vs:List Value} {i:Nat} {m:Str->Option Value},P.Nodup->P[i]? =some x->vs[i]? =some v->zB0 x≠some .local->
  bindC zB0 (P.zip vs) m x=some v
 |[],_,_,_,_,h,_,_=>by simp at h
 |_::_,[],_,_,_,_,h,_=>by simp at h
 |p::P,w::vs,0,m,nd,h1,h2,hk=>by
  simp at h1 h2;subst h1;subst h2;show bindC zB0 ((p,w)::P.zip vs) m p=_;unfold bindC;rw[tD λ v hv=>(zD5.mp nd).1 (zC8 hv).1,if_neg hk];simp
 |p::P,w::vs,i+1,m,nd,h1,h2,hk=>by
  show bindC zB0 ((p,w)::P.zip vs) m x=_;unfold bindC;exact tE (i:=i) (zD5.mp nd).2 (by simpa using h1) (by simpa using h2) hk
def start(N:List Str)(vs:List V):St:=vs.map some++zAT (N.length-vs.length) none
def oX(CX:CXT)(P:zAS)(w:World)(K:zAA)(mg:Str->Option Value)(base:Heap)(N:List Str)(qual:Str)(scope:Scope)(f:Addr)(cd:Value)(A:zA8)(outer:List Env)(s:zAB)(H:Hp)(E:XK):Cx where
 prog:=P
 w:=w
 K:=K
 mg:=mg
 base:=base
 A:=A.deeper (zC6 qual scope s.heap.objs.size f cd)
 N:=N
 z5:=s
 z0:=H
 env:=zC6 qual scope s.heap.objs.size f cd
 outer:=outer
 stack:=zC6 qual scope s.heap.objs.size f cd::outer
 ex:=[]
 calm:=true
 fn:=λ _=>true
 pn:=[]
 xe:=λ e s'=>wpAny (model P w) (A.deeper (zC6 qual scope s.heap.objs.size f cd)) (leaving (zC6 qual scope s.heap.objs.size f cd) e) (λ _ s''=>CX outer H s E e s'') (λ e' s''=>CX outer H s E e' s'') s'
def mZ{sc:Scope}{n:Nat}{x:Str}(h:sc.names.lookup x=some .cell):∃c,(zC5 n sc.names []).lookup x=some c:=by
 have q:=zCa sc.names n [] (.inl h);exact Option.isSome_iff_exists.mp q
def nM{CX:CXT}{P:zAS}{w:World}{K:zAA}{mg:Str->Option Value}{base:Heap}{N ps:List Str}{qual:Str}{scope:Scope}{f:Addr}{cd:Value}{A:zA8}{outer:List Env}{s s1:zAB}{H:Hp}{E:XK}{us:List Value}{vs:List V}
  (S:aq N ps scope)(hd:A.handled=none)(e0:wK P w K mg base A outer s H)(hl:vs.length=ps.length)(r:Vals vs us)
  (x:InCallC s s.heap.objs.size (bindL (zC6 qual scope s.heap.objs.size f cd).kindOf (ps.zip us) λ _=>none) (zC5 (s.heap.objs.size+1) scope.names []) (bindC (zC6 qual scope s.heap.objs.size f cd).kindOf (ps.zip us) λ _=>none) s1):
  Inv (oX CX P w K mg base N qual scope f cd A outer s H E) [] (start N vs) H s1:=by
 have hpl:ps.length<=N.length:=by have:=congrArg zE4 S.pre;rw[zAV]at this;lia
 obtain⟨h1,tk,rfl,hk⟩:=x.done;have noA:∀b:Addr,b∉(oX CX P w K mg base N qual scope f cd A outer s H E).ex:=λ b z=>absurd (show b∈([]:List Addr)from z) (by simp)
 refine⟨⟨e0.mod,S.kind,rfl,rfl,zAP _,λ y z c h1 h2=>?_,λ y hy=>?_,λ y c _ h=>?_,λ _=>hd,zFE e0.frames,.inr ⟨rfl,rfl⟩,λ b z=>absurd z (noA b),e0.bs,e0.bsz,λ b _ _=>noA b,λ b z=>absurd z (noA b),e0.funs,e0.frf⟩,
  rfl,e0.bare,Un.kept hk,⟨_,x.toInCall.ns,λ i y v h1 h2 h3=>?_⟩,λ y c h=>⟨_,x.cell y c h⟩,e0.hok.fresh (zAP _),λ y c h=>?_,λ p hp=>absurd (show p∈([]:List (Addr×Obj))from hp) (by simp),e0.hok.kept hk,?_,λ p hp=>absurd (show p∈([]:List (Addr×Obj))from hp) (by simp)⟩
 .exact name_of_addr x.apart (zAg h1) (zAg h2)
 .have hy:scope.names.lookup y=some .cell\/scope.names.lookup y=some .free:=hy
  rcases hy with hy|hy
  .exact mZ hy
  .exact absurd rfl (S.nofree _ (zAg hy))
 .exact zCL (x.above y c (zAg h))
 .have hi:i<vs.length:=by
   unfold start at h2;by_cases hi:i<vs.length
   .exact hi
   .rw[zBK (by simpa using hi)]at h2
    rw[zFA]at h2;split at h2<;>cases h2
  have ha:vs[i]? =some v:=by
   unfold start at h2;rw[zAx (by simpa using hi),zAi]at h2;cases e:vs[i]? with
   |none=>rw[e]at h2;cases h2
   |some a=>rw[e]at h2;cases h2;rfl
  obtain⟨u,hu,rv⟩:=r.get ha;have hp:ps[i]? =some y:=by
   rw[<-S.pre,zAz (by lia)];exact h1
  have ndP:ps.Nodup:=by rw[<-S.pre];exact S.nd.sublist (zFr _ _)
  refine⟨u,rv,?_⟩;rcases S.par y (zBM hp)with k|k
  .exact .inl ⟨k,sy ndP hp hu k⟩
  .obtain⟨c,e⟩:=mZ (n:=s.heap.objs.size+1) k
   refine .inr ⟨.inl k,c,e,?_⟩;have q:=x.cell y c e;rw[tE ndP hp hu (by show scope.names.lookup y≠_;rw[k];decide)]at q;exact q
 .exact e0.hok.fresh (zCL (x.above y c (zAg h)))
 .unfold start
  show _=N.length;rw[zAC,zAH,zCq];lia
def aGl{CX:CXT}{P:zAS}{w:World}{K:zAA}{mg:Str->Option Value}{base:Heap}{k:Nat}{f:Addr}{name qual:Str}{params:zCh}{body:List Stmt}{scope:Scope}{dV kV doc pm cdv ct oc:Value}{an od:Option Addr}
  {osl:Array (Option Value)}{N ps:List Str}{sp:Sp}(lk:K.lookup f=some ⟨oc,od,.func (zB6 name qual params body scope dV kV doc pm an cdv ct),osl⟩)(hcd:zCe K cdv qual=true)(S:aq N ps scope)
  (len:∀vs H Q E,sp vs H Q E->vs.length=ps.length)
  (hbody:∀(A:zA8) (outer:List Env) (s:zAB) (H:Hp) (vs:List V) (Q:VK) (E:XK),cX k (A.deeper (zC6 qual scope s.heap.objs.size f cdv))->sp vs H Q E->
   ∃t,PSs (oX CX P w K mg base N qual scope f cdv A outer s H E) body t/\t {nx:=λ _ H'=>Q .non H',rt:=Q} (start N vs) H):
  dC P w K mg base CX (k+1) f (zB6 name qual params body scope dV kV doc pm an cdv ct) ps sp:=by
 refine⟨len,λ A outer s H args us vs Q E hr e0 hb r hsp=>?_⟩;have hl:=len _ _ _ _ hsp;have KX:K.In s.heap:=e0.mod.kin.keeps λ b o e=>(e0.bs b o e).1
 have lim:s.heap.NoLimit:=e0.mod.nolimit.keeps λ b o e=>(e0.bs b o e).1
 have hkind:∀y∈ps.zip us,scope.names.lookup y.1=some .local\/(scope.names.lookup y.1=some .cell/\((zC5 (s.heap.objs.size+1) scope.names []).lookup y.1).isSome=true):=λ⟨n,v⟩ hy=>by
  rcases S.par n (zC8 hy).1 with q|q
  .exact .inl q
  .exact .inr ⟨q,zCa _ _ _ (.inl q)⟩
 refine zDt hr.depth (KX _ _ lk) rfl S.co S.gen rfl (zDk KX hcd) (hb _ _ _ _ ?_);refine zDW S.kind hkind λ env he s1 x=>?_
 subst he;refine⟨lim.keeps x.toInCall.keep,zGF ?_⟩;obtain⟨t,ht,hq⟩:=hbody A outer s H vs Q E (hr.deeper _) hsp;have I:Inv (oX CX P w K mg base N qual scope f cdv A outer s H E) [] (start N vs) H s1:=nM S hr.hd e0 hl r x;refine zBE (ht [] s1 (start N vs) H _ I hq) (λ fl s' hs=>?_) λ e s' hs=>hs
 have fin:∀{Z':St} {H':Hp} {v:V} {u:Value},Inv (oX CX P w K mg base N qual scope f cdv A outer s H E) [] Z' H' s'->RelV v u->Q v H'->CE outer P w H s Q u s':=
  λ{Z' H' v u} J rv q=>⟨v,H',J.os,J.bare,J.base,J.hok,rv,q⟩
 cases fl with
 |ret u=>
  obtain⟨v,Z',H',J,rv,q⟩:=hs;exact fin J rv q
 |next=>
  obtain⟨Z',H',J,q⟩:=hs;exact fin (v:=V.non) (u:=zFi) J rfl q
 |brk=>
  obtain⟨_,_,_,q⟩:=hs;exact zAE q
 |cont=>
  obtain⟨_,_,_,q⟩:=hs;exact zAE q
section
variable{X:Cx}{x:Str}{p pos:Pos}{e:Expr}{es:List Expr}{t:TA}{id T:String}{r:List V->Hp->VK->Prop}
def tCB(r:List V->Hp->VK->Prop)(t:TA):TE:=λ Z H Q=>t Z H λ vs H1=>r vs H1 Q
def mD(hc:jH X (.builtin id) r)(hg:Gl X x)(hm:X.mg x=none)(hv:zB5 x=some (.builtin id))(ha:PA X (e::es) t)(hn:x≠"__name__":=by decide)(hdb:Nd x:=by decide)
  (he:zAY (e::es) X.env=(false,eval e X.env)::zAY es X.env:=by rfl)(hpl:(zCQ pos (zAY es X.env)).any (·.1)=false:=by rfl):PE X (.Call (.Name x p) (e::es) [] pos) (tCB r t):=by
 intro pins s Z H Q I h;refine zCO (qP I hg hm hv ?_ hn hdb);exact PyProof.Rows.callWith_builtin1 (thn (ha pos pins s Z H _ I h) λ us s1 ⟨vs,H1,I1,r1,q1⟩=>hc pins s1 Z H1 vs us Q I1 r1 q1) he hpl
def z7(hc:jH X (.type T) r)(hg:Gl X x)(hm:X.mg x=none)(hv:zB5 x=some (.type T))(ha:PA X (e::es) t)(hn:x≠"__name__":=by decide)(hdb:Nd x:=by decide)
  (he:zAY (e::es) X.env=(false,eval e X.env)::zAY es X.env:=by rfl)(hpl:(zCQ pos (zAY es X.env)).any (·.1)=false:=by rfl):PE X (.Call (.Name x p) (e::es) [] pos) (tCB r t):=by
 intro pins s Z H Q I h;refine zCO (qP I hg hm hv ?_ hn hdb);exact zCg (thn (ha pos pins s Z H _ I h) λ us s1 ⟨vs,H1,I1,r1,q1⟩=>hc pins s1 Z H1 vs us Q I1 r1 q1) he hpl
end
end L2
namespace HT
open PySem PyProof.Rows
def lexLt:List Int->List Int->Bool
 |[],[]=>false
 |[],_::_=>true
 |_::_,[]=>false
 |x::xs,y::ys=>if x=y then lexLt xs ys else decide (x<y)
def fO(x y:Int)(xs ys:List Int):lexLt (x::xs) (y::ys)=if x=y then lexLt xs ys else decide (x<y):=rfl
def rE:lexLt [] []=false:=rfl
def qN(y:Int)(ys:List Int):lexLt [] (y::ys)=true:=rfl
def qO(x:Int)(xs:List Int):lexLt (x::xs) []=false:=rfl
def aBx(A:zA8)(s:zAB)(a:Int)(t:Tok)(c:Int)(u:Tok):∃e,zDM A s (.int a t) (.int c u) e/\(e=true↔a=c):=
 ⟨(a==c),zEs a t c u,by simp⟩
def aAn(A:zA8)(s:zAB)(a:Int)(t:Tok)(c:Int)(u:Tok)(prog:zAS)(w:World)(E:Value->zAB->Prop)(Q:Value->zAB->Prop)(h:Q (.bool (decide (a<c))) s):
  wpAny (model prog w) A (richCompare .Lt (.int a t) (.int c u)) Q E s:=
 (zE5 h:wpAny (model prog w) A (zB2 .Lt (.int a t) (.int c u)) Q E s)
section
open PySem.SeqAt
open PySem.AutoSeq1(wpAny_loadPart')
open PySem.MeetsSeq PySem.MeetsSeq2 PySem.MeetsSeq3
def qw(l b:Addr)(items items2:Array Value)(n n2:Nat)(dd dd2:Option Addr)(sl sl2:Array (Option Value))(ns ms:List Int)(hi:zBo items.toList ns)(hj:zBo items2.toList ms):
  Meets (zE7.«tuple.__lt__» ⟨[.ref l,.ref b],[]⟩)
   (λ _ R s=>s.heap.get? l=some {cls:=.type "tuple",dict:=dd,data:=.seq items n,slots:=sl}/\s.heap.get? b=some {cls:=.type "tuple",dict:=dd2,data:=.seq items2 n2,slots:=sl2}/\
    R (.ok (.ret (.bool (lexLt ns ms)))) s):=
 .of_wp λ prog w A R s h=>by
  obtain⟨hp,g,d,tk,os⟩:=s;obtain⟨hl,hb,h⟩:=h;have f2:=AutoSeq1.sub_tuple_tuple;have z1:items.size=ns.length:=by rw[<-hi.length];simp
  have z2:items2.size=ms.length:=by rw[<-hj.length];simp
  wp_walk using zCp hl,zCp hb,wpAny_forIn_list _ (λ rest b s'=>b.1=none/\s'=⟨hp,g,d,tk,os⟩/\∃(vs ws:List Value) (ns' ms':List Int),rest=vs.zip ws/\
   zBo vs ns'/\zBo ws ms'/\ns'.length+items2.size=ms'.length+items.size/\R (.ok (.ret (.bool (lexLt ns' ms')))) ⟨hp,g,d,tk,os⟩) _
  case turn=>
   rintro⟨y,x⟩ rest b s' ⟨hb',rfl,vs,ws,ns',ms',hz,hvi,hwi,hlen,hR⟩;cases hvi with
   |nil=>rw[List.zip_nil_left]at hz;cases hz
   |cons a t hvi'=>
    cases hwi with
    |nil=>rw[List.zip_nil_right]at hz;cases hz
    |cons c u hwi'=>
     rw[zBW]at hz;injection hz with hyx hrest
     injection hyx with hy hx
     subst hy hx;rw[fO]at hR;simp only[zAq]at hlen;obtain⟨e,he,hiff⟩:=aBx A.in1 ⟨hp,g,d,tk,os⟩ a t c u;refine zAG (he prog w _ _ ?_);cases e with
     |true=>
      rw[if_pos (hiff.mp rfl)]at hR;wp_walk;exact⟨rfl,rfl,_,_,_,_,hrest,hvi',hwi',by lia,hR⟩
     |false=>
      rw[if_neg (λ q=>absurd (hiff.mpr q) zAI)]at hR;have hri:=aAn A.in1 ⟨hp,g,d,tk,os⟩ a t c u prog w;wp_walk using hri;exact⟨_,rfl,by simpa using hR⟩
  case fin=>
   rintro⟨b1,b2⟩ s' ⟨hb',rfl,vs,ws,ns',ms',hz,hvi,hwi,hlen,hR⟩;simp only at hb';subst hb';have hv:lexLt ns' ms'=decide (items.size<items2.size):=by
    cases hvi with
    |nil=>
     cases hwi with
     |nil=>
      simp only[zDE]at hlen;rw[rE];exact(decide_eq_false (by lia)).symm
     |cons c u hw=>
      simp only[zDE,zAq]at hlen;rw[qN];exact(decide_eq_true (by lia)).symm
    |cons a t hv=>
     cases hwi with
     |nil=>
      simp only[zDE,zAq]at hlen;rw[qO];exact(decide_eq_false (by lia)).symm
     |cons c u hw=>
      rw[zBW]at hz;cases hz
   rw[hv]at hR;wp_walk;exact⟨_,rfl,by simpa[zGe]using hR⟩
  case h=>
   exact⟨rfl,rfl,items.toList,items2.toList,ns,ms,rfl,hi,hj,by lia,h⟩
end
section
variable{prog:zAS}{w:World}{A:zA8}{E:Value->zAB->Prop}{s:zAB}
def xN(hl:IsTup s.heap l items)(hb:IsTup s.heap b items2)(hi:zBo items.toList ns)(hj:zBo items2.toList ms)
  (hu:A.units<cLine)(h:Q (.bool (lexLt ns ms)) s):wpAny (model prog w) A (zB2 .Lt (.ref l) (.ref b)) Q E s:=by
 obtain⟨⟨cls,dd,data,sl⟩,ho,hc,n,hd⟩:=id hl;obtain⟨⟨cls2,dd2,data2,sl2⟩,ho2,hc2,n2,hd2⟩:=id hb;simp only at hc hd hc2 hd2;subst hc hd hc2 hd2;exact richCompare_meets_room (op:=.Lt) ⟨_,ho,rfl⟩ ⟨_,ho2,rfl⟩ PySem.F.slot_tuple_lt PySem.F.entry_tuple_lt (PySem.F.args_tuple_lt_2 _ _) (qw l b items items2 n n2 dd dd2 sl sl2 ns ms hi hj)
  ⟨ho,ho2,show zCf (lexLt ns ms)≠zFU/\Q (.bool (lexLt ns ms)) s from⟨(λ x=>nomatch x),h⟩⟩ hu
def aDc(ht:IsTup s.heap t vs.toArray)(hb:IsTup s.heap b ws.toArray)(hv:vs≠[])
  (h1:ws=[]->Q (.ref t) s)(h2:ws≠[]->Q (.ref s.heap.objs.size) {s with heap:=s.heap.push {cls:=.type "tuple",data:=.seq (vs++ws).toArray}})
  (hsz:vs.length+ws.length<=zAN):wpAny (model prog w) A (zBv .Add (.ref t) (.ref b)) Q E s:=by
 obtain⟨⟨cls,dd,data,sl⟩,ho,hc,n,hd⟩:=id ht;obtain⟨⟨cls2,dd2,data2,sl2⟩,ho2,hc2,n2,hd2⟩:=id hb;simp only at hc hd hc2 hd2;subst hc hd hc2 hd2;have e:vs.toArray++ws.toArray=(vs++ws).toArray:=by simp
 by_cases hw:ws=[]
 .exact zGG ⟨_,ho,rfl⟩ ⟨_,ho2,rfl⟩ zEv zFj zDU zDL (zDH _ _)
   (tuple_addW1 t b vs.toArray ws.toArray n n2 dd dd2 sl sl2 (by simpa using hv) (by simp[hw])) ⟨ho,ho2,h1 hw⟩
 .refine zGG ⟨_,ho,rfl⟩ ⟨_,ho2,rfl⟩ zEv zFj zDU zDL (zDH _ _)
   (tuple_addW2 t b vs.toArray ws.toArray n n2 dd dd2 sl sl2 (by simpa using hv) (by simpa using hw) (by rw[zAF,zAF];exact hsz)) ⟨ho,ho2,?_⟩
  rw[e];exact h2 hw
def sIx(n d:Nat):Option Int->Nat
 |none=>d
 |some v=>if v<0 then(v+(n:Int)).toNat else min v.toNat n
def vP(n d:Nat):sIx n d none=d:=rfl
def o6(n d k:Nat):sIx n d (some (k:Int))=min k n:=by
 show(if (k:Int)<0 then((k:Int)+(n:Int)).toNat else min (k:Int).toNat n)=min k n
 rw[if_neg (by lia),zEI]
def aEe(n d:Nat)(hd:d<=n)(o:Option Int):sIx n d o<=n:=by
 cases o with
 |none=>exact hd
 |some v=>
  show(if v<0 then(v+(n:Int)).toNat else min v.toNat n)<=n
  by_cases hv:v<0
  .rw[if_pos hv];lia
  .rw[if_neg hv];exact Nat.min_le_right _ _
def zH(v:Int)(n d:Nat):(if v<0 then max (v+(n:Int)) 0 else min v (n:Int))=((sIx n d (some v):Nat):Int):=by
 show(if v<0 then max (v+(n:Int)) 0 else min v (n:Int))=(((if v<0 then(v+(n:Int)).toNat else min v.toNat n):Nat):Int)
 by_cases hv:v<0
 .simp only[if_pos hv];lia
 .simp only[if_neg hv];lia
def yC(lo hi:Option Int)(n:Nat):zCt lo hi 1 (n:Int)=(((sIx n 0 lo:Nat):Int),((sIx n n hi:Nat):Int)):=by
 have h1:¬((1:Int)<0):=by lia
 unfold zCt;simp only[h1,if_false];refine Prod.ext ?_ ?_
 .cases lo with
  |none=>rfl
  |some v=>exact zH v n 0
 .cases hi with
  |none=>rfl
  |some v=>exact zH v n n
def ww(i j:Nat):zCF (i:Int) (j:Int) 1=j-i:=by
 unfold zCF;have h1:(1:Int)>0:=by lia
 simp only[h1,if_true,Int.ediv_one];split<;>lia
def pK(p:zEp v o)(h:Q o s):wpAny (model prog w) A (zGd v) Q E s:=by
 cases p with
 |none=>exact slicePart_none h
 |int i t=>exact slicePart_int h
def gw{sl:Addr}{vl vu:Value}{lo hi:Option Int}{n:Nat}{Q:Int×Int×Nat->zAB->Prop}(hs:s.heap.IsSliceOf sl vl vu .none)(pl:zEp vl lo)(pu:zEp vu hi)
  (h:Q (((sIx n 0 lo:Nat):Int),1,sIx n n hi-sIx n 0 lo) s):wpAny (model prog w) A (zDl (.ref sl) (pure (n:Int))) Q E s:=by
 obtain⟨os,hos,hcs,hds⟩:=id hs;unfold zDl zGc;refine zAG (zAG (zGX hos hds (x:=vl) rfl (zAG (zGX hos hds (x:=vu) rfl (zAG (zGX hos hds (x:=.none) rfl (zA7 ?_)))))));refine zAG (slicePart_none ?_);show wpAny _ _ (if ((1:Int)==0)=true then _ else _) _ _ s;rw[if_neg (by decide)];refine zAG (pK pl (zAG (pK pu (zAG (zA7 ?_)))));show wpAny _ _ (match zCt lo hi 1 (n:Int)with|(lo,hi)=>pure (lo,(1:Int),zCF lo hi 1)) _ _ s;rw[yC lo hi n];show wpAny _ _ (pure (((sIx n 0 lo:Nat):Int),(1:Int),zCF ((sIx n 0 lo:Nat):Int) ((sIx n n hi:Nat):Int) 1)) _ _ s;rw[ww];exact zA7 h
def aBB(xs:Array Value)(i k:Nat):((zBG k).filterMap λ(m:Nat)=>xs[((i:Int)+(m:Int)*1).toNat]?).toArray=((xs.toList.drop i).take k).toArray:=by
 have e:(λ(m:Nat)=>xs[((i:Int)+(m:Int)*1).toNat]?)=λ m=>xs[i+m]?:=by
  funext m
  have:((i:Int)+(m:Int)*1).toNat=i+m:=by lia
  rw[this]
 rw[e]
 have:=pick_run xs i k
 rw[List.filterMap_map]at this;have e2:((λ x=>xs[x]?)∘λ x=>i+x)=λ m=>xs[i+m]?:=rfl
 rw[e2]at this;rw[this]
def mL{t sl:Addr}{items:Array Value}{vl vu:Value}{lo hi:Option Int}{Q:Value->zAB->Prop}(ht:IsTup s.heap t items)(hs:s.heap.IsSliceOf sl vl vu .none)(pl:zEp vl lo)(pu:zEp vu hi)
  (hw:¬(sIx items.size 0 lo=0/\sIx items.size items.size hi=items.size))
  (h:Q (.ref s.heap.objs.size) {s with heap:=s.heap.push {cls:=.type "tuple",data:=.seq ((items.toList.drop (sIx items.size 0 lo)).take (sIx items.size items.size hi-sIx items.size 0 lo)).toArray}})
  (hsz:items.size<=zAN):wpAny (model prog w) A (zFN (.ref t) (.ref sl)) Q E s:=by
 have htake:sizeOk (.seq ((items.toList.drop (sIx items.size 0 lo)).take (sIx items.size items.size hi-sIx items.size 0 lo)).toArray):=by
  show((items.toList.drop (sIx items.size 0 lo)).take (sIx items.size items.size hi-sIx items.size 0 lo)).toArray.size<=zAN
  rw[zAF,zAV,zAv,zA9];lia
 have hj:sIx items.size items.size hi<=items.size:=aEe _ _ (zAP _) hi;obtain⟨os,hos,hcs,hds⟩:=id hs;have hTs:s.TypeIs (.ref sl) "slice":=⟨os,hos,hcs⟩;unfold zFN
 try with_reducible refine zDe ?_
 first|refine zAG (zA7 ?_)|skip
 refine zAG (zGv ht.typeIs (by decide) ?_);refine zAG (zFm (name:=Str.ofString "__getitem__") ht.typeIs zBX
  (zEw zBX ht.typeIs zGU ?_ (zG8 _ _)))
 show wpAny _ _ (zDm (.ref t)>>=_) _ _ s;refine zAG (tupleItemsOf_ ht ?_);refine zAG (zGI hTs ?_);rw[if_pos (by decide)];refine zAG (gw hs pl pu ?_);have hno:¬((((sIx items.size 0 lo:Nat):Int)==0&&(1:Int)==1&&(sIx items.size items.size hi-sIx items.size 0 lo)==items.size)=true):=by
  intro q;rw[zAO,zAO]at q;have q1:((sIx items.size 0 lo:Nat):Int)=0:=zDC q.1.1;have q2:sIx items.size items.size hi-sIx items.size 0 lo=items.size:=zDC q.2;exact hw ⟨by lia,by lia⟩
 show wpAny _ _ (if (((sIx items.size 0 lo:Nat):Int)==0&&(1:Int)==1&&(sIx items.size items.size hi-sIx items.size 0 lo)==items.size)=true then _ else _) _ _ s;rw[if_neg hno,aBB]
 first
  |exact zAG (m:=zCI _) (zCY (zA7 ⟨_,rfl,zA7 h⟩) htake)
  |exact zAG (m:=zCI _) (zCY (zAG (zA7 (zA7 ⟨_,rfl,zA7 h⟩))) htake)
  |exact zAG (zAG (m:=zCI _) (zCY (zA7 (zA7 ⟨_,rfl,zA7 h⟩)) htake))
  |exact zAG (zAG (m:=zCI _) (zCY (zA7 ⟨_,rfl,zA7 h⟩) htake))
end
end HT
namespace L2
open PySem PySem.Spec PyProof.Rows
abbrev TO:=St->Hp->(Option Int->Hp->Prop)->Prop
def PO(X:Cx)(e:Option Expr)(t:TO):Prop:=
 ∀(pins:List (Addr×Obj)) (s:zAB) (Z:St) (H:Hp) (Q:Option Int->Hp->Prop),Inv X pins Z H s->t Z H Q->
  wpAny (model X.prog X.w) X.A (evalPart e X.env) (λ u s'=>∃o H',Inv X pins Z H' s'/\zEp u o/\Q o H') X.xe s
def aC3:TO:=λ _ H Q=>Q none H
def aGJ(t:TE):TO:=λ Z H Q=>t Z H λ x H1=>∃i,x= .int i/\Q (some i) H1
def intsAre_of:∀{us:List Value},Vals (ns.map V.int) us->zBo us ns:=by
 induction ns with
 |nil=>intro us r;rw[zGl]at r;cases r;exact .nil
 |cons n ns ih=>
  intro us r;rw[zAj]at r;cases r with
  |cons r1 r2=>
   obtain⟨t,e⟩:=r1;subst e;exact .cons n t (ih r2)
section
variable{X:Cx}{e:Expr}{te:TE}{lo hi:Option Expr}{tl th:TO}{pos p2:Pos}
def aCq:PO X none aC3:=by
 intro pins s Z H Q I h;rw[evalPart_none];exact zA7 ⟨none,H,I,.none,h⟩
def aCp(h:PE X e te):PO X (some e) (aGJ te):=by
 intro pins s Z H Q I hw;rw[evalPart_some];refine thn (h pins s Z H _ I hw) λ u s1 ⟨x,H1,I1,r1,q1⟩=>?_
 obtain⟨i,rfl,q⟩:=q1;obtain⟨t,rfl⟩:=r1;exact⟨some i,H1,I1,.int i t,q⟩
def SlR(X:Cx)(r:V->Option Int->Option Int->Hp->VK->Prop):Prop:=
 ∀(pins:List (Addr×Obj)) (s:zAB) (Z:St) (H:Hp) (x:V) (v vl vu:Value) (lo hi:Option Int) (sl:Addr) (Q:VK),Inv X pins Z H s->RelV x v->s.heap.IsSliceOf sl vl vu .none->zEp vl lo->zEp vu hi->r x lo hi H Q->
  ∃T id,zEn (.type T) "__getitem__"=pure (some (.builtin id))/\s.TypeIs v T/\wpAny (model X.prog X.w) X.A (zFN v (.ref sl)) (EP X pins Z Q) X.xe s
def SlR.or(h:SlR X r)(h':SlR X r'):SlR X (λ x lo hi H Q=>r x lo hi H Q\/r' x lo hi H Q):=by
 intro pins s Z H x v vl vu lo hi sl Q I rx hs pl pu q;rcases q with q|q
 .exact h pins s Z H x v vl vu lo hi sl Q I rx hs pl pu q
 .exact h' pins s Z H x v vl vu lo hi sl Q I rx hs pl pu q
def tSl(r:V->Option Int->Option Int->Hp->VK->Prop)(te:TE)(tl th:TO):TE:=λ Z H Q=>te Z H λ x H1=>tl Z H1 λ l H2=>th Z H2 λ u H3=>r x l u H3 Q
def aBE(hr:SlR X r)(he:PE X e te)(hl:PO X lo tl)(hu:PO X hi th):PE X (.Subscript e (.Slice lo hi none p2) pos) (tSl r te tl th):=by
 intro pins s Z H Q I h;refine Subscript_ (thn (he pins s Z H _ I h) λ v s1 ⟨x,H1,I1,r1,q1⟩=>?_);refine wpAny_Slice (thn (hl pins s1 Z H1 _ I1 q1) λ vl s2 ⟨l,H2,I2,pl,q2⟩=>thn (hu pins s2 Z H2 _ I2 q2) λ vu s3 ⟨u,H3,I3,pu,q3⟩=>?_);rw[evalPart_none];refine zA7 ?_;have I4:Inv X pins Z H3 {s3 with heap:=s3.heap.push {cls:=.type "slice",data:=.fields #[vl,vu,.none]}}:=I3.kept (t':=s3.toks) λ b ob q=>zAD _ q
 obtain⟨T,id,hT,ht,hg⟩:=hr pins {s3 with heap:=s3.heap.push {cls:=.type "slice",data:=.fields #[vl,vu,.none]}} Z H3 x v vl vu l u s3.heap.objs.size Q I4 r1 (zG3 ..) pl pu q3;show wpAny (model X.prog X.w) X.A (subscriptTail e (.Slice lo hi none p2) v (.ref s3.heap.objs.size)) (EP X pins Z Q) X.xe {s3 with heap:=s3.heap.push {cls:=.type "slice",data:=.fields #[vl,vu,.none]}};exact tail_any (ops:=[.ref s3.heap.objs.size,v]) ht hT hg (by with_unfolding_all rfl)
def ql(xs:List V)(lo hi:Option Int):List V:=(xs.drop (HT.sIx xs.length 0 lo)).take (HT.sIx xs.length xs.length hi-HT.sIx xs.length 0 lo)
def oK(xs:List V)(lo hi:Option Int):(ql xs lo hi).length<=xs.length:=by
 unfold ql;rw[zAV,zAv];lia
def aCj(K:zAA):R2:=λ x y H Q=>∃a b ns ms,x= .ref a/\y= .ref b/\SqT K H a (ns.map V.int)/\SqT K H b (ms.map V.int)/\Q (.bl (HT.lexLt ns ms)) H
def aFN(hu:X.A.units<cLine):OpR X (zB2 .Lt) (aCj X.K):=by
 intro pins s Z H x y v u Q I rx ry h;obtain⟨a,b,ns,ms,rfl,rfl,ha,hb,q⟩:=h;cases rx;cases ry;obtain⟨its,r1,p1,_⟩:=I.tuple ha;obtain⟨its2,r2,p2,_⟩:=I.tuple hb;have i1:zBo its.toArray.toList ns:=intsAre_of r1;have i2:zBo its2.toArray.toList ms:=intsAre_of r2;exact HT.xN p1 p2 i1 i2 hu ⟨.bl (HT.lexLt ns ms),H,I,rfl,q⟩
def aG3(K:zAA):R2:=λ x y H Q=>∃a b xs ys,x= .ref a/\y= .ref b/\SqT K H a xs/\SqT K H b ys/\xs≠[]/\xs.length+ys.length<=zAN/\
 (ys=[]->Q (.ref a) H)/\(ys≠[]->∀p,H p=none->Q (.ref p) (upd H p (.tup (xs++ys))))
def Vals.nil_iff(r:Vals xs us):us=[]↔xs=[]:=by
 cases r with
 |nil=>simp
 |cons _ _=>simp
def aDG:OpR X (zBv .Add) (aG3 X.K):=by
 intro pins s Z H x y v u Q I rx ry h;obtain⟨a,b,xs,ys,rfl,rfl,ha,hb,hx,hz,q1,q2⟩:=h;cases rx;cases ry;obtain⟨its,r1,p1,_⟩:=I.tuple ha;obtain⟨its2,r2,p2,_⟩:=I.tuple hb;refine HT.aDc p1 p2 (λ z=>hx (r1.nil_iff.mp z)) (λ z=>⟨.ref a,H,I,rfl,q1 (r2.nil_iff.mp z)⟩) (λ z=>?_) (by rw[<-r1.length,<-r2.length];exact hz);refine⟨.ref s.heap.objs.size,_,I.laid (t':=s.toks) (o:=.tup (xs++ys)) (λ b ob q=>zAD _ q) (zAP _) ?_,rfl,q2 (λ w=>z (r2.nil_iff.mpr w)) _ (I.hok.fresh (zAP _))⟩;exact⟨⟨by rw[zAC];exact hz,NoD.push _⟩,_,r1.append r2,zFG _ _⟩
end
def ixN(n:Nat)(i:Int):Option Nat:=if 0<=i then(if i<n then some i.toNat else none)else if -(n:Int)<=i then some (i+n).toNat else none
def atI{α:Type}(xs:List α)(i:Int):Option α:=(ixN xs.length i).bind λ j=>xs[j]?
def aDU(h:ixN n i=some j):seqIndex? i n=some j/\j<n/\-(n:Int)<=i/\i<n:=by
 unfold ixN at h;by_cases h0:0<=i
 .rw[if_pos h0]at h
  by_cases h1:i<n
  .rw[if_pos h1]at h
   have e:i.toNat=j:=zAf h;exact⟨by rw[seqIndex_of h0 h1,e],by lia,by lia,h1⟩
  .rw[if_neg h1]at h;cases h
 .rw[if_neg h0]at h
  by_cases h1: -(n:Int)<=i
  .rw[if_pos h1]at h
   have e:(i+n).toNat=j:=zAf h;exact⟨by rw[seqIndex_neg (by lia) h1,e],by lia,h1,by lia⟩
  .rw[if_neg h1]at h;cases h
def uq(h:atI xs i=some v):∃j,seqIndex? i xs.length=some j/\xs[j]? =some v/\j<xs.length/\-(xs.length:Int)<=i/\i<xs.length:=by
 unfold atI at h;cases e:ixN xs.length i with
 |none=>rw[e]at h;cases h
 |some j=>
  rw[e]at h;obtain⟨h1,h2,h3,h4⟩:=aDU e;exact⟨j,h1,h,h2,h3,h4⟩
def zM(b:Expr):Prop:=∀o i,subscripted b false o i=operate [o,i] (zFN o i)
def IxR(X:Cx)(r:R2):Prop:=
 ∀(value slice:Expr) (pins:List (Addr×Obj)) (s:zAB) (Z:St) (H:Hp) (x y:V) (v u:Value) (Q:VK),Inv X pins Z H s->RelV x v->RelV y u->r x y H Q->
  subscripted slice false v u=operate [v,u] (zFN v u)->wpAny (model X.prog X.w) X.A (subscriptTail value slice v u) (EP X pins Z Q) X.xe s
def MtR(X:Cx)(id:String)(r:V->List V->Hp->VK->Prop):Prop:=
 ∀(pins:List (Addr×Obj)) (s:zAB) (Z:St) (H:Hp) (x:V) (xs:List V) (v:Value) (us:List Value) (Q:VK),Inv X pins Z H s->RelV x v->Vals xs us->r x xs H Q->
  wpAny (model X.prog X.w) X.A (call (.builtin id) (v::us)) (EP X pins Z Q) X.xe s
section
variable{X:Cx}{a b:Expr}{ta tb:TE}{pos:Pos}
def IxR.or(h:IxR X r)(h':IxR X r'):IxR X (λ x y H Q=>r x y H Q\/r' x y H Q):=by
 intro value slice pins s Z H x y v u Q I rx ry q hs;rcases q with q|q
 .exact h value slice pins s Z H x y v u Q I rx ry q hs
 .exact h' value slice pins s Z H x y v u Q I rx ry q hs
def aEE{r:R2}(hr:IxR X r)(ha:PE X a ta)(hb:PE X b tb)(hs:zM b):PE X (.Subscript a b pos) (tOp r ta tb):=by
 intro pins s Z H Q I h;exact Subscript_ (aFv ha hb I h λ v u s2 x y H2 I2 rx ry q=>hr a b pins s2 Z H2 x y v u Q I2 rx ry q (hs _ _))
def aG1(K:zAA):R2:=λ x y H Q=>∃p xs i v,x= .ref p/\y= .int i/\SqL K H p xs/\atI xs i=some v/\Q v H
def aGZ(K:zAA):R2:=λ x y H Q=>∃p xs i v,x= .ref p/\y= .int i/\SqT K H p xs/\atI xs i=some v/\Q v H
def aG0:R2:=λ x y H Q=>∃z i c,x= .str z/\y= .int i/\z.length<=zAN/\atI z.cps.toList i=some c/\Q (.str ⟨#[c]⟩) H
def yr:IxR X (aG1 X.K):=by
 intro value slice pins s Z H x y v u Q I rx ry h hs;obtain⟨p,xs,i,z,rfl,rfl,hq,he,q⟩:=h;cases rx;obtain⟨t,rfl⟩:=ry;obtain⟨its,r,pl,hz⟩:=I.list hq;obtain⟨j,h1,h2,h3,h4,h5⟩:=uq he;obtain⟨w,ew,rw'⟩:=r.get h2;have hl:=r.length;have hn:=qM;have fin:EP X pins Z Q w s:=⟨z,H,I,rw',q⟩;by_cases h0:0<=i
 .have hj:i.toNat=j:=by
   rw[seqIndex_of h0 h5]at h1;exact zAf h1
  exact item_listR pl.isList h0 (by lia) (by rw[hj];simpa using ew) fin hs
 .have hj:(i+(its.toArray.size:Int)).toNat=j:=by
   rw[seqIndex_neg (by lia) h4]at h1;rw[zAF,<-hl];exact zAf h1
  exact zFw (x:=w) pl.isList.typeIs zGs.lookup
   (wpAny_getItem_list_neg (Q:=λ r s'=>r=w/\EP X pins Z Q r s') pl.isList (by lia) (by rw[zAF]<;>lia) (by lia) (by rw[hj];simpa using ew) ⟨rfl,fin⟩) hs
def aF5:IxR X (aGZ X.K):=by
 intro value slice pins s Z H x y v u Q I rx ry h hs;obtain⟨p,xs,i,z,rfl,rfl,hq,he,q⟩:=h;cases rx;obtain⟨t,rfl⟩:=ry;obtain⟨its,r,pl,hz⟩:=I.tuple hq;obtain⟨j,h1,h2,h3,h4,h5⟩:=uq he;obtain⟨w,ew,rw'⟩:=r.get h2;have hl:=r.length;have hn:=qM;have fin:EP X pins Z Q w s:=⟨z,H,I,rw',q⟩;exact zFw (x:=w) pl.typeIs slot_tuple_getitem.lookup
  (getItem_tuple (j:=j) (Q:=λ r s'=>r=w/\EP X pins Z Q r s') pl (by lia) (by lia) (by rw[zAF,<-hl];exact h1) (by simpa using ew) ⟨rfl,fin⟩) hs
def aF6:IxR X aG0:=by
 intro value slice pins s Z H x y v u Q I rx ry h hs;obtain⟨z,i,c,rfl,rfl,hz,he,q⟩:=h;obtain⟨t,rfl⟩:=rx;obtain⟨t',rfl⟩:=ry;obtain⟨j,h1,h2,h3,h4,h5⟩:=uq he;have hl:z.cps.toList.length=z.length:=by simp[Str.length]
 rw[hl]at h1 h4 h5;have hn:=qM;exact tail_any (typeIs_str s z t) slot_str_getitem.lookup (getItem_str (c:=c) (by
  have e1:decide (i < -(2^63:Int))=false:=decide_eq_false (by lia);have e2:decide (i ≥ 2^63)=false:=decide_eq_false (by lia);rw[e1,e2,Bool.or_false]) (by rw[h1];simpa using h2) ⟨.str ⟨#[c]⟩,H,I.tok _,⟨_,rfl⟩,q⟩) hs
def rIx(K:zAA):R2:=λ x y H Q=>aG1 K x y H Q\/aGZ K x y H Q\/aG0 x y H Q
def aF7:IxR X (rIx X.K):=yr.or (aF5.or aF6)
def uA(lo hi:Option Int)(n:Nat):(zDN lo hi none n).1=((HT.sIx n 0 lo:Nat):Int)/\(zDN lo hi none n).2.1=((HT.sIx n n hi:Nat):Int)/\(zDN lo hi none n).2.2=1:=by
 refine⟨?_,?_,rfl⟩
 .cases lo with
  |none=>simp[zDN,HT.sIx]
  |some i=>
   simp only[zDN,HT.sIx,zFf,show(1:Int)>0 by decide,if_true];by_cases h:i<0
   .simp only[h,if_true]<;>lia
   .simp only[h,if_false]<;>lia
 .cases hi with
  |none=>simp[zDN,HT.sIx]
  |some i=>
   simp only[zDN,HT.sIx,zFf,show(1:Int)>0 by decide,if_true];by_cases h:i<0
   .simp only[h,if_true]<;>lia
   .simp only[h,if_false]<;>lia
def qy(its:List Value)(lo hi:Option Int):slicePick its.toArray lo hi none=((its.drop (HT.sIx its.length 0 lo)).take (HT.sIx its.length its.length hi-HT.sIx its.length 0 lo)).toArray:=by
 obtain⟨h1,h2,h3⟩:=uA lo hi its.toArray.size;unfold slicePick;rw[h1,h2,h3];simp only[sliceRange_one,pick_run,zAF]<;>rfl
def aGX(K:zAA):V->Option Int->Option Int->Hp->VK->Prop:=λ x lo hi H Q=>∃a xs,x= .ref a/\SqL K H a xs/\∀p,H p=none->Q (.ref p) (upd H p (.lst (ql xs lo hi)))
def aC9:SlR X (aGX X.K):=by
 intro pins s Z H x v vl vu lo hi sl Q I rx hs pl pu h;obtain⟨a,xs,rfl,hx,q⟩:=h;cases rx;obtain⟨its,r,ht,hz⟩:=I.list hx;have hlen:=r.length;refine⟨"list",_,zGs.lookup,ht.isList.typeIs,?_⟩;refine wpAny_getItem_list_slice ht.isList hs pl pu .none (by simp) ?_ (by rw[zAF]<;>lia);rw[qy,<-hlen];refine⟨.ref s.heap.objs.size,_,I.laid (t':=s.toks) (o:=.lst (ql xs lo hi)) (λ b ob q=>zAD _ q) (zAP _) ?_,rfl,q _ (I.hok.fresh (zAP _))⟩;exact⟨zAr (oK xs lo hi) hz,_,0,(r.drop (HT.sIx xs.length 0 lo)).take (HT.sIx xs.length xs.length hi-HT.sIx xs.length 0 lo),zAh _ rfl⟩
def um:jH X (.builtin "len") (λ xs H Q=>∃p ys,xs=[.ref p]/\(SqL X.K H p ys\/SqT X.K H p ys)/\Q (.int ys.length) H):=by
 intro pins s Z H xs us Q I r h;obtain⟨p,ys,rfl,hq,q⟩:=h;obtain⟨u,rfl,rx⟩:=vals1 r;cases rx;have hn:=qM;rcases hq with hq|hq
 .obtain⟨its,r',pl,hz⟩:=I.list hq
  have hlen:=r'.length;exact Calls.call_len_list pl.isList (by simp only[zAF]<;>lia) ⟨.int ys.length,H,I.tok _,⟨s.toks+1,by rw[zAF,hlen]⟩,q⟩
 .obtain⟨its,r',pl,hz⟩:=I.tuple hq
  have hlen:=r'.length;exact len_tuple pl (by simp only[zAF]<;>lia) ⟨.int ys.length,H,I.tok _,⟨s.toks+1,by rw[zAF,hlen]⟩,q⟩
def rN:jH X (.type "tuple") (λ xs H Q=>∃p ys,xs=[.ref p]/\((SqL X.K H p ys/\∀l,H l=none->Q (.ref l) (upd H l (.tup ys)))\/(SqT X.K H p ys/\Q (.ref p) H))):=by
 intro pins s Z H xs us Q I r h;obtain⟨p,ys,rfl,h⟩:=h;obtain⟨u,rfl,rx⟩:=vals1 r;cases rx;rcases h with ⟨hq,q⟩|⟨hq,q⟩
 .obtain⟨its,r',pl,hz⟩:=I.list hq
  have hlen:=r'.length;refine call_tuple_list pl.isList (λ h' kp=>?_) (by simp only[zAF]<;>lia);have I1:Inv X pins Z H {s with heap:=h'}:=I.kept (t':=s.toks) kp;have I2:Inv X pins Z (upd H h'.objs.size (.tup ys)) {s with heap:=h'.push {cls:=.type "tuple",data:=.seq its.toArray}}:=
   I1.laid (t':=s.toks) (λ b o e=>zAD _ e) (zAP _) (show cH X.prog X.w _ _ _ (.tup ys)from⟨⟨hz,NoD.push _⟩,its,r',zFG _ _⟩)
  exact⟨.ref h'.objs.size,_,I2,rfl,q _ (I1.hok.fresh (zAP _))⟩
 .obtain⟨its,r',pl,hz⟩:=I.tuple hq
  exact call_tuple_same pl ⟨.ref p,H,I,rfl,q⟩
def tyV(K:zAA)(T:String)(x:V)(H:Hp):Prop:=match x with
 | .str _=>T="str"
 | .int _=>T="int"
 | .ref p=>(T="list"/\∃xs,SqL K H p xs)\/(T="tuple"/\∃o,K.lookup p=some o/\o.cls= .type "tuple"/\o.dict=none)\/
   (T="dict"/\((∃kvs,H p=some (.dK kvs))\/∃kvs,H p=some (.dT kvs)))\/(T="set"/\∃S n,H p=some (.set S n))
 |_=>False
def aAV(I:Inv X pins Z H s)(r:RelV x v)(ty:tyV X.K T x H):
  s.TypeIs v T/\∀a,v= .ref a->∃ob,s.heap.get? a=some ob/\ob.dict=none:=by
 cases x with
 |str z=>
  obtain⟨t,rfl⟩:=r;cases (show T="str" from ty);exact⟨typeIs_str s z t,λ _ e=>nomatch e⟩
 |int i=>
  obtain⟨t,rfl⟩:=r;cases (show T="int" from ty);exact⟨zEm s i t,λ _ e=>nomatch e⟩
 |ref p=>
  cases r;rcases ty with ⟨rfl,xs,hq⟩|⟨rfl,o,hk,hc,hd⟩|⟨rfl,hk⟩|⟨rfl,S,n,hk⟩
  .obtain⟨its,_,pl,_⟩:=I.list hq
   refine⟨pl.isList.typeIs,λ a e=>?_⟩;cases e;obtain⟨o,n,e,c,hd,_⟩:=pl;exact⟨o,e,hd⟩
  .refine⟨⟨o,I.kIn p o hk,hc⟩,λ a e=>?_⟩
   cases e;exact⟨o,I.kIn _ o hk,hd⟩
  .have z:∃o,s.heap.get? p=some o/\o.ExactDict:=by
    rcases hk with ⟨kvs,hk⟩|⟨kvs,hk⟩
    .obtain⟨_,_,_,_,o,_,_,e,ex,_⟩:=I.hok p _ hk
     exact⟨o,e,ex⟩
    .obtain⟨_,_,_,_,o,_,_,e,ex,_⟩:=I.hok p _ hk
     exact⟨o,e,ex⟩
   obtain⟨o,e,ex⟩:=z;refine⟨⟨o,e,ex.1⟩,λ a e2=>?_⟩;cases e2;exact⟨o,e,ex.2.1⟩
  .obtain⟨o,_,_,_,e,ex,_⟩:=I.hok p _ hk
   refine⟨⟨o,e,ex.1⟩,λ a e2=>?_⟩;cases e2;exact⟨o,e,ex.2.1⟩
 |_=>exact zAE ty
def aGO(K:zAA)(T:String)(r:V->List V->Hp->VK->Prop)(to:TE):TE:=λ Z H Q=>to Z H λ x H1=>tyV K T x H1/\r x [] H1 Q
def tBM(K:zAA)(T:String)(r:V->List V->Hp->VK->Prop)(to:TE)(t:TA):TE:=λ Z H Q=>to Z H λ x H1=>tyV K T x H1/\t Z H1 λ xs H2=>r x xs H2 Q
variable{o e:Expr}{es:List Expr}{to:TE}{t:TA}{name:Str}{apos cpos:Pos}{T id:String}{r:V->List V->Hp->VK->Prop}
def aEy(pa:PlainAttrs T)(slot:Slot T name id)(hty:typeOf (.builtin id)=pure (.type "method_descriptor"))(hm:MtR X id r)(ho:PE X o to)
  (hbase:zDJ o name X.env (eval o X.env)=eval o X.env:=by rfl)(hline:(apos.endLine==cpos.line)=true:=by rfl):PE X (.Call (.Attribute o name apos) [] [] cpos) (aGO X.K T r to):=by
 intro pins s Z H Q I h;refine wpAny_Call_method0_late hbase hline (thn (ho pins s Z H _ I h) λ v s1 ⟨x,H1,I1,r1,ty,q1⟩=>?_);obtain⟨h1,h2⟩:=aAV I1 r1 ty;exact⟨T,id,pa,slot,hty,h1,h2,zEy rfl (PySem.evalArgs_none (hm pins s1 Z H1 x [] v [] Q I1 r1 .nil q1))⟩
def vY(pa:PlainAttrs T)(slot:Slot T name id)(hty:typeOf (.builtin id)=pure (.type "method_descriptor"))(hm:MtR X id r)(ho:PE X o to)(ha:PA X (e::es) t)
  (hbase:zDJ o name X.env (eval o X.env)=eval o X.env:=by rfl)
  (hfew:((zCQ cpos (zAY (e::es) X.env)).all (λ x=>!x.1)&&(zFD cpos (zDc [] X.env)).all (λ x=>x.1.isSome)
   &&decide ((e::es).length+([]:List zCi).length+(if ([]:List zCi).isEmpty then 0 else 1)<30))=true:=by rfl)
  (hline:(apos.endLine==cpos.line)=true:=by rfl)(hs:zAY (e::es) X.env=(false,eval e X.env)::zAY es X.env:=by rfl)(hplain:(zCQ cpos (zAY es X.env)).any (·.1)=false:=by rfl):
  PE X (.Call (.Attribute o name apos) (e::es) [] cpos) (tBM X.K T r to t):=by
 intro pins s Z H Q I h;refine wpAny_Call_method_late hbase hfew hline rfl (thn (ho pins s Z H _ I h) λ v s1 ⟨x,H1,I1,r1,ty,q1⟩=>?_);obtain⟨h1,h2⟩:=aAV I1 r1 ty;refine⟨T,id,pa,slot,hty,h1,h2,?_⟩;have hA:=ha cpos pins s1 Z H1 _ I1 q1;rw[hs]at hA ⊢;refine zEy (by show(false||(zCQ cpos (zAY es X.env)).any (·.1))=false;rw[hplain]<;>rfl) (zFO ?_);exact thn hA λ us s2 ⟨vs,H2,I2,r2,q2⟩=>hm pins s2 Z H2 x vs v us Q I2 r1 r2 q2
end
def MtM(X:Cx)(id:String)(r:V->List V->Hp->VK->Prop):Prop:=
 ∀(pins:List (Addr×Obj)) (s:zAB) (Z:St) (H:Hp) (x:V) (xs:List V) (v:Value) (us:List Value) (Q:VK),Inv X pins Z H s->RelV x v->Vals xs us->r x xs H Q->
  wpAny (model X.prog X.w) X.A (call (.builtin id) (v::us)) (EP X pins Z Q) X.xe s
def Vals.one:∀{x:V} {us:List Value},Vals [x] us->∃u,us=[u]/\RelV x u
 |_,_,.cons r .nil=>⟨_,rfl,r⟩
def Vals.zero:∀{us:List Value},Vals [] us->us=[]
 |_,.nil=>rfl
theorem Vals.dropLast(h:Vals xs us):Vals xs.dropLast us.dropLast:=by
 induction h with
 |nil=>exact .nil
 |cons r t ih=>
  cases t with
  |nil=>exact .nil
  |cons q t'=>exact .cons r ih
theorem Vals.rep(h:Vals xs us):∀k:Nat,Vals (zAT k xs).flatten (zAT k us).flatten
 |0=>.nil
 |k+1=>by
  rw[zBA,zBA,zBR,zBR];exact Vals.append h (Vals.rep h k)
def xj(l:List α):l.eraseIdx (l.length-1)=l.dropLast:=by
 induction l with
 |nil=>rfl
 |cons a r ih=>
  cases r with
  |nil=>rfl
  |cons b r=>
   have e:(a::b::r).length-1=((b::r).length-1)+1:=by
    have h1:(a::b::r).length=r.length+2:=rfl;have h2:(b::r).length=r.length+1:=rfl;lia
   rw[e,List.eraseIdx_cons_succ,ih]
   all_goals rfl
theorem foldl_rep(its:List Value):∀(k:Nat) (acc:List Value),
  zD9 (λ x1 x2=>x1++x2) acc.toArray (zAT k its.toArray)=(acc++(zAT k its).flatten).toArray
 |0,acc=>by simp
 |k+1,acc=>by
  have e:acc.toArray++its.toArray=(acc++its).toArray:=by simp
  have e2:(acc++its)++(zAT k its).flatten=acc++(zAT (k+1) its).flatten:=by
   rw[zBA,zBR,zA2]
  rw[<-e2,<-foldl_rep its k (acc++its),<-e,zBA,zGJ]
section
variable{X:Cx}{pins:List (Addr×Obj)}{Z:St}{H:Hp}{s:zAB}{l:Addr}{xs ys:List V}
def Inv.lset{its its':List Value}{n:Nat}{f:Array Value->Array Value}{t':Nat}(I:Inv X pins Z H s)(hH:H l=some (.lst xs))
  (e:s.heap.get? l=some {cls:=.type "list",data:=.seq its.toArray n})(hf:f its.toArray=its'.toArray)(hv:Vals ys its')(hz:ys.length<=zAN):
  Inv X pins Z (upd H l (.lst ys)) {s with heap:=s.heap.update l (zCl f),toks:=t'}:=by
 have q:=PySem.IsL.update e f;rw[hf]at q;refine I.write (x:=l) (e:=l) (by rw[hH];exact trivial) (.inl rfl) (λ b' u hb hu=>(Heap.get?_update_other s.heap (zCl f) (zDx hb)).trans hu) ⟨_,q⟩ ?_;exact⟨hz,its',_,hv,q⟩
def Inv.lnew(I:Inv X pins Z H s)(hv:Vals ys its)(hz:ys.length<=zAN):
  Inv X pins Z (upd H s.heap.objs.size (.lst ys)) {s with heap:=s.heap.push {cls:=.type "list",data:=.seq its.toArray},toks:=t'}:=
 I.laid (λ _ _ q=>zAD _ q) (zAP _) ⟨hz,its,0,hv,zAh _ rfl⟩
theorem Inv.fresh(I:Inv X pins Z H s):H s.heap.objs.size=none:=I.hok.fresh (zAP _)
def Inv.lstM(I:Inv X pins Z H s)(hH:H l=some (.lst xs)):xs.length<=zAN/\∃(its:List Value) (n:Nat),Vals xs its/\xs.length=its.length/\s.heap.get? l=some {cls:=.type "list",data:=.seq its.toArray n}:=by
 obtain⟨z,its,n,r,e⟩:=I.hok l _ hH;exact⟨z,its,n,r,r.length,e⟩
def vZ(h:n<=zAN):zCK n=false:=by
 unfold zCK;exact decide_eq_false (by lia)
end
section
variable{X:Cx}
def aCn:V->List V->Hp->VK->Prop:=λ x vs H Q=>∃l xs y,x= .ref l/\vs=[y]/\H l=some (.lst xs)/\xs.length<zAN/\Q .non (upd H l (.lst (xs++[y])))
def sE:MtM X "list.append" aCn:=by
 intro pins s Z H x vs v us Q I rx rv h;obtain⟨l,xs,y,rfl,rfl,hH,hz,q⟩:=h;cases rx;obtain⟨u,rfl,ru⟩:=rv.one;obtain⟨z,its,n,r,hl,e⟩:=I.lstM hH;refine zCX F.slot_list_append ⟨_,e,rfl⟩ F.entry_list_append (F.args_list_append_2 _ _) (PySem.list_append l its.toArray n u (by rw[zAF];lia)) ⟨e,?_⟩;refine⟨.non,_,I.lset (its':=its++[u]) hH e (by simp) (r.append (.cons ru .nil)) ?_,rfl,q⟩;rw[zAC,zFS];lia
def aCl:V->List V->Hp->VK->Prop:=λ x vs H Q=>∃l b xs zs,x= .ref l/\vs=[.ref b]/\H l=some (.lst xs)/\H b=some (.lst zs)/\xs.length+zs.length<=zAN/\Q .non (upd H l (.lst (xs++zs)))
def zb:MtM X "list.extend" aCl:=by
 intro pins s Z H x vs v us Q I rx rv h;obtain⟨l,b,xs,zs,rfl,rfl,hH,hB,hz,q⟩:=h;cases rx;obtain⟨u,rfl,ru⟩:=rv.one;cases ru;obtain⟨z,its,n,r,hl,e⟩:=I.lstM hH;obtain⟨z2,its2,n2,r2,hl2,e2⟩:=I.lstM hB;have hsz:its.toArray.size+its2.toArray.size<=zAN:=by rw[zAF,zAF];lia
 have hlong:¬(!its.toArray.isEmpty&&zCK (its.toArray.size+its2.toArray.size))=true:=by
  rw[vZ hsz,zEo];exact zAI
 refine zCX zC7 ⟨_,e,rfl⟩ F.entry_list_extend (F.args_list_extend_2 _ _)
  (AutoSeq1.list_extend_list_list_0 l its.toArray n b its2.toArray n2 hlong (by rw[zAF];lia) (by lia)) ⟨e,e2,?_⟩
 refine⟨.non,_,I.lset (its':=its++its2) hH e (by simp) (r.append r2) ?_,rfl,q⟩;rw[zAC];lia
def aHK:V->List V->Hp->VK->Prop:=λ x vs H Q=>∃l xs y,x= .ref l/\vs=[]/\H l=some (.lst xs)/\xs[xs.length-1]? =some y/\Q y (upd H l (.lst xs.dropLast))
def aFU:MtM X "list.pop" aHK:=by
 intro pins s Z H x vs v us Q I rx rv h;obtain⟨l,xs,y,rfl,rfl,hH,hy,q⟩:=h;cases rx;have hus:=rv.zero;subst hus;obtain⟨z,its,n,r,hl,e⟩:=I.lstM hH;obtain⟨u,hu,ru⟩:=r.get hy;have hy':its.toArray[its.toArray.size-1]? =some u:=by
  show its.toArray[its.length-1]? =some u;rw[<-zA5,<-hl];exact hu
 refine zCX zFd ⟨_,e,rfl⟩ F.entry_list_pop (F.args_list_pop_1 _) (MeetsSeq.list_pop_last l its.toArray n u hy' (by rw[zAF];lia)) ⟨e,?_⟩;refine⟨y,_,I.lset (its':=its.dropLast) hH e ?_ r.dropLast ?_,ru,q⟩
 .show its.toArray.eraseIdxIfInBounds (its.toArray.size-1)=its.dropLast.toArray
  rw[zAF,List.eraseIdxIfInBounds_toArray,xj]
 .rw[List.length_dropLast]
  lia
def aHM:R2:=λ x y H Q=>∃l b xs zs,x= .ref l/\y= .ref b/\H l=some (.lst xs)/\H b=some (.lst zs)/\xs.length+zs.length<=zAN/\∀p,H p=none->Q (.ref p) (upd H p (.lst (xs++zs)))
def aFP:OpR X (zBv .Add) aHM:=by
 intro pins s Z H x y v u Q I rx ry h;obtain⟨l,b,xs,zs,rfl,rfl,hH,hB,hz,q⟩:=h;cases rx;cases ry;obtain⟨z,its,n,r,hl,e⟩:=I.lstM hH;obtain⟨z2,its2,n2,r2,hl2,e2⟩:=I.lstM hB;refine PySem.P.add_list e e2 ?_ (by rw[zAF,zAF];lia);have ea:its.toArray++its2.toArray=(its++its2).toArray:=by simp
 rw[ea];exact⟨.ref _,_,I.lnew (t':=s.toks) (r.append r2) (by rw[zAC];lia),rfl,q _ I.fresh⟩
def aGY:R2:=λ x y H Q=>∃l k xs,x= .ref l/\y= .int k/\H l=some (.lst xs)/\-(2^63)<=k/\k<2^63/\xs.length*k.toNat<=zAN/\
 ∀p,H p=none->Q (.ref p) (upd H p (.lst (zAT k.toNat xs).flatten))
def len_rep(xs:List α)(k:Nat):(zAT k xs).flatten.length=k*xs.length:=by
 induction k with
 |zero=>simp
 |succ k ih=>rw[zBA,zBR,zAC,ih,Nat.succ_mul,Nat.add_comm]
def aFH:OpR X (zBv .Mult) aGY:=by
 intro pins s Z H x y v u Q I rx ry h;obtain⟨l,k,xs,rfl,rfl,hH,h1,h2,hz,q⟩:=h;cases rx;obtain⟨t,rfl⟩:=ry;obtain⟨z,its,n,r,hl,e⟩:=I.lstM hH;have hlen:its.toArray.size*k.toNat<=zAN:=by rw[zAF,<-hl];exact hz
 have hcap:¬its.toArray.size*k.toNat>(2^63-1) / 8:=by
  have:(zAN:Nat)<=(2^63-1) / 8:=by decide
  lia
 have hfit:¬(!Builtin.List.listFitsIndex k)=true:=by
  rw[fitsIndex_both h1 h2];exact zAI
 have hlong:¬zCK (its.toArray.size*k.toNat)=true:=by
  rw[vZ hlen];exact zAI
 have hnew:zD9 (λ x1 x2=>x1++x2) #[] (zAT (if its.toArray.isEmpty=true then 0 else k.toNat) its.toArray)=(zAT k.toNat its).flatten.toArray:=by
  have f0:∀m:Nat,zD9 (λ x1 x2=>x1++x2) #[] (zAT m its.toArray)=(zAT m its).flatten.toArray:=λ m=>by
   have:=foldl_rep its m []
   rw[zBx]at this;exact this
  rw[f0];cases its with
  |nil=>simp
  |cons a r'=>rw[if_neg (by simp)]
 refine zF4 (T:="list") (U:="int") (by decide) ⟨_,e,rfl⟩ (λ s'=>zEm s' k t) noFill_list_mul zGi zDg repeat_list zG1.lookup
  (zCX zDg (zEm s k t) zG0 (zGQ _ _) (int___rmul___int_list k t l its.toArray n)
   ⟨e,rfl,⟨_,e,rfl⟩,zCX F.slot_list_mul ⟨_,e,rfl⟩ F.entry_list_mul (F.args_list_mul_2 _ _) (AutoListH.list___mul___list_int_3 l its.toArray n k t hfit hcap hlong) ⟨e,?_⟩⟩)
 rw[hnew];exact⟨.ref _,_,I.lnew (t':=s.toks) (r.rep k.toNat) (by rw[len_rep,zEQ];exact hz),rfl,q _ I.fresh⟩
end
end L2
namespace Att
open PySem PySem.W PySem.Calls PyProof.Rows
def oW:∀(ns:List Int) (vs:List Value),WellAll P h vs (ns.map WData.int)->zBo vs ns:=by
 intro ns;induction ns with
 |nil=>
  intro vs w;rw[zGl]at w;cases w;exact .nil
 |cons n ns ih=>
  intro vs w;rw[zAj]at w;cases w with
  |cons a b=>
   cases a;exact .cons _ _ (ih _ b)
def zT{l:OpenLaw}{n:Nat}(hn:l.most=some n){P:Params}{h:Heap}{args:List WData}{vals:List Value}
  (hpre:l.row.toRowW.claim.pre args=true)(hwl:WellAll P h vals args):
  ∃a vs ns,vals=[zBb a]/\args=[WData.list (ns.map WData.int)]/\h.get? a=some {cls:=.type "list",data:=.seq vs.toArray}/\zBo vs ns/\ns.length<=n:=by
 have hsh:WShape.hasAll [] args [.list .int]=true:=(pre_splitW hpre).1;have hc:l.pre.holds [] {args:=args}=true:=(pre_splitW hpre).2;obtain⟨d,r,rfl,h1,h2⟩:=hasAllW_cons hsh;obtain rfl:=hasAllW_nil h2;obtain⟨xs,rfl,h3⟩:=hasW_list h1;obtain⟨ns,rfl⟩:=items_int h3;have hlen:ns.length<=n:=by
  unfold OpenLaw.pre at hc;have h4:(WTm.not (.lt (.lit (.int (n:Int))) (.len (.arg 0)))).holds [] {args:=[.list (ns.map .int)]}=true:=by
   have h4:=(holds_andW hc).1;rw[hn]at h4;exact h4
  have h5:=condW_of h4 (w_not (w_lt w_lit (w_len_list (w_arg rfl))));rw[zAH]at h5;refine Nat.le_of_not_lt λ q=>?_
  have q':(n:Int)<((ns.length:Nat):Int):=by lia
  first
   |(rw[decide_eq_true q']at h5;exact absurd h5 (by decide))
   |(simp at h5;lia)
 cases hwl with
 |cons w1 w2=>
  cases w2;cases w1 with
  |list ho hall=>exact⟨_,_,ns,rfl,rfl,ho,oW ns _ hall,hlen⟩
def zW(l:OpenLaw)(args:List WData):l.row.toRowW.claim.post args (.bool true) args=true:=
 postW_of (r:=l.row.toRowW) (X:=(true==true))
  (show WShape.has [] (.bool true) .bool=true by first|rfl|decide|simp[WShape.has,WShape.arms,WShape.armsAll])
  (show(WTm.eq .res (.lit (.bool true))).value [] {args:=args,res:=some (.bool true),after:=args}=some (.bool (true==true))from w_eq_bool (w_res rfl) w_lit) rfl
def wF{l:OpenLaw}{n:Nat}{q:zAS}{loose:List Str}{XP:(Str->Option Value)->Heap->Prop}{YP:World->Heap->Prop}{d:DefRec}
  (hn:l.most=some n)(hdf:d.params.defaults=[])
  (call:∀(w:World) (z5 zS:zAB) (mg mb:Str->Option Value) (fa:Addr) (o:Obj) (pm cd doc:Value) (a:Addr) (vs:List Value) (ns:List Int),
   Ground q loose [] XP w z5 mg mb zS.heap->YP w zS.heap->
   zS.heap.get? fa=some o->o.data= .func (docDef d.name d.params d.body d.scope pm cd doc)->zS.heap.CodeRec cd d.name->mg d.name=some (.ref fa)->
   zS.heap.get? a=some {cls:=.type "list",data:=.seq vs.toArray}->zBo vs ns->ns.length<=n->zS.gens=#[]->
   zCH (model l.prog w) zCN (.call (.ref fa) ⟨[.ref a],[]⟩) (λ r s'=>r= .ok (.ret (.bool true))/\OldK zS.heap s'.heap/\s'.os=zS.os/\zDp s'.gens) zS):
  WalkO q loose XP YP l.row.toRowW d [] (λ f vs=>zFg f vs):=by
 intro w z5 zS mg mb G Y fa o pm cd doc dV kV ho hd hcd hD hmg hg args vals as hpre hlay hrd hwl hlo;obtain rfl:dV= .none:=Dflts.none hD hdf;obtain rfl:kV= .none:=Dflts.noKw hD;obtain⟨a,vs,ns,rfl,rfl,hobj,hints,hlen⟩:=zT hn hpre hwl;refine enter_call (zDu (call w z5 zS mg mb fa o pm cd doc a vs ns G Y ho (fd_plain hd) hcd hmg hobj hints hlen hg) λ r s' hq=>?_);obtain⟨rfl,h2,h3,h4⟩:=hq;exact⟨.inl ⟨.bool true,.bool true,[],rfl,λ _=>rfl,.bool true,zW l _,λ _=>⟨zE9,λ _ hm=>(nomatch hm)⟩⟩,h2,h3,h4⟩
section
variable{prog:zAS}{w:World}{A:zA8}{E:Value->zAB->Prop}{s:zAB}{K:Frag}
def make_obj(X:K.In s.heap)(hm:makesIn K C=true)(hi:findIn K (.ref C) "__init__"=some (some (.ref fI)))(hf:isFn K (.ref fI)=true)
  (h:zCH (model prog w) (A.under (.builtin "type.__call__" ⟨.ref C::rest,kw⟩)) (.call (.ref fI) ⟨.ref (s.heap.objs.size+1)::rest,kw⟩) (InitBack (s.heap.objs.size+1) R)
   {s with heap:=(s.heap.push emptyDict).push (instObj C s.heap.objs.size)}):zCH (model prog w) A (.call (.ref C) ⟨rest,kw⟩) R s:=by
 obtain⟨hh,g,d,t,os⟩:=s;exact make_core (makes_of X hm) (looks_findIn X hi) (λ self=>bind_fn X self (beq_iff_eq.mp hf)) (.inl rfl) h
def get_field(X:K.In s.heap)(I:zFu s.heap x ox C (some (dictOf es n)))(hg:plainGet K C name=true)(hh:hasDictIn K C=true)(ha:findIn K (.ref C) name=some none)
  (hl:getL name es=some (some v))(hv:handedIn v=true)(h:Q v {s with toks:=s.toks+1}):wpAny (model prog w) A (getAttr (.ref x) name expr) Q E s:=
 get_value X I (plainGet_of hg).1 (findObj_own hh ha rfl hl) hv h
def ledger(h:Heap)(L d:Addr):List (Addr×Obj):=(zBG h.objs.size).filterMap λ a=>if a=L\/a=d then none else(h.get? a).map λ o=>(a,o)
end
end Att
namespace L2
open PySem PySem.Spec PyProof.Rows
theorem rR:∀{vs:List Value} {ns:List Int},zBo vs ns->Vals (ns.map V.int) vs
 |_,_,.nil=>.nil
 |_,_,.cons n t h=>.cons ⟨t,rfl⟩ (rR h)
def Only(H:Hp):Prop:=∀b,H b=none\/∃o xs,H b=some (.frz o (.lst xs))
def iu(s:Stmt):zCh:=match s with
 | .FunctionDef _ a _ _ _ _ _ _ _ _=>a
 |_=>{posonlyargs:=[],args:=[],vararg:=none,kwonlyargs:=[],kw_defaults:=[],kwarg:=none,defaults:=[]}
def bY(s:Stmt):List Stmt:=match s with
 | .FunctionDef _ _ b _ _ _ _ _ _ _=>b
 |_=>[]
def aF(s:Stmt):Scope:=match s with
 | .FunctionDef _ _ _ _ _ _ sc _ _ _=>sc
 |_=>{kind:=.function,names:=[],isGenerator:=false,isCoroutine:=false}
abbrev CX0:CXT:=λ _ _ _ _ _ _=>False
abbrev E0:XK:=λ _ _ _=>False
structure Fun(K:zAA)(x qual:Str)(st:Stmt)(f:Addr)(fd:zAy):Prop where
 ex:∃(oc:Value) (od:Option Addr) (kV doc pm:Value) (an:Option Addr) (cdv ct:Value) (osl:Array (Option Value)),
  fd=zB6 x qual (iu st) (bY st) (aF st) .none kV doc pm an cdv ct/\K.lookup f=some ⟨oc,od,.func fd,osl⟩/\zCe K cdv qual=true
 kp:zB4 K (.ref f)=true
section
variable{K:zAA}
def Fun.binds{x qual:Str}{st:Stmt}{f:Addr}{fd:zAy}{ps:List Str}(F:Fun K x qual st f fd)
  (h:∀(kV doc pm:Value) (an:Option Addr) (cdv ct:Value) (us:List Value),us.length=ps.length->zG9 (zB6 x qual (iu st) (bY st) (aF st) .none kV doc pm an cdv ct) ⟨us,[]⟩=pure (ps.zip us)):Binds K fd ps []:=by
 obtain⟨oc,od,kV,doc,pm,an,cdv,ct,osl,rfl,lk,hcd⟩:=F.ex;exact .all (h kV doc pm an cdv ct)
def aFj{x qual:Str}{st:Stmt}{f:Addr}{oc:Value}{od an:Option Addr}{osl:Array (Option Value)}{kV doc pm cdv ct:Value}(l:K.lookup f=some ⟨oc,od,.func (zB6 x qual (iu st) (bY st) (aF st) .none kV doc pm an cdv ct),osl⟩)
  (c:zCe K cdv qual=true)(k:zB4 K (.ref f)=true):Fun K x qual st f (zB6 x qual (iu st) (bY st) (aF st) .none kV doc pm an cdv ct):=⟨⟨oc,od,kV,doc,pm,an,cdv,ct,osl,rfl,l,c⟩,k⟩
end
def aM(H H':Hp):Prop:=∀b o,H b=some o->H' b=some o
def aM.refl(H:Hp):aM H H:=λ _ _ h=>h
def aM.trans(a:aM H H1)(b:aM H1 H2):aM H H2:=λ c o h=>b c o (a c o h)
def aM.free(e:aM H H')(h:H' l=zG6):H l=zG6:=by
 cases q:H l with
 |none=>rfl
 |some o=>
  rw[e l o q]at h;cases h
end L2
set_option maxHeartbeats 4000000
namespace HT
open PySem PyProof.Rows
section
open PySem.SeqAt
open PySem.AutoSeq1(wpAny_loadPart')
open PySem.MeetsSeq PySem.MeetsSeq2 PySem.MeetsSeq3
end
section
variable{prog:zAS}{w:World}{A:zA8}{E:Value->zAB->Prop}{s:zAB}
def aCE{ws:List Value}(ht:IsTup s.heap t #[])(hb:IsTup s.heap b ws.toArray)(h1:Q (.ref b) s):wpAny (model prog w) A (zBv .Add (.ref t) (.ref b)) Q E s:=by
 obtain⟨⟨cls,dd,data,sl⟩,ho,hc,n,hd⟩:=id ht;obtain⟨⟨cls2,dd2,data2,sl2⟩,ho2,hc2,n2,hd2⟩:=id hb;simp only at hc hd hc2 hd2;subst hc hd hc2 hd2;exact zGG ⟨_,ho,rfl⟩ ⟨_,ho2,rfl⟩ zEv zFj zDU zDL (zDH _ _)
   (tuple_addW0 t b #[] ws.toArray n n2 dd dd2 sl sl2 (by simp)) ⟨ho,ho2,h1⟩
def mO{lo hi:Option Int}(ht:IsTup s.heap t items)(hs:s.heap.IsSliceOf sl vl vu .none)(pl:zEp vl lo)(pu:zEp vu hi)
  (h1:sIx items.size 0 lo=0)(h2:sIx items.size items.size hi=items.size)
  (h:Q (.ref t) s):wpAny (model prog w) A (zFN (.ref t) (.ref sl)) Q E s:=by
 obtain⟨os,hos,hcs,hds⟩:=id hs;have hTs:s.TypeIs (.ref sl) "slice":=⟨os,hos,hcs⟩;obtain⟨ot,hot,hct,hdt⟩:=id ht;unfold zFN
 try with_reducible refine zDe ?_
 first|refine zAG (zA7 ?_)|skip
 refine zAG (zGv ht.typeIs (by decide) ?_);refine zAG (zFm (name:=Str.ofString "__getitem__") ht.typeIs zBX
  (zEw zBX ht.typeIs zGU ?_ (zG8 _ _)))
 show wpAny _ _ (zDm (.ref t)>>=_) _ _ s;refine zAG (tupleItemsOf_ ht ?_);refine zAG (zGI hTs ?_);rw[if_pos (by decide)];refine zAG (gw hs pl pu ?_);have hyes:(((sIx items.size 0 lo:Nat):Int)==0&&(1:Int)==1&&(sIx items.size items.size hi-sIx items.size 0 lo)==items.size)=true:=by
  rw[h1,h2];simp
 show wpAny _ _ (if (((sIx items.size 0 lo:Nat):Int)==0&&(1:Int)==1&&(sIx items.size items.size hi-sIx items.size 0 lo)==items.size)=true then _ else _) _ _ s;rw[if_pos hyes];unfold zGg;refine zAG (zAG (zGI ht.typeIs (zA7 ?_)));rw[if_pos (by decide)];exact zAG (zCz (zA7 ⟨_,rfl,zA7 h⟩))
end
end HT
namespace L2
open PySem PySem.Spec PyProof.Rows
def aDV(t T:String):Bool:=decide (t=T)||(decide (t="bool")&&decide (T="int"))
def aDT{K:zAA}(ht:t∈["NoneType","bool","int","str","list","tuple","dict"])(hT:T∈["bool","int","str","list","tuple","dict"]):
  zBd K (.type t) (.type T)=some (aDV t T):=by
 simp only[zAZ,zEN,or_false]at ht hT;rcases ht with rfl|rfl|rfl|rfl|rfl|rfl|rfl<;>rcases hT with rfl|rfl|rfl|rfl|rfl|rfl<;>kernel_rfl
def jy(t T:String)(b:Bool):Bool:=decide (t∈["NoneType","bool","int","str","list","tuple","dict"])&&decide (T∈["bool","int","str","list","tuple","dict"])&&(aDV t T==b)
def xU{K:zAA}(h:jy t T b=true):zBd K (.type t) (.type T)=some b:=by
 unfold jy at h;rw[zAO,zAO]at h;rw[aDT (of_decide_eq_true h.1.1) (of_decide_eq_true h.1.2),zDC h.2]
def bh(h:H p=none)(o:HO):aM H (upd H p o):=λ b u q=>by rw[aQ (bL q h)];exact q
section
variable{X:Cx}
def aHL(K:zAA):List V->Hp->VK->Prop:=λ xs H Q=>∃x T t b,xs=[x,.ty T]/\nW K H x (.type t)/\jy t T b=true/\Q (.bl b) H
def iH:jH X (.builtin "isinstance") (aHL X.K):=by
 intro pins s Z H xs us Q I r h;obtain⟨x,T,t,b,rfl,ty,ok,q⟩:=h;obtain⟨u,w',rfl,r1,r2⟩:=vals2 r;obtain rfl:w'=zCM T:=r2;exact zz I r1 ty (xU ok) λ tk=>⟨.bl b,H,I.tok tk,rfl,q⟩
def Inv.big'(I:Inv X pins Z H s):zD3<s.heap.objs.size:=by
 have h:zAX<s.heap.objs.size:=(I.mod.glob.keeps I.bk).lt;exact Nat.lt_trans (by decide) h
def aGL:TE:=λ _ H Q=>∀p,H p=none->Q (.ref p) (upd H p (.dK []))
def aCv:PE X (.Dict [] [] pos) aGL:=λ pins s Z H Q I h=>
 wpAny_Dict_empty ⟨.ref s.heap.objs.size,_,I.laid (a:=s.heap.objs.size) (o:=.dK []) (t':=s.toks) (λ _ _ q=>zAD _ q) (zAP _)
  ⟨zAn _,beq_eq_false_iff_ne.mpr (zDx (zAk I.big')),[],.nil,Heap.DictOf.new s.heap⟩,rfl,h _ (I.hok.fresh (zAP _))⟩
end
def jC(l:Addr)(H H':Hp):Prop:=∀b o,b≠l->H b=some o->H' b=some o
def aM.sqt{K:zAA}(e:aM H H')(h:SqT K H a xs):SqT K H' a xs:=by
 rcases h with (h|⟨o,h⟩)|h
 .exact .inl (.inl (e _ _ h))
 .exact .inl (.inr ⟨o,e _ _ h⟩)
 .exact .inr h
inductive D where
 |non|bl (b:Bool)|int (i:Int)|str (x:Str)|tup (l:List D)|lst (l:List D)|dct
mutual
inductive Rep(H:Hp):V->D->Prop where
 |non:Rep H .non .non
 |bl (b:Bool):Rep H (.bl b) (.bl b)
 |int (i:Int):Rep H (.int i) (.int i)
 |str (x:Str):Rep H (.str x) (.str x)
 |tup {a:Addr} {xs:List V} {ds:List D} (h:H a=some (.tup xs)) (r:aCM H xs ds):Rep H (.ref a) (.tup ds)
 |lst {a:Addr} {xs:List V} {ds:List D} (h:H a=some (.lst xs)) (r:aCM H xs ds):Rep H (.ref a) (.lst ds)
 |dct {a:Addr} (h:H a=some (.dK [])):Rep H (.ref a) .dct
inductive aCM(H:Hp):List V->List D->Prop where
 |nil:aCM H [] []
 |cons {x:V} {d:D} {xs:List V} {ds:List D} (h:Rep H x d) (r:aCM H xs ds):aCM H (x::xs) (d::ds)
end
def PE.weaken(h:PE X e t)(imp:∀Z H Q,t' Z H Q->t Z H Q):PE X e t':=λ pins s Z H Q I q=>h pins s Z H Q I (imp Z H Q q)
def OpR.weaken(h:OpR X f r)(imp:∀x y H Q,r' x y H Q->r x y H Q):OpR X f r':=λ pins s Z H x y v u Q I rx ry q=>h pins s Z H x y v u Q I rx ry (imp x y H Q q)
def New(H:Hp)(o:HO)(Q:VK):Prop:=∀p H',aM H H'->H' p=some o->H p=none->Q (.ref p) H'
def New.at(n:New H o Q)(hp:H p=none):Q (.ref p) (upd H p o):=n p _ (bh hp o) aj hp
section
variable{X:Cx}{es:List Expr}{t:TA}{pos:Pos}
def aGH(t:TA):TE:=λ Z H Q=>t Z H λ xs H1=>xs.length<=zAN/\New H1 (.tup xs) Q
def aDp(t:TA):TE:=λ Z H Q=>t Z H λ xs H1=>xs.length<=zAN/\New H1 (.lst xs) Q
def aCu{x1}(h:PA X es t):PE X (.Tuple es x1 pos) (aGH t):=by
 have h':PA X es (λ Z H Q=>∃R:List V->Hp->Prop,t Z H R/\∀xs H',R xs H'->Q xs H'):=by
  intro pos pins s Z H Q I ⟨R,q,imp⟩;exact thn (h pos pins s Z H R I q) λ us s' ⟨vs,H',I',r,q'⟩=>⟨vs,H',I',r,imp _ _ q'⟩
 exact(aEt h').weaken λ Z H Q q=>⟨_,q,λ xs H' ⟨z,n⟩=>⟨z,λ p hp=>n.at hp⟩⟩
def jd(h:PA X es t):PE X (.List es pos) (aDp t):=by
 have h':PA X es (λ Z H Q=>∃R:List V->Hp->Prop,t Z H R/\∀xs H',R xs H'->Q xs H'):=by
  intro pos pins s Z H Q I ⟨R,q,imp⟩;exact thn (h pos pins s Z H R I q) λ us s' ⟨vs,H',I',r,q'⟩=>⟨vs,H',I',r,imp _ _ q'⟩
 exact(aEw h').weaken λ Z H Q q=>⟨_,q,λ xs H' ⟨z,n⟩=>⟨z,λ p hp=>n.at hp⟩⟩
def aEY:TE:=λ _ H Q=>New H (.dK []) Q
def aBH:PE X (.Dict [] [] pos) aEY:=aCv.weaken λ Z H Q n p hp=>n.at hp
def aAq:R2:=λ x y H Q=>∃l b xs zs,x= .ref l/\y= .ref b/\H l=some (.lst xs)/\H b=some (.lst zs)/\xs.length+zs.length<=zAN/\New H (.lst (xs++zs)) Q
def uL:OpR X (zBv .Add) aAq:=aFP.weaken λ x y H Q ⟨l,b,xs,zs,e1,e2,h1,h2,z,n⟩=>⟨l,b,xs,zs,e1,e2,h1,h2,z,λ p hp=>n.at hp⟩
end
def aY(scope:Scope)(env:Env):List (Str×Addr):=(scope.names.filterMap λ y=>if y.2== .free then(env.cells.lookup y.1).map λ c=>(y.1,c)else none).reverse
theorem qm(env:Env):∀(names:List (Str×zDG)) (acc:List (Str×Addr)),(∀y∈names,y.2= .free->∃c,env.cells.lookup y.1=some c)->
  (forIn names acc λ(x:Str×zDG) r=>if (x.2== .free)=true then do let c <-cellOf env x.1;pure (zBL ((x.1,c)::r))else pure (zBL r):Sem (List (Str×Addr)))=
   pure ((names.filterMap λ y=>if y.2== .free then(env.cells.lookup y.1).map λ c=>(y.1,c)else none).reverse++acc)
 |[],acc,_=>rfl
 |(n,k)::r,acc,h=>by
  rw[List.forIn_cons];have ih:=λ acc'=>qm env r acc' λ y hy=>h y (zAb _ hy)
  by_cases hk:k= .free
  .subst hk
   obtain⟨c,hc⟩:=h (n,.free) zAU rfl;have hc':env.cells.lookup n=some c:=hc;simp only[beq_self_eq_true,if_true,cellOf,hc',zBi,zDB,List.reverse_cons,zA2,List.singleton_append];exact ih _
  .have hb:(k==zBm)=false:=by simpa using hk
   simp only[hb,zCE,if_false,zBi];exact ih _
def gj(h:∀y∈scope.names,y.2= .free->∃c,env.cells.lookup y.1=some c):zEh scope env=pure (aY scope env):=by
 have e:=qm env scope.names [] h;rw[zA3]at e;have e2:zEh scope env=((forIn scope.names ([]:List (Str×Addr)) λ(x:Str×zDG) r=>if (x.2== .free)=true then do let c <-cellOf env x.1;pure (zBL ((x.1,c)::r))else pure (zBL r):Sem (List (Str×Addr)))>>=λ r=>pure r):=rfl;rw[e2,e];rfl
def dR(h:(aY scope env).lookup x=some c):env.cells.lookup x=some c:=by
 have hm:=zAg h;unfold aY at hm;rw[zBI,zBq]at hm;obtain⟨y,hy,e⟩:=hm;split at e
 .cases q:env.cells.lookup y.1 with
  |none=>rw[q]at e;cases e
  |some c'=>
   rw[q]at e;have e':=zAf e;injection e' with e1 e2
   subst e1 e2;exact q
 .cases e
def mY(hx:scope.names.lookup x=some .free)(h:env.cells.lookup x=some c):(aY scope env).lookup x=some c:=by
 have hm:(x,zBm)∈scope.names:=zAg hx
 have:(x,c)∈aY scope env:=by
  unfold aY;rw[zBI,zBq];exact⟨_,hm,by simp[h]⟩
 cases q:(aY scope env).lookup x with
 |none=>
  exact absurd this (by
   intro hm'
   have:=List.lookup_eq_none_iff.mp q _ hm'
   simp at this)
 |some c'=>
  have:=dR q
  rw[h]at this;exact this.symm▸rfl
def oO(scope:Scope)(C:Addr):List (Str×Addr):=zC5 (C+1) scope.names []
theorem iG:∀(names:List (Str×zDG)) (n:Nat) (acc:List (Str×Addr)),zC5 n names acc=zC5 n names []++acc
 |[],_,_=>rfl
 |(x,k)::r,n,acc=>by
  unfold zC5;split
  .rw[iG r (n+1) ((x,n)::acc),iG r (n+1) [(x,n)],zA2];rfl
  .exact iG r n acc
theorem lJ:∀{names:List (Str×zDG)} {n:Nat} {x:Str} {c:Addr},(x,c)∈zC5 n names []->(x,zCr)∈names
 |(y,k)::r,n,x,c,h=>by
  unfold zC5 at h;split at h
  .rename_i hk
   rw[iG,zAs]at h;rcases h with h|h
   .exact zAb _ (lJ h)
   .have e:=zBO.mp h
    cases e;rw[zDC hk];exact zAU
  .exact zAb _ (lJ h)
 |[],_,_,_,h=>by cases h
def iC{l m:List (Str×Addr)}(h:(l++m).lookup x=some c):l.lookup x=some c\/(l.lookup x=none/\m.lookup x=some c):=by
 rw[zDw]at h;cases e:l.lookup x with
 |some c'=>rw[e]at h;exact .inl h
 |none=>rw[e]at h;exact .inr ⟨rfl,h⟩
def ym{M:Model}{A:zA8}{E:Value->zAB->Prop}{s:zAB}{scope:Scope}{globals:Addr}{cl:List (Str×Addr)}{qual:Str}{env:Env}{Q:Env->zAB->Prop}
  (h:∀h':Heap,h'.Ns s.heap.objs.size (λ _=>none)->(∀b o,s.heap.get? b=some o->h'.get? b=some o)->CellsOk h' (s.heap.objs.size+1) (oO scope s.heap.objs.size)->
   Q {scope:=scope,locals:=s.heap.objs.size,globals:=globals,cells:=oO scope s.heap.objs.size++cl,qual:=qual,func:=none,code:=env.code,frame:=env.frame,builtins:=env.builtins} {s with heap:=h'}):
  wpAny M A (zEG scope globals cl [] qual none .none (some env)) Q E s:=by
 simp only[zEG,Option.isSome_some,if_true];refine zAG (wpAny_alloc ?_);refine zAG (wpAny_layCells _ (λ name kind cells=>by cases hkc:kind==zCr<;>simp[hkc]) _ _ _ _ ?_);have ok:=cellsFrom_ok scope.names (s.heap.push {cls:=.type "dict",data:=.dict #[]}) (s.heap.objs.size+1) [] ⟨λ _ _ hm=>(nomatch hm),zE9⟩ (by rw[zCS];exact zAP _);rw[zCS]at ok;rw[show({s with heap:=s.heap.push {cls:=.type "dict",data:=.dict #[]}}:zAB).heap.objs.size=s.heap.objs.size+1 from zCS ..,iG];refine zA7 ?_;exact h _ ((Heap.Ns.new s.heap (.type "dict")).keeps (pushCells_keeps _ _)) (λ b o e=>pushCells_keeps _ _ b o (zAD _ e)) ok
def Cx.block(X:Cx)(scope:Scope)(C:Addr)(N:List Str)(fp:List Addr)(z5:zAB)(z0:Hp):Cx:=
  {prog:=X.prog,w:=X.w,K:=X.K,mg:=X.mg,base:=X.base,A:=X.A,N:=N,z5:=z5,z0:=z0,env:=compEnvC scope (oO scope C++aY scope X.env) C X.env,outer:=X.stack,stack:=X.stack,ex:=fp,
    fn:=λ x=>scope.names.lookup x==some .cell,calm:=X.calm,pn:=[],xe:=λ _ _=>False}
structure dj(X:Cx)(scope:Scope)(N:List Str)(st:St->St)(ks:List Nat):Prop where
 kind:scope.kind= .function
 sep:∀y∈scope.names,y.2= .cell->scope.names.lookup y.1=some .cell
 loc:∀y∈scope.names,y.2= .local->scope.names.lookup y.1=some .local
 free:∀y∈scope.names,y.2= .free->X.env.kindOf y.1=some .cell\/X.env.kindOf y.1=some .free
 len:∀Z,(st Z).length=N.length
 val:∀Z (i:Nat) x v,N[i]? =some x->(st Z)[i]? =some (some v)->scope.names.lookup x=some .free/\i∉ks/\∃j:Nat,X.N[j]? =some x/\Z[j]? =some (some v)
def uE(h:(zEk scope env).names.lookup x=some .cell\/(zEk scope env).names.lookup x=some .free):scope.names.lookup x=some .free\/scope.names.lookup x=some .cell:=by
 have go:∀names:List (Str×zDG),((names.map λ(n,k)=>if (k==zBm&&env.scope.kind== .function&&env.kindOf n==some .cell)then(n,zCr)else(n,k)).lookup x=some .cell\/
   (names.map λ(n,k)=>if (k==zBm&&env.scope.kind== .function&&env.kindOf n==some .cell)then(n,zCr)else(n,k)).lookup x=some .free)->names.lookup x=some .free\/names.lookup x=some .cell:=by
  intro names;induction names with
  |nil=>intro h;simp at h
  |cons y r ih=>
   obtain⟨n,k⟩:=y;intro h;rw[zAj]at h;by_cases hx:x==n
   .rw[zAt,hx]
    show some k=some .free\/some k=some .cell;by_cases hcc:(k==zBm&&env.scope.kind== .function&&env.kindOf n==some .cell)=true
    .rw[zAO,zAO]at hcc
     rw[zDC hcc.1.1];exact .inl rfl
    .simp only[if_neg hcc,zAt,hx]at h
     exact h.elim .inr .inl
   .have hx':(x==n)=false:=by simpa using hx
    rw[zAt,hx'];refine ih ?_;by_cases hcc:(k==zBm&&env.scope.kind== .function&&env.kindOf n==some .cell)=true
    .simp only[if_pos hcc,zAt,hx']at h
     exact h
    .simp only[if_neg hcc,zAt,hx']at h
     exact h
 exact go scope.names h
def uF(h:scope.names.lookup x=some .free):(zEk scope env).names.lookup x=some .cell\/(zEk scope env).names.lookup x=some .free:=by
 have go:∀names:List (Str×zDG),names.lookup x=some .free->((names.map λ(n,k)=>if (k==zBm&&env.scope.kind== .function&&env.kindOf n==some .cell)then(n,zCr)else(n,k)).lookup x=some .cell\/
   (names.map λ(n,k)=>if (k==zBm&&env.scope.kind== .function&&env.kindOf n==some .cell)then(n,zCr)else(n,k)).lookup x=some .free):=by
  intro names;induction names with
  |nil=>intro h;simp at h
  |cons y r ih=>
   obtain⟨n,k⟩:=y;intro h;rw[zAj];by_cases hx:x==n
   .rw[zAt,hx]at h
    have hk:k= .free:=zAf h;by_cases hcc:(k==zBm&&env.scope.kind== .function&&env.kindOf n==some .cell)=true
    .simp only[if_pos hcc,zAt,hx]
     exact .inl trivial
    .simp only[if_neg hcc,zAt,hx]
     exact .inr (by rw[hk])
   .have hx':(x==n)=false:=by simpa using hx
    rw[zAt,hx']at h;by_cases hcc:(k==zBm&&env.scope.kind== .function&&env.kindOf n==some .cell)=true
    .simp only[if_pos hcc,zAt,hx']
     exact ih h
    .simp only[if_neg hcc,zAt,hx']
     exact ih h
 exact go scope.names h
section
variable{X:Cx}{pins:List (Addr×Obj)}{Z:St}{H:Hp}{s:zAB}
theorem Inv.block{st:St->St}{D C:Addr}(I:Inv X pins Z H s)(B:dj X scope N st ks)
  (hfp:∀b∈fp,m7 X pins H b)(hob:∀b∈fp,∃ob,s.heap.get? b=some ob)
  (hD:s.heap.objs.size<=D)(hC:s.heap.objs.size<=C)(hDC:D≠C)(keep:∀b u,s.heap.get? b=some u->h'.get? b=some u)(hns:h'.Ns C λ _=>none)(hcs:CellsOk h' (C+1) (oO scope C))(hDo:∀c,C<c->D≠c)(hacc:cH X.prog X.w (upd H D o) h' D o):
  Inv (X.block scope C N fp s H) [] (st Z) (upd H D o) {s with heap:=h',toks:=tk}:=by
 have hHD:H D=none:=I.hok.fresh hD;have hcl:∀x c,(aY scope X.env).lookup x=some c->X.env.cells.lookup x=some c:=λ x c e=>dR e
 have hol:∀x c,(oO scope C).lookup x=some c->C<c/\h'.IsCell c none:=λ x c e=>let⟨q1,q2⟩:=hcs.empty x c (zAg e);⟨q2,q1⟩
 have hlt:∀x c,(aY scope X.env).lookup x=some c->c<s.heap.objs.size:=λ x c e=>let⟨v,ic⟩:=I.cell x c (hcl x c e);ic.lt
 have hfresh:∀b∈fp,b<s.heap.objs.size:=λ b hb=>by
  obtain⟨ob,e⟩:=hob b hb;exact zAW e
 refine⟨⟨I.mod,?_,I.ok.glob,I.ok.blt,hC,λ x y c e1 e2=>?_,λ x hx=>?_,λ x c hf e=>?_,I.ok.hd,I.ok.frames,.inl rfl,λ b hb=>⟨?_,λ x c e z=>?_⟩,
  I.bs,?_,λ b ob e hb=>?_,λ b hb hs=>?_,I.stack,I.stkFree⟩,rfl,I.bare,Un.laid keep hD hHD,⟨_,hns,λ i x v e1 e2 hv=>?_⟩,λ x c e=>?_,?_,λ x c e=>?_,λ p hp=>absurd (show p∈([]:List (Addr×Obj))from hp) (by simp),I.hok.laid keep hD hacc,B.len Z,λ p hp=>absurd (show p∈([]:List (Addr×Obj))from hp) (by simp)⟩
 .show(zEk scope X.env).kind= .function
  exact B.kind
 .rcases iC e1 with a1|⟨_,a1⟩<;>rcases iC e2 with a2|⟨_,a2⟩
  .exact PySem.name_of_addr hcs.apart (zAg a1) (zAg a2)
  .exact absurd (hlt y c a2) (zFB.mpr (zAr hC (zCL (hol x c a1).1)))
  .exact absurd (hlt x c a1) (zFB.mpr (zAr hC (zCL (hol y c a2).1)))
  .exact I.ok.inj x y c (hcl x c a1) (hcl y c a2)
 .show∃c,(oO scope C++aY scope X.env).lookup x=some c
  rw[zDw];cases e:(oO scope C).lookup x with
  |some c=>exact⟨c,rfl⟩
  |none=>
   rcases uE hx with hfree|hcell
   .obtain⟨c,hc⟩:=I.ok.has x (B.free (x,.free) (zAg hfree) rfl)
    exact⟨c,mY hfree hc⟩
   .obtain⟨c,hc⟩:=mZ (n:=C+1) hcell
    rw[show(oO scope C).lookup x=some c from hc]at e;cases e
 .rcases iC e with a1|⟨a0,_⟩
  .exact zAr hC (zCL (hol x c a1).1)
  .obtain⟨c',hc'⟩:=mZ (n:=C+1) (zDC hf)
   rw[show(oO scope C).lookup x=some c' from hc']at a0;cases a0
 .exact zAk (zAQ (hfresh b hb) hC)
 .rcases iC e with a1|⟨_,a1⟩
  .exact absurd (hfresh b hb) (zFB.mpr (by rw[<-z];exact zAr hC (zCL (hol x c a1).1)))
  .exact(hfp b hb).2.2.2.2.1 x c (hcl x c a1) z
 .exact zAr I.ok.bsz I.sz
 .rcases(hfp b hb).2.2.2.1 with z|z
  .exact I.ok.noex b ob e z
  .exact absurd (zAQ (zAW (I.ok.bs b ob e).1) z) (zBg _)
 .rcases zAZ.mp (I.stkSub b hs)with z|z
  .exact(hfp b hb).2.1 z
  .exact(hfp b hb).2.2.1 z
 .obtain⟨hfree,_,j,f1,f2⟩:=B.val Z i x v e1 e2
  obtain⟨m,hn,hl⟩:=I.loc;have hk:=B.free (x,.free) (zAg hfree) rfl;obtain⟨u,ru,hu⟩:=hl j x v f1 f2 (hk.elim (λ z=>.inr (.inl z)) λ z=>.inr (.inr z));rcases hu with ⟨k,_⟩|⟨_,c,ec,ic⟩
  .rcases hk with z|z
   .exact absurd (k.symm.trans z) (by decide)
   .exact absurd (k.symm.trans z) (by decide)
  .have hno:(oO scope C).lookup x=none:=by
    cases e:(oO scope C).lookup x with
    |none=>rfl
    |some c'=>
     have:=B.sep _ (lJ (zAg e)) rfl
     rw[hfree]at this;cases this
   refine⟨u,ru,.inr ⟨?_,c,by show(oO scope C++aY scope X.env).lookup x=some c;rw[zDw,hno];exact mY hfree ec,ic.keeps keep⟩⟩;rcases hv with z|z|z
   .have z':(zEk scope X.env).names.lookup x=some .local:=z
    rcases uF (env:=X.env) hfree with y|y
    .exact absurd (z'.symm.trans y) (by decide)
    .exact absurd (z'.symm.trans y) (by decide)
   .exact .inl z
   .exact .inr z
 .rcases iC e with a1|⟨_,a1⟩
  .exact⟨_,(hol x c a1).2⟩
  .obtain⟨v,ic⟩:=I.cell x c (hcl x c a1)
   exact⟨v,ic.keeps keep⟩
 .show upd H D o C=none
  rw[aQ (zDx hDC)];exact I.hok.fresh hC
 .show upd H D o c=none
  rcases iC e with a1|⟨_,a1⟩
  .rw[aQ (zDx (hDo c (hol x c a1).1))]
   exact I.hok.fresh (zAr hC (zCL (hol x c a1).1))
  .obtain⟨v,ic⟩:=I.cell x c (hcl x c a1)
   rw[aQ (zAk (zAQ ic.lt hD))];exact I.freeC x c (hcl x c a1)
end
section
variable{prog:zAS}{w:World}{A:zA8}{R:zFJ->zAB->Prop}{s:zAB}
def uf(I:Nat->zAB->Prop)
  (turn:∀n s,I n s->wpAny (model prog w) A (pyNext it) (λ r zS=>match r with
   |none=>R (.ok .next) zS
   |some v=>wpAny (model prog w) A (zCm target it v) (λ _ zS=>wpAny (model prog w) A (zFL target env v) (λ _ z4=>
     wpAny (model prog w) A (forIn ifs true λ c r=>if r=true then do let ok <-isTrue c env (eval c env);pure (zBL ok)else pure (zBL r)) (λ ok zD=>
      if ok=true then wpAny (model prog w) A (eval elt env) (λ x y7=>
       wpAny (model prog w) A (call (.builtin "list.append") [acc,x]) (λ _ s₅=>∃m,m<n/\I m s₅) (λ _ _=>False) y7) (λ _ _=>False) zD
      else∃m,m<n/\I m zD) (λ _ _=>False) z4) (λ _ _=>False) zS) (λ _ _=>False) zS) (λ _ _=>False) s)
  (n:Nat)(h:I n s):zCH (model prog w) A (.compLoop (.ListComp elt [⟨target,iter,ifs,0⟩] scope pos) 0 it acc env) R s:=by
 refine codeAny_loop rfl I (λ n s hI=>?_) n h;show wpAny _ A ((zGa (.ListComp elt [⟨target,iter,ifs,0⟩] scope pos) 0 it acc env).onRaise (λ x=>do noteFrame x env;theTreesLotGoes x)) _ _ s;refine wpAny_noted ?_;rw[compTurn_list];refine zAG (zDf (zAG (zBE (turn n s hI) (λ r zS zI=>?_) λ _ _ h'=>h'.elim)));cases r with
 |none=>exact zA7 zI
 |some v=>
  refine zAG (zBE zI (λ _ zS zI=>?_) λ _ _ h'=>h'.elim);refine zAG (zBE zI (λ _ z4 y4=>zAG (zBE y4 (λ ok zD yY=>?_) λ _ _ h'=>h'.elim)) λ _ _ h'=>h'.elim);cases ok with
  |false=>exact zA7 ⟨rfl,yY⟩
  |true=>
   exact zAG (zAG (zBE yY (λ x y7 h₄=>zAG (zBE h₄ (λ _ s₅ h₅=>zA7 (zA7 ⟨rfl,h₅⟩)) λ _ _ h'=>h'.elim)) λ _ _ h'=>h'.elim))
end
def j6(g:TG)(ks:List Nat):Prop:=∀v Z H (Q:St->Hp->Prop),g v Z H Q->g v Z H (λ Z' H'=>Q Z' H'/\Z'.length=Z.length/\∀k,k∉ks->Z'[k]? =Z[k]?)
def qu(g:TGs)(ks:List Nat):Prop:=∀vs Z H (Q:St->Hp->Prop),g vs Z H Q->g vs Z H (λ Z' H'=>Q Z' H'/\Z'.length=Z.length/\∀k,k∉ks->Z'[k]? =Z[k]?)
def aD3(h:i∈ks):j6 (oF i) ks:=λ v Z H Q q=>⟨q,zBk,λ k hk=>zBc (λ(e:i=k)=>hk (e▸h))⟩
def aD2:qu aFi ks:=λ vs Z H Q ⟨e,q⟩=>⟨e,q,rfl,λ _ _=>rfl⟩
def tG(g:TG):Prop:=∀v Z H (Q Q':St->Hp->Prop),(∀Z' H',Q Z' H'->Q' Z' H')->g v Z H Q->g v Z H Q'
def nZ(g:TGs):Prop:=∀v Z H (Q Q':St->Hp->Prop),(∀Z' H',Q Z' H'->Q' Z' H')->g v Z H Q->g v Z H Q'
def aD5:tG (oF i):=λ v Z H Q Q' imp q=>imp _ _ q
def aD4:nZ aFi:=λ v Z H Q Q' imp ⟨e,q⟩=>⟨e,imp _ _ q⟩
def aBn(h1:tG t)(h2:nZ u):nZ (aBp t u):=λ vs Z H Q Q' imp ⟨v,r,e,q⟩=>⟨v,r,e,h1 _ _ _ _ _ (λ Z' H' q'=>h2 _ _ _ _ _ imp q') q⟩
def aBl(h1:j6 t ks)(m1:tG t)(h2:qu u ks)(m2:nZ u):qu (aBp t u) ks:=λ vs Z H Q ⟨v,r,e,q⟩=>
 ⟨v,r,e,m1 _ _ _ _ _ (λ Z' H' ⟨q',l',k'⟩=>m2 _ _ _ _ _ (λ Z2 H2 ⟨q2,l2,k2⟩=>⟨q2,l2.trans l',λ k hk=>(k2 k hk).trans (k' k hk)⟩) (h2 _ _ _ _ q')) (h1 _ _ _ _ q)⟩
def aFg{K:zAA}(h:qu t ks):j6 (aD6 K n t) ks:=λ v Z H Q ⟨a,xs,e1,e2,e3,q⟩=>⟨a,xs,e1,e2,e3,h _ _ _ _ q⟩
def aFh{K:zAA}(h:nZ t):tG (aD6 K n t):=λ v Z H Q Q' imp ⟨a,xs,e1,e2,e3,q⟩=>⟨a,xs,e1,e2,e3,h _ _ _ _ _ imp q⟩
def yE(X:Cx)(ifs:List Expr)(t:TT):Prop:=
 ∀(pins:List (Addr×Obj)) (s:zAB) (Z:St) (H:Hp) (Q:Bool->Hp->Prop),Inv X pins Z H s->t Z H Q->
  wpAny (model X.prog X.w) X.A (forIn ifs true λ c r=>if r=true then do let ok <-isTrue c X.env (eval c X.env);pure (zBL ok)else pure (zBL r)) (TP X pins Z Q) X.xe s
def aGz:TT:=λ _ H Q=>Q true H
def aEs:yE X [] aGz:=λ _ _ _ H _ I h=>wpAny_tests_nil ⟨H,I,h⟩
def tLC(wi:TI)(st:St->St)(g:TG)(tt:TT)(te:TE):TE:=λ Z H Q=>wi Z H λ J H1=>∀l,H1 l=none->∃W:Nat->Nat->List V->Hp->Prop,(∃m,W 0 m [] (upd H1 l (.lst [])))/\
 ∀i m acc H2,W i m acc H2->H2 l=some (.lst acc)/\acc.length<zAN/\((J.stop i H2/\Q (.ref l) H2)\/(J.go i H2/\∀x H3,J.yld i H2 x H3->g x (st Z) H3 λ Z4 H4=>tt Z4 H4 λ ok H5=>
  if ok=true then te Z4 H5 λ y H6=>H6 l=some (.lst acc)/\∃m',m'<m/\W (i+1) m' (acc++[y]) (upd H6 l (.lst (acc++[y])))else∃m',m'<m/\W (i+1) m' acc H5))
section
variable{X:Cx}{elt tg iter:Expr}{ifs:List Expr}{scope:Scope}{pos:Pos}{N:List Str}{st:St->St}{ks:List Nat}{wi:TI}{g:TG}{tt:TT}{te:TE}
def aB2(B:dj X scope N st ks)(hc:X.calm=true)(hg:∀C fp z5 z0,PG (X.block scope C N fp z5 z0) tg g)(hgo:j6 g ks)(ht:∀C fp z5 z0,yE (X.block scope C N fp z5 z0) ifs tt)
  (he:∀C fp z5 z0,PE (X.block scope C N fp z5 z0) elt te){H1:Hp}{Q:VK}{RR:Value->Addr->zFJ->zAB->Prop}
  (I:Inv X pins Z H1 z4)(T:Turn X.prog X.w X.K tg J fp it tn)(h0:tn 0 z4.heap)(hfp:∀b∈fp,m7 X pins H1 b)
  (h:∀l,H1 l=none->∃W:Nat->Nat->List V->Hp->Prop,(∃m,W 0 m [] (upd H1 l (.lst [])))/\
   ∀i m acc H2,W i m acc H2->H2 l=some (.lst acc)/\acc.length<zAN/\((J.stop i H2/\Q (.ref l) H2)\/(J.go i H2/\∀x H3,J.yld i H2 x H3->g x (st Z) H3 λ Z4 H4=>tt Z4 H4 λ ok H5=>
    if ok=true then te Z4 H5 λ y H6=>H6 l=some (.lst acc)/\∃m',m'<m/\W (i+1) m' (acc++[y]) (upd H6 l (.lst (acc++[y])))else∃m',m'<m/\W (i+1) m' acc H5)))
  (hRR:∀D C H' s',(∃Z',Inv (X.block scope C N fp z4 H1) [] Z' H' s')->z4.heap.objs.size<=C->Q (.ref D) H'->RR (.ref D) C (.ok .next) s'):
  wpAny (model X.prog X.w) X.A (zGV []) (λ acc zD=>wpAny (model X.prog X.w) X.A (zEG scope X.env.globals (aY scope X.env) [] X.env.qual none .none (some X.env)) (λ cenv y7=>
   zCH (model X.prog X.w) X.A (.compStart (.ListComp elt [⟨tg,iter,ifs,0⟩] scope pos) 0 (.ref it) acc {cenv with scope:=zEk scope X.env}) (RR acc cenv.locals) y7) E zD) E z4:=by
 refine zCY (ym λ zI y9 zC y8=>?_);dsimp only at y9 zC y8 ⊢;generalize hH2:z4.heap.push {cls:=.type "list",dict:=none,data:=.seq ([]:List Value).toArray}=P2 at y9 zC y8 ⊢;have hC:P2.objs.size=z4.heap.objs.size+1:=by rw[<-hH2,zCS]
 have hDC:z4.heap.objs.size≠P2.objs.size:=by rw[hC];exact zAk (zDZ _)
 have hCle:z4.heap.objs.size<=P2.objs.size:=by rw[hC];exact zFe _
 have old:∀b o,z4.heap.get? b=some o->zI.get? b=some o:=λ b o e=>zC b o (hH2▸zAD _ e)
 have hacc:zI.get? z4.heap.objs.size=some {cls:=.type "list",dict:=none,data:=.seq ([]:List Value).toArray}:=zC _ _ (hH2▸zAh _ rfl);generalize hCe:P2.objs.size=C at y9 zC y8 hDC hCle hC ⊢;have hHD:H1 z4.heap.objs.size=none:=I.hok.fresh (zAP _);have I0:Inv (X.block scope C N fp z4 H1) [] (st Z) (upd H1 z4.heap.objs.size (.lst [])) {z4 with heap:=zI,toks:=z4.toks}:=
  I.block B hfp (λ b hb=>by obtain⟨o,e,_⟩:=T.obj 0 _ h0 b hb;exact⟨o,e⟩) (zAP _) hCle hDC old y9 y8 (λ c hc=>zAk (zFs hCle hc)) ⟨zAn _,[],0,.nil,hacc⟩
 obtain⟨W,⟨m0,w0⟩,step⟩:=h _ hHD;have h01:tn 0 zI:=T.keep 0 _ _ h0 λ b _ o e=>old b o e
 have stat:∀{H':Hp},(∀b∈fp,H' b=none)->∀b∈fp,m7 (X.block scope C N fp z4 H1) [] H' b:=λ{H'} hn b hb=>
  ⟨hn b hb,(I0.ok.exf b hb).1,I0.ok.exfs b hb,.inl hb,λ x c e=>(I0.ok.exf b hb).2 x c e,λ p hp=>absurd (show p∈([]:List (Addr×Obj))from hp) (by simp)⟩
 have fr0:∀b∈fp,upd H1 z4.heap.objs.size (.lst []) b=none:=λ b hb=>by
  obtain⟨o,e,_⟩:=T.obj 0 _ h0 b hb;rw[aQ (zAk (zAW e))];exact(hfp b hb).1
 have loop:∀zD:zAB,zD={z4 with heap:=zI,toks:=z4.toks}->
   zCH (model X.prog X.w) X.A (.compLoop (.ListComp elt [⟨tg,iter,ifs,0⟩] scope pos) 0 (.ref it) (.ref z4.heap.objs.size) (X.block scope C N fp z4 H1).env) (RR (.ref z4.heap.objs.size) C) zD:=by
  rintro zD rfl;refine uf (λ n s'=>∃i acc H2,Inv (X.block scope C N fp z4 H1) [] (st Z) H2 s'/\tn i s'.heap/\(∀b∈fp,H2 b=none)/\W i n acc H2) ?_ m0 ⟨0,[],_,I0,h01,fr0,w0⟩;rintro n s3 ⟨i,acc,H2,I2,st2,fr2,w2⟩;obtain⟨hl,hz,alt⟩:=step i n acc H2 w2;rcases alt with ⟨stop,q⟩|⟨go,nxt⟩
  .refine thn (T.done (X.block scope C N fp z4 H1) rfl rfl rfl hc i [] s3 (st Z) H2 _ I2 (stat fr2) st2 stop) λ r s4 ⟨hr,I4⟩=>?_
   subst hr;exact hRR _ C H2 s4 ⟨_,I4⟩ hCle q
  .refine thn (T.item (X.block scope C N fp z4 H1) rfl rfl rfl hc i [] s3 (st Z) H2 _ I2 (stat fr2) st2 go) λ r s4 ⟨u,hr,h4⟩=>?_
   subst hr;refine thn h4 λ _ s5 ⟨x,H5,I5,r5,y5,st5,fr5⟩=>?_
   have I5':=I5.pinned (stat fr5) (T.obj _ _ st5);refine thn (hg C fp z4 H1 _ s5 (st Z) H5 x u _ I5' r5 (hgo _ _ _ _ (nxt x H5 y5))) λ _ s6 ⟨Z6,H6,I6,q6,zp,ag6⟩=>?_
   refine thn (ht C fp z4 H1 _ s6 Z6 H6 _ I6 q6) λ ok s7 ⟨H7,I7,q7⟩=>?_
   have again:∀{H9:Hp} {s9:zAB} {acc':List V},Inv (X.block scope C N fp z4 H1) ([]++lD fp s5.heap) Z6 H9 s9->(∃m',m'<n/\W (i+1) m' acc' H9)->
     ∃m,m<n/\∃i acc H2,Inv (X.block scope C N fp z4 H1) [] (st Z) H2 s9/\tn i s9.heap/\(∀b∈fp,H2 b=none)/\W i m acc H2:=λ{H9 s9 acc'} I9 ⟨m',hm,w9⟩=>by
    have pin9:∀b∈fp,∀o,s5.heap.get? b=some o->s9.heap.get? b=some o/\H9 b=none:=λ b hb o e=>by
     have z:=I9.pin (b,o) (zA0 _ (zA0 _ (fM hb e)));exact⟨z.1,z.2.1⟩
    refine⟨m',hm,i+1,acc',H9,I9.unpinned.weak (by rw[zp]) (λ k v e=>?_),T.keep _ _ _ st5 λ b hb o e=>(pin9 b hb o e).1,λ b hb=>?_,w9⟩
    .have hk:k<(st Z).length:=(zA4.mp e).1
     have hkN:k<N.length:=by rw[<-B.len Z];exact hk
     obtain⟨_,hks,_⟩:=B.val Z k _ v (zAL hkN) e;rw[ag6 k hks];exact e
    .obtain⟨o,e,_⟩:=T.obj _ _ st5 b hb
     exact(pin9 b hb o e).2
   cases ok with
   |false=>
    rw[if_neg zAI]at q7 ⊢;exact again I7 q7
   |true=>
    rw[if_pos rfl]at q7 ⊢;refine thn (he C fp z4 H1 _ s7 Z6 H7 _ I7 q7) λ u8 s8 ⟨y,H8,I8,r8,hl8,q8⟩=>?_
    refine thn (sE _ s8 Z6 H8 (.ref z4.heap.objs.size) [y] (.ref z4.heap.objs.size) [u8] (λ _ H9=>H9=upd H8 z4.heap.objs.size (.lst (acc++[y]))) I8 rfl (.cons r8 .nil) ⟨_,acc,y,rfl,rfl,hl8,hz,rfl⟩) λ _ s9 ⟨_,H9,I9,_,e9⟩=>?_
    subst e9;exact again I9 q8
 exact codeAny_compStart_list (loop _ rfl) (T.self X.A 0 _ _ _ h01 (loop _ rfl))
def zK(I:Inv X pins Z H1 z4)(hfp:∀b∈fp,m7 X pins H1 b)(h:∃Z',Inv (X.block scope C N fp z4 H1) [] Z' H' s'):Inv X pins Z H' s':=by
 obtain⟨Z',J⟩:=h;exact I.call' (ch:=fp) J.os J.base J.hok J.bare λ b hb=>⟨(hfp b hb).2.2.2.1,(hfp b hb).2.1,(hfp b hb).2.2.2.2.1,(hfp b hb).2.2.2.2.2⟩
def aED(B:dj X scope N st ks)(hc:X.calm=true)(hi:PI X tg iter wi)(hg:∀C fp z5 z0,PG (X.block scope C N fp z5 z0) tg g)(hgo:j6 g ks)(ht:∀C fp z5 z0,yE (X.block scope C N fp z5 z0) ifs tt)
  (he:∀C fp z5 z0,PE (X.block scope C N fp z5 z0) elt te)(hs:∀x,zBT iter X.env x=pure x:=by intro _;rfl):PE X (.ListComp elt [⟨tg,iter,ifs,0⟩] scope pos) (tLC wi st g tt te):=by
 intro pins s Z H Q I h;have hcl:zEh scope X.env=pure (aY scope X.env):=gj λ y hy hk=>I.ok.has _ (B.free y hy hk)
 rw[eval_ListComp];refine zFb (use:=none) rfl hs hcl B.kind B.loc (thn (hi pins s Z H _ I h) λ v s1 h1=>thn h1 λ itv s2 h2=>?_);obtain⟨it,fp,tn,J,H2,e,I2,T,st2,f2,hq⟩:=h2;subst e;refine aB2 (RR:=λ acc C=>compPost (model X.prog X.w) X.A X.xe none (EP X pins Z Q) acc C) B hc hg hgo ht he I2 T st2 f2 hq ?_;intro D C H' s' hJ hCle q;have I3:=zK I2 f2 hJ;obtain⟨Z',J'⟩:=hJ;obtain⟨m,hn,_⟩:=id J'.loc;have hHC:H' C=none:=J'.free;refine⟨m,hn,λ h'' hs''=>⟨.ref D,H',?_,rfl,q⟩⟩;exact I3.turned (t':=s'.toks) (λ b o ne e=>(hs''.2 b ne).trans e) hHC (zER (zAQ I2.lt hCle)) (.inr (zAr I2.sz hCle))
  (λ x c e z=>by obtain⟨v,ic⟩:=I2.cell x c e;exact absurd (zAQ ic.lt (by rw[z];exact hCle)) (zBg _))
  (λ p hp z=>absurd (zAQ (I2.pinL hp) (by rw[z];exact hCle)) (zBg _))
end
def CX1(P:zAS)(w:World):CXT:=λ outer H s E e s'=>∃(ea:Addr) (cls a0:Value) (B:Heap) (H':Hp),e= .ref ea/\s'.os=s.os/\zDp s'.gens/\Un (frs outer) [] H H' s.heap s'.heap/\HOk P w H' B/\zGj B outer ea cls a0 s'.heap/\
 (∀b o,s.heap.get? b=some o->H b=none->b∉frs outer->B.get? b=some o)/\(∀b o,s.heap.get? b=some o->b∉frs outer->∃o',B.get? b=some o')/\E cls none H'
structure cI(X:Cx)(E:XK):Prop where
 stk:X.stack=X.env::X.outer
 fr:X.env.frame=some X.env.locals
 ex:X.ex=[]
 xe:X.xe=λ e s'=>wpAny (model X.prog X.w) X.A (leaving X.env e) (λ _ s''=>CX1 X.prog X.w X.outer X.z0 X.z5 E e s'') (λ e' s''=>CX1 X.prog X.w X.outer X.z0 X.z5 E e' s'') s'
def cI.of{K:zAA}:
  cI (oX (CX1 P w) P w K mg base N qual scope f cd A outer z5 z0 E) E:=⟨rfl,rfl,rfl,rfl⟩
section
variable{X:Cx}{E:XK}
def aBt{B h':Heap}(hX:X.ex=[])(I:Inv X pins Z H s)
  (a1:∀b o,s.heap.get? b=some o->H b=none->b∉frs X.stack->B.get? b=some o)(a2:∀b o,s.heap.get? b=some o->b∉frs X.stack->∃o',B.get? b=some o')
  (a3:B.StaysIn h')(a4:∀b o,b∈frs X.outer->s.heap.get? b=some o->H b=none->(∀vs,o.data≠.fields vs)->∃sl,h'.get? b=some {o with slots:=sl})
  (a5:∀b o,s.heap.get? b=some o->H b=none->H' b=none)(a6:∀b xs,H b=some (.tup xs)->H' b=some (.tup xs))(a7:∀b o u,H b=some (.frz o u)->H' b=some (.frz o u))(a8:∀b ps,H b=some (.tbl ps)->∃more,H' b=some (.tbl (ps++more))):
  Un (frs X.outer) [] X.z0 H' X.z5.heap h'/\(∀b o,X.z5.heap.get? b=some o->X.z0 b=none->b∉frs X.outer->B.get? b=some o)/\(∀b o,X.z5.heap.get? b=some o->b∉frs X.outer->∃o',B.get? b=some o'):=by
 have nx:∀b,b∉X.ex:=λ b z=>by rw[hX]at z;cases z
 have noS:∀b o,X.z5.heap.get? b=some o->b∉frs X.outer->b∉frs X.stack:=λ b o e nf hb=>by
  rcases zAZ.mp (I.stkSub b hb)with z|z
  .exact absurd z (zAk (zAQ (zAW e) I.ok.above))
  .exact nf z
 have bk:∀b o,X.z5.heap.get? b=some o->X.z0 b=none->b∉frs X.outer->B.get? b=some o:=λ b o e n nf=>
  a1 b o (I.base.keep b o e n nf (nx b)) (I.base.free b o e n (nx b)) (noS b o e nf)
 have ba:∀b o,X.z5.heap.get? b=some o->b∉frs X.outer->∃o',B.get? b=some o':=λ b o e nf=>by
  obtain⟨o1,e1⟩:=I.base.there b o e (nx b);exact a2 b o1 e1 (noS b o e nf)
 have sl:∀b o,X.z5.heap.get? b=some o->X.z0 b=none->b∈frs X.outer->∃sl,h'.get? b=some {o with slots:=sl}:=λ b o e n hb=>by
  obtain⟨sl1,e1⟩:=I.base.slot b o e n hb (nx b);obtain⟨_,o2,ho2,hnf⟩:=I.ok.funs.mem hb;rw[e]at ho2;cases ho2;obtain⟨sl2,e2⟩:=a4 b _ hb e1 (I.base.free b o e n (nx b)) hnf;exact⟨sl2,e2⟩
 refine⟨⟨λ b o e n nf _=>a3 b o (bk b o e n nf),λ b o e n hb _=>sl b o e n hb,λ b o e n _=>?_,λ b o e _=>?_,λ b xs e=>a6 b xs (I.base.tups b xs e),λ b o u e=>a7 b o u (I.base.frzs b o u e),λ b ps e=>?_⟩,bk,ba⟩
 .obtain⟨o1,e1⟩:=I.base.there b o e (nx b)
  exact a5 b o1 e1 (I.base.free b o e n (nx b))
 .by_cases hb:b∈frs X.outer
  .obtain⟨s2,e2⟩:=sl b o e (I.ok.frf b hb) hb
   exact⟨_,e2⟩
  .obtain⟨o',e'⟩:=ba b o e hb
   exact⟨o',a3 b o' e'⟩
 .obtain⟨m1,e1⟩:=I.base.tbls b ps e
  obtain⟨m2,e2⟩:=a8 b _ e1;exact⟨m1++m2,by rw[e2,zF5]⟩
def cI.pass(D:cI X E):lK (CX1 X.prog X.w) X E:=by
 intro pins Z H s e s' I h;obtain⟨ea,cls,a0,B,H',rfl,os,bare,un,hok,fly,bk,ba,hE⟩:=h;rw[D.xe];have fly':=fly;rw[D.stk]at fly';have hfr:=I.ok.frames;rw[D.stk]at hfr;refine wpAny_leaves_onW (L:=X.env.locals) hfr D.fr fly' λ h' fl up=>?_
 have a4:∀b o,b∈frs X.outer->s.heap.get? b=some o->H b=none->(∀vs,o.data≠.fields vs)->∃sl,h'.get? b=some {o with slots:=sl}:=λ b o hb e n nf=>by
  have hb':b∈frs X.stack:=by
   rw[D.stk];unfold frs;rw[zBi,D.fr];exact zAb _ hb
  obtain⟨s1,e1⟩:=un.slot b o e n hb' (λ z=>nomatch z);obtain⟨s2,e2⟩:=up b _ e1 nf;exact⟨s2,e2⟩
 obtain⟨u1,u2,u3⟩:=aBt (B:=B) (h':=h') (H':=H') D.ex I bk ba fl.1 a4 (λ b o e n=>un.free b o e n (λ z=>nomatch z)) un.tups un.frzs un.tbls;exact⟨ea,cls,a0,B,H',rfl,os.trans I.os,bare,u1,hok,fl,u2,u3,hE⟩
def cI.raise(D:cI X E){ea:Addr}(I:Inv X pins Z H s)
  (hx:Heap.MadeExcOf s.heap h1 ea cls vs)(hE:E cls none H):X.xe (.ref ea) {s with heap:=h1}:=by
 rw[D.xe];have stk:s.heap.FunFrames X.base X.stack:=I.stack;have hin:∀env∈X.stack,∀a,env.frame=some a->a∈frs X.stack:=λ env he a ha=>zBq.mpr ⟨env,he,ha⟩
 have stk2:=zEq stk hin;have hfr:=I.ok.frames;rw[D.stk]at hfr;have stk3:s.heap.FunFrames (zBh s.heap (frs X.stack)) (X.env::X.outer):=by rw[<-D.stk];exact stk2
 refine wpAny_leaves_madeW (L:=X.env.locals) (base:=zBh s.heap (frs X.stack)) hfr D.fr (λ b o q=>zDF _ q) stk3 hx λ h' t fl tup bn up=>?_
 have hok:HOk X.prog X.w H (zBh s.heap (frs X.stack)):=λ a o e=>by
  refine(I.hok a o e).stay (λ b u hb q=>zBy _ q λ hm=>?_) (λ _ z=>z) λ _ _ z=>z
  have hn:=I.stkFree b hm;rcases hb with z|z
  .rw[z,e]at hn;cases hn
  .rw[z]at hn;cases hn
 obtain⟨u1,u2,u3⟩:=aBt (B:=zBh s.heap (frs X.stack)) (h':=h') (H':=H) D.ex I (λ b o e n nf=>zBy _ e nf) (λ b o e nf=>⟨o,zBy _ e nf⟩) fl.1
  (λ b o hb e n nf=>up b o (hx.keeps b o e) nf) (λ b o e n=>n) (λ _ _ e=>e) (λ _ _ _ e=>e) (λ b ps e=>⟨#[],by rw[e];simp⟩)
 exact⟨ea,cls,.ref t,_,H,rfl,I.os,I.bare,u1,hok,fl,u2,u3,hE⟩
def cI.own(D:cI X E):zGB (model X.prog X.w) X.A X.env X.xe:=λ e s' h=>by
 rw[D.xe]at h ⊢;exact wpAny_leaving_again (SameStack.refl _) h
end
section
variable{P:zAS}{w:World}{K:zAA}{mg:Str->Option Value}{base:Heap}
def Fun.okX{st:Stmt}(F:Fun K x q st f fd)(S:aq N ps (aF st))(len:∀vs H Q E,sp vs H Q E->vs.length=ps.length)
  (hbody:∀(cdv:Value) (A:zA8) (outer:List Env) (s:zAB) (H:Hp) (vs:List V) (Q:VK) (E:XK),cX k (A.deeper (zC6 q (aF st) s.heap.objs.size f cdv))->sp vs H Q E->
   ∃t,PSs (oX (CX1 P w) P w K mg base N q (aF st) f cdv A outer s H E) (bY st) t/\t {nx:=λ _ H'=>Q .non H',rt:=Q} (start N vs) H):dC P w K mg base (CX1 P w) (k+1) f fd ps sp:=by
 obtain⟨oc,od,kV,doc,pm,an,cdv,ct,osl,rfl,lk,hcd⟩:=F.ex;exact aGl lk hcd S len λ A outer s H vs Q E hr hsp=>hbody cdv A outer s H vs Q E hr hsp
end
def bK(K:zAA)(C:Addr):Prop:=zEd K C [.type "ValueError",.type "Exception",.type "BaseException",.type "object"] "ValueError.__new__"=true
def nF{K:zAA}(X:K.In h)(hm:mg x=some (.ref C))(q:bK K C):OwnCls x C [.type "ValueError",.type "Exception",.type "BaseException",.type "object"] "ValueError.__new__" mg h:=by
 refine⟨hm,?_⟩;unfold bK zEd at q;split at q
 .rename_i dd cd sl ho
  split at q
  .rename_i C' bm k0 k1 k2 k3 n k5 hm' hs
   simp only[zAO,beq_iff_eq,zEC]at q;obtain⟨⟨⟨⟨⟨rfl,rfl⟩,hdel⟩,ht⟩,hok⟩,hni⟩:=q;obtain⟨nm,bs,mro,ns,qn,hd,sn,sub,ab,col,del⟩:=cd;dsimp only at hm' hdel hok hni;subst hm' hdel;have hsl:sl=#[k0,k1,k2,k3,some (.builtin "ValueError.__new__"),k5]:=by
    obtain⟨l⟩:=sl;simp only at hs;rw[hs]
   subst hsl;exact⟨bm,ns,nm,qn,bs,hd,sn,sub,ab,col,dd,k0,k1,k2,k3,k5,_,X _ _ ho,.of_isNs (PySem.W.isNs_of_in X hok),PySem.W.nsMap_none_of_in X hok hni,PySem.W.tail_of_in X ht⟩
  .cases q
 .cases q
def aEX(C:Addr)(E:XK)(ta:TA):TS:=λ _ Z H=>ta Z H λ vs H1=>vs.length<=zAN/\E (.ref C) none H1
section
variable{X:Cx}{E:XK}
def aAx(D:cI X E)(hc:X.calm=true){rest:List Expr}(hm:X.mg x=some (.ref C))(hC:bK X.K C)(hg:Gl X x)
  (ha:PA X (y6::rest) ta)(he:zAY (y6::rest) X.env=(false,eval y6 X.env)::zAY rest X.env:=by rfl)
  (hplain:(zCQ cpos (zAY rest X.env)).any (·.1)=false:=by rfl)(hd:Nd x:=by decide):
  PS X (.Raise (some (.Call (.Name x np) (y6::rest) [] cpos)) none pos) (aEX C E ta):=by
 intro pins s Z H DD I h;obtain⟨tl,NN,nm,q,bs,hdct,sn,sub,ab,col,dd,k0,k1,k2,k3,k5,mN,hCo,hN,hni,T⟩:=(nF (h:=X.base) I.mod.kin hm hC).obj;have FB:=PySem.F.excBase_ValueError;refine wpAny_Raise_call_subU (C:=C) (nm:=nm) (q:=q) (N:=NN) (bs:=bs) (bm:=tl) (hdct:=hdct) (sn:=sn) (sub:=sub) (ab:=ab) (col:=col) (dd:=dd) (k0:=k0) (k1:=k1) (k2:=k2) (k3:=k3) (k5:=k5)
  FB FB.hasB FB (mN:=mN) (T.hasType FB.hasBase) (I.ok.hd hc) (by rw[he];show(false||(zCQ cpos (zAY rest X.env)).any (·.1))=false;rw[hplain];rfl) hni
  (jf I hg hm ⟨rfl,?_⟩ hd)
 have harg:=ha cpos pins s Z H _ I h;rw[he]at harg ⊢;refine zFO (zBE harg (λ vs z4 y4=>?_) λ _ _ y=>y);obtain⟨xs,H2,I2,rv,hz,hE⟩:=y4;refine⟨rfl,by show vs.length<=zAN;rw[<-rv.length];exact hz,I2.bk _ _ hCo,hN.keeps I2.bk,T.keeps I2.bk,λ h' ea hx=>D.raise I2 hx hE⟩
end
section
variable{κ:Type}[DecidableEq κ]
end
end L2
namespace Att
open PySem PySem.W PySem.Calls PyProof.Rows
end Att
namespace L2
open PySem PySem.Spec PyProof.Rows
section
variable{κ:Type}[DecidableEq κ]
end
def rJ{pos:Pos}{a b:Int}{c cv:Value}(l:List Value)(h:TriplesOk l)(e:zEZ pos (l++[rawInt a,rawInt b,c])=some cv):zEZ pos l=some cv\/cv=c:=by
 fun_induction TriplesOk l with
 |case1=>
  simp only[zBx,zEZ,rawInt]at e;split at e
  .exact .inr (zAf e).symm
  .cases e
 |case2 a' t b' u x rest ih=>
  simp only[zCv,zEZ]at e ⊢;split at e
  .rename_i hc;rw[if_pos hc];exact .inl e
  .rename_i hc;rw[if_neg hc];exact ih h e
 |case3 l h1 h2=>exact h.elim
abbrev Cx.noT(X:Cx):Cx:={X with ta:=[]}
section
variable{X:Cx}{pins:List (Addr×Obj)}{Z:St}{H:Hp}{s:zAB}
theorem Inv.noT(I:Inv X pins Z H s):Inv X.noT pins Z H s:=
 ⟨⟨I.ok.mod,I.ok.kind,I.ok.glob,I.ok.blt,I.ok.above,I.ok.inj,I.ok.has,I.ok.cab,I.ok.hd,I.ok.frames,I.ok.stk,I.ok.exf,I.ok.bs,I.ok.bsz,I.ok.noex,I.ok.exfs,I.ok.funs,I.ok.frf⟩,
  I.os,I.bare,I.base,I.loc,I.cell,I.free,I.freeC,I.pin,I.hok,I.len,λ p hp=>absurd (show p∈([]:List (Addr×Obj))from hp) (by simp)⟩
def Inv.ofT{H':Hp}{s':zAB}(I:Inv X pins Z H s)(J:Inv X.noT pins Z H' s')(t:∀p∈X.ta,H' p.1=none/\p.1≠X.env.locals/\p.1∉X.fs/\(∀q∈X.pn++pins,q.1≠p.1)/\∃ps,s'.heap.get? p.1=some {cls:=.none,data:=.fields ps}/\TabOk X.tq H' ps):Inv X pins Z H' s':=
 ⟨I.ok,J.os,J.bare,J.base,J.loc,J.cell,J.free,J.freeC,J.pin,J.hok,J.len,t⟩
structure oM(X:Cx)(P:Addr):Prop where
 ta:∃o,X.ta=[(P,o)]
 ex:P∈X.ex
 tq:X.tq=X.env.qual++"<lambda>"
 code:∃c,X.env.code= .ref c/\zFt X.base c P
 blt:X.base.BuiltinsAt X.mg P
 gne:zAX≠P
def wI(q:Str)(params:zCh)(body:Expr)(scope:Scope)(cl:List (Str×Addr))(pm:Value)(H:Hp)(f c':Addr)(ctv:Value):Prop:=
 H f=some (.frz (zCG "<lambda>" q params body scope cl pm c' ctv) (.own f))/\∃oc,H c'=some (.frz oc (.own c'))/\aEP q oc
def aB7{P:Addr}{params:zCh}{body:Expr}{scope:Scope}{pos:Pos}{Q:Value->zAB->Prop}{E:Value->zAB->Prop}(Lx:oM X P)(I:Inv X pins Z H s)(hdef:zGr params X.env=([],[]))
  (hfree:∀y∈scope.names,y.2= .free->X.env.kindOf y.1=some .cell\/X.env.kindOf y.1=some .free)
  (h:∀(f c':Addr) (ctv:Value) (H':Hp) (s':zAB),Inv X pins Z H' s'->aM H H'->wI X.tq params body scope (aY scope X.env) ((X.mg "__name__").getD .none) H' f c' ctv->Q (.ref f) s'):
  wpAny (model X.prog X.w) X.A (eval (.Lambda params body scope pos) X.env) Q E s:=by
 obtain⟨o0,hta⟩:=Lx.ta;obtain⟨c,hcode,hC⟩:=Lx.code;obtain⟨hPn,hPL,hPf,hPp,ps,hP,ht⟩:=I.tab (P,o0) (by rw[hta];exact zAU);dsimp only at hPn hPL hPf hPp hP;have hcl:zEh scope X.env=pure (aY scope X.env):=gj λ y hy hk=>I.ok.has _ (hfree y hy hk)
 have hgs:s.heap.Ns zAX X.mg:=by
  obtain⟨o,es,ep,e,r⟩:=I.ok.mod.glob;exact⟨o,es,ep,I.bk _ _ e,r⟩
 have hC':zFt s.heap c P:=hC.keeps I.bk;have hb:s.heap.BuiltinsAt X.mg P:=by
  obtain⟨bm,ob,b1,b2,b3,b4,b5,b6⟩:=Lx.blt;exact⟨bm,ob,b1,b2,b3,b4,I.bk _ _ b5,b6⟩
 refine PySem.W.kla_eval hdef ?_;rw[<-Lx.tq];cases hf:zEZ pos ps.toList with
 |some cv=>
  obtain⟨c',oc,rfl,hc',hco⟩:=ht.2 pos cv hf;refine PySem.W.kla_makeFunctionHit hcl I.ok.glob hgs hcode hC' hP ht.1 hf hb λ ctv h' tk k hsz=>?_
  have hfr:H h'.objs.size=none:=I.hok.fresh hsz;have sm:aM H (upd H h'.objs.size (.frz (zCG "<lambda>" X.tq params body scope (aY scope X.env) ((X.mg "__name__").getD .none) c' ctv) (.own h'.objs.size))):=λ b u e=>by rw[aQ (bL e hfr)];exact e
  have I':=I.laid (h':=h'.push (zCG "<lambda>" X.tq params body scope (aY scope X.env) ((X.mg "__name__").getD .none) c' ctv)) (t':=tk) (a:=h'.objs.size) (o:=.frz (zCG "<lambda>" X.tq params body scope (aY scope X.env) ((X.mg "__name__").getD .none) c' ctv) (.own h'.objs.size)) (λ b u e=>zAD _ (k b u e)) hsz
   ⟨zAh _ rfl,_,zAh _ rfl⟩
  exact h _ c' ctv _ _ I' sm ⟨aj,oc,sm _ _ hc',hco⟩
 |none=>
  refine PySem.W.kla_makeFunction hcl I.ok.glob hgs hcode hC' hP ht.1 hf Lx.gne hb λ c' ctv h' tk hx hge hlt hrec htb=>?_
  obtain⟨c2,oc,vs,t,e2,hoc,hd,hv⟩:=hrec;cases e2;have hcn:H c'=none:=I.hok.fresh hge;have hfn:H h'.objs.size=none:=I.hok.fresh (zAr hge (zCL hlt));have neT:∀b u,H b=some u->b≠c':=λ b u e=>bL e hcn
  have neP:∀b u,H b=some u->b≠P:=λ b u e=>bL e hPn
  have sm:aM H (upd H c' (.frz oc (.own c'))):=λ b u e=>by rw[aQ (neT b u e)];exact e
  have hcne:∀x a,X.env.cells.lookup x=some a->a≠P:=λ x a e z=>by
   obtain⟨v,o,ho,hdd⟩:=I.cell x a e;rw[z,hP]at ho;cases ho;cases hdd
  have J:Inv X.noT pins Z (upd H c' (.frz oc (.own c'))) {s with heap:=h',toks:=tk}:=by
   refine I.noT.step (g':=s.gens) (d':=s.drawn) (ch:=[P]) (λ b hb'=>?_) (λ b o _ _ hc e _=>hx b o (λ z=>hc (by simp[z])) e) (λ b o _ _ hc e _=>⟨o.slots,hx b o (λ z=>hc (by simp[z])) e⟩)
    (λ b o _ e n=>by rw[aQ (zAk (zAQ (zAW e) hge))];exact n) (λ b o hc e=>⟨o,hx b o (λ z=>hc (by simp[z])) e⟩)
    (λ b xs e=>sm _ _ e) (λ b o u e=>sm _ _ e) (λ b ps e=>⟨#[],by rw[sm _ _ e];simp⟩) (λ m hm=>hm.extBut hx (λ z=>hPL z.symm)) (λ b u e=>?_) I.bare
   .have e:b=P:=by simpa using hb'
    subst e;exact⟨.inl Lx.ex,hPL,λ x c e=>hcne x c e,λ p hp=>hPp p hp⟩
   .by_cases hbc:b=c'
    .subst hbc
     rw[aj]at e;cases e;exact⟨hoc,oc,hoc⟩
    .rw[aQ hbc]at e
     refine(I.hok b u e).stay (λ d v hd' q=>hx d v ?_ q) (λ d q=>sm _ _ q) λ d xs q=>sm _ _ q
     rcases hd' with z|z
     .rw[z];exact neP b u e
     .exact neP d _ z
  have I':=I.ofT J λ p hp=>by
   rw[hta]at hp;have e:p=(P,o0):=by simpa using hp
   subst e;refine⟨by rw[aQ (zAk (zAQ (zAW hP) hge))];exact hPn,hPL,hPf,hPp,_,htb,?_⟩;refine⟨?_,λ pos2 cv e=>?_⟩
   .rw[zAM]
    exact TriplesOk_snoc _ _ _ _ ht.1
   .rw[zAM]at e
    rcases rJ _ ht.1 e with z|z
    .obtain⟨c2,oc2,z1,z2,z3⟩:=ht.2 pos2 cv z
     exact⟨c2,oc2,z1,sm _ _ z2,z3⟩
    .exact⟨c',oc,z,aj,vs,t,hd,hv⟩
  have hfr:upd H c' (.frz oc (.own c')) h'.objs.size=none:=by rw[aQ (zER hlt)];exact hfn
  have sm2:aM (upd H c' (.frz oc (.own c'))) (upd (upd H c' (.frz oc (.own c'))) h'.objs.size (.frz (zCG "<lambda>" X.tq params body scope (aY scope X.env) ((X.mg "__name__").getD .none) c' ctv) (.own h'.objs.size))):=λ b u e=>by rw[aQ (bL e hfr)];exact e
  have I2:=I'.laid (h':=h'.push (zCG "<lambda>" X.tq params body scope (aY scope X.env) ((X.mg "__name__").getD .none) c' ctv)) (t':=tk) (a:=h'.objs.size) (o:=.frz (zCG "<lambda>" X.tq params body scope (aY scope X.env) ((X.mg "__name__").getD .none) c' ctv) (.own h'.objs.size)) (λ b u e=>zAD _ e) (zAP _)
   ⟨zAh _ rfl,_,zAh _ rfl⟩
  exact h _ c' ctv _ _ I2 (sm.trans sm2) ⟨aj,oc,sm2 _ _ aj,vs,t,hd,hv⟩
def aHF(q:Str)(params:zCh)(body:Expr)(scope:Scope)(cl:List (Str×Addr))(pm:Value):TE:=λ Z H Q=>∀f c' ctv H',aM H H'->wI q params body scope cl pm H' f c' ctv->Q (.ref f) H'
def aEx{P:Addr}{params:zCh}{body:Expr}{scope:Scope}{pos:Pos}(Lx:oM X P)(hdef:zGr params X.env=([],[]))
  (hfree:∀y∈scope.names,y.2= .free->X.env.kindOf y.1=some .cell\/X.env.kindOf y.1=some .free):PE X (.Lambda params body scope pos) (aHF X.tq params body scope (aY scope X.env) ((X.mg "__name__").getD .none)):=
 λ pins s Z H Q I h=>aB7 Lx I hdef hfree λ f c' ctv H' s' I' sm l=>⟨.ref f,H',I',rfl,h f c' ctv H' sm l⟩
end
def wO(X:Cx)(k0:Nat)(i:Nat)(E:XK):TE:=λ Z H Q=>∃f cls dd sl fd k sp,Z[i]? =some (some (.ref f))/\H f=some (.frz ⟨cls,dd,.func fd,sl⟩ (.own f))/\dC X.prog X.w X.K X.mg X.base (CX1 X.prog X.w) k f fd [] sp/\k<=k0/\Binds X.K fd [] []/\sp [] H Q E
def aBD{X:Cx}{k0 i:Nat}{y:Str}{p pos:Pos}{E:XK}(hr:cX k0 X.A)(hx:lK (CX1 X.prog X.w) X E)(hN:X.N[i]? =some y)(hv:Vis X.env.scope y)(hd:Nd y:=by decide)(hcd:(y==("__classdict__":Str))=false:=by decide):
  PE X (.Call (.Name y p) [] [] pos) (wO X k0 i E):=by
 intro pins s Z H Q I ⟨f,cls,dd,sl,fd,k,sp,hs,hf,F,hk,hb,h⟩;have fin:wpAny (model X.prog X.w) X.A (eval (.Name y p) X.env) (λ v s'=>v= .ref f/\s'=s) X.xe s:=by
  obtain⟨mm,hnn,hl⟩:=I.loc;obtain⟨u,ru,l⟩:=hl i y _ hN hs hv;cases ru;rcases l with ⟨hk2,hm⟩|⟨hk2,c,hc,hcell⟩
  .exact zDz (zEB I.ok.kind hk2 hnn hm ⟨rfl,rfl⟩) hd
  .rcases hk2 with hk2|hk2
   .exact zDz (zEL I.ok.kind hk2 hc hcell ⟨rfl,rfl⟩) hd
   .exact zDz (zGY I.ok.kind hk2 hc hcell ⟨rfl,rfl⟩ hcd) hd
 refine zCO (thn fin λ v s' ⟨ev,es'⟩=>?_);subst ev es';obtain⟨ho,_⟩:s'.heap.get? f=some _/\_:=I.hok f _ hf;have KX:PySem.W.Frag.In [(f,⟨cls,dd,.func fd,sl⟩)] s'.heap:=λ b o e=>by
  rw[zAt]at e;by_cases hbf:b=f
  .subst hbf
   simp only[beq_self_eq_true]at e;cases e;exact ho
  .simp only[beq_eq_false_iff_ne.mpr hbf]at e
   cases e
 exact PySem.W.callWith_K0 (K:=[(f,⟨cls,dd,.func fd,sl⟩)]) KX (by simp[zB4,zAt]) (aAk (us:=[]) F (hr.mono hk) hb .nil hx I .nil h)
def cxL(P:zAS)(w:World)(K:zAA)(mg:Str->Option Value)(base:Heap)(N:List Str)(q:Str)(scope:Scope)(cl:List (Str×Addr))(f:Addr)(cd:Value)(A:zA8)(outer:List Env)(s:zAB)(H:Hp)(E:XK):Cx where
 prog:=P
 w:=w
 K:=K
 mg:=mg
 base:=base
 A:=A.deeper (zCU q scope s.heap.objs.size f cd cl)
 N:=N
 z5:=s
 z0:=H
 env:=zCU q scope s.heap.objs.size f cd cl
 outer:=outer
 stack:=zCU q scope s.heap.objs.size f cd cl::outer
 ex:=[]
 calm:=true
 fn:=λ _=>false
 pn:=[]
 xe:=λ e s'=>wpAny (model P w) (A.deeper (zCU q scope s.heap.objs.size f cd cl)) (leaving (zCU q scope s.heap.objs.size f cd cl) e) (λ _ s''=>CX1 P w outer H s E e s'') (λ e' s''=>CX1 P w outer H s E e' s'') s'
def cI.ofL{P:zAS}{w:World}{K:zAA}{mg:Str->Option Value}{base:Heap}{N:List Str}{q:Str}{scope:Scope}{cl:List (Str×Addr)}{f:Addr}{cd:Value}{A:zA8}{outer:List Env}{s:zAB}{H:Hp}{E:XK}:
  cI (cxL P w K mg base N q scope cl f cd A outer s H E) E:=⟨rfl,rfl,rfl,rfl⟩
structure qt(scope:Scope):Prop where
 kind:scope.kind= .function
 co:scope.isCoroutine=false
 gen:scope.isGenerator=false
 cell:∀y∈scope.names,y.2≠.cell
 loc:∀y∈scope.names,y.2≠.local
structure aCQ(base:Heap)(N:List Str)(Z:St)(scope:Scope)(cl:List (Str×Addr)):Prop where
 inj:∀x y c,cl.lookup x=some c->cl.lookup y=some c->x=y
 has:∀x,scope.names.lookup x=some .free->∃c,cl.lookup x=some c
 cell:∀x c,cl.lookup x=some c->∃v,base.IsCell c v
 val:∀(i:Nat) x v,N[i]? =some x->Z[i]? =some (some v)->scope.names.lookup x=some .free->∃c u,cl.lookup x=some c/\RelV v u/\base.IsCell c (some u)
 len:Z.length=N.length
def aFZ{P:zAS}{w:World}{K:zAA}{mg:Str->Option Value}{base:Heap}{N:List Str}{q:Str}{params:zCh}{scope:Scope}{cl:List (Str×Addr)}{f c':Addr}{pm ctv:Value}{body:Expr}{k:Nat}{Z:St}{H1:Hp}{sp:Sp}
  (la:wI q params body scope cl pm H1 f c' ctv)(S:qt scope)(cp:aCQ base N Z scope cl)
  (len:∀vs H Q E,sp vs H Q E->vs=[]/\aM H1 H)
  (hbody:∀(A:zA8) (outer:List Env) (s:zAB) (H:Hp) (Q:VK) (E:XK),cX k (A.deeper (zCU q scope s.heap.objs.size f (.ref c') cl))->sp [] H Q E->∃te,PE (cxL P w K mg base N q scope cl f (.ref c') A outer s H E) body te/\te Z H Q):
  dC P w K mg base (CX1 P w) (k+1) f (zEX "<lambda>" q params body scope cl pm (.ref c') ctv) [] sp:=by
 refine⟨λ vs H Q E h=>by rw[(len vs H Q E h).1];rfl,λ A outer s H args us vs Q E hr e0 hb r hsp=>?_⟩;obtain⟨rfl,hsm⟩:=len _ _ _ _ hsp;obtain⟨te,hpe,hte⟩:=hbody A outer s H Q E (hr.deeper _) hsp;have hlim:s.heap.NoLimit:=e0.mod.nolimit.keeps λ b o e=>(e0.bs b o e).1
 obtain⟨hf,oc,hc,hco⟩:=la;obtain⟨ho,_⟩:s.heap.get? f=some _/\_:=e0.hok f _ (hsm _ _ hf);obtain⟨hoc,_⟩:s.heap.get? c'=some oc/\_:=e0.hok c' _ (hsm _ _ hc);obtain⟨vs,t,hd,hv⟩:=hco;refine PySem.W.kla_callFunE hr.depth ho rfl S.co S.gen rfl ⟨c',oc,vs,t,rfl,hoc,hd,hv⟩ (hb _ _ _ _ ?_);refine wpAny_newFunctionEnv S.cell (by intro y hy;simp at hy) (λ zI hns hsb=>?_) S.kind;have hk₁:∀b o,s.heap.get? b=some o->zI.get? b=some o:=λ b o e=>hsb.extBut b o (zAk (zAW e)) (zAD _ e)
 refine⟨hlim.keeps hk₁,?_⟩;show zCH _ _ (.expr body (zCU q scope s.heap.objs.size f (.ref c') cl)) _ _;have kb:∀b o,base.get? b=some o->zI.get? b=some o:=λ b o e=>hk₁ b o (e0.bs b o e).1
 have I:Inv (cxL P w K mg base N q scope cl f (.ref c') A outer s H E) [] Z H {s with heap:=zI,toks:=s.toks+(([]:List Str).zip us).length}:=by
  refine⟨⟨e0.mod,S.kind,rfl,rfl,zAP _,cp.inj,λ x hx=>?_,λ x c z=>absurd z zAI,λ _=>hr.hd,zFE e0.frames,.inr ⟨rfl,rfl⟩,λ b z=>(nomatch z),e0.bs,e0.bsz,λ b _ _=>λ z=>(nomatch z),λ b z=>(nomatch z),e0.funs,e0.frf⟩,
   rfl,e0.bare,Un.kept hk₁,⟨_,hns,λ i x v e1 e2 e3=>?_⟩,λ x c e=>?_,e0.hok.fresh (zAP _),λ x c e=>?_,λ p hp=>(nomatch hp),e0.hok.kept hk₁,cp.len,λ p hp=>(nomatch hp)⟩
  .rcases hx with z|z
   .exact absurd rfl (S.cell _ (zAg z))
   .exact cp.has x z
  .rcases e3 with z|z|z
   .exact absurd rfl (S.loc _ (zAg z))
   .exact absurd rfl (S.cell _ (zAg z))
   .obtain⟨c,u,c1,c2,c3⟩:=cp.val i x v e1 e2 z
    exact⟨u,c2,.inr ⟨.inr z,c,c1,c3.keeps kb⟩⟩
  .obtain⟨v,z⟩:=cp.cell x c e
   exact⟨v,z.keeps kb⟩
  .obtain⟨v,o,z,_⟩:=cp.cell x c e
   exact(e0.bs c o z).2
 refine PySem.W.kla_codeExpr (zBE (hpe [] _ Z H _ I hte) (λ u s' hq=>?_) λ e s' hq=>hq);obtain⟨v,H',J,rv,q⟩:=hq;exact⟨v,H',J.os,J.bare,J.base,J.hok,rv,q⟩
def bse(X:Cx)(s:zAB)(H:Hp):Heap:=zBh s.heap (trk s.heap H++frs X.stack)
section
variable{X:Cx}{pins:List (Addr×Obj)}{Z:St}{H:Hp}{s:zAB}
def zJ{b:Addr}{o:Obj}(e:s.heap.get? b=some o)(n:H b=none)(nf:b∉frs X.stack):(bse X s H).get? b=some o:=
 zBy _ e λ hm=>by
  rcases zAs.mp hm with z|z
  .have q:(H b).isSome=true:=(zD4.mp z).2
   rw[n]at q;cases q
  .exact nf z
def aFu{b:Addr}{o:Obj}(e:(bse X s H).get? b=some o):s.heap.get? b=some o/\H b=none:=by
 have e1:=zDF _ e;refine⟨e1,?_⟩;cases q:H b with
 |none=>rfl
 |some u=>
  have hm:b∈trk s.heap H++frs X.stack:=zAa _ (zD4.mpr ⟨zBs.mpr (zAW e1),by rw[q];rfl⟩);have z:(zBh s.heap (trk s.heap H++frs X.stack)).get? b=none:=zD0 _ hm;have e2:(zBh s.heap (trk s.heap H++frs X.stack)).get? b=some o:=e;rw[z]at e2;cases e2
def Inv.env1(I:Inv X pins Z H s):wK X.prog X.w X.K X.mg (bse X s H) X.A X.stack s H:=by
 have kb:∀b o,X.base.get? b=some o->(bse X s H).get? b=some o:=λ b o e=>zJ (I.bs b o e).1 (I.bs b o e).2 λ hb=>by
  have z:=(I.stack.mem hb).1;rw[e]at z;cases z
 have ns:∀{b:Addr} {m:Str->Option Value},X.base.Ns b m->(bse X s H).Ns b m:=λ{b m} ⟨o,es,ep,e,r⟩=>⟨o,es,ep,kb _ _ e,r⟩
 refine⟨I.ok.frames,⟨I.mod.kin.keeps kb,ns I.mod.glob,?_,I.mod.nolimit.keeps kb⟩,λ b o e=>aFu e,zF0 (zD1 _ _),zEq I.stack λ env he a ha=>zA0 _ (zBq.mpr ⟨env,he,ha⟩),I.stkFree,I.hok,I.bare⟩;obtain⟨mb,h1,h2⟩:=I.mod.blt;exact⟨mb,ns h1,h2⟩
def aCh{CX:CXT}{k:Nat}{f:Addr}{fd:zAy}{ps:List Str}{sp:Sp}{E:XK}{Q:VK}{vs:List V}{us:List Value}(I:Inv X pins Z H s)(F:dC X.prog X.w X.K X.mg (bse X s H) CX k f fd ps sp)(hr:cX k X.A)(hb:Binds X.K fd ps [])(hx:lK CX X E)
  (r:Vals vs us)(h:sp vs H Q E):wpAny (model X.prog X.w) X.A (call (.ref f) us) (EP X pins Z Q) X.xe s:=by
 have hl:(us++[]).length=ps.length:=by rw[zA3,<-r.length];exact F.len _ _ _ _ h
 have hb':=hb s us I.kIn hl;rw[zA3]at hb';refine zGu (zDu (F.run X.A X.stack s H ⟨us,[]⟩ us vs Q E hr I.env1 hb' r h) λ r s' hq=>?_);cases r with
 |error e=>exact hx pins Z H s e s' I hq
 |ok fl=>
  cases fl with
  |ret u=>exact I.after hq
  |next=>exact zAE hq
  |brk=>exact zAE hq
  |cont=>exact zAE hq
def aFt{scope:Scope}(I:Inv X pins Z H s)(ho:X.outer=[])(S:qt scope)(hfree:∀y∈scope.names,y.2= .free->X.env.kindOf y.1=some .cell\/X.env.kindOf y.1=some .free):aCQ (bse X s H) X.N Z scope (aY scope X.env):=by
 have cb:∀x c v,X.env.cells.lookup x=some c->s.heap.IsCell c v->(bse X s H).IsCell c v:=λ x c v e ⟨o,h1,h2⟩=>⟨o,zJ h1 (I.freeC x c e) λ hb=>by
  rcases zAZ.mp (I.stkSub c hb)with z|z
  .exact I.cne x c e z
  .have z2:c∈frs X.outer:=z
   rw[ho]at z2;exact absurd z2 (by simp[frs]),h2⟩
 have hk:∀x,scope.names.lookup x=some .free->X.env.kindOf x=some .cell\/X.env.kindOf x=some .free:=λ x hx=>hfree (x,.free) (zAg hx) rfl
 refine⟨λ x y c e1 e2=>I.ok.inj x y c (dR e1) (dR e2),λ x hx=>?_,λ x c e=>?_,λ i x v e1 e2 hx=>?_,I.len⟩
 .obtain⟨c,hc⟩:=I.ok.has x (hk x hx)
  exact⟨c,mY hx hc⟩
 .obtain⟨v,z⟩:=I.cell x c (dR e)
  exact⟨v,cb x c v (dR e) z⟩
 .obtain⟨m,hn,hl⟩:=I.loc
  obtain⟨u,ru,hu⟩:=hl i x v e1 e2 ((hk x hx).elim (λ z=>.inr (.inl z)) λ z=>.inr (.inr z));rcases hu with ⟨k,_⟩|⟨_,c,ec,ic⟩
  .rcases hk x hx with z|z
   .exact absurd (k.symm.trans z) (by decide)
   .exact absurd (k.symm.trans z) (by decide)
  .exact⟨c,u,mY hx ec,ru,cb x c _ ec ic⟩
end
abbrev bmV:List Value:=[.type "ValueError",.type "Exception",.type "BaseException",.type "object"]
section
variable{prog:zAS}{w:World}{A:zA8}{E:Value->zAB->Prop}{h:Heap}{g:Array zEz}{d:Drawn}{t:Nat}{os:OsState}{a:Addr}{o:Obj}
 {nm q:Str}{C N:Addr}{bs bm:List Value}{hdct:Bool}{sn:List Str}{sub:List Value}{ab:Bool}{col:Option Bool}{dd:Option Addr}{k0 k1 k2 k3 k5:Option Value}{newId:String}{K:zAA}
def wB{R:zFJ->zAB->Prop}(hC:h.get? C=some (zDb nm q C N bs bm hdct sn sub ab col dd k0 k1 k2 k3 k5 newId))(T:OwnTail h bmV bm)
  (hx:h.get? a=some o)(hc:o.cls= .ref C)(hq:R (.ok (.ret (.ref C))) ⟨h,g,d,t,os⟩):
  zCH (model prog w) A (.call (.builtin "getset_descriptor.__get__") ⟨[.builtin "object.__class__",.ref a,.ref C],[]⟩) R ⟨h,g,d,t,os⟩:=by
 have hT5:(⟨h,g,d,t,os⟩:zAB).TypeIs (.builtin "object.__class__") "getset_descriptor":=zDh;have hcB:(zBb C::bm).contains (.type (".".intercalate ("object.__class__".cutAt '.').dropLast))=true:=by
  rw[F.owner_object_class,zDv,T.hasType (X:="object") (b:=true) (by decide+kernel)];rfl
 refine zGO zFW.plain F.entry_gs_get (zFW.check _ _ _ _ _ _ _ _ hT5 (F.args_gs_get _ _ _) ?_)
 repeat (any_goals (first|assumption|(with_reducible refine zCC hx ?_;rw[hc])|(with_reducible refine zDP hC ?_;rw[hcB])|wp_step))
 refine⟨Code.quiet_builtin _ (by decide+kernel),codeAny_builtin F.entry_object_class ?_⟩
 repeat (any_goals (first|assumption|(with_reducible refine zCC hx ?_;rw[hc])|wp_step))
def uh{M:Model}{nameV:Value}{Q:Unit->zAB->Prop}(hC:h.get? C=some (zDb nm q C N bs bm hdct sn sub ab col dd k0 k1 k2 k3 k5 newId))(T:OwnTail h bmV bm)
  (hx:h.get? a=some o)(hc:o.cls= .ref C)(hq:Q () ⟨h,g,d,t,os⟩):wpAny M A (checkBuiltinCall "BaseException.__getattribute__" ⟨[.ref a,nameV],[]⟩) Q E ⟨h,g,d,t,os⟩:=by
 have hk:builtinKind "BaseException.__getattribute__"=some .slot:=by decide+kernel
 have hsplit:splitId "BaseException.__getattribute__"=some ("BaseException","__getattribute__"):=by decide+kernel
 have hcB:(zBb C::bm).contains (.type "BaseException")=true:=by rw[zDv,T.hasType (X:="BaseException") (b:=true) (by decide+kernel)];rfl
 have ha:=F.args_bexc_ga (.ref a) nameV;simp only[checkBuiltinCall,hk,hsplit];refine zAG ?_
 .unfold isInstance
  repeat (first|(with_reducible refine zCC hx ?_;rw[hc])|(with_reducible refine zDP hC ?_;rw[hcB])|wp_step)
  exact hq
def rM{tk:Tok}{Q:Fin->zAB->Prop}(hC:h.get? C=some (zDb nm q C N bs bm hdct sn sub ab col dd k0 k1 k2 k3 k5 newId))(T:OwnTail h bmV bm)(lk:∀M:Model,zDi M h (zEn (.ref C) "__class__") (some (.builtin "object.__class__")))
  (hx:h.get? a=some o)(hc:o.cls= .ref C)(hq:Q (.done (.ret (.ref C))) ⟨h,g,d,t,os⟩):
  wpAny (model prog w) A (zE7.«object.__getattribute__» ⟨[.ref a,.str "__class__" tk],[]⟩) Q E ⟨h,g,d,t,os⟩:=by
 have hT5:(⟨h,g,d,t,os⟩:zAB).TypeIs (.builtin "object.__class__") "getset_descriptor":=zDh;have f5:=zDh;have f6:=zFW.lookup;have f7:=F.slot_gs_set.lookup
 repeat (any_goals (first|assumption|(with_reducible refine zCC hx ?_;rw[hc])|with_reducible refine(lk _).here ?_|wp_step))
 refine wB hC T hx hc ?_
 repeat (any_goals (first|assumption|wp_step))
def ug{Q:Option Value->zAB->Prop}(hC:h.get? C=some (zDb nm q C N bs bm hdct sn sub ab col dd k0 k1 k2 k3 k5 newId))(T:OwnTail h bmV bm)(lk:∀M:Model,zDi M h (zEn (.ref C) "__class__") (some (.builtin "object.__class__")))
  (lg:∀M:Model,zDi M h (zEn (.ref C) "__getattribute__") (some (.builtin "BaseException.__getattribute__")))(ln:∀M:Model,zDi M h (zEn (.ref C) "__getattr__") none)
  (hx:h.get? a=some o)(hc:o.cls= .ref C)(hq:Q (some (.ref C)) ⟨h,g,d,t+1,os⟩):wpAny (model prog w) A (getAttr? (.ref a) "__class__") Q E ⟨h,g,d,t,os⟩:=by
 have by_exc:∀{E:Value->zAB->Prop} {t:Nat} {tk:Tok} {Q:Value->zAB->Prop},Q (.ref C) ⟨h,g,d,t,os⟩->wpAny (model prog w) A (getAttrBy (.ref a) (.str "__class__" tk) false) Q E ⟨h,g,d,t,os⟩:=by
  intro E t tk Q hq;have FB:=PySem.F.excAttr_ValueError;have f3:=FB.ga.bind (.ref a);have hx0:(false&&onTheHeap (zDV "BaseException.__getattribute__"))=false:=rfl;have hx2:(zDV "BaseException.__getattribute__"==zDV "object.__getattribute__")=false:=by decide+kernel
  have hx1:(onTheHeap (zBb C)&&zDV "BaseException.__getattribute__"==zDV "object.__getattribute__")=false:=by rw[hx2];rfl
  repeat (any_goals (first|assumption|(with_reducible refine zCC hx ?_;rw[hc])|with_reducible refine(lg _).here ?_|with_reducible refine(ln _).here ?_|wp_step))
  refine zGO FB.ga.plain F.entry_bexc_ga (uh hC T hx hc (rM hC T lk hx hc ?_))
  repeat (any_goals (first|assumption|wp_step))
 unfold getAttr? getAttrBy?
 repeat (any_goals (first|assumption|with_reducible apply by_exc|wp_step))
def aBc(hE:bK K C)(ha:zBD K (.ref C) "__class__"=some (some (.builtin "object.__class__")))(hgt:zBD K (.ref C) "__getattribute__"=some (some (.builtin "BaseException.__getattribute__")))
  (hga:zBD K (.ref C) "__getattr__"=some none):PySem.W.KitX K (.ref a) (.ref C) (λ h=>∃o,h.get? a=some o/\o.cls= .ref C) where
 ty:=λ M h _ ⟨o,h1,h2⟩=>h2▸(zGn h1).andThen .now
 it:=λ M h X _=>by
  obtain⟨bm,NN,nm,q,bs,hdct,sn,sub,ab,col,dd,k0,k1,k2,k3,k5,mN,hC,_⟩:=(nF (h:=h) (mg:=λ _=>some (.ref C)) (x:="x") X rfl hE).obj;intro A' Q' E' s' k q;unfold isType loadHead;exact zAG (wpAny_loadPart (k _ _ hC) (zA7 q))
 ne:=λ h tp dd its n sl X htp=>by
  obtain⟨bm,NN,nm,q,bs,hdct,sn,sub,ab,col,dd,k0,k1,k2,k3,k5,mN,hC,_⟩:=(nF (h:=h) (mg:=λ _=>some (.ref C)) (x:="x") X rfl hE).obj;refine Bool.eq_false_iff.mpr λ z=>?_
  have e:C=tp:=Value.ref.inj (beq_iff_eq.mp z);subst e;rw[hC]at htp;exact absurd (congrArg Obj.cls (zAf htp)) (by show zCM "type"≠zCM "tuple";decide+kernel)
 ca:=λ{prog w A E Q s} X ⟨o,h1,h2⟩ k=>by
  obtain⟨h,g,d,t,os⟩:=s;obtain⟨bm,NN,nm,q,bs,hdct,sn,sub,ab,col,dd,k0,k1,k2,k3,k5,mN,hC,hN,hni,T⟩:=(nF (h:=h) (mg:=λ _=>some (.ref C)) (x:="x") X rfl hE).obj;exact ug hC T (λ M=>zCs X ha) (λ M=>zCs X hgt) (λ M=>zCs X hga) h1 h2 k
end
def excφ(a C:Addr):Heap->Prop:=λ h=>∃o,h.get? a=some o/\o.cls= .ref C
def excφ_stay{a C:Addr}:∀h1 h2:Heap,excφ a C h1->(∀o,h1.get? a=some o->h2.get? a=some o)->excφ a C h2:=λ h1 h2 ⟨o,e,c⟩ k=>⟨o,k o e,c⟩
structure aDi(K:zAA)(C:Addr):Prop where
 ex:bK K C
 ca:zBD K (.ref C) "__class__"=some (some (.builtin "object.__class__"))
 gt:zBD K (.ref C) "__getattribute__"=some (some (.builtin "BaseException.__getattribute__"))
 ga:zBD K (.ref C) "__getattr__"=some none
section
variable{X:Cx}
def aDz(K:zAA):List V->Hp->VK->Prop:=λ xs H Q=>∃a C y c b,xs=[.ref a,y]/\RelV y c/\H a=some (.ext (excφ a C))/\aDi K C/\zBd K (.ref C) c=some b/\Q (.bl b) H
def aAJ:jH X (.builtin "isinstance") (aDz X.K):=by
 intro pins s Z H xs us Q I r h;obtain⟨a,C,y,c,b,rfl,ry,ha,kc,e,q⟩:=h;obtain⟨u,w',rfl,r1,r2⟩:=vals2 r;cases r1;have hc:w'=c:=by
  cases y<;>first
   |(cases r2;cases ry;rfl)
   |(obtain⟨t1,rfl⟩:=r2;obtain⟨t2,rfl⟩:=ry;exact absurd e (by simp[zBd,PySem.W.kitCls]))
 subst hc;obtain⟨p,_⟩:excφ a C s.heap/\_:=I.hok a _ ha;exact zBC (aBc kc.ex kc.ca kc.gt kc.ga) I.kIn p e (λ z=>nomatch z) λ tk=>⟨.bl b,H,I.tok tk,rfl,q⟩
end
abbrev Cx.re(X:Cx)(A:zA8)(c:Bool)(pl:List (Addr×Obj))(E:Value->zAB->Prop):Cx:={X with A:=A,calm:=c,pn:=X.pn++pl,xe:=E}
section
variable{X:Cx}{pins:List (Addr×Obj)}{Z:St}{H:Hp}{s:zAB}
theorem Inv.re{A:zA8}{c:Bool}{E:Value->zAB->Prop}(I:Inv X pins Z H s)(hf:A.frames=X.A.frames)(hd:c=true->A.handled=none):Inv (X.re A c pins E) [] Z H s:=
 ⟨⟨I.ok.mod,I.ok.kind,I.ok.glob,I.ok.blt,I.ok.above,I.ok.inj,I.ok.has,I.ok.cab,hd,hf.trans I.ok.frames,I.ok.stk,I.ok.exf,I.ok.bs,I.ok.bsz,I.ok.noex,I.ok.exfs,I.ok.funs,I.ok.frf⟩,
  I.os,I.bare,I.base,I.loc,I.cell,I.free,I.freeC,λ p hp=>I.pin p (by rw[zA3]at hp;exact hp),I.hok,I.len,λ p hp=>let⟨a,b,c,d,e⟩:=I.tab p hp;⟨a,b,c,λ q hq=>d q (by rw[zA3]at hq;exact hq),e⟩⟩
def Inv.unre{A:zA8}{c:Bool}{E:Value->zAB->Prop}{pins2:List (Addr×Obj)}{Z2:St}{H2:Hp}{s2:zAB}(ok:X.Ok)(J:Inv (X.re A c pins E) pins2 Z2 H2 s2):Inv X pins Z2 H2 s2:=
 ⟨ok,J.os,J.bare,J.base,J.loc,J.cell,J.free,J.freeC,λ p hp=>J.pin p (zAa _ hp),J.hok,J.len,λ p hp=>let⟨a,b,c,d,e⟩:=J.tab p hp;⟨a,b,c,λ q hq=>d q (zAa _ hq),e⟩⟩
def Inv.track{a:Addr}{o:HO}(I:Inv X pins Z H s)(ha:H a=none)(h0:X.z5.heap.get? a=none)(hL:X.env.locals≠a)(hc:∀x c,X.env.cells.lookup x=some c->c≠a)(hp:∀p∈X.ta++(X.pn++pins),p.1≠a)
  (new:cH X.prog X.w (upd H a o) s.heap a o):Inv X pins Z (upd H a o) s:=by
 have ne:∀b u,H b=some u->b≠a:=λ b u e=>bL e ha
 refine⟨I.ok,I.os,I.bare,⟨I.base.keep,I.base.slot,λ b ob e n nx=>?_,I.base.there,λ b xs e=>?_,λ b ob u e=>?_,λ b ps e=>?_⟩,I.loc,I.cell,?_,λ x c e=>?_,λ p hp'=>?_,λ b u e=>?_,I.len,λ p hp'=>?_⟩
 .rw[aQ (λ z=>by rw[z,h0]at e;cases e)]
  exact I.base.free b ob e n nx
 .have e1:=I.base.tups b xs e
  rw[aQ (ne b _ e1)];exact e1
 .have e1:=I.base.frzs b ob u e
  rw[aQ (ne b _ e1)];exact e1
 .obtain⟨m,e1⟩:=I.base.tbls b ps e
  exact⟨m,by rw[aQ (ne b _ e1)];exact e1⟩
 .rw[aQ hL];exact I.free
 .rw[aQ (hc x c e)];exact I.freeC x c e
 .obtain⟨p1,p2,p3⟩:=I.pin p hp'
  exact⟨p1,by rw[aQ (hp p (zA0 _ hp'))];exact p2,p3⟩
 .by_cases hb:b=a
  .subst hb;rw[aj]at e;cases e;exact new
  .rw[aQ hb]at e
   exact(I.hok b u e).stay (λ c v _ q=>q) (λ c q=>by rw[aQ (ne c _ q)];exact q) λ c xs q=>by rw[aQ (ne c _ q)];exact q
 .obtain⟨n1,n2,n3,n0,ps,n4,n5⟩:=I.tab p hp'
  exact⟨by rw[aQ (hp p (zAa _ hp'))];exact n1,n2,n3,n0,ps,n4,n5.mono λ b o u e=>by rw[aQ (ne b _ e)];exact e⟩
def Inv.gone{i:Nat}{n:Str}{h':Heap}{m:Str->Option Value}{v:Option Value}{tk:Nat}(I:Inv X pins Z H s)(hN:X.N.Nodup)(hi:X.N[i]? =some n)(hm:s.heap.Ns X.env.locals m)(hn:h'.Ns X.env.locals λ x=>if x=n then v else m x)(hs:zFP X.env.locals s.heap h'):
  Inv X pins (Z.set i none) H {s with heap:=h',toks:=tk}:=by
 obtain⟨m0,hm0,hl⟩:=id I.loc;have cne:=I.cne;have em:m0=m:=by
  obtain⟨o1,es1,ep1,e1,d1,k1⟩:=hm0;obtain⟨o2,es2,ep2,e2,d2,k2⟩:=hm;rw[e1]at e2;cases e2;rw[d1]at d2;cases d2;funext x;exact(k1.2 x).symm.trans (k2.2 x)
 subst em;obtain⟨oL,_,_,hoL,_⟩:=id hm0;have keep:∀b o,b≠X.env.locals->s.heap.get? b=some o->h'.get? b=some o:=λ b o nb e=>(hs.2 b nb).trans e
 refine⟨I.ok,I.os,I.bare,⟨λ b o e n' hb hx=>?_,λ b o e n' hb hx=>?_,I.base.free,λ b o e hx=>?_,I.base.tups,I.base.frzs,I.base.tbls⟩,⟨_,hn,λ j y v' e1 e2 e3=>?_⟩,λ y c e=>?_,I.free,I.freeC,λ p hp=>?_,λ b u e=>?_,by simpa using I.len,λ p hp=>?_⟩
 .exact keep b o (zAk (zAQ (zAW e) I.ok.above)) (I.base.keep b o e n' hb hx)
 .obtain⟨sl,e1⟩:=I.base.slot b o e n' hb hx
  exact⟨sl,keep b _ (zAk (zAQ (zAW e) I.ok.above)) e1⟩
 .obtain⟨o',e1⟩:=I.base.there b o e hx
  exact⟨o',keep b _ (zAk (zAQ (zAW e) I.ok.above)) e1⟩
 .have hj:j≠i:=λ z=>by
   subst z;rw[List.getElem?_set]at e2;simp at e2
  rw[zBc (zDx hj)]at e2;obtain⟨u,r,q⟩:=hl j y v' e1 e2 e3;refine⟨u,r,?_⟩;have yn:y≠n:=λ z=>hj (qG hN e1 (z▸hi))
  rcases q with ⟨k,e⟩|⟨k,c,e,z⟩
  .exact .inl ⟨k,by simp[yn,e]⟩
  .exact .inr ⟨k,c,e,z.sameBut hs (cne y c e)⟩
 .obtain⟨v',z⟩:=I.cell y c e
  exact⟨v',z.sameBut hs (cne y c e)⟩
 .obtain⟨p1,p2,p3,p4⟩:=I.pin p hp
  exact⟨keep _ _ p3 p1,p2,p3,p4⟩
 .refine(I.hok b u e).stay (λ c v' hc q=>keep c v' ?_ q) (λ _ q=>q) λ _ _ q=>q
  rintro rfl;rcases hc with z|z
  .rw[<-z,I.free]at e;cases e
  .rw[I.free]at z;cases z
 .obtain⟨n1,n2,n3,n0,ps,n4,n5⟩:=I.tab p hp
  exact⟨n1,n2,n3,n0,ps,keep _ _ n2 n4,n5⟩
end
section
variable{M:Model}{A:zA8}{E:Value->zAB->Prop}{h:Heap}{g:Array zEz}{d:Drawn}{t:Nat}{os:OsState}
variable{nm q:Str}{C N:Addr}{bs bm:List Value}{hdct:Bool}{sn:List Str}{sub:List Value}{ab:Bool}{col:Option Bool}{dd:Option Addr}{k0 k1 k2 k3 k5:Option Value}{newId:String}
variable{nm' q':Str}{C' N':Addr}{bs' bm':List Value}{hdct':Bool}{sn':List Str}{sub':List Value}{ab':Bool}{col':Option Bool}{dd':Option Addr}{k0' k1' k2' k3' k5':Option Value}{newId':String}
def qi{e:Addr}{oe:Obj}{Q:Bool->zAB->Prop}(hC:h.get? C=some (zDb nm q C N bs bm hdct sn sub ab col dd k0 k1 k2 k3 k5 newId))(hC':h.get? C'=some (zDb nm' q' C' N' bs' bm' hdct' sn' sub' ab' col' dd' k0' k1' k2' k3' k5' newId'))
  (he:h.get? e=some oe)(hcls:oe.cls= .ref C)(hb':bm'.contains (.type "BaseException")=true)(hs:(zBb C::bm).contains (.ref C')=true)
  (hq:Q true ⟨h,g,d,t,os⟩):wpAny M A (excMatches (.ref e) (.ref C')) Q E ⟨h,g,d,t,os⟩:=by
 have hcB:(zBb C'::bm').contains (.type "BaseException")=true:=by rw[zDv,hb',Bool.or_true]
 have f:=tc_notTuple;unfold excMatches
 repeat (first|(with_reducible refine zCC he ?_;rw[hcls])|with_reducible refine zCC hC' ?_|(with_reducible refine zDP hC' ?_;rw[hcB])|(with_reducible refine zDP hC ?_;rw[hs])|wp_step)
 exact hq
end
def cH.there{P:zAS}{w:World}{H:Hp}{h:Heap}{a:Addr}{o:HO}(x:cH P w H h a o):∃ob,h.get? a=some ob:=by
 cases o with
 |lst xs=>obtain⟨_,_,_,_,e⟩:=x;exact⟨_,e⟩
 |tup xs=>
  obtain⟨_,_,_,p⟩:=x;obtain⟨o,e,_⟩:=p;exact⟨_,e⟩
 |dK kvs=>obtain⟨_,_,_,_,o,_,_,e,_⟩:=x;exact⟨_,e⟩
 |dT kvs=>obtain⟨_,_,_,_,o,_,_,e,_⟩:=x;exact⟨_,e⟩
 |set S n=>obtain⟨o,_,_,_,e,_⟩:=x;exact⟨_,e⟩
 |ins C dx fs=>obtain⟨_,_,_,e,_⟩:=x;exact⟨_,e⟩
 |own y=>exact x
 |xd fs=>obtain⟨_,⟨_,_,_,e,_⟩,_⟩:=x;exact⟨_,e⟩
 |rng lo hi=>obtain⟨_,_,_,e⟩:=x;exact⟨_,e⟩
 |frz ob u=>obtain⟨e,_⟩:=x;exact⟨_,e⟩
 |tbl ps=>exact⟨_,show h.get? a=some _ from x⟩
 |met f y=>exact⟨_,show h.get? a=some _ from x⟩
 |ext φ=>obtain⟨_,e,_⟩:=x;exact e
def nQ(K:zAA)(C C':Addr):Bool:=
 match K.lookup C with
 |some ⟨_,_,.cls cd,_⟩=>cd.mro.contains (.ref C')
 |_=>false
abbrev Cx.tr(X:Cx)(pins:List (Addr×Obj))(E':XK):Cx:=X.re X.A true pins λ e s'=>∃Z H s,Inv X pins Z H s/\CX1 X.prog X.w X.stack H s E' e s'
abbrev Cx.ha(X:Cx)(pins:List (Addr×Obj))(ea:Addr):Cx:=X.re (X.A.mark (some (.ref ea))) false pins λ _ _=>False
def aA4(X:Cx)(i:Nat)(C':Addr)(E':XK)(tb th:TS):TS:=λ D Z H=>tb D Z H/\∀cls H1,E' cls none H1->∃C,cls= .ref C/\bK X.K C/\nQ X.K C C'=true/\∀(Z1:St) (ea:Addr),Z1.length=X.N.length->H1 ea=none->
 th {nx:=λ Z' H'=>D.nx (Z'.set i none) H',rt:=D.rt,bk:=λ Z' H'=>D.bk (Z'.set i none) H',ct:=λ Z' H'=>D.ct (Z'.set i none) H'} (Z1.set i (some (.ref ea))) (upd H1 ea (.ext (excφ ea C)))
section
variable{X:Cx}{E E':XK}
def Cx.tr_ok{pins:List (Addr×Obj)}(J:(X.tr pins E').Ok):X.Ok:=
 ⟨J.mod,J.kind,J.glob,J.blt,J.above,J.inj,J.has,J.cab,λ _=>J.hd rfl,J.frames,J.stk,J.exf,J.bs,J.bsz,J.noex,J.exfs,J.funs,J.frf⟩
def Cx.tr_pass{pins:List (Addr×Obj)}:lK (CX1 X.prog X.w) (X.tr pins E') E':=λ pins2 Z H s e s' I h=>⟨Z,H,s,Inv.unre (Cx.tr_ok I.ok) I,h⟩
def aAw(D:cI X E)(hc:X.calm=true)(hN:X.N.Nodup){i:Nat}{n:Str}(hi:X.N[i]? =some n)(hl:X.env.scope.names.lookup n=some .local){x:Str}{C':Addr}(hm:X.mg x=some (.ref C'))(hg:Gl X x)(hC':bK X.K C')
  {body suite:List Stmt}{b₀:Stmt}{tb th:TS}{np hpos pos:Pos}(hb:∀pins,PSs (X.tr pins E') body tb)(hs:∀pins ea,PSs (X.ha pins ea) (b₀::suite) th)(hdb:Nd x:=by decide):
  PS X (.Try body [.ExceptHandler (some (.Name x np)) (some n) (b₀::suite) hpos] [] [] pos) (aA4 X i C' E' tb th):=by
 intro pins s Z H DD I hh;obtain⟨h1,h2⟩:=hh;refine wpAny_Try_except (zBE (hb pins [] s Z H DD (I.re rfl λ _=>I.ok.hd hc) h1) (λ f s1 q=>?_) λ e s1 q=>?_)
 .cases f with
  |next=>
   obtain⟨Z',H',J,q⟩:=q;exact zDO ⟨Z',H',Inv.unre I.ok J,q⟩
  |brk=>obtain⟨Z',H',J,q⟩:=q;exact⟨Z',H',Inv.unre I.ok J,q⟩
  |cont=>obtain⟨Z',H',J,q⟩:=q;exact⟨Z',H',Inv.unre I.ok J,q⟩
  |ret u=>obtain⟨v,Z',H',J,r,q⟩:=q;exact⟨v,Z',H',Inv.unre I.ok J,r,q⟩
 .obtain⟨Z1,H1,s0,J,ea,cls,a0,B,H2,rfl,os,bare,un,hok,fly,bk,ba,hE⟩:=q
  obtain⟨C,rfl,hC,hsub,hth⟩:=h2 cls H2 hE;have hfr:=I.ok.frames;rw[D.stk]at hfr;have fly':=fly;rw[D.stk]at fly';have mk:∀hh:Heap,zGj B X.stack ea (.ref C) a0 hh->s1.heap.UpToSlots hh->Inv X pins Z1 H2 {s1 with heap:=hh}:=λ hh fl up=>by
   refine J.call' (ch:=[]) os ⟨λ b o e n nf _=>fl.1 b o (bk b o e n nf),λ b o e n hb _=>?_,un.free,λ b o e _=>?_,un.tups,un.frzs,un.tbls⟩ (λ a o e=>(hok a o e).stay (λ b u _ q=>fl.1 b u q) (λ _ z=>z) λ _ _ z=>z) bare (λ b z=>nomatch z)
   .obtain⟨s2,e2⟩:=un.slot b o e n hb (λ z=>nomatch z)
    obtain⟨_,o3,e3,nf⟩:=fly.2.2.1.mem hb;rw[e2]at e3;cases e3;obtain⟨s4,e4⟩:=up b _ e2 nf;exact⟨s4,e4⟩
   .by_cases hb:b∈frs X.stack
    .obtain⟨_,o3,e3,nf⟩:=fl.2.2.1.mem hb
     exact⟨o3,e3⟩
    .obtain⟨o',e'⟩:=ba b o e hb
     exact⟨o',fl.1 b o' e'⟩
  refine wpAny_looks_onW hfr D.fr fly' λ h3 held up3=>?_
  refine wpAny_landsW held λ h4 fly4 up4=>?_
  rw[<-D.stk]at fly4;have J4:=mk h4 fly4 (up3.trans up4);have K4:Inv (X.ha pins ea) [] Z1 H2 {s1 with heap:=h4}:=J4.re rfl (λ z=>nomatch z);obtain⟨ob4,he4,hc4⟩:=fly4.there;obtain⟨tl,NN,nm,q,bs,hdct,sn,sub,ab,col,dd,k0,k1,k2,k3,k5,mN,hCo,hNn,hni,T⟩:=(nF (h:=h4) (mg:=λ _=>some (.ref C)) (x:="x") J4.kIn rfl hC).obj;obtain⟨tl',NN',nm',q',bs',hdct',sn',sub',ab',col',dd',k0',k1',k2',k3',k5',mN',hCo',hNn',hni',T'⟩:=(nF (h:=h4) (mg:=λ _=>some (.ref C')) (x:="x") J4.kIn rfl hC').obj;have hmro:(zBb C::tl).contains (.ref C')=true:=by
   unfold nQ at hsub;split at hsub
   .rename_i oc od cd sl ho
    have e:=J4.kIn _ _ ho;have e2:(some _:Option Obj)=some _:=e.symm.trans hCo;injection e2 with e2
    have e3:=congrArg Obj.data e2;injection e3 with e3
    subst e3;exact hsub
   .cases hsub
  refine wpAny_handleBy_cons (codeAny_handlers_test (jf (X:=X.ha pins ea) K4 hg hm ?_ hdb)) (by intro q;cases q);refine qi hCo hCo' he4 hc4 (T'.hasType (X:="BaseException") (b:=true) (by decide+kernel)) hmro ?_;refine codeAny_handlers_suite_as ?_;refine lands_againW fly4 λ h5 fly5 up5=>?_
  have J5:=mk h5 fly5 ((up3.trans up4).trans up5);obtain⟨f1,f2,f3,oe,vs,T5,oT,ts,he5,⟨hcl5,h05⟩,hd5,_⟩:=id fly5;have nof:ea∉frs X.stack:=λ z=>by
   obtain⟨_,o3,e3,nf⟩:=f3.mem z;rw[he5]at e3;cases e3;exact nf vs hd5
  have inB:∀b o,s0.heap.get? b=some o->b∉frs X.stack->b≠ea:=λ b o e nf z=>by
   obtain⟨o',e'⟩:=ba b o e nf;rw[z,f2]at e';cases e'
  have hL:X.env.locals∈frs X.stack:=by
   rw[D.stk];unfold frs;rw[zBi,D.fr];exact zAU
  have h2n:H2 ea=none:=by
   cases e:H2 ea with
   |none=>rfl
   |some o=>
    obtain⟨ob,e'⟩:=(hok ea o e).there;rw[f2]at e';cases e'
  have J6:Inv X pins Z1 (upd H2 ea (.ext (excφ ea C))) {s1 with heap:=h5}:=by
   refine J5.track h2n ?_ (λ z=>nof (z▸hL)) (λ y c e z=>?_) (λ p hp z=>?_) ⟨⟨oe,he5,hcl5⟩,⟨oe,he5⟩,excφ_stay⟩
   .cases e:X.z5.heap.get? ea with
    |none=>rfl
    |some o=>
     obtain⟨o',e'⟩:=J.base.there ea o e (by rw[D.ex];exact λ z=>nomatch z);exact absurd rfl (inB ea o' e' nof)
   .obtain⟨v,o,ho,hd⟩:=J5.cell y c e
    rw[z]at ho;have e2:some o=some oe:=ho.symm.trans he5;cases e2;rw[hd]at hd5;cases hd5
   .have hh:∃o,s0.heap.get? p.1=some o/\p.1≠X.env.locals/\p.1∉X.fs:=by
     rcases zAs.mp hp with z|z
     .obtain⟨_,a,b,_,_,c,_⟩:=J.tab p z
      exact⟨_,c,a,b⟩
     .obtain⟨p1,p2,p3,p4,_⟩:=J.pin p z
      exact⟨_,p1,p3,p4⟩
    obtain⟨o,p1,p3,p4⟩:=hh;refine inB p.1 o p1 (λ w=>?_) z;rcases zAZ.mp (J.stkSub p.1 w)with z|z
    .exact p3 z
    .exact p4 z
  have K6:Inv (X.ha pins ea) [] Z1 (upd H2 ea (.ext (excφ ea C))) {s1 with heap:=h5}:=J6.re rfl (λ z=>nomatch z);refine lU (X:=X.ha pins ea) (v:=.ref ea) K6 hN hi (.inl hl) rfl (λ s7 I7=>?_) (.inr hl);refine zBE (hs pins ea [] s7 _ _ _ I7 (hth Z1 ea J.len h2n)) (λ f s8 q8=>?_) λ _ _ z=>z.elim
  have goes:∀{Z':St} {H':Hp} {Q:zAB->Prop},Inv (X.ha pins ea) [] Z' H' s8->(∀s9,Inv X pins (Z'.set i none) H' s9->Q s9)->
    wpAny (model X.prog X.w) X.A (do bindName X.env n .none;unbindBehindTheSuite X.env n hpos) (λ _ s9=>Q s9) X.xe s8:=λ{Z' H' Q} K8 k=>by
   have J8:Inv X pins Z' H' s8:=Inv.unre I.ok K8;obtain⟨m,hmm,_⟩:=id J8.loc;refine wpAny_nameGoes_keeps hl hmm (by rw[I.ok.kind];rfl) λ h' v hn hsb=>k _ (Inv.gone J8 hN hi hmm hn hsb)
  cases f with
  |next=>obtain⟨Z',H',K8,q⟩:=q8;exact goes K8 λ s9 J9=>⟨_,_,J9,q⟩
  |brk=>obtain⟨Z',H',K8,q⟩:=q8;exact goes K8 λ s9 J9=>⟨_,_,J9,q⟩
  |cont=>obtain⟨Z',H',K8,q⟩:=q8;exact goes K8 λ s9 J9=>⟨_,_,J9,q⟩
  |ret u=>obtain⟨v,Z',H',K8,r,q⟩:=q8;exact goes K8 λ s9 J9=>⟨v,_,_,J9,r,q⟩
end
structure fZ(k:Nat)(A:zA8):Prop where
 dp:A.depth+3*k+5<zEH
 un:A.units+16*k+200<cLine
def cX.h{k:Nat}{A:zA8}(r:cX k A):fZ k A:=⟨r.dp,r.un⟩
theorem fZ.mark{k:Nat}{A:zA8}{v:Option Value}(r:fZ k A):fZ k (A.mark v):=⟨r.dp,r.un⟩
def fZ.mono{j k:Nat}{A:zA8}(r:fZ k A)(h:j<=k):fZ j A:=⟨by have:=r.dp;omega,by have:=r.un;omega⟩
theorem fZ.deeper{k:Nat}{A:zA8}(r:fZ (k+1) A)(env:Env):fZ k (A.deeper env):=
 ⟨by have:=r.dp;show A.depth+1+3*k+5<_;omega,by have:=r.un;show A.units+3+16*k+200<_;omega⟩
theorem fZ.depth{k:Nat}{A:zA8}(r:fZ k A):A.depth<zEH:=by have:=r.dp;omega
abbrev aCF(A:zA8):zA8:={A with handled:=none}
structure FnH(P:zAS)(w:World)(K:zAA)(mg:Str->Option Value)(base:Heap)(k:Nat)(f:Addr)(fd:zAy)(ps:List Str)(sp:Sp):Prop where
 len:∀vs H Q E,sp vs H Q E->vs.length=ps.length
 run:∀(A:zA8) (outer:List Env) (s:zAB) (H:Hp) (args:Args) (us:List Value) (vs:List V) (Q:VK) (E:XK),fZ k A->wK P w K mg base A outer s H->zFc s fd args (ps.zip us)->Vals vs us->sp vs H Q E->
  zCH (model P w) A (.call (.ref f) args) (CR CX0 outer P w H s Q E) s
abbrev cxH(P:zAS)(w:World)(K:zAA)(mg:Str->Option Value)(base:Heap)(N:List Str)(q:Str)(scope:Scope)(f:Addr)(cd:Value)(A:zA8)(outer:List Env)(s:zAB)(H:Hp):Cx:=
 (oX CX0 P w K mg base N q scope f cd (aCF A) outer s H λ _ _ _=>False).re (A.deeper (zC6 q scope s.heap.objs.size f cd)) false [] λ _ _=>False
section
variable{P:zAS}{w:World}{K:zAA}{mg:Str->Option Value}{base:Heap}
def Fun.okH{x q:Str}{st:Stmt}{f:Addr}{fd:zAy}{N ps:List Str}{k:Nat}{sp:Sp}(F:Fun K x q st f fd)(S:aq N ps (aF st))(len:∀vs H Q E,sp vs H Q E->vs.length=ps.length)
  (hbody:∀(cdv:Value) (A:zA8) (outer:List Env) (s:zAB) (H:Hp) (vs:List V) (Q:VK) (E:XK),fZ k (A.deeper (zC6 q (aF st) s.heap.objs.size f cdv))->sp vs H Q E->
   ∃t,PSs (cxH P w K mg base N q (aF st) f cdv A outer s H) (bY st) t/\t {nx:=λ _ H'=>Q .non H',rt:=Q} (start N vs) H):FnH P w K mg base (k+1) f fd ps sp:=by
 obtain⟨oc,od,kV,doc,pm,an,cdv,ct,osl,rfl,lk,hcd⟩:=F.ex;refine⟨len,λ A outer s H args us vs Q E hr e0 hb r hsp=>?_⟩;have KX:K.In s.heap:=e0.mod.kin.keeps λ b o e=>(e0.bs b o e).1
 have par:∀y∈ps.zip us,(aF st).names.lookup y.1=some .local\/((aF st).names.lookup y.1=some .cell/\((zC5 (s.heap.objs.size+1) (aF st).names []).lookup y.1).isSome=true):=λ y hy=>
  (S.par y.1 (zC8 (a:=y.1) (b:=y.2) hy).1).imp id λ z=>⟨z,zCa _ _ _ (.inl z)⟩
 refine zDt hr.depth (KX _ _ lk) rfl S.co S.gen rfl (zDk KX hcd) (hb _ _ _ _ (zDW S.kind par λ env he s1 x=>?_));cases he;refine⟨(e0.mod.nolimit.keeps λ b o e=>(e0.bs b o e).1).keeps x.toInCall.keep,zGF ?_⟩;obtain⟨t,ht,hq⟩:=hbody cdv A outer s H vs Q E (hr.deeper _) hsp;have e1:wK P w K mg base (aCF A) outer s H:=⟨e0.frames,e0.mod,e0.bs,e0.bsz,e0.funs,e0.frf,e0.hok,e0.bare⟩;have I0:Inv (oX CX0 P w K mg base N q (aF st) f cdv (aCF A) outer s H λ _ _ _=>False) [] (start N vs) H s1:=nM S rfl e1 (len _ _ _ _ hsp) r x;have I1:Inv (cxH P w K mg base N q (aF st) f cdv A outer s H) [] (start N vs) H s1:=I0.re rfl (λ z=>nomatch z);refine zBE (ht [] s1 (start N vs) H _ I1 hq) (λ fl s' hs=>?_) λ e s' hs=>hs.elim
 cases fl with
 |ret u=>obtain⟨v,Z',H',J,rv,q⟩:=hs;exact⟨v,H',J.os,J.bare,J.base,J.hok,rv,q⟩
 |next=>obtain⟨Z',H',J,q⟩:=hs;exact⟨.non,H',J.os,J.bare,J.base,J.hok,rfl,q⟩
 |brk=>obtain⟨_,_,_,q⟩:=hs;exact q.elim
 |cont=>obtain⟨_,_,_,q⟩:=hs;exact q.elim
end
section
variable{X:Cx}{k:Nat}{f:Addr}{fd:zAy}{ps:List Str}{sp:Sp}{dvs:List V}{ds:List Value}{E:XK}{x:Str}{p pos:Pos}{e:Expr}{es:List Expr}{t:TA}
def aBI(F:FnH X.prog X.w X.K X.mg X.base k f fd ps sp)(hr:fZ k X.A)(hg:Gl X x)(hm:X.mg x=some (.ref f))(hk:zB4 X.K (.ref f)=true)(hb:Binds X.K fd ps ds)(hd:Vals dvs ds)
  (ha:PA X (e::es) t)(hdb:Nd x:=by decide)(he:zAY (e::es) X.env=(false,eval e X.env)::zAY es X.env:=by rfl)(hpl:(zCQ pos (zAY es X.env)).any (·.1)=false:=by rfl):
  PE X (.Call (.Name x p) (e::es) [] pos) (vG sp dvs E t):=by
 intro pins s Z H Q I h;refine zCO (jf I hg hm (zDj (h₀:=X.base) I.ok.mod.kin hk (thn (ha pos pins s Z H _ I h) λ us s1 hz=>?_) he hpl) hdb);obtain⟨vs,H1,I1,r,q⟩:=hz;refine⟨I1.kIn,zGu (zDu (F.run X.A X.stack s1 H1 ⟨us,[]⟩ (us++ds) (vs++dvs) Q E hr I1.env0 (hb s1 us I1.kIn ?_) (r.append hd) q) λ r' s' hq=>?_)⟩
 .rw[<-(r.append hd).length];exact F.len _ _ _ _ q
 .cases r' with
  |error e=>exact zAE hq
  |ok fl=>
   cases fl with
   |ret u=>exact I1.after hq
   |next=>exact zAE hq
   |brk=>exact zAE hq
   |cont=>exact zAE hq
end
def spW(wd:Addr->Option Str):Sp:=λ vs H Q _=>∃ea C w,vs=[.ref ea]/\H ea=some (.ext (excφ ea C))/\wd C=some w/\∀H',aM H H'->Q (.str w) H'
def spR(P:zAS)(w:World)(K:zAA)(mg:Str->Option Value)(base:Heap)(k0:Nat)(told:Str)(wd:Addr->Option Str):Sp:=λ vs H Q _=>∃f cls dd sl fd k sp,vs=[.ref f]/\H f=some (.frz ⟨cls,dd,.func fd,sl⟩ (.own f))/\dC P w K mg base (CX1 P w) k f fd [] sp/\k<=k0/\Binds K fd [] []/\
 sp [] H (λ _ H'=>Q (.str told) H') (λ c _ H1=>∃C wo,c= .ref C/\wd C=some wo/\∀H',aM H1 H'->Q (.str wo) H')
section
variable{X:Cx}{E:XK}{n0 n1 n2 few cn pe told:Str}{C' fc:Addr}{fdc:zAy}{kc k0:Nat}{wd:Addr->Option Str}
def aAm(D:cI X E)(hc:X.calm=true)(hN:X.N=[n0,n1,n2])(nd:X.N.Nodup)(l0:X.env.scope.names.lookup n0=some .local)(l1:X.env.scope.names.lookup n1=some .local)(l2:X.env.scope.names.lookup n2=some .local)(hf:∀x,X.fn x=true)
  (hm:X.mg few=some (.ref C'))(hg:Gl X few)(hC':bK X.K C')(FC:FnH X.prog X.w X.K X.mg X.base kc fc fdc [pe] (spW wd))(hgc:Gl X cn)(hmc:X.mg cn=some (.ref fc))(hkc:zB4 X.K (.ref fc)=true)(hbc:Binds X.K fdc [pe] [])
  (hr:cX k0 X.A)(hkk:kc<=k0)(hw:∀C w,wd C=some w->bK X.K C/\nQ X.K C C'=true){p1 p2 p3 p4 p5 p6 p7 p8 p9 p10 p11 p12 p13 p14 p15 p16:Pos}{j1:Nat}{vs:List V}{H:Hp}{Q:VK}{E0:XK}(h:spR X.prog X.w X.K X.mg X.base k0 told wd vs H Q E0)
  (d1:Nd few:=by decide)(d2:Nd cn:=by decide)(d3:Nd n0:=by decide)(d4:Nd n1:=by decide)(d5:Nd n2:=by decide)
  (d6:(n0==("__classdict__":Str))=false:=by decide)(d7:(n1==("__classdict__":Str))=false:=by decide)(d8:(n2==("__classdict__":Str))=false:=by decide):
  ∃t,PSs X [.Assign [.Name n1 p1] (.Constant (.str told) j1 p2) p3,.Try [.Expr (.Call (.Name n0 p4) [] [] p5) p6] [.ExceptHandler (some (.Name few p7)) (some n2) [.Assign [.Name n1 p8] (.Call (.Name cn p9) [.Name n2 p10] [] p11) p12] p13] [] [] p14,.Return (some (.Name n1 p15)) p16] t/\
   t {nx:=λ _ H'=>Q .non H',rt:=Q} (start X.N vs) H:=by
 obtain⟨f,cls,dd,sl,fd,k,sp,rfl,hH,F,hk,hb,hsp⟩:=h;have i0:X.N[0]? =some n0:=by rw[hN];rfl
 have i1:X.N[1]? =some n1:=by rw[hN];rfl
 have i2:X.N[2]? =some n2:=by rw[hN];rfl
 refine⟨_,cz (iV nd i1 (.inl l1) cZ (hf:=.inl (hf _))) (cz (aAw (E':=λ c _ H1=>∃C wo,c= .ref C/\wd C=some wo/\∀H',aM H1 H'->Q (.str wo) H') D hc nd i2 l2 hm hg hC' (tb:=rW (wO X k0 0 λ c _ H1=>∃C wo,c= .ref C/\wd C=some wo/\∀H',aM H1 H'->Q (.str wo) H')) (th:=wR (vG (spW wd) [] E (jE (jo 2) qx)) (oF 1))
  (λ pins=>iU (mC (aBD (X:=X.tr pins _) hr Cx.tr_pass i0 (.inl l0) d3 d6))) (λ pins ea=>iU (iV (X:=X.ha pins ea) nd i1 (.inl l1) (aBI (X:=X.ha pins ea) FC ((hr.h.mono hkk).mark) hgc hmc hkc hbc .nil (aV (dq (X:=X.ha pins ea) i2 (.inl l2) d5 d8) cg) d2) (hf:=.inl (hf _)))) d1) (iU (pZ (dq i1 (.inl l1) d4 d7)))),?_⟩
 have hs:start X.N [.ref f]=[some (.ref f),none,none]:=by rw[hN];rfl
 rw[hs];have e:(λ(_:V) H1=>Q (.str told) H1)=λ(_:V) H1=>aEW (jo 1) {nx:=λ _ H'=>Q .non H',rt:=Q} [some (.ref f),some (.str told),none] H1:=by
  funext v H1;exact propext ⟨λ q=>⟨_,rfl,q⟩,λ⟨v',e',q⟩=>by cases e';exact q⟩
 rw[e]at hsp;have key:aA4 X 2 C' (λ c _ H1=>∃C wo,c= .ref C/\wd C=some wo/\∀H',aM H1 H'->Q (.str wo) H') (rW (wO X k0 0 λ c _ H1=>∃C wo,c= .ref C/\wd C=some wo/\∀H',aM H1 H'->Q (.str wo) H')) (wR (vG (spW wd) [] E (jE (jo 2) qx)) (oF 1))
  {nx:=aEW (jo 1) {nx:=λ _ H'=>Q .non H',rt:=Q},rt:=Q} [some (.ref f),some (.str told),none] H:=?_
 .exact key
 refine⟨⟨f,cls,dd,sl,fd,k,sp,rfl,hH,F,hk,hb,hsp⟩,λ c H1 ⟨C,wo,ec,hwd,hq⟩=>⟨C,ec,(hw C wo hwd).1,(hw C wo hwd).2,λ Z1 ea hl hn=>?_⟩⟩
 .rw[hN]at hl
  obtain⟨a,b,c,rfl⟩:∃a b c,Z1=[a,b,c]:=by
   match Z1,hl with
   |[a,b,c],_=>exact⟨a,b,c,rfl⟩
  refine⟨.ref ea,rfl,ea,C,wo,rfl,aj,hwd,λ H' sm=>⟨.str wo,rfl,hq H' λ b o e=>sm b o ?_⟩⟩;rw[aQ (bL e hn)];exact e
end
def wQ(K:zAA)(c:V):TE:=tCB (aDz K) (jE (jo 0) (jE (tC c) qx))
def jD(K:zAA):List V->TA
 |[]=>qx
 |c::cs=>jE (wQ K c) (jD K cs)
def rU:List Str->TA
 |[]=>qx
 |x::xs=>jE (tC (.str x)) (rU xs)
def Kt(K:zAA)(C:Addr)(c:V)(b:Bool):Prop:=∃u,RelV c u/\zBd K (.ref C) u=some b
section
variable{K:zAA}{Z:St}{H:Hp}{ea C:Addr}
def tR{c:V}{b:Bool}{Q:VK}(hs:Z[0]? =some (some (.ref ea)))(hH:H ea=some (.ext (excφ ea C)))(hk:aDi K C)(h:Kt K C c b)(q:Q (.bl b) H):wQ K c Z H Q:=by
 obtain⟨u,r,e⟩:=h;exact⟨.ref ea,hs,ea,C,c,u,b,rfl,r,hH,hk,e,q⟩
theorem jL(hs:Z[0]? =some (some (.ref ea)))(hH:H ea=some (.ext (excφ ea C)))(hk:aDi K C):∀{cs:List V} {bs:List Bool} {Q:List V->Hp->Prop},zEW (Kt K C) cs bs->Q (bs.map V.bl) H->jD K cs Z H Q
 |_,_,_,.nil,q=>q
 |_,_,_,.cons h r,q=>tR hs hH hk h (jL hs hH hk r q)
theorem pI:∀{l:List Str} {Q:List V->Hp->Prop},Q (l.map V.str) H->rU l Z H Q
 |[],_,q=>q
 |x::l,_,q=>pI (l:=l) (Q:=λ xs H2=>_) q
end
structure Wd(K:zAA)(c1 c2:V)(ks:List (List V))(ws:List Str)(C:Addr)(w:Str):Prop where
 k:aDi K C
 q1:Kt K C c1 true
 q2:Kt K C c2 true
 bs:∃(b1 b2 b3 b4:List Bool) (j:Nat) (k1 k2 k3 k4:List V),ks=[k1,k2,k3,k4]/\zEW (Kt K C) k1 b1/\zEW (Kt K C) k2 b2/\zEW (Kt K C) k3 b3/\zEW (Kt K C) k4 b4/\(b1++b2++b3++b4).length<=100/\(b1++b2++b3++b4).count true=1/\
  (b1++b2++b3++b4)[j]? =some true/\(∀m,m<j->(b1++b2++b3++b4)[m]? =some false)/\ws[j]? =some w
section
variable{X:Cx}{n0 n1 n2 odd:Str}{c1 c2:V}{k1 k2 k3 k4:List V}{l1 l2:List Str}{a1 a2:Expr}{as1 as2 e1 e2 e3 e4 w1 w2:List Expr}{kw1 kw2:List zCi}{Q:VK}{H:Hp}{vs:List V}
 {p1 p2 p3 p4 p5 p6 p7 p8 p9 p10 p11 p12 p13 p14 p15 p16 p17 p18 p19 p20 p21 p22 p23 p24 p25 p26 p27 p28 p29 p30 p31 p32 p33 p34 p35 p36 p37 p38 p39 p40:Pos}{q1 q2 q3 q4 q5 q6 q7:Pos}{j1 j2 j3 j4 j5:Nat}{E0:XK}{wd:Addr->Option Str}
end
structure nY(d:Nat)(e tg iter:Expr)(ifs:List Expr)(body:Env->Addr->Sem Unit):Prop where
 under:∀(A:zA8) (it:Value) (D:Addr) (env:Env),A.under (.compLoop e d it (.ref D) env)=A
 den:∀(prog:zAS) (w:World) (it:Value) (D:Addr) (env:Env),(model prog w).den (.compLoop e d it (.ref D) env)=(zGa e d it (.ref D) env).onRaise (λ x=>do noteFrame x env;theTreesLotGoes x)
 turn:∀(it:Value) (D:Addr) (env:Env),zGa e d it (.ref D) env=(do
   zEl iter.pos
   match <-pyNext it with
   |none=>pure (.done .next)
   |some v=>
    zCm tg it v
    zFL tg env v
    let mut ok:=true
    for c in ifs do if ok then ok <-isTrue c env (eval c env)
    if ok then
     body env D
    again (.compLoop e d it (.ref D) env))
section
variable{s:zAB}{A:zA8}{prog:zAS}{w:World}{R:zFJ->zAB->Prop}
def mX{D:Addr}(hb:nY d e tg iter ifs body)(I:Nat->zAB->Prop)
  (one:∀n s,I n s->wpAny (model prog w) A (pyNext it) (λ r zS=>match r with
   |none=>R (.ok .next) zS
   |some v=>wpAny (model prog w) A (zCm tg it v) (λ _ zS=>wpAny (model prog w) A (zFL tg env v) (λ _ z4=>
     wpAny (model prog w) A (forIn ifs true λ c r=>if r=true then do let ok <-isTrue c env (eval c env);pure (zBL ok)else pure (zBL r)) (λ ok zD=>if ok=true then wpAny (model prog w) A (body env D) (λ _ s₅=>∃m,m<n/\I m s₅) (λ _ _=>False) zD
      else∃m,m<n/\I m zD) (λ _ _=>False) z4) (λ _ _=>False) zS) (λ _ _=>False) zS) (λ _ _=>False) s)
  (n:Nat)(h:I n s):zCH (model prog w) A (.compLoop e d it (.ref D) env) R s:=by
 refine codeAny_loop rfl I (λ n s hJ=>?_) n h;rw[hb.under,hb.den];refine wpAny_noted ?_;rw[hb.turn];refine zAG (zDf (zAG (zBE (one n s hJ) (λ r zS zI=>?_) λ _ _ h'=>h'.elim)));cases r with
 |none=>exact zA7 zI
 |some v=>
  refine zAG (zBE zI (λ _ zS zI=>?_) λ _ _ h'=>h'.elim);refine zAG (zBE zI (λ _ z4 y4=>zAG (zBE y4 (λ ok zD yY=>?_) λ _ _ h'=>h'.elim)) λ _ _ h'=>h'.elim);cases ok with
  |false=>exact zA7 (zE6 rfl yY)
  |true=>exact zAG (zBE yY (λ _ y7 h₄=>zA7 ⟨rfl,h₄⟩) λ _ _ h'=>h'.elim)
end
def pC(d:Nat)(e:Expr):Prop:=∀{prog:zAS} {w:World} {A:zA8} {R:zFJ->zAB->Prop} {s:zAB} {it acc:Value} {env:Env},
  zCH (model prog w) A (.compLoop e d it acc env) R s->
  wpAny (model prog w) A (pyIter it) (λ it' s'=>zCH (model prog w) A (.compLoop e d it' acc env) R s') (notedBy (model prog w) A env λ x s'=>R (.error x) s') s->
  zCH (model prog w) A (.compStart e d it acc env) R s
structure aCR(prog:zAS)(w:World)(mk:Sem Value)(obs:Obj->Prop)(o:Addr->HO):Prop where
 make:∀{A:zA8} {Q:Value->zAB->Prop} {E:Value->zAB->Prop} {s:zAB},(∀ob,obs ob->Q (.ref s.heap.objs.size) {s with heap:=s.heap.push ob})->wpAny (model prog w) A mk Q E s
 live:∀ob,obs ob->ob.isFreed=false
 ok:∀{H:Hp} {h:Heap} {a:Addr} {ob:Obj},obs ob->h.get? a=some ob->zD3<a->cH prog w H h a (o a)
def PB(X:Cx)(body:Env->Addr->Sem Unit)(tb:Addr->St->Hp->(Hp->Prop)->Prop):Prop:=
 ∀(D:Addr) (pins:List (Addr×Obj)) (s:zAB) (Z:St) (H:Hp) (Q:Hp->Prop),Inv X pins Z H s->tb D Z H Q->wpAny (model X.prog X.w) X.A (body X.env D) (λ _ s'=>∃H',Inv X pins Z H' s'/\Q H') X.xe s
def aHP(I:Inv X pins Z H s):zD3<s.heap.objs.size:=
 Nat.lt_trans (by decide) (I.mod.glob.keeps I.bk).lt
def aGN(o:Addr->HO)(wi:TI)(st:St->St)(g:TG)(tt:TT)(tb:Addr->St->Hp->(Hp->Prop)->Prop):TE:=λ Z H Q=>wi Z H λ J H1=>∀l,H1 l=none->∃W:Nat->Nat->Hp->Prop,(∃m,W 0 m (upd H1 l (o l)))/\
 ∀i m H2,W i m H2->((J.stop i H2/\Q (.ref l) H2)\/(J.go i H2/\∀x H3,J.yld i H2 x H3->g x (st Z) H3 λ Z4 H4=>tt Z4 H4 λ ok H5=>
  if ok=true then tb l Z4 H5 λ H6=>∃m',m'<m/\W (i+1) m' H6 else∃m',m'<m/\W (i+1) m' H5))
section
variable{X:Cx}{e tg iter:Expr}{ifs:List Expr}{scope:Scope}{N:List Str}{st:St->St}{ks:List Nat}{wi:TI}{g:TG}{tt:TT}{body:Env->Addr->Sem Unit}{tb:Addr->St->Hp->(Hp->Prop)->Prop}{pos:Pos}{mk:Sem Value}{obs:Obj->Prop}{o:Addr->HO}
def aCD(B:dj X scope N st ks)(hc:X.calm=true)(hT:nY 0 e tg iter ifs body)(hS:pC 0 e)(hA:aCR X.prog X.w mk obs o)(hg:∀C fp z5 z0,PG (X.block scope C N fp z5 z0) tg g)(hgo:j6 g ks)(ht:∀C fp z5 z0,yE (X.block scope C N fp z5 z0) ifs tt)
  (he:∀C fp z5 z0,PB (X.block scope C N fp z5 z0) body tb){Q:VK}{RR:Value->Addr->zFJ->zAB->Prop}
  (I:Inv X pins Z H1 z4)(T:Turn X.prog X.w X.K tg J fp it tn)(h0:tn 0 z4.heap)(hfp:∀b∈fp,m7 X pins H1 b)
  (h:∀l,H1 l=none->∃W:Nat->Nat->Hp->Prop,(∃m,W 0 m (upd H1 l (o l)))/\
   ∀i m H2,W i m H2->((J.stop i H2/\Q (.ref l) H2)\/(J.go i H2/\∀x H3,J.yld i H2 x H3->g x (st Z) H3 λ Z4 H4=>tt Z4 H4 λ ok H5=>
    if ok=true then tb l Z4 H5 λ H6=>∃m',m'<m/\W (i+1) m' H6 else∃m',m'<m/\W (i+1) m' H5)))
  (hRR:∀D C H' s',(∃Z',Inv (X.block scope C N fp z4 H1) [] Z' H' s')->z4.heap.objs.size<=C->Q (.ref D) H'->RR (.ref D) C (.ok .next) s'):
  wpAny (model X.prog X.w) X.A mk (λ acc zD=>wpAny (model X.prog X.w) X.A (zEG scope X.env.globals (aY scope X.env) [] X.env.qual none .none (some X.env)) (λ cenv y7=>
   zCH (model X.prog X.w) X.A (.compStart e 0 (.ref it) acc {cenv with scope:=zEk scope X.env}) (RR acc cenv.locals) y7) E zD) E z4:=by
 refine hA.make λ ob hob=>ym λ zI y9 zC y8=>?_
 dsimp only at y9 zC y8 ⊢;generalize hH2:z4.heap.push ob=P2 at y9 zC y8 ⊢;have hC:P2.objs.size=z4.heap.objs.size+1:=by rw[<-hH2,zCS]
 have hDC:z4.heap.objs.size≠P2.objs.size:=by rw[hC];exact zAk (zDZ _)
 have hCle:z4.heap.objs.size<=P2.objs.size:=by rw[hC];exact zFe _
 have old:∀b o,z4.heap.get? b=some o->zI.get? b=some o:=λ b o e=>zC b o (hH2▸zAD _ e)
 have hacc:zI.get? z4.heap.objs.size=some ob:=zC _ _ (hH2▸zAh _ (hA.live ob hob));generalize hCe:P2.objs.size=C at y9 zC y8 hDC hCle hC ⊢;have hHD:H1 z4.heap.objs.size=none:=I.hok.fresh (zAP _);have I0:Inv (X.block scope C N fp z4 H1) [] (st Z) (upd H1 z4.heap.objs.size (o z4.heap.objs.size)) {z4 with heap:=zI,toks:=z4.toks}:=
  I.block B hfp (λ b hb=>by obtain⟨o,e,_⟩:=T.obj 0 _ h0 b hb;exact⟨o,e⟩) (zAP _) hCle hDC old y9 y8 (λ c hc=>zAk (zFs hCle hc)) (hA.ok hob hacc (aHP I))
 obtain⟨W,⟨m0,w0⟩,step⟩:=h _ hHD;have h01:tn 0 zI:=T.keep 0 _ _ h0 λ b _ o e=>old b o e
 have stat:∀{H':Hp},(∀b∈fp,H' b=none)->∀b∈fp,m7 (X.block scope C N fp z4 H1) [] H' b:=λ{H'} hn b hb=>
  ⟨hn b hb,(I0.ok.exf b hb).1,I0.ok.exfs b hb,.inl hb,λ x c e=>(I0.ok.exf b hb).2 x c e,λ p hp=>absurd (show p∈([]:List (Addr×Obj))from hp) (by simp)⟩
 have fr0:∀b∈fp,upd H1 z4.heap.objs.size (o z4.heap.objs.size) b=none:=λ b hb=>by
  obtain⟨o,e,_⟩:=T.obj 0 _ h0 b hb;rw[aQ (zAk (zAW e))];exact(hfp b hb).1
 have loop:∀sx:zAB,sx={z4 with heap:=zI,toks:=z4.toks}->
   zCH (model X.prog X.w) X.A (.compLoop e 0 (.ref it) (.ref z4.heap.objs.size) (X.block scope C N fp z4 H1).env) (RR (.ref z4.heap.objs.size) C) sx:=by
  rintro sx rfl;refine mX hT (λ n s'=>∃i H2,Inv (X.block scope C N fp z4 H1) [] (st Z) H2 s'/\tn i s'.heap/\(∀b∈fp,H2 b=none)/\W i n H2) ?_ m0 ⟨0,_,I0,h01,fr0,w0⟩;rintro n s3 ⟨i,H2,I2,st2,fr2,w2⟩;rcases step i n H2 w2 with ⟨stop,q⟩|⟨go,nxt⟩
  .refine thn (T.done (X.block scope C N fp z4 H1) rfl rfl rfl hc i [] s3 (st Z) H2 _ I2 (stat fr2) st2 stop) λ r s4 ⟨hr,I4⟩=>?_
   subst hr;exact hRR _ C H2 s4 ⟨_,I4⟩ hCle q
  .refine thn (T.item (X.block scope C N fp z4 H1) rfl rfl rfl hc i [] s3 (st Z) H2 _ I2 (stat fr2) st2 go) λ r s4 ⟨u,hr,h4⟩=>?_
   subst hr;refine thn h4 λ _ s5 ⟨x,H5,I5,r5,y5,st5,fr5⟩=>?_
   have I5p:=I5.pinned (stat fr5) (T.obj _ _ st5);refine thn (hg C fp z4 H1 _ s5 (st Z) H5 x u _ I5p r5 (hgo _ _ _ _ (nxt x H5 y5))) λ _ s6 ⟨Z6,H6,I6,q6,zp,ag6⟩=>?_
   refine thn (ht C fp z4 H1 _ s6 Z6 H6 _ I6 q6) λ ok s7 ⟨H7,I7,q7⟩=>?_
   have again:∀{H9:Hp} {s9:zAB},Inv (X.block scope C N fp z4 H1) ([]++lD fp s5.heap) Z6 H9 s9->(∃m',m'<n/\W (i+1) m' H9)->
     ∃m,m<n/\∃i H2,Inv (X.block scope C N fp z4 H1) [] (st Z) H2 s9/\tn i s9.heap/\(∀b∈fp,H2 b=none)/\W i m H2:=λ{H9 s9} I9 ⟨m',hm,w9⟩=>by
    have pin9:∀b∈fp,∀o,s5.heap.get? b=some o->s9.heap.get? b=some o/\H9 b=none:=λ b hb o e=>by
     have z:=I9.pin (b,o) (zA0 _ (zA0 _ (fM hb e)));exact⟨z.1,z.2.1⟩
    refine⟨m',hm,i+1,H9,I9.unpinned.weak (by rw[zp]) (λ k v e=>?_),T.keep _ _ _ st5 λ b hb o e=>(pin9 b hb o e).1,λ b hb=>?_,w9⟩
    .have hk:k<(st Z).length:=(zA4.mp e).1
     have hkN:k<N.length:=by rw[<-B.len Z];exact hk
     obtain⟨_,hks,_⟩:=B.val Z k _ v (zAL hkN) e;rw[ag6 k hks];exact e
    .obtain⟨o,e,_⟩:=T.obj _ _ st5 b hb
     exact(pin9 b hb o e).2
   cases ok with
   |false=>
    rw[if_neg zAI]at q7 ⊢;exact again I7 q7
   |true=>
    rw[if_pos rfl]at q7 ⊢;exact thn (he C fp z4 H1 _ _ s7 Z6 H7 _ I7 q7) λ _ s8 ⟨H8,I8,q8⟩=>again I8 q8
 exact hS (loop _ rfl) (T.self X.A 0 _ _ _ h01 (loop _ rfl))
def aG4(B:dj X scope N st ks)(hc:X.calm=true)(hi:PI X tg iter wi)(hg:∀C fp z5 z0,PG (X.block scope C N fp z5 z0) tg g)(hgo:j6 g ks)(ht:∀C fp z5 z0,yE (X.block scope C N fp z5 z0) ifs tt)
  (hT:nY 0 e tg iter ifs body)(hS:pC 0 e)(hA:aCR X.prog X.w mk obs o)(he:∀C fp z5 z0,PB (X.block scope C N fp z5 z0) body tb)(hcs:clausesOf e=⟨tg,iter,ifs,0⟩::gs)(hev:eval e X.env=comprehension e scope X.env (firstIterPos (⟨tg,iter,ifs,0⟩::gs) pos) mk false (eval iter X.env))(hs:∀x,zBT iter X.env x=pure x:=by intro _;rfl):PE X e (aGN o wi st g tt tb):=by
 intro pins s Z H Q I h;have hcl:zEh scope X.env=pure (aY scope X.env):=gj λ y hy hk=>I.ok.has _ (B.free y hy hk)
 rw[hev];refine zFb (use:=none) hcs hs hcl B.kind B.loc (thn (hi pins s Z H _ I h) λ v s1 h1=>thn h1 λ itv s2 h2=>?_);obtain⟨it,fp,tn,J,H2,e,I2,T,st2,f2,hq⟩:=h2;subst e;refine aCD (RR:=λ acc C=>compPost (model X.prog X.w) X.A X.xe none (EP X pins Z Q) acc C) B hc hT hS hA hg hgo ht he I2 T st2 f2 hq ?_;intro D C H' s' hJ hCle q;have I3:=zK I2 f2 hJ;obtain⟨Z',J'⟩:=hJ;obtain⟨m,hn,_⟩:=id J'.loc;have hHC:H' C=none:=J'.free;refine⟨m,hn,λ h'' hs''=>⟨.ref D,H',?_,rfl,q⟩⟩;exact I3.turned (t':=s'.toks) (λ b o ne e=>(hs''.2 b ne).trans e) hHC (zER (zAQ I2.lt hCle)) (.inr (zAr I2.sz hCle))
  (λ x c e z=>by obtain⟨v,ic⟩:=I2.cell x c e;exact absurd (zAQ ic.lt (by rw[z];exact hCle)) (zBg _))
  (λ p hp z=>absurd (zAQ (I2.pinL hp) (by rw[z];exact hCle)) (zBg _))
end
def uX(elt:Expr)(env:Env)(D:Addr):Sem Unit:=do let _ <-call (.builtin "list.append") [.ref D,<-eval elt env]
def aDn(te:TE):Addr->St->Hp->(Hp->Prop)->Prop:=λ D Z H Q=>te Z H λ y H1=>∃acc,H1 D=some (.lst acc)/\acc.length<zAN/\Q (upd H1 D (.lst (acc++[y])))
def aFC(he:PE X elt te):PB X (uX elt) (aDn te):=by
 intro D pins s Z H Q I h;unfold uX;refine zAG (thn (he pins s Z H _ I h) λ u s1 ⟨y,H1,I1,r1,acc,hD,hz,q⟩=>zAG ?_);refine thn (sE _ s1 Z H1 (.ref D) [y] (.ref D) [u] (λ _ H9=>H9=upd H1 D (.lst (acc++[y]))) I1 rfl (.cons r1 .nil) ⟨_,acc,y,rfl,rfl,hD,hz,rfl⟩) λ _ s2 ⟨_,H2,I2,_,e⟩=>?_
 subst e;exact zA7 ⟨_,I2,q⟩
def aDe:aCR prog w (zGV []) (λ ob=>ob={cls:=.type "list",data:=.seq #[]}) (λ _=>.lst []) where
 make:=λ h=>zCY (h _ rfl)
 live:=by rintro ob rfl;rfl
 ok:=by
  rintro H h a ob rfl hg hb;exact⟨zAn _,[],_,.nil,hg⟩
def mF(e iter2:Expr)(env:Env)(D:Addr):Sem Unit:=do
 let x <-eval iter2 env
 zEl iter2.pos
 let x <-zBT iter2 env x;let _ <-runOwn (.compStart e 1 (<-zEi [x] (pyIter x)) (.ref D) env) env
def aAY(elt tg iter tg2 iter2:Expr)(ifs ifs2:List Expr)(scope:Scope)(pos:Pos):nY 0 (.ListComp elt [⟨tg,iter,ifs,0⟩,⟨tg2,iter2,ifs2,0⟩] scope pos) tg iter ifs (mF (.ListComp elt [⟨tg,iter,ifs,0⟩,⟨tg2,iter2,ifs2,0⟩] scope pos) iter2):=
 ⟨λ _ _ _ _=>rfl,λ _ _ _ _ _=>rfl,λ _ _ _=>by unfold mF zGa;simp only[bind_assoc];rfl⟩
def aAX(elt tg iter tg2 iter2:Expr)(ifs ifs2:List Expr)(scope:Scope)(pos:Pos):nY 1 (.ListComp elt [⟨tg,iter,ifs,0⟩,⟨tg2,iter2,ifs2,0⟩] scope pos) tg2 iter2 ifs2 (uX elt):=
 ⟨λ _ _ _ _=>rfl,λ _ _ _ _ _=>rfl,λ _ _ _=>rfl⟩
def vI(hcl:(clausesOf e)[d]? =some ⟨tg,iter,ifs,0⟩)(hu:∀(A:zA8) (it acc:Value) (env:Env),A.under (.compStart e d it acc env)=A)
  (hd:∀(prog:zAS) (w:World) (it acc:Value) (env:Env),(model prog w).den (.compStart e d it acc env)=(compStart e d it acc env).onRaise (λ x=>do noteFrame x env;zEl theWindowsPlace)):pC d e:=by
 intro prog w A R s it acc env h0 h;refine codeAny_of_tree ?_;rw[hu,hd];refine wpAny_notedAt ?_;unfold compStart;rw[hcl];show wpAny _ A (ask>>=_) _ _ s;refine zAG (wpAny_askSetting (wpAny_ite ?_));split
 .first|exact zAG (zA7 (zA7 (zE6 rfl h0)))|exact zA7 (zE6 rfl h0)
 .first
   |exact zAG (zCz (zAG (zDf (zAG (zBE h (λ it2 s2 h2=>zA7 (zE6 rfl h2)) λ _ _ x=>x)))))
   |(refine zAG (zCz ?_);(show wpAny _ _ (zEl iter.pos>>=_) _ _ s);exact zAG (zDf (zAG (zBE h (λ it2 s2 h2=>zA7 (zE6 rfl h2)) λ _ _ x=>x))))
def aA3(ks:List Nat)(wi:TI)(g:TG)(tt:TT)(tb:Addr->St->Hp->(Hp->Prop)->Prop):Addr->St->Hp->(Hp->Prop)->Prop:=λ D Z H Q=>(∀k∈ks,∀v,Z[k]?≠some (some v))/\wi Z H λ J H1=>∃W:Nat->Nat->Hp->Prop,(∃m,W 0 m H1)/\
 ∀i m H2,W i m H2->((J.stop i H2/\Q H2)\/(J.go i H2/\∀x H3,J.yld i H2 x H3->g x Z H3 λ Z4 H4=>tt Z4 H4 λ ok H5=>
  if ok=true then tb D Z4 H5 λ H6=>∃m',m'<m/\W (i+1) m' H6 else∃m',m'<m/\W (i+1) m' H5))
def aCy(hc:X.calm=true)(hx:∀v s,X.xe v s->False)(hT:nY 1 e tg iter ifs body)(hS:pC 1 e)
  (hi:PI X tg iter wi)(hg:PG X tg g)(hgo:j6 g ks)(ht:yE X ifs tt)(he:PB X body tb)(hs:∀x,zBT iter X.env x=pure x:=by intro _;rfl):PB X (mF e iter) (aA3 ks wi g tt tb):=by
 have nf:∀{α:Type} {m:Sem α} {Q:α->zAB->Prop} {s:zAB},wpAny (model X.prog X.w) X.A m Q X.xe s->wpAny (model X.prog X.w) X.A m Q (λ _ _=>False) s:=λ h=>zBE h (λ _ _ q=>q) hx
 intro D pins s Z H Q I h;obtain⟨hno,h⟩:=h;unfold mF;refine zAG (thn (hi pins s Z H _ I h) λ v s1 h1=>zAG (zDf (zAG (wpAny_of_eq (hs v) (zAG (zDe (thn h1 λ itv s2 h2=>zAG ?_)))))));obtain⟨it,fp,tn,J,H1,e1,I1,T,st1,f1,W,⟨m0,w0⟩,step⟩:=h2;subst e1;have stat:∀{H':Hp},(∀b∈fp,H' b=none)->∀b∈fp,m7 X pins H' b:=λ{H'} hn b hb=>⟨hn b hb,(f1 b hb).2⟩
 have loop:zCH (model X.prog X.w) X.A (.compLoop e 1 (.ref it) (.ref D) X.env) (λ r s'=>match r with| .ok _=>(∃H',Inv X pins Z H' s'/\Q H')| .error _=>False) s2:=by
  refine mX hT (λ n s'=>∃i H2,Inv X pins Z H2 s'/\tn i s'.heap/\(∀b∈fp,H2 b=none)/\W i n H2) ?_ m0 ⟨0,H1,I1,st1,λ b hb=>(f1 b hb).1,w0⟩;rintro n s3 ⟨i,H2,I2,st2,fr2,w2⟩;rcases step i n H2 w2 with ⟨stop,q⟩|⟨go,nxt⟩
  .refine thn (T.done X rfl rfl rfl hc i pins s3 Z H2 _ I2 (stat fr2) st2 stop) λ r s4 ⟨hr,I4⟩=>?_
   subst hr;exact⟨H2,I4,q⟩
  .refine thn (T.item X rfl rfl rfl hc i pins s3 Z H2 _ I2 (stat fr2) st2 go) λ r s4 ⟨u,hr,h4⟩=>?_
   subst hr;refine thn h4 λ _ s5 ⟨x,H5,I5,r5,y5,st5,fr5⟩=>?_
   have I5p:=I5.pinned (stat fr5) (T.obj _ _ st5);refine thn (nf (hg _ s5 Z H5 x u _ I5p r5 (hgo _ _ _ _ (nxt x H5 y5)))) λ _ s6 ⟨Z6,H6,I6,q6,zp,ag6⟩=>?_
   refine thn (nf (ht _ s6 Z6 H6 _ I6 q6)) λ ok s7 ⟨H7,I7,q7⟩=>?_
   have again:∀{H9:Hp} {s9:zAB},Inv X (pins++lD fp s5.heap) Z6 H9 s9->(∃m',m'<n/\W (i+1) m' H9)->∃m,m<n/\∃i H2,Inv X pins Z H2 s9/\tn i s9.heap/\(∀b∈fp,H2 b=none)/\W i m H2:=λ{H9 s9} I9 ⟨m',hm,w9⟩=>by
    have pin9:∀b∈fp,∀o,s5.heap.get? b=some o->s9.heap.get? b=some o/\H9 b=none:=λ b hb o e=>by
     have z:=I9.pin (b,o) (zA0 _ (zA0 _ (fM hb e)));exact⟨z.1,z.2.1⟩
    refine⟨m',hm,i+1,H9,I9.unpinned.weak (by rw[zp]) (λ k v e=>?_),T.keep _ _ _ st5 λ b hb o e=>(pin9 b hb o e).1,λ b hb=>?_,w9⟩
    .by_cases hk:k∈ks
     .exact absurd e (hno k hk v)
     .rw[ag6 k hk];exact e
    .obtain⟨o,e,_⟩:=T.obj _ _ st5 b hb
     exact(pin9 b hb o e).2
   cases ok with
   |false=>
    rw[if_neg zAI]at q7 ⊢;exact again I7 q7
   |true=>
    rw[if_pos rfl]at q7 ⊢;exact thn (nf (he D _ s7 Z6 H7 _ I7 q7)) λ _ s8 ⟨H8,I8,q8⟩=>again I8 q8
 refine wpAny_runOwn (h:=none) (zDu (hS loop (T.self X.A 0 _ _ _ st1 loop)) λ r s' hr=>?_);cases r with
 |ok f=>exact zA7 hr
 |error x=>exact hr.elim
end L2
namespace VL
open PySem PySem.Spec PyProof.Rows L2
inductive D where
 |non|bl (b:Bool)|int (i:Int)|str (x:Str)|tup (l:List D)|lst (l:List D)|dct (ks vs:List D)|set (l:List Int)|scr (l:List Int)|fn (x:Str)
instance:Inhabited D:=⟨.non⟩
def kD:Key->D
 | .inl i=>.int i
 | .inr x=>.str x
variable{K:zAA}
def kO(K:zAA)(H:Hp)(a:Addr)(ns:List Int):Prop:=(∃o,H a=some (.frz o (.lst (ns.map V.int))))\/
 ∃(o:Obj) (its:Array Value) (n:Nat),K.lookup a=some o/\o.cls= .type "list"/\o.dict=none/\o.data= .seq its n/\its.size<=zAN/\Vals (ns.map V.int) its.toList
def kO.sq(h:kO K H a ns):SqL K H a (ns.map V.int):=by
 rcases h with h|h
 .exact .inl (.inr h)
 .exact .inr h
def hsh(ns:List Int):Int:=reduceHash (zGf (ns.map hashInt))
def dxO(a:Addr)(es:List (List Int×Addr×V)):HO:=.ext λ h=>es.length<=zAN/\(a==zD3)=false/\∃(xs:List (List Int×Addr×Value)) (o:Obj) (ts:Array zFF) (ep:Nat),zEW (λ e x=>e.1=x.1/\e.2.1=x.2.1/\RelV e.2.2 x.2.2) es xs/\
 h.get? a=some o/\o.ExactDict/\o.data= .dict ts ep/\ts.toList=xs.map λ x=>⟨hsh x.1,.ref x.2.1,x.2.2⟩
structure DxK(K:zAA)(H:Hp)(a:Addr)(es:List (List Int×Addr×V)):Prop where
 at_:H a=some (dxO a es)
 ks:∀e∈es,SqT K H e.2.1 (e.1.map V.int)
 nd:(es.map (·.1)).Nodup
mutual
inductive Rp(K:zAA):(Addr->Prop)->Hp->V->D->Prop where
 |non {A:Addr->Prop} {H:Hp}:Rp K A H .non .non
 |bl {A:Addr->Prop} {H:Hp} (b:Bool):Rp K A H (.bl b) (.bl b)
 |int {A:Addr->Prop} {H:Hp} (i:Int):Rp K A H (.int i) (.int i)
 |str {A:Addr->Prop} {H:Hp} (x:Str):Rp K A H (.str x) (.str x)
 |tup {A:Addr->Prop} {H:Hp} {a:Addr} {xs:List V} {ds:List D} (h:SqT K H a xs) (r:Rps K A H xs ds):Rp K A H (.ref a) (.tup ds)
 |lst {A:Addr->Prop} {H:Hp} {a:Addr} {xs:List V} {ds:List D} (h:H a=some (.lst xs)) (m:A a) (r:Rps K (λ p=>A p/\p≠a) H xs ds):Rp K A H (.ref a) (.lst ds)
 |dK {A:Addr->Prop} {H:Hp} {a:Addr} {kvs:List (Key×V)} {ds:List D} (h:H a=some (.dK kvs)) (m:A a) (r:Rps K (λ p=>A p/\p≠a) H (kvs.map (·.2)) ds):Rp K A H (.ref a) (.dct (kvs.map λ p=>kD p.1) ds)
 |dT {A:Addr->Prop} {H:Hp} {a:Addr} {es:List (List Int×Addr×V)} {ds:List D} (h:DxK K H a es) (m:A a) (r:Rps K (λ p=>A p/\p≠a) H (es.map (·.2.2)) ds):Rp K A H (.ref a) (.dct (.non::es.map λ e=>.tup (e.1.map .int)) ds)
 |set {A:Addr->Prop} {H:Hp} {a:Addr} {S:Int->Bool} {l:List Int} (h:H a=some (.set S l.length)) (m:A a) (hS:∀i,S i=decide (i∈l)) (nd:l.Nodup):Rp K A H (.ref a) (.set l)
 |scr {A:Addr->Prop} {H:Hp} {a:Addr} {ns:List Int} (h:kO K H a ns):Rp K A H (.ref a) (.scr ns)
 |fn {A:Addr->Prop} {H:Hp} {a:Addr} {x:Str} (h:zAd K zAX x=some (some (.ref a))):Rp K A H (.ref a) (.fn x)
inductive Rps(K:zAA):(Addr->Prop)->Hp->List V->List D->Prop where
 |nil {A:Addr->Prop} {H:Hp}:Rps K A H [] []
 |cons {A:Addr->Prop} {H:Hp} {x:V} {d:D} {xs:List V} {ds:List D} (h:Rp K A H x d) (r:Rps K A H xs ds):Rps K A H (x::xs) (d::ds)
end
def kO.mono(s:aM H H')(h:kO K H a ns):kO K H' a ns:=by
 rcases h with ⟨o,h⟩|h
 .exact .inl ⟨o,s _ _ h⟩
 .exact .inr h
def DxK.mono(h:DxK K H a es)(s:aM H H'):DxK K H' a es:=⟨s _ _ h.at_,λ e he=>s.sqt (h.ks e he),h.nd⟩
def Rp.mono'(s:aM H H')(r:Rp K A H x d)(hA:∀p o,H p=some o->A p->A' p):Rp K A' H' x d:=
 Rp.rec (motive_1:=λ A H x d _=>∀H',aM H H'->∀A':Addr->Prop,(∀p o,H p=some o->A p->A' p)->Rp K A' H' x d) (motive_2:=λ A H xs ds _=>∀H',aM H H'->∀A':Addr->Prop,(∀p o,H p=some o->A p->A' p)->Rps K A' H' xs ds)
  (λ _ _ _ _=>.non) (λ b _ _ _ _=>.bl b) (λ i _ _ _ _=>.int i) (λ x _ _ _ _=>.str x) (λ h _ ih _ s _ hA=>.tup (s.sqt h) (ih _ s _ hA))
  (λ h m _ ih _ s _ hA=>.lst (s _ _ h) (hA _ _ h m) (ih _ s _ λ p o e z=>⟨hA p o e z.1,z.2⟩)) (λ h m _ ih _ s _ hA=>.dK (s _ _ h) (hA _ _ h m) (ih _ s _ λ p o e z=>⟨hA p o e z.1,z.2⟩))
  (λ h m _ ih _ s _ hA=>.dT (h.mono s) (hA _ _ h.at_ m) (ih _ s _ λ p o e z=>⟨hA p o e z.1,z.2⟩)) (λ h m hS nd _ s _ hA=>.set (s _ _ h) (hA _ _ h m) hS nd) (λ h _ s _ _=>.scr (h.mono s)) (λ h _ _ _ _=>.fn h) (λ _ _ _ _=>.nil) (λ _ _ ih ir _ s _ hA=>.cons (ih _ s _ hA) (ir _ s _ hA)) r H' s A' hA
def Rps.mono'(s:aM H H')(r:Rps K A H xs ds)(hA:∀p o,H p=some o->A p->A' p):Rps K A' H' xs ds:=
 Rps.rec (motive_1:=λ A H x d _=>∀H',aM H H'->∀A':Addr->Prop,(∀p o,H p=some o->A p->A' p)->Rp K A' H' x d) (motive_2:=λ A H xs ds _=>∀H',aM H H'->∀A':Addr->Prop,(∀p o,H p=some o->A p->A' p)->Rps K A' H' xs ds)
  (λ _ _ _ _=>.non) (λ b _ _ _ _=>.bl b) (λ i _ _ _ _=>.int i) (λ x _ _ _ _=>.str x) (λ h _ ih _ s _ hA=>.tup (s.sqt h) (ih _ s _ hA))
  (λ h m _ ih _ s _ hA=>.lst (s _ _ h) (hA _ _ h m) (ih _ s _ λ p o e z=>⟨hA p o e z.1,z.2⟩)) (λ h m _ ih _ s _ hA=>.dK (s _ _ h) (hA _ _ h m) (ih _ s _ λ p o e z=>⟨hA p o e z.1,z.2⟩))
  (λ h m _ ih _ s _ hA=>.dT (h.mono s) (hA _ _ h.at_ m) (ih _ s _ λ p o e z=>⟨hA p o e z.1,z.2⟩)) (λ h m hS nd _ s _ hA=>.set (s _ _ h) (hA _ _ h m) hS nd) (λ h _ s _ _=>.scr (h.mono s)) (λ h _ _ _ _=>.fn h) (λ _ _ _ _=>.nil) (λ _ _ ih ir _ s _ hA=>.cons (ih _ s _ hA) (ir _ s _ hA)) r H' s A' hA
def Rp.mono(s:aM H H')(hA:∀p o,H p=some o->A p->A' p)(r:Rp K A H x d):Rp K A' H' x d:=r.mono' s hA
def Rps.mono(s:aM H H')(hA:∀p o,H p=some o->A p->A' p)(r:Rps K A H x d):Rps K A' H' x d:=r.mono' s hA
def Rp.up(s:aM H H')(r:Rp K A H x d):Rp K A H' x d:=r.mono s λ _ _ _ h=>h
def Rp.wk(hA:∀p o,H p=some o->A p->A' p)(r:Rp K A H x d):Rp K A' H x d:=r.mono (aM.refl H) hA
def Rps.up(s:aM H H')(r:Rps K A H x d):Rps K A H' x d:=r.mono s λ _ _ _ h=>h
def Rps.wk(hA:∀p o,H p=some o->A p->A' p)(r:Rps K A H x d):Rps K A' H x d:=r.mono (aM.refl H) hA
def fP:HO->Bool
 | .lst _=>true| .dK _=>true| .dT _=>true| .set _ _=>true| .ext _=>true|_=>false
def tX(s:jC l H H')(hl:H l=some o)(ho:fP o=true)(h:SqT K H a xs):SqT K H' a xs:=by
 rcases h with (h|⟨u,h⟩)|h
 .refine .inl (.inl (s _ _ (λ e=>?_) h))
  subst e;rw[hl]at h;cases h;cases ho
 .refine .inl (.inr ⟨u,s _ _ (λ e=>?_) h⟩)
  subst e;rw[hl]at h;cases h;cases ho
 .exact .inr h
def yU(s:jC l H H')(hl:H l=some o)(ho:fP o=true)(h:kO K H a ns):kO K H' a ns:=by
 rcases h with ⟨u,h⟩|h
 .exact .inl ⟨u,s _ _ (λ e=>by subst e;rw[hl]at h;cases h;cases ho) h⟩
 .exact .inr h
def DxK.but(h:DxK K H a es)(s:jC l H H')(hl:H l=some o)(ho:fP o=true)(ne:a≠l):DxK K H' a es:=
 ⟨s _ _ ne h.at_,λ e he=>tX s hl ho (h.ks e he),h.nd⟩
def Rp.but'(s:jC l H H')(hl:H l=some o)(ho:fP o=true)(r:Rp K A H x d)(hA:¬A l):Rp K A H' x d:=
 Rp.rec (motive_1:=λ A H x d _=>∀H',jC l H H'->∀o:HO,H l=some o->fP o=true->¬A l->Rp K A H' x d) (motive_2:=λ A H xs ds _=>∀H',jC l H H'->∀o:HO,H l=some o->fP o=true->¬A l->Rps K A H' xs ds)
  (λ _ _ _ _ _ _=>.non) (λ b _ _ _ _ _ _=>.bl b) (λ i _ _ _ _ _ _=>.int i) (λ x _ _ _ _ _ _=>.str x) (λ h _ ih _ s o hl ho hA=>.tup (tX s hl ho h) (ih _ s o hl ho hA))
  (λ h m _ ih _ s o hl ho hA=>.lst (s _ _ (λ e=>hA (e▸m)) h) m (ih _ s o hl ho λ z=>hA z.1)) (λ h m _ ih _ s o hl ho hA=>.dK (s _ _ (λ e=>hA (e▸m)) h) m (ih _ s o hl ho λ z=>hA z.1))
  (λ h m _ ih _ s o hl ho hA=>.dT (h.but s hl ho λ e=>hA (e▸m)) m (ih _ s o hl ho λ z=>hA z.1)) (λ h m hS nd _ s o hl ho hA=>.set (s _ _ (λ e=>hA (e▸m)) h) m hS nd) (λ h _ s o hl ho _=>.scr (yU s hl ho h)) (λ h _ _ _ _ _ _=>.fn h) (λ _ _ _ _ _ _=>.nil) (λ _ _ ih ir _ s o hl ho hA=>.cons (ih _ s o hl ho hA) (ir _ s o hl ho hA)) r H' s o hl ho hA
def Rps.but'(s:jC l H H')(hl:H l=some o)(ho:fP o=true)(r:Rps K A H xs ds)(hA:¬A l):Rps K A H' xs ds:=
 Rps.rec (motive_1:=λ A H x d _=>∀H',jC l H H'->∀o:HO,H l=some o->fP o=true->¬A l->Rp K A H' x d) (motive_2:=λ A H xs ds _=>∀H',jC l H H'->∀o:HO,H l=some o->fP o=true->¬A l->Rps K A H' xs ds)
  (λ _ _ _ _ _ _=>.non) (λ b _ _ _ _ _ _=>.bl b) (λ i _ _ _ _ _ _=>.int i) (λ x _ _ _ _ _ _=>.str x) (λ h _ ih _ s o hl ho hA=>.tup (tX s hl ho h) (ih _ s o hl ho hA))
  (λ h m _ ih _ s o hl ho hA=>.lst (s _ _ (λ e=>hA (e▸m)) h) m (ih _ s o hl ho λ z=>hA z.1)) (λ h m _ ih _ s o hl ho hA=>.dK (s _ _ (λ e=>hA (e▸m)) h) m (ih _ s o hl ho λ z=>hA z.1))
  (λ h m _ ih _ s o hl ho hA=>.dT (h.but s hl ho λ e=>hA (e▸m)) m (ih _ s o hl ho λ z=>hA z.1)) (λ h m hS nd _ s o hl ho hA=>.set (s _ _ (λ e=>hA (e▸m)) h) m hS nd) (λ h _ s o hl ho _=>.scr (yU s hl ho h)) (λ h _ _ _ _ _ _=>.fn h) (λ _ _ _ _ _ _=>.nil) (λ _ _ ih ir _ s o hl ho hA=>.cons (ih _ s o hl ho hA) (ir _ s o hl ho hA)) r H' s o hl ho hA
def Rp.but(s:jC l H H')(hl:H l=some o)(ho:fP o=true)(hA:¬A l)(r:Rp K A H x d):Rp K A H' x d:=r.but' s hl ho hA
def Rps.but(s:jC l H H')(hl:H l=some o)(ho:fP o=true)(hA:¬A l)(r:Rps K A H x d):Rps K A H' x d:=r.but' s hl ho hA
mutual
def imm:D->Bool
 | .tup l=>gZ l
 | .lst _=>false
 | .dct _ _=>false
 | .set _=>false
 |_=>true
def gZ:List D->Bool
 |[]=>true
 |d::r=>imm d&&gZ r
end
def jg(e:gZ (d::r)=true):imm d=true/\gZ r=true:=by
 simp only[gZ,zAO]at e;exact e
def yw(e:imm (.tup l)=true):gZ l=true:=by simpa[imm]using e
def yz(e:imm (.lst l)=true):False:=by simp[imm]at e
def ou(e:imm (.dct l k)=true):False:=by simp[imm]at e
def yx(e:imm (.set l)=true):False:=by simp[imm]at e
def Rp.imm'(r:Rp K A H x d)(e:VL.imm d=true):Rp K A' H x d:=
 Rp.rec (motive_1:=λ _ H x d _=>VL.imm d=true->Rp K A' H x d) (motive_2:=λ _ H xs ds _=>gZ ds=true->Rps K A' H xs ds)
  (λ _=>.non) (λ b _=>.bl b) (λ i _=>.int i) (λ x _=>.str x) (λ h _ ih e=>.tup h (ih (yw e)))
  (λ _ _ _ _ e=>(yz e).elim) (λ _ _ _ _ e=>(ou e).elim) (λ _ _ _ _ e=>(ou e).elim) (λ _ _ _ _ e=>(yx e).elim) (λ h _=>.scr h) (λ h _=>.fn h) (λ _=>.nil) (λ _ _ ih ir e=>.cons (ih (jg e).1) (ir (jg e).2)) r e
def Rps.imm'(r:Rps K A H xs ds)(e:gZ ds=true):Rps K A' H xs ds:=
 Rps.rec (motive_1:=λ _ H x d _=>VL.imm d=true->Rp K A' H x d) (motive_2:=λ _ H xs ds _=>gZ ds=true->Rps K A' H xs ds)
  (λ _=>.non) (λ b _=>.bl b) (λ i _=>.int i) (λ x _=>.str x) (λ h _ ih e=>.tup h (ih (yw e)))
  (λ _ _ _ _ e=>(yz e).elim) (λ _ _ _ _ e=>(ou e).elim) (λ _ _ _ _ e=>(ou e).elim) (λ _ _ _ _ e=>(yx e).elim) (λ h _=>.scr h) (λ h _=>.fn h) (λ _=>.nil) (λ _ _ ih ir e=>.cons (ih (jg e).1) (ir (jg e).2)) r e
theorem Rp.imm(r:Rp K A H x d)(h:VL.imm d=true):Rp K A' H x d:=r.imm' h
def Rps.imm(r:Rps K A H x d)(h:gZ d=true):Rps K A' H x d:=r.imm' h
def Rp.int_inv(r:Rp K A H v (.int i)):v= .int i:=by cases r;rfl
def Rp.bl_inv(r:Rp K A H v (.bl b)):v= .bl b:=by cases r;rfl
def Rp.tup_inv(r:Rp K A H v (.tup ds)):∃a xs,v= .ref a/\SqT K H a xs/\Rps K A H xs ds:=by cases r with|tup h r=>exact⟨_,_,rfl,h,r⟩
def Rp.lst_inv(r:Rp K A H v (.lst ds)):∃a xs,v= .ref a/\H a=some (.lst xs)/\A a/\Rps K (λ p=>A p/\p≠a) H xs ds:=by cases r with|lst h m r=>exact⟨_,_,rfl,h,m,r⟩
def Rp.scr_inv(r:Rp K A H v (.scr ns)):∃a,v= .ref a/\kO K H a ns:=by cases r with|scr h=>exact⟨_,rfl,h⟩
def Rps.one_inv(r:Rps K A H vs [d]):∃v,vs=[v]/\Rp K A H v d:=by cases r with|cons h r=>cases r;exact⟨_,rfl,h⟩
section
variable{A:Addr->Prop}{H:Hp}
theorem Rps.length:∀{xs:List V} {ds:List D},Rps K A H xs ds->xs.length=ds.length:=by
 intro xs ds h;induction xs generalizing ds with
 |nil=>cases h;rfl
 |cons x xs ih=>cases h with|cons _ r=>exact congrArg (·+1) (ih r)
theorem Rps.get:∀{xs:List V} {ds:List D} {i:Nat} {x:V},Rps K A H xs ds->xs[i]? =some x->∃d,ds[i]? =some d/\Rp K A H x d
 |_,_,_,_,.nil,e=>by simp at e
 |_,_,0,_,.cons h _,e=>by simp at e;subst e;exact⟨_,rfl,h⟩
 |_,_,i+1,x,.cons _ r,e=>by
  obtain⟨d,h1,h2⟩:=Rps.get (i:=i) (x:=x) r (by simpa using e);exact⟨d,by simpa using h1,h2⟩
theorem Rps.getD:∀{xs:List V} {ds:List D} {i:Nat} {d:D},Rps K A H xs ds->ds[i]? =some d->∃x,xs[i]? =some x/\Rp K A H x d
 |_,_,_,_,.nil,e=>by simp at e
 |_,_,0,_,.cons h _,e=>by simp at e;subst e;exact⟨_,rfl,h⟩
 |_,_,i+1,d,.cons _ r,e=>by
  obtain⟨x,h1,h2⟩:=Rps.getD (i:=i) (d:=d) r (by simpa using e);exact⟨x,by simpa using h1,h2⟩
def Rps.append:∀{xs ys:List V} {ds es:List D},Rps K A H xs ds->Rps K A H ys es->Rps K A H (xs++ys) (ds++es):=by
 intro xs ys ds es h s;induction xs generalizing ds with
 |nil=>cases h;exact s
 |cons x xs ih=>cases h with|cons h r=>exact .cons h (ih r)
theorem Rps.take:∀{xs:List V} {ds:List D} (n:Nat),Rps K A H xs ds->Rps K A H (xs.take n) (ds.take n)
 |_,_,0,_=>.nil
 |_,_,_+1,.nil=>.nil
 |_,_,n+1,.cons h r=>.cons h (Rps.take n r)
theorem Rps.drop:∀{xs:List V} {ds:List D} (n:Nat),Rps K A H xs ds->Rps K A H (xs.drop n) (ds.drop n)
 |_,_,0,r=>r
 |_,_,_+1,.nil=>.nil
 |_,_,n+1,.cons _ r=>Rps.drop n r
theorem Rps.ints:∀{ns:List Int},Rps K A H (ns.map V.int) (ns.map D.int)
 |[]=>.nil
 |n::ns=>.cons (.int n) Rps.ints
theorem Rps.ints_of:∀{xs:List V} {ns:List Int},Rps K A H xs (ns.map D.int)->xs=ns.map V.int
 |_,[],.nil=>rfl
 |_,n::ns,.cons h r=>by
  cases h;rw[zAj,Rps.ints_of r]
end
def aJ(h:a=b):a=b:=h
inductive Rs(α:Type) where
 |ok (a:α)|ex (c:Str)|st
noncomputable def Rs.bd{α β:Type}:Rs α->(α->Rs β)->Rs β
 | .ok a,f=>f a
 | .ex c,_=>.ex c
 | .st,_=>.st
@[simp] def j0(a:α)(f:α->Rs β):(Rs.ok a).bd f=f a:=aJ rfl
def bV{r:Rs α}(h:r.bd f= .ok b):∃a,r= .ok a/\f a= .ok b:=by
 cases r with
 |ok a=>exact⟨a,rfl,h⟩
 |ex c=>cases h
 |st=>cases h
inductive Slot where
 |no|sh (d:D)|nw (d:D)|ow (d:D)|oz (d:D)|o2 (l:List (List D))
abbrev En:=List Slot
abbrev Lab:=Addr->Nat×Nat
abbrev Mode:=Option (List Nat)
def inM(m:Mode)(n:Nat):Prop:=match m with
 |none=>True
 |some L=>n∈L
def jn:Mode->Mode->Mode
 |some a,some b=>some (a++b)
 |_,_=>none
def aGh(h:inM a n):inM (jn a b) n:=by
 cases a with
 |none=>cases b<;>exact trivial
 |some L=>
  cases b with
  |none=>exact trivial
  |some M=>exact zAa _ h
def aGg(h:inM b n):inM (jn a b) n:=by
 cases a with
 |none=>cases b<;>exact trivial
 |some L=>
  cases b with
  |none=>exact trivial
  |some M=>exact zA0 _ h
def fpM(m:Mode)(lab:Lab)(H:Hp):Addr->Prop:=λ p=>H p=none\/inM m (lab p).1
def aEK(h:fpM a lab H p):fpM (jn a b) lab H p:=h.imp id aGh
def aEJ(h:fpM b lab H p):fpM (jn a b) lab H p:=h.imp id aGg
def qZ(s:aM H H')(h:fpM m lab H' p):fpM m lab H p:=h.imp (λ z=>s.free z) id
structure Gx where
 H0:Hp
 E:XK
 cl:Str->Addr
def aBR:D->Bool
 | .lst _=>true
 | .dct _ _=>true
 | .set _=>true
 |_=>false
def cR(K:zAA)(H:Hp)(lab:Lab)(i:Nat)(v:V):Slot->Prop
 | .no=>True
 | .sh d=>Rp K (λ p=>(lab p).1<=1) H v d
 | .nw d=>Rp K (λ p=>(lab p).1=1) H v d
 | .ow d=>Rp K (λ p=>(lab p).1=1\/(lab p).1=i+2) H v d/\(aBR d=true->∃a,v= .ref a/\(lab a).1=i+2)
 | .oz d=>∃a xs ds,v= .ref a/\d= .lst ds/\H a=some (.lst xs)/\(lab a).1=i+2/\Rps K (λ p=>(lab p).1<=1) H xs ds
 | .o2 l=>∃a xs,v= .ref a/\H a=some (.lst xs)/\lab a=(i+2,0)/\xs.length=l.length/\∀(j:Nat) x ds,xs[j]? =some x->l[j]? =some ds->Rp K (λ p=>lab p=(i+2,j+1)) H x (.lst ds)
structure RR(K:zAA)(G:Gx)(U:List (V×D))(ρ:En)(Z:L2.St)(H:Hp)(lab:Lab):Prop where
 len:Z.length=ρ.length
 sl:∀(i:Nat) (s:Slot),ρ[i]? =some s->s= .no\/∃v,Z[i]? =some (some v)/\cR K H lab i v s
 old:aM G.H0 H
 new:∀p,(lab p).1≠0->G.H0 p=none
 tm:∀q∈U,Rp K (λ p=>(lab p).1<=1) H q.1 q.2
theorem cR.up(s:aM H H')(h:cR K H lab i v x):cR K H' lab i v x:=by
 cases x with
 |no=>exact trivial
 |sh d=>exact Rp.up s h
 |nw d=>exact Rp.up s h
 |ow d=>exact⟨Rp.up s h.1,h.2⟩
 |oz d=>
  obtain⟨a,xs,ds,e1,e2,e3,e4,e5⟩:=h;exact⟨a,xs,ds,e1,e2,s _ _ e3,e4,e5.up s⟩
 |o2 l=>
  obtain⟨a,xs,e1,e2,e3,e4,e5⟩:=h;exact⟨a,xs,e1,s _ _ e2,e3,e4,λ j x ds f1 f2=>(e5 j x ds f1 f2).up s⟩
def aEf(r:Rp K A H (.ref a) d)(hm:aBR d=true):∃o,H a=some o/\fP o=true/\A a:=by
 cases r with
 |lst h m _=>exact⟨_,h,rfl,m⟩
 |dK h m _=>exact⟨_,h,rfl,m⟩
 |dT h m _=>exact⟨_,h.at_,rfl,m⟩
 |set h m _ _=>exact⟨_,h,rfl,m⟩
 |tup _ _=>cases hm
 |scr _=>cases hm
 |fn _=>cases hm
theorem cR.lab{lab lab':Lab}(hl:∀p o,H p=some o->lab' p=lab p)(h:cR K H lab i v x):cR K H lab' i v x:=by
 cases x with
 |no=>exact trivial
 |sh d=>exact Rp.wk (λ p o e q=>(hl p o e).symm▸q) h
 |nw d=>exact Rp.wk (λ p o e q=>(hl p o e).symm▸q) h
 |ow d=>
  obtain⟨h,t⟩:=h;refine⟨Rp.wk (λ p o e q=>(hl p o e).symm▸q) h,λ m=>?_⟩;obtain⟨a,rfl,ea⟩:=t m;obtain⟨o,ho,_⟩:=aEf h m;exact⟨a,rfl,(congrArg (·.1) (hl a o ho)).trans ea⟩
 |oz d=>
  obtain⟨a,xs,ds,e1,e2,e3,e4,e5⟩:=h;exact⟨a,xs,ds,e1,e2,e3,(congrArg (·.1) (hl _ _ e3)).trans e4,Rps.wk (λ p o e q=>(hl p o e).symm▸q) e5⟩
 |o2 l=>
  obtain⟨a,xs,e1,e2,e3,e4,e5⟩:=h;exact⟨a,xs,e1,e2,(hl _ _ e2).trans e3,e4,λ j x ds f1 f2=>Rp.wk (λ p o e q=>(hl p o e).symm▸q) (e5 j x ds f1 f2)⟩
section
variable{G:Gx}{U:List (V×D)}{ρ:En}{Z:L2.St}{H H':Hp}{lab lab':Lab}
theorem RR.up(R:RR K G U ρ Z H lab)(s:aM H H'):RR K G U ρ Z H' lab:=
 ⟨R.len,λ i x e=>(R.sl i x e).imp id λ⟨v,e1,e2⟩=>⟨v,e1,e2.up s⟩,R.old.trans s,R.new,λ q hq=>(R.tm q hq).up s⟩
def RR.relab(R:RR K G U ρ Z H lab)(hl:∀p o,H p=some o->lab' p=lab p)(hn:∀p,(lab' p).1≠0->G.H0 p=none):RR K G U ρ Z H lab':=
 ⟨R.len,λ i x e=>(R.sl i x e).imp id λ⟨v,e1,e2⟩=>⟨v,e1,e2.lab hl⟩,R.old,hn,λ q hq=>Rp.wk (λ p o e z=>by rw[hl p o e];exact z) (R.tm q hq)⟩
def RR.drop(R:RR K G (U'++U) ρ Z H lab):RR K G U ρ Z H lab:=⟨R.len,R.sl,R.old,R.new,λ z hz=>R.tm z (zA0 _ hz)⟩
def RR.put(R:RR K G U ρ Z H lab)(h:cR K H lab i v s):RR K G U (ρ.set i s) (Z.set i (some v)) H lab:=by
 refine⟨by rw[zBk,zBk,R.len],λ j x e=>?_,R.old,R.new,R.tm⟩;by_cases hj:i=j
 .subst hj
  have hi:i<ρ.length:=by
   have:=(zA4.mp e).1
   rwa [zBk]at this
  rw[zCD hi]at e;cases e;exact .inr ⟨v,by rw[zCD (by rw[R.len];exact hi)],h⟩
 .rw[zBc hj]at e
  rcases R.sl j x e with z|⟨u,e1,e2⟩
  .exact .inl z
  .exact .inr ⟨u,by rw[zBc hj];exact e1,e2⟩
def bf(H:Hp)(n:Nat)(lab:Lab):Lab:=λ p=>match H p with
 |none=>(n,0)
 |some _=>lab p
def bF(h:H p=some o):bf H n lab p=lab p:=by unfold bf;rw[h]
def qH(h:H p=none):bf H n lab p=(n,0):=by unfold bf;rw[h]
def RR.fresh{P:Nat->Prop}(h1:P 1)(hm:∀k,inM m k->P k)(R:RR K G U ρ Z H lab)(s:aM H H')(r:Rp K (fpM m lab H) H' v d):
  RR K G U ρ Z H' (bf H 1 lab)/\Rp K (λ p=>P (bf H 1 lab p).1) H' v d:=by
 refine⟨(R.relab (λ p o e=>bF e) λ p hp=>?_).up s,Rp.wk (λ p o e z=>?_) r⟩
 .cases e:H p with
  |none=>exact R.old.free e
  |some o=>rw[bF e]at hp;exact R.new p hp
 .rcases z with z|z
  .rw[qH z];exact h1
  .cases e:H p with
   |none=>rw[qH e];exact h1
   |some o=>rw[bF e];exact hm _ z
def RR.freshO(i:Nat)(hm:∀k,inM m k->k=1\/k=i+2)(R:RR K G U ρ Z H lab)(s:aM H H')(r:Rp K (fpM m lab H) H' v d)(ht:aBR d=true->∃a,v= .ref a/\H a=none):
  ∃lab',RR K G U ρ Z H' lab'/\cR K H' lab' i v (.ow d):=by
 obtain⟨R',r'⟩:=R.fresh (P:=λ k=>k=1\/k=i+2) (.inl rfl) hm s r;cases hd:aBR d with
 |false=>exact⟨_,R',r',λ z=>absurd z (by simp[hd])⟩
 |true=>
  obtain⟨a,rfl,ha⟩:=ht hd;refine⟨λ p=>if p=a then(i+2,0)else bf H 1 lab p,?_,Rp.wk (λ p o e z=>?_) r',λ _=>⟨a,rfl,by show(if a=a then((i+2,0):Nat×Nat)else bf H 1 lab a).1=i+2;rw[if_pos rfl]⟩⟩
  .refine(R.relab (lab':=λ p=>if p=a then(i+2,0)else bf H 1 lab p) (λ p o e=>?_) λ p hp=>?_).up s
   .rw[if_neg (λ z=>by subst z;rw[ha]at e;cases e),bF e]
   .by_cases z:p=a
    .subst z;exact R.old.free ha
    .rw[if_neg z]at hp;exact R'.new p hp
  .dsimp only
   by_cases q:p=a
   .rw[if_pos q];exact .inr rfl
   .rw[if_neg q];exact z
def RR.freshZ(i:Nat)(hm:∀k,inM m k->k<=1)(R:RR K G U ρ Z H lab)(s:aM H H')(r:Rp K (fpM m lab H) H' v (.lst ds))(ht:∃a,v= .ref a/\H a=none):
  ∃lab',RR K G U ρ Z H' lab'/\cR K H' lab' i v (.oz (.lst ds)):=by
 obtain⟨R',r'⟩:=R.fresh (P:=λ k=>k<=1) (zAP 1) hm s r;obtain⟨a,rfl,ha⟩:=ht;cases r' with
 |lst h mm rr=>
  rename_i xs;refine⟨λ p=>if p=a then(i+2,0)else bf H 1 lab p,?_,a,xs,ds,rfl,rfl,h,by dsimp only;rw[if_pos rfl],rr.wk λ p o e z=>?_⟩
  .refine(R.relab (lab':=λ p=>if p=a then(i+2,0)else bf H 1 lab p) (λ p o e=>?_) λ p hp=>?_).up s
   .rw[if_neg (λ z=>by subst z;rw[ha]at e;cases e),bF e]
   .by_cases z:p=a
    .subst z;exact R.old.free ha
    .rw[if_neg z]at hp;exact R'.new p hp
  .dsimp only
   rw[if_neg z.2];exact z.1
def aEF(h:cR K H lab i v (.oz d)):Rp K (λ p=>(lab p).1<=1\/(lab p).1=i+2) H v d:=by
 obtain⟨a,xs,ds,rfl,rfl,h1,h2,h3⟩:=h;exact .lst h1 (.inr h2) (h3.wk λ p o e z=>⟨.inl z,λ q=>by subst q;lia⟩)
end
structure Ct where
 ι:Type
 X:ι->Cx
 prog:zAS
 w:World
 K:zAA
 mg:Str->Option Value
 base:Heap
 k:Nat
 G:Gx
 cx:∀i,(X i).prog=prog/\(X i).w=w/\(X i).K=K/\(X i).mg=mg/\(X i).base=base
 calm:∀i,(X i).calm=true
 room:∀i,cX k (X i).A
 own:∀i,zGB (model (X i).prog (X i).w) (X i).A (X i).env (X i).xe
 pass:∀i,lK (CX1 (X i).prog (X i).w) (X i) G.E
 dOk:Bool
 dcx:dOk=true->∀i,cI (X i) G.E
def Ct.hK(C:Ct)(i:C.ι):(C.X i).K=C.K:=(C.cx i).2.2.1
def WR{α:Type}(G:Gx)(r:Rs α)(P:α->Prop):Prop:=match r with
 | .ok a=>P a
 | .ex c=>∀H',aM G.H0 H'->G.E (.ref (G.cl c)) none H'
 | .st=>False
theorem WR.bd(h:WR G (r.bd k) P):WR G r (λ a=>WR G (k a) P):=by
 cases r with
 |ok a=>exact h
 |ex c=>exact h
 |st=>exact h
def WR.imp(h:WR G r P)(f:∀a,r= .ok a->P a->P' a):WR G r P':=by
 cases r with
 |ok a=>exact f a rfl h
 |ex c=>exact h
 |st=>exact h
abbrev QE(K:zAA)(m:Mode)(lab:Lab)(H:Hp)(Q:VK):D->Prop:=λ d=>∀v H',aM H H'->Rp K (fpM m lab H) H' v d->Q v H'
abbrev QA(K:zAA)(m:Mode)(lab:Lab)(H:Hp)(Q:List V->Hp->Prop):List D->Prop:=λ ds=>∀vs H',aM H H'->Rps K (fpM m lab H) H' vs ds->Q vs H'
abbrev QT(H:Hp)(Q:Bool->Hp->Prop):Bool->Prop:=λ b=>∀H',aM H H'->Q b H'
def jA(K:zAA)(G:Gx)(m:Mode)(t:TE)(f:En->Rs D):Prop:=∀U Z H ρ lab (Q:VK),RR K G U ρ Z H lab->WR G (f ρ) (QE K m lab H Q)->t Z H Q
def aDf(K:zAA)(G:Gx)(m:Mode)(t:TA)(f:En->Rs (List D)):Prop:=∀U Z H ρ lab (Q:List V->Hp->Prop),RR K G U ρ Z H lab->WR G (f ρ) (QA K m lab H Q)->t Z H Q
def wH(K:zAA)(G:Gx)(t:TT)(f:En->Rs Bool):Prop:=∀U Z H ρ lab (Q:Bool->Hp->Prop),RR K G U ρ Z H lab->WR G (f ρ) (QT H Q)->t Z H Q
def SE(C:Ct)(m:Mode)(e:Expr)(f:En->Rs D):Prop:=∃t,(∀i,PE (C.X i) e t)/\jA C.K C.G m t f
def SA(C:Ct)(m:Mode)(es:List Expr)(f:En->Rs (List D)):Prop:=∃t,(∀i,PA (C.X i) es t)/\aDf C.K C.G m t f
def ST(C:Ct)(e:Expr)(f:En->Rs Bool):Prop:=∃t,(∀i,PT (C.X i) e t)/\wH C.K C.G t f
def SW(C:Ct)(e:Expr)(f:En->Rs Bool):Prop:=∃t,(∀i,PW (C.X i) e t)/\wH C.K C.G t f
def SW.st(h:SW C e f):ST C e f:=let⟨t,h1,h2⟩:=h;⟨t,λ i=>(h1 i).pt,h2⟩
def wL(i:Nat):En->Rs D:=λ ρ=>match ρ[i]? with
 |some (.sh d)=>.ok d
 |some (.nw d)=>.ok d
 |some (.ow d)=>.ok d
 |some (.oz d)=>.ok d
 |some (.o2 l)=>.ok (.lst (l.map .lst))
 |_=>.st
def aD(i:Nat):En->Rs D:=λ ρ=>match ρ[i]? with
 |some (.sh d)=>.ok d
 |some (.nw d)=>.ok d
 |_=>.st
def gr(i:Nat):En->Rs D:=λ ρ=>match ρ[i]? with
 |some (.nw d)=>.ok d
 |_=>.st
def ux(i:Nat):En->Rs D:=λ ρ=>match ρ[i]? with
 |some (.ow d)=>.ok d
 |some (.o2 l)=>.ok (.lst (l.map .lst))
 |_=>.st
def cD(d:D):En->Rs D:=λ _=>.ok d
def yh{K:zAA}{H:Hp}{lab:Lab}{i:Nat}{v:V}{l:List (List D)}(h:cR K H lab i v (.o2 l)):Rp K (λ p=>(lab p).1=i+2) H v (.lst (l.map .lst)):=by
 obtain⟨a,xs,rfl,ha,hla,hlen,hin⟩:=h;refine .lst ha (by rw[hla]) ?_;have go:∀(xs:List V) (l:List (List D)) (n:Nat),xs.length=l.length->0<n->(∀(j:Nat) x ds,xs[j]? =some x->l[j]? =some ds->Rp K (λ p=>lab p=(i+2,n+j)) H x (.lst ds))->Rps K (λ p=>(lab p).1=i+2/\p≠a) H xs (l.map .lst):=by
  intro xs;induction xs with
  |nil=>intro l n hl _ _;cases l with|nil=>exact .nil|cons _ _=>simp at hl
  |cons x xs ih=>
   intro l n hl hn h;cases l with
   |nil=>simp at hl
   |cons ds l=>
    refine .cons (Rp.wk (λ p o e z=>⟨by rw[z],λ e=>by rw[e,hla]at z;have z2:(0:Nat)=n+0:=congrArg Prod.snd z;lia⟩) (h 0 x ds rfl rfl)) (ih l (n+1) (by simpa using hl) (by lia) λ j y es e1 e2=>?_);have z:=h (j+1) y es (by simpa using e1) (by simpa using e2);rw[show n+1+j=n+(j+1)by lia];exact z
 exact go xs l 1 hlen (by lia) λ j x ds e1 e2=>by have z:=hin j x ds e1 e2;rw[show 1+j=j+1 by lia];exact z
section
variable{C:Ct}{pos:Pos}
def yN(K:zAA)(G:Gx)(i:Nat):jA K G (some [0,1,i+2]) (jo i) (wL i):=by
 intro U Z H ρ lab Q R W;unfold wL at W;cases e:ρ[i]? with
 |none=>rw[e]at W;exact W.elim
 |some s=>
  rw[e]at W;rcases R.sl i s e with rfl|⟨v,ev,hv⟩
  .exact zAE W
  .cases s with
   |no=>exact zAE W
   |sh d=>exact⟨v,ev,W v H (aM.refl H) (Rp.wk (λ p o e z=>.inr (by show(lab p).1∈[0,1,i+2];rcases(show(lab p).1=0\/(lab p).1=1 by lia)with q|q<;>rw[q]<;>simp)) hv)⟩
   |nw d=>exact⟨v,ev,W v H (aM.refl H) (Rp.wk (λ p o e z=>.inr (by show(lab p).1∈[0,1,i+2];rw[z];simp)) hv)⟩
   |ow d=>exact⟨v,ev,W v H (aM.refl H) (Rp.wk (λ p o e z=>.inr (by show(lab p).1∈[0,1,i+2];rcases z with q|q<;>rw[q]<;>simp)) hv.1)⟩
   |oz d=>exact⟨v,ev,W v H (aM.refl H) (Rp.wk (λ p o e z=>.inr (by show(lab p).1∈[0,1,i+2];rcases(show(lab p).1=0\/(lab p).1=1\/(lab p).1=i+2 by lia)with q|q|q<;>rw[q]<;>simp)) (aEF hv))⟩
   |o2 l=>exact⟨v,ev,W v H (aM.refl H) (Rp.wk (λ p o e z=>.inr (by show(lab p).1∈[0,1,i+2];rw[z];simp)) (yh hv))⟩
def aAc(K:zAA)(G:Gx)(i:Nat):jA K G (some [0,1]) (jo i) (aD i):=by
 intro U Z H ρ lab Q R W;unfold aD at W;cases e:ρ[i]? with
 |none=>rw[e]at W;exact W.elim
 |some s=>
  rw[e]at W;rcases R.sl i s e with rfl|⟨v,ev,hv⟩
  .exact zAE W
  .cases s with
   |sh d=>exact⟨v,ev,W v H (aM.refl H) (Rp.wk (λ p o e z=>.inr (by show(lab p).1∈[0,1];rcases(show(lab p).1=0\/(lab p).1=1 by lia)with q|q<;>rw[q]<;>simp)) hv)⟩
   |nw d=>exact⟨v,ev,W v H (aM.refl H) (Rp.wk (λ p o e z=>.inr (by show(lab p).1∈[0,1];rw[z];simp)) hv)⟩
   |_=>exact zAE W
def aAe(K:zAA)(G:Gx)(i:Nat):jA K G (some [1]) (jo i) (gr i):=by
 intro U Z H ρ lab Q R W;unfold gr at W;cases e:ρ[i]? with
 |none=>rw[e]at W;exact W.elim
 |some s=>
  rw[e]at W;rcases R.sl i s e with rfl|⟨v,ev,hv⟩
  .exact zAE W
  .cases s with
   |nw d=>exact⟨v,ev,W v H (aM.refl H) (Rp.wk (λ p o e z=>.inr (by show(lab p).1∈[1];rw[z];simp)) hv)⟩
   |_=>exact zAE W
def aAd(K:zAA)(G:Gx)(i:Nat):jA K G (some [1,i+2]) (jo i) (ux i):=by
 intro U Z H ρ lab Q R W;unfold ux at W;cases e:ρ[i]? with
 |none=>rw[e]at W;exact W.elim
 |some s=>
  rw[e]at W;rcases R.sl i s e with rfl|⟨v,ev,hv⟩
  .exact zAE W
  .cases s with
   |ow d=>exact⟨v,ev,W v H (aM.refl H) (Rp.wk (λ p o e z=>.inr (by show(lab p).1∈[1,i+2];rcases z with q|q<;>rw[q]<;>simp)) hv.1)⟩
   |o2 l=>exact⟨v,ev,W v H (aM.refl H) (Rp.wk (λ p o e z=>.inr (by show(lab p).1∈[1,i+2];rw[z];simp)) (yh hv))⟩
   |_=>exact zAE W
def aE5(i:Nat)(hN:∀j,(C.X j).N[i]? =some x:=by intro _;rfl)(hv:∀j,Vis (C.X j).env.scope x:=by intro _;first|exact zCd rfl|exact zBz (zCd rfl)|exact zBz (zBz rfl))(hd:Nd x:=by decide)
  (hcd:(x==("__classdict__":Str))=false:=by decide):SE C (some [0,1,i+2]) (.Name x pos) (wL i):=⟨_,λ j=>dq (hN j) (hv j) hd hcd,yN _ _ i⟩
def aC(i:Nat)(hN:∀j,(C.X j).N[i]? =some x:=by intro _;rfl)(hv:∀j,Vis (C.X j).env.scope x:=by intro _;first|exact zCd rfl|exact zBz (zCd rfl)|exact zBz (zBz rfl))(hd:Nd x:=by decide)
  (hcd:(x==("__classdict__":Str))=false:=by decide):SE C (some [0,1]) (.Name x pos) (aD i):=⟨_,λ j=>dq (hN j) (hv j) hd hcd,aAc _ _ i⟩
def fB(i:Nat)(hN:∀j,(C.X j).N[i]? =some x:=by intro _;rfl)(hv:∀j,Vis (C.X j).env.scope x:=by intro _;first|exact zCd rfl|exact zBz (zCd rfl)|exact zBz (zBz rfl))(hd:Nd x:=by decide)
  (hcd:(x==("__classdict__":Str))=false:=by decide):SE C (some [1]) (.Name x pos) (gr i):=⟨_,λ j=>dq (hN j) (hv j) hd hcd,aAe _ _ i⟩
def yQ(i:Nat)(hN:∀j,(C.X j).N[i]? =some x:=by intro _;rfl)(hv:∀j,Vis (C.X j).env.scope x:=by intro _;first|exact zCd rfl|exact zBz (zCd rfl)|exact zBz (zBz rfl))(hd:Nd x:=by decide)
  (hcd:(x==("__classdict__":Str))=false:=by decide):SE C (some [1,i+2]) (.Name x pos) (ux i):=⟨_,λ j=>dq (hN j) (hv j) hd hcd,aAd _ _ i⟩
def aL:SE C (some []) (.Constant (.int i) j pos) (cD (.int i)):=⟨_,λ _=>aBG,λ U Z H ρ lab Q R W=>W _ H (aM.refl H) (.int i)⟩
def rY:SE C (some []) (.Constant (.bool b) j pos) (cD (.bl b)):=⟨_,λ _=>aBJ,λ U Z H ρ lab Q R W=>W _ H (aM.refl H) (.bl b)⟩
def aAh:SE C (some []) (.Constant .none j pos) (cD .non):=⟨_,λ _=>aEv,λ U Z H ρ lab Q R W=>W _ H (aM.refl H) .non⟩
def cC:SE C (some []) (.Constant (.str x) j pos) (cD (.str x)):=⟨_,λ _=>cZ,λ U Z H ρ lab Q R W=>W _ H (aM.refl H) (.str x)⟩
def iQ(hm:C.mg x=some u)(r:RelV v u)(hd:∀A H,Rp C.K A H v d)(hdb:Nd x:=by decide)(hg:∀i,Gl (C.X i) x:=by intro _;rfl):SE C (some []) (.Name x pos) (cD d):=
 ⟨_,λ i=>cO (hg i) (by rw[(C.cx i).2.2.2.1];exact hm) r hdb,λ U Z H ρ lab Q R W=>W _ H (aM.refl H) (hd _ _)⟩
def vq(d:D):Rs D:=if imm d=true then .ok d else .st
def bG(f:En->Rs D):En->Rs D:=λ ρ=>(f ρ).bd vq
def bO(h:SE C m e f):SE C (some []) e (bG f):=by
 obtain⟨t,h1,h2⟩:=h;refine⟨t,h1,λ U Z H ρ lab Q R W=>h2 U Z H ρ lab Q R (W.bd.imp λ d _ w v H' s r=>?_)⟩;unfold vq at w;by_cases hd:imm d=true
 .rw[if_pos hd]at w
  exact w v H' s (r.imm hd)
 .rw[if_neg hd]at w
  exact zAE w
def aH:En->Rs (List D):=λ _=>.ok []
def aA(f:En->Rs D)(g:En->Rs (List D)):En->Rs (List D):=λ ρ=>(f ρ).bd λ d=>(g ρ).bd λ ds=>.ok (d::ds)
variable{m m1 m2:Mode}{e a b:Expr}{es:List Expr}{f fa fb:En->Rs D}{g:En->Rs (List D)}
def aG:SA C (some []) [] aH:=⟨_,λ _=>cg,λ U Z H ρ lab Q R W=>W _ H (aM.refl H) .nil⟩
def aB(h:SE C m1 e f)(hr:SA C m2 es g)(hs:∀i,zAY (e::es) (C.X i).env=(false,eval e (C.X i).env)::zAY es (C.X i).env:=by intro _;rfl):SA C (jn m1 m2) (e::es) (aA f g):=by
 obtain⟨t,h1,h2⟩:=h;obtain⟨u,k1,k2⟩:=hr;refine⟨_,λ i=>aV (h1 i) (k1 i) (hs i),λ U Z H ρ lab Q R W=>?_⟩;refine h2 U Z H ρ lab _ R (W.bd.imp λ d _ w x H1 s1 r1=>?_);refine k2 U Z H1 ρ lab _ (R.up s1) (w.bd.imp λ ds _ w xs H2 s2 r2=>?_);exact w (x::xs) H2 (s1.trans s2) (.cons (r1.mono s2 λ p o _ z=>aEK z) (r2.wk λ p o _ z=>aEJ (qZ s1 z)))
def bA(g:En->Rs (List D)):En->Rs D:=λ ρ=>(g ρ).bd λ ds=>if ds.length<=zAN then .ok (.tup ds)else .st
def eZ(g:En->Rs (List D)):En->Rs D:=λ ρ=>(g ρ).bd λ ds=>if ds.length<=zAN then .ok (.lst ds)else .st
def ak{x1}(h:SA C m es g):SE C m (.Tuple es x1 pos) (bA g):=by
 obtain⟨t,h1,h2⟩:=h;refine⟨_,λ i=>aCu (h1 i),λ U Z H ρ lab Q R W=>h2 U Z H ρ lab _ R (W.bd.imp λ ds _ w xs H1 s1 r1=>?_)⟩;by_cases hz:ds.length<=zAN
 .rw[if_pos hz]at w
  exact⟨by rw[r1.length];exact hz,λ p H' s hp _=>w _ H' (s1.trans s) (.tup (SqT.of hp) (r1.up s))⟩
 .rw[if_neg hz]at w
  exact zAE w
def gM(h:SA C m es g):SE C m (.List es pos) (eZ g):=by
 obtain⟨t,h1,h2⟩:=h;refine⟨_,λ i=>jd (h1 i),λ U Z H ρ lab Q R W=>h2 U Z H ρ lab _ R (W.bd.imp λ ds _ w xs H1 s1 r1=>?_)⟩;by_cases hz:ds.length<=zAN
 .rw[if_pos hz]at w
  exact⟨by rw[r1.length];exact hz,λ p H' s hp hn=>w _ H' (s1.trans s) (.lst hp (.inl (s1.free hn)) ((r1.wk λ q o e z=>⟨z,λ e'=>by subst e';rw[hn]at e;cases e⟩).up s))⟩
 .rw[if_neg hz]at w
  exact zAE w
def aCf:SE C (some []) (.Dict [] [] pos) (cD (.dct [] [])):=
 ⟨_,λ _=>aBH,λ U Z H ρ lab Q R W p H' s hp hn=>W _ H' s (.dK (kvs:=[]) hp (.inl hn) .nil)⟩
def aGy(H:Hp)(v:V)(d:D):Prop:=aBR d=true->∃a,v= .ref a/\H a=none
def aGv(K:zAA)(G:Gx)(m:Mode)(t:TE)(f:En->Rs D):Prop:=∀U Z H ρ lab (Q:VK),RR K G U ρ Z H lab->WR G (f ρ) (λ d=>∀v H',aM H H'->Rp K (fpM m lab H) H' v d->aGy H v d->Q v H')->t Z H Q
def SF(C:Ct)(m:Mode)(e:Expr)(f:En->Rs D):Prop:=∃t,(∀i,PE (C.X i) e t)/\aGv C.K C.G m t f
def wY(h:SA C m es g):SF C m (.List es pos) (eZ g):=by
 obtain⟨t,h1,h2⟩:=h;refine⟨_,λ i=>jd (h1 i),λ U Z H ρ lab Q R W=>h2 U Z H ρ lab _ R (W.bd.imp λ ds _ w xs H1 s1 r1=>?_)⟩;by_cases hz:ds.length<=zAN
 .rw[if_pos hz]at w
  exact⟨by rw[r1.length];exact hz,λ p H' s hp hn=>w _ H' (s1.trans s) (.lst hp (.inl (s1.free hn)) ((r1.wk λ q o e z=>⟨z,λ e'=>by subst e';rw[hn]at e;cases e⟩).up s)) λ _=>⟨p,rfl,s1.free hn⟩⟩
 .rw[if_neg hz]at w
  exact zAE w
def OpS(K:zAA)(r:R2)(fd:D->D->Rs D):Prop:=∀(A:Addr->Prop) x y d e H (Q:VK) z,Rp K A H x d->Rp K A H y e->fd d e= .ok z->(∀v H',aM H H'->Rp K (λ p=>H p=none\/A p) H' v z->Q v H')->r x y H Q
def tH(K:zAA)(r:List V->Hp->VK->Prop)(fd:List D->Rs D):Prop:=∀(A:Addr->Prop) xs ds H (Q:VK) z,Rps K A H xs ds->fd ds= .ok z->(∀v H',aM H H'->Rp K (λ p=>H p=none\/A p) H' v z->Q v H')->r xs H Q
def okD(r:Rs D):Rs D:=match r with
 | .ok d=>.ok d
 |_=>.st
def op2(fd:D->D->Rs D)(fa fb:En->Rs D):En->Rs D:=λ ρ=>(fa ρ).bd λ x=>(fb ρ).bd λ y=>okD (fd x y)
def op1(fd:D->Rs D)(fa:En->Rs D):En->Rs D:=λ ρ=>(fa ρ).bd λ x=>okD (fd x)
def opA(fd:List D->Rs D)(fa:En->Rs (List D)):En->Rs D:=λ ρ=>(fa ρ).bd λ x=>okD (fd x)
theorem WR.okD(h:WR G (okD r) P):∃z,r= .ok z/\P z:=by
 cases r with
 |ok z=>exact⟨z,rfl,h⟩
 |ex c=>exact zAE h
 |st=>exact zAE h
def uB{K:zAA}{G:Gx}{r:R2}{ta tb:TE}{fd:D->D->Rs D}(hs:OpS K r fd)(h1:jA K G m1 ta fa)(h2:jA K G m2 tb fb):jA K G (jn m1 m2) (tOp r ta tb) (op2 fd fa fb):=by
 intro U Z H ρ lab Q R W;refine h1 U Z H ρ lab _ R (W.bd.imp λ d _ w x H1 s1 r1=>?_);refine h2 U Z H1 ρ lab _ (R.up s1) (w.bd.imp λ e _ w y H2 s2 r2=>?_);obtain⟨z,ez,w⟩:=w.okD;refine hs (fpM (jn m1 m2) lab H) x y d e H2 Q z (r1.mono s2 λ p o _ q=>aEK q) (r2.wk λ p o _ q=>aEJ (qZ s1 q)) ez λ v H' s r=>w v H' ((s1.trans s2).trans s) (r.wk λ p o _ q=>?_)
 rcases q with q|q
 .exact .inl ((s1.trans s2).free q)
 .exact q
def yO{K:zAA}{G:Gx}{r:List V->Hp->VK->Prop}{ta:TA}{fd:List D->Rs D}(hs:tH K r fd)(h1:aDf K G m ta g):jA K G m (tCB r ta) (opA fd g):=by
 intro U Z H ρ lab Q R W;refine h1 U Z H ρ lab _ R (W.bd.imp λ d _ w x H1 s1 r1=>?_);obtain⟨z,ez,w⟩:=w.okD;refine hs (fpM m lab H) x d H1 Q z r1 ez λ v H' s r=>w v H' (s1.trans s) (r.wk λ p o _ q=>?_)
 rcases q with q|q
 .exact .inl (s1.free q)
 .exact q
def iR(h:SE C m e f)(hi:∀ρ d,f ρ= .ok d->imm d=true):SE C (some []) e f:=by
 obtain⟨t,h1,h2⟩:=h;exact⟨t,h1,λ U Z H ρ lab Q R W=>h2 U Z H ρ lab Q R (W.imp λ d ed w v H' s r=>w v H' s (r.imm (hi ρ d ed)))⟩
def jh(h:∀x y z,fd x y= .ok z->imm z=true)(e:op2 fd fa fb ρ= .ok d):imm d=true:=by
 obtain⟨x,_,e⟩:=bV e;obtain⟨y,_,e⟩:=bV e;unfold okD at e;split at e
 .rename_i z hz
  cases e;exact h x y _ hz
 .cases e
def uc(h:∀x z,fd x= .ok z->imm z=true)(e:opA fd g ρ= .ok d):imm d=true:=by
 obtain⟨x,_,e⟩:=bV e;unfold okD at e;split at e
 .rename_i z hz
  cases e;exact h x _ hz
 .cases e
def pR(ro:∀i,OpR (C.X i) (zBv op) r)(hs:OpS C.K r fd)(ha:SE C m1 a fa)(hb:SE C m2 b fb):SE C (jn m1 m2) (.BinOp a op b pos) (op2 fd fa fb):=by
 obtain⟨t,h1,h2⟩:=ha;obtain⟨u,k1,k2⟩:=hb;exact⟨_,λ i=>aBF (ro i) (h1 i) (k1 i),uB hs h2 k2⟩
def aAi(ro:∀i,OpR (C.X i) (zB2 op) r)(hs:OpS C.K r fd)(ha:SE C m1 a fa)(hb:SE C m2 b fb)(hm:zBu op b=false:=by first|exact aBP _|(with_unfolding_all rfl)):
  SE C (jn m1 m2) (.Compare a [op] [b] pos) (op2 fd fa fb):=by
 obtain⟨t,h1,h2⟩:=ha;obtain⟨u,k1,k2⟩:=hb;exact⟨_,λ i=>aCw (ro i) (h1 i) (k1 i) hm,uB hs h2 k2⟩
variable{p:Pos}{x:Str}{id T:String}
def pU(ro:∀i,jH (C.X i) (.builtin id) r)(hs:tH C.K r fd)(hg:∀i,Gl (C.X i) x)(hm:C.mg x=none)(hv:zB5 x=some (.builtin id))(ha:SA C m (e::es) g)
  (hn:x≠"__name__":=by decide)(hdb:Nd x:=by decide)(he:∀i,zAY (e::es) (C.X i).env=(false,eval e (C.X i).env)::zAY es (C.X i).env:=by intro _;rfl)
  (hpl:∀i,(zCQ pos (zAY es (C.X i).env)).any (·.1)=false:=by intro _;rfl):SE C m (.Call (.Name x p) (e::es) [] pos) (opA fd g):=by
 obtain⟨t,h1,h2⟩:=ha;exact⟨_,λ i=>mD (ro i) (hg i) (by rw[(C.cx i).2.2.2.1];exact hm) hv (h1 i) hn hdb (he i) (hpl i),yO hs h2⟩
def aAj(ro:∀i,jH (C.X i) (.type T) r)(hs:tH C.K r fd)(hg:∀i,Gl (C.X i) x)(hm:C.mg x=none)(hv:zB5 x=some (.type T))(ha:SA C m (e::es) g)
  (hn:x≠"__name__":=by decide)(hdb:Nd x:=by decide)(he:∀i,zAY (e::es) (C.X i).env=(false,eval e (C.X i).env)::zAY es (C.X i).env:=by intro _;rfl)
  (hpl:∀i,(zCQ pos (zAY es (C.X i).env)).any (·.1)=false:=by intro _;rfl):SE C m (.Call (.Name x p) (e::es) [] pos) (opA fd g):=by
 obtain⟨t,h1,h2⟩:=ha;exact⟨_,λ i=>z7 (ro i) (hg i) (by rw[(C.cx i).2.2.2.1];exact hm) hv (h1 i) hn hdb (he i) (hpl i),yO hs h2⟩
def aFx(f g:En->Rs D):En->Rs D:=λ ρ=>(f ρ).bd λ d=>match d with
 | .bl true=>g ρ
 | .bl false=>.ok (.bl false)
 |_=>.st
def notD:D->Rs D
 | .bl b=>.ok (.bl (!b))
 |_=>.st
variable{rest:List Expr}
def aE9{op}(h:SE C m a fa):SE C m (.BoolOp op [a] pos) fa:=by
 obtain⟨t,h1,h2⟩:=h;exact⟨_,λ i=>aEu (h1 i),h2⟩
def aEb(ha:SE C m1 a fa)(hb:SE C m2 (.BoolOp .And (b::rest) pos) fb):SE C m2 (.BoolOp .And (a::b::rest) pos) (aFx fa fb):=by
 obtain⟨t,h1,h2⟩:=ha;obtain⟨u,k1,k2⟩:=hb;refine⟨_,λ i=>aEz (h1 i) (k1 i),λ U Z H ρ lab Q R W=>h2 U Z H ρ lab _ R (W.bd.imp λ d _ w x H1 s1 r1=>?_)⟩;cases r1 with
 |bl c=>
  refine⟨c,rfl,?_⟩;cases c with
  |true=>
   rw[if_pos rfl];exact k2 U Z H1 ρ lab Q (R.up s1) (w.imp λ z _ w v H' s r=>w v H' (s1.trans s) (r.wk λ p o _ q=>qZ s1 q))
  |false=>
   rw[if_neg zAI];exact w _ H1 s1 (.bl false)
 |_=>exact zAE w
def aC1:D->Rs Bool
 | .non=>.ok false
 | .bl b=>.ok b
 | .int i=>.ok (i !=0)
 | .tup l=>.ok (!l.isEmpty)
 | .lst l=>.ok (!l.isEmpty)
 |_=>.st
def blD:D->Rs Bool
 | .bl b=>.ok b
 |_=>.st
def tst(f:En->Rs D):En->Rs Bool:=λ ρ=>(f ρ).bd aC1
def tsb(f:En->Rs D):En->Rs Bool:=λ ρ=>(f ρ).bd blD
def qU{K:zAA}{A:Addr->Prop}{H:Hp}{xs:List V}{ds:List D}(r:Rps K A H xs ds):(!ds.isEmpty)= !xs.isEmpty:=by cases r<;>rfl
def mj(ha:SE C m a fa)(he:∀i whole,isTrue a (C.X i).env whole=(do let v <-whole;zEl a.pos;zEi [v] (truthy v)):=by intro _ _;rfl):ST C a (tst fa):=by
 obtain⟨t,h1,h2⟩:=ha;refine⟨λ Z H Q=>t Z H λ x H'=>∃k,aFz C.K x H' k/\Q k H',λ i=>by rw[<-C.hK i];exact aAu (h1 i) (he i),λ U Z H ρ lab Q R W=>h2 U Z H ρ lab _ R (W.bd.imp λ d _ w x H1 s1 r1=>?_)⟩;cases r1 with
 |non=>exact⟨false,rfl,w H1 s1⟩
 |bl b=>exact⟨b,rfl,w H1 s1⟩
 |int i=>exact⟨i !=0,rfl,w H1 s1⟩
 |tup h r=>exact⟨_,.inr (.inl ⟨_,h,rfl⟩),by rw[<-qU r];exact w H1 s1⟩
 |lst h m r=>exact⟨_,.inl ⟨_,SqL.of h,rfl⟩,by rw[<-qU r];exact w H1 s1⟩
 |_=>exact zAE w
def aCa{K:zAA}{G:Gx}{t:TE}{f:En->Rs D}(h:jA K G m t f):wH K G (aDo t) (tsb f):=λ U Z H ρ lab Q R W=>h U Z H ρ lab _ R (W.bd.imp λ d _ w x H1 s1 r1=>by
 cases r1 with
 |bl b=>exact⟨b,rfl,w H1 s1⟩
 |_=>exact zAE w)
def kW(ro:∀i,OpR (C.X i) (zB2 op) r)(hs:OpS C.K r fd)(ha:SE C m1 a fa)(hb:SE C m2 b fb)(hm:zBu op b=false:=by first|exact aBP _|(with_unfolding_all rfl)):
  ST C (.Compare a [op] [b] pos) (tsb (op2 fd fa fb)):=by
 obtain⟨t,h1,h2⟩:=ha;obtain⟨u,k1,k2⟩:=hb;exact⟨_,λ i=>aCo (ro i) (h1 i) (k1 i) hm,aCa (uB hs h2 k2)⟩
variable{ga gb:En->Rs Bool}
def orT(f g:En->Rs Bool):En->Rs Bool:=λ ρ=>(f ρ).bd λ k=>if k=true then .ok true else g ρ
def z9(f:En->Rs Bool):En->Rs Bool:=λ ρ=>(f ρ).bd λ k=>.ok (!k)
def wU(ha:ST C a ga):SW C (.BoolOp .Or [a] pos) ga:=let⟨t,h1,h2⟩:=ha;⟨t,λ i=>aAs (h1 i),h2⟩
def vH(ha:ST C a ga)(hb:SW C (.BoolOp .Or (b::rest) pos) gb):SW C (.BoolOp .Or (a::b::rest) pos) (orT ga gb):=by
 obtain⟨t,h1,h2⟩:=ha;obtain⟨u,k1,k2⟩:=hb;refine⟨_,λ i=>aEB (h1 i) (k1 i),λ U Z H ρ lab Q R W=>h2 U Z H ρ lab _ R (W.bd.imp λ k _ w H1 s1=>?_)⟩;cases k with
 |false=>
  rw[if_neg zAI]at w ⊢;exact k2 U Z H1 ρ lab Q (R.up s1) (w.imp λ z _ w H' s=>w H' (s1.trans s))
 |true=>
  rw[if_pos rfl]at w ⊢;exact w H1 s1
def tU(ha:ST C a ga):ST C (.UnaryOp .Not a pos) (z9 ga):=by
 obtain⟨t,h1,h2⟩:=ha;exact⟨_,λ i=>wu (h1 i),λ U Z H ρ lab Q R W=>h2 U Z H ρ lab _ R (W.bd.imp λ k _ w H1 s1=>w H1 s1)⟩
end
inductive Ou where
 |nx (ρ:En)|rt (d:D)|bk (ρ:En)|ct (ρ:En)|ex (c:Str)|st
noncomputable def Rs.bo{α:Type}:Rs α->(α->Ou)->Ou
 | .ok a,f=>f a
 | .ex c,_=>.ex c
 | .st,_=>.st
@[simp] def qp(a:α)(f:α->Ou):(Rs.ok a).bo f=f a:=aJ rfl
@[simp] def bo_ex(c:Str)(f:α->Ou):(Rs.ex c:Rs α).bo f= .ex c:=aJ rfl
noncomputable def Ou.sq:Ou->(En->Ou)->Ou
 | .nx ρ,f=>f ρ
 |o,_=>o
@[simp] def cN(ρ:En)(f:En->Ou):(Ou.nx ρ).sq f=f ρ:=aJ rfl
@[simp] def sq_rt(d:D)(f:En->Ou):(Ou.rt d).sq f= .rt d:=aJ rfl
@[simp] def sq_ex(c:Str)(f:En->Ou):(Ou.ex c).sq f= .ex c:=aJ rfl
def WS(K:zAA)(G:Gx)(U:List (V×D))(o:Ou)(De:Ends):Prop:=match o with
 | .nx ρ=>∀Z H lab,RR K G U ρ Z H lab->De.nx Z H
 | .bk ρ=>∀Z H lab,RR K G U ρ Z H lab->De.bk Z H
 | .ct ρ=>∀Z H lab,RR K G U ρ Z H lab->De.ct Z H
 | .rt d=>∀v H,aM G.H0 H->Rp K (λ p=>G.H0 p=none) H v d->De.rt v H
 | .ex c=>∀H',aM G.H0 H'->G.E (.ref (G.cl c)) none H'
 | .st=>False
theorem WS.bo{K:zAA}(h:WS K G U (r.bo k) De):WR G r (λ a=>WS K G U (k a) De):=by
 cases r with
 |ok a=>exact h
 |ex c=>exact h
 |st=>exact h
def aGt(K:zAA)(G:Gx)(t:TS)(f:En->Ou):Prop:=∀U Z H ρ lab (De:Ends),RR K G U ρ Z H lab->WS K G U (f ρ) De->t De Z H
def SS(C:Ct)(s:Stmt)(f:En->Ou):Prop:=∃t,(∀i,PS (C.X i) s t)/\aGt C.K C.G t f
def SSs(C:Ct)(s:List Stmt)(f:En->Ou):Prop:=∃t,(∀i,PSs (C.X i) s t)/\aGt C.K C.G t f
section
variable{C:Ct}{pos:Pos}{s:Stmt}{ss:List Stmt}{f g:En->Ou}{e:Expr}{m:Mode}{fe:En->Rs D}
def cT:SSs C [] .nx:=⟨_,λ _=>uI,λ U Z H ρ lab De R W=>W Z H lab R⟩
def aa(f g:En->Ou):En->Ou:=λ ρ=>(f ρ).sq g
def aU(h:SS C s f):SSs C [s] f:=let⟨t,h1,h2⟩:=h;⟨t,λ i=>iU (h1 i),h2⟩
def aK(h:SS C s f)(k:SSs C ss g):SSs C (s::ss) (aa f g):=by
 obtain⟨t,h1,h2⟩:=h;obtain⟨u,k1,k2⟩:=k;refine⟨_,λ i=>cz (h1 i) (k1 i),λ U Z H ρ lab De R W=>h2 U Z H ρ lab _ R ?_⟩;unfold aa at W;cases h:f ρ with
 |nx ρ'=>rw[h]at W;exact λ Z' H' lab' R'=>k2 U Z' H' ρ' lab' De R' W
 |rt d=>rw[h]at W;exact W
 |bk ρ'=>rw[h]at W;exact W
 |ct ρ'=>rw[h]at W;exact W
 |ex c=>rw[h]at W;exact W
 |st=>rw[h]at W;exact W
def frz(i:Nat)(ρ:En):En:=match ρ[i]? with
 |some (.ow d)=>ρ.set i (.nw d)
 |some (.o2 l)=>ρ.set i (.nw (.lst (l.map .lst)))
 |_=>ρ
def aGb:Mode->Bool
 |some L=>L.all (·!=0)
 |none=>false
def retS(fe:En->Rs D):En->Ou:=λ ρ=>(fe ρ).bo .rt
def bx(he:SE C m e fe)(hm:aGb m=true:=by rfl):SS C (.Return (some e) pos) (retS fe):=by
 obtain⟨t,h1,h2⟩:=he;refine⟨_,λ i=>pZ (h1 i),λ U Z H ρ lab De R W=>h2 U Z H ρ lab _ R (W.bo.imp λ d _ w v H' s r=>w v H' (R.old.trans s) (r.wk λ p o _ z=>?_))⟩;rcases z with z|z
 .exact R.old.free z
 .cases m with
  |none=>cases hm
  |some L=>
   refine R.new p λ e0=>?_
   have:=zBP.mp hm _ z
   rw[e0]at this;simp at this
def aBy(fe:En->Rs D):En->Ou:=λ ρ=>(fe ρ).bo λ _=>.nx ρ
def aC7(he:SE C m e fe)(hs:∀i,zD2 e none pos.line (C.X i).env=pure false:=by intro _;rfl):SS C (.Expr e pos) (aBy fe):=by
 obtain⟨t,h1,h2⟩:=he;exact⟨_,λ i=>mC (h1 i) (hs i),λ U Z H ρ lab De R W=>h2 U Z H ρ lab _ R (W.bo.imp λ d _ w v H' s r=>w Z H' lab (R.up s))⟩
def ifS(c:En->Rs Bool)(f g:En->Ou):En->Ou:=λ ρ=>(c ρ).bo λ k=>if k=true then f ρ else g ρ
def fK{a b:List Stmt}(hc:ST C c fc)(ha:SSs C a f)(hb:SSs C b g):SS C (.If c a b pos) (ifS fc f g):=by
 obtain⟨tc,c1,c2⟩:=hc;obtain⟨t,h1,h2⟩:=ha;obtain⟨u,k1,k2⟩:=hb;refine⟨_,λ i=>aAy (c1 i) (h1 i) (k1 i),λ U Z H ρ lab De R W=>c2 U Z H ρ lab _ R (W.bo.imp λ k _ w H1 s1=>?_)⟩;cases k with
 |true=>rw[if_pos rfl]at w ⊢;exact h2 U Z H1 ρ lab De (R.up s1) w
 |false=>rw[if_neg zAI]at w ⊢;exact k2 U Z H1 ρ lab De (R.up s1) w
def SV(C:Ct)(i:Nat)(s:Stmt)(m:Mode)(f:En->Rs D):Prop:=∃t,(∀j,PS (C.X j) s (wR t (oF i)))/\jA C.K C.G m t f
def gK(he:SE C m e fe)(hN:∀j,(C.X j).N[i]? =some x:=by intro _;rfl)(hx:∀j,Loc (C.X j).env.scope x:=by intro _;first|exact zCd rfl|exact zBz rfl)(hs:∀j,zD2 e (some (.Name x pos')) pos.line (C.X j).env=pure false:=by intro _;rfl)(hf:∀j,(C.X j).fn x=true\/(C.X j).env.scope.names.lookup x=some .local:=by intro _;first|exact .inl rfl|exact .inr rfl)(nd:∀j,(C.X j).N.Nodup:=by intro _;assumption):
  SV C i (.Assign [.Name x pos'] e pos) m fe:=by
 obtain⟨t,h1,h2⟩:=he;exact⟨t,λ j=>iV (nd j) (hN j) (hx j) (h1 j) (hs j) (hf j),h2⟩
def SVF(C:Ct)(i:Nat)(s:Stmt)(m:Mode)(f:En->Rs D):Prop:=∃t,(∀j,PS (C.X j) s (wR t (oF i)))/\aGv C.K C.G m t f
def aA5(he:SF C m e fe)(hN:∀j,(C.X j).N[i]? =some x:=by intro _;rfl)(hx:∀j,Loc (C.X j).env.scope x:=by intro _;first|exact zCd rfl|exact zBz rfl)(hs:∀j,zD2 e (some (.Name x pos')) pos.line (C.X j).env=pure false:=by intro _;rfl)(hf:∀j,(C.X j).fn x=true\/(C.X j).env.scope.names.lookup x=some .local:=by intro _;first|exact .inl rfl|exact .inr rfl)(nd:∀j,(C.X j).N.Nodup:=by intro _;assumption):
  SVF C i (.Assign [.Name x pos'] e pos) m fe:=by
 obtain⟨t,h1,h2⟩:=he;exact⟨t,λ j=>iV (nd j) (hN j) (hx j) (h1 j) (hs j) (hf j),h2⟩
def yg(P:Nat->Bool):Mode->Bool
 |some L=>L.all P
 |none=>false
def je(h:yg P m=true):∀k,inM m k->P k=true:=by
 intro k hk;cases m with
 |none=>cases h
 |some L=>exact zBP.mp h k hk
abbrev okS:Mode->Bool:=yg λ k=>decide (k<=1)
abbrev okN:Mode->Bool:=yg λ k=>k==1
abbrev okO(i:Nat):Mode->Bool:=yg λ k=>k==1||k==i+2
def dU(i:Nat)(fe:En->Rs D):En->Ou:=λ ρ=>(fe ρ).bo λ d=>.nx (ρ.set i (.sh d))
def lW(i:Nat)(fe:En->Rs D):En->Ou:=λ ρ=>(fe ρ).bo λ d=>.nx (ρ.set i (.nw d))
def zR(i:Nat)(fe:En->Rs D):En->Ou:=λ ρ=>(fe ρ).bo λ d=>.nx (ρ.set i (.ow d))
def RR.shared{K:zAA}(hm:okS m=true)(R:RR K G U ρ Z H lab)(s:aM H H')(r:Rp K (fpM m lab H) H' v d):
  RR K G U ρ Z H' (bf H 1 lab)/\Rp K (λ p=>(bf H 1 lab p).1<=1) H' v d:=R.fresh (P:=λ k=>k<=1) (by decide) (λ k hk=>of_decide_eq_true (je hm k hk)) s r
def cB{i:Nat}(h:SV C i s m fe)(hm:okS m=true:=by rfl):SS C s (dU i fe):=by
 obtain⟨t,h1,h2⟩:=h;refine⟨_,h1,λ U Z H ρ lab De R W=>h2 U Z H ρ lab _ R (W.bo.imp λ d _ w v H' s r=>?_)⟩;obtain⟨R',r'⟩:=R.shared hm s r;exact w _ _ _ (R'.put (s:=.sh d) r')
def jb(h:SV C i s m fe)(hm:okN m=true:=by rfl):SS C s (lW i fe):=by
 obtain⟨t,h1,h2⟩:=h;refine⟨_,h1,λ U Z H ρ lab De R W=>h2 U Z H ρ lab _ R (W.bo.imp λ d _ w v H' s r=>?_)⟩;obtain⟨R',r'⟩:=R.fresh (P:=λ k=>k=1) rfl (λ k hk=>beq_iff_eq.mp (je hm k hk)) s r;exact w _ _ _ (R'.put (s:=.nw d) r')
def yK(h:SVF C i s m fe)(hm:okO i m=true:=by rfl):SS C s (zR i fe):=by
 obtain⟨t,h1,h2⟩:=h;refine⟨_,h1,λ U Z H ρ lab De R W=>h2 U Z H ρ lab _ R (W.bo.imp λ d _ w v H' s r ht=>?_)⟩;obtain⟨lab',R',r'⟩:=R.freshO i (λ k hk=>by have:=je hm k hk;simpa using this) s r ht;exact w _ _ _ (R'.put (s:=.ow d) r')
def aAg(i:Nat)(fe:En->Rs D):En->Ou:=λ ρ=>(fe ρ).bo λ d=>match d with
 | .lst ds=>.nx (ρ.set i (.oz (.lst ds)))
 |_=>.st
def aC5(h:SVF C i s m fe)(hm:okS m=true:=by rfl):SS C s (aAg i fe):=by
 obtain⟨t,h1,h2⟩:=h;refine⟨_,h1,λ U Z H ρ lab De R W=>h2 U Z H ρ lab _ R (W.bo.imp λ d _ w v H' s r ht=>?_)⟩;cases d with
 |lst ds=>
  obtain⟨lab',R',r'⟩:=R.freshZ i (λ k hk=>by have:=je hm k hk;simpa using this) s r (ht rfl);exact w _ _ _ (R'.put (s:=.oz (.lst ds)) r')
 |_=>exact zAE w
def aCK(K:zAA)(G:Gx)(g:TG)(fg:D->En->Rs En):Prop:=∀U v d Z H ρ lab (Q:L2.St->Hp->Prop) ρ',RR K G U ρ Z H lab->Rp K (λ p=>(lab p).1<=1) H v d->fg d ρ= .ok ρ'->(∀Z',RR K G U ρ' Z' H lab->Q Z' H)->g v Z H Q
def aGu(K:zAA)(G:Gx)(g:TGs)(fg:List D->En->Rs En):Prop:=∀U vs ds Z H ρ lab (Q:L2.St->Hp->Prop) ρ',RR K G U ρ Z H lab->Rps K (λ p=>(lab p).1<=1) H vs ds->fg ds ρ= .ok ρ'->(∀Z',RR K G U ρ' Z' H lab->Q Z' H)->g vs Z H Q
def SG(C:Ct)(tg:Expr)(ks:List Nat)(fg:D->En->Rs En):Prop:=∃g,(∀i,PG (C.X i) tg g)/\aCK C.K C.G g fg/\j6 g ks/\tG g
def SGs(C:Ct)(tg:List Expr)(ks:List Nat)(fg:List D->En->Rs En):Prop:=∃g,(∀i,PGs (C.X i) tg g)/\aGu C.K C.G g fg/\qu g ks/\nZ g
def gnm(i:Nat):D->En->Rs En:=λ d ρ=>.ok (ρ.set i (.sh d))
def jr:List D->En->Rs En:=λ ds ρ=>match ds with
 |[]=>.ok ρ
 |_=>.st
def bZ(f:D->En->Rs En)(g:List D->En->Rs En):List D->En->Rs En:=λ ds ρ=>match ds with
 |d::r=>(f d ρ).bd (g r)
 |_=>.st
def jU(n:Nat)(g:List D->En->Rs En):D->En->Rs En:=λ d ρ=>match d with
 | .tup ds=>if ds.length=n then g ds ρ else .st
 |_=>.st
variable{ks:List Nat}{fg:D->En->Rs En}{fgs:List D->En->Rs En}{tg:Expr}{tgs:List Expr}
def bW(hN:∀j,(C.X j).N[i]? =some x:=by intro _;rfl)(hx:∀j,Loc (C.X j).env.scope x:=by intro _;first|exact zCd rfl|exact zBz rfl)(hf:∀j,(C.X j).fn x=true\/(C.X j).env.scope.names.lookup x=some .local:=by intro _;first|exact .inl rfl|exact .inr rfl)(nd:∀j,(C.X j).N.Nodup:=by intro _;assumption)(hk:i∈ks:=by decide):SG C (.Name x pos) ks (gnm i):=
 ⟨_,λ j=>aCt (nd j) (hN j) (hx j) (hf j),λ U v d Z H ρ lab Q ρ' R r e q=>by cases e;exact q _ (R.put (s:=.sh d) r),aD3 hk,aD5⟩
def jc:SGs C [] ks jr:=by
 refine⟨_,λ _=>aCs,λ U vs ds Z H ρ lab Q ρ' R r e q=>?_,aD2,aD4⟩;cases r with
 |nil=>cases e;exact⟨rfl,q _ R⟩
 |cons _ _=>cases e
def cG(h:SG C tg ks fg)(k:SGs C tgs ks fgs)(hs:∀i,(zCJ (tg::tgs) (C.X i).env).map (·.2)=zFL tg (C.X i).env::(zCJ tgs (C.X i).env).map (·.2):=by intro _;rfl):SGs C (tg::tgs) ks (bZ fg fgs):=by
 obtain⟨g,h1,h2,h3,h4⟩:=h;obtain⟨u,k1,k2,k3,k4⟩:=k;refine⟨_,λ i=>aBC (h1 i) (k1 i) (hs i),λ U vs ds Z H ρ lab Q ρ' R r e q=>?_,aBl h3 h4 k3 k4,aBn h4 k4⟩;cases r with
 |nil=>cases e
 |cons h r=>
  obtain⟨ρ1,e1,e2⟩:=bV e;exact⟨_,_,rfl,h2 U _ _ Z H ρ lab _ ρ1 R h e1 λ Z1 R1=>k2 U _ _ Z1 H ρ1 lab Q ρ' R1 r e2 q⟩
def my(h:SGs C tgs ks fgs)(hn:∀i,(zCJ tgs (C.X i).env).length=n:=by intro _;rfl)(hst:∀i,(zCJ tgs (C.X i).env).findIdx? (·.1)=none:=by intro _;rfl):SG C (.Tuple tgs k pos) ks (jU n fgs):=by
 obtain⟨u,k1,k2,k3,k4⟩:=h;refine⟨aD6 C.K n u,λ i=>by rw[<-C.hK i];exact aEr (C.calm i) (k1 i) (hn i) (hst i),λ U v d Z H ρ lab Q ρ' R r e q=>?_,aFg k3,aFh k4⟩;cases r with
 |tup h r=>
  unfold jU at e;dsimp only at e;split at e
  .rename_i hl
   exact⟨_,_,rfl,h,by rw[r.length];exact hl,k2 U _ _ Z H ρ lab Q ρ' R r e q⟩
  .cases e
 |_=>cases e
def nU(fe:En->Rs D)(fg:D->En->Rs En):En->Ou:=λ ρ=>(fe ρ).bo λ d=>match fg d ρ with
 | .ok ρ'=>.nx ρ'
 |_=>.st
def tW(he:SE C m e fe)(hg:SG C tg ks fg)(hm:okS m=true:=by rfl)(hs:∀i,zFl [tg] e pos.line (C.X i).env=pure false:=by intro _;rfl)(hw:∀i,zFk [tg] e (C.X i).env=pure none:=by intro _;rfl)
  (h1:∀i,(zCJ [tg] (C.X i).env).map (·.2)=[zFL tg (C.X i).env]:=by intro _;rfl):SS C (.Assign [tg] e pos) (nU fe fg):=by
 obtain⟨t,p1,p2⟩:=he;obtain⟨g,q1,q2,_,_⟩:=hg;refine⟨_,λ i=>aAz (p1 i) (q1 i) (hs i) (hw i) (h1 i),λ U Z H ρ lab De R W=>p2 U Z H ρ lab _ R (W.bo.imp λ d _ w v H' s r=>?_)⟩;obtain⟨R',r'⟩:=R.shared hm s r;cases hgd:fg d ρ with
 |ok ρ'=>rw[hgd]at w;exact q2 U v d Z H' ρ _ _ ρ' R' r' hgd λ Z' R2=>w Z' H' _ R2
 |ex c=>rw[hgd]at w;exact zAE w
 |st=>rw[hgd]at w;exact zAE w
def JL(K:zAA)(lab:Lab)(J:It)(H:Hp)(ds:List D):Prop:=∀i,(ds.length<=i->J.stop i H)/\(i<ds.length->J.go i H/\∀x H',J.yld i H x H'->aM H H'/\∃d,ds[i]? =some d/\Rp K (λ p=>(lab p).1<=1) H' x d)
def aCJ(K:zAA)(G:Gx)(wi:TI)(f:En->Rs (List D)):Prop:=∀U Z H ρ lab (Rr:It->Hp->Prop),RR K G U ρ Z H lab->
 WR G (f ρ) (λ ds=>∀J H1 lab1 U1,aM H H1->(∀p o,H p=some o->lab1 p=lab p)->RR K G (U1++U) ρ Z H1 lab1->(∀lab' H',(∀q∈U1,Rp K (λ p=>(lab' p).1<=1) H' q.1 q.2)->JL K lab' J H' ds)->Rr J H1)->wi Z H Rr
def SI(C:Ct)(tg iter:Expr)(f:En->Rs (List D)):Prop:=∃wi,(∀i,PI (C.X i) tg iter wi)/\aCJ C.K C.G wi f
def aGi(K:zAA)(tl:TE):TI:=λ Z H R=>tl Z H λ x H1=>∃a,x= .ref a/\(((∃xs,SqL K H1 a xs)/\R (Itl K a) H1)\/((∃xs,SqT K H1 a xs)/\R (Itt K a) H1))
def aEq(hl:PE X l tl):PI X tg l (aGi X.K tl):=by
 intro pins s Z H R I h;refine thn (hl pins s Z H _ I h) λ v s1 ⟨x,H1,I1,r1,a,e,q1⟩=>?_
 subst e;cases r1;have hp:∀b∈[s1.heap.objs.size],m7 X pins H1 b:=λ b hb=>by
  have e:b=s1.heap.objs.size:=by simpa using hb
  rw[e];exact I1.fpOk (zAP _) (I1.hok.fresh (zAP _))
 rcases q1 with ⟨⟨xs,hq⟩,q⟩|⟨⟨xs,hq⟩,q⟩
 .obtain⟨its,rv,p,hz⟩:=I1.list hq
  refine wpAny_pyIter_list p.isList ?_;exact⟨_,_,_,_,H1,rfl,I1.kept (t':=s1.toks) λ b o e=>zAD _ e,zO a _,⟨_,zAh _ rfl,rfl,rfl⟩,hp,q⟩
 .obtain⟨its,rv,p,hz⟩:=I1.tuple hq
  refine wpAny_pyIter_tuple (show s1.heap.IsTuple a its.toArray from p) ?_;exact⟨_,_,_,_,H1,rfl,I1.kept (t':=s1.toks) λ b o e=>zAD _ e,wM a _,⟨_,zAh _ rfl,rfl,rfl⟩,hp,q⟩
def itD:D->Rs (List D)
 | .tup l=>.ok l
 | .lst l=>.ok l
 | .scr l=>.ok (l.map .int)
 |_=>.st
def nH(fe:En->Rs D):En->Rs (List D):=λ ρ=>(fe ρ).bd itD
def yq{K:zAA}(h:SqL K H a xs)(r:Rps K (λ p=>(lab p).1<=1) H xs ds):JL K lab (Itl K a) H ds:=by
 have hl:=r.length;refine λ i=>⟨λ hi=>⟨xs,h,by lia⟩,λ hi=>⟨⟨xs,xs[i]'(by lia),h,by simp[hl,hi]⟩,λ x H' y=>?_⟩⟩
 obtain⟨e,y⟩:=y;subst e;obtain⟨d,h1,h2⟩:=r.get (y xs h);exact⟨aM.refl _,d,h1,h2⟩
def aF4{K:zAA}(h:SqT K H a xs)(r:Rps K (λ p=>(lab p).1<=1) H xs ds):JL K lab (Itt K a) H ds:=by
 have hl:=r.length;refine λ i=>⟨λ hi=>⟨xs,h,by lia⟩,λ hi=>⟨⟨xs,xs[i]'(by lia),h,by simp[hl,hi]⟩,λ x H' y=>?_⟩⟩
 obtain⟨e,y⟩:=y;subst e;obtain⟨d,h1,h2⟩:=r.get (y xs h);exact⟨aM.refl _,d,h1,h2⟩
def pL(he:SE C m e fe)(hm:okS m=true:=by rfl):SI C tg e (nH fe):=by
 obtain⟨t,p1,p2⟩:=he;refine⟨aGi C.K t,λ i=>by rw[<-C.hK i];exact aEq (p1 i),λ U Z H ρ lab Rr R W=>p2 U Z H ρ lab _ R (W.bd.imp λ d _ w v H1 s r=>?_)⟩;obtain⟨R',r'⟩:=R.shared hm s r;cases d with
 |tup l=>
  cases r' with
  |tup h q=>
   rename_i a xs;refine⟨_,rfl,.inr ⟨⟨_,h⟩,w _ H1 _ [(.ref a,.tup l)] s (λ p o e=>bF e) ⟨R'.len,R'.sl,R'.old,R'.new,λ z hz=>?_⟩ λ lab' H' hq=>?_⟩⟩
   .rcases zAZ.mp hz with rfl|hz
    .exact .tup h q
    .exact R'.tm z hz
   .have z:=hq _ (zAU ..)
    cases z with
    |tup h' q'=>exact aF4 h' q'
 |lst l=>
  cases r' with
  |lst h mm q=>
   rename_i a xs;refine⟨_,rfl,.inl ⟨⟨_,SqL.of h⟩,w _ H1 _ [(.ref a,.lst l)] s (λ p o e=>bF e) ⟨R'.len,R'.sl,R'.old,R'.new,λ z hz=>?_⟩ λ lab' H' hq=>?_⟩⟩
   .rcases zAZ.mp hz with rfl|hz
    .exact .lst h mm q
    .exact R'.tm z hz
   .have z:=hq _ (zAU ..)
    cases z with
    |lst h' _ q'=>exact yq (SqL.of h') (q'.wk λ _ _ _ z=>z.1)
 |scr l=>
  cases r' with
  |scr h=>
   rename_i a;refine⟨_,rfl,.inl ⟨⟨_,h.sq⟩,w _ H1 _ [(.ref a,.scr l)] s (λ p o e=>bF e) ⟨R'.len,R'.sl,R'.old,R'.new,λ z hz=>?_⟩ λ lab' H' hq=>?_⟩⟩
   .rcases zAZ.mp hz with rfl|hz
    .exact .scr h
    .exact R'.tm z hz
   .have z:=hq _ (zAU ..)
    cases z with
    |scr h'=>exact yq h'.sq Rps.ints
 |_=>exact zAE w
end
section
variable{C:Ct}{pos:Pos}{s:Stmt}{ss:List Stmt}{f:En->Ou}{e a b:Expr}{es:List Expr}{m:Mode}{fa:En->Rs D}{ks:List Nat}{fg:D->En->Rs En}{tg:Expr}{fi:En->Rs (List D)}{ga:En->Rs (List D)}
def gU(lo hi:Int):List D:=(zBG (hi-lo).toNat).map λ(k:Nat)=>.int (lo+(k:Int))
def lC:List D->Rs (List D)
 |[.int j]=>if -(2^62)<=j/\j<2^62 then .ok (gU 0 j)else .st
 |_=>.st
def gW:List D->Rs (List D)
 |[.int i,.int j]=>if (-(2^62)<=i/\i<2^62)/\(-(2^62)<=j/\j<2^62)then .ok (gU i j)else .st
 |_=>.st
def dF(r:List D->Rs (List D))(ga:En->Rs (List D)):En->Rs (List D):=λ ρ=>(ga ρ).bd r
def aBd{K:zAA}{lo hi:Int}:JL K lab (Itr lo (hi-lo).toNat) H (gU lo hi):=by
 have hl:(gU lo hi).length=(hi-lo).toNat:=by unfold gU;simp
 refine λ i=>⟨λ h=>by show(hi-lo).toNat<=i;lia,λ h=>⟨by show i<(hi-lo).toNat;lia,λ x H' y=>?_⟩⟩
 obtain⟨e,rfl⟩:=y;subst e;refine⟨aM.refl _,.int (lo+i),?_,.int _⟩;unfold gU;rw[zAi,zF9 (by lia)];rfl
def lV(ha:SA C m [a] ga)(hm:C.mg "range"=none)(hs:∀i,zAY [a] (C.X i).env=[(false,eval a (C.X i).env)]:=by intro _;rfl)(hg:∀i,Gl (C.X i) "range":=by intro _;rfl):SI C tg (.Call (.Name "range" p) [a] [] pos) (dF lC ga):=by
 obtain⟨t,h1,h2⟩:=ha;refine⟨_,λ i=>z6 (hg i) (by rw[(C.cx i).2.2.2.1];exact hm) (h1 i) (hs i),λ U Z H ρ lab Rr R W=>h2 U Z H ρ lab _ R (W.bd.imp λ ds _ w vs H1 s r=>?_)⟩;unfold lC at w;split at w
 .rename_i j _
  split at w
  .rename_i hj
   cases r with
   |cons h r=>
    cases h;cases r;refine⟨j,rfl,hj.1,hj.2,?_⟩;have z:=w (Itr 0 (j-0).toNat) H1 lab [] s (λ _ _ _=>rfl) (R.up s) λ lab' H' _=>aBd
    rwa [Int.sub_zero]at z
  .exact zAE w
 .exact zAE w
def yP(ha:SA C m [a,b] ga)(hm:C.mg "range"=none)(hs:∀i,zAY [a,b] (C.X i).env=[(false,eval a (C.X i).env),(false,eval b (C.X i).env)]:=by intro _;rfl)(hs2:∀i,zAY [b] (C.X i).env=[(false,eval b (C.X i).env)]:=by intro _;rfl)(hg:∀i,Gl (C.X i) "range":=by intro _;rfl):SI C tg (.Call (.Name "range" p) [a,b] [] pos) (dF gW ga):=by
 obtain⟨t,h1,h2⟩:=ha;refine⟨_,λ i=>zZ (hg i) (by rw[(C.cx i).2.2.2.1];exact hm) (h1 i) (hs i) (hs2 i),λ U Z H ρ lab Rr R W=>h2 U Z H ρ lab _ R (W.bd.imp λ ds _ w vs H1 s r=>?_)⟩;unfold gW at w;split at w
 .rename_i i j _
  split at w
  .rename_i hj
   cases r with
   |cons h r=>
    cases h;cases r with
    |cons h r=>
     cases h;cases r;exact⟨i,j,rfl,⟨hj.1.1,hj.1.2,hj.2.1,hj.2.2⟩,w (Itr i (j-i).toNat) H1 lab [] s (λ _ _ _=>rfl) (R.up s) λ lab' H' _=>aBd⟩
  .exact zAE w
 .exact zAE w
def forL(fg:D->En->Rs En)(b:En->Ou):List D->En->Ou
 |[],ρ=>.nx ρ
 |d::ds,ρ=>match fg d ρ with
  | .ok ρ1=>match b ρ1 with
   | .nx ρ2=>forL fg b ds ρ2
   | .ct ρ2=>forL fg b ds ρ2
   | .bk ρ2=>.nx ρ2
   |o=>o
  |_=>.st
def jW(fi:En->Rs (List D))(fg:D->En->Rs En)(b:En->Ou):En->Ou:=λ ρ=>(fi ρ).bo λ ds=>forL fg b ds ρ
def kY(hi:SI C tg e fi)(hg:SG C tg ks fg)(hb:SSs C ss f)(hs:∀i,∀x,zBT e (C.X i).env x=pure x:=by intro _ _;rfl):SS C (.For tg e ss [] pos) (jW fi fg f):=by
 obtain⟨wi,i1,i2⟩:=hi;obtain⟨gg,g1,g2,_,g4⟩:=hg;obtain⟨tb,b1,b2⟩:=hb;refine⟨_,λ i=>aEm (C.own i) (C.calm i) (i1 i) (g1 i) (b1 i) (hs i),λ U Z H ρ lab De R W=>i2 U Z H ρ lab _ R (W.bo.imp λ ds _ w J H1 lab1 U1 s1 _ R1 jl=>?_)⟩;refine⟨λ i n Z' H'=>∃ρ' lab',RR C.K C.G (U1++U) ρ' Z' H' lab'/\n=ds.length-i/\i<=ds.length/\WS C.K C.G U (forL fg f (ds.drop i) ρ') De,⟨ds.length,ρ,lab1,R1,by lia,by lia,w⟩,?_⟩;rintro i n Z' H' ⟨ρ',lab',R',rfl,hi,w'⟩;have jj:=jl lab' H' λ q hq=>R'.tm q (zAa _ hq)
 by_cases hlt:i<ds.length
 .obtain⟨go,yl⟩:=(jj i).2 hlt
  refine .inr ⟨go,λ Z2 H2=>∃ρ2 lab2,RR C.K C.G (U1++U) ρ2 Z2 H2 lab2/\WS C.K C.G U (forL fg f (ds.drop (i+1)) ρ2) De,λ Z2 H2 ⟨ρ2,lab2,R2,w2⟩=>⟨ds.length-(i+1),by lia,ρ2,lab2,R2,rfl,hlt,w2⟩,λ x H2 hy=>?_⟩;obtain⟨s2,d,ed,rx⟩:=yl x H2 hy;replace R':=R'.up s2;have ed2:ds.drop i=d::ds.drop (i+1):=by
   rw[zBF hlt]
   have:=zAL hlt
   rw[ed]at this;cases this;rfl
  rw[ed2]at w';unfold forL at w';cases eg:fg d ρ' with
  |ex c=>rw[eg]at w';exact zAE w'
  |st=>rw[eg]at w';exact zAE w'
  |ok ρ1=>
   rw[eg]at w';refine g2 (U1++U) x d Z' H2 ρ' lab' _ ρ1 R' rx eg λ Z1 R1'=>b2 (U1++U) Z1 H2 ρ1 lab' _ R1' ?_
   dsimp only at w';cases eb:f ρ1 with
   |nx ρ2=>rw[eb]at w';exact λ Z2 H3 lab2 R2=>⟨ρ2,lab2,R2,w'⟩
   |ct ρ2=>rw[eb]at w';exact λ Z2 H3 lab2 R2=>⟨ρ2,lab2,R2,w'⟩
   |bk ρ2=>rw[eb]at w';exact λ Z2 H3 lab2 R2=>w' Z2 H3 lab2 R2.drop
   |rt d=>rw[eb]at w';exact w'
   |ex c=>rw[eb]at w';exact w'
   |st=>rw[eb]at w';exact w'
 .have e:i=ds.length:=by lia
  subst e;rw[zCV]at w';exact .inl ⟨(jj _).1 (zAP _),w' Z' H' lab' R'.drop⟩
def itW(c:En->Rs Bool)(b:En->Ou):Nat->En->Ou
 |0,_=>.st
 |n+1,ρ=>(c ρ).bo λ k=>if k=true then(match b ρ with
   | .nx ρ2=>itW c b n ρ2
   | .ct ρ2=>itW c b n ρ2
   | .bk ρ2=>.nx ρ2
   |o=>o)else .nx ρ
def fuel:Nat:=1000000
def m8(c:En->Rs Bool)(b:En->Ou):En->Ou:=itW c b fuel
def aA8(hc:ST C c fc)(hb:SSs C ss f):SS C (.While c ss [] pos) (m8 fc f):=by
 obtain⟨tc,c1,c2⟩:=hc;obtain⟨tb,b1,b2⟩:=hb;refine⟨_,λ i=>aAv (C.own i) (c1 i) (b1 i),λ U Z H ρ lab De R W=>?_⟩;refine⟨λ n Z' H'=>∃ρ' lab',RR C.K C.G U ρ' Z' H' lab'/\WS C.K C.G U (itW fc f n ρ') De,⟨fuel,ρ,lab,R,W⟩,?_⟩;rintro n Z' H' ⟨ρ',lab',R',w'⟩;cases n with
 |zero=>exact zAE w'
 |succ n=>
  refine c2 U Z' H' ρ' lab' _ R' (WS.bo (show WS C.K C.G U ((fc ρ').bo _) De from w') |>.imp λ k _ w H1 s1=>?_);cases k with
  |false=>
   rw[if_neg zAI]at w ⊢;exact w Z' H1 lab' (R'.up s1)
  |true=>
   rw[if_pos rfl]at w ⊢;refine⟨λ Z2 H2=>∃ρ2 lab2,RR C.K C.G U ρ2 Z2 H2 lab2/\WS C.K C.G U (itW fc f n ρ2) De,λ Z2 H2 ⟨ρ2,lab2,R2,w2⟩=>⟨n,zDZ n,ρ2,lab2,R2,w2⟩,?_⟩;refine b2 U Z' H1 ρ' lab' _ (R'.up s1) ?_;cases eb:f ρ' with
   |nx ρ2=>rw[eb]at w;exact λ Z2 H3 lab2 R2=>⟨ρ2,lab2,R2,w⟩
   |ct ρ2=>rw[eb]at w;exact λ Z2 H3 lab2 R2=>⟨ρ2,lab2,R2,w⟩
   |bk ρ2=>rw[eb]at w;exact w
   |rt d=>rw[eb]at w;exact w
   |ex c=>rw[eb]at w;exact w
   |st=>rw[eb]at w;exact w
def uG(x:Str)(ga:En->Rs (List D)):En->Ou:=λ ρ=>(ga ρ).bo λ ds=>if ds.length<=zAN then .ex x else .st
def aA9{rest:List Expr}(hd:C.dOk=true)(hm:C.mg x=some (.ref Ca))(hcl:C.G.cl x=Ca)(hC:bK C.K Ca)(ha:SA C m (y6::rest) ga)(he:∀i,zAY (y6::rest) (C.X i).env=(false,eval y6 (C.X i).env)::zAY rest (C.X i).env:=by intro _;rfl)(hplain:∀i,(zCQ cpos (zAY rest (C.X i).env)).any (·.1)=false:=by intro _;rfl)(hdb:Nd x:=by decide)(hg:∀i,Gl (C.X i) x:=by intro _;rfl):SS C (.Raise (some (.Call (.Name x np) (y6::rest) [] cpos)) none pos) (uG x ga):=by
 obtain⟨t,h1,h2⟩:=ha;refine⟨_,λ i=>aAx (C.dcx hd i) (C.calm i) (by rw[(C.cx i).2.2.2.1];exact hm) (by rw[C.hK i];exact hC) (hg i) (h1 i) (he i) (hplain i) hdb,λ U Z H ρ lab De R W=>h2 U Z H ρ lab _ R (W.bo.imp λ ds _ w vs H1 s r=>?_)⟩;by_cases hz:ds.length<=zAN
 .rw[if_pos hz]at w
  refine⟨by rw[r.length];exact hz,?_⟩
  have:=w H1 (R.old.trans s)
  rwa [hcl]at this
 .rw[if_neg hz]at w
  exact zAE w
def spF(K:zAA)(cl:Str->Addr)(n:Nat)(F:List D->Rs D):Sp:=λ vs H Q E=>∃ds,vs.length=n/\Rps K (λ _=>True) H vs ds/\WR ⟨H,E,cl⟩ (F ds) (λ d=>∀v H',aM H H'->Rp K (λ p=>H p=none) H' v d->Q v H')
def bH(F:List D->Rs D)(ga:En->Rs (List D)):En->Rs D:=λ ρ=>(ga ρ).bd F
def aAf{K:zAA}(hn:∀ρ ds,ga ρ= .ok ds->ds.length=n)(h:aDf K G m t ga):jA K G (some []) (vG (spF K G.cl n F) [] G.E t) (bH F ga):=by
 intro U Z H ρ lab Q R W;refine h U Z H ρ lab _ R (W.bd.imp λ ds eds w vs H1 s r=>⟨ds,by rw[zA3,r.length];exact hn ρ ds eds,by rw[zA3];exact r.wk λ _ _ _ _=>trivial,?_⟩);cases hF:F ds with
 |ok d=>
  rw[hF]at w;exact λ v H' s' r'=>w v H' (s.trans s') (r'.wk λ p o _ z=>.inl (s.free z))
 |ex c=>rw[hF]at w;exact λ H' s'=>w H' ((R.old.trans s).trans s')
 |st=>rw[hF]at w;exact w
variable{k:Nat}{fn:Addr}{fd:zAy}{ps:List Str}{x:Str}{p:Pos}{F:List D->Rs D}{n:Nat}
def aCg(hF:dC C.prog C.w C.K C.mg C.base (CX1 C.prog C.w) k fn fd ps (spF C.K C.G.cl n F))(hr:k<=C.k)(hm:C.mg x=some (.ref fn))(hk:zB4 C.K (.ref fn)=true)(hb:Binds C.K fd ps [])(ha:SA C m (e::es) ga)(hn:∀ρ ds,ga ρ= .ok ds->ds.length=n)(hdb:Nd x:=by decide)(he:∀i,zAY (e::es) (C.X i).env=(false,eval e (C.X i).env)::zAY es (C.X i).env:=by intro _;rfl)(hpl:∀i,(zCQ pos (zAY es (C.X i).env)).any (·.1)=false:=by intro _;rfl)(hg:∀i,Gl (C.X i) x:=by intro _;rfl):SE C (some []) (.Call (.Name x p) (e::es) [] pos) (bH F ga):=by
 obtain⟨t,h1,h2⟩:=ha;refine⟨_,λ i=>?_,aAf hn h2⟩;obtain⟨e1,e2,e3,e4,e5⟩:=C.cx i;refine aCx (CX:=CX1 (C.X i).prog (C.X i).w) (by rw[e1,e2,e3,e4,e5];exact hF) ((C.room i).mono hr) (hg i) (by rw[e4];exact hm) (by rw[e3];exact hk) (by rw[e3];exact hb) .nil (C.pass i) (h1 i) hdb (he i) (hpl i)
def aDO(h:aH ρ= .ok ds):ds.length=0:=by cases h;rfl
def aB1(h:∀ρ ds,ga ρ= .ok ds->ds.length=n):∀ρ ds,aA fa ga ρ= .ok ds->ds.length=n+1:=λ ρ ds e=>by
 obtain⟨d,_,e⟩:=bV e;obtain⟨r,er,e⟩:=bV e;cases e;rw[zAq,h ρ r er]
end
def aY(mg:Str->Option Value):Str->Addr:=λ x=>match mg x with
 |some (.ref a)=>a
 |_=>0
abbrev ctD(P:zAS)(w:World)(K:zAA)(mg:Str->Option Value)(base:Heap)(N:List Str)(q:Str)(sc:Scope)(f:Addr)(cdv:Value)(A:zA8)(outer:List Env)(s:zAB)(H:Hp)(E:XK)(k:Nat)(hr:cX k (A.deeper (zC6 q sc s.heap.objs.size f cdv))):Ct where
 ι:=Unit
 X:=λ _=>oX (CX1 P w) P w K mg base N q sc f cdv A outer s H E
 prog:=P
 w:=w
 K:=K
 mg:=mg
 base:=base
 k:=k
 G:=⟨H,E,aY mg⟩
 cx:=λ _=>⟨rfl,rfl,rfl,rfl,rfl⟩
 calm:=λ _=>rfl
 room:=λ _=>hr
 own:=λ _=>cI.own cI.of
 pass:=λ _=>cI.pass cI.of
 dOk:=true
 dcx:=λ _ _=>cI.of
def bC(n:Nat)(ds:List D):En:=ds.map .sh++zAT (n-ds.length) .no
def gR(n:Nat)(f:En->Ou):List D->Rs D:=λ ds=>match f (bC n ds)with
 | .nx _=>.ok .non
 | .rt d=>.ok d
 | .ex c=>.ex c
 |_=>.st
theorem RR.start{K:zAA}(r:Rps K (λ _=>True) H vs ds):RR K ⟨H,E,cl⟩ [] (bC N.length ds) (start N vs) H (λ _=>(0,0)):=by
 have hl:=r.length;refine⟨by unfold bC L2.start;simp[hl],λ i s e=>?_,aM.refl H,λ p hp=>absurd rfl hp,λ q hq=>by cases hq⟩;unfold bC at e;by_cases hi:i<ds.length
 .rw[zAx (by simpa using hi),zAi]at e
  cases ed:ds[i]? with
  |none=>rw[ed]at e;cases e
  |some d=>
   rw[ed]at e;cases e;obtain⟨x,ex,rx⟩:=r.getD ed;refine .inr ⟨x,?_,rx.wk λ _ _ _ _=>zAn _⟩;unfold L2.start;rw[zAx (by simpa[hl]using hi),zAi,ex];rfl
 .rw[zBK (by simpa using hi),zFA]at e
  split at e
  .cases e;exact .inl rfl
  .cases e
section
variable{P:zAS}{w:World}{K:zAA}{mg:Str->Option Value}{base:Heap}
def aFn{x q:Str}{st:Stmt}(F:L2.Fun K x q st fn fd)(S:aq N ps (aF st))
  (hb:∀cdv A outer s H E hr,SSs (ctD P w K mg base N q (aF st) fn cdv A outer s H E k hr) (bY st) f):
  dC P w K mg base (CX1 P w) (k+1) fn fd ps (spF K (aY mg) ps.length (gR N.length f)):=by
 refine F.okX S (λ vs H Q E ⟨ds,hl,_⟩=>hl) λ cdv A outer s H vs Q E hr ⟨ds,hl,r,W⟩=>?_
 obtain⟨t,h1,h2⟩:=hb cdv A outer s H E hr;refine⟨t,h1 (),h2 [] _ H _ _ _ (RR.start r) ?_⟩;unfold gR at W;cases e:f (bC N.length ds)with
 |nx ρ=>rw[e]at W;exact λ Z' H' lab R=>W .non H' R.old .non
 |rt d=>rw[e]at W;exact λ v H' s r=>W v H' s r
 |ex c=>rw[e]at W;exact W
 |bk ρ=>rw[e]at W;exact zAE W
 |ct ρ=>rw[e]at W;exact zAE W
 |st=>rw[e]at W;exact zAE W
def aD7{st:Stmt}(F:L2.Fun K x q st fn fd)(S:aq N ps (aF st))
  (hb:∀cdv A outer s H E hr,SSs (ctD P w K mg base N q (aF st) fn cdv A outer s H E k hr) (bY st) f)(hn:ps.length=n)(hF:gR N.length f=FF):
  dC P w K mg base (CX1 P w) (k+1) fn fd ps (spF K (aY mg) n FF):=by
 subst hn hF;exact aFn F S hb
end
def OpR.or(h:OpR X f r)(h':OpR X f r'):OpR X f (λ x y H Q=>r x y H Q\/r' x y H Q):=by
 intro pins s Z H x y v u Q I rx ry q;rcases q with q|q
 .exact h pins s Z H x y v u Q I rx ry q
 .exact h' pins s Z H x y v u Q I rx ry q
def OpS.or{K:zAA}(h:OpS K r fd)(h':OpS K r' fd'):OpS K (λ x y H Q=>r x y H Q\/r' x y H Q) (λ d e=>match fd d e with
  | .ok z=>.ok z
  |_=>fd' d e):=by
 intro A x y d e H Q z rx ry ez q;dsimp only at ez;cases hd:fd d e with
 |ok w=>rw[hd]at ez;cases ez;exact .inl (h A x y d e H Q _ rx ry hd q)
 |ex c=>rw[hd]at ez;exact .inr (h' A x y d e H Q z rx ry ez q)
 |st=>rw[hd]at ez;exact .inr (h' A x y d e H Q z rx ry ez q)
section
variable{K:zAA}
def i2(p:Int->Int->Bool)(g:Int->Int->D):D->D->Rs D
 | .int i,.int j=>if p i j=true then .ok (g i j)else .st
 |_,_=>.st
def wz{g:Int->Int->Int}(hp:∀i j,p i j=true->c i j):OpS K (rI c λ i j=>.int (g i j)) (i2 p λ i j=>.int (g i j)):=by
 intro A x y d e H Q z rx ry ez q;unfold i2 at ez;split at ez
 .rename_i i j
  split at ez
  .rename_i h
   cases ez;obtain rfl:=rx.int_inv;obtain rfl:=ry.int_inv;exact⟨i,j,rfl,rfl,hp i j h,q _ H (aM.refl H) (.int _)⟩
  .cases ez
 .cases ez
def aDB{g:Int->Int->Int}:OpS K (rI0 λ i j=>.int (g i j)) (i2 (λ _ _=>true) λ i j=>.int (g i j)):=by
 intro A x y d e H Q z rx ry ez q;unfold i2 at ez;split at ez
 .rename_i i j
  cases ez;obtain rfl:=rx.int_inv;obtain rfl:=ry.int_inv;exact⟨i,j,rfl,rfl,q _ H (aM.refl H) (.int _)⟩
 .cases ez
def uK{g:Int->Int->Bool}:OpS K (rI0 λ i j=>.bl (g i j)) (i2 (λ _ _=>true) λ i j=>.bl (g i j)):=by
 intro A x y d e H Q z rx ry ez q;unfold i2 at ez;split at ez
 .rename_i i j
  cases ez;obtain rfl:=rx.int_inv;obtain rfl:=ry.int_inv;exact⟨i,j,rfl,rfl,q _ H (aM.refl H) (.bl _)⟩
 .cases ez
def ud{g:Int->Int->Int}:∀x y z,i2 p (λ i j=>.int (g i j)) x y= .ok z->imm z=true:=by
 intro x y z e;unfold i2 at e;split at e
 .split at e
  .cases e;rfl
  .cases e
 .cases e
def aFb{g:Int->Int->Bool}:∀x y z,i2 p (λ i j=>.bl (g i j)) x y= .ok z->imm z=true:=by
 intro x y z e;unfold i2 at e;split at e
 .split at e
  .cases e;rfl
  .cases e
 .cases e
def bJ:D->D->Rs D
 | .int i,.int j=>.ok (.int (i+j))
 | .lst l,.lst m=>if l.length+m.length<=zAN then .ok (.lst (l++m))else .st
 | .tup l,.tup m=>if l.length+m.length<=zAN then .ok (.tup (l++m))else .st
 |_,_=>.st
def aEA(K:zAA):R2:=λ x y H Q=>∃a b xs ys,x= .ref a/\y= .ref b/\SqT K H a xs/\SqT K H b ys/\xs.length+ys.length<=zAN/\
 (xs=[]->Q (.ref b) H)/\(ys=[]->Q (.ref a) H)/\New H (.tup (xs++ys)) Q
def aDF:OpR X (zBv .Add) (aEA X.K):=by
 intro pins s Z H x y v u Q I rx ry h;obtain⟨a,b,xs,ys,rfl,rfl,ha,hb,hz,q0,q1,q2⟩:=h;by_cases hx:xs=[]
 .subst hx
  cases rx;cases ry;obtain⟨its,r1,p1,_⟩:=I.tuple ha;obtain⟨its2,r2,p2,_⟩:=I.tuple hb;cases r1;exact HT.aCE p1 p2 ⟨.ref b,H,I,rfl,q0 rfl⟩
 .exact aDG pins s Z H _ _ v u Q I rx ry ⟨a,b,xs,ys,rfl,rfl,ha,hb,hx,hz,q1,λ _ p hp=>q2.at hp⟩
def aAr(K:zAA):R2:=λ x y H Q=>rI0 (λ i j=>.int (i+j)) x y H Q\/(aAq x y H Q\/aEA K x y H Q)
def aDH:OpR X (zBv .Add) (aAr X.K):=OpR.or aFQ (OpR.or uL aDF)
def aFF:OpS K (aAr K) bJ:=by
 intro A x y d e H Q z rx ry ez q;unfold bJ at ez;split at ez
 .cases ez;obtain rfl:=rx.int_inv;obtain rfl:=ry.int_inv;exact .inl ⟨_,_,rfl,rfl,q _ H (aM.refl H) (.int _)⟩
 .split at ez
  .rename_i hl
   cases ez;obtain⟨_,_,rfl,h1,m1,r1⟩:=rx.lst_inv;obtain⟨_,_,rfl,h2,m2,r2⟩:=ry.lst_inv;refine .inr (.inl ⟨_,_,_,_,rfl,rfl,h1,h2,by rw[r1.length,r2.length];exact hl,λ p H' s hp hn=>q _ H' s (.lst hp (.inl hn) ?_)⟩);exact(((r1.wk λ _ _ _ z=>z.1).append (r2.wk λ _ _ _ z=>z.1)).wk (A':=λ q=>(H q=none\/A q)/\q≠p) λ q o e z=>⟨.inr z,λ e'=>by subst e';rw[hn]at e;cases e⟩).up s
  .cases ez
 .split at ez
  .rename_i hl
   cases ez;obtain⟨_,_,rfl,h1,r1⟩:=rx.tup_inv;obtain⟨_,_,rfl,h2,r2⟩:=ry.tup_inv;have r1':=r1.wk (A':=λ p=>H p=none\/A p) λ _ _ _ z=>.inr z
   have r2':=r2.wk (A':=λ p=>H p=none\/A p) λ _ _ _ z=>.inr z
   refine .inr (.inr ⟨_,_,_,_,rfl,rfl,h1,h2,by rw[r1.length,r2.length];exact hl,λ e=>?_,λ e=>?_,λ p H' s hp hn=>q _ H' s (.tup (SqT.of hp) ((r1'.append r2').up s))⟩)
   .subst e
    cases r1';exact q _ H (aM.refl H) (.tup h2 r2')
   .subst e
    cases r2';rw[zA3]at q;exact q _ H (aM.refl H) (.tup h1 r1')
  .cases ez
 .cases ez
def dm:D->D->Rs D
 | .int i,.int j=>if (decide (-(2^64)<i)&&decide (i<2^64))||(decide (-(2^64)<j)&&decide (j<2^64))then .ok (.int (i*j))else .st
 | .lst l,.int k=>if decide (-(2^63)<=k)&&decide (k<2^63)&&decide (l.length*k.toNat<=zAN)&&gZ l then .ok (.lst (zAT k.toNat l).flatten)else .st
 |_,_=>.st
theorem Rps.rep(r:Rps K A H xs ds):∀k:Nat,Rps K A H (zAT k xs).flatten (zAT k ds).flatten
 |0=>.nil
 |k+1=>by
  rw[zBA,zBA,zBR,zBR];exact r.append (Rps.rep r k)
def aDx:R2:=λ x y H Q=>rI aDj (λ i j=>.int (i*j)) x y H Q\/aGY x y H Q
def aDD:OpR X (zBv .Mult) aDx:=OpR.or aFK aFH
def aFD:OpS K aDx dm:=by
 intro A x y d e H Q z rx ry ez q;unfold dm at ez;split at ez
 .split at ez
  .rename_i hc
   cases ez;obtain rfl:=rx.int_inv;obtain rfl:=ry.int_inv;refine .inl ⟨_,_,rfl,rfl,?_,q _ H (aM.refl H) (.int _)⟩;simp only[zE2,zAO,decide_eq_true_eq]at hc;exact hc
  .cases ez
 .split at ez
  .rename_i hc
   simp only[zAO,decide_eq_true_eq]at hc;cases ez;obtain⟨_,_,rfl,h1,m1,r1⟩:=rx.lst_inv;obtain rfl:=ry.int_inv;refine .inr ⟨_,_,_,rfl,rfl,h1,hc.1.1.1,hc.1.1.2,by rw[r1.length];exact hc.1.2,λ p hp=>q _ _ (bh hp _) (.lst aj (.inl hp) ?_)⟩;exact((r1.rep _).wk (A':=λ q=>(H q=none\/A q)/\q≠p) λ q o e z=>⟨.inr z.1,λ e'=>by subst e';rw[hp]at e;cases e⟩).up (bh hp _)
  .cases ez
 .cases ez
def intsOf:List D->Option (List Int)
 |[]=>some []
 | .int i::r=>(intsOf r).map (i::·)
 |_=>none
theorem jT:∀{l:List D} {ns:List Int},intsOf l=some ns->l=ns.map .int
 |[],ns,h=>by cases h;rfl
 | .int i::r,ns,h=>by
  simp only[intsOf,Option.map_eq_some_iff]at h;obtain⟨ms,h1,rfl⟩:=h;rw[jT h1];rfl
 | .non::_,_,h=>by cases h
 | .bl _::_,_,h=>by cases h
 | .str _::_,_,h=>by cases h
 | .tup _::_,_,h=>by cases h
 | .lst _::_,_,h=>by cases h
 | .dct _ _::_,_,h=>by cases h
 | .set _::_,_,h=>by cases h
 | .scr _::_,_,h=>by cases h
theorem qX:∀ns:List Int,intsOf (ns.map .int)=some ns
 |[]=>rfl
 |n::ns=>by simp only[zAj,intsOf,qX ns,zDB]
def ltT(p:List Int->List Int->Bool):D->D->Rs D
 | .tup l,.tup m=>match intsOf l,intsOf m with
  |some ns,some ms=>.ok (.bl (p ns ms))
  |_,_=>.st
 |_,_=>.st
def yV(r:Rp K A H x (.tup l))(e:intsOf l=some ns):∃a,x= .ref a/\SqT K H a (ns.map V.int):=by
 have:=jT e
 subst this;cases r with
 |tup h r=>
  have:=r.ints_of
  subst this;exact⟨_,rfl,h⟩
def aCz(hr:∀x y H Q,(∃a b ns ms,x= .ref a/\y= .ref b/\SqT K H a (ns.map V.int)/\SqT K H b (ms.map V.int)/\Q (.bl (p ns ms)) H)->r x y H Q):OpS K r (ltT p):=by
 intro A x y d e H Q z rx ry ez q;unfold ltT at ez;split at ez
 .split at ez
  .rename_i ns ms e1 e2
   cases ez;obtain⟨a,rfl,ha⟩:=yV rx e1;obtain⟨b,rfl,hb⟩:=yV ry e2;exact hr _ _ _ _ ⟨a,b,ns,ms,rfl,rfl,ha,hb,q _ H (aM.refl H) (.bl _)⟩
  .cases ez
 .cases ez
def ltD:D->D->Rs D:=λ d e=>match i2 (λ _ _=>true) (λ i j=>.bl (decide (i<j))) d e with
 | .ok z=>.ok z
 |_=>ltT HT.lexLt d e
def gtD:D->D->Rs D:=i2 (λ _ _=>true) (λ i j=>.bl (decide (j<i)))
def geD:D->D->Rs D:=i2 (λ _ _=>true) (λ i j=>.bl (decide (j<=i)))
def aFM(hu:X.A.units<cLine):OpR X (zB2 .Lt) (λ x y H Q=>rI0 (λ i j=>.bl (decide (i<j))) x y H Q\/aCj X.K x y H Q):=OpR.or aG8 (aFN hu)
def aG5:OpS K (λ x y H Q=>rI0 (λ i j=>.bl (decide (i<j))) x y H Q\/aCj K x y H Q) ltD:=OpS.or uK (aCz λ _ _ _ _ h=>h)
def atD(l:List D)(i:Int):Rs D:=match atI l i with
 |some d=>.ok d
 |none=>.st
def ixD:D->D->Rs D
 | .tup l,.int i=>atD l i
 | .lst l,.int i=>atD l i
 | .scr l,.int i=>atD (l.map .int) i
 |_,_=>.st
theorem Rps.at(r:Rps K A H xs ds)(e:atI ds i=some d):∃x,atI xs i=some x/\Rp K A H x d:=by
 unfold atI at e ⊢;rw[r.length];cases h:ixN ds.length i with
 |none=>rw[h]at e;cases e
 |some j=>
  rw[h]at e;obtain⟨x,e1,e2⟩:=r.getD (i:=j) (d:=d) e;exact⟨x,e1,e2⟩
def aG6:OpS K (rIx K) ixD:=by
 intro A x y d e H Q z rx ry ez q;unfold ixD at ez;split at ez
 .unfold atD at ez
  split at ez
  .rename_i w hw
   cases ez;obtain⟨_,_,rfl,h,r⟩:=rx.tup_inv;obtain rfl:=ry.int_inv;obtain⟨v,e1,e2⟩:=r.at hw;exact .inr (.inl ⟨_,_,_,v,rfl,rfl,h,e1,q v H (aM.refl H) (e2.wk λ _ _ _ z=>.inr z)⟩)
  .cases ez
 .unfold atD at ez
  split at ez
  .rename_i w hw
   cases ez;obtain⟨_,_,rfl,h,m,r⟩:=rx.lst_inv;obtain rfl:=ry.int_inv;obtain⟨v,e1,e2⟩:=r.at hw;exact .inl ⟨_,_,_,v,rfl,rfl,SqL.of h,e1,q v H (aM.refl H) (e2.wk λ _ _ _ z=>.inr z.1)⟩
  .cases ez
 .unfold atD at ez
  split at ez
  .rename_i w hw
   cases ez;obtain⟨_,rfl,h⟩:=rx.scr_inv;obtain rfl:=ry.int_inv;obtain⟨v,e1,e2⟩:=(Rps.ints (K:=K) (A:=A) (H:=H)).at hw;exact .inl ⟨_,_,_,v,rfl,rfl,h.sq,e1,q v H (aM.refl H) (e2.wk λ _ _ _ z=>.inr z)⟩
  .cases ez
 .cases ez
def jq:List D->Rs D
 |[.tup l]=>.ok (.int l.length)
 |[.lst l]=>.ok (.int l.length)
 |[.scr l]=>.ok (.int l.length)
 |_=>.st
def aFs:tH K (λ xs H Q=>∃p ys,xs=[.ref p]/\(SqL K H p ys\/SqT K H p ys)/\Q (.int ys.length) H) jq:=by
 intro A xs ds H Q z r ez q;unfold jq at ez;split at ez
 .cases ez
  obtain⟨_,rfl,h0⟩:=r.one_inv;obtain⟨_,_,rfl,h,r⟩:=h0.tup_inv;exact⟨_,_,rfl,.inr h,by rw[r.length];exact q _ H (aM.refl H) (.int _)⟩
 .cases ez
  obtain⟨_,rfl,h0⟩:=r.one_inv;obtain⟨_,_,rfl,h,m,r⟩:=h0.lst_inv;exact⟨_,_,rfl,.inl (SqL.of h),by rw[r.length];exact q _ H (aM.refl H) (.int _)⟩
 .cases ez
  obtain⟨_,rfl,h0⟩:=r.one_inv;obtain⟨_,rfl,h⟩:=h0.scr_inv;exact⟨_,_,rfl,.inl h.sq,by rw[zAH];exact q _ H (aM.refl H) (.int _)⟩
 .cases ez
def aD1:∀x z,jq x= .ok z->imm z=true:=by
 intro x z e;unfold jq at e;split at e<;>first|(cases e;rfl)|cases e
def tyD:D->String
 | .non=>"NoneType"| .bl _=>"bool"| .int _=>"int"| .str _=>"str"| .tup _=>"tuple"| .lst _=>"list"| .dct _ _=>"dict"| .set _=>"set"| .scr _=>"script"| .fn _=>"function"
def qT(T:String):D->Rs D:=λ d=>if jy (tyD d) T true=true then .ok (.bl true)else if jy (tyD d) T false=true then .ok (.bl false)else .st
def aDy(K:zAA)(T:String):List V->Hp->VK->Prop:=λ xs H Q=>∃x d A b,xs=[x,.ty T]/\Rp K A H x d/\jy (tyD d) T b=true/\Q (.bl b) H
def aAI:jH X (.builtin "isinstance") (aDy X.K T):=by
 intro pins s Z H xs us Q I rv h;obtain⟨x,d,A,b,rfl,rd,ok,q⟩:=h;cases rd with
 |tup h r=>
  obtain⟨u,w',rfl,ru,rw'⟩:=vals2 rv;cases ru;cases rw';obtain⟨its,_,⟨o,h1,h2,_⟩,_⟩:=I.tuple h;exact zBC zFT I.kIn ⟨o,h1,h2⟩ (xU ok) (λ z=>nomatch z) λ tk=>⟨.bl b,H,I.tok _,rfl,q⟩
 |set h m hS nd=>cases b<;>simp[jy,tyD]at ok
 |scr h=>cases b<;>simp[jy,tyD]at ok
 |fn h=>cases b<;>simp[jy,tyD]at ok
 |non=>exact iH pins s Z H _ us Q I rv ⟨_,T,_,b,rfl,.non,ok,q⟩
 |bl c=>exact iH pins s Z H _ us Q I rv ⟨_,T,_,b,rfl,.bl c,ok,q⟩
 |int c=>exact iH pins s Z H _ us Q I rv ⟨_,T,_,b,rfl,.int c,ok,q⟩
 |str c=>exact iH pins s Z H _ us Q I rv ⟨_,T,_,b,rfl,.str c,ok,q⟩
 |lst h m r=>exact iH pins s Z H _ us Q I rv ⟨_,T,_,b,rfl,.lst h,ok,q⟩
 |dK h m r=>exact iH pins s Z H _ us Q I rv ⟨_,T,_,b,rfl,.dK h,ok,q⟩
 |dT h m r=>
  obtain⟨u,w',rfl,ru,rw'⟩:=vals2 rv;cases ru;cases rw';obtain⟨⟨_,_,_,o,_,_,_,h1,h2,_⟩,_⟩:=(show cH X.prog X.w H s.heap _ (dxO _ _)from I.hok _ _ h.at_);exact zBC zDr I.kIn ⟨o,h1,h2.1⟩ (xU ok) (λ z=>nomatch z) λ tk=>⟨.bl b,H,I.tok _,rfl,q⟩
end
section
variable{C:Ct}{pos p p2:Pos}{m:Mode}{a:Expr}{fa:En->Rs D}
def uC(ha:SE C m a fa)(hm:C.mg "isinstance"=none)(hmT:C.mg x=none)(hn:x≠"__name__":=by decide)(hd:Nd x:=by decide)(he:∀i,zAY [a,.Name x p2] (C.X i).env=(false,eval a (C.X i).env)::zAY [.Name x p2] (C.X i).env:=by intro _;rfl)(hpl:∀i,(zCQ pos (zAY [.Name x p2] (C.X i).env)).any (·.1)=false:=by intro _;rfl)(hg:∀i,Gl (C.X i) "isinstance":=by intro _;rfl)(hv:zB5 "isinstance"=some (.builtin "isinstance"):=by decide+kernel)(hgT:∀i,Gl (C.X i) x:=by intro _;rfl)(hvT:zB5 x=some (.type T):=by decide+kernel):
  SE C (some []) (.Call (.Name "isinstance" p) [a,.Name x p2] [] pos) (op1 (qT T) fa):=by
 obtain⟨t,h1,h2⟩:=ha;refine⟨tCB (aDy C.K T) (jE t (jE (tC (.ty T)) qx)),λ i=>?_,λ U Z H ρ lab Q R W=>?_⟩
 .rw[<-C.hK i]
  exact mD aAI (hg i) (by rw[(C.cx i).2.2.2.1];exact hm) hv (aV (h1 i) (aV (yf (v:=.ty T) (hgT i) (by rw[(C.cx i).2.2.2.1];exact hmT) hvT rfl hn hd) cg) (he i)) (by decide) (by decide) (he i) (hpl i)
 .refine h2 U Z H ρ lab _ R (W.bd.imp λ d _ w x H1 s1 r1=>?_)
  obtain⟨z,ez,w⟩:=w.okD;unfold qT at ez;split at ez
  .rename_i h;cases ez;exact⟨x,d,_,true,rfl,r1,h,w _ H1 s1 (.bl _)⟩
  .split at ez
   .rename_i h;cases ez;exact⟨x,d,_,false,rfl,r1,h,w _ H1 s1 (.bl _)⟩
   .cases ez
end
def vC:Slot->Slot
 | .ow d=>.sh d
 | .nw d=>.sh d
 | .oz d=>.sh d
 | .o2 l=>.sh (.lst (l.map .lst))
 |s=>s
def shE(ρ:En):En:=ρ.map vC
def stV(js:List (Option Nat))(Z:L2.St):L2.St:=js.map λ o=>o.bind λ j=>(Z[j]?).join
def stE(js:List (Option Nat))(ρ:En):En:=js.map λ o=>match o with
 |none=>.no
 |some j=>(ρ[j]?).getD .no
def aCi{K:zAA}(h:cR K H lab i v s):∃d,(s= .no\/vC s= .sh d)/\(s= .no\/Rp K (λ _=>True) H v d):=by
 cases s with
 |no=>exact⟨.non,.inl rfl,.inl rfl⟩
 |sh d=>exact⟨d,.inr rfl,.inr (Rp.wk (λ _ _ _ _=>trivial) h)⟩
 |nw d=>exact⟨d,.inr rfl,.inr (Rp.wk (λ _ _ _ _=>trivial) h)⟩
 |ow d=>exact⟨d,.inr rfl,.inr (Rp.wk (λ _ _ _ _=>trivial) h.1)⟩
 |oz d=>exact⟨d,.inr rfl,.inr (Rp.wk (λ _ _ _ _=>trivial) (aEF h))⟩
 |o2 l=>exact⟨_,.inr rfl,.inr (Rp.wk (λ _ _ _ _=>trivial) (yh h))⟩
theorem RR.shE{K:zAA}(R:RR K G U ρ Z H lab):RR K G U (shE ρ) Z H (λ _=>(0,0)):=by
 refine⟨by unfold VL.shE;rw[zAH];exact R.len,λ i s e=>?_,R.old,λ p hp=>absurd rfl hp,λ q hq=>(R.tm q hq).wk λ _ _ _ _=>zAn _⟩;unfold VL.shE at e;rw[zAi]at e;cases e0:ρ[i]? with
 |none=>rw[e0]at e;cases e
 |some s0=>
  rw[e0]at e;cases e;rcases R.sl i s0 e0 with rfl|⟨v,ev,hv⟩
  .exact .inl rfl
  .obtain⟨d,h1,h2⟩:=aCi hv
   rcases h1 with rfl|h1
   .exact .inl rfl
   .rcases h2 with rfl|h2
    .exact .inl rfl
    .exact .inr ⟨v,ev,by rw[h1];exact h2.wk λ _ _ _ _=>zAn _⟩
def tV{i:Nat}(e:(stE js ρ)[i]? =some s):s= .no\/∃j,js[i]? =some (some j)/\ρ[j]? =some s:=by
 unfold stE at e;rw[zAi]at e;cases ej:js[i]? with
 |none=>rw[ej]at e;cases e
 |some o=>
  rw[ej]at e;cases o with
  |none=>cases e;exact .inl rfl
  |some j=>
   cases er:ρ[j]? with
   |none=>simp[er]at e;exact .inl e.symm
   |some s'=>simp[er]at e;subst e;exact .inr ⟨j,rfl,er⟩
def RR.block{K:zAA}{U:List (V×D)}(R:RR K G U (VL.shE ρ) Z H lab)(hz:∀p,(lab p).1<=1)(hl:H l=none):
  RR K G U (stE js (VL.shE ρ)) (stV js Z) H (λ p=>if p=l then(2,0)else(0,0)):=by
 have nl:∀p o,H p=some o->p≠l:=λ p o e z=>by subst z;rw[hl]at e;cases e
 refine⟨by unfold stE stV;rw[zAH,zAH],λ i s e=>?_,R.old,λ p hp=>?_,λ q hq=>(R.tm q hq).wk λ p o e _=>by rw[if_neg (nl p o e)];exact zAn _⟩
 .rcases tV e with rfl|⟨j,ej,es⟩
  .exact .inl rfl
  .rcases R.sl j s es with rfl|⟨v,ev,hv⟩
   .exact .inl rfl
   .refine .inr ⟨v,?_,?_⟩
    .unfold stV
     rw[zAi,ej];simp[ev]
    .unfold VL.shE at es
     rw[zAi]at es;cases e0:ρ[j]? with
     |none=>rw[e0]at es;cases es
     |some s0=>
      rw[e0]at es;cases es;cases s0 with
      |no=>trivial
      |oz d=>exact Rp.wk (λ p o e _=>by show(if p=l then((2,0):Nat×Nat)else(0,0)).1<=1;rw[if_neg (nl p o e)];exact zAn _) hv
      |nw d=>exact Rp.wk (λ p o e _=>by show(if p=l then((2,0):Nat×Nat)else(0,0)).1<=1;rw[if_neg (nl p o e)];exact zAn _) hv
      |sh d=>exact Rp.wk (λ p o e _=>by show(if p=l then((2,0):Nat×Nat)else(0,0)).1<=1;rw[if_neg (nl p o e)];exact zAn _) hv
      |ow d=>exact Rp.wk (λ p o e _=>by show(if p=l then((2,0):Nat×Nat)else(0,0)).1<=1;rw[if_neg (nl p o e)];exact zAn _) hv
      |o2 d=>exact Rp.wk (λ p o e _=>by show(if p=l then((2,0):Nat×Nat)else(0,0)).1<=1;rw[if_neg (nl p o e)];exact zAn _) hv
 .by_cases hp':p=l
  .subst hp';exact R.old.free hl
  .exact absurd (show(if p=l then((2,0):Nat×Nat)else(0,0)).1=0 by rw[if_neg hp']) hp
def aHO(XN N:List Str)(js:List (Option Nat))(ks:List Nat)(sc:Scope):Bool:=(zBG js.length).all λ i=>match js[i]? with
 |some (some j)=>match N[i]?,XN[j]? with
  |some x,some y=>x==y&&sc.names.lookup x==some .free&& !ks.contains i
  |_,_=>false
 |_=>true
def xu(h1:sc.kind= .function)(h2:(sc.names.all λ y=>y.2 != .cell||sc.names.lookup y.1==some .cell)=true)(h3:(sc.names.all λ y=>y.2 != .local||sc.names.lookup y.1==some .local)=true)
  (h4:(sc.names.all λ y=>y.2 != .free||(X.env.kindOf y.1==some .cell||X.env.kindOf y.1==some .free))=true)(h5:js.length=N.length)(h6:aHO X.N N js ks sc=true):dj X sc N (stV js) ks:=by
 refine⟨h1,λ y hy e=>?_,λ y hy e=>?_,λ y hy e=>?_,λ Z=>by unfold stV;rw[zAH];exact h5,λ Z i x v e1 e2=>?_⟩
 .have:=zBP.mp h2 y hy
  rw[e]at this;simpa using this
 .have:=zBP.mp h3 y hy
  rw[e]at this;simpa using this
 .have:=zBP.mp h4 y hy
  rw[e]at this;simpa using this
 .unfold stV at e2
  rw[zAi]at e2;cases ej:js[i]? with
  |none=>rw[ej]at e2;cases e2
  |some o=>
   rw[ej]at e2;cases o with
   |none=>cases e2
   |some j=>
    have hi:i<js.length:=(zA4.mp ej).1
    have:=zBP.mp h6 i (zBs.mpr hi)
    rw[ej,e1]at this;dsimp only at this;cases ey:X.N[j]? with
    |none=>rw[ey]at this;cases this
    |some y=>
     rw[ey]at this;simp only[zAO,beq_iff_eq,zEC]at this;obtain⟨⟨h,h'⟩,h''⟩:=this;subst h;refine⟨h',λ hk=>?_,j,ey,?_⟩
     .rw[List.contains_iff_mem.mpr hk]at h'';cases h''
     .simp only[zDB,zBZ,zDa]at e2
      cases es:Z[j]? with
      |none=>rw[es]at e2;cases e2
      |some w=>rw[es]at e2;simp at e2;subst e2;rfl
abbrev Ct.blk(C:Ct)(sc:Scope)(N:List Str):Ct where
 ι:=C.ι×Addr×List Addr×zAB×Hp
 X:=λ i=>(C.X i.1).block sc i.2.1 N i.2.2.1 i.2.2.2.1 i.2.2.2.2
 prog:=C.prog
 w:=C.w
 K:=C.K
 mg:=C.mg
 base:=C.base
 k:=C.k
 G:={C.G with E:=λ _ _ _=>False}
 cx:=λ i=>C.cx i.1
 calm:=λ i=>C.calm i.1
 room:=λ i=>C.room i.1
 own:=λ i=>PassesOwn.never
 pass:=λ i pins Z H s e s' I h=>by obtain⟨_,_,_,_,_,_,_,_,_,_,_,_,_,hE⟩:=h;exact hE
 dOk:=false
 dcx:=λ h=>absurd h zAI
def lcL(ρ:En)(fg:D->En->Rs En)(ft:En->Rs Bool)(fe:En->Rs D):List D->Rs (List D)
 |[]=>.ok []
 |d::ds=>(fg d ρ).bd λ ρ1=>(ft ρ1).bd λ k=>if k=true then(fe ρ1).bd λ y=>(lcL ρ fg ft fe ds).bd λ ys=>.ok (y::ys)else lcL ρ fg ft fe ds
def lcD(fi:En->Rs (List D))(js:List (Option Nat))(fg:D->En->Rs En)(ft:En->Rs Bool)(fe:En->Rs D):En->Rs D:=λ ρ=>(fi (shE ρ)).bd λ ds=>
 if ds.length<zAN then(match lcL (stE js (shE ρ)) fg ft fe ds with
  | .ok l=>.ok (.lst l)
  |_=>.st)else .st
def aCL(C:Ct)(ifs:List Expr)(f:En->Rs Bool):Prop:=∃t,(∀i,yE (C.X i) ifs t)/\wH C.K C.G t f
def cj:En->Rs Bool:=λ _=>.ok true
def pN:aCL C [] cj:=⟨_,λ _=>aEs,λ U Z H ρ lab Q R W=>W H (aM.refl H)⟩
def qQ(h:lcL ρ fg ft fe (d::ds)= .ok l):
  ∃ρ1 k,fg d ρ= .ok ρ1/\ft ρ1= .ok k/\((k=true/\∃y ys,fe ρ1= .ok y/\lcL ρ fg ft fe ds= .ok ys/\l=y::ys)\/(k=false/\lcL ρ fg ft fe ds= .ok l)):=by
 unfold lcL at h;obtain⟨ρ1,e1,h⟩:=bV h;obtain⟨k,e2,h⟩:=bV h;refine⟨ρ1,k,e1,e2,?_⟩;cases k with
 |true=>
  rw[if_pos rfl]at h;obtain⟨y,e3,h⟩:=bV h;obtain⟨ys,e4,h⟩:=bV h;cases h;exact .inl ⟨rfl,y,ys,e3,e4,rfl⟩
 |false=>
  rw[if_neg zAI]at h;exact .inr ⟨rfl,h⟩
def RR.but_blk{K:zAA}{U:List (V×D)}(R:RR K G U (stE js (VL.shE ρ)) Z H (λ p=>if p=l then(2,0)else(0,0)))(B:jC l H H')(hl:H l=some o)(ho:fP o=true)(h0:G.H0 l=none):
  RR K G U (stE js (VL.shE ρ)) Z H' (λ p=>if p=l then(2,0)else(0,0)):=by
 have lab1l:¬((λ p=>if p=l then((2,0):Nat×Nat)else(0,0)) l).1<=1:=by simp
 refine⟨R.len,λ j s e=>?_,λ b o hb=>?_,R.new,λ q hq=>(R.tm q hq).but B hl ho lab1l⟩
 .rcases R.sl j s e with z|⟨u,e1,e2⟩
  .exact .inl z
  .refine .inr ⟨u,e1,?_⟩
   rcases tV e with rfl|⟨jx,ej,es⟩
   .trivial
   .unfold VL.shE at es
    rw[zAi]at es;cases e0:ρ[jx]? with
    |none=>rw[e0]at es;cases es
    |some s0=>rw[e0]at es;cases es;cases s0<;>first|trivial|exact Rp.but B hl ho lab1l e2
 .exact B b o (λ z=>by subst z;rw[h0]at hb;cases hb) (R.old b o hb)
def RR.blk0{K:zAA}(R:RR K G U (VL.shE ρ) Z H lab)(hG:G'.H0=G.H0):RR K G' U (VL.shE ρ) Z H (λ _=>(0,0)):=by
 refine⟨R.len,λ i s e=>?_,by rw[hG];exact R.old,λ p hp=>absurd rfl hp,λ q hq=>(R.tm q hq).wk λ _ _ _ _=>zAn _⟩;rcases R.sl i s e with rfl|⟨v,ev,hv⟩
 .exact .inl rfl
 .unfold VL.shE at e
  rw[zAi]at e;cases e0:ρ[i]? with
  |none=>rw[e0]at e;cases e
  |some s0=>rw[e0]at e;cases e;cases s0<;>first|exact .inl rfl|exact .inr ⟨v,ev,Rp.wk (λ _ _ _ _=>zAn _) hv⟩
section
variable{K:zAA}{G:Gx}{wi:TI}{fi:En->Rs (List D)}{js:List (Option Nat)}{g:TG}{fg:D->En->Rs En}{tt:TT}{ft:En->Rs Bool}{te:TE}{fe:En->Rs D}
def aE3(hi:aCJ K G wi fi)(hg:aCK K {G with E:=λ _ _ _=>False} g fg)(ht:wH K {G with E:=λ _ _ _=>False} tt ft)(he:jA K {G with E:=λ _ _ _=>False} (some []) te fe):
  jA K G (some []) (tLC wi (stV js) g tt te) (lcD fi js fg ft fe):=by
 intro U Z H ρ lab Q R W;refine hi U Z H _ _ _ R.shE (W.bd.imp λ ds _ w J H1 lab1 U1 s1 _ R1 jl=>?_);intro l hl;obtain⟨hlen,out,hout,w⟩:ds.length<zAN/\∃out,lcL (stE js (VL.shE ρ)) fg ft fe ds= .ok out/\QE K (some []) lab H Q (.lst out):=by
  by_cases hlen:ds.length<zAN
  .rw[if_pos hlen]at w
   cases hout:lcL (stE js (VL.shE ρ)) fg ft fe ds with
   |ok out=>rw[hout]at w;exact⟨hlen,out,rfl,w⟩
   |ex c=>rw[hout]at w;exact zAE w
   |st=>rw[hout]at w;exact zAE w
  .rw[if_neg hlen]at w
   exact zAE w
 have R0:RR K {G with E:=λ _ _ _=>False} (U1++U) (VL.shE ρ) Z H1 (λ _=>(0,0)):=R1.blk0 rfl;have RB:=R0.block (js:=js) (λ _=>zAn _) hl;have hHl:H l=none:=s1.free hl;have lab1l:¬((λ p=>if p=l then((2,0):Nat×Nat)else(0,0)) l).1<=1:=by simp
 refine⟨λ i n acc H2=>∃pre,n=ds.length-i/\i<=ds.length/\H2 l=some (.lst acc)/\RR K {G with E:=λ _ _ _=>False} (U1++U) (stE js (VL.shE ρ)) (stV js Z) H2 (λ p=>if p=l then(2,0)else(0,0))/\aM H H2/\acc.length<=i/\
  Rps K (λ p=>H p=none/\p≠l) H2 acc pre/\∃post,lcL (stE js (VL.shE ρ)) fg ft fe (ds.drop i)= .ok post/\out=pre++post,⟨ds.length,[],by lia,by lia,aj,RB.up (bh hl _),s1.trans (bh hl _),zAP _,.nil,out,hout,rfl⟩,?_⟩
 rintro i n acc H2 ⟨pre,rfl,hi,hH2,R2,s2,hacc,rpre,post,hpost,eout⟩;refine⟨hH2,by lia,?_⟩;have jj:=jl _ H2 λ q hq=>R2.tm q (zAa _ hq)
 by_cases hlt:i<ds.length
 .obtain⟨go,yl⟩:=(jj i).2 hlt
  refine .inr ⟨go,λ x H3 hy=>?_⟩;obtain⟨s3,d,ed,rx⟩:=yl x H3 hy;replace R2:=R2.up s3;replace hH2:=s3 _ _ hH2;replace s2:=s2.trans s3;replace rpre:=rpre.up s3;have ed2:ds.drop i=d::ds.drop (i+1):=by
   rw[zBF hlt]
   have:=zAL hlt
   rw[ed]at this;cases this;rfl
  rw[ed2]at hpost;obtain⟨ρ1,k,e1,e2,e3⟩:=qQ hpost;refine hg (U1++U) x d _ H3 _ _ _ ρ1 R2 rx e1 λ Z4 R4=>?_
  refine ht (U1++U) Z4 H3 ρ1 _ _ R4 ?_;rw[e2];intro H5 s5;rcases e3 with ⟨rfl,y,ys,e3,e4,rfl⟩|⟨rfl,e4⟩
  .rw[if_pos rfl]
   refine he (U1++U) Z4 H5 ρ1 _ _ (R4.up s5) ?_;rw[e3];intro v H6 s6 r6;have hl6:H6 l=some (.lst acc):=s6 _ _ (s5 _ _ hH2);have B:jC l H6 (upd H6 l (.lst (acc++[v]))):=λ b o ne hb=>by rw[aQ ne];exact hb
   refine⟨hl6,ds.length-(i+1),by lia,pre++[y],rfl,hlt,aj,?_,?_,by rw[zAC];simp;lia,?_,ys,e4,by rw[eout];simp⟩
   .exact(R2.up (s5.trans s6)).but_blk B hl6 rfl (R1.old.free hl)
   .exact λ b o hb=>B b o (λ z=>by subst z;rw[hHl]at hb;cases hb) (((s2.trans s5).trans s6) b o hb)
   .refine((rpre.up (s5.trans s6)).append (.cons (r6.wk λ p o _ z=>?_) .nil)).but B hl6 rfl λ z=>z.2 rfl
    rcases z with z|z
    .exact⟨(s2.trans s5).free z,λ e=>by subst e;rw[s5 _ _ hH2]at z;cases z⟩
    .cases z
  .rw[if_neg zAI]
   exact⟨ds.length-(i+1),by lia,pre,rfl,hlt,s5 _ _ hH2,R2.up s5,s2.trans s5,by lia,rpre.up s5,post,e4,eout⟩
 .have ei:i=ds.length:=by lia
  subst ei;rw[zCV]at hpost;cases hpost;rw[zA3]at eout;subst eout;exact .inl ⟨(jj _).1 (zAP _),w _ H2 s2 (.lst hH2 (.inl hHl) (rpre.wk λ p o _ z=>⟨.inl z.1,z.2⟩))⟩
end
section
variable{C:Ct}{pos:Pos}{elt tg iter:Expr}{ifs:List Expr}{sc:Scope}{N:List Str}{js:List (Option Nat)}{ks:List Nat}{fi:En->Rs (List D)}{fg:D->En->Rs En}{ft:En->Rs Bool}{fe:En->Rs D}
def iB{C:Ct}(nd:N.Nodup:=by decide+kernel)(hk:i∈ks:=by decide)(hN:∀j,((C.blk sc N).X j).N[i]? =some x:=by intro _;rfl)(hx:∀j,Loc ((C.blk sc N).X j).env.scope x:=by intro _;first|exact zCd rfl|exact zBz rfl)
  (hf:∀j,((C.blk sc N).X j).fn x=true\/((C.blk sc N).X j).env.scope.names.lookup x=some .local:=by intro _;first|exact .inl rfl|exact .inr rfl):SG (C.blk sc N) (.Name x pos) ks (gnm i):=
 bW hN hx hf (λ _=>nd) hk
def aDr(hi:SI C tg iter fi)(hg:SG (C.blk sc N) tg ks fg)(ht:aCL (C.blk sc N) ifs ft)(he:SE (C.blk sc N) (some []) elt fe)(hs:∀i x,zBT iter (C.X i).env x=pure x:=by intro _ _;rfl)(hB:∀i,dj (C.X i) sc N (stV js) ks:=by intro _;exact xu rfl rfl rfl rfl rfl rfl):SE C (some []) (.ListComp elt [⟨tg,iter,ifs,0⟩] sc pos) (lcD fi js fg ft fe):=by
 obtain⟨wi,i1,i2⟩:=hi;obtain⟨g,g1,g2,g3,g4⟩:=hg;obtain⟨tt,t1,t2⟩:=ht;obtain⟨te,e1,e2⟩:=he;exact⟨_,λ i=>aED (hB i) (C.calm i) (i1 i) (λ c fp z5 z0=>g1 (i,c,fp,z5,z0)) g3 (λ c fp z5 z0=>t1 (i,c,fp,z5,z0)) (λ c fp z5 z0=>e1 (i,c,fp,z5,z0)) (hs i),aE3 i2 g2 t2 e2⟩
end
def puS:Slot->Slot
 | .sh d=>.sh d
 | .nw d=>.sh d
 |_=>.no
def puE(ρ:En):En:=ρ.map puS
def lcZ(fi:En->Rs (List D))(js:List (Option Nat))(fg:D->En->Rs En)(ft:En->Rs Bool)(fe:En->Rs D):En->Rs D:=λ ρ=>(fi (puE ρ)).bd λ ds=>
 if ds.length<zAN then(match lcL (stE js (puE ρ)) fg ft fe ds with
  | .ok l=>.ok (.lst l)
  |_=>.st)else .st
theorem RR.puE{K:zAA}(R:RR K G U ρ Z H lab):RR K G U (puE ρ) Z H lab:=by
 refine⟨by unfold VL.puE;rw[zAH];exact R.len,λ i s e=>?_,R.old,R.new,R.tm⟩;unfold VL.puE at e;rw[zAi]at e;cases e0:ρ[i]? with
 |none=>rw[e0]at e;cases e
 |some s0=>
  rw[e0]at e;cases e;rcases R.sl i s0 e0 with rfl|⟨v,ev,hv⟩
  .exact .inl rfl
  .cases s0 with
   |sh d=>exact .inr ⟨v,ev,hv⟩
   |nw d=>exact .inr ⟨v,ev,Rp.wk (λ p o _ z=>by rw[z];exact zAP 1) hv⟩
   |_=>exact .inl rfl
def aEC{i:Nat}(e:(puE ρ)[i]? =some s):s= .no\/∃d,s= .sh d:=by
 unfold puE at e;rw[zAi]at e;cases e0:ρ[i]? with
 |none=>rw[e0]at e;cases e
 |some s0=>
  rw[e0]at e;cases e;cases s0 with
  |sh d=>exact .inr ⟨d,rfl⟩
  |nw d=>exact .inr ⟨d,rfl⟩
  |_=>exact .inl rfl
def aEk{ρ:En}{i:Nat}(e:(stE js (puE ρ))[i]? =some s):s= .no\/∃d,s= .sh d:=by
 rcases tV e with rfl|⟨j,_,h⟩
 .exact .inl rfl
 .exact aEC h
def aE1{i j:Nat}(e:js[i]? =some (some j))(ev:Z[j]? =some (some v)):(stV js Z)[i]? =some (some v):=by
 unfold stV;rw[zAi,e];simp[ev]
def RR.blockZ{K:zAA}{G:Gx}{U:List (V×D)}(R:RR K G U (VL.puE ρ) Z H lab)(hl:H l=none):
  RR K G U (stE js (VL.puE ρ)) (stV js Z) H (λ p=>if p=l then(2,0)else lab p):=by
 have nl:∀p o,H p=some o->p≠l:=λ p o e z=>by subst z;rw[hl]at e;cases e
 have lw:∀{v:V} {d:D},Rp K (λ p=>(lab p).1<=1) H v d->Rp K (λ p=>(if p=l then((2,0):Nat×Nat)else lab p).1<=1) H v d:=λ r=>r.wk λ p o e z=>by rw[if_neg (nl p o e)];exact z
 refine⟨by unfold stV stE;rw[zAH,zAH],λ i s e=>?_,R.old,λ p hp=>?_,λ q hq=>lw (R.tm q hq)⟩
 .rcases tV e with rfl|⟨j,ej,es⟩
  .exact .inl rfl
  .rcases aEC es with rfl|⟨d,rfl⟩
   .exact .inl rfl
   .rcases R.sl j _ es with z|⟨v,ev,hv⟩
    .cases z
    .exact .inr ⟨v,aE1 ej ev,lw hv⟩
 .by_cases hp':p=l
  .subst hp';exact R.old.free hl
  .rw[if_neg hp']at hp
   exact R.new p hp
section
variable{K:zAA}{G:Gx}{wi:TI}{fi:En->Rs (List D)}{js:List (Option Nat)}{g:TG}{fg:D->En->Rs En}{tt:TT}{ft:En->Rs Bool}{te:TE}{fe:En->Rs D}{m:Mode}
def aCc(hm:okS m=true)(hi:aCJ K G wi fi)(hg:aCK K {G with E:=λ _ _ _=>False} g fg)(ht:wH K {G with E:=λ _ _ _=>False} tt ft)(he:jA K {G with E:=λ _ _ _=>False} m te fe):
  jA K G (some [0,1]) (tLC wi (stV js) g tt te) (lcZ fi js fg ft fe):=by
 intro U Z H ρ lab Q R W;refine hi U Z H _ _ _ R.puE (W.bd.imp λ ds _ w J H1 lab1 U1 s1 hlab R1 jl=>?_);intro l hl;obtain⟨hlen,out,hout,w⟩:ds.length<zAN/\∃out,lcL (stE js (VL.puE ρ)) fg ft fe ds= .ok out/\QE K (some [0,1]) lab H Q (.lst out):=by
  by_cases hlen:ds.length<zAN
  .rw[if_pos hlen]at w
   cases hout:lcL (stE js (VL.puE ρ)) fg ft fe ds with
   |ok out=>rw[hout]at w;exact⟨hlen,out,rfl,w⟩
   |ex c=>rw[hout]at w;exact zAE w
   |st=>rw[hout]at w;exact zAE w
  .rw[if_neg hlen]at w
   exact zAE w
 have R0:RR K {G with E:=λ _ _ _=>False} (U1++U) (VL.puE ρ) Z H1 lab1:=⟨R1.len,R1.sl,R1.old,R1.new,R1.tm⟩;have RB:=R0.blockZ (js:=js) hl;have hHl:H l=none:=s1.free hl;have lab1l:¬((λ p=>if p=l then((2,0):Nat×Nat)else lab1 p) l).1<=1:=by simp
 refine⟨λ i n acc H2=>∃pre,n=ds.length-i/\i<=ds.length/\H2 l=some (.lst acc)/\RR K {G with E:=λ _ _ _=>False} (U1++U) (stE js (VL.puE ρ)) (stV js Z) H2 (λ p=>if p=l then(2,0)else lab1 p)/\aM H H2/\acc.length<=i/\
  Rps K (λ p=>(H p=none\/(lab p).1<=1)/\p≠l) H2 acc pre/\∃post,lcL (stE js (VL.puE ρ)) fg ft fe (ds.drop i)= .ok post/\out=pre++post,⟨ds.length,[],by lia,by lia,aj,RB.up (bh hl _),s1.trans (bh hl _),zAP _,.nil,out,hout,rfl⟩,?_⟩
 rintro i n acc H2 ⟨pre,rfl,hi,hH2,R2,s2,hacc,rpre,post,hpost,eout⟩;refine⟨hH2,by lia,?_⟩;have jj:=jl _ H2 λ q hq=>R2.tm q (zAa _ hq)
 by_cases hlt:i<ds.length
 .obtain⟨go,yl⟩:=(jj i).2 hlt
  refine .inr ⟨go,λ x H3 hy=>?_⟩;obtain⟨s3,d,ed,rx⟩:=yl x H3 hy;replace R2:=R2.up s3;replace hH2:=s3 _ _ hH2;replace s2:=s2.trans s3;replace rpre:=rpre.up s3;have ed2:ds.drop i=d::ds.drop (i+1):=by
   rw[zBF hlt]
   have:=zAL hlt
   rw[ed]at this;cases this;rfl
  rw[ed2]at hpost;obtain⟨ρ1,k,e1,e2,e3⟩:=qQ hpost;refine hg (U1++U) x d _ H3 _ _ _ ρ1 R2 rx e1 λ Z4 R4=>?_
  refine ht (U1++U) Z4 H3 ρ1 _ _ R4 ?_;rw[e2];intro H5 s5;rcases e3 with ⟨rfl,y,ys,e3,e4,rfl⟩|⟨rfl,e4⟩
  .rw[if_pos rfl]
   refine he (U1++U) Z4 H5 ρ1 _ _ (R4.up s5) ?_;rw[e3];intro v H6 s6 r6;have hl6:H6 l=some (.lst acc):=s6 _ _ (s5 _ _ hH2);have B:jC l H6 (upd H6 l (.lst (acc++[v]))):=λ b o ne hb=>by rw[aQ ne];exact hb
   refine⟨hl6,ds.length-(i+1),by lia,pre++[y],rfl,hlt,aj,?_,?_,by rw[zAC];simp;lia,?_,ys,e4,by rw[eout];simp⟩
   .have R6:=R2.up (s5.trans s6)
    refine⟨R6.len,λ j s e=>?_,λ b o hb=>?_,R6.new,λ q hq=>(R6.tm q hq).but B hl6 rfl lab1l⟩
    .rcases R6.sl j s e with z|⟨u,e1,e2⟩
     .exact .inl z
     .rcases aEk e with rfl|⟨d,rfl⟩
      .exact .inl rfl
      .exact .inr ⟨u,e1,Rp.but B hl6 rfl lab1l e2⟩
    .have:=R6.old b o hb
     exact B b o (λ z=>by subst z;rw[R1.old.free hl]at hb;cases hb) this
   .exact λ b o hb=>B b o (λ z=>by subst z;rw[hHl]at hb;cases hb) (((s2.trans s5).trans s6) b o hb)
   .refine((rpre.up (s5.trans s6)).append (.cons (r6.wk λ p o _ z=>?_) .nil)).but B hl6 rfl λ z=>z.2 rfl
    rcases z with z|z
    .exact⟨.inl ((s2.trans s5).free z),λ e=>by subst e;rw[s5 _ _ hH2]at z;cases z⟩
    .have z1:=je hm _ z
     simp only[decide_eq_true_eq]at z1;have hp:p≠l:=λ e=>by subst e;simp at z1
     rw[if_neg hp]at z1;refine⟨?_,hp⟩;cases hH:H p with
     |none=>exact .inl rfl
     |some o=>rw[hlab p o hH]at z1;exact .inr z1
  .rw[if_neg zAI]
   exact⟨ds.length-(i+1),by lia,pre,rfl,hlt,s5 _ _ hH2,R2.up s5,s2.trans s5,by lia,rpre.up s5,post,e4,eout⟩
 .have ei:i=ds.length:=by lia
  subst ei;rw[zCV]at hpost;cases hpost;rw[zA3]at eout;subst eout;refine .inl ⟨(jj _).1 (zAP _),w _ H2 s2 (.lst hH2 (.inl hHl) (rpre.wk λ p o _ z=>⟨z.1.imp id λ q=>?_,z.2⟩))⟩
  show(lab p).1∈[0,1]
  have:(lab p).1=0\/(lab p).1=1:=by lia
  rcases this with q|q<;>rw[q]<;>simp
end
section
variable{C:Ct}{pos:Pos}{elt tg iter:Expr}{ifs:List Expr}{sc:Scope}{N:List Str}{js:List (Option Nat)}{ks:List Nat}{fi:En->Rs (List D)}{fg:D->En->Rs En}{ft:En->Rs Bool}{fe:En->Rs D}{m:Mode}
def aEa(hi:SI C tg iter fi)(hg:SG (C.blk sc N) tg ks fg)(ht:aCL (C.blk sc N) ifs ft)(he:SE (C.blk sc N) m elt fe)(hm:okS m=true:=by rfl)(hs:∀i x,zBT iter (C.X i).env x=pure x:=by intro _ _;rfl)(hB:∀i,dj (C.X i) sc N (stV js) ks:=by intro _;exact xu rfl rfl rfl rfl rfl rfl):SE C (some [0,1]) (.ListComp elt [⟨tg,iter,ifs,0⟩] sc pos) (lcZ fi js fg ft fe):=by
 obtain⟨wi,i1,i2⟩:=hi;obtain⟨g,g1,g2,g3,g4⟩:=hg;obtain⟨tt,t1,t2⟩:=ht;obtain⟨te,e1,e2⟩:=he;exact⟨_,λ i=>aED (hB i) (C.calm i) (i1 i) (λ c fp z5 z0=>g1 (i,c,fp,z5,z0)) g3 (λ c fp z5 z0=>t1 (i,c,fp,z5,z0)) (λ c fp z5 z0=>e1 (i,c,fp,z5,z0)) (hs i),aCc hm i2 g2 t2 e2⟩
end
def RR.mut{K:zAA}(R:RR K G U ρ Z H lab)(ev:Z[i]? =some (some v))(hl:H l=some o)(ho:fP o=true)(hlab:(lab l).1=i+2)
  (B:jC l H H')(h':cR K H' lab i v s'):RR K G U (ρ.set i s') Z H' lab:=by
 refine⟨by rw[zBk];exact R.len,λ j x e=>?_,λ b u hb=>B b u (λ z=>?_) (R.old b u hb),R.new,λ q hq=>(R.tm q hq).but B hl ho λ z=>by lia⟩
 .by_cases hj:i=j
  .subst hj
   have hi:i<ρ.length:=by
    have:=(zA4.mp e).1
    rwa [zBk]at this
   rw[zCD hi]at e;cases e;exact .inr ⟨v,ev,h'⟩
  .rw[zBc hj]at e
   rcases R.sl j x e with z|⟨u,e1,e2⟩
   .exact .inl z
   .refine .inr ⟨u,e1,?_⟩
    cases x with
    |no=>trivial
    |sh d=>exact Rp.but B hl ho (λ z=>by lia) e2
    |nw d=>exact Rp.but B hl ho (λ z=>by lia) e2
    |ow d=>exact⟨Rp.but B hl ho (λ z=>by lia) e2.1,e2.2⟩
    |oz d=>
     obtain⟨a,xs,ds,q1,q2,q3,q4,q5⟩:=e2;exact⟨a,xs,ds,q1,q2,B a _ (λ z=>by subst z;exact hj (by lia)) q3,q4,Rps.but B hl ho (λ z=>by lia) q5⟩
    |o2 ll=>
     obtain⟨a,xs,q1,q2,q3,q4,q5⟩:=e2;refine⟨a,xs,q1,B a _ (λ z=>?_) q2,q3,q4,λ jj y ds f1 f2=>(q5 jj y ds f1 f2).but B hl ho λ z=>?_⟩
     .rw[z]at q3;rw[q3]at hlab;exact hj (by simpa using hlab.symm)
     .rw[z]at hlab;exact hj (by simpa using hlab.symm)
 .subst z
  have:=R.new b (by rw[hlab];lia)
  rw[this]at hb;cases hb
mutual
def eqD:D->D->Bool
 | .non,.non=>true
 | .bl a,.bl b=>a==b
 | .bl a,.int b=>(if a then 1 else 0)==b
 | .int a,.bl b=>a==(if b then 1 else 0)
 | .int a,.int b=>a==b
 | .str a,.str b=>a==b
 | .tup l,.tup m=>jY l m
 | .lst l,.lst m=>jY l m
 |_,_=>false
def jY:List D->List D->Bool
 |[],[]=>true
 |x::xs,y::ys=>eqD x y&&jY xs ys
 |_,_=>false
end
mutual
def cM:D->Nat
 | .tup l=>ao l+1
 | .lst l=>ao l+1
 |_=>0
def ao:List D->Nat
 |[]=>0
 |d::r=>max (cM d) (ao r)
end
mutual
def aN:D->Bool
 | .tup l=>aR l
 | .lst l=>aR l
 | .dct _ _=>false
 | .set _=>false
 | .scr _=>false
 | .fn _=>false
 |_=>true
def aR:List D->Bool
 |[]=>true
 |d::r=>aN d&&aR r
end
mutual
theorem mU:∀d:D,aN d=true->eqD d d=true
 | .non,_=>by simp[eqD]
 | .bl b,_=>by simp[eqD]
 | .int i,_=>by simp[eqD]
 | .str x,_=>by simp[eqD]
 | .tup l,h=>by exact nT l (by simpa[aN]using h)
 | .lst l,h=>by exact nT l (by simpa[aN]using h)
 | .dct _ _,h=>by simp[aN]at h
 | .set _,h=>by simp[aN]at h
 | .scr _,h=>by simp[aN]at h
theorem nT:∀l:List D,aR l=true->jY l l=true
 |[],_=>by simp[jY]
 |d::r,h=>by
  simp only[aR,zAO]at h;simp only[jY,zAO];exact⟨mU d h.1,nT r h.2⟩
end
structure iI(K:zAA)(H:Hp)(s:zAB):Prop where
 tup:∀{a:Addr} {xs:List V},SqT K H a xs->∃its:List Value,Vals xs its/\s.heap.IsTuple a its.toArray
 lst:∀{a:Addr} {xs:List V},H a=some (.lst xs)->∃its:List Value,Vals xs its/\s.heap.IsList a its.toArray
 inj:∀{a:Addr} {xs ys:List V},SqT K H a xs->SqT K H a ys->xs=ys
 ne:∀{a:Addr} {xs ys:List V},SqT K H a xs->H a=some (.lst ys)->False
def Inv.seqOk(I:L2.Inv X pins Z H s):iI X.K H s where
 tup:=λ h=>let⟨its,r,p,_⟩:=I.tuple h;⟨its,r,p⟩
 lst:=λ h=>let⟨its,r,p,_⟩:=I.list (SqL.of h);⟨its,r,p.isList⟩
 inj:=λ h h'=>I.tuple_inj h h'
 ne:=λ h h'=>by
  obtain⟨its,_,⟨o,e,c,_⟩,_⟩:=I.tuple h;obtain⟨its2,_,⟨o2,n2,e2,c2,_⟩,_⟩:=I.list (SqL.of h');rw[e]at e2;cases e2;rw[c]at c2;injection c2 with c3
  exact absurd c3 (by decide)
section
variable{K:zAA}{H:Hp}{s:zAB}
def ndP:D->Prop
 | .dct _ _=>False
 | .set _=>False
 | .scr _=>False
 | .fn _=>False
 |_=>True
def ndx{d:D}(h:aN d=true):ndP d:=by cases d<;>first|exact zDT|(simp[aN]at h)
def au(h:aN (.dct a b)=true):False:=by simp[aN]at h
def cU(h:aN (.set a)=true):False:=by simp[aN]at h
def cV(h:aN (.scr a)=true):False:=by simp[aN]at h
def dZ(h:aN (.fn a)=true):False:=by simp[aN]at h
def fC(h:aN (.tup a)=true):aR a=true:=by simpa[aN]using h
def fD(h:aN (.lst a)=true):aR a=true:=by simpa[aN]using h
def gB(h:aR (d::a)=true):aN d=true/\aR a=true:=by
 simp only[aR,zAO]at h;exact h
def aDh(K:zAA)(s:zAB)(H:Hp)(x:V)(d:D):Prop:=iI K H s->∀(A':Addr->Prop) (e:D),Rp K A' H x e->aN d=true->aN e=true->d=e
def wJ(K:zAA)(s:zAB)(H:Hp)(xs:List V)(ds:List D):Prop:=iI K H s->∀(A':Addr->Prop) (es:List D),Rps K A' H xs es->aR ds=true->aR es=true->ds=es
def aDX(ha:SqT K H a xs)(ih:wJ K s H xs ds):aDh K s H (.ref a) (.tup ds):=λ ok A' e h n1 n2=>by
 cases h with
 |tup hb r'=>
  have e:=ok.inj ha hb;subst e;rw[ih ok _ _ r' (fC n1) (fC n2)]
 |lst hb _ _=>exact(ok.ne ha hb).elim
 |_=>exact zAE (ndx n2)
def aDY(ha:H a=some (.lst xs))(ih:wJ K s H xs ds):aDh K s H (.ref a) (.lst ds):=λ ok A' e h n1 n2=>by
 cases h with
 |tup hb r'=>exact(ok.ne hb ha).elim
 |lst hb _ r'=>
  rw[ha]at hb;cases hb;rw[ih ok _ _ r' (fD n1) (fD n2)]
 |_=>exact zAE (ndx n2)
def aBe(h1:aDh K s H x d)(h2:wJ K s H xs ds):wJ K s H (x::xs) (d::ds):=λ ok A' es h n1 n2=>by
 cases h with
 |cons k r'=>rw[h1 ok _ _ k (gB n1).1 (gB n2).1,h2 ok _ _ r' (gB n1).2 (gB n2).2]
def Rp.inj(ok:iI K H s)(r:Rp K A H x d)(h:Rp K A' H x e)(n1:aN d=true)(n2:aN e=true):d=e:=
 Rp.rec (motive_1:=λ _ H x d _=>aDh K s H x d) (motive_2:=λ _ H xs ds _=>wJ K s H xs ds)
  (λ _ _ _ h _ _=>by cases h;rfl) (λ _ _ _ _ h _ _=>by cases h;rfl) (λ _ _ _ _ h _ _=>by cases h;rfl) (λ _ _ _ _ h _ _=>by cases h;rfl) (λ ha _ ih=>aDX ha ih) (λ ha _ _ ih=>aDY ha ih)
  (λ _ _ _ _ _ _ _ _ n1 _=>(au n1).elim) (λ _ _ _ _ _ _ _ _ n1 _=>(au n1).elim) (λ _ _ _ _ _ _ _ _ n1 _=>(cU n1).elim) (λ _ _ _ _ _ n1 _=>(cV n1).elim) (λ _ _ _ _ _ n1 _=>(dZ n1).elim)
  (λ _ _ _ h _ _=>by cases h;rfl) (λ _ _ h1 h2=>aBe h1 h2) r ok A' e h n1 n2
end
theorem wA:∀(l m:List D),jY l m=((zBG (min l.length m.length)).all (λ j=>match l[j]?,m[j]? with|some a,some b=>eqD a b|_,_=>true)&&l.length==m.length)
 |[],[]=>by simp[jY]
 |[],y::ys=>by simp[jY]
 |x::xs,[]=>by simp[jY]
 |x::xs,y::ys=>by
  have ih:=wA xs ys;simp only[jY,ih,zAq,Nat.succ_min_succ,List.range_succ_eq_map,List.all_cons,List.all_map,zBe,Function.comp_def,zBU,Nat.succ_eq_add_one,Nat.add_one_inj,zGP];congr 1;congr 1;simp
theorem sW:∀{l:List D} {d:D},d∈l->cM d<=ao l
 |x::r,d,h=>by
  simp only[ao];rcases zAZ.mp h with rfl|h
  .exact zEa _ _
  .exact zAr (sW h) (zEU _ _)
theorem lF:∀{l:List D} {d:D},d∈l->aR l=true->aN d=true
 |x::r,d,h,n=>by
  simp only[aR,zAO]at n;rcases zAZ.mp h with rfl|h
  .exact n.1
  .exact lF h n.2
def fQ(hn:n=ds.length)(hm:m=es.length):((zBG (min n m)).all (λ j=>match ds[j]?,es[j]? with|some a,some b=>eqD a b|_,_=>true)&&n==m)=jY ds es:=by
 subst hn hm;exact(wA ds es).symm
section
variable{K:zAA}{H:Hp}{s:zAB}
def aCO(K:zAA)(H:Hp)(s:zAB)(n:Nat):Prop:=∀(A1 A2:Addr->Prop) (x y:V) (d e:D) (A:zA8) (u v:Value),Rp K A1 H x d->Rp K A2 H y e->RelV x u->RelV y v->cM d<=n->aN d=true->aN e=true->A.units+n<cLine->zDM A s u v (eqD d e)
def aCP(K:zAA)(H:Hp)(s:zAB)(n:Nat):Prop:=∀(A1 A2:Addr->Prop) (xs ys:List V) (ds es:List D) (A:zA8) (us vs:List Value),Rps K A1 H xs ds->Rps K A2 H ys es->Vals xs us->Vals ys vs->ao ds<=n->aR ds=true->aR es=true->A.units+n<cLine->
  ∀(j:Nat) (h1:j<us.toArray.size) (h2:j<vs.toArray.size),zDM A s us.toArray[j] vs.toArray[j] (match ds[j]?,es[j]? with|some a,some b=>eqD a b|_,_=>true)
def qj(ok:iI K H s)(n:Nat)(IH:∀k,n=k+1->aCP K H s k):aCO K H s n:=by
 intro A1 A2 x y d e A u v r1 r2 ru rv hd nd ne hu;have hu0:A.units<cLine:=by lia
 cases r1 with
 |tup h1 q1=>
  rename_i a xs ds;cases ru;obtain⟨its,w1,t1⟩:=ok.tup h1;cases r2 with
  |tup h2 q2=>
   rename_i b ys es;cases rv;obtain⟨its2,w2,t2⟩:=ok.tup h2;by_cases hab:a=b
   .subst hab
    have e:=Rp.inj ok (Rp.tup h1 q1) (Rp.tup h2 q2) nd ne;rw[<-e,mU _ nd];exact zDy _
   .simp only[cM]at hd
    obtain⟨k,rfl⟩:∃k,n=k+1:=⟨n-1,by lia⟩
    have z:=zFC t1 t2 hu0 (IH k rfl _ _ _ _ _ _ _ _ _ q1 q2 w1 w2 (by lia) (fC nd) (fC ne) (by show A.units+1+k<cLine;lia));rw[fQ (by rw[zAF,<-w1.length,q1.length]) (by rw[zAF,<-w2.length,q2.length])]at z;simp only[eqD];exact zD7 hab z
  |lst h2 mm2 q2=>
   cases rv;obtain⟨its2,w2,t2⟩:=ok.lst h2;simp only[eqD];exact SeqAt.EqAt.tuple_list t1 t2 hu0
  |non=>cases rv;exact SeqAt.EqAt.tuple_none t1 hu0
  |bl b=>cases rv;exact SeqAt.EqAt.tuple_bool b t1 hu0
  |int i=>obtain⟨tk,rfl⟩:=rv;exact SeqAt.EqAt.tuple_int i tk t1 hu0
  |str i=>obtain⟨tk,rfl⟩:=rv;exact SeqAt.EqAt.tuple_str i tk t1 hu0
  |_=>exact zAE (ndx ne)
 |lst h1 mm1 q1=>
  rename_i a xs ds;cases ru;obtain⟨its,w1,t1⟩:=ok.lst h1;cases r2 with
  |lst h2 mm2 q2=>
   rename_i b ys es;cases rv;obtain⟨its2,w2,t2⟩:=ok.lst h2;by_cases hab:a=b
   .subst hab
    have e:=Rp.inj ok (Rp.lst h1 mm1 q1) (Rp.lst h2 mm2 q2) nd ne;rw[<-e,mU _ nd];exact zDy _
   .simp only[cM]at hd
    obtain⟨k,rfl⟩:∃k,n=k+1:=⟨n-1,by lia⟩
    have l1:its.toArray.size=ds.length:=by rw[zAF,<-w1.length,q1.length]
    have l2:its2.toArray.size=es.length:=by rw[zAF,<-w2.length,q2.length]
    by_cases hl:its.toArray.size=its2.toArray.size
    .have z:=zFK t1 t2 hl hu0 (IH k rfl _ _ _ _ _ _ _ _ _ q1 q2 w1 w2 (by lia) (fD nd) (fD ne) (by show A.units+1+k<cLine;lia))
     have z':=fQ (ds:=ds) (es:=es) l1 l2;rw[<-hl,zEP,beq_self_eq_true,zEx]at z';rw[z']at z;simp only[eqD];exact zD7 hab z
    .have z:=zEK t1 t2 (by simpa using hl) hu0
     have z':=fQ (ds:=ds) (es:=es) l1 l2;rw[beq_eq_false_iff_ne.mpr hl,zEo]at z';simp only[eqD];rw[<-z'];exact zD7 hab z
  |tup h2 q2=>
   cases rv;obtain⟨its2,w2,t2⟩:=ok.tup h2;simp only[eqD];exact SeqAt.EqAt.list_tuple t1 t2 hu0
  |non=>cases rv;exact SeqAt.EqAt.list_none t1 hu0
  |bl b=>cases rv;exact SeqAt.EqAt.list_bool b t1 hu0
  |int i=>obtain⟨tk,rfl⟩:=rv;exact SeqAt.EqAt.list_int i tk t1 hu0
  |str i=>obtain⟨tk,rfl⟩:=rv;exact SeqAt.EqAt.list_str i tk t1 hu0
  |_=>exact zAE (ndx ne)
 |non=>
  cases ru;cases r2 with
  |tup h2 q2=>cases rv;obtain⟨_,_,t2⟩:=ok.tup h2;exact SeqAt.EqAt.none_tuple t2 hu0
  |lst h2 mm2 q2=>cases rv;obtain⟨_,_,t2⟩:=ok.lst h2;exact SeqAt.EqAt.none_list t2 hu0
  |dK _ _ _=>exact(au ne).elim
  |dT _ _ _=>exact(au ne).elim
  |set _ _ _ _=>exact(cU ne).elim
  |scr _=>exact(cV ne).elim
  |fn _=>exact(dZ ne).elim
  |non=>cases rv;exact zDy _
  |bl b=>cases rv;exact SeqAt.EqAt.none_bool b
  |int i=>obtain⟨tk,rfl⟩:=rv;exact SeqAt.EqAt.none_int i tk
  |str i=>obtain⟨tk,rfl⟩:=rv;exact SeqAt.EqAt.none_str i tk
 |bl a=>
  cases ru;cases r2 with
  |tup h2 q2=>cases rv;obtain⟨_,_,t2⟩:=ok.tup h2;exact SeqAt.EqAt.bool_tuple a t2 hu0
  |lst h2 mm2 q2=>cases rv;obtain⟨_,_,t2⟩:=ok.lst h2;exact SeqAt.EqAt.bool_list a t2 hu0
  |dK _ _ _=>exact(au ne).elim
  |dT _ _ _=>exact(au ne).elim
  |set _ _ _ _=>exact(cU ne).elim
  |scr _=>exact(cV ne).elim
  |fn _=>exact(dZ ne).elim
  |non=>cases rv;exact SeqAt.EqAt.bool_none a
  |bl b=>cases rv;exact zEe a b
  |int i=>obtain⟨tk,rfl⟩:=rv;exact SeqAt.EqAt.bool_int a i tk
  |str i=>obtain⟨tk,rfl⟩:=rv;exact SeqAt.EqAt.bool_str a i tk
 |int a=>
  obtain⟨tu,rfl⟩:=ru;cases r2 with
  |tup h2 q2=>cases rv;obtain⟨_,_,t2⟩:=ok.tup h2;exact SeqAt.EqAt.int_tuple a tu t2 hu0
  |lst h2 mm2 q2=>cases rv;obtain⟨_,_,t2⟩:=ok.lst h2;exact SeqAt.EqAt.int_list a tu t2 hu0
  |dK _ _ _=>exact(au ne).elim
  |dT _ _ _=>exact(au ne).elim
  |set _ _ _ _=>exact(cU ne).elim
  |scr _=>exact(cV ne).elim
  |fn _=>exact(dZ ne).elim
  |non=>cases rv;exact SeqAt.EqAt.int_none a tu
  |bl b=>cases rv;exact SeqAt.EqAt.int_bool a tu b
  |int i=>obtain⟨tk,rfl⟩:=rv;exact zEs a tu i tk
  |str i=>obtain⟨tk,rfl⟩:=rv;exact zEt a tu i tk
 |str a=>
  obtain⟨tu,rfl⟩:=ru;cases r2 with
  |tup h2 q2=>cases rv;obtain⟨_,_,t2⟩:=ok.tup h2;exact SeqAt.EqAt.str_tuple a tu t2 hu0
  |lst h2 mm2 q2=>cases rv;obtain⟨_,_,t2⟩:=ok.lst h2;exact SeqAt.EqAt.str_list a tu t2 hu0
  |dK _ _ _=>exact(au ne).elim
  |dT _ _ _=>exact(au ne).elim
  |set _ _ _ _=>exact(cU ne).elim
  |scr _=>exact(cV ne).elim
  |fn _=>exact(dZ ne).elim
  |non=>cases rv;exact SeqAt.EqAt.str_none a tu
  |bl b=>cases rv;exact SeqAt.EqAt.str_bool a tu b
  |int i=>obtain⟨tk,rfl⟩:=rv;exact zEu a tu i tk
  |str i=>obtain⟨tk,rfl⟩:=rv;exact SeqAt.EqAt.str_str a tu i tk
 |_=>exact zAE (ndx nd)
def sS(ok:iI K H s)(n:Nat)(IH:aCO K H s n):aCP K H s n:=by
 intro A1 A2 xs ys ds es A us vs q1 q2 w1 w2 hd nd ne hu j h1 h2;have hj1:j<us.length:=by simpa using h1
 have hj2:j<vs.length:=by simpa using h2
 have hx:j<xs.length:=by rw[w1.length];exact hj1
 have hy:j<ys.length:=by rw[w2.length];exact hj2
 have ex:=zAL hx;have ey:=zAL hy;obtain⟨d,ed,rd⟩:=q1.get ex;obtain⟨e,ee,re⟩:=q2.get ey;obtain⟨u,eu,ru⟩:=w1.get ex;obtain⟨v,ev,rv⟩:=w2.get ey;have e1:us.toArray[j]=u:=by
  rw[zFX];exact zAf ((zAL hj1).symm.trans eu)
 have e2:vs.toArray[j]=v:=by
  rw[zFX];exact zAf ((zAL hj2).symm.trans ev)
 rw[e1,e2,ed,ee];exact IH _ _ _ _ _ _ _ _ _ rd re ru rv (zAr (sW (zBM ed)) hd) (lF (zBM ed) nd) (lF (zBM ee) ne) hu
theorem aBw(ok:iI K H s):∀n,aCO K H s n
 |0=>qj ok 0 λ k h=>absurd h (by simp)
 |n+1=>qj ok (n+1) λ k h=>by
  have h':=zGA h;subst h';exact sS ok n (aBw ok n)
def aFq(ok:iI K H s):∀{A1 A2:Addr->Prop} {x y:V} {d e:D} (n:Nat) {A:zA8} {u v:Value},Rp K A1 H x d->Rp K A2 H y e->RelV x u->RelV y v->cM d<=n->aN d=true->aN e=true->A.units+n<cLine->zDM A s u v (eqD d e)
 |_,_,_,_,_,_,n,A,u,v,r1,r2,ru,rv,hd,nd,ne,hu=>aBw ok n _ _ _ _ _ _ _ _ _ r1 r2 ru rv hd nd ne hu
def aEL(ok:iI K H s):∀{A1 A2:Addr->Prop} {xs ys:List V} {ds es:List D} (n:Nat) {A:zA8} {us vs:List Value},Rps K A1 H xs ds->Rps K A2 H ys es->Vals xs us->Vals ys vs->ao ds<=n->aR ds=true->aR es=true->A.units+n<cLine->
  ∀(j:Nat) (h1:j<us.toArray.size) (h2:j<vs.toArray.size),zDM A s us.toArray[j] vs.toArray[j] (match ds[j]?,es[j]? with|some a,some b=>eqD a b|_,_=>true)
 |_,_,xs,ys,ds,es,n,A,us,vs,q1,q2,w1,w2,hd,nd,ne,hu,j,h1,h2=>sS ok n (aBw ok n) _ _ _ _ _ _ _ _ _ q1 q2 w1 w2 hd nd ne hu j h1 h2
def aAo(ok:iI K H s)(n:Nat)(r1:Rp K A1 H x d)(r2:Rp K A2 H y e)(ru:RelV x u)(rv:RelV y v)(hd:cM d<=n)(nd:aN d=true)(ne:aN e=true)(hu:A.units+n<cLine):
  SeqAt.RcAt A s u v (eqD d e)/\SeqAt.RcNeAt A s u v (!eqD d e):=by
 have hu0:A.units<cLine:=by lia
 cases r1 with
 |tup h1 q1=>
  rename_i a xs ds;cases ru;obtain⟨its,w1,t1⟩:=ok.tup h1;cases r2 with
  |tup h2 q2=>
   rename_i b ys es;cases rv;obtain⟨its2,w2,t2⟩:=ok.tup h2;simp only[cM]at hd;obtain⟨k,rfl⟩:∃k,n=k+1:=⟨n-1,by lia⟩
   have he:=aEL ok (A:=A.in1) k q1 q2 w1 w2 (by lia) (fC nd) (fC ne) (by show A.units+1+k<cLine;lia);have z:=zFC t1 t2 hu0 he;have z2:=SeqAt.RcNeAt.tuples t1 t2 hu0 he;rw[fQ (by rw[zAF,<-w1.length,q1.length]) (by rw[zAF,<-w2.length,q2.length])]at z z2;simp only[eqD];exact⟨z,z2⟩
  |lst h2 mm2 q2=>
   cases rv;obtain⟨its2,w2,t2⟩:=ok.lst h2;simp only[eqD];exact⟨SeqAt.RcAt.tuple_list t1 t2 hu0,SeqAt.RcNeAt.tuple_list t1 t2 hu0⟩
  |non=>cases rv;exact⟨SeqAt.RcAt.tuple_none t1 hu0,SeqAt.RcNeAt.tuple_none t1 hu0⟩
  |bl b=>cases rv;exact⟨SeqAt.RcAt.tuple_bool b t1 hu0,SeqAt.RcNeAt.tuple_bool b t1 hu0⟩
  |int i=>obtain⟨tk,rfl⟩:=rv;exact⟨SeqAt.RcAt.tuple_int i tk t1 hu0,SeqAt.RcNeAt.tuple_int i tk t1 hu0⟩
  |str i=>obtain⟨tk,rfl⟩:=rv;exact⟨SeqAt.RcAt.tuple_str i tk t1 hu0,SeqAt.RcNeAt.tuple_str i tk t1 hu0⟩
  |_=>exact zAE (ndx ne)
 |lst h1 mm1 q1=>
  rename_i a xs ds;cases ru;obtain⟨its,w1,t1⟩:=ok.lst h1;cases r2 with
  |lst h2 mm2 q2=>
   rename_i b ys es;cases rv;obtain⟨its2,w2,t2⟩:=ok.lst h2;simp only[cM]at hd;obtain⟨k,rfl⟩:∃k,n=k+1:=⟨n-1,by lia⟩
   have l1:its.toArray.size=ds.length:=by rw[zAF,<-w1.length,q1.length]
   have l2:its2.toArray.size=es.length:=by rw[zAF,<-w2.length,q2.length]
   have z':=fQ (ds:=ds) (es:=es) l1 l2;by_cases hl:its.toArray.size=its2.toArray.size
   .have he:=aEL ok (A:=A.in1) k q1 q2 w1 w2 (by lia) (fD nd) (fD ne) (by show A.units+1+k<cLine;lia)
    have z:=zFK t1 t2 hl hu0 he;have z2:=SeqAt.RcNeAt.lists t1 t2 hl hu0 he;rw[<-hl,zEP,beq_self_eq_true,zEx]at z';rw[z']at z z2;simp only[eqD];exact⟨z,z2⟩
   .rw[beq_eq_false_iff_ne.mpr hl,zEo]at z'
    simp only[eqD];rw[<-z'];exact⟨zEK t1 t2 (by simpa using hl) hu0,SeqAt.RcNeAt.lists_lengths t1 t2 (by simpa using hl) hu0⟩
  |tup h2 q2=>
   cases rv;obtain⟨its2,w2,t2⟩:=ok.tup h2;simp only[eqD];exact⟨SeqAt.RcAt.list_tuple t1 t2 hu0,SeqAt.RcNeAt.list_tuple t1 t2 hu0⟩
  |non=>cases rv;exact⟨SeqAt.RcAt.list_none t1 hu0,SeqAt.RcNeAt.list_none t1 hu0⟩
  |bl b=>cases rv;exact⟨SeqAt.RcAt.list_bool b t1 hu0,SeqAt.RcNeAt.list_bool b t1 hu0⟩
  |int i=>obtain⟨tk,rfl⟩:=rv;exact⟨SeqAt.RcAt.list_int i tk t1 hu0,SeqAt.RcNeAt.list_int i tk t1 hu0⟩
  |str i=>obtain⟨tk,rfl⟩:=rv;exact⟨SeqAt.RcAt.list_str i tk t1 hu0,SeqAt.RcNeAt.list_str i tk t1 hu0⟩
  |_=>exact zAE (ndx ne)
 |non=>
  cases ru;cases r2 with
  |tup h2 q2=>cases rv;obtain⟨_,_,t2⟩:=ok.tup h2;exact⟨SeqAt.RcAt.none_tuple t2 hu0,SeqAt.RcNeAt.none_tuple t2 hu0⟩
  |lst h2 mm2 q2=>cases rv;obtain⟨_,_,t2⟩:=ok.lst h2;exact⟨SeqAt.RcAt.none_list t2 hu0,SeqAt.RcNeAt.none_list t2 hu0⟩
  |dK _ _ _=>exact(au ne).elim
  |dT _ _ _=>exact(au ne).elim
  |set _ _ _ _=>exact(cU ne).elim
  |scr _=>exact(cV ne).elim
  |fn _=>exact(dZ ne).elim
  |non=>cases rv;exact⟨SeqAt.RcAt.none_none,SeqAt.RcNeAt.none_none⟩
  |bl b=>cases rv;exact⟨SeqAt.RcAt.none_bool b,SeqAt.RcNeAt.none_bool b⟩
  |int i=>obtain⟨tk,rfl⟩:=rv;exact⟨SeqAt.RcAt.none_int i tk,SeqAt.RcNeAt.none_int i tk⟩
  |str i=>obtain⟨tk,rfl⟩:=rv;exact⟨SeqAt.RcAt.none_str i tk,SeqAt.RcNeAt.none_str i tk⟩
 |bl a=>
  cases ru;cases r2 with
  |tup h2 q2=>cases rv;obtain⟨_,_,t2⟩:=ok.tup h2;exact⟨SeqAt.RcAt.bool_tuple a t2 hu0,SeqAt.RcNeAt.bool_tuple a t2 hu0⟩
  |lst h2 mm2 q2=>cases rv;obtain⟨_,_,t2⟩:=ok.lst h2;exact⟨SeqAt.RcAt.bool_list a t2 hu0,SeqAt.RcNeAt.bool_list a t2 hu0⟩
  |dK _ _ _=>exact(au ne).elim
  |dT _ _ _=>exact(au ne).elim
  |set _ _ _ _=>exact(cU ne).elim
  |scr _=>exact(cV ne).elim
  |fn _=>exact(dZ ne).elim
  |non=>cases rv;exact⟨SeqAt.RcAt.bool_none a,SeqAt.RcNeAt.bool_none a⟩
  |bl b=>cases rv;exact⟨SeqAt.RcAt.bool_bool a b,SeqAt.RcNeAt.bool_bool a b⟩
  |int i=>obtain⟨tk,rfl⟩:=rv;exact⟨SeqAt.RcAt.bool_int a i tk,SeqAt.RcNeAt.bool_int a i tk⟩
  |str i=>obtain⟨tk,rfl⟩:=rv;exact⟨SeqAt.RcAt.bool_str a i tk,SeqAt.RcNeAt.bool_str a i tk⟩
 |int a=>
  obtain⟨tu,rfl⟩:=ru;cases r2 with
  |tup h2 q2=>cases rv;obtain⟨_,_,t2⟩:=ok.tup h2;exact⟨SeqAt.RcAt.int_tuple a tu t2 hu0,SeqAt.RcNeAt.int_tuple a tu t2 hu0⟩
  |lst h2 mm2 q2=>cases rv;obtain⟨_,_,t2⟩:=ok.lst h2;exact⟨SeqAt.RcAt.int_list a tu t2 hu0,SeqAt.RcNeAt.int_list a tu t2 hu0⟩
  |dK _ _ _=>exact(au ne).elim
  |dT _ _ _=>exact(au ne).elim
  |set _ _ _ _=>exact(cU ne).elim
  |scr _=>exact(cV ne).elim
  |fn _=>exact(dZ ne).elim
  |non=>cases rv;exact⟨SeqAt.RcAt.int_none a tu,SeqAt.RcNeAt.int_none a tu⟩
  |bl b=>cases rv;exact⟨SeqAt.RcAt.int_bool a tu b,SeqAt.RcNeAt.int_bool a tu b⟩
  |int i=>obtain⟨tk,rfl⟩:=rv;exact⟨SeqAt.RcAt.int_int a tu i tk,SeqAt.RcNeAt.int_int a tu i tk⟩
  |str i=>obtain⟨tk,rfl⟩:=rv;exact⟨SeqAt.RcAt.int_str a tu i tk,SeqAt.RcNeAt.int_str a tu i tk⟩
 |str a=>
  obtain⟨tu,rfl⟩:=ru;cases r2 with
  |tup h2 q2=>cases rv;obtain⟨_,_,t2⟩:=ok.tup h2;exact⟨SeqAt.RcAt.str_tuple a tu t2 hu0,SeqAt.RcNeAt.str_tuple a tu t2 hu0⟩
  |lst h2 mm2 q2=>cases rv;obtain⟨_,_,t2⟩:=ok.lst h2;exact⟨SeqAt.RcAt.str_list a tu t2 hu0,SeqAt.RcNeAt.str_list a tu t2 hu0⟩
  |dK _ _ _=>exact(au ne).elim
  |dT _ _ _=>exact(au ne).elim
  |set _ _ _ _=>exact(cU ne).elim
  |scr _=>exact(cV ne).elim
  |fn _=>exact(dZ ne).elim
  |non=>cases rv;exact⟨SeqAt.RcAt.str_none a tu,SeqAt.RcNeAt.str_none a tu⟩
  |bl b=>cases rv;exact⟨SeqAt.RcAt.str_bool a tu b,SeqAt.RcNeAt.str_bool a tu b⟩
  |int i=>obtain⟨tk,rfl⟩:=rv;exact⟨SeqAt.RcAt.str_int a tu i tk,SeqAt.RcNeAt.str_int a tu i tk⟩
  |str i=>obtain⟨tk,rfl⟩:=rv;exact⟨SeqAt.RcAt.str_str a tu i tk,SeqAt.RcNeAt.str_str a tu i tk⟩
 |_=>exact zAE (ndx nd)
end
section
variable{K:zAA}{H:Hp}{s:zAB}
open Classical in
def rG(K:zAA)(H:Hp)(d:D)(u:Value):Bool:=if h:∃e,aN e=true/\∃y,RelV y u/\Rp K (λ _=>True) H y e then eqD (choose h) d else false
def zG(ok:iI K H s)(r:RelV y u)(h:Rp K A H y e)(ne:aN e=true):rG K H d u=eqD e d:=by
 have hx:∃e,aN e=true/\∃y,RelV y u/\Rp K (λ _=>True) H y e:=⟨e,ne,y,r,h.wk λ _ _ _ _=>trivial⟩
 unfold rG;rw[dif_pos hx];obtain⟨n',y',r',h'⟩:=Classical.choose_spec hx;have e1:=RelV.inj r r';subst e1;rw[Rp.inj ok h' h n' ne]
def inD(d:D)(es:List D):Bool:=es.any λ e=>eqD e d
def wG(ok:iI K H s):∀{A:Addr->Prop} {xs:List V} {es:List D} {us:List Value},Rps K A H xs es->Vals xs us->aR es=true->us.any (rG K H d)=inD d es:=by
 intro A xs es us h v n;induction v generalizing es with
 |nil=>cases h;rfl
 |cons k t ih=>
  cases h with
  |cons h r=>
   simp only[aR,zAO]at n;unfold inD;rw[zG4,zG4,zG ok k h n.1,ih r n.2];rfl
def zL(ok:iI K H s)(rx:Rp K A0 H x d)(rv:RelV x v)(hu:A.units+n<cLine)(nd:aN d=true):∀{A1:Addr->Prop} {xs:List V} {es:List D} {us:List Value},Rps K A1 H xs es->Vals xs us->ao es<=n->aR es=true->∀u∈us,zDM A s u v (rG K H d u):=by
 intro A1 xs es us h v' hd ne u hm;induction v' generalizing es with
 |nil=>cases hm
 |cons k t ih=>
  cases h with
  |cons h r=>
   simp only[ao]at hd;simp only[aR,zAO]at ne;rcases zAZ.mp hm with z|z
   .subst z
    rw[zG ok k h ne.1];exact aFq ok n h rx k rv (zAr (zEa _ _) hd) ne.1 nd hu
   .exact ih r (zAr (zEU _ _) hd) ne.2 z
end
section
variable{X:Cx}
def zV(K:zAA)(neg:Bool):R2:=λ x y H Q=>∃A B d e,Rp K A H x d/\Rp K B H y e/\cM d<=60/\aN d=true/\aN e=true/\Q (.bl (if neg then !eqD d e else eqD d e)) H
def aBK(hu:X.A.units+64<cLine):OpR X (zB2 .Eq) (zV X.K false):=by
 intro pins s Z H x y v u Q I rx ry h;obtain⟨A,B,d,e,r1,r2,hd,nd,ne,q⟩:=h;exact(aAo (Inv.seqOk I) 60 r1 r2 rx ry hd nd ne (by lia)).1 X.prog X.w X.xe _ ⟨.bl (eqD d e),H,I,rfl,q⟩
def aFJ(hu:X.A.units+64<cLine):OpR X (zB2 .NotEq) (zV X.K true):=by
 intro pins s Z H x y v u Q I rx ry h;obtain⟨A,B,d,e,r1,r2,hd,nd,ne,q⟩:=h;exact(aAo (Inv.seqOk I) 60 r1 r2 rx ry hd nd ne (by lia)).2 X.prog X.w X.xe _ ⟨.bl (!eqD d e),H,I,rfl,q⟩
def aEh(K:zAA)(neg:Bool):R2:=λ x y H Q=>∃A B d a es,Rp K A H x d/\y= .ref a/\(Rp K B H (.ref a) (.lst es)\/Rp K B H (.ref a) (.tup es))/\ao es<=60/\aN d=true/\aR es=true/\Q (.bl (if neg then !inD d es else inD d es)) H
def z8(hu:X.A.units+64<cLine):OpR X (zB2 .NotIn) (aEh X.K true):=by
 intro pins s Z H x y v u Q I rx ry h;obtain⟨A,B,d,a,es,rd,rfl,ra,hd,nd,ne,q⟩:=h;cases ry;have ok:=Inv.seqOk I;have hu1:X.A.in1.units+60<cLine:=by show X.A.units+1+60<cLine;lia
 rcases ra with ra|ra
 .cases ra with
  |lst ha _ r=>
   obtain⟨its,rv,tl⟩:=ok.lst ha;refine SeqAt.notIn_listAt (rG X.K H d) tl (λ w hw=>zL ok rd rx hu1 nd r rv hd ne w (by simpa using hw)) ⟨.bl _,H,I,rfl,?_⟩;rw[show its.toArray.any (rG X.K H d)=its.any (rG X.K H d)by simp,wG ok r rv ne];exact q
 .cases ra with
  |tup ha r=>
   obtain⟨its,rv,tl⟩:=ok.tup ha;refine SeqAt.notIn_tupleAt (rG X.K H d) tl (λ w hw=>zL ok rd rx hu1 nd r rv hd ne w (by simpa using hw)) ⟨.bl _,H,I,rfl,?_⟩;rw[show its.toArray.any (rG X.K H d)=its.any (rG X.K H d)by simp,wG ok r rv ne];exact q
end
section
variable{K:zAA}
def eqR(neg:Bool):D->D->Rs D:=λ d e=>if decide (cM d<=60)&&aN d&&aN e then .ok (.bl (if neg then !eqD d e else eqD d e))else .st
def inR(neg:Bool):D->D->Rs D:=λ d e=>match e with
 | .lst es=>if decide (ao es<=60)&&aN d&&aR es then .ok (.bl (if neg then !inD d es else inD d es))else .st
 | .tup es=>if decide (ao es<=60)&&aN d&&aR es then .ok (.bl (if neg then !inD d es else inD d es))else .st
 |_=>.st
def os_eq:OpS K (zV K n) (eqR n):=by
 intro A x y d e H Q z rx ry ez q;unfold eqR at ez;split at ez
 .rename_i h
  simp only[zAO,decide_eq_true_eq]at h;cases ez;exact⟨A,A,d,e,rx,ry,h.1.1,h.1.2,h.2,q _ H (aM.refl H) (.bl _)⟩
 .cases ez
def aG7:OpS K (aEh K n) (inR n):=by
 intro A x y d e H Q z rx ry ez q;unfold inR at ez;split at ez
 .split at ez
  .rename_i h
   simp only[zAO,decide_eq_true_eq]at h;cases ez;cases ry with
   |lst ha mm r=>exact⟨A,A,d,_,_,rx,rfl,.inl (.lst ha mm r),h.1.1,h.1.2,h.2,q _ H (aM.refl H) (.bl _)⟩
  .cases ez
 .split at ez
  .rename_i h
   simp only[zAO,decide_eq_true_eq]at h;cases ez;cases ry with
   |tup ha r=>exact⟨A,A,d,_,_,rx,rfl,.inr (.tup ha r),h.1.1,h.1.2,h.2,q _ H (aM.refl H) (.bl _)⟩
  .cases ez
 .cases ez
def aFa:∀x y z,eqR n x y= .ok z->imm z=true:=by
 intro x y z e;unfold eqR at e;split at e
 .cases e;rfl
 .cases e
end
section
variable{K:zAA}
def mmD(f:Int->Int->Int):List D->Rs D
 |[.int i,.int j]=>.ok (.int (f i j))
 |_=>.st
def aEO:tH K (λ xs H Q=>∃i j,xs=[.int i,.int j]/\Q (.int (f i j)) H) (mmD f):=by
 intro A xs ds H Q z r ez q;unfold mmD at ez;split at ez
 .cases ez
  cases r with
  |cons h r=>
   cases h;cases r with
   |cons h r=>
    cases h;cases r;exact⟨_,_,rfl,q _ H (aM.refl H) (.int _)⟩
 .cases ez
def aBf:∀x z,mmD f x= .ok z->imm z=true:=by
 intro x z e;unfold mmD at e;split at e
 .cases e;rfl
 .cases e
def jK:List D->Rs D
 |[.lst l]=>.ok (.tup l)
 |[.tup l]=>.ok (.tup l)
 |_=>.st
def aCB:tH K (λ xs H Q=>∃p ys,xs=[.ref p]/\((SqL K H p ys/\∀l,H l=none->Q (.ref l) (upd H l (.tup ys)))\/(SqT K H p ys/\Q (.ref p) H))) jK:=by
 intro A xs ds H Q z r ez q;unfold jK at ez;split at ez
 .cases ez
  cases r with
  |cons h r=>
   cases r;cases h with
   |lst h m r=>exact⟨_,_,rfl,.inl ⟨SqL.of h,λ l hl=>q _ _ (bh hl _) (.tup (SqT.of aj) ((r.wk λ _ _ _ z=>.inr z.1).up (bh hl _)))⟩⟩
 .cases ez
  cases r with
  |cons h r=>
   cases r;cases h with
   |tup h r=>exact⟨_,_,rfl,.inr ⟨h,q _ H (aM.refl H) (.tup h (r.wk λ _ _ _ z=>.inr z))⟩⟩
 .cases ez
end
def cutD(l:List D)(lo hi:Option Int):List D:=(l.drop (HT.sIx l.length 0 lo)).take (HT.sIx l.length l.length hi-HT.sIx l.length 0 lo)
def Rps.cut{K:zAA}(r:Rps K A H xs ds)(lo hi:Option Int):Rps K A H (ql xs lo hi) (cutD ds lo hi):=by
 unfold ql cutD;rw[r.length];exact(r.drop _).take _
def slD(d:D)(lo hi:Option Int):Rs D:=match d with
 | .tup l=>.ok (.tup (cutD l lo hi))
 | .lst l=>.ok (.lst (cutD l lo hi))
 |_=>.st
def aGW(K:zAA):V->Option Int->Option Int->Hp->VK->Prop:=λ x lo hi H Q=>(∃a xs,x= .ref a/\SqT K H a xs/\∀c H',aM H H'->SqT K H' c (ql xs lo hi)->Q (.ref c) H')\/aGX K x lo hi H Q
def aC8:SlR X (λ x lo hi H Q=>∃a xs,x= .ref a/\SqT X.K H a xs/\∀c H',aM H H'->SqT X.K H' c (ql xs lo hi)->Q (.ref c) H'):=by
 intro pins s Z H x v vl vu lo hi sl Q I rx hs pl pu h;obtain⟨a,xs,rfl,hx,q⟩:=h;cases rx;obtain⟨its,r,ht,hz⟩:=I.tuple hx;have hlen:its.toArray.size=xs.length:=by rw[zAF];exact r.length.symm
 refine⟨"tuple",_,zBX.lookup,ht.typeIs,?_⟩;by_cases hw:HT.sIx xs.length 0 lo=0/\HT.sIx xs.length xs.length hi=xs.length
 .refine HT.mO ht hs pl pu (by rw[hlen];exact hw.1) (by rw[hlen];exact hw.2) ⟨.ref a,H,I,rfl,q a H (aM.refl H) ?_⟩
  have:ql xs lo hi=xs:=by
   unfold ql;rw[hw.1,hw.2,zBf,zF2,List.take_length]
  rw[this];exact hx
 .refine HT.mL ht hs pl pu (by rw[hlen];exact hw) ?_ (by rw[hlen];exact hz)
  rw[hlen];refine⟨.ref s.heap.objs.size,_,I.laid (t':=s.toks) (o:=.tup (ql xs lo hi)) (λ b ob q=>zAD _ q) (zAP _) ?_,rfl,q _ _ (bh (I.hok.fresh (zAP _)) _) (SqT.of aj)⟩;exact⟨⟨zAr (oK xs lo hi) hz,NoD.push _⟩,_,(r.drop (HT.sIx xs.length 0 lo)).take (HT.sIx xs.length xs.length hi-HT.sIx xs.length 0 lo),zFG _ _⟩
def aHJ:SlR X (aGW X.K):=aC8.or aC9
section
variable{C:Ct}{pos p2:Pos}{m:Mode}{a e:Expr}{fa fe:En->Rs D}{lo hi:Option Expr}
def aHS(K:zAA)(G:Gx)(t:TO)(f:En->Rs (Option Int)):Prop:=∀U Z H ρ lab (Q:Option Int->Hp->Prop),RR K G U ρ Z H lab->WR G (f ρ) (λ o=>∀H',aM H H'->Q o H')->t Z H Q
def SO(C:Ct)(e:Option Expr)(f:En->Rs (Option Int)):Prop:=∃t,(∀i,PO (C.X i) e t)/\aHS C.K C.G t f
def rn:En->Rs (Option Int):=λ _=>.ok none
def jw(fe:En->Rs D):En->Rs (Option Int):=λ ρ=>(fe ρ).bd λ d=>match d with
 | .int i=>.ok (some i)
 |_=>.st
def yM:SO C none rn:=⟨_,λ _=>aCq,λ U Z H ρ lab Q R W=>W H (aM.refl H)⟩
def o5(h:SE C m e fe):SO C (some e) (jw fe):=by
 obtain⟨t,h1,h2⟩:=h;refine⟨_,λ i=>aCp (h1 i),λ U Z H ρ lab Q R W=>h2 U Z H ρ lab _ R (W.bd.imp λ d _ w x H1 s r=>?_)⟩;cases r with
 |int i=>exact⟨i,rfl,w H1 s⟩
 |_=>exact zAE w
def jM(fa:En->Rs D)(fl fh:En->Rs (Option Int)):En->Rs D:=λ ρ=>(fa ρ).bd λ d=>(fl ρ).bd λ l=>(fh ρ).bd λ h=>okD (slD d l h)
def pQ{fl fh:En->Rs (Option Int)}(ha:SE C m a fa)(hl:SO C lo fl)(hh:SO C hi fh):SE C m (.Subscript a (.Slice lo hi none p2) pos) (jM fa fl fh):=by
 obtain⟨t,h1,h2⟩:=ha;obtain⟨tl,l1,l2⟩:=hl;obtain⟨th,k1,k2⟩:=hh;refine⟨tSl (aGW C.K) t tl th,λ i=>by rw[<-C.hK i];exact aBE aHJ (h1 i) (l1 i) (k1 i),λ U Z H ρ lab Q R W=>h2 U Z H ρ lab _ R (W.bd.imp λ d _ w x H1 s1 r1=>?_)⟩;refine l2 U Z H1 ρ lab _ (R.up s1) (w.bd.imp λ ol _ w H2 s2=>?_);refine k2 U Z H2 ρ lab _ ((R.up s1).up s2) (w.bd.imp λ oh _ w H3 s3=>?_);obtain⟨z,ez,w⟩:=w.okD;have s:=s1.trans (s2.trans s3);have r3:=r1.up (s2.trans s3);cases d with
 |tup l=>
  cases ez;cases r3 with
  |tup h r=>exact .inl ⟨_,_,rfl,h,λ c H' s' hc=>w _ H' (s.trans s') (.tup hc ((r.cut ol oh).up s'))⟩
 |lst l=>
  cases ez;cases r3 with
  |lst h mm r=>
   exact .inr ⟨_,_,rfl,SqL.of h,λ p hp=>w _ _ (s.trans (bh hp _)) (.lst aj (.inl (s.free hp)) (((r.cut ol oh).wk λ q o e z=>⟨z.1,λ e'=>by subst e';rw[hp]at e;cases e⟩).up (bh hp _)))⟩
 |_=>cases ez
def aAK(fd:D->D->Rs D)(i:Nat)(fe:En->Rs D):En->Ou:=λ ρ=>(op2 fd (wL i) fe ρ).bo λ d=>.nx (ρ.set i (.sh d))
def aE2(he:SE C m e fe)(ho:∀j,PIp (C.X j) op (ipI f))(hN:∀j,(C.X j).N[i]? =some x:=by intro _;rfl)(hx:∀j,Loc (C.X j).env.scope x:=by intro _;first|exact zCd rfl|exact zBz rfl)(hf:∀j,(C.X j).fn x=true\/(C.X j).env.scope.names.lookup x=some .local:=by intro _;first|exact .inl rfl|exact .inr rfl)(nd:∀j,(C.X j).N.Nodup:=by intro _;assumption):SS C (.AugAssign (.Name x pos') op e pos) (aAK (i2 (λ _ _=>true) λ a b=>.int (f a b)) i fe):=by
 obtain⟨t,h1,h2⟩:=he;refine⟨_,λ j=>aEn (nd j) (hN j) (hx j) (h1 j) (ho j) (hf j),λ U Z H ρ lab De R W=>?_⟩;have w0:=(WS.bo W).bd;refine yN C.K C.G i U Z H ρ lab (λ v H'=>t Z H' λ y H1=>ipI f v y H1 λ z H2=>De.nx (Z.set i (some z)) H2) R (w0.imp λ d _ w v H' s r=>h2 U Z H' ρ lab _ (R.up s) (w.bd.imp λ e _ w y H1 s1 r1=>?_));obtain⟨z,ez,w⟩:=w.okD;unfold i2 at ez;split at ez
 .cases ez
  cases r;cases r1;exact⟨_,_,rfl,rfl,w _ _ _ (((R.up s).up s1).put (s:=.sh (.int _)) (Rp.int _))⟩
 .cases ez
end
section
variable{C:Ct}{pos p:Pos}{m m1 m2:Mode}{a b e:Expr}{fa fb:En->Rs D}{ga:En->Rs (List D)}
def Ct.u0(C:Ct)(i:C.ι):(C.X i).A.units<cLine:=(C.room i).units0
def Ct.u64(C:Ct)(i:C.ι):(C.X i).A.units+64<cLine:=(C.room i).units
def Ct.ltR(C:Ct)(i:C.ι):OpR (C.X i) (zB2 .Lt) (λ x y H Q=>rI0 (λ i j=>.bl (decide (i<j))) x y H Q\/aCj C.K x y H Q):=by have h:=aFM (X:=C.X i) (C.u0 i);rw[C.hK i]at h;exact h
def Ct.eqRl(C:Ct)(i:C.ι):OpR (C.X i) (zB2 .Eq) (zV C.K false):=by have h:=aBK (X:=C.X i) (C.u64 i);rw[C.hK i]at h;exact h
def Ct.neRl(C:Ct)(i:C.ι):OpR (C.X i) (zB2 .NotEq) (zV C.K true):=by have h:=aFJ (X:=C.X i) (C.u64 i);rw[C.hK i]at h;exact h
def Ct.ninRl(C:Ct)(i:C.ι):OpR (C.X i) (zB2 .NotIn) (aEh C.K true):=by have h:=z8 (X:=C.X i) (C.u64 i);rw[C.hK i]at h;exact h
def Ct.aGq(C:Ct)(i:C.ι):OpR (C.X i) (zBv .Add) (aAr C.K):=by have h:=aDH (X:=C.X i);rw[C.hK i]at h;exact h
def aC4:D->D->Rs D:=i2 (λ _ _=>true) λ i j=>.int (i-j)
def oG:D->D->Rs D:=i2 (λ _ j=>decide (0<j)&&decide (j<1073741824)) λ i j=>.int (i / j)
def nG:D->D->Rs D:=i2 (λ _ j=>decide (0<j)) λ i j=>.int (i%j)
def aEo:D->D->Rs D:=i2 (λ i j=>decide (0<=j)&&decide (j<=1000000)&&decide (i.natAbs<2^64)) λ i j=>.int (i^j.toNat)
def bQ(ha:SE C m1 a fa)(hb:SE C m2 b fb):SE C (jn m1 m2) (.BinOp a .Add b pos) (op2 bJ fa fb):=pR C.aGq aFF ha hb
def iM(ha:SE C m1 a fa)(hb:SE C m2 b fb):SE C (jn m1 m2) (.BinOp a .Mult b pos) (op2 dm fa fb):=pR (λ _=>aDD) aFD ha hb
def aE6(ha:SE C m1 a fa)(hb:SE C m2 b fb):SE C (some []) (.BinOp a .Sub b pos) (op2 aC4 fa fb):=iR (pR (λ _=>aFG) aDB ha hb) λ _ _ h=>jh ud h
def yS(ha:SE C m1 a fa)(hb:SE C m2 b fb):SE C (some []) (.BinOp a .FloorDiv b pos) (op2 oG fa fb):=iR (pR (λ _=>aDE) (wz λ i j h=>by simpa[aGx]using h) ha hb) λ _ _ h=>jh ud h
def mz(ha:SE C m1 a fa)(hb:SE C m2 b fb):SE C (some []) (.BinOp a .Mod b pos) (op2 nG fa fb):=iR (pR (λ _=>aFL) (wz λ i j h=>by simpa using h) ha hb) λ _ _ h=>jh ud h
def aE8(ha:SE C m1 a fa)(hb:SE C m2 b fb):SE C (some []) (.BinOp a .Pow b pos) (op2 aEo fa fb):=iR (pR (λ _=>aFI) (wz λ i j h=>by simp only[zAO,decide_eq_true_eq]at h;exact⟨h.1.1,h.1.2,h.2⟩) ha hb) λ _ _ h=>jh ud h
def aGU(ha:SE C m1 a fa)(hb:SE C m2 b fb):SE C (some []) (.Compare a [.GtE] [b] pos) (op2 geD fa fb):=iR (aAi (λ _=>aEG) uK ha hb) λ _ _ h=>jh aFb h
def aGV(ha:SE C m1 a fa)(hb:SE C m2 b fb):SE C (some []) (.Compare a [.Eq] [b] pos) (op2 (eqR false) fa fb):=iR (aAi C.eqRl os_eq ha hb) λ _ _ h=>jh aFa h
def aGQ(ha:SE C m1 a fa)(hb:SE C m2 b fb):ST C (.Compare a [.Lt] [b] pos) (tsb (op2 ltD fa fb)):=kW C.ltR aG5 ha hb
def aA7(ha:SE C m1 a fa)(hb:SE C m2 b fb):ST C (.Compare a [.Gt] [b] pos) (tsb (op2 gtD fa fb)):=kW (λ _=>aG9) uK ha hb
def aGR(ha:SE C m1 a fa)(hb:SE C m2 b fb):ST C (.Compare a [.GtE] [b] pos) (tsb (op2 geD fa fb)):=kW (λ _=>aEG) uK ha hb
def vJ(ha:SE C m1 a fa)(hb:SE C m2 b fb):ST C (.Compare a [.Eq] [b] pos) (tsb (op2 (eqR false) fa fb)):=kW C.eqRl os_eq ha hb
def aA6(ha:SE C m1 a fa)(hb:SE C m2 b fb):ST C (.Compare a [.NotEq] [b] pos) (tsb (op2 (eqR true) fa fb)):=kW C.neRl os_eq ha hb
def aEZ(ha:SE C m1 a fa)(hb:SE C m2 b fb)(hm:zBu .NotIn b=false:=by with_unfolding_all rfl):ST C (.Compare a [.NotIn] [b] pos) (tsb (op2 (inR true) fa fb)):=kW C.ninRl aG7 ha hb hm
def bT(ha:SE C m1 a fa)(hb:SE C m2 b fb)(hp:zM b:=by exact λ _ _=>rfl):SE C m1 (.Subscript a b pos) (op2 ixD fa fb):=by
 obtain⟨t,h1,h2⟩:=ha;obtain⟨u,k1,k2⟩:=hb;refine⟨tOp (rIx C.K) t u,λ i=>by rw[<-C.hK i];exact aEE aF7 (h1 i) (k1 i) hp,λ U Z H ρ lab Q R W=>?_⟩;refine h2 U Z H ρ lab _ R (W.bd.imp λ d _ w x H1 s1 r1=>?_);refine k2 U Z H1 ρ lab _ (R.up s1) (w.bd.imp λ e _ w y H2 s2 r2=>?_);obtain⟨z,ez,w⟩:=w.okD;have hi:imm e=true:=by
  unfold ixD at ez;split at ez<;>first|rfl|cases ez
 refine aG6 (fpM m1 lab H) x y d e H2 Q z (r1.up s2) (r2.imm hi) ez λ v H' s r=>w v H' ((s1.trans s2).trans s) (r.wk λ p o _ q=>?_)
 rcases q with q|q
 .exact .inl ((s1.trans s2).free q)
 .exact q
def nA(hm:C.mg "len"=none)(ha:SA C m [a] ga)(he:∀i,zAY [a] (C.X i).env=[(false,eval a (C.X i).env)]:=by intro _;rfl)(hg:∀i,Gl (C.X i) "len":=by intro _;rfl):SE C (some []) (.Call (.Name "len" p) [a] [] pos) (opA jq ga):=
 iR (pU (λ i=>by have h:=um (X:=C.X i);rw[C.hK i]at h;exact h) aFs hg hm PySem.boot_len ha (by decide) (by decide) he) λ _ _ h=>uc aD1 h
def aCe(hm:C.mg "min"=none)(ha:SA C m [a,b] ga)(he:∀i,zAY [a,b] (C.X i).env=(false,eval a (C.X i).env)::zAY [b] (C.X i).env:=by intro _;rfl)(hpl:∀i,(zCQ pos (zAY [b] (C.X i).env)).any (·.1)=false:=by intro _;rfl)(hg:∀i,Gl (C.X i) "min":=by intro _;rfl)(hv:zB5 "min"=some (.builtin "min"):=by decide+kernel):SE C (some []) (.Call (.Name "min" p) [a,b] [] pos) (opA (mmD λ i j=>if j<i then j else i) ga):=
 iR (pU (λ i=>aAG (C.calm i)) aEO hg hm hv ha (by decide) (by decide) he hpl) λ _ _ h=>uc aBf h
def yR(hm:C.mg "max"=none)(ha:SA C m [a,b] ga)(he:∀i,zAY [a,b] (C.X i).env=(false,eval a (C.X i).env)::zAY [b] (C.X i).env:=by intro _;rfl)(hpl:∀i,(zCQ pos (zAY [b] (C.X i).env)).any (·.1)=false:=by intro _;rfl)(hg:∀i,Gl (C.X i) "max":=by intro _;rfl)(hv:zB5 "max"=some (.builtin "max"):=by decide+kernel):SE C (some []) (.Call (.Name "max" p) [a,b] [] pos) (opA (mmD λ i j=>if j>i then j else i) ga):=
 iR (pU (λ i=>aAH (C.calm i)) aEO hg hm hv ha (by decide) (by decide) he hpl) λ _ _ h=>uc aBf h
def pO(hm:C.mg "tuple"=none)(ha:SA C m [a] ga)(he:∀i,zAY [a] (C.X i).env=[(false,eval a (C.X i).env)]:=by intro _;rfl)(hg:∀i,Gl (C.X i) "tuple":=by intro _;rfl)(hv:zB5 "tuple"=some (.type "tuple"):=by decide+kernel):SE C m (.Call (.Name "tuple" p) [a] [] pos) (opA jK ga):=
 aAj (λ i=>by have h:=rN (X:=C.X i);rw[C.hK i]at h;exact h) aCB hg hm hv ha (by decide) (by decide) he
def aEc{K:zAA}{a:Addr}(hO:Only H)(h:SqL K H a (ns.map V.int)):kO K H a ns:=by
 rcases h with (h|⟨o,h⟩)|h
 .rcases hO a with z|⟨o,xs,z⟩
  .rw[h]at z;cases z
  .rw[h]at z;cases z
 .exact .inl ⟨o,h⟩
 .exact .inr h
end
def lq:V->List V->Hp->VK->Prop:=λ x vs H Q=>∃l b xs zs,x= .ref l/\vs=[.ref b]/\H l=some (.lst xs)/\H b=some (.lst zs)/\xs.length+zs.length<=zAN/\∀H',jC l H H'->H' l=some (.lst (xs++zs))->Q .non H'
def lG:MtM X "list.extend" lq:=λ pins s Z H x xs v us Q I rx rv ⟨l,b,ys,zs,e1,e2,h,h2,z,n⟩=>
 zb pins s Z H x xs v us Q I rx rv ⟨l,b,ys,zs,e1,e2,h,h2,z,n _ (λ b o ne hb=>by rw[aQ ne];exact hb) aj⟩
def aDw:V->List V->Hp->VK->Prop:=λ x vs H Q=>∃l xs y,x= .ref l/\vs=[]/\H l=some (.lst xs)/\xs[xs.length-1]? =some y/\∀H',jC l H H'->H' l=some (.lst xs.dropLast)->Q y H'
def aDJ:MtM X "list.pop" aDw:=λ pins s Z H x xs v us Q I rx rv ⟨l,ys,y,e1,e2,h,z,n⟩=>
 aFU pins s Z H x xs v us Q I rx rv ⟨l,ys,y,e1,e2,h,z,n _ (λ b o ne hb=>by rw[aQ ne];exact hb) aj⟩
theorem Rps.dropLast{K:zAA}(r:Rps K A H xs ds):Rps K A H xs.dropLast ds.dropLast:=by
 rw[zFR,zFR,r.length];exact r.take _
section
variable{C:Ct}{pos apos cpos p:Pos}{e tg:Expr}{fe:En->Rs D}{fg:D->En->Rs En}{i:Nat}{x:Str}{m:Mode}{ks:List Nat}
def ue(ds:List D)(k:List D->Ou):D->Ou
 | .lst es=>if ds.length+es.length<=zAN then k (ds++es)else .st
 |_=>.st
def nP(i:Nat)(fe:En->Rs D):En->Ou:=λ ρ=>match ρ[i]? with
 |some (.ow (.lst ds))=>(fe ρ).bo (ue ds λ l=>.nx (ρ.set i (.ow (.lst l))))
 |_=>.st
def aAD(i:Nat)(fe:En->Rs D):En->Ou:=λ ρ=>match ρ[i]? with
 |some (.oz (.lst ds))=>(fe ρ).bo (ue ds λ l=>.nx (ρ.set i (.oz (.lst l))))
 |_=>.st
def wV(i:Nat)(he:SE C m e fe)(hm:okS m=true:=by rfl)(hN:∀j,(C.X j).N[i]? =some x:=by intro _;rfl)(hv:∀j,Vis (C.X j).env.scope x:=by intro _;first|exact zCd rfl|exact zBz (zCd rfl)|exact zBz (zBz rfl))(hd:Nd x:=by decide)
  (hcd:(x==("__classdict__":Str))=false:=by decide)(hs1:∀j,zAY [e] (C.X j).env=[(false,eval e (C.X j).env)]:=by intro _;rfl)
  (hbase:∀j,zDJ (.Name x p) "extend" (C.X j).env (eval (.Name x p) (C.X j).env)=eval (.Name x p) (C.X j).env:=by intro _;rfl)
  (hfew:∀j,((zCQ cpos (zAY [e] (C.X j).env)).all (λ x=>!x.1)&&(zFD cpos (zDc [] (C.X j).env)).all (λ x=>x.1.isSome)&&decide ([e].length+([]:List zCi).length+(if ([]:List zCi).isEmpty then 0 else 1)<30))=true:=by intro _;rfl)
  (hline:(apos.endLine==cpos.line)=true:=by rfl)
  (hsw:∀j,zD2 (.Call (.Attribute (.Name x p) "extend" apos) [e] [] cpos) none pos.line (C.X j).env=pure false:=by intro _;rfl):
  SS C (.Expr (.Call (.Attribute (.Name x p) "extend" apos) [e] [] cpos) pos) (aAD i fe):=by
 obtain⟨t,h1,h2⟩:=he;refine⟨rW (tBM C.K "list" lq (jo i) (jE t qx)),λ j=>mC (by rw[<-C.hK j];exact vY zBa zC7 zDI lG (dq (hN j) (hv j) hd hcd) (aV (h1 j) cg (hs1 j)) (hbase j) (hfew j) hline (hs1 j) rfl) (hsw j),λ U Z H ρ lab De R W=>?_⟩;unfold aAD at W;cases es:ρ[i]? with
 |none=>rw[es]at W;exact zAE W
 |some s=>
  rw[es]at W;split at W
  .rename_i ds hs
   cases hs;rcases R.sl i _ es with z|⟨v,ev,a0,xs,ds',rfl,hds,h,la0,r⟩
   .cases z
   .cases hds
    refine⟨.ref a0,ev,.inl ⟨rfl,xs,SqL.of h⟩,h2 U Z H ρ lab _ R (W.bo.imp λ d _ w y H2 s2 r2=>?_)⟩;cases d with
    |lst es'=>
     dsimp only[ue]at w;by_cases hz:ds.length+es'.length<=zAN
     .rw[if_pos hz]at w
      obtain⟨R',r'⟩:=R.shared hm s2 r2;cases r' with
      |lst hb mb rb=>
       rename_i b zs;refine⟨a0,b,xs,zs,rfl,rfl,s2 _ _ h,hb,by rw[r.length,rb.length];exact hz,λ H3 B h3=>?_⟩;have la:(bf H 1 lab a0).1=i+2:=by rw[bF h];exact la0
       refine w Z H3 _ (R'.mut ev (s2 _ _ h) rfl la B ⟨a0,_,_,rfl,rfl,h3,la,?_⟩);have ra:Rps C.K (λ p=>(bf H 1 lab p).1<=1) H2 (xs++zs) (ds++es'):=
        (r.mono s2 λ p o e z=>by rw[bF e];exact z).append (rb.wk λ p o e z=>z.1)
       exact ra.but B (s2 _ _ h) rfl λ z=>by omega
     .rw[if_neg hz]at w
      exact zAE w
    |_=>exact zAE w
  .exact zAE W
def mq(i:Nat)(he:SE C m e fe)(hm:okN m=true:=by rfl)(hN:∀j,(C.X j).N[i]? =some x:=by intro _;rfl)(hv:∀j,Vis (C.X j).env.scope x:=by intro _;first|exact zCd rfl|exact zBz (zCd rfl)|exact zBz (zBz rfl))(hd:Nd x:=by decide)
  (hcd:(x==("__classdict__":Str))=false:=by decide)(hs1:∀j,zAY [e] (C.X j).env=[(false,eval e (C.X j).env)]:=by intro _;rfl)
  (hbase:∀j,zDJ (.Name x p) "extend" (C.X j).env (eval (.Name x p) (C.X j).env)=eval (.Name x p) (C.X j).env:=by intro _;rfl)
  (hfew:∀j,((zCQ cpos (zAY [e] (C.X j).env)).all (λ x=>!x.1)&&(zFD cpos (zDc [] (C.X j).env)).all (λ x=>x.1.isSome)&&decide ([e].length+([]:List zCi).length+(if ([]:List zCi).isEmpty then 0 else 1)<30))=true:=by intro _;rfl)
  (hline:(apos.endLine==cpos.line)=true:=by rfl)
  (hsw:∀j,zD2 (.Call (.Attribute (.Name x p) "extend" apos) [e] [] cpos) none pos.line (C.X j).env=pure false:=by intro _;rfl):
  SS C (.Expr (.Call (.Attribute (.Name x p) "extend" apos) [e] [] cpos) pos) (nP i fe):=by
 obtain⟨t,h1,h2⟩:=he;refine⟨rW (tBM C.K "list" lq (jo i) (jE t qx)),λ j=>mC (by rw[<-C.hK j];exact vY zBa zC7 zDI lG (dq (hN j) (hv j) hd hcd) (aV (h1 j) cg (hs1 j)) (hbase j) (hfew j) hline (hs1 j) rfl) (hsw j),λ U Z H ρ lab De R W=>?_⟩;unfold nP at W;cases es:ρ[i]? with
 |none=>rw[es]at W;exact zAE W
 |some s=>
  rw[es]at W;split at W
  .rename_i ds hs
   cases hs;rcases R.sl i _ es with z|⟨v,ev,hv'⟩
   .cases z
   .obtain⟨hv1,htop⟩:=hv'
    obtain⟨a0,ea0,la0⟩:=htop rfl;subst ea0;cases hv1 with
    |lst h mm r=>
     rename_i xs;refine⟨.ref a0,ev,.inl ⟨rfl,xs,SqL.of h⟩,h2 U Z H ρ lab _ R (W.bo.imp λ d _ w y H2 s2 r2=>?_)⟩;cases d with
     |lst es'=>
      dsimp only[ue]at w;by_cases hz:ds.length+es'.length<=zAN
      .rw[if_pos hz]at w
       obtain⟨R',r'⟩:=R.fresh (P:=λ k=>k=1) rfl (λ k hk=>beq_iff_eq.mp (je hm k hk)) s2 r2;have la:(bf H 1 lab a0).1=i+2:=by rw[bF h];exact la0
       cases r' with
       |lst hb mb rb=>
        rename_i b zs;refine⟨a0,b,xs,zs,rfl,rfl,s2 _ _ h,hb,by rw[r.length,rb.length];exact hz,λ H3 B h3=>?_⟩;refine w Z H3 _ (R'.mut ev (s2 _ _ h) rfl la B ⟨.lst h3 (.inr la) ?_,λ _=>⟨a0,rfl,la⟩⟩);have ra:Rps C.K (λ p=>((bf H 1 lab p).1=1\/(bf H 1 lab p).1=i+2)/\p≠a0) H2 (xs++zs) (ds++es'):=by
         refine(r.mono s2 λ p o e z=>⟨by rw[bF e];exact z.1,z.2⟩).append (rb.wk λ p o e z=>⟨.inl z.1,λ q=>?_⟩);subst q;have z1:(bf H 1 lab p).1=1:=z.1;omega
        exact ra.but B (s2 _ _ h) rfl λ z=>z.2 rfl
      .rw[if_neg hz]at w
       exact zAE w
     |_=>exact zAE w
  .exact zAE W
def aEp(i:Nat)(fg:D->En->Rs En)(ρ:En)(ds:List D):Ou:=match ds.getLast? with
 |some d=>match fg d (ρ.set i (.oz (.lst ds.dropLast)))with
  | .ok ρ'=>.nx ρ'
  |_=>.st
 |none=>.st
def zX(i:Nat)(fg:D->En->Rs En):En->Ou:=λ ρ=>match ρ[i]? with
 |some (.oz (.lst ds))=>aEp i fg ρ ds
 |_=>.st
def aC6(i:Nat)(hg:SG C tg ks fg)(hN:∀j,(C.X j).N[i]? =some x:=by intro _;rfl)(hv:∀j,Vis (C.X j).env.scope x:=by intro _;first|exact zCd rfl|exact zBz (zCd rfl)|exact zBz (zBz rfl))(hd:Nd x:=by decide)
  (hcd:(x==("__classdict__":Str))=false:=by decide)
  (hbase:∀j,zDJ (.Name x p) "pop" (C.X j).env (eval (.Name x p) (C.X j).env)=eval (.Name x p) (C.X j).env:=by intro _;rfl)
  (hline:(apos.endLine==cpos.line)=true:=by rfl)
  (hs:∀j,zFl [tg] (.Call (.Attribute (.Name x p) "pop" apos) [] [] cpos) pos.line (C.X j).env=pure false:=by intro _;rfl)(hw:∀j,zFk [tg] (.Call (.Attribute (.Name x p) "pop" apos) [] [] cpos) (C.X j).env=pure none:=by intro _;rfl)
  (h1:∀j,(zCJ [tg] (C.X j).env).map (·.2)=[zFL tg (C.X j).env]:=by intro _;rfl):
  SS C (.Assign [tg] (.Call (.Attribute (.Name x p) "pop" apos) [] [] cpos) pos) (zX i fg):=by
 obtain⟨g,q1,q2,_,_⟩:=hg;refine⟨wR (aGO C.K "list" aDw (jo i)) g,λ j=>aAz (by rw[<-C.hK j];exact aEy zBa zFd PySem.F.type_list_pop aDJ (dq (hN j) (hv j) hd hcd) (hbase j) hline) (q1 j) (hs j) (hw j) (h1 j),λ U Z H ρ lab De R W=>?_⟩;unfold zX at W;cases es:ρ[i]? with
 |none=>rw[es]at W;exact zAE W
 |some s=>
  rw[es]at W;split at W
  .rename_i ds hs
   cases hs;rcases R.sl i _ es with z|⟨v,ev,a0,xs,ds',rfl,hds,h,la0,r⟩
   .cases z
   .cases hds
    unfold aEp at W;cases hlast:ds.getLast? with
    |none=>rw[hlast]at W;exact zAE W
    |some d=>
     rw[hlast]at W;dsimp only at W;rw[List.getLast?_eq_getElem?,<-r.length]at hlast;obtain⟨y,hy,ry⟩:=r.getD hlast;refine⟨.ref a0,ev,.inl ⟨rfl,xs,SqL.of h⟩,a0,xs,y,rfl,rfl,h,hy,λ H3 B h3=>?_⟩;have R3:=R.mut ev h rfl la0 B (s':=.oz (.lst ds.dropLast)) ⟨a0,_,_,rfl,rfl,h3,la0,(r.dropLast).but B h rfl λ z=>by omega⟩;cases hgd:fg d (ρ.set i (.oz (.lst ds.dropLast)))with
     |ok ρ'=>rw[hgd]at W;exact q2 U y d Z H3 _ _ _ ρ' R3 (ry.but B h rfl λ z=>by omega) hgd λ Z' R2=>W Z' H3 _ R2
     |ex c=>rw[hgd]at W;exact zAE W
     |st=>rw[hgd]at W;exact zAE W
  .exact zAE W
end
def aC2:fillsNumberSlot (.type "tuple") "mul"=pure false:=
 PySem.fillsNumberSlot_seq (id:="tuple.__mul__") (r:=some (.builtin "tuple.__rmul__")) zE8.lookup (by decide+kernel) zGR.lookup (by decide+kernel)
def aA0:seqRepeat? (.type "tuple")=pure (some (.builtin "tuple.__mul__")):=by
 unfold seqRepeat?;rw[zFv (T:="tuple") (name:="__mul__") (id:="tuple.__mul__") zE8.lookup (by decide+kernel)];rw[zFv (T:="tuple") (name:="__rmul__") (id:="tuple.__rmul__") zGR.lookup (by decide+kernel)];rfl
def aA1(k:Int)(t:Tok)(a:Addr)(its:Array Value)(n:Nat)(dd:Option Addr)(sl:Array (Option Value)):
  Meets (zE7.«int.__rmul__» ⟨[.int k t,.ref a],[]⟩) (λ _ R s=>s.heap.get? a=some {cls:=.type "tuple",dict:=dd,data:=.seq its n,slots:=sl}/\R (.ok (.ret zFU)) s):=by
 refine .of_wp λ P w A R s h=>?_
 obtain⟨_,_,_,_,_⟩:=s;obtain⟨hl,h⟩:=h;wp_walk;exact⟨_,rfl,h⟩
def aAZ(k:Int)(t:Tok)(a:Addr)(l:List Value)(n:Nat)(dd:Option Addr)(sl:Array (Option Value))(h1:1<k)(h2:k<2^63)(hz:l.length*k.toNat<=zAN)(he:l.isEmpty=false):
  Meets (zE7.«tuple.__mul__» ⟨[.ref a,.int k t],[]⟩) (λ _ R s=>s.heap.get? a=some {cls:=.type "tuple",dict:=dd,data:=.seq l.toArray n,slots:=sl}/\
   R (.ok (.ret (zBb s.heap.objs.size))) {s with heap:=s.heap.push {cls:=zCM "tuple",data:=Data.seq (zAT k.toNat l).flatten.toArray}}):=by
 have hs:(l.length:Int)*k<=zAN:=by
  have:((l.length*k.toNat:Nat):Int)=(l.length:Int)*k:=by
   rw[Int.natCast_mul,zDq (by lia)]
  rw[<-this];exact Int.ofNat_le.mpr hz
 have hb:(zAN:Int)<=(2^63-1) / 8:=by decide
 have c0:¬(decide (k < -2^63)||decide (k ≥ 2^63))=true:=by simp;lia
 have c1:¬(l.toArray.isEmpty||k==1)=true:=by simp only[zFY,he];simp;lia
 have c2:¬(decide (k<=0)||l.toArray.isEmpty)=true:=by simp only[zFY,he];simp;lia
 have c3:¬((l.toArray.size:Int)*k>(2^63-1) / 8):=by rw[zAF];lia
 have c4:¬zDn ((l.toArray.size:Int)*k)=true:=by rw[zAF];unfold zDn;simp[zAN]at hs ⊢;lia
 have ef:zD9 (λ x1 x2=>x1++x2) #[] (zAT k.toNat l.toArray)=(zAT k.toNat l).flatten.toArray:=by
  have:=foldl_rep l k.toNat []
  simpa using this
 have c5:¬((zAT k.toNat l).flatten.toArray.size>zAN):=by rw[zAF,len_rep,zEQ];lia
 refine .of_wp λ P w A R s h=>?_
 obtain⟨_,_,_,_,_⟩:=s;obtain⟨hl,h⟩:=h;wp_walk;rw[if_neg c0];wp_walk
 try rw[if_neg c1]
 wp_walk
 try rw[if_neg c2]
 wp_walk
 try rw[if_neg c3]
 wp_walk
 try rw[if_neg c4]
 try rw[ef]
 wp_walk
 try rw[if_neg c5]
 wp_walk;exact⟨_,rfl,h⟩
def aDv(K:zAA):R2:=λ x y H Q=>∃a k xs,x= .ref a/\y= .int k/\SqT K H a xs/\1<k/\k<2^63/\xs≠[]/\xs.length*k.toNat<=zAN/\New H (.tup (zAT k.toNat xs).flatten) Q
def aDC:OpR X (zBv .Mult) (aDv X.K):=by
 intro pins s Z H x y v u Q I rx ry h;obtain⟨a,k,xs,rfl,rfl,ha,h1,h2,hne,hz,q⟩:=h;cases rx;obtain⟨t,rfl⟩:=ry;obtain⟨its,r,p1,_⟩:=I.tuple ha;obtain⟨⟨cls,dd,data,sl⟩,ho,hc,n,hd⟩:=id p1;simp only at hc hd;subst hc hd;have hl:its.length*k.toNat<=zAN:=by rw[<-r.length];exact hz
 have he:its.isEmpty=false:=by
  cases its with
  |nil=>exact absurd (r.nil_iff.mp rfl) hne
  |cons _ _=>rfl
 refine zF4 (T:="tuple") (U:="int") (by decide) ⟨_,ho,rfl⟩ (λ s'=>zEm s' k t) aC2 zGi zDg aA0 zG1.lookup
  (zCX zDg (zEm s k t) zG0 (zGQ _ _) (aA1 k t a its.toArray n dd sl)
   ⟨ho,rfl,⟨_,ho,rfl⟩,zCX zE8 ⟨_,ho,rfl⟩ F.entry_tuple_mul (F.args_tuple_mul_2 _ _) (aAZ k t a its n dd sl h1 h2 hl he) ⟨ho,?_⟩⟩)
 refine⟨.ref s.heap.objs.size,_,I.laid (t':=s.toks) (o:=.tup (zAT k.toNat xs).flatten) (λ b ob q=>zAD _ q) (zAP _) ?_,rfl,q.at (I.hok.fresh (zAP _))⟩;exact⟨⟨by rw[len_rep,zEQ];exact hz,NoD.push _⟩,_,r.rep k.toNat,zFG _ _⟩
def aBU:D->D->Rs D
 | .tup l,.int k=>if decide (1<k)&&decide (k<2^63)&& !l.isEmpty&&decide (l.length*k.toNat<=zAN)then .ok (.tup (zAT k.toNat l).flatten)else .st
 |_,_=>.st
def aDA{K:zAA}:OpS K (aDv K) aBU:=by
 intro A x y d e H Q z rx ry ez q;unfold aBU at ez;split at ez
 .split at ez
  .rename_i hc
   simp only[zAO,decide_eq_true_eq,zEC]at hc;obtain⟨⟨⟨c1,c2⟩,c3⟩,c4⟩:=hc;cases ez;cases ry;cases rx with
   |tup h r=>
    refine⟨_,_,_,rfl,rfl,h,c1,c2,λ e=>?_,by rw[r.length];exact c4,λ p H' s hp hn=>q _ H' s (.tup (SqT.of hp) ?_)⟩
    .subst e
     cases r;cases c3
    .exact((Rps.rep r _).up s).wk λ _ _ _ z=>.inr z
  .cases ez
 .cases ez
section
variable{C:Ct}{pos:Pos}{a b:Expr}{fa fb:En->Rs D}{m1 m2:Mode}
def aCd(ha:SE C m1 a fa)(hb:SE C m2 b fb):SE C (jn m1 m2) (.BinOp a .Mult b pos) (op2 aBU fa fb):=pR (λ i=>by rw[<-C.hK i];exact aDC) aDA ha hb
end
def vy{K:zAA}:dC P w K mg base CX k fn fd ps (spF K cl n λ _=>.st):=by
 constructor
 .rintro vs H Q E ⟨_,_,_,h⟩
  exact zAE h
 .intros
  rename_i h;obtain⟨_,_,_,h⟩:=h;exact zAE h
abbrev ctL(P:zAS)(w:World)(K:zAA)(mg:Str->Option Value)(base:Heap)(N:List Str)(q:Str)(sc:Scope)(cl:List (Str×Addr))(f:Addr)(cdv:Value)(A:zA8)(outer:List Env)(s:zAB)(H:Hp)(E:XK)(k:Nat)(hr:cX k (A.deeper (zCU q sc s.heap.objs.size f cdv cl))):Ct where
 ι:=Unit
 X:=λ _=>cxL P w K mg base N q sc cl f cdv A outer s H E
 prog:=P
 w:=w
 K:=K
 mg:=mg
 base:=base
 k:=k
 G:=⟨H,E,aY mg⟩
 cx:=λ _=>⟨rfl,rfl,rfl,rfl,rfl⟩
 calm:=λ _=>rfl
 room:=λ _=>hr
 own:=λ _=>cI.own cI.ofL
 pass:=λ _=>cI.pass cI.ofL
 dOk:=true
 dcx:=λ _ _=>cI.ofL
def shS:Slot->Slot
 | .no=>.no
 | .sh d=>.sh d
 | .nw d=>.sh d
 | .ow d=>.sh d
 | .oz d=>.sh d
 | .o2 l=>.sh (.lst (l.map .lst))
def cR.shut{K:zAA}{H:Hp}{lab:Lab}{i:Nat}{v:V}{x:Slot}(h:cR K H lab i v x):cR K H (λ _=>(0,0)) i v (shS x):=by
 cases x with
 |no=>exact trivial
 |sh d=>exact Rp.wk (λ _ _ _ _=>zAn _) h
 |nw d=>exact Rp.wk (λ _ _ _ _=>zAn _) h
 |ow d=>exact Rp.wk (λ _ _ _ _=>zAn _) h.1
 |oz d=>
  obtain⟨a,xs,ds,rfl,rfl,e3,e4,e5⟩:=h;exact .lst e3 (zAn _) (Rps.wk (λ p o e z=>⟨zAn _,λ ep=>by
   have z':(lab p).1<=1:=z;rw[ep,e4]at z';omega⟩) e5)
 |o2 l=>exact Rp.wk (λ _ _ _ _=>zAn _) (yh h)
theorem RR.shut{K:zAA}{G:Gx}{U:List (V×D)}{ρ:En}{Z:L2.St}{H:Hp}{lab:Lab}{E:XK}{cl:Str->Addr}(R:RR K G U ρ Z H lab):RR K ⟨H,E,cl⟩ [] (ρ.map shS) Z H (λ _=>(0,0)):=by
 refine⟨by rw[zAH];exact R.len,λ i s e=>?_,aM.refl H,λ p hp=>absurd rfl hp,λ q hq=>by cases hq⟩;rw[zAi]at e;cases hr:ρ[i]? with
 |none=>rw[hr]at e;cases e
 |some x=>
  rw[hr]at e;cases e;rcases R.sl i x hr with z|⟨v,e1,e2⟩
  .subst z;exact .inl rfl
  .exact .inr ⟨v,e1,e2.shut⟩
def aGS(cl:Str->Addr)(H1:Hp)(r:Rs D):Sp:=λ vs H Q E=>vs=[]/\aM H1 H/\WR ⟨H,E,cl⟩ r (λ _=>∀v H',aM H H'->Q v H')
def zU(wn:Str->Option Str)(told:Str)(fe:En->Rs D):En->Rs D:=λ ρ=>match fe (ρ.map shS)with
 | .ok _=>.ok (.str told)
 | .ex c=>(match wn c with
  |some w=>.ok (.str w)
  |none=>.st)
 | .st=>.st
def aGI(P:zAS)(w:World)(K:zAA)(mg:Str->Option Value)(N:List Str)(q:Str)(params:zCh)(body:Expr)(scope:Scope)(k0:Nat)(told:Str)(wd:Addr->Option Str)(E:XK):TE:=λ Z H Q=>
 ∀(base:Heap) (cl:List (Str×Addr)) (f c':Addr) (ctv pm:Value) (H1:Hp),aM H H1->wI q params body scope cl pm H1 f c' ctv->aCQ base N Z scope cl->spR P w K mg base k0 told wd [.ref f] H1 Q E
section
variable{C:Ct}{m:Mode}{x pc told q:Str}{p pos lpos:Pos}{k k0 kb:Nat}{fn:Addr}{fd:zAy}{wd:Addr->Option Str}{wn:Str->Option Str}{params:zCh}{body:Expr}{scope:Scope}{N:List Str}{fe:En->Rs D}
def aE7(hF:∀base,dC C.prog C.w C.K C.mg base (CX1 C.prog C.w) k fn fd [pc] (spR C.prog C.w C.K C.mg base k0 told wd))(hr:k<=C.k)(hm:C.mg x=some (.ref fn))(hk:zB4 C.K (.ref fn)=true)(hb:Binds C.K fd [pc] [])
  (hL:∀i,(∃P,oM (C.X i) P)/\(C.X i).outer=[]/\(C.X i).N=N/\(C.X i).tq=q)(S:qt scope)(hcl:C.G.cl=aY C.mg)(hwn:∀c w,wn c=some w->wd (aY C.mg c)=some w)(hkb:kb+1<=k0)
  (hbody:∀base cl f cd A outer s H E hr,SE (ctL C.prog C.w C.K C.mg base N q scope cl f cd A outer s H E kb hr) m body fe)
  (hbnd:∀cl pm c' ctv,zG9 (zEX "<lambda>" q params body scope cl pm (.ref c') ctv) ⟨[],[]⟩=pure []:=by intro _ _ _ _;rfl)(hdef:∀i,zGr params (C.X i).env=([],[]):=by intro _;rfl)
  (hfree:∀i,∀y∈scope.names,y.2= .free->(C.X i).env.kindOf y.1=some .cell\/(C.X i).env.kindOf y.1=some .free)(hdb:Nd x:=by decide)(hg:∀i,Gl (C.X i) x:=by intro _;rfl):
  SE C (some []) (.Call (.Name x p) [.Lambda params body scope lpos] [] pos) (zU wn told fe):=by
 refine⟨aGI C.prog C.w C.K C.mg N q params body scope k0 told wd C.G.E,λ i=>?_,λ U Z H ρ lab Q R W=>?_⟩
 .obtain⟨e1,e2,e3,e4,e5⟩:=C.cx i
  obtain⟨⟨P,Lx⟩,ho,eN,eq⟩:=hL i;intro pins s Z H Q I h;refine zCO (jf I (hg i) (by rw[e4];exact hm) ?_ hdb);have ha:PA (C.X i) [.Lambda params body scope lpos] _:=aV (aEx Lx (hdef i) (hfree i)) cg;refine zDj (h₀:=(C.X i).base) I.ok.mod.kin (by rw[e3];exact hk) (thn (ha pos pins s Z H (λ vs H1=>aM H H1/\∃f c' ctv,vs=[.ref f]/\wI (C.X i).tq params body scope (L2.aY scope (C.X i).env) (((C.X i).mg "__name__").getD .none) H1 f c' ctv) I
   (λ f c' ctv H' sm l=>⟨sm,f,c',ctv,rfl,l⟩)) λ us s1 ⟨vs,H1,I1,r,sm,f,c',ctv,ev,la⟩=>⟨I1.kIn,?_⟩)
  subst ev;have hz:=h (bse (C.X i) s1 H1) (L2.aY scope (C.X i).env) f c' ctv _ H1 sm (by rw[<-eq];exact la) (by rw[<-eN];exact aFt I1 ho S (hfree i));exact aCh (CX:=CX1 (C.X i).prog (C.X i).w) I1 (by rw[e1,e2,e3,e4];exact hF _) ((C.room i).mono hr) (by rw[e3];exact hb) (C.pass i) r (by rw[e1,e2,e3,e4]at*;exact hz)
 .intro base cl f c' ctv pm H1 sm la cp
  have R1:=R.up sm;have FL:dC C.prog C.w C.K C.mg base (CX1 C.prog C.w) (kb+1) f (zEX "<lambda>" q params body scope cl pm (.ref c') ctv) [] (aGS (aY C.mg) H1 (fe (ρ.map shS))):=by
   refine aFZ la S cp (λ vs H Q E h=>⟨h.1,h.2.1⟩) λ A outer s H2 Q2 E2 hr2 hsp=>?_
   obtain⟨t,h1,h2⟩:=hbody base cl f (.ref c') A outer s H2 E2 hr2;exact⟨t,h1 (),h2 [] Z H2 _ _ Q2 (R1.up hsp.2.1).shut (hsp.2.2.imp λ d _ z v H' s' _=>z v H' s')⟩
  refine⟨f,_,_,_,_,kb+1,_,rfl,la.1,FL,hkb,λ s us _ hl=>?_,rfl,aM.refl H1,?_⟩
  .have e:us=[]:=by
    rw[zA3]at hl;exact zDX.mp hl
   subst e;exact .of_eq (hbnd cl pm c' ctv)
  .unfold zU at W
   cases he:fe (ρ.map shS)with
   |ok d=>rw[he]at W;exact λ v H' s'=>W (.str told) H' (sm.trans s') (.str told)
   |ex c=>
    rw[he]at W;cases hw:wn c with
    |none=>simp only[hw]at W;exact W.elim
    |some w=>
     simp only[hw]at W;exact λ H' s'=>⟨_,w,rfl,hwn c w hw,λ H'' s''=>W (.str w) H'' (sm.trans (s'.trans s'')) (.str w)⟩
   |st=>rw[he]at W;exact W.elim
end
end VL
namespace L2
open PySem PySem.Spec PyProof.Rows
def cxW(P:zAS)(w:World)(K:zAA)(mg:Str->Option Value)(base:Heap)(N:List Str)(qual:Str)(scope:Scope)(f:Addr)(cd:Value)(A:zA8)(s:zAB)(H:Hp)(Pt:Addr):Cx where
 prog:=P
 w:=w
 K:=K
 mg:=mg
 base:=base
 A:=A.deeper (zC6 qual scope s.heap.objs.size f cd)
 N:=N
 z5:=s
 z0:=H
 env:=zC6 qual scope s.heap.objs.size f cd
 outer:=[]
 stack:=[zC6 qual scope s.heap.objs.size f cd]
 ex:=[Pt]
 calm:=true
 fn:=λ _=>true
 pn:=[]
 xe:=λ _ _=>False
 ta:=[(Pt,zCB #[])]
 tq:=qual++".<locals>."++"<lambda>"
section
variable{P:zAS}{w:World}{K:zAA}{mg:Str->Option Value}{base:Heap}{N ps:List Str}{qual:Str}{scope:Scope}{f Pt:Addr}{cd:Value}{A:zA8}{s s1:zAB}{H:Hp}{vs:List V}{us:List Value}
def xY(S:aq N ps scope)(hd:A.handled=none)(e0:wK P w K mg base A [] s H)(hl:vs.length=ps.length)(r:Vals vs us)
  (hP:s.heap.get? Pt=some (zCB #[]))(hH:H Pt=none)(hb:base.get? Pt=none)
  (x:InCallC s s.heap.objs.size (bindL (zC6 qual scope s.heap.objs.size f cd).kindOf (ps.zip us) λ _=>none) (zC5 (s.heap.objs.size+1) scope.names []) (bindC (zC6 qual scope s.heap.objs.size f cd).kindOf (ps.zip us) λ _=>none) s1):
  Inv (cxW P w K mg base N qual scope f cd A s H Pt) [] (start N vs) H s1:=by
 have I:Inv (oX (CX1 P w) P w K mg base N qual scope f cd A [] s H λ _ _ _=>False) [] (start N vs) H s1:=nM S hd e0 hl r x;obtain⟨h1,tk,e1,hk⟩:=x.done;have hlt:=zAW hP;have hne:∀b∈[Pt],b≠s.heap.objs.size:=λ b hb z=>by
  have e:b=Pt:=by simpa using hb
  rw[e]at z;exact absurd hlt (by rw[z];exact zBg _)
 refine⟨⟨I.ok.mod,I.ok.kind,I.ok.glob,I.ok.blt,I.ok.above,I.ok.inj,I.ok.has,I.ok.cab,I.ok.hd,I.ok.frames,I.ok.stk,λ b hb2=>⟨hne b hb2,λ y c e z=>?_⟩,I.ok.bs,I.ok.bsz,λ b o e hb'=>?_,λ b _=>λ z=>(nomatch z),I.ok.funs,I.ok.frf⟩,
  I.os,I.bare,I.base.mono (λ b z=>z) (λ b z=>(nomatch z)),I.loc,I.cell,I.free,I.freeC,I.pin,I.hok,I.len,λ p hp=>?_⟩
 .have q:s.heap.objs.size<=c:=I.ok.cab y c rfl e
  have e2:b=Pt:=by simpa using(show b∈[Pt]from hb2)
  rw[z,e2]at q;exact absurd hlt (zFB.mpr q)
 .have e2:b=Pt:=by simpa using(show b∈[Pt]from hb')
  have e3:base.get? b=some o:=e;rw[e2,hb]at e3;cases e3
 .have e2:p=(Pt,zCB #[]):=by simpa using(show p∈[(Pt,zCB #[])]from hp)
  subst e2;refine⟨hH,hne Pt zAU,λ z=>(nomatch z),λ q hq=>(nomatch hq),#[],?_,trivial,λ pos cv e=>nomatch e⟩;subst e1;exact hk _ _ hP
end
def zq{P:zAS}{w:World}{K:zAA}{mg mb:Str->Option Value}{k:Nat}{fa a c Pt:Addr}{x:Str}{zS:zAB}{vs:List Value}{ns:List Int}{N:List Str}{oc doc pm ct dV kV:Value}{od:Option Addr}{osl:Array (Option Value)}{name qual:Str}{params:zCh}{body:List Stmt}{scope:Scope}{an:Option Addr}
  (KX:K.In zS.heap)(hns:zS.heap.Ns zAX mg)(hb:zS.heap.Ns zGq mb)(hbb:∀x:Str,x≠"__name__"->mb x=zB5 x)(hlim:zS.heap.NoLimit)(hg:zS.gens=#[])
  (ha:zS.heap.get? a=some {cls:=.type "list",data:=.seq vs.toArray})(hi:zBo vs ns)(hl:ns.length<=zAN)(hr:cX (k+1) zCN)
  (hP:zS.heap.get? Pt=some (zCB #[]))(hKP:K.lookup Pt=none)(hC:zDS K c Pt=true)(hbl:zS.heap.BuiltinsAt mg Pt)
  (lk:K.lookup fa=some ⟨oc,od,.func (zB6 name qual params body scope dV kV doc pm an (.ref c) ct),osl⟩)(hcd:zCe K (.ref c) qual=true)(S:aq N [x] scope)
  (hbind:∀(s:zAB) (u:Value),zFc s (zB6 name qual params body scope dV kV doc pm an (.ref c) ct) ⟨[u],[]⟩ [(x,u)])
  (hbody:∀(base:Heap) (s:zAB) (H:Hp),cX k (zCN.deeper (zC6 qual scope s.heap.objs.size fa (.ref c)))->oM (cxW P w K mg base N qual scope fa (.ref c) zCN s H Pt) Pt->Only H->SqL K H a (ns.map V.int)->
   ∃t,PSs (cxW P w K mg base N qual scope fa (.ref c) zCN s H Pt) body t/\t {nx:=λ _ _=>False,rt:=λ v _=>v= .bl true} (start N [.ref a]) H):
  zCH (model P w) zCN (.call (.ref fa) ⟨[.ref a],[]⟩) (λ r s'=>r= .ok (.ret (.bool true))/\OldK zS.heap s'.heap/\s'.os=zS.os/\zDp s'.gens) zS:=by
 have rv:=rR hi;have lenV:=hi.length;have aP:a≠Pt:=λ z=>by
  rw[z,hP]at ha;have e2:=congrArg Obj.cls (zAf ha);cases e2
 have core:∀H:Hp,Only H->SqL K H a (ns.map V.int)->HOk P w H zS.heap->(∀b,H b≠none->b=a)->(H a≠none->K.lookup a=none)->
   zCH (model P w) zCN (.call (.ref fa) ⟨[.ref a],[]⟩) (λ r s'=>r= .ok (.ret (.bool true))/\OldK zS.heap s'.heap/\s'.os=zS.os/\zDp s'.gens) zS:=by
  intro H hO hS hok hA hK;have hPn:H Pt=none:=by
   cases q:H Pt with
   |none=>rfl
   |some u=>exact absurd (hA Pt (by rw[q];simp)).symm aP
  let B:=zBh (aBk zS.heap H) [Pt];have base_of:∀{b:Addr} {o:Obj},zS.heap.get? b=some o->H b=none->b≠Pt->B.get? b=some o:=λ e n ne=>zBy _ (aBj e n) (by simpa using ne)
  have noA:∀{b:Addr} {o:Obj} {es:Array zFF} {ep:Nat},zS.heap.get? b=some o->o.data= .dict es ep->H b=none/\b≠Pt:=λ{b o es ep} e d=>by
   refine⟨?_,λ z=>?_⟩
   .cases q:H b with
    |none=>rfl
    |some u=>
     have e':b=a:=hA b (by rw[q];simp);subst e';rw[ha]at e;cases e;have d':Data.seq vs.toArray _=Data.dict es ep:=d;cases d'
   .rw[z,hP]at e
    cases e;cases d
  have nsK:∀{b:Addr} {m:Str->Option Value},zS.heap.Ns b m->B.Ns b m:=λ{b m} ⟨o,es,ep,e,d,r⟩=>⟨o,es,ep,base_of e (noA e d).1 (noA e d).2,d,r⟩
  have hKb:K.In B:=λ b o e=>base_of (KX b o e) (by
   cases q:H b with
   |none=>rfl
   |some u=>
    have e':b=a:=hA b (by rw[q];simp);subst e';rw[hK (by rw[q];simp)]at e;cases e) (λ z=>by rw[z,hKP]at e;cases e)
  have hM:Mod K mg B:=⟨hKb,nsK hns,⟨mb,nsK hb,hbb⟩,let⟨mc,h1,h2⟩:=hlim;⟨mc,nsK h1,h2⟩⟩;have e0:wK P w K mg B zCN [] zS H:=⟨rfl,hM,λ b o e=>aDI (zDF _ e),zF0 ((zD1 _ _).trans (aAB _ _)),trivial,λ b hb=>absurd (show b∈([]:List Addr)from hb) (by simp),hok,.of_eq hg⟩;have gP:zAX≠Pt:=by
   obtain⟨o,es,ep,e,d,_⟩:=hns;exact(noA e d).2
  have hLx:oM (cxW P w K mg B N qual scope fa (.ref c) zCN zS H Pt) Pt:=by
   refine⟨⟨_,rfl⟩,zAU,rfl,⟨c,rfl,zFH hKb hC⟩,?_,gP⟩;obtain⟨bm,o,b1,b2,b3,b4,b5,b6,b7,b8⟩:=hbl;refine⟨bm,o,b1,b2,b3,b4,base_of b5 ?_ b4,b6,b7,b8⟩;cases q:H bm with
   |none=>rfl
   |some u=>
    have e':bm=a:=hA bm (by rw[q];simp);rw[e',ha]at b5;cases b5;cases b8
  have hkind:∀y∈[x].zip [zBb a],scope.names.lookup y.1=some .local\/(scope.names.lookup y.1=some .cell/\((zC5 (zS.heap.objs.size+1) scope.names []).lookup y.1).isSome=true):=λ⟨n,v⟩ hy=>by
   rcases S.par n (zC8 hy).1 with q|q
   .exact .inl q
   .exact .inr ⟨q,zCa _ _ _ (.inl q)⟩
  refine zDt hr.depth (KX _ _ lk) rfl S.co S.gen rfl (zDk KX hcd) (hbind zS (.ref a) _ _ _ _ ?_);refine zDW S.kind hkind λ env he s1 x'=>?_
  subst he;refine⟨hlim.keeps x'.toInCall.keep,zGF ?_⟩;obtain⟨t,ht,hq⟩:=hbody B zS H (hr.deeper _) hLx hO hS;have I:Inv (cxW P w K mg B N qual scope fa (.ref c) zCN zS H Pt) [] (start N [.ref a]) H s1:=xY (ps:=[x]) (us:=[.ref a]) S hr.hd e0 rfl (.cons rfl .nil) hP hPn (zD0 _ zAU) x';refine zBE (ht [] s1 (start N [.ref a]) H _ I hq) (λ fl s' hs=>?_) λ e s' hs=>hs.elim
  cases fl with
  |next=>obtain⟨_,_,_,q⟩:=hs;exact q.elim
  |brk=>obtain⟨_,_,_,q⟩:=hs;exact q.elim
  |cont=>obtain⟨_,_,_,q⟩:=hs;exact q.elim
  |ret u=>
   obtain⟨v,Z',H',J,rv',q⟩:=hs;have q':v= .bl true:=q;subst q';obtain rfl:u=zCf true:=rv';obtain⟨_,_,_,_,ps,hps,_⟩:=J.tab (Pt,zCB #[]) zAU;have all:∀b o,zS.heap.get? b=some o->b≠Pt->s'.heap.get? b=some o:=λ b o e ne=>by
    cases q:H b with
    |none=>exact J.base.keep b o e q (λ z=>(nomatch z)) (by simpa[cxW]using ne)
    |some u=>
     rcases hO b with z|⟨ob,xs,z⟩
     .rw[q]at z;cases z
     .have z2:=J.base.frzs b ob _ z
      obtain⟨e1,_⟩:=hok b _ z;obtain⟨e2,_⟩:=J.hok b _ z2;rw[e]at e1;cases e1;exact e2
   refine⟨rfl,⟨λ b o e=>?_,λ b o e=>?_⟩,J.os,J.bare⟩
   .by_cases hbP:b=Pt
    .subst hbP
     rw[hP]at e;cases e;obtain⟨⟨o1,vs1,f1,f2,f3,f4⟩,_⟩:=(zFH KX hC).tab hP;exact .inr (.inl ⟨⟨c,o1,vs1,f1,f2,f3,f4⟩,rfl,#[],ps,rfl,by simpa using hps⟩)
    .exact .inl (all b o e hbP)
   .by_cases hbP:b=Pt
    .subst hbP;exact⟨_,hps⟩
    .exact⟨o,all b o e hbP⟩
 cases hk:K.lookup a with
 |some o=>
  have e:=KX a o hk;rw[ha]at e;cases e;refine core (λ _=>none) (λ _=>.inl rfl) (.inr ⟨_,vs.toArray,_,hk,rfl,rfl,rfl,by rw[zAF,lenV];exact hl,by simpa using rv⟩) (λ b u z=>by have z':(none:Option HO)=some u:=z;cases z') (λ b z=>absurd rfl z) λ z=>absurd rfl z
 |none=>
  refine core (λ b=>if b=a then some (.frz {cls:=.type "list",data:=.seq vs.toArray} (.lst (ns.map V.int)))else none) (λ b=>?_) (.inl (.inr ⟨{cls:=.type "list",data:=.seq vs.toArray},if_pos rfl⟩)) (λ b u z=>?_) (λ b z=>?_) λ _=>hk
  .by_cases hb:b=a
   .exact .inr ⟨_,_,if_pos hb⟩
   .exact .inl (if_neg hb)
  .by_cases hb:b=a
   .have z':=(if_pos hb).symm.trans z
    cases z';subst hb;exact⟨ha,by rw[zAH];exact hl,vs,_,rv,ha⟩
   .have z':=(if_neg hb).symm.trans z
    cases z'
  .by_cases hb:b=a
   .exact hb
   .exact absurd (if_neg hb) z
end L2
namespace VL
open PySem PySem.Spec PyProof.Rows L2
abbrev ctW(P:zAS)(w:World)(K:zAA)(mg:Str->Option Value)(base:Heap)(N:List Str)(q:Str)(sc:Scope)(f:Addr)(cdv:Value)(A:zA8)(s:zAB)(H:Hp)(Pt:Addr)(k:Nat)(hr:cX k (A.deeper (zC6 q sc s.heap.objs.size f cdv))):Ct where
 ι:=Unit
 X:=λ _=>cxW P w K mg base N q sc f cdv A s H Pt
 prog:=P
 w:=w
 K:=K
 mg:=mg
 base:=base
 k:=k
 G:=⟨H,λ _ _ _=>False,aY mg⟩
 cx:=λ _=>⟨rfl,rfl,rfl,rfl,rfl⟩
 calm:=λ _=>rfl
 room:=λ _=>hr
 own:=λ _=>λ _ _ h=>zAE h
 pass:=λ _=>λ _ _ _ _ _ _ _ ⟨_,_,_,_,_,_,_,_,_,_,_,_,_,z⟩=>z
 dOk:=false
 dcx:=λ z=>nomatch z
def aB6{P:zAS}{w:World}{K:zAA}{mg:Str->Option Value}{base:Heap}{N:List Str}{q:Str}{sc:Scope}{fa a Pt:Addr}{cdv:Value}{A:zA8}{s:zAB}{H:Hp}{k:Nat}{hr:cX k (A.deeper (zC6 q sc s.heap.objs.size fa cdv))}{body:List Stmt}{f:En->Ou}{ns:List Int}
  (hb:SSs (ctW P w K mg base N q sc fa cdv A s H Pt k hr) body f)(e:gR N.length f [.scr ns]= .ok (.bl true))(r:Rps K (λ _=>True) H [.ref a] [.scr ns]):
  ∃t,PSs (cxW P w K mg base N q sc fa cdv A s H Pt) body t/\t {nx:=λ _ _=>False,rt:=λ v _=>v= .bl true} (start N [.ref a]) H:=by
 obtain⟨t,h1,h2⟩:=hb;refine⟨t,h1 (),h2 [] _ H _ _ _ (RR.start r) ?_⟩;unfold gR at e;cases ef:f (bC N.length [.scr ns])with
 |nx ρ=>rw[ef]at e;cases e
 |rt d=>rw[ef]at e;cases e;exact λ v H' s r=>r.bl_inv
 |ex c=>rw[ef]at e;cases e
 |bk ρ=>rw[ef]at e;cases e
 |ct ρ=>rw[ef]at e;cases e
 |st=>rw[ef]at e;cases e
def w5{P:zAS}{w:World}{K:zAA}{mg:Str->Option Value}{base:Heap}{x q n0 n1 n2 few cn pe told:Str}{st:Stmt}{f fc C':Addr}{fd fdc:zAy}{kc k0:Nat}{wd:Addr->Option Str}{p1 p2 p3 p4 p5 p6 p7 p8 p9 p10 p11 p12 p13 p14 p15 p16:Pos}{j1:Nat}
  (F:L2.Fun K x q st f fd)(S:aq [n0,n1,n2] [n0] (aF st))(hst:bY st=[.Assign [.Name n1 p1] (.Constant (.str told) j1 p2) p3,.Try [.Expr (.Call (.Name n0 p4) [] [] p5) p6] [.ExceptHandler (some (.Name few p7)) (some n2) [.Assign [.Name n1 p8] (.Call (.Name cn p9) [.Name n2 p10] [] p11) p12] p13] [] [] p14,.Return (some (.Name n1 p15)) p16])
  (l0:(aF st).names.lookup n0=some .local)(l1:(aF st).names.lookup n1=some .local)(l2:(aF st).names.lookup n2=some .local)(g1:(aF st).names.lookup few=some .globalImplicit)(g2:(aF st).names.lookup cn=some .globalImplicit)
  (hm:mg few=some (.ref C'))(hC':bK K C')(FC:FnH P w K mg base kc fc fdc [pe] (spW wd))(hmc:mg cn=some (.ref fc))(hkc:zB4 K (.ref fc)=true)(hbc:Binds K fdc [pe] [])(hkk:kc<=k0)(hw:∀C w,wd C=some w->bK K C/\nQ K C C'=true)
  (d1:Nd few:=by decide)(d2:Nd cn:=by decide)(d3:Nd n0:=by decide)(d4:Nd n1:=by decide)(d5:Nd n2:=by decide)
  (d6:(n0==("__classdict__":Str))=false:=by decide)(d7:(n1==("__classdict__":Str))=false:=by decide)(d8:(n2==("__classdict__":Str))=false:=by decide):
  dC P w K mg base (CX1 P w) (k0+1) f fd [n0] (spR P w K mg base k0 told wd):=by
 refine F.okX S (λ vs H Q E ⟨_,_,_,_,_,_,_,e,_⟩=>by rw[e];rfl) λ cdv A outer s H vs Q E hr hsp=>?_
 rw[hst];exact aAm (X:=oX (CX1 P w) P w K mg base [n0,n1,n2] q (aF st) f cdv A outer s H E) cI.of rfl rfl S.nd l0 l1 l2 (λ _=>rfl) hm g1 hC' FC g2 hmc hkc hbc hr hkk hw hsp d1 d2 d3 d4 d5 d6 d7 d8
end VL
namespace L2
open PySem PySem.Spec PyProof.Rows
def dY{X:Cx}{n0:Str}{e:Expr}{c:V}{p p' pos:Pos}(hN:X.N[0]? =some n0)(hv:X.env.scope.names.lookup n0=some .local)(hg:Gl X "isinstance")(hm:X.mg "isinstance"=none)(hc:PE X e (tC c))(hse:zAY [e] X.env=(false,eval e X.env)::zAY [] X.env:=by rfl)
  (hpl:(zCQ pos (zAY [e] X.env)).any (·.1)=false:=by rfl)(d:Nd n0:=by decide)(d':(n0==("__classdict__":Str))=false:=by decide):PE X (.Call (.Name "isinstance" p) [.Name n0 p',e] [] pos) (wQ X.K c):=
 mD aAJ hg hm rfl (aV (dq hN (.inl hv) d d') (aV hc cg hse)) (hpl:=hpl)
section
variable{P:zAS}{w:World}{K:zAA}{mg:Str->Option Value}{base:Heap}{x q n0 n1 n2 odd:Str}{st:Stmt}{f:Addr}{fd:zAy}{k:Nat}{wd:Addr->Option Str}{c1 c2:V}{k1 k2 k3 k4:List V}{l1 l2:List Str}{a1 a2:Expr}{as1 as2 e1 e2 e3 e4 w1 w2:List Expr}{kw1 kw2:List zCi}
 {p1 p2 p3 p4 p5 p6 p7 p8 p9 p10 p11 p12 p13 p14 p15 p16 p17 p18 p19 p20 p21 p22 p23 p24 p25 p26 p27 p28 p29 p30 p31 p32 p33 p34 p35 p36 p37 p38 p39 p40:Pos}{q1 q2 q3 q4 q5 q6 q7:Pos}{j1 j2 j3 j4 j5:Nat}
end
structure zN(P:zAS)(w:World)(K:zAA)(mg:Str->Option Value)(fa Pt:Addr)(k n:Nat):Prop where
 ex:∃(x name qual:Str) (params:zCh) (body:List Stmt) (scope:Scope) (dV kV doc pm ct oc:Value) (an od:Option Addr) (c:Addr) (osl:Array (Option Value)) (N:List Str),
  K.lookup Pt=none/\zDS K c Pt=true/\K.lookup fa=some ⟨oc,od,.func (zB6 name qual params body scope dV kV doc pm an (.ref c) ct),osl⟩/\zCe K (.ref c) qual=true/\aq N [x] scope/\
  (∀(s:zAB) (u:Value),zFc s (zB6 name qual params body scope dV kV doc pm an (.ref c) ct) ⟨[u],[]⟩ [(x,u)])/\
  ∀(a:Addr) (ns:List Int),ns.length<=n->∀(base:Heap) (s:zAB) (H:Hp),cX k (zCN.deeper (zC6 qual scope s.heap.objs.size fa (.ref c)))->oM (cxW P w K mg base N qual scope fa (.ref c) zCN s H Pt) Pt->Only H->SqL K H a (ns.map V.int)->
   ∃t,PSs (cxW P w K mg base N qual scope fa (.ref c) zCN s H Pt) body t/\t {nx:=λ _ _=>False,rt:=λ v _=>v= .bl true} (start N [.ref a]) H
def aAU{l:zEJ}{n k:Nat}{q:zAS}{loose:List Str}{XP:(Str->Option Value)->Heap->Prop}{YP:World->Heap->Prop}{d:DefRec}{K:Params->zAA}{Pt:Addr}
  (hn:l.most=some n)(hn2:n<=zAN)(hdf:d.params.defaults=[])(hr:cX (k+1) zCN)
  (hY:∀(w:World) (h:Heap),YP w h->(K w.params).In h/\h.get? Pt=some (zCB #[]))
  (F:∀(w:World) (mg:Str->Option Value) (fa:Addr) (h:Heap),(K w.params).In h->h.Ns zAX mg->mg d.name=some (.ref fa)->zN l.prog w (K w.params) mg fa Pt k n):
  zGD q loose XP YP l.row.toRowW d [] (λ f vs=>zFg f vs):=by
 refine Att.wF hn hdf λ w z5 zS mg mb fa o pm cd doc a vs ns G Y ho hd hcd hmg hobj hints hlen hg=>?_
 obtain⟨KX,hP⟩:=hY w _ Y;obtain⟨x,name,qual,params,body,scope,dV,kV,doc,pm,ct,oc,an,od,c,osl,N,h1,h2,h3,h4,h5,h6,h7⟩:=(F w mg fa _ KX G.T.g hmg).ex;have hbl:zS.heap.BuiltinsAt mg Pt:=by
  obtain⟨bm,ob,b1,b2,b3,b4,b5,b6⟩:=G.T.bmain;refine⟨bm,ob,b1,b2,λ z=>?_,λ z=>?_,b3,b4,b5,b6⟩
  .obtain⟨o,es,ep,e,hd,_⟩:=G.T.g
   rw[z,e]at b3;cases b3;rw[hd]at b6;cases b6
  .rw[z,hP]at b3;cases b3;cases b4
 exact zq KX G.T.g G.T.b G.T.builtins G.T.nolimit hg hobj hints (zAr hlen hn2) hr hP h1 h2 hbl h3 h4 h5 h6 λ base s H r1 r2 r3 r4=>h7 a ns hlen base s H r1 r2 r3 r4
def clB(K:zAA)(few C:Addr):Bool:=zEd K C [.type "ValueError",.type "Exception",.type "BaseException",.type "object"] "ValueError.__new__"&&decide (zBD K (.ref C) "__class__"=some (some (.builtin "object.__class__")))&&decide (zBD K (.ref C) "__getattribute__"=some (some (.builtin "BaseException.__getattribute__")))&&decide (zBD K (.ref C) "__getattr__"=some none)&&decide (zBd K (.ref C) (.ref few)=some true)&&decide (zBd K (.ref C) (.type "ValueError")=some true)&&nQ K C few
def xr(K:zAA)(few:Addr)(cs:List Addr):Bool:=(zBG cs.length).all λ j=>match cs[j]? with
 |none=>true
 |some C=>clB K few C&&(zBG cs.length).all λ i=>match cs[i]? with
  |none=>true
  |some c=>decide (zBd K (.ref C) (.ref c)=some (i==j))
theorem lookup_at{C:Addr}{w:Str}:∀{cs:List Addr} {ws:List Str},(cs.zip ws).lookup C=some w->∃j:Nat,cs[j]? =some C/\ws[j]? =some w
 |[],_,h=>by cases h
 |_::_,[],h=>by cases h
 |c::cs,x::ws,h=>by
  rw[zBW,zAt]at h;by_cases e:C==c
  .simp only[e]at h
   cases h;exact⟨0,by rw[zDC e];rfl,rfl⟩
  .simp only[e]at h
   obtain⟨j,h1,h2⟩:=lookup_at h;exact⟨j+1,h1,h2⟩
def aDk{K:zAA}{few c0 c1 c2 c3 c4 c5 c6 c7 c8 c9 c10 c11:Addr}{ws:List Str}(h:xr K few [c0,c1,c2,c3,c4,c5,c6,c7,c8,c9,c10,c11]=true){C:Addr}{w:Str}(hw:([c0,c1,c2,c3,c4,c5,c6,c7,c8,c9,c10,c11].zip ws).lookup C=some w):
  Wd K (.ref few) (.ty "ValueError") [[.ref c0,.ref c1,.ref c2],[.ref c3,.ref c4,.ref c5],[.ref c6,.ref c7,.ref c8],[.ref c9,.ref c10,.ref c11]] ws C w/\bK K C/\nQ K C few=true:=by
 obtain⟨j,h1,h2⟩:=lookup_at hw;have hj:j<12:=(zA4.mp h1).1;have h3:=zBP.mp h j (zBs.mpr hj);simp only[h1,zAO]at h3;obtain⟨h4,h5⟩:=h3;have F:∀(i:Nat) c,[c0,c1,c2,c3,c4,c5,c6,c7,c8,c9,c10,c11][i]? =some c->Kt K C (.ref c) (i==j):=λ i c e=>by
  have h6:=zBP.mp h5 i (zBs.mpr (zA4.mp e).1);simp only[e]at h6;exact⟨_,rfl,of_decide_eq_true h6⟩
 unfold clB at h4;simp only[zAO,decide_eq_true_eq]at h4;obtain⟨⟨⟨⟨⟨⟨q1,q2⟩,q3⟩,q4⟩,q5⟩,q6⟩,q7⟩:=h4;refine⟨⟨⟨q1,q2,q3,q4⟩,⟨_,rfl,q5⟩,⟨_,rfl,q6⟩,[0==j,1==j,2==j],[3==j,4==j,5==j],[6==j,7==j,8==j],[9==j,10==j,11==j],j,_,_,_,_,rfl,.cons (F 0 c0 rfl) (.cons (F 1 c1 rfl) (.cons (F 2 c2 rfl) .nil)),.cons (F 3 c3 rfl) (.cons (F 4 c4 rfl) (.cons (F 5 c5 rfl) .nil)),
  .cons (F 6 c6 rfl) (.cons (F 7 c7 rfl) (.cons (F 8 c8 rfl) .nil)),.cons (F 9 c9 rfl) (.cons (F 10 c10 rfl) (.cons (F 11 c11 rfl) .nil)),by simp,?_,?_,?_,h2⟩,q1,q7⟩
 .exact(by decide:∀j,j<12->([0==j,1==j,2==j]++[3==j,4==j,5==j]++[6==j,7==j,8==j]++[9==j,10==j,11==j]).count true=1) j hj
 .exact(by decide:∀j,j<12->([0==j,1==j,2==j]++[3==j,4==j,5==j]++[6==j,7==j,8==j]++[9==j,10==j,11==j])[j]? =some true) j hj
 .exact λ m hm=>(by decide:∀j,j<12->∀m,m<j->([0==j,1==j,2==j]++[3==j,4==j,5==j]++[6==j,7==j,8==j]++[9==j,10==j,11==j])[m]? =some false) j hj m hm
def aB8{scope sc:Scope}(h:∀y∈scope.names,y.2= .free->sc.names.lookup y.1=some .cell\/sc.names.lookup y.1=some .free):∀y∈scope.names,y.2= .free->sc.names.lookup y.1=some .cell\/sc.names.lookup y.1=some .free:=h
def wC{K:zAA}{few:Addr}{cs:List Addr}(h:xr K few cs=true){i j:Nat}{C c:Addr}(hj:cs[j]? =some C)(hi:cs[i]? =some c):zBd K (.ref C) (.ref c)=some (i==j):=by
 have h3:=zBP.mp h j (zBs.mpr (zA4.mp hj).1);simp only[hj,zAO]at h3;have h6:=zBP.mp h3.2 i (zBs.mpr (zA4.mp hi).1);simp only[hi]at h6;exact of_decide_eq_true h6
def aDa{K:zAA}{few:Addr}{cs:List Addr}(h:xr K few cs=true){i j:Nat}{C:Addr}(hj:cs[j]? =some C)(hi:cs[i]? =some C):i=j:=by
 have a:=wC h hj hi;have b:=wC h hj hj;rw[a]at b;have e:=zAf b;rw[beq_self_eq_true]at e;exact zDC e
theorem qL{C:Addr}{w:Str}:∀{cs:List Addr} {ws:List Str} {j:Nat},(∀i:Nat,cs[i]? =some C->i=j)->cs[j]? =some C->ws[j]? =some w->(cs.zip ws).lookup C=some w
 |[],_,_,_,h,_=>by simp at h
 |_::_,[],_,_,_,h=>by simp at h
 |c::cs,x::ws,j,u,h1,h2=>by
  rw[zBW,zAt];by_cases e:C==c
  .have e0:0=j:=u 0 (by rw[zDC e];rfl)
   subst e0;simp only[e];simpa using h2
  .simp only[e]
   cases j with
   |zero=>
    have e1:c=C:=by simpa using h1
    rw[e1]at e;simp at e
   |succ j=>exact qL (j:=j) (λ i hi=>zGA (u (i+1) hi)) h1 h2
def aGE{K:zAA}{few:Addr}{cs:List Addr}{ws:List Str}(h:xr K few cs=true){j:Nat}{C:Addr}{w:Str}(h1:cs[j]? =some C)(h2:ws[j]? =some w):(cs.zip ws).lookup C=some w:=qL (λ i hi=>aDa h h1 hi) h1 h2
end L2
namespace VL
open PySem PySem.Spec PyProof.Rows L2
def aGD{K:zAA}{mg:Str->Option Value}{few c0 c1 c2 c3 c4 c5 c6 c7 c8 c9 c10 c11:Addr}{ws:List Str}{ns:List Str}(h:xr K few [c0,c1,c2,c3,c4,c5,c6,c7,c8,c9,c10,c11]=true)
  (hl:ns.map (VL.aY mg)=[c0,c1,c2,c3,c4,c5,c6,c7,c8,c9,c10,c11]):∀c w,(ns.zip ws).lookup c=some w->([c0,c1,c2,c3,c4,c5,c6,c7,c8,c9,c10,c11].zip ws).lookup (VL.aY mg c)=some w:=λ c w e=>by
 have go:∀(ns:List Str) (ws:List Str),(ns.zip ws).lookup c=some w->∃j:Nat,ns[j]? =some c/\ws[j]? =some w:=by
  intro ns;induction ns with
  |nil=>intro ws h;cases h
  |cons x ns ih=>
   intro ws h;cases ws with
   |nil=>cases h
   |cons y ws=>
    rw[zBW,zAt]at h;by_cases e:c==x
    .simp only[e]at h
     cases h;exact⟨0,by rw[zDC e];rfl,rfl⟩
    .simp only[e]at h
     obtain⟨j,h1,h2⟩:=ih ws h;exact⟨j+1,h1,h2⟩
 obtain⟨j,h1,h2⟩:=go ns ws e;refine aGE h (j:=j) ?_ h2;rw[<-hl,zAi,h1];rfl
theorem xM:∀a:List Int,HT.lexLt a a=false
 |[]=>rfl
 |x::a=>by rw[HT.fO,if_pos rfl];exact xM a
theorem mJ:∀a b c:List Int,HT.lexLt a b=true->HT.lexLt b c=true->HT.lexLt a c=true
 |[],[],c,h,_=>by cases h
 |[],_::_,[],_,h=>by cases h
 |[],_::_,_::_,_,_=>rfl
 |_::_,[],_,h,_=>by cases h
 |_::_,_::_,[],_,h=>by cases h
 |x::a,y::b,z::c,h1,h2=>by
  rw[HT.fO]at h1 h2 ⊢;by_cases e1:x=y
  .subst e1
   rw[if_pos rfl]at h1;by_cases e2:x=z
   .rw[if_pos e2]at h2 ⊢
    exact mJ a b c h1 h2
   .rw[if_neg e2]at h2 ⊢
    exact h2
  .rw[if_neg e1]at h1
   simp only[decide_eq_true_eq]at h1;by_cases e2:y=z
   .subst e2
    rw[if_neg e1];simpa using h1
   .rw[if_neg e2]at h2
    simp only[decide_eq_true_eq]at h2;rw[if_neg (by lia)];simp only[decide_eq_true_eq];lia
theorem uU:∀a b:List Int,HT.lexLt a b=false->HT.lexLt b a=false->a=b
 |[],[],_,_=>rfl
 |[],_::_,h,_=>by cases h
 |_::_,[],_,h=>by cases h
 |x::a,y::b,h1,h2=>by
  rw[HT.fO]at h1 h2;by_cases e:x=y
  .subst e
   rw[if_pos rfl]at h1 h2;rw[uU a b h1 h2]
  .rw[if_neg e]at h1
   rw[if_neg λ q=>e q.symm]at h2;simp only[decide_eq_false_iff_not]at h1 h2;lia
def aB0(a b c:List Int)(h:HT.lexLt a c=true):HT.lexLt a b=true\/HT.lexLt b c=true:=by
 cases e1:HT.lexLt a b with
 |true=>exact .inl rfl
 |false=>
  right;cases e2:HT.lexLt b a with
  |true=>exact mJ b a c e2 h
  |false=>rw[<-uU a b e1 e2];exact h
def aFY:zBn:=⟨List Int,HT.lexLt,xM,mJ,aB0,uU⟩
inductive dh(h:Heap):List Value->List (List Int)->Prop where
 |nil:dh h [] []
 |cons {x:Addr} {o:Obj} {xs:Array Value} {k:Nat} {ns:List Int} {vs:List Value} {nss:List (List Int)} (ho:h.get? x=some o) (hc:o.cls= .type "tuple") (hd:o.data= .seq xs k) (hi:zBo xs.toList ns) (hne:ns≠[]) (r:dh h vs nss):dh h (.ref x::vs) (ns::nss)
theorem dh.mono(k:∀x o,h.get? x=some o->o.cls= .type "tuple"->h'.get? x=some o):∀{vs:List Value} {nss:List (List Int)},dh h vs nss->dh h' vs nss
 |_,_,.nil=>.nil
 |_,_,.cons ho hc hd hi hne r=>.cons (k _ _ ho hc) hc hd hi hne (dh.mono k r)
theorem dh.firsts:∀{vs:List Value} {nss:List (List Int)},dh h vs nss->∃fs,PySem.W.KatTups h vs fs/\fs.length=vs.length/\∀f∈fs,∃n t,f=zEY n t
 |_,_,.nil=>⟨[],.nil,rfl,λ f hf=>by simp at hf⟩
 |_,_,.cons (xs:=xs) ho hc hd hi hne r=>by
  obtain⟨fs,h1,h2,h3⟩:=dh.firsts r;obtain⟨l,rfl⟩:∃l:List Value,xs=l.toArray:=⟨xs.toList,by simp⟩
  rw[show l.toArray.toList=l by simp]at hi;cases hi with
  |nil=>exact absurd rfl hne
  |cons n t q=>
   rename_i l' ns';refine⟨.int n t::fs,.cons ho hc hd (by simp) h1,by simp[h2],λ f hf=>?_⟩;rcases zAZ.mp hf with rfl|hf
   .exact⟨n,t,rfl⟩
   .exact h3 f hf
section
variable{prog:zAS}{w:World}{A:zA8}{E:Value->zAB->Prop}{s:zAB}
def vm:∀{xs ys:List Value} {ns ms:List Int} (i:Nat),zBo xs ns->zBo ys ms->fin=decide (xs.length<ys.length)->Q (HT.lexLt ns ms) s->PySem.W.KatLex prog w A b fin Q (xs.zip ys) i s:=by
 intro xs ys ns ms i hx;induction hx generalizing ys ms i with
 |nil=>intro hy hf q;cases hy<;>(subst hf;exact q)
 |@cons x t xs ns r ih=>
  intro hy hf q;cases hy with
  |nil=>subst hf;exact q
  |@cons y u ys ms r'=>?_
  rw[zBW];refine PySem.W.kat_cons (wpAny_eqBool_int ?_);rw[HT.fO]at q;by_cases e:x=y
  .rw[if_pos e]at q
   rw[show(x==y)=true by simpa using e];exact PySem.W.kat_yes (ih (i+1) r' (by rw[hf];simp) q)
  .rw[if_neg e]at q
   rw[show(x==y)=false by simpa using e];refine PySem.W.kat_no ?_;cases hb:(b&&i==0)with
   |true=>exact oneLt_int q
   |false=>exact PySem.W.kat_one _ _ (zE5 q)
def xW(hx:s.heap.get? x=some ox)(dx:ox.data= .seq xs n)(hy:s.heap.get? y=some oy)(dy:oy.data= .seq ys k)(hi:zBo xs.toList ns)(hj:zBo ys.toList ms)
  (q:Q (HT.lexLt ns ms) s):wpAny (model prog w) A (keyLt' (tuples' b) (.ref x) (.ref y)) Q E s:=
 PySem.W.kat_lt hx dx hy dy (vm 0 hi hj (by simp) q)
end
def Ris(xs:Array Nat):Prop:=∀i j,i<j->j<xs.size->xs.getD i 0<xs.getD j 0
structure TbOk(t:zFh)(n:Nat):Prop where
 dum:t.dummies=#[]
 siz:t.place.size=n
 ris:Ris t.place
 top:∀i,i<n->t.place.getD i 0<=t.mask
 msk:t.mask=7/\n<5\/t.mask=31/\n<19\/t.mask=127/\n<77
 pla:t.plain=true
structure TbPut(t:zFh)(n:Nat):Prop where
 dum:t.dummies=#[]
 siz:t.place.size=n
 ris:Ris t.place
 top:∀i,i<n->t.place.getD i 0<=t.mask
 msk:t.mask=7/\n<=5\/t.mask=31/\n<=19\/t.mask=127/\n<77
 pla:t.plain=true
structure TupAt(h:Heap)(x:Addr)(ns:List Int):Prop where
 ex:∃o xs k,h.get? x=some o/\o.cls= .type "tuple"/\o.data= .seq xs k/\zBo xs.toList ns
end VL
namespace PySem
end PySem
namespace VL
open PySem PySem.Spec PyProof.Rows L2
def m6(h:Heap)(p:Value×List Int):Prop:=∃x o xs k,p.1= .ref x/\h.get? x=some o/\o.cls= .type "tuple"/\o.data= .seq xs k/\zBo xs.toList p.2/\p.2≠[]
theorem dh.all:∀{vs:List Value} {nss:List (List Int)},dh h vs nss->∀p∈vs.zip nss,m6 h p
 |_,_,.nil,p,hp=>by simp at hp
 |_,_,.cons ho hc hd hi hne r,p,hp=>by
  rw[zBW]at hp;rcases zAZ.mp hp with e|hp
  .subst e;exact⟨_,_,_,_,rfl,ho,hc,hd,hi,hne⟩
  .exact r.all p hp
theorem yG:∀{zs:List (Value×List Int)},(∀p∈zs,m6 h p)->dh h (zs.map (·.1)) (zs.map (·.2))
 |[],_=>.nil
 |p::zs,hz=>by
  obtain⟨x,o,xs,k,e1,e2,e3,e4,e5,e6⟩:=hz p zAU;rw[zAj,zAj,e1];exact .cons e2 e3 e4 e5 e6 (yG λ q hq=>hz q (zAb _ hq))
def uJ(h:l.Perm m'):∀{m:List α},m'=m.map f->∃m2:List α,m2.Perm m/\l=m2.map f:=by
 induction h with
 |nil=>intro m e;exact⟨m,zBB _,e⟩
 |cons x p ih=>
  intro m e;cases m with
  |nil=>cases e
  |cons a m=>
   rw[zAj]at e;injection e with e1 e2
   obtain⟨m2,q1,q2⟩:=ih e2;exact⟨a::m2,q1.cons a,by rw[zAj,q2,e1]⟩
 |swap x y l=>
  intro m e;cases m with
  |nil=>cases e
  |cons a m=>
   cases m with
   |nil=>rw[zAj]at e;injection e with _ e2;cases e2
   |cons b m=>
    rw[zAj,zAj]at e;injection e with e1 e2
    injection e2 with e2 e3
    exact⟨b::a::m,zF8 _ _ _,by rw[zAj,zAj,e1,e2,e3]⟩
 |trans p q ih1 ih2=>
  intro m e;obtain⟨m2,a1,a2⟩:=ih2 e;obtain⟨m3,b1,b2⟩:=ih1 a2;exact⟨m3,b1.trans a1,b2⟩
def jG(l:List (List Int)):Prop:=l.Pairwise λ a b=>HT.lexLt b a=false
section
variable{prog:zAS}{w:World}{A:zA8}{E:Value->zAB->Prop}{s:zAB}
def tZ(h:wpAny (model prog w) A.in1 (collect v) (λ vs s'=>wpAny (model prog w) A.in1 (zGV vs>>=λ l=>zEi [l] (call (.builtin "list.sort") [l])>>=λ _=>ret l) (λ fin s'=>∃r,fin= .done (.ret r)/\Q r s') E s') E s):
  wpAny (model prog w) A (call (.builtin "sorted") [v]) Q E s:=by
 refine Calls.call_function_entry kind_sorted plain_sorted entry_sorted (args_sorted1 _) ?_;unfold zE7.«sorted»;refine zAG (m:=checkCount "sorted" 1 1 _) (zA7 (zAG ?_));exact h
end
inductive eU(K:zAA)(H:Hp):List V->List (List Int)->Prop where
 |nil:eU K H [] []
 |cons {a:Addr} {ns:List Int} {vs:List V} {nss:List (List Int)} (h:SqT K H a (ns.map V.int)) (hne:ns≠[]) (r:eU K H vs nss):eU K H (.ref a::vs) (ns::nss)
def nD:V->Value
 | .ref a=>.ref a
 |_=>.none
def eU.vals{K:zAA}:∀{vs:List V} {nss:List (List Int)} {us:List Value},eU K H vs nss->Vals vs us->us=vs.map nD:=by
 intro vs nss us t v;induction v generalizing nss with
 |nil=>rfl
 |cons q s ih=>
  cases t with
  |cons _ _ r=>
   cases q;rw[zAj,ih r];rfl
theorem eU.len{K:zAA}:∀{vs:List V} {nss:List (List Int)},eU K H vs nss->vs.length=nss.length
 |_,_,.nil=>rfl
 |_,_,.cons _ _ r=>by rw[zAq,zAq,r.len]
theorem eU.refs{K:zAA}:∀{vs:List V} {nss:List (List Int)},eU K H vs nss->∀v∈vs,RelV v (nD v)
 |_,_,.nil,v,hv=>by simp at hv
 |_,_,.cons _ _ r,v,hv=>by
  rcases zAZ.mp hv with e|hv
  .subst e;exact rfl
  .exact r.refs v hv
theorem eU.at(I:Inv X pins Z H s):∀{vs:List V} {nss:List (List Int)},eU X.K H vs nss->dh s.heap (vs.map nD) nss
 |_,_,.nil=>.nil
 |_,_,.cons h hne r=>by
  obtain⟨its,rv,⟨o,ho,hc,n,hd⟩,_⟩:=I.tuple h;exact .cons ho hc hd (by simpa using intsAre_of rv) hne (r.at I)
theorem rQ:∀{vs:List V},(∀v∈vs,RelV v (nD v))->Vals vs (vs.map nD)
 |[],_=>.nil
 |v::vs,h=>.cons (h v zAU) (rQ λ u hu=>h u (zAb _ hu))
section
def aCI(H:Hp)(vs:List V)(nss:List (List Int))(Q:VK):Prop:=∀zs:List (V×List Int),zs.Perm (vs.zip nss)->jG (zs.map (·.2))->New H (.lst (zs.map (·.1))) Q
end
def aAA(a:List Int):List (List Int)->List (List Int)
 |[]=>[a]
 |b::l=>if HT.lexLt b a then b::aAA a l else a::b::l
def jt:List (List Int)->List (List Int)
 |[]=>[]
 |a::l=>aAA a (jt l)
theorem nO(a:List Int):∀l,(aAA a l).Perm (a::l)
 |[]=>zBB _
 |b::l=>by
  unfold aAA;split
  .exact((nO a l).cons b).trans (zF8 _ _ _)
  .exact zBB _
theorem pJ:∀l,(jt l).Perm l
 |[]=>zBB _
 |a::l=>(nO a _).trans ((pJ l).cons a)
def aDN(h:HT.lexLt a b=true):HT.lexLt b a=false:=by
 cases e:HT.lexLt b a with
 |false=>rfl
 |true=>have:=mJ a b a h e;rw[xM]at this;cases this
def aFW(h1:HT.lexLt b a=false)(h2:HT.lexLt c b=false):HT.lexLt c a=false:=by
 cases e:HT.lexLt c a with
 |false=>rfl
 |true=>
  rcases aB0 c b a e with z|z
  .rw[h2]at z;cases z
  .rw[h1]at z;cases z
theorem qY(a:List Int):∀l,jG l->jG (aAA a l)
 |[],_=>zAm.mpr ⟨λ _ h=>by simp at h,.nil⟩
 |b::l,h=>by
  obtain⟨h1,h2⟩:=zAm.mp h;unfold aAA;cases e:HT.lexLt b a with
  |true=>
   rw[if_pos rfl];refine zAm.mpr ⟨λ x hx=>?_,qY a l h2⟩;rcases zAZ.mp ((nO a l).mem_iff.mp hx)with q|q
   .subst q;exact aDN e
   .exact h1 x q
  |false=>
   rw[if_neg (by simp)];refine zAm.mpr ⟨λ x hx=>?_,h⟩;rcases zAZ.mp hx with q|q
   .subst q;exact e
   .exact aFW e (h1 x q)
theorem nq:∀l,jG (jt l)
 |[]=>.nil
 |a::l=>qY a _ (nq l)
theorem rZ:∀{a b:List (List Int)},a.Perm b->jG a->jG b->a=b
 |[],b,p,_,_=>p.nil_eq
 |x::a,b,p,h1,h2=>by
  cases b with
  |nil=>exact absurd p.length_eq (by simp)
  |cons y b=>
   have hxy:x=y:=by
    obtain⟨q1,_⟩:=zAm.mp h1;obtain⟨q2,_⟩:=zAm.mp h2;have m1:x∈y::b:=p.mem_iff.mp zAU;have m2:y∈x::a:=p.mem_iff.mpr zAU;rcases zAZ.mp m1 with e|m1
    .exact e
    .rcases zAZ.mp m2 with e|m2
     .exact e.symm
     .exact uU _ _ (q2 x m1) (q1 y m2)
   subst hxy;rw[rZ (List.Perm.cons_inv p) (zAm.mp h1).2 (zAm.mp h2).2]
abbrev tupI(ns:List Int):D:=.tup (ns.map .int)
def m9:List D->Option (List (List Int))
 |[]=>some []
 | .tup l::r=>match intsOf l,m9 r with
  |some (n::ns),some nss=>some ((n::ns)::nss)
  |_,_=>none
 |_=>none
theorem nj:∀{l:List D} {nss:List (List Int)},m9 l=some nss->l=nss.map tupI/\∀ns∈nss,ns≠[]
 |[],nss,h=>by cases h;exact⟨rfl,λ ns h=>by simp at h⟩
 | .tup l::r,nss,h=>by
  unfold m9 at h;split at h
  .rename_i n ns nss' e1 e2
   cases h;obtain⟨q1,q2⟩:=nj e2;rw[jT e1,q1];refine⟨rfl,λ ms hm=>?_⟩;rcases zAZ.mp hm with e|hm
   .subst e;simp
   .exact q2 ms hm
  .cases h
 | .non::_,_,h=>by cases h
 | .int _::_,_,h=>by cases h
 | .bl _::_,_,h=>by cases h
 | .str _::_,_,h=>by cases h
 | .lst _::_,_,h=>by cases h
 | .dct _ _::_,_,h=>by cases h
 | .set _::_,_,h=>by cases h
 | .scr _::_,_,h=>by cases h
theorem pH:∀{nss:List (List Int)},(∀ns∈nss,ns≠[])->m9 (nss.map tupI)=some nss
 |[],_=>rfl
 |[]::nss,h=>absurd rfl (h [] zAU)
 |(n::ns)::nss,h=>by
  have ih:=pH λ ms hm=>h ms (zAb _ hm)
  rw[zAj];unfold m9;rw[ih,show intsOf (List.map D.int (n::ns))=some (n::ns)from qX _]
theorem vA{K:zAA}:∀{xs:List V} {nss:List (List Int)},Rps K A H xs (nss.map tupI)->(∀ns∈nss,ns≠[])->eU K H xs nss
 |_,[],.nil,_=>.nil
 |_,ns::nss,.cons h r,hne=>by
  cases h with
  |tup h r'=>
   have e:=r'.ints_of;subst e;exact .cons h (hne ns zAU) (vA r λ ms hm=>hne ms (zAb _ hm))
theorem aAl{K:zAA}:∀{zs:List (V×List Int)},(∀p∈zs,∃a,p.1= .ref a/\SqT K H a (p.2.map V.int))->Rps K A H (zs.map (·.1)) ((zs.map (·.2)).map tupI)
 |[],_=>.nil
 |p::zs,h=>by
  obtain⟨a,e1,e2⟩:=h p zAU;rw[zAj,zAj,zAj,e1];exact .cons (.tup e2 .ints) (aAl λ q hq=>h q (zAb _ hq))
theorem eU.all{K:zAA}:∀{vs:List V} {nss:List (List Int)},eU K H vs nss->∀p∈vs.zip nss,∃a,p.1= .ref a/\SqT K H a (p.2.map V.int)
 |_,_,.nil,p,hp=>by simp at hp
 |_,_,.cons h _ r,p,hp=>by
  rw[zBW]at hp;rcases zAZ.mp hp with e|hp
  .subst e;exact⟨_,rfl,h⟩
  .exact r.all p hp
def aAb{K:zAA}(ht:eU K H vs nss)(q:∀v H',aM H H'->Rp K (λ p=>H p=none) H' v (.lst ((jt nss).map tupI))->Q v H'):aCI H vs nss Q:=by
 intro zs hz hr p H' s hp hn;have e:zs.map (·.2)=jt nss:=rZ (((hz.map (·.2)).trans (by rw[List.map_snd_zip (by rw[ht.len];exact zAP _)])).trans (pJ nss).symm) hr (nq nss);refine q _ H' s (.lst hp hn ?_);rw[<-e];exact aAl λ p hp=>by
  obtain⟨a,e1,e2⟩:=ht.all p (hz.mem_iff.mp hp);exact⟨a,e1,s.sqt e2⟩
def aEQ(K:zAA)(r:List V->Hp->VK->Prop)(fd:List D->Rs D):Prop:=∀(A:Addr->Prop) xs ds H (Q:VK) z,Rps K A H xs ds->fd ds= .ok z->(∀v H',aM H H'->Rp K (λ p=>H p=none) H' v z->Q v H')->r xs H Q
def aCb{K:zAA}(hs:aEQ K r fd)(h1:aDf K G m ta g):jA K G (some []) (tCB r ta) (opA fd g):=by
 intro U Z H ρ lab Q R W;refine h1 U Z H ρ lab _ R (W.bd.imp λ d _ w x H1 s1 r1=>?_);obtain⟨z,ez,w⟩:=w.okD;exact hs (fpM m lab H) x d H1 Q z r1 ez λ v H' s r=>w v H' (s1.trans s) (r.wk λ p o _ q=>.inl (s1.free q))
def aAC:Bool->Keyed->Array Keyed->Nat->Nat->Nat->StateT SortSt Sem (Option Nat):=sortPriv%PySem.Builtin.gallop
def aCH(left:Bool)(key:Keyed)(arr:Array Keyed)(i:Nat):StateT zAp Sem (Option Bool):=elem' arr i>>=λ x=>if left=true then lt' x key else lt' key x>>=λ b=>pure (b.map (!·))
section
variable{prog:zAS}{w:World}{A:zA8}{E:Value->zAB->Prop}{s:zAB}
def uv{P:Nat->Bool}{ask:Nat->StateT zAp Sem (Option Bool)}{st:zAp}{n lo hi:Nat}{Q:Option (Option Nat)×Nat×Nat->zAp->Prop}(hb:∀i,i<n->∀R:Option Bool->zAp->Prop,R (some (P i)) st->wpS (model prog w) A E s (ask i) R st)
  (mono:∀i j,i<=j->j<n->P j=true->P i=true)(hle:lo<=hi)(hhi:hi<=n)(h1:∀i,i<lo->P i=true)(h2:∀i,hi<=i->i<n->P i=false)
  (h:∀k,k<=n->(∀i,i<k->P i=true)->(∀i,k<=i->i<n->P i=false)->Q (none,k,k) st):
  wpS (model prog w) A E s (forIn [0:n] ((none,lo,hi):Option (Option Nat)×Nat×Nat) λ _ c=>if c.2.1 ≥ c.2.2 then pure (zF6 (none,c.2.1,c.2.2))else ask (c.2.1+(c.2.2-c.2.1) / 2)>>=λ x=>match x with
   |some more=>if more=true then pure (zBL (none,c.2.1+(c.2.2-c.2.1) / 2+1,c.2.2))else pure (zBL (none,c.2.1,c.2.1+(c.2.2-c.2.1) / 2))
   |_=>pure (zF6 (some none,c.2.1,c.2.2))) Q st:=by
 refine zBJ (I:=λ x c st'=>st'=st/\∃lo hi,c=(none,lo,hi)/\lo<=hi/\hi<=n/\hi-lo<=n-x/\(∀i,i<lo->P i=true)/\∀i,hi<=i->i<n->P i=false) ?_ ?_ ⟨rfl,lo,hi,rfl,hle,hhi,by lia,h1,h2⟩
 .rintro x c st' _ hx ⟨rfl,lo,hi,rfl,g1,g2,g3,g4,g5⟩
  dsimp only;by_cases hc:lo ≥ hi
  .rw[if_pos hc]
   have:lo=hi:=by lia
   subst this;exact zAR (h lo g2 g4 g5)
  .rw[if_neg hc]
   have hm:lo+(hi-lo) / 2<hi:=by lia
   refine zAK (hb _ (by lia) _ ?_);dsimp only;cases hp:P (lo+(hi-lo) / 2)with
   |true=>
    rw[if_pos rfl];exact zAR ⟨rfl,_,_,rfl,by lia,g2,by lia,λ i hi'=>mono i _ (by lia) (by lia) hp,g5⟩
   |false=>
    rw[if_neg zAI];refine zAR ⟨rfl,_,_,rfl,by lia,by lia,by lia,g4,λ i k1 k2=>?_⟩;cases hq:P i with
    |false=>rfl
    |true=>rw[mono _ i k1 k2 hq]at hp;cases hp
 .rintro c st' ⟨rfl,lo,hi,rfl,g1,g2,g3,g4,g5⟩
  have:lo=hi:=by lia
  subst this;exact h lo g2 g4 g5
def aCV{P:Nat->Bool}{st:zAp}{left:Bool}{key:Keyed}{arr:Array Keyed}{base n hint:Nat}{Q:Option Nat->zAp->Prop}
  (hb:∀i,i<n->∀R:Option Bool->zAp->Prop,R (some (P i)) st->wpS (model prog w) A E s (aCH left key arr (base+i)) R st)
  (mono:∀i j,i<=j->j<n->P j=true->P i=true)(hh:hint<n)
  (h:∀k,k<=n->(∀i,i<k->P i=true)->(∀i,k<=i->i<n->P i=false)->Q (some k) st):wpS (model prog w) A E s (aAC left key arr base n hint) Q st:=by
 refine zAK (hb hint hh _ ?_);dsimp only;cases hp:P hint with
 |true=>
  rw[if_pos rfl];refine zAK (zC0 (zBJ (I:=λ x c st'=>st'=st/\∃l o,c=(none,l,o)/\l<o/\x<o/\hint+l<n/\P (hint+l)=true)
   (Q:=λ c st'=>st'=st/\∃l o,c=(none,l,o)/\l<o/\hint+l<n/\P (hint+l)=true/\(hint+o<n->P (hint+o)=false)) ?_ ?_ ⟨rfl,0,1,rfl,by lia,by lia,by lia,hp⟩) ?_)
  .rintro x c st' _ hx ⟨rfl,l,o,rfl,g1,g2,g3,g4⟩
   dsimp only;by_cases hc:o ≥ n-hint
   .rw[if_pos hc]
    exact zAR ⟨rfl,l,o,rfl,g1,g3,g4,λ z=>by lia⟩
   .rw[if_neg hc]
    refine zAK (hb (hint+o) (by lia) _ ?_);dsimp only;cases hq:P (hint+o)with
    |true=>
     rw[if_neg (by decide)];exact zAR ⟨rfl,o,2*o+1,rfl,by lia,by lia,by lia,hq⟩
    |false=>
     rw[if_pos (by decide)];exact zAR ⟨rfl,l,o,rfl,g1,g3,g4,λ _=>hq⟩
  .rintro c st' ⟨rfl,l,o,rfl,g1,g2,g3,g4⟩
   exact⟨rfl,l,o,rfl,g1,g3,g4,λ z=>by lia⟩
  .rintro c st' ⟨rfl,l,o,rfl,g1,g3,g4,g5⟩
   dsimp only;refine zAK (uv (ask:=λ i=>aCH left key arr (base+i)) (n:=n) hb mono (by lia) (by lia) (λ i hi=>mono i _ (by lia) g3 g4) (λ i k1 k2=>?_) λ k k1 k2 k3=>zAR (h k k1 k2 k3));by_cases hc:hint+o<n
   .have:=g5 hc
    cases hq:P i with
    |false=>rfl
    |true=>rw[mono _ i (by lia) k2 hq]at this;cases this
   .lia
 |false=>
  rw[if_neg zAI];refine zAK (zC0 (zBJ (I:=λ x c st'=>st'=st/\∃l o,c=(none,l,o)/\l<o/\x<o/\l<=hint/\P (hint-l)=false)
   (Q:=λ c st'=>st'=st/\∃l o,c=(none,l,o)/\l<o/\l<=hint/\P (hint-l)=false/\(o<=hint->P (hint-o)=true)) ?_ ?_ ⟨rfl,0,1,rfl,by lia,by lia,by lia,hp⟩) ?_)
  .rintro x c st' _ hx ⟨rfl,l,o,rfl,g1,g2,g3,g4⟩
   dsimp only;by_cases hc:o ≥ hint+1
   .rw[if_pos hc]
    exact zAR ⟨rfl,l,o,rfl,g1,g3,g4,λ z=>by lia⟩
   .rw[if_neg hc]
    refine zAK (hb (hint-o) (by lia) _ ?_);dsimp only;cases hq:P (hint-o)with
    |true=>
     rw[if_pos rfl];exact zAR ⟨rfl,l,o,rfl,g1,g3,g4,λ _=>hq⟩
    |false=>
     rw[if_neg zAI];exact zAR ⟨rfl,o,2*o+1,rfl,by lia,by lia,by lia,hq⟩
  .rintro c st' ⟨rfl,l,o,rfl,g1,g2,g3,g4⟩
   exact⟨rfl,l,o,rfl,g1,g3,g4,λ z=>by lia⟩
  .rintro c st' ⟨rfl,l,o,rfl,g1,g3,g4,g5⟩
   dsimp only;refine zAK (uv (ask:=λ i=>aCH left key arr (base+i)) (n:=n) hb mono (by lia) (by lia) (λ i hi=>?_) (λ i k1 k2=>?_) λ k k1 k2 k3=>zAR (h k k1 k2 k3))
   .by_cases hc:o<=hint
    .exact mono i _ (by lia) (by lia) (g5 hc)
    .lia
   .cases hq:P i with
    |false=>rfl
    |true=>rw[mono _ i (by lia) k2 hq]at g4;cases g4
end
structure Mg{β:Type}(r:β->β->Prop)(T out ra rb:List β):Prop where
 pm:(out++(ra++rb)).Perm T
 so:out.Pairwise r
 lo:∀x∈out,∀y∈ra++rb,r x y
 sa:ra.Pairwise r
 sb:rb.Pairwise r
section
variable{β:Type}{r:β->β->Prop}{T out ra rb L:List β}
def Mg.ta(m:Mg r T out (L++ra) rb)(h:∀x∈L,∀y∈rb,r x y):Mg r T (out++L) ra rb:=by
 obtain⟨s1,s2,s3⟩:=zAu.mp m.sa;refine⟨by have:=m.pm;simp only[zA2]at this ⊢;exact this,zAu.mpr ⟨m.so,s1,λ x hx y hy=>m.lo x hx y (by simp[hy])⟩,λ x hx y hy=>?_,s2,m.sb⟩;rcases zAs.mp hx with hx|hx
 .exact m.lo x hx y (by rcases zAs.mp hy with h|h<;>simp[h])
 .rcases zAs.mp hy with hy|hy
  .exact s3 x hx y hy
  .exact h x hx y hy
def Mg.flip(m:Mg r T out ra rb):Mg r T out rb ra:=
 ⟨(List.perm_append_comm.append_left out).trans m.pm,m.so,λ x hx y hy=>m.lo x hx y (by rcases zAs.mp hy with h|h<;>simp[h]),m.sb,m.sa⟩
def Mg.tb(m:Mg r T out ra (L++rb))(h:∀x∈L,∀y∈ra,r x y):Mg r T (out++L) ra rb:=(m.flip.ta h).flip
def Mf(r:β->β->Prop)(T o:List β):Prop:=o.Perm T/\o.Pairwise r
def Mg.ea(m:Mg r T out ra []):Mf r T (out++ra):=by
 have:=m.pm
 rw[zA3]at this;exact⟨this,zAu.mpr ⟨m.so,m.sa,λ x hx y hy=>m.lo x hx y (by simp[hy])⟩⟩
def Mg.eb(m:Mg r T out [] rb):Mf r T (out++rb):=m.flip.ea
def Mg.el(m:Mg r T out [z] rb)(h:∀y∈rb,r y z):Mf r T (out++rb++[z]):=by
 have m2:Mg r T (out++rb) [z] []:=Mg.tb (L:=rb) (by rw[zA3];exact m) λ x hx y hy=>by rw[zBO.mp hy];exact h x hx
 have:=m2.ea
 exact this
end
structure Cm(prog:zAS)(w:World)(A:zA8)(s:zAB)(κ:zCb)(O:zBn)(kf:Keyed->O.α)(G:Keyed->Prop):Prop where
 lt:∀x y,G x->G y->∀C:Bool->zAB->Prop,C (O.blt (kf x) (kf y)) s->wpAny (model prog w) A (keyLt' κ x.1 y.1) C (λ _ _=>False) s
structure Eg(st st':zAp):Prop where
 k:zB0 st'=zB0 st
 a:arrOf st'=arrOf st
 p:zAl st'=zAl st
 f:zBw st'=zBw st
def Eg.refl(st:zAp):Eg st st:=⟨rfl,rfl,rfl,rfl⟩
theorem Eg.trans{st st' st'':zAp}(h:Eg st st')(k:Eg st' st''):Eg st st'':=⟨k.k.trans h.k,k.a.trans h.a,k.p.trans h.p,k.f.trans h.f⟩
def sgP:Nat->StateT SortSt Sem Unit:=sortPriv%PySem.Builtin.setMinGallop
section
variable{prog:zAS}{w:World}{A:zA8}{E:Value->zAB->Prop}{s:zAB}{κ:zCb}{O:zBn}{kf:Keyed->O.α}{G:Keyed->Prop}
def lQ{st:zAp}{x y:Keyed}{Q:Option Bool->zAp->Prop}(c:Cm prog w A s κ O kf G)(hk:zB0 st=κ)(gx:G x)(gy:G y)(h:Q (some (O.blt (kf x) (kf y))) st):wpS (model prog w) A E s (lt' x y) Q st:=by
 rw[lt'_eq];refine zAK (zDY ?_);rw[hk];refine zAK (zE0 (wpAny_attempt ?_));refine zBE (c.lt x y gx gy (λ b s'=>s'=s/\b=O.blt (kf x) (kf y)) ⟨rfl,rfl⟩) (λ b s' e=>⟨e.1,?_⟩) λ _ _ e=>e.elim
 rw[e.2];exact zAR h
def bU{arr:Array Keyed}{i:Nat}{x:Keyed}{st:zAp}{Q:Keyed->zAp->Prop}(h:arr[i]? =some x)(q:Q x st):wpS (model prog w) A E s (elem' arr i) Q st:=by
 rw[elem'_eq,h];exact zAR q
def tL{g:Nat}{st:zAp}{Q:Unit->zAp->Prop}(q:∀st',Eg st st'->Q () st'):wpS (model prog w) A E s (sgP g) Q st:=zCZ (q _ ⟨rfl,rfl,rfl,rfl⟩)
def aFw(c:Cm prog w A s κ O kf G){left:Bool}{key x:Keyed}{arr:Array Keyed}{i:Nat}{st:zAp}{R:Option Bool->zAp->Prop}(hk:zB0 st=κ)(gk:G key)(hx:arr[i]? =some x)(gx:G x)
  (h:R (some (if left=true then O.blt (kf x) (kf key)else !O.blt (kf key) (kf x))) st):wpS (model prog w) A E s (aCH left key arr i) R st:=by
 unfold aCH;refine zAK (bU hx ?_);cases left with
 |true=>rw[if_pos rfl]at h ⊢;exact lQ c hk gx gk h
 |false=>
  rw[if_neg zAI]at h ⊢;exact zAK (lQ c hk gk gx (zAR h))
def gn(c:Cm prog w A s κ O kf G){left:Bool}{key:Keyed}{arr:Array Keyed}{base n hint:Nat}{st:zAp}{Q:Option Nat->zAp->Prop}(hk:zB0 st=κ)(gk:G key)(L:List Keyed)(hL:∀i,i<n->arr[base+i]? =L[i]?)(hn:n=L.length)
  (gL:∀x∈L,G x)(sL:L.Pairwise λ x y=>O.kle (kf x) (kf y))(hh:hint<n)
  (h:∀k,k<=n->(∀x∈L.take k,(if left=true then O.klt (kf x) (kf key)else O.kle (kf x) (kf key)))->(∀x∈L.drop k,(if left=true then O.kle (kf key) (kf x)else O.klt (kf key) (kf x)))->Q (some k) st):
  wpS (model prog w) A E s (aAC left key arr base n hint) Q st:=by
 have hP:∀i (hi:i<n),arr[base+i]? =some (L[i]'(by lia)):=λ i hi=>by rw[hL i hi,zAL (by lia)]
 have sI:∀i j (hij:i<=j) (hj:j<n),O.kle (kf (L[i]'(by lia))) (kf (L[j]'(by lia))):=λ i j hij hj=>by
  by_cases e:i=j
  .subst e;exact zC4 _
  .exact zB7.mp sL i j _ _ (by lia)
 refine aCV (P:=λ i=>if h:i<L.length then(if left=true then O.blt (kf L[i]) (kf key)else !O.blt (kf key) (kf L[i]))else false) (λ i hi R hR=>aFw c hk gk (hP i hi) (gL _ (zCW _)) ?_) (λ i j hij hj hp=>?_) hh λ k h1 h2 h3=>h k h1 (λ x hx=>?_) λ x hx=>?_
 .rw[dif_pos (by lia)]at hR
  exact hR
 .rw[dif_pos (by lia)]at hp ⊢
  have hs:=sI i j hij hj;cases left with
  |true=>rw[if_pos rfl]at hp ⊢;exact KeyOrd.klt_of_kle_of_klt hs hp
  |false=>
   rw[if_neg zAI]at hp ⊢;have h1:O.kle (kf (L[j]'(by lia))) (kf key):=by simpa[zF7]using hp
   have h2:=zAo hs h1;simpa[zF7]using h2
 .obtain⟨i,hi,e⟩:=zBj hx
  rw[zAV]at hi;rw[zBS]at e
  have:=h2 i (by lia)
  rw[dif_pos (by lia),e]at this;cases left with
  |true=>rw[if_pos rfl]at this ⊢;exact this
  |false=>rw[if_neg zAI]at this ⊢;simpa[zF7]using this
 .obtain⟨i,hi,e⟩:=zBj hx
  rw[zAv]at hi;rw[zEE]at e
  have:=h3 (k+i) (by lia) (by lia)
  rw[dif_pos (by lia),e]at this;cases left with
  |true=>rw[if_pos rfl]at this ⊢;exact this
  |false=>rw[if_neg zAI]at this ⊢;simpa[KeyOrd.klt]using this
end
def ig(a:Array Keyed)(i j:Nat):(a.extract i j).toList=(a.toList.drop i).take (j-i):=by rw[Array.toList_extract]
def cL(a:Array Keyed)(i:Nat):(a.extract i a.size).toList=a.toList.drop i:=by
 rw[ig,zAe (by rw[zAv,zA9];exact zAP _)]
def aEN(l:List Keyed)(i k:Nat):l.drop i=(l.drop i).take k++l.drop (i+k):=by
 rw[<-zCj,zA6]
def bN{a:Array Keyed}{i:Nat}(h:i<a.size):a.toList.drop i=a[i]::a.toList.drop (i+1):=by
 rw[zBF (by simpa using h)];rfl
def dO{a:Array Keyed}{i:Nat}(h:i+1=a.size):a.toList.drop i=[a[i]'(by lia)]:=by
 rw[bN (by lia),zB3 (by simp;lia)]
abbrev LS:=Option (Array Keyed)×Array Keyed×Nat×Nat×Nat×Nat×Nat
abbrev LM:=StateT zAp Sem (ForInStep LS)
def frA(a b out:Array Keyed)(ia ib mg ac bc:Nat):LM:=elem' a ia>>=λ x=>if (ia+1+1==a.size)=true then pure (.done (some (out.push x++b.extract ib b.size++a.extract (ia+1) a.size),out.push x,ia+1,ib,mg,ac,bc))
 else if (decide (ac<7)&&decide (bc<7))=true then pure (.done (none,out.push x,ia+1,ib,mg,ac,bc))else pure (.yield (none,out.push x,ia+1,ib,mg,ac,bc))
def frB(a b out:Array Keyed)(ia ib mg ac k:Nat):LM:=if k>0 then(if (ib+k==b.size)=true then pure (.done (some (out++b.extract ib (ib+k)++a.extract ia a.size++b.extract (ib+k) b.size),out++b.extract ib (ib+k),ia,ib+k,mg,ac,k))
 else frA a b (out++b.extract ib (ib+k)) ia (ib+k) mg ac k)else frA a b out ia ib mg ac k
def frC(a b out:Array Keyed)(ia ib mg ac bc:Nat):LM:=elem' a ia>>=λ x=>aAC true x b ib (b.size-ib) 0>>=λ r=>match r with
 |some k=>frB a b out ia ib mg ac k
 |_=>pure (.done (some (out++a.extract ia a.size++b.extract ib b.size),out,ia,ib,mg,ac,bc))
def frD(a b out:Array Keyed)(ia ib mg ac bc:Nat):LM:=elem' b ib>>=λ x=>if (ib+1==b.size)=true then pure (.done (some (out.push x++a.extract ia a.size++b.extract (ib+1) b.size),out.push x,ia,ib+1,mg,ac,bc))else frC a b (out.push x) ia (ib+1) mg ac bc
def frE(a b out:Array Keyed)(ia ib mg k bc:Nat):LM:=if k>0 then(if (ia+k+1==a.size)=true then pure (.done (some (out++a.extract ia (ia+k)++b.extract ib b.size++a.extract (ia+k) a.size),out++a.extract ia (ia+k),ia+k,ib,mg,k,bc))
 else if (ia+k==a.size)=true then pure (.done (some (out++a.extract ia (ia+k)++a.extract (ia+k) a.size++b.extract ib b.size),out++a.extract ia (ia+k),ia+k,ib,mg,k,bc))else frD a b (out++a.extract ia (ia+k)) (ia+k) ib mg k bc)else frD a b out ia ib mg k bc
def frF(a b out:Array Keyed)(ia ib mg ac bc:Nat):LM:=sgP mg>>=λ _=>elem' b ib>>=λ x=>aAC false x a ia (a.size-ia) 0>>=λ r=>match r with
 |some k=>frE a b out ia ib mg k bc
 |_=>pure (.done (some (out++a.extract ia a.size++b.extract ib b.size),out,ia,ib,mg,ac,bc))
section
variable{prog:zAS}{w:World}{A:zA8}{E:Value->zAB->Prop}{s:zAB}{κ:zCb}{O:zBn}{kf:Keyed->O.α}{G:Keyed->Prop}{T:List Keyed}{a b out:Array Keyed}{ia ib mg ac bc k m0:Nat}{st:zAp}{Q:ForInStep LS->zAp->Prop}
structure Ab(O:zBn)(kf:Keyed->O.α)(G:Keyed->Prop)(a b:Array Keyed):Prop where
 ga:∀x∈a.toList,G x
 gb:∀x∈b.toList,G x
 la:∀i (h:i+1=a.size),∀y∈b.toList,O.klt (kf y) (kf (a[i]'(by lia)))
abbrev rK(O:zBn)(kf:Keyed->O.α)(x y:Keyed):Prop:=O.kle (kf x) (kf y)
abbrev Ml(O:zBn)(kf:Keyed->O.α)(T:List Keyed)(a b out:Array Keyed)(ia ib:Nat):Prop:=Mg (rK O kf) T out.toList (a.toList.drop ia) (b.toList.drop ib)
structure Tu(O:zBn)(kf:Keyed->O.α)(T:List Keyed)(a b:Array Keyed)(m0:Nat)(st:zAp)(Q:ForInStep LS->zAp->Prop):Prop where
 ret:∀o out ia ib mg ac bc st',Eg st st'->Mf (rK O kf) T o.toList->Q (.done (some o,out,ia,ib,mg,ac,bc)) st'
 on:∀out ia ib mg ac bc st',Eg st st'->Ml O kf T a b out ia ib->ia+1<a.size->ib<b.size->m0<ia+ib->Q (.done (none,out,ia,ib,mg,ac,bc)) st'/\Q (.yield (none,out,ia,ib,mg,ac,bc)) st'
def Tu.eg{st1:zAp}(t:Tu O kf T a b m0 st Q)(h:Eg st st1):Tu O kf T a b m0 st1 Q:=
 ⟨λ o out ia ib mg ac bc st' e f=>t.ret o out ia ib mg ac bc st' (h.trans e) f,λ out ia ib mg ac bc st' e=>t.on out ia ib mg ac bc st' (h.trans e)⟩
def aBs(B:Ab O kf G a b)(t:Tu O kf T a b m0 st Q)(m:Ml O kf T a b out ia ib)(h1:ia+1<a.size)(h2:ib<b.size)(h3:m0<ia+1+ib)(hl:∀y∈b.toList.drop ib,O.kle (kf (a[ia]'(by lia))) (kf y)):
  wpS (model prog w) A E s (frA a b out ia ib mg ac bc) Q st:=by
 have m2:Ml O kf T a b (out.push (a[ia]'(by lia))) (ia+1) ib:=by
  unfold Ml at m ⊢;rw[bN (by lia)]at m;rw[zBQ];exact Mg.ta (L:=[a[ia]'(by lia)]) m λ x hx y hy=>by rw[zBO.mp hx];exact hl y hy
 unfold frA;refine zAK (bU (zAJ (by lia)) ?_);by_cases c1:ia+1+1=a.size
 .rw[if_pos (by simpa using c1)]
  refine zAR (t.ret _ _ _ _ _ _ _ _ (Eg.refl st) ?_);rw[zAM,zAM,cL,cL,dO c1];unfold Ml at m2;rw[dO c1]at m2;exact m2.el λ y hy=>zAc (B.la _ c1 y (zBH hy))
 .rw[if_neg (by simpa using c1)]
  have:=t.on _ _ _ mg ac bc _ (Eg.refl st) m2 (by lia) h2 h3
  split
  .exact zAR this.1
  .exact zAR this.2
def aFm(B:Ab O kf G a b)(t:Tu O kf T a b m0 st Q)(m:Ml O kf T a b out ia ib)(h1:ia+1<a.size)(h2:ib<b.size)(h3:m0<ia+1+ib)(hk:k<=b.size-ib)(hl:∀y∈(b.toList.drop ib).take k,O.klt (kf y) (kf (a[ia]'(by lia))))(hr:∀y∈(b.toList.drop ib).drop k,O.kle (kf (a[ia]'(by lia))) (kf y)):
  wpS (model prog w) A E s (frB a b out ia ib mg ac k) Q st:=by
 unfold frB;rw[zCj]at hr;by_cases c0:k>0
 .rw[if_pos c0]
  have m2:Ml O kf T a b (out++b.extract ib (ib+k)) ia (ib+k):=by
   unfold Ml at m ⊢;rw[aEN b.toList ib k]at m;rw[zAM,ig,zAw];refine m.tb λ x hx y hy=>?_
   have hx1:=hl x hx;rw[bN (by lia)]at hy;have sa:=m.sa;rw[bN (by lia)]at sa;rcases zAZ.mp hy with rfl|hy
   .exact zAc hx1
   .exact zAo (zAc hx1) ((zAm.mp sa).1 y hy)
  by_cases c1:ib+k=b.size
  .rw[if_pos (by simpa using c1)]
   refine zAR (t.ret _ _ _ _ _ _ _ _ (Eg.refl st) ?_);unfold Ml at m2;have hz:b.toList.drop (ib+k)=[]:=zB3 (by simp;lia);rw[hz]at m2;rw[zAM,zAM (ys:=a.extract ia a.size),cL,cL,hz,zA3];exact m2.ea
  .rw[if_neg (by simpa using c1)]
   exact aBs B t m2 h1 (by lia) (by lia) hr
 .rw[if_neg c0]
  have:k=0:=by lia
  subst this;exact aBs B t m h1 h2 h3 hr
def aFl(c:Cm prog w A s κ O kf G)(hκ:zB0 st=κ)(B:Ab O kf G a b)(t:Tu O kf T a b m0 st Q)(m:Ml O kf T a b out ia ib)(h1:ia+1<a.size)(h2:ib<b.size)(h3:m0<ia+1+ib):
  wpS (model prog w) A E s (frC a b out ia ib mg ac bc) Q st:=by
 unfold frC;refine zAK (bU (zAJ (by lia)) ?_);refine zAK (gn c hκ (B.ga _ (by simp)) (b.toList.drop ib) (λ i hi=>?_) (by simp) (λ x hx=>B.gb x (zBH hx)) m.sb (by lia) λ k k1 k2 k3=>?_)
 .rw[zBp,zA5]
 .simp only[if_true]at k2 k3
  exact aFm B t m h1 h2 h3 k1 k2 k3
def aBr(c:Cm prog w A s κ O kf G)(hκ:zB0 st=κ)(B:Ab O kf G a b)(t:Tu O kf T a b m0 st Q)(m:Ml O kf T a b out ia ib)(h1:ia+1<a.size)(h2:ib<b.size)(h3:m0<=ia+1+ib)(hl:∀y∈a.toList.drop ia,O.klt (kf (b[ib]'h2)) (kf y)):
  wpS (model prog w) A E s (frD a b out ia ib mg ac bc) Q st:=by
 have m2:Ml O kf T a b (out.push (b[ib]'h2)) ia (ib+1):=by
  unfold Ml at m ⊢;rw[bN (a:=b) h2]at m;rw[zBQ];exact Mg.tb (L:=[b[ib]'h2]) m λ x hx y hy=>by rw[zBO.mp hx];exact zAc (hl y hy)
 unfold frD;refine zAK (bU (zAJ h2) ?_);by_cases c1:ib+1=b.size
 .rw[if_pos (by simpa using c1)]
  refine zAR (t.ret _ _ _ _ _ _ _ _ (Eg.refl st) ?_);unfold Ml at m2;have hz:b.toList.drop (ib+1)=[]:=zB3 (by simp;lia);rw[hz]at m2;rw[zAM,zAM,cL,cL,hz,zA3];exact m2.ea
 .rw[if_neg (by simpa using c1)]
  exact aFl c hκ B t m2 h1 (by lia) (by lia)
def aFk(c:Cm prog w A s κ O kf G)(hκ:zB0 st=κ)(B:Ab O kf G a b)(t:Tu O kf T a b m0 st Q)(m:Ml O kf T a b out ia ib)(h1:ia+1<a.size)(h2:ib<b.size)(h3:m0<=ia+1+ib)(hk:k<=a.size-ia)
  (hl:∀y∈(a.toList.drop ia).take k,O.kle (kf y) (kf (b[ib]'h2)))(hr:∀y∈(a.toList.drop ia).drop k,O.klt (kf (b[ib]'h2)) (kf y)):wpS (model prog w) A E s (frE a b out ia ib mg k bc) Q st:=by
 unfold frE;rw[zCj]at hr;by_cases c0:k>0
 .rw[if_pos c0]
  have m2:Ml O kf T a b (out++a.extract ia (ia+k)) (ia+k) ib:=by
   unfold Ml at m ⊢;rw[aEN a.toList ia k]at m;rw[zAM,ig,zAw];refine m.ta λ x hx y hy=>?_
   have hx1:=hl x hx;rw[bN (a:=b) h2]at hy;have sb:=m.sb;rw[bN (a:=b) h2]at sb;rcases zAZ.mp hy with rfl|hy
   .exact hx1
   .exact zAo hx1 ((zAm.mp sb).1 y hy)
  by_cases c1:ia+k+1=a.size
  .rw[if_pos (by simpa using c1)]
   refine zAR (t.ret _ _ _ _ _ _ _ _ (Eg.refl st) ?_);unfold Ml at m2;rw[dO c1]at m2;rw[zAM,zAM (ys:=b.extract ib b.size),cL,cL,dO c1];exact m2.el λ y hy=>zAc (B.la _ c1 y (zBH hy))
  .rw[if_neg (by simpa using c1)]
   by_cases c2:ia+k=a.size
   .rw[if_pos (by simpa using c2)]
    refine zAR (t.ret _ _ _ _ _ _ _ _ (Eg.refl st) ?_);unfold Ml at m2;have hz:a.toList.drop (ia+k)=[]:=zB3 (by simp;lia);rw[hz]at m2;rw[zAM,zAM (ys:=a.extract (ia+k) a.size),cL,cL,hz,zA3];exact m2.eb
   .rw[if_neg (by simpa using c2)]
    exact aBr c hκ B t m2 (by lia) h2 (by lia) hr
 .rw[if_neg c0]
  have:k=0:=by lia
  subst this;exact aBr c hκ B t m h1 h2 h3 hr
def aBq(c:Cm prog w A s κ O kf G)(hκ:zB0 st=κ)(B:Ab O kf G a b)(t:Tu O kf T a b m0 st Q)(m:Ml O kf T a b out ia ib)(h1:ia+1<a.size)(h2:ib<b.size)(h3:m0<=ia+1+ib):
  wpS (model prog w) A E s (frF a b out ia ib mg ac bc) Q st:=by
 unfold frF;refine zAK (tL λ st1 e1=>?_);refine zAK (bU (zAJ h2) ?_);refine zAK (gn c (e1.k.trans hκ) (B.gb _ (by simp)) (a.toList.drop ia) (λ i hi=>?_) (by simp) (λ x hx=>B.ga x (zBH hx)) m.sa (by lia) λ k k1 k2 k3=>?_)
 .rw[zBp,zA5]
 .simp only[zCE,if_false]at k2 k3
  exact aFk c (e1.k.trans hκ) B (t.eg e1) m h1 h2 h3 k1 k2 k3
end
def aGd:Array Keyed->Array Keyed->StateT SortSt Sem (Array Keyed):=sortPriv%PySem.Builtin.mergeLo
section
variable{prog:zAS}{w:World}{A:zA8}{E:Value->zAB->Prop}{s:zAB}{κ:zCb}{O:zBn}{kf:Keyed->O.α}{G:Keyed->Prop}{T:List Keyed}{a b:Array Keyed}{st:zAp}{Q:Array Keyed->zAp->Prop}
def aCS(c:Cm prog w A s κ O kf G)(hκ:zB0 st=κ)(B:Ab O kf G a b)(hT:(a.toList++b.toList).Perm T)(sa:a.toList.Pairwise (rK O kf))(sb:b.toList.Pairwise (rK O kf))(ha:0<a.size)(hb:0<b.size)(hf:O.klt (kf b[0]) (kf a[0]))
  (h:∀o st',Eg st st'->Mf (rK O kf) T o.toList->Q o st'):wpS (model prog w) A E s (aGd a b) Q st:=by
 refine zAK (zE0 (zCz ⟨rfl,?_⟩));refine zAK (bU (zAJ hb) ?_);have m1:Ml O kf T a b #[b[0]] 0 1:=by
  have m0:Mg (rK O kf) T [] (a.toList.drop 0) (b.toList.drop 0):=⟨by simpa using hT,.nil,λ x hx=>by simp at hx,by simpa using sa,by simpa using sb⟩;rw[bN (a:=b) hb]at m0;refine Mg.tb (L:=[b[0]]) m0 λ x hx y hy=>?_
  rw[zBO.mp hx];rw[bN ha]at hy
  have:=m0.sa
  rw[bN ha]at this;rcases zAZ.mp hy with rfl|hy
  .exact zAc hf
  .exact zAo (zAc hf) ((zAm.mp this).1 y hy)
 dsimp only;by_cases c1:1=b.size
 .rw[if_pos (by simpa using c1)]
  refine zAR (h _ _ (Eg.refl st) ?_);have hz:b.toList.drop 1=[]:=zB3 (by simp;lia);unfold Ml at m1;rw[hz]at m1;rw[zAM,zAM,cL,cL,hz,zA3];exact m1.ea
 rw[if_neg (by simpa using c1)];by_cases c2:0+1=a.size
 .rw[if_pos (by simpa using c2)]
  refine zAR (h _ _ (Eg.refl st) ?_);unfold Ml at m1;rw[dO c2]at m1;rw[zAM,zAM,cL,cL,dO c2];exact m1.el λ y hy=>zAc (B.la _ c2 y (zBH hy))
 rw[if_neg (by simpa using c2)];refine zAK (zDY ?_);refine zAK (zC0 (zBJ (I:=λ x c st'=>Eg st st'/\∃out ia ib mg,c=(none,out,ia,ib,mg)/\Ml O kf T a b out ia ib/\ia+1<a.size/\ib<b.size/\x<ia+ib)
  (Q:=λ c st'=>Eg st st'/\∃o,c.1=some o/\Mf (rK O kf) T o.toList) ?_ ?_ ⟨Eg.refl st,_,_,_,_,rfl,m1,by lia,by lia,by lia⟩) ?_)
 .rintro x ⟨_,_⟩ st1 _ hx ⟨e1,out,ia,ib,mg,hc,m,h1,h2,h3⟩
  cases hc;dsimp only;refine zAK (zC0 (zBJ (I:=λ _ c st'=>Eg st st'/\∃out ia ib ac bc,c=(none,out,ia,ib,ac,bc)/\Ml O kf T a b out ia ib/\ia+1<a.size/\ib<b.size/\x<ia+ib)
   (Q:=λ c st'=>Eg st st'/\((∃o,c.1=some o/\Mf (rK O kf) T o.toList)\/∃out ia ib ac bc,c=(none,out,ia,ib,ac,bc)/\Ml O kf T a b out ia ib/\ia+1<a.size/\ib<b.size/\x<ia+ib)) ?_ (λ c st' ⟨e,z⟩=>⟨e,.inr z⟩) ⟨e1,_,_,_,_,_,rfl,m,h1,h2,h3⟩) ?_)
  .rintro y ⟨_,_⟩ st2 _ hy ⟨e2,out,ia,ib,ac,bc,hc,m,h1,h2,h3⟩
   cases hc;dsimp only;refine zAK (bU (zAJ h2) ?_);refine zAK (bU (zAJ (by lia)) ?_);refine zAK (lQ c (e2.k.trans hκ) (B.gb _ (by simp)) (B.ga _ (by simp)) ?_);dsimp only;have sA:=m.sa;have sB:=m.sb;rw[bN (by lia)]at sA;rw[bN (a:=b) h2]at sB;cases hlt:O.blt (kf b[ib]) (kf (a[ia]'(by lia)))with
   |true=>
    rw[if_pos rfl];refine zAK (bU (zAJ h2) ?_);have m2:Ml O kf T a b (out.push b[ib]) ia (ib+1):=by
     unfold Ml at m ⊢;rw[bN (a:=b) h2]at m;rw[zBQ];refine Mg.tb (L:=[b[ib]]) m λ x hx y hy=>?_
     rw[zBO.mp hx];rw[bN (by lia)]at hy;rcases zAZ.mp hy with rfl|hy
     .exact zAc hlt
     .exact zAo (zAc hlt) ((zAm.mp sA).1 y hy)
    by_cases c3:ib+1=b.size
    .rw[if_pos (by simpa using c3)]
     refine zAR ⟨e2,.inl ⟨_,rfl,?_⟩⟩;have hz:b.toList.drop (ib+1)=[]:=zB3 (by simp;lia);unfold Ml at m2;rw[hz]at m2;rw[zAM,zAM,cL,cL,hz,zA3];exact m2.ea
    .rw[if_neg (by simpa using c3)]
     split
     .exact zAR ⟨e2,.inr ⟨_,_,_,_,_,rfl,m2,h1,by lia,by lia⟩⟩
     .exact zAR ⟨e2,_,_,_,_,_,rfl,m2,h1,by lia,by lia⟩
   |false=>
    rw[if_neg zAI];refine zAK (bU (zAJ (by lia)) ?_);have m2:Ml O kf T a b (out.push (a[ia]'(by lia))) (ia+1) ib:=by
     unfold Ml at m ⊢;rw[bN (by lia)]at m;rw[zBQ];refine Mg.ta (L:=[a[ia]'(by lia)]) m λ x hx y hy=>?_
     rw[zBO.mp hx];rw[bN (a:=b) h2]at hy;rcases zAZ.mp hy with rfl|hy
     .exact hlt
     .exact zAo hlt ((zAm.mp sB).1 y hy)
    by_cases c3:ia+1+1=a.size
    .rw[if_pos (by simpa using c3)]
     refine zAR ⟨e2,.inl ⟨_,rfl,?_⟩⟩;unfold Ml at m2;rw[dO c3]at m2;rw[zAM,zAM,cL,cL,dO c3];exact m2.el λ y hy=>zAc (B.la _ c3 y (zBH hy))
    .rw[if_neg (by simpa using c3)]
     split
     .exact zAR ⟨e2,.inr ⟨_,_,_,_,_,rfl,m2,by lia,h2,by lia⟩⟩
     .exact zAR ⟨e2,_,_,_,_,_,rfl,m2,by lia,h2,by lia⟩
  .rintro⟨r1,c1⟩ st2 ⟨e2,⟨o,ho,hm⟩|⟨out,ia,ib,ac,bc,hc,m,h1,h2,h3⟩⟩
   .cases ho
    exact zAR ⟨e2,o,rfl,hm⟩
   .cases hc
    dsimp only;refine zAK (zE0 (zCz ⟨rfl,?_⟩));refine zAK (zC0 (zBJ (I:=λ z c st'=>Eg st st'/\∃out ia ib mg ac bc,c=(none,out,ia,ib,mg,ac,bc)/\Ml O kf T a b out ia ib/\ia+1<a.size/\ib<b.size/\x+min z 1<ia+ib)
     (Q:=λ c st'=>Eg st st'/\((∃o,c.1=some o/\Mf (rK O kf) T o.toList)\/∃out ia ib mg ac bc,c=(none,out,ia,ib,mg,ac,bc)/\Ml O kf T a b out ia ib/\ia+1<a.size/\ib<b.size/\x+1<ia+ib)) ?_ ?_ ⟨e2,_,_,_,_,_,_,rfl,m,h1,h2,by lia⟩) ?_)
    .rintro z ⟨_,_⟩ st3 _ hz ⟨e3,out,ia,ib,mg,ac,bc,hc,m,h1,h2,h3⟩
     cases hc;dsimp only;by_cases c5:mg>1
     .rw[if_pos c5]
      refine aBq (m0:=x+1) (mg:=mg-1) (ac:=ac) (bc:=bc) c (e3.k.trans hκ) B ?_ m h1 h2 (by lia);exact⟨λ o out ia ib mg ac bc st' e hm=>⟨e3.trans e,.inl ⟨o,rfl,hm⟩⟩,λ out ia ib mg ac bc st' e m h1 h2 h3=>⟨⟨e3.trans e,.inr ⟨_,_,_,_,_,_,rfl,m,h1,h2,h3⟩⟩,e3.trans e,_,_,_,_,_,_,rfl,m,h1,h2,by lia⟩⟩
     .rw[if_neg c5]
      refine aBq (m0:=x+1) (mg:=mg) (ac:=ac) (bc:=bc) c (e3.k.trans hκ) B ?_ m h1 h2 (by lia);exact⟨λ o out ia ib mg ac bc st' e hm=>⟨e3.trans e,.inl ⟨o,rfl,hm⟩⟩,λ out ia ib mg ac bc st' e m h1 h2 h3=>⟨⟨e3.trans e,.inr ⟨_,_,_,_,_,_,rfl,m,h1,h2,h3⟩⟩,e3.trans e,_,_,_,_,_,_,rfl,m,h1,h2,by lia⟩⟩
    .rintro c st' ⟨e,out,ia,ib,mg,ac,bc,hc,m,h1,h2,h3⟩
     exact⟨e,.inr ⟨_,_,_,_,_,_,hc,m,h1,h2,by lia⟩⟩
    .rintro⟨r1,c1⟩ st3 ⟨e3,⟨o,ho,hm⟩|⟨out,ia,ib,mg,ac,bc,hc,m,h1,h2,h3⟩⟩
     .cases ho
      exact zAR ⟨e3,o,rfl,hm⟩
     .cases hc
      dsimp only;refine zAK (tL λ st4 e4=>?_);exact zAR ⟨e3.trans e4,_,_,_,_,rfl,m,h1,h2,h3⟩
 .rintro c st' ⟨e,out,ia,ib,mg,hc,m,h1,h2,h3⟩
  lia
 .rintro⟨r1,c1⟩ st' ⟨e,o,ho,hm⟩
  cases ho;exact zAR (h o st' e hm)
end
def ji(a:Array Keyed)(j:Nat):(a.extract 0 j).toList=a.toList.take j:=by rw[ig];rfl
def aBv(a:Array Keyed)(j n:Nat):(a.extract j n).reverse.toList=((a.toList.take n).drop j).reverse:=by
 rw[zCu,ig,List.drop_take]
def vD(l:List Keyed){j n:Nat}(h:j<=n):(l.take n).reverse=((l.take n).drop j).reverse++(l.take j).reverse:=by
 rw[<-zCA];congr 1
 conv=>lhs;rw[<-zA6 j (l.take n)]
 rw[zCT,zBY h]
def fJ{a:Array Keyed}{n:Nat}(h0:0<n)(h:n<=a.size):(a.toList.take n).reverse=(a[n-1]'(by lia))::(a.toList.take (n-1)).reverse:=by
 have e:n=(n-1)+1:=by lia
 conv=>lhs;rw[e]
 rw[zCc (by simp;lia),zCA];rfl
abbrev HS:=Option (Array Keyed)×Nat×Nat×Array Keyed×Nat×Nat×Nat
abbrev HM:=StateT zAp Sem (ForInStep HS)
def hrA(a b out:Array Keyed)(na nb mg ac bc:Nat):HM:=elem' a (na-1)>>=λ x=>if (na-1==0)=true then pure (.done (some (a.extract 0 (na-1)++b.extract 0 nb++(out.push x).reverse),na-1,nb,out.push x,mg,ac,bc))
 else if (decide (ac<7)&&decide (bc<7))=true then pure (.done (none,na-1,nb,out.push x,mg,ac,bc))else pure (.yield (none,na-1,nb,out.push x,mg,ac,bc))
def hrB(a b out:Array Keyed)(na nb mg ac j:Nat):HM:=if nb-j>0 then(if (j==1)=true then pure (.done (some (b.extract 0 j++a.extract 0 na++(out++(b.extract j nb).reverse).reverse),na,j,out++(b.extract j nb).reverse,mg,ac,nb-j))
 else if (j==0)=true then pure (.done (some (a.extract 0 na++b.extract 0 j++(out++(b.extract j nb).reverse).reverse),na,j,out++(b.extract j nb).reverse,mg,ac,nb-j))else hrA a b (out++(b.extract j nb).reverse) na j mg ac (nb-j))else hrA a b out na nb mg ac (nb-j)
def hrC(a b out:Array Keyed)(na nb mg ac bc:Nat):HM:=elem' a (na-1)>>=λ x=>aAC true x b 0 nb (nb-1)>>=λ r=>match r with
 |some j=>hrB a b out na nb mg ac j
 |_=>pure (.done (some (a.extract 0 na++b.extract 0 nb++out.reverse),na,nb,out,mg,ac,bc))
def hrD(a b out:Array Keyed)(na nb mg ac bc:Nat):HM:=elem' b (nb-1)>>=λ x=>if (nb-1==1)=true then pure (.done (some (b.extract 0 (nb-1)++a.extract 0 na++(out.push x).reverse),na,nb-1,out.push x,mg,ac,bc))else hrC a b (out.push x) na (nb-1) mg ac bc
def hrE(a b out:Array Keyed)(na nb mg j bc:Nat):HM:=if na-j>0 then(if (j==0)=true then pure (.done (some (a.extract 0 j++b.extract 0 nb++(out++(a.extract j na).reverse).reverse),j,nb,out++(a.extract j na).reverse,mg,na-j,bc))else hrD a b (out++(a.extract j na).reverse) j nb mg (na-j) bc)else hrD a b out na nb mg (na-j) bc
def hrF(a b out:Array Keyed)(na nb mg ac bc:Nat):HM:=sgP mg>>=λ _=>elem' b (nb-1)>>=λ x=>aAC false x a 0 na (na-1)>>=λ r=>match r with
 |some j=>hrE a b out na nb mg j bc
 |_=>pure (.done (some (a.extract 0 na++b.extract 0 nb++out.reverse),na,nb,out,mg,ac,bc))
section
variable{prog:zAS}{w:World}{A:zA8}{E:Value->zAB->Prop}{s:zAB}{κ:zCb}{O:zBn}{kf:Keyed->O.α}{G:Keyed->Prop}{T:List Keyed}{a b out:Array Keyed}{na nb mg ac bc j m0:Nat}{st:zAp}{Q:ForInStep HS->zAp->Prop}
abbrev rH(O:zBn)(kf:Keyed->O.α)(x y:Keyed):Prop:=O.kle (kf y) (kf x)
abbrev Mh(O:zBn)(kf:Keyed->O.α)(T:List Keyed)(a b out:Array Keyed)(na nb:Nat):Prop:=Mg (rH O kf) T out.toList (a.toList.take na).reverse (b.toList.take nb).reverse
def Mf.rev{l:List Keyed}(h:Mf (rH O kf) T l):Mf (rK O kf) T l.reverse:=⟨(zDR l).trans h.1,zBr.mpr h.2⟩
def Mh.enA{n:Nat}(hn:n=0)(m:Mh O kf T a b out n nb):Mf (rK O kf) T (a.extract 0 n++b.extract 0 nb++out.reverse).toList:=by
 subst hn
 have:=m.eb.rev
 rw[zCA,zCy]at this;rw[zAM,zAM,ji,ji,zCu];exact this
def Mh.enB{n:Nat}(hn:n=0)(m:Mh O kf T a b out na n):Mf (rK O kf) T (a.extract 0 na++b.extract 0 n++out.reverse).toList:=by
 subst hn
 have:=m.ea.rev
 rw[zCA,zCy]at this;rw[zAM,zAM,ji,ji,zCu,zCk,zA3];exact this
def Mh.enF{n:Nat}(h0:0<b.size)(fb:∀x∈a.toList,O.kle (kf b[0]) (kf x))(hn:n=1)(m:Mh O kf T a b out na n):Mf (rK O kf) T (b.extract 0 n++a.extract 0 na++out.reverse).toList:=by
 subst hn;have e:(b.toList.take 1).reverse=[b[0]]:=by rw[fJ (by decide) h0];rfl
 unfold Mh at m;rw[e]at m
 have:=(m.flip.el λ y hy=>fb y (zBN (zBI.mp hy))).rev
 rw[zCA,zCA,zCy,List.reverse_singleton]at this;have e1:b.toList.take 1=[b[0]]:=by rw[<-zCy (b.toList.take 1),e];rfl
 rw[zAM,zAM,ji,ji,zCu,e1,zA2];exact this
structure Bb(O:zBn)(kf:Keyed->O.α)(G:Keyed->Prop)(a b:Array Keyed):Prop where
 ga:∀x∈a.toList,G x
 gb:∀x∈b.toList,G x
 b0:0<b.size
 fb:∀x∈a.toList,O.kle (kf b[0]) (kf x)
structure Th(O:zBn)(kf:Keyed->O.α)(T:List Keyed)(a b:Array Keyed)(m0:Nat)(st:zAp)(Q:ForInStep HS->zAp->Prop):Prop where
 ret:∀o na nb out mg ac bc st',Eg st st'->Mf (rK O kf) T o.toList->Q (.done (some o,na,nb,out,mg,ac,bc)) st'
 on:∀na nb out mg ac bc st',Eg st st'->Mh O kf T a b out na nb->0<na->1<nb->na<=a.size->nb<=b.size->na+nb<m0->Q (.done (none,na,nb,out,mg,ac,bc)) st'/\Q (.yield (none,na,nb,out,mg,ac,bc)) st'
def Th.eg{st1:zAp}(t:Th O kf T a b m0 st Q)(h:Eg st st1):Th O kf T a b m0 st1 Q:=
 ⟨λ o na nb out mg ac bc st' e f=>t.ret o na nb out mg ac bc st' (h.trans e) f,λ na nb out mg ac bc st' e=>t.on na nb out mg ac bc st' (h.trans e)⟩
def Mh.pa(m:Mh O kf T a b out na nb)(h0:0<na)(h1:na<=a.size)(hl:∀y∈b.toList.take nb,O.kle (kf y) (kf (a[na-1]'(by lia)))):Mh O kf T a b (out.push (a[na-1]'(by lia))) (na-1) nb:=by
 unfold Mh at m ⊢;rw[fJ h0 h1]at m;rw[zBQ];exact Mg.ta (L:=[a[na-1]'(by lia)]) m λ x hx y hy=>by rw[zBO.mp hx];exact hl y (zBI.mp hy)
def Mh.pb(m:Mh O kf T a b out na nb)(h0:0<nb)(h1:nb<=b.size)(hl:∀y∈a.toList.take na,O.kle (kf y) (kf (b[nb-1]'(by lia)))):Mh O kf T a b (out.push (b[nb-1]'(by lia))) na (nb-1):=by
 unfold Mh at m ⊢;rw[fJ h0 h1]at m;rw[zBQ];exact Mg.tb (L:=[b[nb-1]'(by lia)]) m λ x hx y hy=>by rw[zBO.mp hx];exact hl y (zBI.mp hy)
def Mh.la(m:Mh O kf T a b out na nb)(h0:0<na)(h1:na<=a.size):∀y∈a.toList.take na,O.kle (kf y) (kf (a[na-1]'(by lia))):=λ y hy=>by
 have:=m.sa
 rw[fJ h0 h1]at this;have hy2:y∈(a.toList.take na).reverse:=zBI.mpr hy;rw[fJ h0 h1]at hy2;rcases zAZ.mp hy2 with rfl|h
 .exact zC4 _
 .exact(zAm.mp this).1 y h
def Mh.lb(m:Mh O kf T a b out na nb)(h0:0<nb)(h1:nb<=b.size):∀y∈b.toList.take nb,O.kle (kf y) (kf (b[nb-1]'(by lia))):=λ y hy=>by
 have:=m.sb
 rw[fJ h0 h1]at this;have hy2:y∈(b.toList.take nb).reverse:=zBI.mpr hy;rw[fJ h0 h1]at hy2;rcases zAZ.mp hy2 with rfl|h
 .exact zC4 _
 .exact(zAm.mp this).1 y h
def aBi(B:Bb O kf G a b)(t:Th O kf T a b m0 st Q)(m:Mh O kf T a b out na nb)(h0:0<na)(h1:na<=a.size)(h2:1<nb)(h3:nb<=b.size)(h4:na+nb<=m0)(hl:∀y∈b.toList.take nb,O.kle (kf y) (kf (a[na-1]'(by lia)))):
  wpS (model prog w) A E s (hrA a b out na nb mg ac bc) Q st:=by
 have m2:=m.pa h0 h1 hl;unfold hrA;refine zAK (bU (zAJ (by lia)) ?_);by_cases c1:na-1=0
 .rw[if_pos (by simpa using c1)]
  refine zAR (t.ret _ _ _ _ _ _ _ _ (Eg.refl st) ?_);exact Mh.enA c1 m2
 .rw[if_neg (by simpa using c1)]
  have:=t.on _ _ _ mg ac bc _ (Eg.refl st) m2 (by lia) h2 (by lia) h3 (by lia)
  split
  .exact zAR this.1
  .exact zAR this.2
def aFf(B:Bb O kf G a b)(t:Th O kf T a b m0 st Q)(m:Mh O kf T a b out na nb)(h0:0<na)(h1:na<=a.size)(h2:1<nb)(h3:nb<=b.size)(h4:na+nb<=m0)(hj:j<=nb)
  (hl:∀y∈(b.toList.take nb).take j,O.klt (kf y) (kf (a[na-1]'(by lia))))(hr:∀y∈(b.toList.take nb).drop j,O.kle (kf (a[na-1]'(by lia))) (kf y)):wpS (model prog w) A E s (hrB a b out na nb mg ac j) Q st:=by
 unfold hrB;rw[zCT,zBY hj]at hl;by_cases c0:nb-j>0
 .rw[if_pos c0]
  have m2:Mh O kf T a b (out++(b.extract j nb).reverse) na j:=by
   have la:=m.la h0 h1;unfold Mh at m ⊢;rw[vD b.toList hj]at m;rw[zAM,aBv];exact m.tb λ x hx y hy=>zAo (la y (zBI.mp hy)) (hr x (zBI.mp hx))
  by_cases c1:j=1
  .rw[if_pos (by simpa using c1)]
   refine zAR (t.ret _ _ _ _ _ _ _ _ (Eg.refl st) ?_);exact Mh.enF B.b0 B.fb c1 m2
  .rw[if_neg (by simpa using c1)]
   by_cases c2:j=0
   .rw[if_pos (by simpa using c2)]
    refine zAR (t.ret _ _ _ _ _ _ _ _ (Eg.refl st) ?_);exact Mh.enB c2 m2
   .rw[if_neg (by simpa using c2)]
    exact aBi B t m2 h0 h1 (by lia) (by lia) (by lia) λ y hy=>zAc (hl y hy)
 .rw[if_neg c0]
  have:j=nb:=by lia
  subst this;exact aBi B t m h0 h1 h2 h3 h4 λ y hy=>zAc (hl y hy)
def yJ{a:Array Keyed}{n i:Nat}(h:i<n):a[0+i]? =(a.toList.take n)[i]?:=by
 rw[zAz h,zA5,zES]
def aFe(c:Cm prog w A s κ O kf G)(hκ:zB0 st=κ)(B:Bb O kf G a b)(t:Th O kf T a b m0 st Q)(m:Mh O kf T a b out na nb)(h0:0<na)(h1:na<=a.size)(h2:1<nb)(h3:nb<=b.size)(h4:na+nb<=m0):
  wpS (model prog w) A E s (hrC a b out na nb mg ac bc) Q st:=by
 unfold hrC;refine zAK (bU (zAJ (by lia)) ?_);refine zAK (gn c hκ (B.ga _ (by simp)) (b.toList.take nb) (λ i hi=>yJ hi) (by simp;lia) (λ x hx=>B.gb x (zBN hx)) (by have:=m.sb;rwa [zBr]at this) (by lia) λ k k1 k2 k3=>?_);simp only[if_true]at k2 k3;exact aFf B t m h0 h1 h2 h3 h4 k1 k2 k3
def aBh(c:Cm prog w A s κ O kf G)(hκ:zB0 st=κ)(B:Bb O kf G a b)(t:Th O kf T a b m0 st Q)(m:Mh O kf T a b out na nb)(h0:0<na)(h1:na<=a.size)(h2:1<nb)(h3:nb<=b.size)(h4:na+nb<=m0+1)(hl:∀y∈a.toList.take na,O.kle (kf y) (kf (b[nb-1]'(by lia)))):
  wpS (model prog w) A E s (hrD a b out na nb mg ac bc) Q st:=by
 have m2:=m.pb (by lia) h3 hl;unfold hrD;refine zAK (bU (zAJ (by lia)) ?_);by_cases c1:nb-1=1
 .rw[if_pos (by simpa using c1)]
  refine zAR (t.ret _ _ _ _ _ _ _ _ (Eg.refl st) ?_);exact Mh.enF B.b0 B.fb c1 m2
 .rw[if_neg (by simpa using c1)]
  exact aFe c hκ B t m2 h0 h1 (by lia) (by lia) (by lia)
def aFd(c:Cm prog w A s κ O kf G)(hκ:zB0 st=κ)(B:Bb O kf G a b)(t:Th O kf T a b m0 st Q)(m:Mh O kf T a b out na nb)(h0:0<na)(h1:na<=a.size)(h2:1<nb)(h3:nb<=b.size)(h4:na+nb<=m0+1)(hj:j<=na)
  (hl:∀y∈(a.toList.take na).take j,O.kle (kf y) (kf (b[nb-1]'(by lia))))(hr:∀y∈(a.toList.take na).drop j,O.klt (kf (b[nb-1]'(by lia))) (kf y)):wpS (model prog w) A E s (hrE a b out na nb mg j bc) Q st:=by
 unfold hrE;rw[zCT,zBY hj]at hl;by_cases c0:na-j>0
 .rw[if_pos c0]
  have m2:Mh O kf T a b (out++(a.extract j na).reverse) j nb:=by
   have lb:=m.lb (by lia) h3;unfold Mh at m ⊢;rw[vD a.toList hj]at m;rw[zAM,aBv];exact m.ta λ x hx y hy=>zAo (lb y (zBI.mp hy)) (zAc (hr x (zBI.mp hx)))
  by_cases c1:j=0
  .rw[if_pos (by simpa using c1)]
   refine zAR (t.ret _ _ _ _ _ _ _ _ (Eg.refl st) ?_);exact Mh.enA c1 m2
  .rw[if_neg (by simpa using c1)]
   exact aBh c hκ B t m2 (by lia) (by lia) h2 h3 (by lia) hl
 .rw[if_neg c0]
  have:j=na:=by lia
  subst this;exact aBh c hκ B t m h0 h1 h2 h3 h4 hl
def aBg(c:Cm prog w A s κ O kf G)(hκ:zB0 st=κ)(B:Bb O kf G a b)(t:Th O kf T a b m0 st Q)(m:Mh O kf T a b out na nb)(h0:0<na)(h1:na<=a.size)(h2:1<nb)(h3:nb<=b.size)(h4:na+nb<=m0+1):
  wpS (model prog w) A E s (hrF a b out na nb mg ac bc) Q st:=by
 unfold hrF;refine zAK (tL λ st1 e1=>?_);refine zAK (bU (zAJ (by lia)) ?_);refine zAK (gn c (e1.k.trans hκ) (B.gb _ (by simp)) (a.toList.take na) (λ i hi=>yJ hi) (by simp;lia) (λ x hx=>B.ga x (zBN hx)) (by have:=m.sa;rwa [zBr]at this) (by lia) λ k k1 k2 k3=>?_);simp only[zCE,if_false]at k2 k3;exact aFd c (e1.k.trans hκ) B (t.eg e1) m h0 h1 h2 h3 h4 k1 k2 k3
end
def aGe:Array Keyed->Array Keyed->StateT SortSt Sem (Array Keyed):=sortPriv%PySem.Builtin.mergeHi
section
variable{prog:zAS}{w:World}{A:zA8}{E:Value->zAB->Prop}{s:zAB}{κ:zCb}{O:zBn}{kf:Keyed->O.α}{G:Keyed->Prop}{T:List Keyed}{a b:Array Keyed}{st:zAp}{Q:Array Keyed->zAp->Prop}
def aCT(c:Cm prog w A s κ O kf G)(hκ:zB0 st=κ)(B:Bb O kf G a b)(hT:(a.toList++b.toList).Perm T)(sa:a.toList.Pairwise (rK O kf))(sb:b.toList.Pairwise (rK O kf))(ha:0<a.size)(hl:∀y∈b.toList,O.kle (kf y) (kf (a[a.size-1]'(by lia))))
  (h:∀o st',Eg st st'->Mf (rK O kf) T o.toList->Q o st'):wpS (model prog w) A E s (aGe a b) Q st:=by
 refine zAK (zE0 (zCz ⟨rfl,?_⟩));refine zAK (bU (zAJ (by lia)) ?_);have hb:=B.b0;have m1:Mh O kf T a b #[a[a.size-1]'(by lia)] (a.size-1) b.size:=by
  have ea:a.toList.take a.size=a.toList:=zAe (by simp);have eb:b.toList.take b.size=b.toList:=zAe (by simp);have m0:Mh O kf T a b #[] a.size b.size:=by
   unfold Mh;rw[ea,eb];exact⟨((zDR _).append (zDR _)).trans hT,.nil,λ x hx=>by simp at hx,zBr.mpr sa,zBr.mpr sb⟩
  exact Mh.pa m0 ha (zAP _) λ y hy=>hl y (zBN hy)
 dsimp only;by_cases c1:a.size-1=0
 .rw[if_pos (by simpa using c1)]
  exact zAR (h _ _ (Eg.refl st) (Mh.enA c1 m1))
 rw[if_neg (by simpa using c1)];by_cases c2:b.size=1
 .rw[if_pos (by simpa using c2)]
  exact zAR (h _ _ (Eg.refl st) (Mh.enF B.b0 B.fb c2 m1))
 rw[if_neg (by simpa using c2)];refine zAK (zDY ?_);refine zAK (zC0 (zBJ (I:=λ x c st'=>Eg st st'/\∃na nb out mg,c=(none,na,nb,out,mg)/\Mh O kf T a b out na nb/\0<na/\1<nb/\na<=a.size/\nb<=b.size/\x+na+nb<a.size+b.size)
  (Q:=λ c st'=>Eg st st'/\∃o,c.1=some o/\Mf (rK O kf) T o.toList) ?_ ?_ ⟨Eg.refl st,_,_,_,_,rfl,m1,by lia,by lia,by lia,by lia,by lia⟩) ?_)
 .rintro x ⟨_,_⟩ st1 _ hx ⟨e1,na,nb,out,mg,hc,m,h0,h2,h1,h3,h4⟩
  cases hc;dsimp only;refine zAK (zC0 (zBJ (I:=λ _ c st'=>Eg st st'/\∃na nb out ac bc,c=(none,na,nb,out,ac,bc)/\Mh O kf T a b out na nb/\0<na/\1<nb/\na<=a.size/\nb<=b.size/\x+na+nb<a.size+b.size)
   (Q:=λ c st'=>Eg st st'/\((∃o,c.1=some o/\Mf (rK O kf) T o.toList)\/∃na nb out ac bc,c=(none,na,nb,out,ac,bc)/\Mh O kf T a b out na nb/\0<na/\1<nb/\na<=a.size/\nb<=b.size/\x+na+nb<a.size+b.size)) ?_ (λ c st' ⟨e,z⟩=>⟨e,.inr z⟩) ⟨e1,_,_,_,_,_,rfl,m,h0,h2,h1,h3,h4⟩) ?_)
  .rintro y ⟨_,_⟩ st2 _ hy ⟨e2,na,nb,out,ac,bc,hc,m,h0,h2,h1,h3,h4⟩
   cases hc;dsimp only;refine zAK (bU (zAJ (by lia)) ?_);refine zAK (bU (zAJ (by lia)) ?_);refine zAK (lQ c (e2.k.trans hκ) (B.gb _ (by simp)) (B.ga _ (by simp)) ?_);dsimp only;cases hlt:O.blt (kf (b[nb-1]'(by lia))) (kf (a[na-1]'(by lia)))with
   |true=>
    rw[if_pos rfl];refine zAK (bU (zAJ (by lia)) ?_);have m2:=Mh.pa m h0 h1 λ y hy=>zAo (Mh.lb m (by lia) h3 y hy) (zAc hlt)
    by_cases c3:na-1=0
    .rw[if_pos (by simpa using c3)]
     exact zAR ⟨e2,.inl ⟨_,rfl,Mh.enA c3 m2⟩⟩
    .rw[if_neg (by simpa using c3)]
     split
     .exact zAR ⟨e2,.inr ⟨_,_,_,_,_,rfl,m2,by lia,h2,by lia,h3,by lia⟩⟩
     .exact zAR ⟨e2,_,_,_,_,_,rfl,m2,by lia,h2,by lia,h3,by lia⟩
   |false=>
    rw[if_neg zAI];refine zAK (bU (zAJ (by lia)) ?_);have m2:=Mh.pb m (by lia) h3 λ y hy=>zAo (Mh.la m h0 h1 y hy) hlt
    by_cases c3:nb-1=1
    .rw[if_pos (by simpa using c3)]
     exact zAR ⟨e2,.inl ⟨_,rfl,Mh.enF B.b0 B.fb c3 m2⟩⟩
    .rw[if_neg (by simpa using c3)]
     split
     .exact zAR ⟨e2,.inr ⟨_,_,_,_,_,rfl,m2,h0,by lia,h1,by lia,by lia⟩⟩
     .exact zAR ⟨e2,_,_,_,_,_,rfl,m2,h0,by lia,h1,by lia,by lia⟩
  .rintro⟨r1,c1⟩ st2 ⟨e2,⟨o,ho,hm⟩|⟨na,nb,out,ac,bc,hc,m,h0,h2,h1,h3,h4⟩⟩
   .cases ho
    exact zAR ⟨e2,o,rfl,hm⟩
   .cases hc
    dsimp only;refine zAK (zE0 (zCz ⟨rfl,?_⟩));refine zAK (zC0 (zBJ (I:=λ z c st'=>Eg st st'/\∃na nb out mg ac bc,c=(none,na,nb,out,mg,ac,bc)/\Mh O kf T a b out na nb/\0<na/\1<nb/\na<=a.size/\nb<=b.size/\x+min z 1+na+nb<a.size+b.size)
     (Q:=λ c st'=>Eg st st'/\((∃o,c.1=some o/\Mf (rK O kf) T o.toList)\/∃na nb out mg ac bc,c=(none,na,nb,out,mg,ac,bc)/\Mh O kf T a b out na nb/\0<na/\1<nb/\na<=a.size/\nb<=b.size/\x+1+na+nb<a.size+b.size)) ?_ ?_ ⟨e2,_,_,_,_,_,_,rfl,m,h0,h2,h1,h3,by lia⟩) ?_)
    .rintro z ⟨_,_⟩ st3 _ hz ⟨e3,na,nb,out,mg,ac,bc,hc,m,h0,h2,h1,h3,h4⟩
     cases hc;dsimp only;by_cases c5:mg>1
     .rw[if_pos c5]
      refine aBg (m0:=a.size+b.size-x-1) (mg:=mg-1) (ac:=ac) (bc:=bc) c (e3.k.trans hκ) B ?_ m h0 h1 h2 h3 (by lia);exact⟨λ o na nb out mg ac bc st' e hm=>⟨e3.trans e,.inl ⟨o,rfl,hm⟩⟩,λ na nb out mg ac bc st' e m h0 h2 h1 h3 h4=>⟨⟨e3.trans e,.inr ⟨_,_,_,_,_,_,rfl,m,h0,h2,h1,h3,by lia⟩⟩,e3.trans e,_,_,_,_,_,_,rfl,m,h0,h2,h1,h3,by lia⟩⟩
     .rw[if_neg c5]
      refine aBg (m0:=a.size+b.size-x-1) (mg:=mg) (ac:=ac) (bc:=bc) c (e3.k.trans hκ) B ?_ m h0 h1 h2 h3 (by lia);exact⟨λ o na nb out mg ac bc st' e hm=>⟨e3.trans e,.inl ⟨o,rfl,hm⟩⟩,λ na nb out mg ac bc st' e m h0 h2 h1 h3 h4=>⟨⟨e3.trans e,.inr ⟨_,_,_,_,_,_,rfl,m,h0,h2,h1,h3,by lia⟩⟩,e3.trans e,_,_,_,_,_,_,rfl,m,h0,h2,h1,h3,by lia⟩⟩
    .rintro c st' ⟨e,na,nb,out,mg,ac,bc,hc,m,h0,h2,h1,h3,h4⟩
     exact⟨e,.inr ⟨_,_,_,_,_,_,hc,m,h0,h2,h1,h3,by lia⟩⟩
    .rintro⟨r1,c1⟩ st3 ⟨e3,⟨o,ho,hm⟩|⟨na,nb,out,mg,ac,bc,hc,m,h0,h2,h1,h3,h4⟩⟩
     .cases ho
      exact zAR ⟨e3,o,rfl,hm⟩
     .cases hc
      dsimp only;refine zAK (tL λ st4 e4=>?_);exact zAR ⟨e3.trans e4,_,_,_,_,rfl,m,h0,h2,h1,h3,h4⟩
 .rintro c st' ⟨e,na,nb,out,mg,hc,m,h0,h2,h1,h3,h4⟩
  lia
 .rintro⟨r1,c1⟩ st' ⟨e,o,ho,hm⟩
  cases ho;exact zAR (h o st' e hm)
end
def jk(P R:List Keyed){n k:Nat}(h:P.length=n):(P++R).drop (n+k)=R.drop k:=by
 subst h;rw[<-zCj,zGS]
def xg(P R:List Keyed){n i:Nat}(h:P.length=n):(P++R)[n+i]? =R[i]?:=by
 subst h;rw[zBK (zET _ _),zAw]
theorem aB4:∀(l:List Keyed) (o d:Nat) (acc:Array Keyed),o+d+l.length<=acc.size->
  ((l.zipIdx d).foldl (λ a x=>a.setIfInBounds (o+x.2) x.1) acc).toList=acc.toList.take (o+d)++l++acc.toList.drop (o+d+l.length)
 |[],o,d,acc,_=>by simp
 |x::l,o,d,acc,h=>by
  rw[zAq]at h;rw[List.zipIdx_cons,zGJ,aB4 l o (d+1) _ (by simp;lia)];have hd:o+d<acc.toList.length:=by simp;lia
  have e1:(acc.setIfInBounds (o+d) x).toList=acc.toList.set (o+d) x:=zE1 ..;rw[e1];have e2:(acc.toList.set (o+d) x).take (o+(d+1))=acc.toList.take (o+d)++[x]:=by
   rw[<-zCP,zCc (by rw[zBk];exact hd),List.getElem_set_self];congr 1;rw[List.take_set_of_le (zAP _)]
  have e3:(acc.toList.set (o+d) x).drop (o+(d+1)+l.length)=acc.toList.drop (o+d+(l.length+1)):=by
   rw[List.drop_set_of_lt (by lia)];congr 1;lia
  rw[e2,e3,zAq];simp
section
variable{prog:zAS}{w:World}{A:zA8}{E:Value->zAB->Prop}{s:zAB}{κ:zCb}{O:zBn}{kf:Keyed->O.α}{G:Keyed->Prop}
def aBz{X Y M:List Keyed}{k n:Nat}(sX:X.Pairwise (rK O kf))(sY:Y.Pairwise (rK O kf))(hm:M.Perm (X.drop k++Y.take n))(sM:M.Pairwise (rK O kf))(h1:∀x∈X.take k,∀y∈Y,rK O kf x y)(h2:∀x∈X,∀y∈Y.drop n,rK O kf x y):
  (X.take k++M++Y.drop n).Perm (X++Y)/\(X.take k++M++Y.drop n).Pairwise (rK O kf):=by
 constructor
 .have e:X++Y=X.take k++(X.drop k++Y.take n)++Y.drop n:=by
   have e1:=zA6 k X;have e2:=zA6 n Y
   calc X++Y=(X.take k++X.drop k)++(Y.take n++Y.drop n):=by rw[e1,e2]
    _=_:=by simp only[zA2]
  rw[e];exact(hm.append_left _).append_right _
 .have sX2:=sX
  rw[<-zA6 k X]at sX2;have sY2:=sY;rw[<-zA6 n Y]at sY2;obtain⟨x1,x2,x3⟩:=zAu.mp sX2;obtain⟨y1,y2,y3⟩:=zAu.mp sY2;refine zAu.mpr ⟨zAu.mpr ⟨x1,sM,λ x hx y hy=>?_⟩,y2,λ x hx y hy=>?_⟩
  .rcases zAs.mp (hm.mem_iff.mp hy)with h|h
   .exact x3 x hx y h
   .exact h1 x hx y (zBN h)
  .rcases zAs.mp hx with h|h
   .exact h2 x (zBN h) y hy
   .rcases zAs.mp (hm.mem_iff.mp h)with h|h
    .exact h2 x (zBH h) y hy
    .exact y3 x h y hy
def vz{Y:List Keyed}(sY:Y.Pairwise (rK O kf)){y0:Keyed}(h:Y[0]? =some y0):∀y∈Y,rK O kf y0 y:=λ y hy=>by
 cases Y with
 |nil=>cases hy
 |cons z Y=>
  have:z=y0:=by simpa using h
  subst this;rcases zAZ.mp hy with rfl|hy
  .exact zC4 _
  .exact(zAm.mp sY).1 y hy
def yp{X:List Keyed}(sX:X.Pairwise (rK O kf)){z:Keyed}{n:Nat}(hn:n+1=X.length)(h:X[n]? =some z):∀x∈X,rK O kf x z:=λ x hx=>by
 obtain⟨i,hi,e⟩:=zBj hx;have hz:X[n]'(by lia)=z:=by
  rw[zAL (by lia)]at h;exact zAf h
 by_cases c:i=n
 .subst c
  rw[<-e,hz];exact zC4 _
 .rw[<-e,<-hz]
  exact zB7.mp sX i n hi (by lia) (by lia)
def aCU{st:zAp}{Q:Bool->zAp->Prop}{i sa na p sb nb p2:Nat}{P X Y Z:List Keyed}(c:Cm prog w A s κ O kf G)(hκ:zB0 st=κ)(hf:zBw st=none)(h1:(zAl st)[i]? =some (sa,na,p))(h2:(zAl st)[i+1]? =some (sb,nb,p2))
  (hL:(arrOf st).toList=P++(X++(Y++Z)))(lP:P.length=sa)(lX:X.length=na)(lY:Y.length=nb)(hsb:sb=sa+na)(n0:0<na)(n1:0<nb)(gG:∀x∈(arrOf st).toList,G x)(sX:X.Pairwise (rK O kf))(sY:Y.Pairwise (rK O kf))
  (h:∀M st',zB0 st'=κ->zBw st'=none->zAl st'=((zAl st).setIfInBounds i (sa,na+nb,p)).eraseIdxIfInBounds (i+1)->(arrOf st').toList=P++(M++Z)->M.Perm (X++Y)->M.Pairwise (rK O kf)->Q true st'):
  wpS (model prog w) A E s (mergeAt' i) Q st:=by
 have hL2:(arrOf st).toList=(P++X)++(Y++Z):=by rw[hL,zA2]
 have lPX:(P++X).length=sb:=by rw[zAC,lP,lX,hsb]
 have gX:∀x∈X,G x:=λ x hx=>gG x (by rw[hL];simp[hx])
 have gY:∀x∈Y,G x:=λ x hx=>gG x (by rw[hL];simp[hx])
 have atX:∀j,j<na->(arrOf st)[sa+j]? =X[j]?:=λ j hj=>by
  rw[<-zA5,hL,xg P _ lP,zAx (by lia)]
 have atY:∀j,j<nb->(arrOf st)[sb+j]? =Y[j]?:=λ j hj=>by
  rw[<-zA5,hL2,xg (P++X) _ lPX,zAx (by lia)]
 have hsz:sb+nb<=(arrOf st).size:=by
  have:=congrArg zE4 hL2
  rw[zA9,zAC,lPX,zAC]at this;lia
 obtain⟨y0,hy0⟩:∃y,Y[0]? =some y:=⟨Y[0]'(by lia),zAL _⟩
 obtain⟨xl,hxl⟩:∃x,X[na-1]? =some x:=⟨X[na-1]'(by lia),zAL _⟩
 have fY:=vz sY hy0;have fX:=yp sX (by lia) hxl;refine zAK (zDY ?_);rw[h1,h2];dsimp only;refine zAK (zCZ (f:=λ _=>zFa (zB0 st) (arrOf st) (((zAl st).setIfInBounds i (sa,na+nb,p)).eraseIdxIfInBounds (i+1)) (gallopOf st) (zBw st)) ?_);obtain⟨st1,hst1⟩:∃st1,st1=zFa (zB0 st) (arrOf st) (((zAl st).setIfInBounds i (sa,na+nb,p)).eraseIdxIfInBounds (i+1)) (gallopOf st) (zBw st):=⟨_,rfl⟩
 have k1:zB0 st1=κ:=by rw[hst1];exact hκ
 have a1:arrOf st1=arrOf st:=by rw[hst1]
 have p1:zAl st1=((zAl st).setIfInBounds i (sa,na+nb,p)).eraseIdxIfInBounds (i+1):=by rw[hst1]
 have f1:zBw st1=none:=by rw[hst1];exact hf
 rw[<-hst1];refine zAK (bU (x:=y0) (by have:=atY 0 n1;rw[zEO]at this;rw[this,hy0]) ?_);refine zAK (gn c k1 (gY y0 (zBM hy0)) X (λ j hj=>atX j hj) lX.symm gX sX n0 λ k q1 q2 q3=>?_);simp only[zCE,if_false]at q2 q3;dsimp only;have hA:∀x∈X.take k,∀y∈Y,rK O kf x y:=λ x hx y hy=>zAo (q2 x hx) (fY y hy)
 by_cases c1:na-k=0
 .rw[if_pos (by simpa using c1)]
  have ek:X.take k=X:=zAe (by lia);rw[ek]at hA;exact zAR (h (X++Y) st1 k1 f1 p1 (by rw[a1,hL,zA2]) (zBB _) (zAu.mpr ⟨sX,sY,hA⟩))
 rw[if_neg (by simpa using c1)];have hix:sa+k+(na-k)-1=sa+(na-1):=by lia
 rw[hix];refine zAK (bU (x:=xl) (by rw[atX (na-1) (by lia),hxl]) ?_);refine zAK (gn c k1 (gX xl (zBM hxl)) Y (λ j hj=>atY j hj) lY.symm gY sY (by lia) λ n' r1 r2 r3=>?_);simp only[if_true]at r2 r3;dsimp only;have hB:∀x∈X,∀y∈Y.drop n',rK O kf x y:=λ x hx y hy=>zAo (fX x hx) (r3 y hy)
 by_cases c2:n'=0
 .rw[if_pos (by simpa using c2)]
  subst c2;rw[zBf]at hB;exact zAR (h (X++Y) st1 k1 f1 p1 (by rw[a1,hL,zA2]) (zBB _) (zAu.mpr ⟨sX,sY,hB⟩))
 rw[if_neg (by simpa using c2)];have eX:((arrOf st).extract (sa+k) sb).toList=X.drop k:=by
  rw[ig,hL,jk P _ lP,zEM (by lia),zCx (by rw[zAv];lia)];exact zAe (by rw[zAv];lia)
 have eY:((arrOf st).extract sb (sb+n')).toList=Y.take n':=by
  have:(arrOf st).toList.drop sb=Y++Z:=by rw[hL2,<-lPX,zGS]
  rw[ig,this,zAw,zCx (by lia)]
 have sXk:(X.drop k).Pairwise (rK O kf):=sX.sublist (List.drop_sublist _ _);have sYn:(Y.take n').Pairwise (rK O kf):=sY.sublist (zFr _ _);obtain⟨u,hu⟩:∃u,u=(arrOf st).extract (sa+k) sb:=⟨_,rfl⟩
 obtain⟨v,hv⟩:∃v,v=(arrOf st).extract sb (sb+n'):=⟨_,rfl⟩
 rw[<-hu]at eX;rw[<-hv]at eY;have lu:u.size=na-k:=by rw[<-zA9,eX,zAv,lX]
 have lv:v.size=n':=by rw[<-zA9,eY,zAV];lia
 have v0:v[0]'(by lia)=y0:=by
  have:v.toList[0]? =some y0:=by rw[eY,zAz (by lia),hy0]
  rw[zA5,zAJ (by lia)]at this;exact zAf this
 have ul:u[u.size-1]'(by lia)=xl:=by
  have:u.toList[u.size-1]? =some xl:=by
   rw[eX,zBp]
   have:k+(u.size-1)=na-1:=by lia
   rw[this,hxl]
  rw[zA5,zAJ (by lia)]at this;exact zAf this
 have fin:∀(o:Array Keyed) (st2:zAp),Eg st1 st2->Mf (rK O kf) (u.toList++v.toList) o.toList->
   wpS (model prog w) A E s (modify (λ s2:zAp=>zFa (zB0 s2) (zD9 (λ a x=>a.setIfInBounds (sa+k+x.2) x.1) (arrOf s2) o.toList.zipIdx) (zAl s2) (gallopOf s2) (zBw s2))>>=λ _=>get>>=λ s3=>pure (zBw s3).isNone) Q st2:=λ o st2 e2 hm=>by
  refine zAK (zCZ (zAK (zDY (zAR ?_))));have hf2:zBw st2=none:=e2.f.trans f1;show Q (zBw st2).isNone _;rw[hf2];rw[eX,eY]at hm;obtain⟨j1,j2⟩:=aBz sX sY hm.1 hm.2 hA hB;refine h (X.take k++o.toList++Y.drop n') _ (e2.k.trans k1) (by first|exact hf2|rfl) (e2.p.trans p1) ?_ j1 j2
  show(zD9 (λ a x=>a.setIfInBounds (sa+k+x.2) x.1) (arrOf st2) o.toList.zipIdx).toList=_
  have lo:o.toList.length=(na-k)+n':=by rw[hm.1.length_eq,zAC,zAv,zAV];lia
  rw[e2.a,a1,aB4 o.toList (sa+k) 0 (arrOf st) (by rw[lo];lia),zEO];have t1:(arrOf st).toList.take (sa+k)=P++X.take k:=by
   rw[hL,<-lP,zCw,zAe (by lia),zAw,zCx (by lia)]
  have t2:(arrOf st).toList.drop (sa+k+o.toList.length)=Y.drop n'++Z:=by
   have:sa+k+o.toList.length=sb+n':=by rw[lo];lia
   rw[this,hL2,jk (P++X) _ lPX,zEM (by lia)]
  rw[t1,t2];simp
 have gu:∀x∈u.toList,G x:=λ x hx=>by rw[eX]at hx;exact gX x (zBH hx)
 have gv:∀x∈v.toList,G x:=λ x hx=>by rw[eY]at hx;exact gY x (zBN hx)
 have hlt0:∀x∈u.toList,O.klt (kf y0) (kf x):=λ x hx=>by rw[eX]at hx;exact q3 x hx
 have hltl:∀y∈v.toList,O.klt (kf y) (kf xl):=λ y hy=>by rw[eY]at hy;exact r2 y hy
 by_cases c3:na-k<=n'
 .rw[if_pos c3]
  refine zAK ?_;show wpS _ _ _ _ (aGd ((arrOf st).extract (sa+k) sb) ((arrOf st).extract sb (sb+n'))) _ _;rw[<-hu,<-hv];refine aCS (T:=u.toList++v.toList) c k1 ⟨gu,gv,λ j hj y hy=>?_⟩ (zBB _) (by rw[eX];exact sXk) (by rw[eY];exact sYn) (by lia) (by lia) ?_ λ o st2 e2 hm=>fin o st2 e2 hm
  .have:u[j]'(by lia)=xl:=by
    have e:j=u.size-1:=by lia
    subst e;exact ul
   rw[this];exact hltl y hy
  .rw[v0]
   exact hlt0 _ (by simp)
 .rw[if_neg c3]
  refine zAK ?_;show wpS _ _ _ _ (aGe ((arrOf st).extract (sa+k) sb) ((arrOf st).extract sb (sb+n'))) _ _;rw[<-hu,<-hv];refine aCT (T:=u.toList++v.toList) c k1 ⟨gu,gv,by lia,λ x hx=>?_⟩ (zBB _) (by rw[eX];exact sXk) (by rw[eY];exact sYn) (by lia) (λ y hy=>?_) λ o st2 e2 hm=>fin o st2 e2 hm
  .rw[v0]
   exact zAc (hlt0 x hx)
  .rw[ul]
   exact zAc (hltl y hy)
end
def aBW(xs:Array Keyed){i j:Nat}(hij:i<=j)(hj:j<=xs.size):(mirror xs i j ((j-i) / 2)).toList=xs.toList.take i++(((xs.toList.take j).drop i).reverse++xs.toList.drop j):=by
 refine zFq λ k=>?_
 rw[zA5,getElem?_mirror_all hj];have l1:(xs.toList.take i).length=i:=by rw[zAV,zA9];lia
 have l2:((xs.toList.take j).drop i).length=j-i:=by rw[zAv,zAV,zA9];lia
 by_cases c1:k<i
 .rw[if_neg (by lia),zAx (by lia),zAz c1,zA5]
 .rw[zBK (by lia),l1]
  by_cases c2:k<j
  .rw[if_pos (by lia),zAx (by rw[zC2];lia),List.getElem?_reverse (by lia),l2,zBp,zAz (by lia),zA5]
   congr 1;lia
  .rw[if_neg (by lia),zBK (by rw[zC2];lia),zC2,l2,zBp,zA5]
   congr 1;lia
def lr{β:Type}{r:β->β->Prop}(tr:∀a b c,r a b->r b c->r a c){l:List β}{n:Nat}(h0:0<n)(hn:n<l.length)(h:(l.take n).Pairwise r)(hz:r (l[n-1]'(by lia)) l[n]):(l.take (n+1)).Pairwise r:=by
 rw[zCc hn];refine zAu.mpr ⟨h,zC9 _ _,λ x hx y hy=>?_⟩;rw[zBO.mp hy];obtain⟨i,hi,e⟩:=zBj hx;have hi2:i<n:=by rw[zAV]at hi;lia
 by_cases c:i=n-1
 .rw[zBS]at e
  subst c;rw[<-e];exact hz
 .have:=zB7.mp h i (n-1) hi (by rw[zAV];lia) (by lia)
  rw[e,zBS]at this;exact tr _ _ _ this hz
structure Ea(st st':zAp):Prop where
 k:zB0 st'=zB0 st
 p:zAl st'=zAl st
 f:zBw st'=zBw st
def Ea.refl(st:zAp):Ea st st:=⟨rfl,rfl,rfl⟩
theorem Ea.trans{st st' st'':zAp}(h:Ea st st')(k:Ea st' st''):Ea st st'':=⟨k.k.trans h.k,k.p.trans h.p,k.f.trans h.f⟩
abbrev AcS:=Option (Option Nat)×Nat
abbrev DeS:=Option (Option Nat)×Nat×Nat
def acP(lo a nrem:Nat):StateT zAp Sem AcS:=forIn [a:nrem] ((none,a):AcS) λ _ c=>ltAt' (lo+c.2) (lo+c.2-1)>>=λ x=>match x with
 |some b=>if b=true then pure (.done (none,c.2))else pure (.yield (none,c.2+1))
 |_=>pure (.done (some none,c.2))
def dsP(lo n nrem:Nat):StateT zAp Sem DeS:=forIn [n:nrem] ((none,n,0):DeS) λ _ c=>ltAt' (lo+c.2.1) (lo+c.2.1-1)>>=λ x=>match x with
 |some b=>if b=true then(if c.2.2>0 then zCn (lo+c.2.1-(c.2.2+1)) (lo+c.2.1)>>=λ _=>pure (.yield (none,c.2.1+1,0))else pure (.yield (none,c.2.1+1,0)))
  else ltAt' (lo+c.2.1-1) (lo+c.2.1)>>=λ y=>match y with
   |some d=>if d=true then pure (.done (none,c.2.1,c.2.2))else pure (.yield (none,c.2.1+1,c.2.2+1))
   |_=>pure (.done (some none,c.2.1,c.2.2))
 |_=>pure (.done (some none,c.2.1,c.2.2))
section
variable{prog:zAS}{w:World}{A:zA8}{E:Value->zAB->Prop}{s:zAB}{κ:zCb}{O:zBn}{kf:Keyed->O.α}{G:Keyed->Prop}{st:zAp}{P R:List Keyed}{lo:Nat}
structure Sg(κ:zCb)(G:Keyed->Prop)(st:zAp)(lo:Nat)(P R:List Keyed):Prop where
 k:zB0 st=κ
 l:(arrOf st).toList=P++R
 p:P.length=lo
 g:∀x∈R,G x
def Sg.at(S:Sg κ G st lo P R)(i:Nat):(arrOf st)[lo+i]? =R[i]?:=by rw[<-zA5,S.l,xg P R S.p]
def lO{i j:Nat}{Q:Option Bool->zAp->Prop}(c:Cm prog w A s κ O kf G)(S:Sg κ G st lo P R)(hi:i<R.length)(hj:j<R.length)(h:Q (some (O.blt (kf R[i]) (kf R[j]))) st):wpS (model prog w) A E s (ltAt' (lo+i) (lo+j)) Q st:=by
 rw[ltAt'_eq];refine zAK (zDY ?_);show wpS _ _ _ _ (do let x <-elem' (arrOf st) (lo+i);let y <-elem' (arrOf st) (lo+j);lt' x y) Q st;refine zAK (bU (x:=R[i]) (by rw[S.at,zAL hi]) ?_);refine zAK (bU (x:=R[j]) (by rw[S.at,zAL hj]) ?_);exact lQ c S.k (S.g _ (zCW _)) (S.g _ (zCW _)) h
def yF{i j:Nat}{Q:Unit->zAp->Prop}(S:Sg κ G st lo P R)(hij:i<=j)(hj:j<=R.length)(h:∀st',Ea st st'->Sg κ G st' lo P (R.take i++(((R.take j).drop i).reverse++R.drop j))->Q () st'):wpS (model prog w) A E s (zCn (lo+i) (lo+j)) Q st:=by
 rw[reverseSlice'_eq];refine zCZ (h _ ⟨rfl,rfl,rfl⟩ ⟨S.k,?_,S.p,λ x hx=>?_⟩)
 .show(mirror (arrOf st) (lo+i) (lo+j) ((lo+j-(lo+i)) / 2)).toList=_
  have hsz:(arrOf st).size=lo+R.length:=by rw[<-zA9,S.l,zAC,S.p]
  rw[aBW _ (by lia) (by lia),S.l];have e1:(P++R).take (lo+i)=P++R.take i:=by rw[<-S.p,zCw,zAe (by lia),zAw]
  have e2:(P++R).take (lo+j)=P++R.take j:=by rw[<-S.p,zCw,zAe (by lia),zAw]
  rw[e1,e2,jk P _ S.p,jk P _ S.p,zA2]
 .rcases zAs.mp hx with h|h
  .exact S.g x (zBN h)
  .rcases zAs.mp h with h|h
   .exact S.g x (zBN (zBH (zBI.mp h)))
   .exact S.g x (zBH h)
def aAO{i j i' j':Nat}{Q:Option Bool->zAp->Prop}(c:Cm prog w A s κ O kf G)(S:Sg κ G st lo P R)(ei:i'=lo+i)(ej:j'=lo+j)(hi:i<R.length)(hj:j<R.length)(h:Q (some (O.blt (kf R[i]) (kf R[j]))) st):wpS (model prog w) A E s (ltAt' i' j') Q st:=by
 subst ei ej;exact lO c S hi hj h
def pG{i j i' j':Nat}{Q:Unit->zAp->Prop}(S:Sg κ G st lo P R)(ei:i'=lo+i)(ej:j'=lo+j)(hij:i<=j)(hj:j<=R.length)(h:∀st',Ea st st'->Sg κ G st' lo P (R.take i++(((R.take j).drop i).reverse++R.drop j))->Q () st'):wpS (model prog w) A E s (zCn i' j') Q st:=by
 subst ei ej;exact yF S hij hj h
def mH(R:List Keyed){i j:Nat}(hij:i<=j):(R.take i++(((R.take j).drop i).reverse++R.drop j)).Perm R:=by
 have e:R=R.take i++((R.take j).drop i++R.drop j):=by
  have e1:=zA6 j R;have e2:=zA6 i (R.take j);rw[zCT,zBY hij]at e2
  calc R=R.take j++R.drop j:=e1.symm
   _=(R.take i++(R.take j).drop i)++R.drop j:=by rw[e2]
   _=_:=zA2 _ _ _
 conv=>rhs;rw[e]
 exact((zDR _).append_right _).append_left _
def qJ(R:List Keyed){i j:Nat}{q:O.α}(hij:i<=j)(hq:∀x∈(R.take j).drop i,kf x=q):(R.take i++(((R.take j).drop i).reverse++R.drop j)).map kf=R.map kf:=by
 have e:R=R.take i++((R.take j).drop i++R.drop j):=by
  have e1:=zA6 j R;have e2:=zA6 i (R.take j);rw[zCT,zBY hij]at e2
  calc R=R.take j++R.drop j:=e1.symm
   _=(R.take i++(R.take j).drop i)++R.drop j:=by rw[e2]
   _=_:=zA2 _ _ _
 have e3:((R.take j).drop i).map kf=zAT ((R.take j).drop i).length q:=List.eq_replicate_iff.mpr ⟨zAH _,λ b hb=>by obtain⟨x,hx,rfl⟩:=zC3.mp hb;exact hq x hx⟩
 conv=>rhs;rw[e]
 simp only[zBV,List.map_reverse,e3,List.reverse_replicate]
def aAR{a:Nat}{Q:AcS->zAp->Prop}(c:Cm prog w A s κ O kf G)(S:Sg κ G st lo P R)(a0:0<a)(ha:a<=R.length)(hs:(R.take a).Pairwise (rK O kf))
  (h:∀n (h0:0<n),n<=R.length->(R.take n).Pairwise (rK O kf)->(n=R.length\/∃hn:n<R.length,O.klt (kf R[n]) (kf (R[n-1]'(by lia))))->Q (none,n) st){N:Nat}(hN:N=R.length):wpS (model prog w) A E s (acP lo a N) Q st:=by
 subst hN;unfold acP;refine zBJ (I:=λ x c st'=>st'=st/\c=(none,x)/\0<x/\(R.take x).Pairwise (rK O kf)) ?_ ?_ ⟨rfl,rfl,a0,hs⟩
 .rintro x c1 st' hax hx ⟨rfl,rfl,x0,g⟩
  dsimp only;rw[zFz (by lia)];refine zAK (lO c S hx (by lia) ?_);dsimp only;cases hb:O.blt (kf R[x]) (kf (R[x-1]'(by lia)))with
  |true=>rw[if_pos rfl];exact zAR (h x x0 (by lia) g (.inr ⟨hx,hb⟩))
  |false=>
   rw[if_neg zAI];exact zAR ⟨rfl,rfl,by lia,lr (r:=rK O kf) (λ _ _ _ h k=>zAo h k) x0 hx g hb⟩
 .rintro c1 st' ⟨rfl,rfl,x0,g⟩
  have:max a R.length=R.length:=by lia
  rw[this]at g x0 ⊢;exact h R.length x0 (zAP _) g (.inl rfl)
def Cn0(O:zBn)(kf:Keyed->O.α)(κ:zCb)(G:Keyed->Prop)(st:zAp)(lo:Nat)(P R:List Keyed)(Q:Option Nat->zAp->Prop):Prop:=∀m R' st',Ea st st'->Sg κ G st' lo P R'->R'.Perm R->0<m->m<=R.length->(R'.take m).Pairwise (rK O kf)->Q (some m) st'
def aAM{n N:Nat}{R1:List Keyed}{st1:zAp}{Q:Option Nat->zAp->Prop}{F:AcS->StateT zAp Sem (Option Nat)}(c:Cm prog w A s κ O kf G)(e1:Ea st st1)(S:Sg κ G st1 lo P R1)(hp:R1.Perm R)(n0:0<n)(hn:n<=R1.length)(hs:(R1.take n).Pairwise (rH O kf))(h:Cn0 O kf κ G st lo P R Q)(hN:N=R1.length)(hF:∀m,F (none,m)=pure (some m)):
  wpS (model prog w) A E s (zCn lo (lo+n)>>=λ _=>acP lo n N>>=F) Q st1:=by
 refine zAK (pG (i:=0) (j:=n) S rfl rfl (zAn _) hn λ st2 e2 S2=>?_);rw[zCk,zBx,zBf]at S2;have hl:((R1.take n).reverse++R1.drop n).length=R1.length:=by rw[zAC,zC2,zAV,zAv];lia
 have ht:((R1.take n).reverse++R1.drop n).take n=(R1.take n).reverse:=zGL (by rw[zC2,zAV];lia);have hp2:((R1.take n).reverse++R1.drop n).Perm R1:=by
  have:=mH R1 (i:=0) (j:=n) (zAn _)
  rwa [zCk,zBx,zBf]at this
 refine zAK (aAR c S2 n0 (by lia) (by rw[ht];exact zBr.mpr hs) (λ m m0 m1 m2 _=>?_) (hN.trans hl.symm));rw[hF];exact zAR (h m _ st2 (e1.trans e2) S2 (hp2.trans hp) m0 (by rw[hl]at m1;rw[<-hp.length_eq];exact m1) m2)
def uH{R R':List Keyed}(h:R'.map kf=R.map kf)(n:Nat)(hs:(R.take n).Pairwise (rH O kf)):(R'.take n).Pairwise (rH O kf):=by
 have h1:((R.take n).map kf).Pairwise (λ a b:O.α=>O.kle b a):=zEF.mpr hs;have h2:(R'.take n).map kf=(R.take n).map kf:=by rw[zG5,h,<-zG5]
 rw[<-h2,zEF]at h1;exact h1
def aAP{n N:Nat}{R1:List Keyed}{st1:zAp}{Q:Option Nat->zAp->Prop}{F2:AcS->StateT zAp Sem (Option Nat)}{F:DeS->StateT zAp Sem (Option Nat)}(c:Cm prog w A s κ O kf G)(e1:Ea st st1)(S:Sg κ G st1 lo P R1)(hp:R1.Perm R)(hn:n+1<=R1.length)(hs:(R1.take (n+1)).Pairwise (rH O kf))(h:Cn0 O kf κ G st lo P R Q)(hN:N=R1.length)(hF2:∀m,F2 (none,m)=pure (some m))
  (hF:∀x q,F (none,x,q)=if q>0 then(zCn (lo+x-(q+1)) (lo+x)>>=λ _=>zCn lo (lo+x)>>=λ _=>acP lo x N>>=F2)else(zCn lo (lo+x)>>=λ _=>acP lo x N>>=F2)):
  wpS (model prog w) A E s ((liftM (rule "list.sort.descending-run"):StateT zAp Sem Unit)>>=λ _=>dsP lo (n+1) N>>=F) Q st1:=by
 subst hN;refine zAK (zE0 (zCz ⟨rfl,?_⟩));have key:∀(R2:List Keyed) (x q:Nat) (h:q+1<=x) (hx:x<=R2.length),(∀i (hi:i<R2.length),x-(q+1)<=i->i<x->kf R2[i]=kf (R2[x-1]'(by lia)))->∀y∈(R2.take x).drop (x-(q+1)),kf y=kf (R2[x-1]'(by lia)):=λ R2 x q h hx hk y hy=>by
  obtain⟨i,hi,e⟩:=zBj hy;rw[zAv,zAV]at hi;rw[zEE,zBS]at e;rw[<-e];exact hk _ (by lia) (by lia) (by lia)
 refine zAK (zC0 (Q:=λ c1 st'=>∃R2 x q,c1=(none,x,q)/\Ea st st'/\Sg κ G st' lo P R2/\R2.Perm R1/\q+1<=x/\∃hx:x<=R2.length,(R2.take x).Pairwise (rH O kf)/\∀i (hi:i<R2.length),x-(q+1)<=i->i<x->kf R2[i]=kf (R2[x-1]'(by lia))) ?_ ?_)
 .unfold dsP
  refine zBJ (I:=λ x c1 st'=>∃R2 q,c1=(none,x,q)/\Ea st st'/\Sg κ G st' lo P R2/\R2.Perm R1/\q+1<=x/\∃hx:x<=R2.length,(R2.take x).Pairwise (rH O kf)/\∀i (hi:i<R2.length),x-(q+1)<=i->i<x->kf R2[i]=kf (R2[x-1]'(by lia))) ?_ ?_
   ⟨R1,0,rfl,e1,S,zBB _,by lia,hn,hs,λ i hi g1 g2=>by
    have:i=n+1-1:=by lia
    subst this;rfl⟩
  .rintro x c1 st' hax hx ⟨R2,q,rfl,e2,S2,p2,hq,hx2,g1,g2⟩
   have hl:=p2.length_eq;dsimp only;rw[zFz (by lia)];refine zAK (lO c S2 (by lia) (by lia) ?_);dsimp only;cases hb:O.blt (kf (R2[x]'(by lia))) (kf (R2[x-1]'(by lia)))with
   |true=>
    rw[if_pos rfl];have g3:(R2.take (x+1)).Pairwise (rH O kf):=lr (r:=rH O kf) (n:=x) (λ _ _ _ h k=>zAo k h) (by lia) (by lia) g1 (zAc hb);by_cases c0:q>0
    .rw[if_pos c0]
     have hix:lo+x-(q+1)=lo+(x-(q+1)):=by lia
     rw[hix];refine zAK (yF S2 (by lia) hx2 λ st3 e3 S3=>zAR ?_);have hk:=qJ (O:=O) (kf:=kf) (q:=kf (R2[x-1]'(by lia))) R2 (i:=x-(q+1)) (j:=x) (by lia) (key R2 x q hq hx2 g2);have hp3:=mH R2 (i:=x-(q+1)) (j:=x) (by lia);refine⟨_,0,rfl,e2.trans e3,S3,hp3.trans p2,by lia,by rw[hp3.length_eq];lia,uH hk _ g3,λ i hi k1 k2=>?_⟩
     have:i=x+1-1:=by lia
     subst this;rfl
    .rw[if_neg c0]
     refine zAR ⟨R2,0,rfl,e2,S2,p2,by lia,by lia,g3,λ i hi k1 k2=>?_⟩
     have:i=x+1-1:=by lia
     subst this;rfl
   |false=>
    rw[if_neg zAI];refine zAK (lO c S2 (by lia) (by lia) ?_);dsimp only;cases hd:O.blt (kf (R2[x-1]'(by lia))) (kf (R2[x]'(by lia)))with
    |true=>rw[if_pos rfl];exact zAR ⟨R2,x,q,rfl,e2,S2,p2,hq,hx2,g1,g2⟩
    |false=>
     rw[if_neg zAI];have heq:kf (R2[x]'(by lia))=kf (R2[x-1]'(by lia)):=zFQ hd hb;refine zAR ⟨R2,q+1,rfl,e2,S2,p2,by lia,by lia,lr (r:=rH O kf) (n:=x) (λ _ _ _ h k=>zAo k h) (by lia) (by lia) g1 hd,λ i hi k1 k2=>?_⟩;show kf R2[i]=kf (R2[x]'(by lia));by_cases ci:i=x
     .subst ci;rfl
     .rw[heq]
      exact g2 i hi (by lia) (by lia)
  .rintro c1 st' ⟨R2,q,rfl,e2,S2,p2,hq,hx2,g1,g2⟩
   exact⟨R2,_,q,rfl,e2,S2,p2,hq,hx2,g1,g2⟩
 .rintro c1 st' ⟨R2,x,q,rfl,e2,S2,p2,hq,hx2,g1,g2⟩
  rw[hF];have hl:=p2.length_eq;by_cases c0:q>0
  .rw[if_pos c0]
   refine zAK (pG (i:=x-(q+1)) (j:=x) S2 (by lia) rfl (by lia) hx2 λ st3 e3 S3=>?_);have hk:=qJ (O:=O) (kf:=kf) (q:=kf (R2[x-1]'(by lia))) R2 (i:=x-(q+1)) (j:=x) (by lia) (key R2 x q hq hx2 g2);have hp3:=mH R2 (i:=x-(q+1)) (j:=x) (by lia);have hl3:=hp3.length_eq;exact aAM c (e2.trans e3) S3 ((hp3.trans p2).trans hp) (by lia) (by lia) (uH hk _ g1) h (by lia) hF2
  .rw[if_neg c0]
   exact aAM c e2 S2 (p2.trans hp) (by lia) hx2 g1 h (by lia) hF2
def aCW{Q:Option Nat->zAp->Prop}(c:Cm prog w A s κ O kf G)(S:Sg κ G st lo P R)(hn:0<R.length)(h:Cn0 O kf κ G st lo P R Q):wpS (model prog w) A E s (countRun' lo R.length) Q st:=by
 have h1:(R.take 1).Pairwise (rK O kf):=by
  cases R with
  |nil=>cases hn
  |cons x R=>exact zC9 _ _
 refine zAK (aAR c S (by decide) hn h1 (λ n n0 n1 n2 n3=>?_) rfl);dsimp only;by_cases c1:n=R.length
 .rw[if_pos (by simpa using c1)]
  exact zAR (h n R st (Ea.refl st) S (zBB _) n0 n1 n2)
 rw[if_neg (by simpa using c1)];rcases n3 with n3|⟨hlt,n3⟩
 .exact absurd n3 c1
 by_cases c2:n>1
 .rw[if_pos c2]
  refine zAK (aAO (i:=0) (j:=n-1) c S (by lia) (by lia) hn (by lia) ?_);dsimp only;cases hb:O.blt (kf R[0]) (kf (R[n-1]'(by lia)))with
  |true=>rw[if_pos rfl];exact zAR (h n R st (Ea.refl st) S (zBB _) n0 n1 n2)
  |false=>
   rw[if_neg zAI];have heq:∀x∈R.take n,kf x=kf R[0]:=λ x hx=>by
    have hf:=vz n2 (y0:=R[0]) (by rw[zAz (by lia),zAL hn]) x hx;have hla:=yp n2 (z:=R[n-1]'(by lia)) (n:=n-1) (by rw[zAV];lia) (by rw[zAz (by lia),zAL (by lia)]) x hx;exact zFQ (zAo hla hb) hf
   refine zAK (pG (i:=0) (j:=n) S rfl rfl (zAn _) n1 λ st2 e2 S2=>?_);rw[zCk,zBx,zBf]at S2;have hp2:((R.take n).reverse++R.drop n).Perm R:=by
    have:=mH R (i:=0) (j:=n) (zAn _)
    rwa [zCk,zBx,zBf]at this
   have hk:((R.take n).reverse++R.drop n).map kf=R.map kf:=by
    have:=qJ (kf:=kf) R (i:=0) (j:=n) (zAn _) (q:=kf R[0]) (by rw[zBf];exact heq)
    rwa [zCk,zBx,zBf]at this
   have hl:=hp2.length_eq;refine aAP (n:=n) c e2 S2 hp2 (by lia) (uH hk _ ?_) h hl.symm (λ _=>rfl) λ _ _=>rfl
   refine lr (r:=rH O kf) (λ _ _ _ h k=>zAo k h) n0 hlt ?_ (zAc n3);refine zB7.mpr λ i j hi hj hij=>?_
   show O.kle (kf (R.take n)[j]) (kf (R.take n)[i]);rw[heq _ (zCW hj),heq _ (zCW hi)];exact zC4 _
 .rw[if_neg c2]
  have:n=1:=by lia
  subst this;refine aAP (n:=1) c (Ea.refl st) S (zBB _) (by lia) ?_ h rfl (λ _=>rfl) λ _ _=>rfl
  exact lr (r:=rH O kf) (λ _ _ _ h k=>zAo k h) n0 hlt (by
   cases R with
   |nil=>cases hn
   |cons x R=>exact zC9 _ _) (zAc n3)
end
def aCG(xs:Array Keyed){i k:Nat}(hik:i<=k)(hk:k<xs.size):(bubble xs k (k-i)).toList=xs.toList.take i++(xs[k]::((xs.toList.take k).drop i++xs.toList.drop (k+1))):=by
 refine zFq λ j=>?_
 rw[zA5,getElem?_bubble hk _ (by lia)];have l1:(xs.toList.take i).length=i:=by rw[zAV,zA9];lia
 have l2:((xs.toList.take k).drop i).length=k-i:=by rw[zAv,zAV,zA9];lia
 have hki:k-(k-i)=i:=by lia
 rw[hki];by_cases c1:j<i
 .rw[if_neg (by lia),if_neg (by lia),zAx (by lia),zAz c1,zA5]
 .rw[zBK (by lia),l1]
  by_cases c2:j=i
  .subst c2
   rw[if_pos rfl,zF1,zBe,zAJ hk]
  .rw[if_neg c2]
   obtain⟨d,hd⟩:∃d,j-i=d+1:=⟨j-i-1,by lia⟩
   rw[hd,zBU];by_cases c3:j<=k
   .rw[if_pos (by lia),zAx (by lia),zBp,zAz (by lia),zA5]
    congr 1;lia
   .rw[if_neg (by lia),zBK (by lia),l2,zBp,zA5]
    congr 1;lia
section
variable{prog:zAS}{w:World}{A:zA8}{E:Value->zAB->Prop}{s:zAB}{κ:zCb}{O:zBn}{kf:Keyed->O.α}{G:Keyed->Prop}{st:zAp}{P R:List Keyed}{lo:Nat}
def vo(R:List Keyed){l k:Nat}(hlk:l<=k)(hk:k<R.length):(R.take l++(R[k]::((R.take k).drop l++R.drop (k+1)))).Perm R:=by
 have e:R=R.take l++((R.take k).drop l++R[k]::R.drop (k+1)):=by
  have e1:=zA6 k R;have e2:=zA6 l (R.take k);rw[zCT,zBY hlk]at e2
  calc R=R.take k++R.drop k:=e1.symm
   _=(R.take l++(R.take k).drop l)++R[k]::R.drop (k+1):=by rw[e2,<-zBF hk]
   _=_:=zA2 _ _ _
 conv=>rhs;rw[e]
 exact List.perm_middle.symm.append_left _
def xZ(R:List Keyed){l k:Nat}(hlk:l<=k)(hk:k<R.length)(hs:(R.take k).Pairwise (rK O kf))(h1:∀i (hi:i<l),rK O kf (R[i]'(by lia)) R[k])(h2:∀i (hi:i<k),l<=i->rK O kf R[k] (R[i]'(by lia))):
  ((R.take l++(R[k]::((R.take k).drop l++R.drop (k+1)))).take (k+1)).Pairwise (rK O kf):=by
 have e:(R.take l++(R[k]::((R.take k).drop l++R.drop (k+1)))).take (k+1)=R.take l++R[k]::(R.take k).drop l:=by
  rw[<-zCv,<-zA2];exact zGL (by rw[zAC,zAV,zAq,zAv,zAV];lia)
 rw[e];have e2:=zA6 l (R.take k);rw[zCT,zBY hlk]at e2;rw[<-e2]at hs;obtain⟨s1,s2,s3⟩:=zAu.mp hs;have m1:∀x∈R.take l,rK O kf x R[k]:=λ x hx=>by
  obtain⟨i,hi,e⟩:=zBj hx;rw[zAV]at hi;rw[zBS]at e;rw[<-e];exact h1 i (by lia)
 have m2:∀x∈(R.take k).drop l,rK O kf R[k] x:=λ x hx=>by
  obtain⟨i,hi,e⟩:=zBj hx;rw[zAv,zAV]at hi;rw[zEE,zBS]at e;rw[<-e];exact h2 _ (by lia) (by lia)
 refine zAu.mpr ⟨s1,zAm.mpr ⟨m2,s2⟩,λ x hx y hy=>?_⟩;rcases zAZ.mp hy with rfl|hy
 .exact m1 x hx
 .exact s3 x hx y hy
def aER{l k:Nat}{Q:Unit->zAp->Prop}(S:Sg κ G st lo P R)(hlk:l<=k)(hk:k<R.length)(h:∀st',Ea st st'->Sg κ G st' lo P (R.take l++(R[k]::((R.take k).drop l++R.drop (k+1))))->Q () st'):wpS (model prog w) A E s (moveDown' (lo+k) (lo+l)) Q st:=by
 rw[moveDown'_eq];refine zCZ (h _ ⟨rfl,rfl,rfl⟩ ⟨S.k,?_,S.p,λ x hx=>S.g x ((vo R hlk hk).mem_iff.mp hx)⟩)
 show(bubble (arrOf st) (lo+k) (lo+k-(lo+l))).toList=_
 have hsz:(arrOf st).size=lo+R.length:=by rw[<-zA9,S.l,zAC,S.p]
 rw[aCG _ (by lia) (by lia),S.l];have e1:(P++R).take (lo+l)=P++R.take l:=by rw[<-S.p,zCw,zAe (by lia),zAw]
 have e2:(P++R).take (lo+k)=P++R.take k:=by rw[<-S.p,zCw,zAe (by lia),zAw]
 have e3:(arrOf st)[lo+k]'(by lia)=R[k]:=by
  have:=S.at k
  rw[zAJ (by lia),zAL hk]at this;exact zAf this
 rw[e1,e2,e3,jk P _ S.p,zCP,jk P _ S.p,zA2]
def aCX{n ok:Nat}{Q:Bool->zAp->Prop}(c:Cm prog w A s κ O kf G)(S:Sg κ G st lo P R)(hn:n<=R.length)(h0:0<ok)(hok:ok<=n)(hs:(R.take ok).Pairwise (rK O kf))
  (h:∀R' st',Ea st st'->Sg κ G st' lo P R'->R'.Perm R->(R'.take n).Pairwise (rK O kf)->Q true st'):wpS (model prog w) A E s (binarySort' lo n ok) Q st:=by
 refine zAK (zC0 (zBJ (I:=λ k c1 st'=>c1=(none,())/\∃R',Ea st st'/\Sg κ G st' lo P R'/\R'.Perm R/\(R'.take (min k n)).Pairwise (rK O kf)) (Q:=λ c1 st'=>c1=(none,())/\∃R',Ea st st'/\Sg κ G st' lo P R'/\R'.Perm R/\(R'.take n).Pairwise (rK O kf)) ?_ ?_ ?_) ?_)
 .rintro k c1 st' hak hkn ⟨rfl,R',e1,S1,p1,g⟩
  have hl:=p1.length_eq;rw[show min k n=k by lia]at g;have hkR:k<R'.length:=by lia
  dsimp only;refine zAK (zC0 (zBJ (I:=λ x c2 st''=>st''=st'/\∃l r,c2=(none,l,r)/\∃(hlr:l<=r) (hr:r<=k),r-l<=k-x/\(∀i (hi:i<l),rK O kf (R'[i]'(by lia)) (R'[k]'hkR))/\∀i (hi:i<k),r<=i->O.klt (kf (R'[k]'hkR)) (kf (R'[i]'(by lia))))
   (Q:=λ c2 st''=>st''=st'/\∃l r,c2=(none,l,r)/\∃hr:l<=k,(∀i (hi:i<l),rK O kf (R'[i]'(by lia)) (R'[k]'hkR))/\∀i (hi:i<k),l<=i->O.klt (kf (R'[k]'hkR)) (kf (R'[i]'(by lia)))) ?_ ?_ ⟨rfl,0,k,rfl,by lia,zAP _,by lia,λ i hi=>absurd hi (zGT _),λ i hi h2=>by lia⟩) ?_)
  .rintro x c2 st'' _ hx ⟨rfl,l,r,rfl,hlr,hr,hm,g1,g2⟩
   dsimp only;by_cases cc:l ≥ r
   .rw[if_pos cc]
    have:l=r:=by lia
    subst this;exact zAR ⟨rfl,l,l,rfl,hr,g1,g2⟩
   .rw[if_neg cc]
    refine zAK (lO c S1 hkR (by lia) ?_);dsimp only;cases hb:O.blt (kf (R'[k]'hkR)) (kf (R'[(l+r) / 2]'(by lia)))with
    |true=>
     rw[if_pos rfl];refine zAR ⟨rfl,l,_,rfl,by lia,by lia,by lia,g1,λ i hi h2=>?_⟩;by_cases ci:i=(l+r) / 2
     .subst ci;exact hb
     .have:=zB7.mp g ((l+r) / 2) i (by rw[zAV];lia) (by rw[zAV];lia) (by lia)
      rw[zBS,zBS]at this;exact KeyOrd.klt_of_klt_of_kle hb this
    |false=>
     rw[if_neg zAI];refine zAR ⟨rfl,_,r,rfl,by lia,hr,by lia,λ i hi=>?_,g2⟩;by_cases ci:i=(l+r) / 2
     .subst ci;exact hb
     .have:=zB7.mp g i ((l+r) / 2) (by rw[zAV];lia) (by rw[zAV];lia) (by lia)
      rw[zBS,zBS]at this;exact zAo this hb
  .rintro c2 st'' ⟨rfl,l,r,rfl,hlr,hr,hm,g1,g2⟩
   have:l=r:=by lia
   subst this;exact⟨rfl,l,l,rfl,hr,g1,g2⟩
  .rintro c2 st'' ⟨rfl,l,r,rfl,hr,g1,g2⟩
   dsimp only;refine zAK (aER S1 hr hkR λ st3 e3 S3=>zAR ⟨rfl,_,e1.trans e3,S3,(vo R' hr hkR).trans p1,?_⟩);rw[show min (k+1) n=k+1 by lia];exact xZ R' hr hkR g g1 λ i hi h2=>zAc (g2 i hi h2)
 .rintro c1 st' ⟨rfl,R',e1,S1,p1,g⟩
  rw[show min (max (max ok 1) n) n=n by lia]at g;exact⟨rfl,R',e1,S1,p1,g⟩
 .rw[show max ok 1=ok by lia,show min ok n=ok by lia]
  exact⟨rfl,R,Ea.refl st,S,zBB _,hs⟩
 .rintro c1 st' ⟨rfl,R',e1,S1,p1,g⟩
  exact zAR (h R' st' e1 S1 p1 g)
end
def Pr(O:zBn)(kf:Keyed->O.α):Nat->List (List Keyed)->List (Nat×Nat×Nat)->Prop
 |_,[],[]=>True
 |o,x::segs,p::ps=>p.1=o/\p.2.1=x.length/\0<x.length/\x.Pairwise (rK O kf)/\Pr O kf (o+x.length) segs ps
 |_,_,_=>False
section
variable{O:zBn}{kf:Keyed->O.α}
theorem Pr.len:∀{o:Nat} {segs:List (List Keyed)} {ps:List (Nat×Nat×Nat)},Pr O kf o segs ps->segs.length=ps.length
 |_,[],[],_=>rfl
 |_,_::_,_::_,h=>congrArg (·+1) (Pr.len h.2.2.2.2)
 |_,[],_::_,h=>h.elim
 |_,_::_,[],h=>h.elim
theorem Pr.few:∀{o:Nat} {segs:List (List Keyed)} {ps:List (Nat×Nat×Nat)},Pr O kf o segs ps->ps.length<=segs.flatten.length
 |_,[],[],_=>zAP _
 |_,x::_,_::_,h=>by
  have:=Pr.few h.2.2.2.2
  have:=h.2.2.1
  rw[zAq,zBR,zAC];lia
 |_,[],_::_,h=>h.elim
 |_,_::_,[],h=>h.elim
theorem Pr.snoc{x:List Keyed}{q:Nat}(hx:0<x.length)(sx:x.Pairwise (rK O kf)):∀{o:Nat} {segs:List (List Keyed)} {ps:List (Nat×Nat×Nat)},Pr O kf o segs ps->Pr O kf o (segs++[x]) (ps++[(o+segs.flatten.length,x.length,q)])
 |_,[],[],_=>⟨rfl,rfl,hx,sx,trivial⟩
 |o,y::segs,p::ps,h=>by
  have:=Pr.snoc (q:=q) hx sx h.2.2.2.2
  rw[zCP,<-zAC,<-zBR]at this;exact⟨h.1,h.2.1,h.2.2.1,h.2.2.2.1,this⟩
 |_,[],_::_,h=>h.elim
 |_,_::_,[],h=>h.elim
theorem Pr.mod{f:Nat×Nat×Nat->Nat×Nat×Nat}(hf:∀p,(f p).1=p.1/\(f p).2.1=p.2.1):∀{o:Nat} {segs:List (List Keyed)} {ps:List (Nat×Nat×Nat)} (j:Nat),Pr O kf o segs ps->Pr O kf o segs (ps.modify j f)
 |_,[],[],j,h=>by cases j<;>exact h
 |o,x::segs,p::ps,0,h=>⟨(hf p).1.trans h.1,(hf p).2.trans h.2.1,h.2.2⟩
 |o,x::segs,p::ps,j+1,h=>⟨h.1,h.2.1,h.2.2.1,h.2.2.2.1,Pr.mod hf j h.2.2.2.2⟩
 |_,[],_::_,_,h=>h.elim
 |_,_::_,[],_,h=>h.elim
theorem Pr.two:∀{o:Nat} {segs:List (List Keyed)} {ps:List (Nat×Nat×Nat)} (i:Nat),Pr O kf o segs ps->i+1<ps.length->∃S1 X Y S2 q q2,segs=S1++X::Y::S2/\ps[i]? =some (o+S1.flatten.length,X.length,q)/\ps[i+1]? =some (o+S1.flatten.length+X.length,Y.length,q2)/\
  0<X.length/\0<Y.length/\X.Pairwise (rK O kf)/\Y.Pairwise (rK O kf)/\∀M,M.length=X.length+Y.length->M.Pairwise (rK O kf)->Pr O kf o (S1++M::S2) ((ps.set i (o+S1.flatten.length,X.length+Y.length,q)).eraseIdx (i+1))
 |o,x::y::segs,p::p2::ps,0,h,_=>by
  obtain⟨h1,h2,h3,h4,k1,k2,k3,k4,k5⟩:=h;refine⟨[],x,y,segs,p.2.2,p2.2.2,rfl,?_,?_,h3,k3,h4,k4,λ M hM sM=>?_⟩
  .rw[zBe,zFx,zDE,zEO,<-h1,<-h2]
  .rw[zBU,zBe,zFx,zDE,zEO,<-k1,<-k2]
  .refine⟨rfl,hM.symm,by lia,sM,?_⟩
   rw[hM,<-zCP];exact k5
 |o,x::segs,p::ps,i+1,h,hi=>by
  obtain⟨h1,h2,h3,h4,h5⟩:=h;obtain⟨S1,X,Y,S2,q,q2,e,g1,g2,g3,g4,g5,g6,g7⟩:=Pr.two i h5 (by rw[zAq]at hi;lia);have hl:o+(x::S1).flatten.length=o+x.length+S1.flatten.length:=by rw[zBR,zAC];lia
  refine⟨x::S1,X,Y,S2,q,q2,by rw[e];rfl,by rw[zBU,g1,hl],by rw[zBU,g2,hl],g3,g4,g5,g6,λ M hM sM=>?_⟩;rw[hl];exact⟨h1,h2,h3,h4,g7 M hM sM⟩
 |_,_,[],_,_,hi=>by simp at hi
 |_,_,[_],0,_,hi=>by simp at hi
 |_,[],_::_,_,h,_=>h.elim
 |_,[_],_::_::_,0,h,_=>h.2.2.2.2.elim
end
section
variable{prog:zAS}{w:World}{A:zA8}{E:Value->zAB->Prop}{s:zAB}{κ:zCb}{O:zBn}{kf:Keyed->O.α}{G:Keyed->Prop}{st:zAp}{T R:List Keyed}{segs:List (List Keyed)}
structure Rn(κ:zCb)(O:zBn)(kf:Keyed->O.α)(T:List Keyed)(st:zAp)(segs:List (List Keyed))(R:List Keyed):Prop where
 k:zB0 st=κ
 f:zBw st=none
 l:(arrOf st).toList=segs.flatten++R
 pm:(arrOf st).toList.Perm T
 pr:Pr O kf 0 segs (zAl st).toList
def tK{i:Nat}{Q:Bool->zAp->Prop}(c:Cm prog w A s κ O kf G)(gT:∀x∈T,G x)(N:Rn κ O kf T st segs R)(hi:i+1<(zAl st).size)
  (h:∀segs' st',Rn κ O kf T st' segs' R->segs'.flatten.length=segs.flatten.length->(zAl st').size+1=(zAl st).size->Q true st'):wpS (model prog w) A E s (mergeAt' i) Q st:=by
 obtain⟨S1,X,Y,S2,q,q2,e,g1,g2,g3,g4,g5,g6,g7⟩:=N.pr.two i (by simpa using hi);rw[zA5,zES]at g1 g2;have hL:(arrOf st).toList=S1.flatten++(X++(Y++(S2.flatten++R))):=by rw[N.l,e];simp
 refine aCU c N.k N.f g1 g2 hL rfl rfl rfl rfl g3 g4 (λ x hx=>gT x (N.pm.mem_iff.mp hx)) g5 g6 λ M st' k1 f1 p1 a1 pM sM=>?_
 have lM:M.length=X.length+Y.length:=by rw[pM.length_eq,zAC]
 have hps:(zAl st').toList=((zAl st).toList.set i (S1.flatten.length,X.length+Y.length,q)).eraseIdx (i+1):=by
  rw[p1,Array.toList_eraseIdxIfInBounds,zE1]
 refine h (S1++M::S2) st' ⟨k1,f1,by rw[a1];simp,?_,?_⟩ ?_ ?_
 .refine List.Perm.trans ?_ N.pm
  rw[a1,hL];refine List.Perm.append_left _ ?_;rw[<-zA2 X];exact pM.append_right _
 .rw[hps]
  have:=g7 M lM sM
  rwa [zES]at this
 .rw[e]
  simp[lM];lia
 .rw[<-zA9,hps,List.length_eraseIdx_of_lt (by rw[zBk,zA9];exact hi),zBk,zA9]
  lia
end
section
variable{prog:zAS}{w:World}{A:zA8}{E:Value->zAB->Prop}{s:zAB}{κ:zCb}{O:zBn}{kf:Keyed->O.α}{G:Keyed->Prop}{st:zAp}{T R:List Keyed}{segs:List (List Keyed)}
def aAQ{lo N:Nat}{P:List Keyed}{Q:Option Nat->zAp->Prop}(c:Cm prog w A s κ O kf G)(S:Sg κ G st lo P R)(hn:0<R.length)(h:Cn0 O kf κ G st lo P R Q)(hN:N=R.length):wpS (model prog w) A E s (countRun' lo N) Q st:=by
 subst hN;exact aCW c S hn h
def Rn.moved{R':List Keyed}{st':zAp}{lo:Nat}(N:Rn κ O kf T st segs R)(e:Ea st st')(S:Sg κ G st' lo segs.flatten R')(p:R'.Perm R):Rn κ O kf T st' segs R':=
 ⟨e.k.trans N.k,e.f.trans N.f,S.l,by rw[S.l];have:=N.pm;rw[N.l]at this;exact(p.append_left _).trans this,by rw[e.p];exact N.pr⟩
def Rn.push{n:Nat}{st':zAp}(N:Rn κ O kf T st segs R)(n0:0<n)(hn:n<=R.length)(sn:(R.take n).Pairwise (rK O kf))(k:zB0 st'=zB0 st)(f:zBw st'=zBw st)(a:arrOf st'=arrOf st)(ps:List (Nat×Nat×Nat))(hp:Pr O kf 0 segs ps)(p:(zAl st').toList=ps++[(segs.flatten.length,n,0)]):
  Rn κ O kf T st' (segs++[R.take n]) (R.drop n):=by
 have ln:(R.take n).length=n:=by rw[zAV];lia
 refine⟨k.trans N.k,f.trans N.f,?_,by rw[a];exact N.pm,?_⟩
 .rw[a,N.l,zC1,zBl,zA2,zA6]
 .rw[p]
  have:=Pr.snoc (q:=0) (x:=R.take n) (by lia) sn hp
  rwa [zES,ln]at this
def aAN{Q:Unit->zAp->Prop}(c:Cm prog w A s κ O kf G)(hT:(arrOf st).toList=T)(gT:∀x∈T,G x)(hk:zB0 st=κ)(hf:zBw st=none)(hp:zAl st=#[])(hr:∀n,0<n->0<zEj n n 0)
  (h:∀st',zBw st'=none->(arrOf st').toList.Perm T->(arrOf st').toList.Pairwise (rK O kf)->Q () st'):wpS (model prog w) A E s sortRuns' Q st:=by
 have hsz:(arrOf st).size=T.length:=by rw[<-hT,zA9]
 rw[sortRuns'_eq];refine zAK (zDY ?_);dsimp only;refine zAK (zC0 (zBJ (I:=λ x c1 st'=>∃segs R lo,c1=(none,lo)/\Rn κ O kf T st' segs R/\segs.flatten.length=lo/\x<=lo) (Q:=λ c1 st'=>∃segs lo,c1=(none,lo)/\Rn κ O kf T st' segs []) ?_ ?_ ?_) ?_)
 .rintro x c1 st1 _ hx ⟨segs,R,lo,rfl,N,hlo,hxl⟩
  have hlen:lo+R.length=T.length:=by
   have:=N.pm.length_eq
   rw[N.l,zAC,hlo]at this;exact this
  dsimp only;by_cases c0:lo ≥ (arrOf st).size
  .rw[if_pos c0]
   have:R=[]:=zDX.mp (by lia)
   subst this;exact zAR ⟨segs,lo,rfl,N⟩
  rw[if_neg c0];have S:Sg κ G st1 lo segs.flatten R:=⟨N.k,N.l,hlo,λ x hx=>gT x (N.pm.mem_iff.mp (by rw[N.l];simp[hx]))⟩;refine zAK (aAQ c S (by lia) (λ m R1 st2 e1 S1 p1 m0 m1 m2=>?_) (by lia));have N1:=N.moved e1 S1 p1;have l1:=p1.length_eq;dsimp only;by_cases c2:m<zEj (arrOf st).size (arrOf st).size 0
  .rw[if_pos c2]
   have hmr:=hr (arrOf st).size (by lia);refine zAK (zE0 (zCz ⟨rfl,?_⟩));refine zAK (aCX (n:=min ((arrOf st).size-lo) (zEj (arrOf st).size (arrOf st).size 0)) c S1 (by lia) m0 (by lia) m2 λ R2 st3 e2 S2 p2 g2=>?_);rw[if_neg (by decide)];have N2:=N1.moved e2 S2 p2;have l2:=p2.length_eq;obtain⟨n,hn⟩:∃n,n=min ((arrOf st).size-lo) (zEj (arrOf st).size (arrOf st).size 0):=⟨_,rfl⟩
   have n0:0<n:=by lia
   have nR:n<=R2.length:=by lia
   rw[<-hn]at g2;refine zAK (zDY ?_);cases hbk:(zAl st3).back? with
   |none=>
    dsimp only;refine zAK (zCZ (zAR ⟨segs++[R2.take n],R2.drop n,lo+n,by rw[hn],N2.push n0 nR g2 rfl rfl rfl _ N2.pr ?_,?_,by lia⟩))
    .show((zAl st3).push (lo,min ((arrOf st).size-lo) (zEj (arrOf st).size (arrOf st).size 0),0)).toList=_
     rw[zBQ,hlo,hn]
    .rw[zC1,zBl,zAC,hlo,zAV]
     lia
   |some p=>
    obtain⟨s1,n1,q1⟩:=p;dsimp only;refine zAK (zC0 (zBJ (I:=λ _ c2 st'=>c2=(none,())/\∃segs',Rn κ O kf T st' segs' R2/\segs'.flatten.length=lo) (Q:=λ c2 st'=>c2=(none,())/\∃segs',Rn κ O kf T st' segs' R2/\segs'.flatten.length=lo) ?_ (λ _ _ z=>z) ⟨rfl,segs,N2,hlo⟩) ?_)
    .rintro y c2 st4 _ hy ⟨rfl,segs',N4,l4⟩
     refine zAK (zDY ?_);by_cases c3:(zAl st4).size>1
     .obtain⟨⟨u1,u2,u3⟩,hu⟩:∃u,(zAl st4)[(zAl st4).size-2]? =some u:=⟨_,zAJ (by lia)⟩
      rw[if_pos c3,hu];dsimp only;split
      .exact zAR ⟨rfl,segs',N4,l4⟩
      .refine zAK (tK c gT N4 (by lia) λ segs2 st5 N5 l5 s5=>?_)
       rw[if_neg (by decide)];exact zAR ⟨rfl,segs2,N5,l5.trans l4⟩
     .rw[if_neg c3]
      exact zAR ⟨rfl,segs',N4,l4⟩
    .rintro c2 st4 ⟨rfl,segs',N4,l4⟩
     dsimp only;refine zAK (zCZ (zAK (zCZ (zAR ⟨segs'++[R2.take n],R2.drop n,lo+n,by rw[hn],N4.push n0 nR g2 rfl rfl rfl _ (N4.pr.mod (f:=λ x=>(x.1,x.2.1,power' (arrOf st).size (2*s1+n1) (2*s1+n1+n1+(min ((arrOf st).size-lo) (zEj (arrOf st).size (arrOf st).size 0))) (arrOf st).size)) (λ _=>⟨rfl,rfl⟩) ((zAl st4).size-1)) ?_,?_,by lia⟩))))
     .show(((zAl st4).modify ((zAl st4).size-1) _).push (lo,min ((arrOf st).size-lo) (zEj (arrOf st).size (arrOf st).size 0),0)).toList=_
      rw[zBQ,zFV,l4,hn]
     .rw[zC1,zBl,zAC,l4,zAV]
      lia
  .rw[if_neg c2]
   obtain⟨n,hn⟩:∃n,n=m:=⟨_,rfl⟩
   have n0:0<n:=by lia
   have nR:n<=R1.length:=by lia
   rw[<-hn]at m2;refine zAK (zDY ?_);cases hbk:(zAl st2).back? with
   |none=>
    dsimp only;refine zAK (zCZ (zAR ⟨segs++[R1.take n],R1.drop n,lo+n,by rw[hn],N1.push n0 nR m2 rfl rfl rfl _ N1.pr ?_,?_,by lia⟩))
    .show((zAl st2).push (lo,m,0)).toList=_
     rw[zBQ,hlo,hn]
    .rw[zC1,zBl,zAC,hlo,zAV]
     lia
   |some p=>
    obtain⟨s1,n1,q1⟩:=p;dsimp only;refine zAK (zC0 (zBJ (I:=λ _ c2 st'=>c2=(none,())/\∃segs',Rn κ O kf T st' segs' R1/\segs'.flatten.length=lo) (Q:=λ c2 st'=>c2=(none,())/\∃segs',Rn κ O kf T st' segs' R1/\segs'.flatten.length=lo) ?_ (λ _ _ z=>z) ⟨rfl,segs,N1,hlo⟩) ?_)
    .rintro y c2 st4 _ hy ⟨rfl,segs',N4,l4⟩
     refine zAK (zDY ?_);by_cases c3:(zAl st4).size>1
     .obtain⟨⟨u1,u2,u3⟩,hu⟩:∃u,(zAl st4)[(zAl st4).size-2]? =some u:=⟨_,zAJ (by lia)⟩
      rw[if_pos c3,hu];dsimp only;split
      .exact zAR ⟨rfl,segs',N4,l4⟩
      .refine zAK (tK c gT N4 (by lia) λ segs2 st5 N5 l5 s5=>?_)
       rw[if_neg (by decide)];exact zAR ⟨rfl,segs2,N5,l5.trans l4⟩
     .rw[if_neg c3]
      exact zAR ⟨rfl,segs',N4,l4⟩
    .rintro c2 st4 ⟨rfl,segs',N4,l4⟩
     dsimp only;refine zAK (zCZ (zAK (zCZ (zAR ⟨segs'++[R1.take n],R1.drop n,lo+n,by rw[hn],N4.push n0 nR m2 rfl rfl rfl _ (N4.pr.mod (f:=λ x=>(x.1,x.2.1,power' (arrOf st).size (2*s1+n1) (2*s1+n1+n1+(m)) (arrOf st).size)) (λ _=>⟨rfl,rfl⟩) ((zAl st4).size-1)) ?_,?_,by lia⟩))))
     .show(((zAl st4).modify ((zAl st4).size-1) _).push (lo,m,0)).toList=_
      rw[zBQ,zFV,l4,hn]
     .rw[zC1,zBl,zAC,l4,zAV]
      lia
 .rintro c1 st1 ⟨segs,R,lo,rfl,N,hlo,hxl⟩
  have hlen:lo+R.length=T.length:=by
   have:=N.pm.length_eq
   rw[N.l,zAC,hlo]at this;exact this
  have:R=[]:=zDX.mp (by lia)
  subst this;exact⟨segs,lo,rfl,N⟩
 .exact⟨[],T,0,rfl,⟨hk,hf,hT,by rw[hT],by rw[hp];exact trivial⟩,rfl,zAP _⟩
 .rintro c1 st1 ⟨segs,lo,rfl,N⟩
  dsimp only;have hps:(zAl st1).size<=(arrOf st).size:=by
   have h1:=N.pr.few;have h2:=N.pm.length_eq;rw[N.l,zA3]at h2;rw[zA9]at h1;lia
  refine zAK (zC0 (zBJ (I:=λ x c2 st'=>c2=(none,())/\∃segs,Rn κ O kf T st' segs []/\(zAl st').size<=max 1 ((arrOf st).size-x)) (Q:=λ c2 st'=>c2=(none,())/\∃segs,Rn κ O kf T st' segs []/\(zAl st').size<=1) ?_ ?_ ⟨rfl,segs,N,by lia⟩) ?_)
  .rintro x c2 st2 _ hx ⟨rfl,segs,N,hps⟩
   refine zAK (zDY ?_);by_cases c3:(zAl st2).size<=1
   .rw[if_pos c3]
    exact zAR ⟨rfl,segs,N,c3⟩
   .rw[if_neg c3]
    refine zAK (tK c gT N (by split<;>lia) λ segs' st3 N3 l3 s3=>?_);rw[if_neg (by decide)];exact zAR ⟨rfl,segs',N3,by lia⟩
  .rintro c2 st2 ⟨rfl,segs,N,hps⟩
   exact⟨rfl,segs,N,by lia⟩
  .rintro c2 st2 ⟨rfl,segs,N,hps⟩
   refine zAR (h st2 N.f N.pm ?_);have hl:segs.length<=1:=by rw[N.pr.len,zA9];exact hps
   have:=N.pr
   rw[N.l,zA3]
   match segs,hl,this with
   |[],_,_=>exact .nil
   |[x],_,q=>
    rw[zBl];cases e:(zAl st2).toList with
    |nil=>rw[e]at q;exact q.elim
    |cons p ps=>rw[e]at q;exact q.2.2.2.1
   |_::_::_,hl,_=>rw[zAq,zAq]at hl;lia
end
theorem qI:∀(f n r:Nat),0<n->0<zEj f n r
 |0,n,r,h=>show 0<n+r by lia
 |f+1,n,r,h=>by
  rw[minRun'_succ];split
  .lia
  .exact qI f _ _ (by lia)
theorem sG:∀{vs:List Value} {ns ms:List Int},zBo vs ns->zBo vs ms->ns=ms
 |_,_,_,.nil,h=>by cases h;rfl
 |_,_,_,.cons n t r,h=>by
  cases h with
  |cons _ _ r'=>rw[sG r r']
def m6.uniq{h:Heap}{v:Value}{ns ms:List Int}(a:m6 h (v,ns))(b:m6 h (v,ms)):ns=ms:=by
 obtain⟨x,o,xs,k,e1,e2,_,e4,e5,_⟩:=a;obtain⟨y,o',ys,k',f1,f2,_,f4,f5,_⟩:=b;dsimp only at e1 f1 e5 f5;rw[e1]at f1;cases f1;rw[e2]at f2;cases f2;rw[e4]at f4;cases f4;exact sG e5 f5
open Classical in
def kfT(h:Heap)(p:Keyed):List Int:=if q:∃ns,m6 h (p.1,ns)then q.choose else[]
def xV{h:Heap}{p:Keyed}{ns:List Int}(q:m6 h (p.1,ns)):kfT h p=ns:=by
 have hq:∃ns,m6 h (p.1,ns):=⟨ns,q⟩
 unfold kfT;rw[dif_pos hq];exact hq.choose_spec.uniq q
section
variable{prog:zAS}{w:World}{A:zA8}{E:Value->zAB->Prop}{s:zAB}
def cmT:Cm prog w A s (tuples' true) aFY (kfT s.heap) (λ p=>∃ns,m6 s.heap (p.1,ns)):=⟨λ x y ⟨ns,hx⟩ ⟨ms,hy⟩ C hC=>by
 rw[xV hx,xV hy]at hC;obtain⟨a,oa,xs,k,e1,e2,_,e4,e5,_⟩:=hx;obtain⟨b,ob,ys,k',f1,f2,_,f4,f5,_⟩:=hy;dsimp only at e1 f1 e5 f5;rw[e1,f1];exact xW e2 e4 f2 f4 e5 f5 hC⟩
theorem pF:∀zs:List (Value×List Int),((zs.map (·.1)).zip (zs.map (·.1)))=zs.map λ p=>(p.1,p.1)
 |[]=>rfl
 |p::zs=>by rw[zAj,zBW,pF zs];rfl
def xP{a:Addr}{zs:List (Value×List Int)}{n:Nat}{P:PySem.Fin->zAB->Prop}(ho:s.heap.get? a=some (zCo "list" (zs.map (·.1)).toArray n))(hz:∀p∈zs,m6 s.heap p)(hl:zs.length<=4000)
  (h:∀zs':List (Value×List Int),zs'.Perm zs->jG (zs'.map (·.2))->P (.done (.ret .none)) {s with heap:=zGt s.heap a (zs.map (·.1)) (zs'.map (·.1)).toArray}):
  wpAny (model prog w) A (zE7.«list.sort» ⟨[.ref a],[]⟩) P E s:=by
 have hlen:(zs.map (·.1)).length=zs.length:=zAH _;have hsz:(zs.map (·.1)).length<=zAN:=by rw[zDd];lia
 obtain⟨e1,ho1⟩:∃e1,(s.heap.update a (zCl λ _=>(#[]:Array Value))).get? a=some (zCo "list" #[] e1):=⟨_,zFM ho λ _=>#[]⟩
 have ho6:(((s.heap.update a (zCl λ _=>(#[]:Array Value))).push (zCo "tuple" (zs.map (·.1)).toArray 0)).push (zCo "list" #[] 0)).get? a=some (zCo "list" #[] e1):=zAD _ (zAD _ ho1);have hz6:∀p∈zs,m6 (((s.heap.update a (zCl λ _=>(#[]:Array Value))).push (zCo "tuple" (zs.map (·.1)).toArray 0)).push (zCo "list" #[] 0)) p:=λ p hp=>by
  obtain⟨x,o,xs,k,q1,q2,q3,q4⟩:=hz p hp;refine⟨x,o,xs,k,q1,?_,q3,q4⟩;have hxa:x≠a:=λ z=>by
   subst z;rw[ho]at q2;cases q2;exact absurd q3 (show¬(zCM "list"=zCM "tuple")by decide)
  refine zAD _ (zAD _ ?_);rw[zDD _ _ _ _ hxa];exact q2
 rw[list_sort_plain];refine zAG (listItems_at ho rfl (zAG (listUpdate_at ho rfl ?_ (by rw[zAF];exact hsz) (zAn _))));refine zAG (zGW ho1 rfl (zAG (wpAny_newTuple ?_ (by show(zs.map (·.1)).length<=_;exact hsz))));refine zAG (wpAny_newList (zDe ?_) (zAn _));show wpAny (model prog w) A _ P E {s with heap:=((s.heap.update a (zCl λ _=>(#[]:Array Value))).push (zCo "tuple" (zs.map (·.1)).toArray 0)).push (zCo "list" #[] 0)};obtain⟨s6,hs6⟩:∃s6:zAB,s6={s with heap:=((s.heap.update a (zCl λ _=>(#[]:Array Value))).push (zCo "tuple" (zs.map (·.1)).toArray 0)).push (zCo "list" #[] 0)}:=⟨_,rfl⟩
 have hh6:s6.heap=((s.heap.update a (zCl λ _=>(#[]:Array Value))).push (zCo "tuple" (zs.map (·.1)).toArray 0)).push (zCo "list" #[] 0):=by rw[hs6]
 rw[<-hh6]at ho6 hz6;rw[<-hs6];dsimp only;have fin:∀zs':List (Value×List Int),zs'.Perm zs->jG (zs'.map (·.2))->wpAny (model prog w) A (zED (.ref a) (λ _=>(zs'.map (·.1)).toArray)>>=λ _=>ret .none) P E s6:=λ zs' p1 p2=>by
  refine zAG (listUpdate_at ho6 rfl ?_ (zAn _) (by show(zs'.map (·.1)).toArray.size<=_;rw[zAF,zAH,p1.length_eq];lia));refine zA7 ?_
  have:=h zs' p1 p2
  unfold zGt at this;rw[hs6];exact this
 by_cases h2:(zs.map (·.1)).toArray.size<2
 .rw[if_pos h2,if_pos h2]
  refine zAG (zA7 ?_);rw[StateT.run_pure];refine zAG (zA7 ?_);dsimp only;refine zAG (zGW ho6 rfl ?_);have hr:jG (zs.map (·.2)):=by
   rw[zAF,hlen]at h2
   match zs,h2 with
   |[],_=>exact .nil
   |[p],_=>exact zC9 _ _
   |_::_::_,h2=>rw[zAq,zAq]at h2;lia
  have e:((zs.map (·.1)).toArray.zip (zs.map (·.1)).toArray).map (·.2)=(zs.map (·.1)).toArray:=by
   apply Array.ext';rw[zFn,zFo,pF,zB8];rfl
  have:=fin zs (zBB _) hr
  show wpAny (model prog w) A (zED (.ref a) (λ _=>((zs.map (·.1)).toArray.zip (zs.map (·.1)).toArray).map (·.2))>>=_) P E _;rw[e];simp only[bne_self_eq_false,zCE,if_false];exact this
 .rw[if_neg h2,if_neg h2]
  have h2':2<=zs.length:=by rw[zAF,hlen]at h2;lia
  obtain⟨fs,f1,f2,f3⟩:=(yG hz6).firsts;refine zAG (PySem.W.kat_kind (T:=.type "int") f1 (by rw[f2,hlen];lia) (λ v hv=>?_) (by decide) ?_)
  .obtain⟨n,t,rfl⟩:=f3 v hv
   exact zGo
  rw[show(zCM "int" !=zCM "tuple")=true by decide];refine zAG (zBE (aAN (κ:=tuples' true) (O:=aFY) (kf:=kfT s6.heap) (G:=λ p=>∃ns,m6 s6.heap (p.1,ns)) (T:=zs.map λ p=>(p.1,p.1)) (Q:=λ _ st'=>zBw st'=none/\(arrOf st').toList.Perm (zs.map λ p=>(p.1,p.1))/\(arrOf st').toList.Pairwise (rK aFY (kfT s6.heap))) cmT ?_ ?_ rfl rfl rfl (λ n hn=>qI n n 0 hn) λ st' b1 b2 b3=>⟨b1,b2,b3⟩) (λ r s' hr=>?_) λ _ _ e=>e)
  .show((zs.map (·.1)).toArray.zip (zs.map (·.1)).toArray).toList=_
   rw[zFo,pF]
  .intro x hx
   obtain⟨p,hp,rfl⟩:=zC3.mp hx;exact⟨p.2,hz6 p hp⟩
  .obtain⟨⟨⟩,st'⟩:=r
   obtain⟨hs',b1,b2,b3⟩:=hr;replace hs':=hs'.symm;subst hs';refine zAG (zGW ho6 rfl ?_);have e1:(zs.map λ p=>(p.1,p.1)).map (λ q:Keyed=>(q.2,kfT s6.heap q))=zs:=by
    rw[zB8]
    conv=>rhs;rw[<-List.map_id zs]
    refine List.map_congr_left λ p hp=>?_
    show(p.1,kfT s6.heap (p.1,p.1))=p
    rw[xV (hz6 p hp)]
   have p1:((arrOf st').toList.map λ q:Keyed=>(q.2,kfT s6.heap q)).Perm zs:=by
    have:=b2.map λ q:Keyed=>(q.2,kfT s6.heap q)
    rwa [e1]at this
   have p2:jG (((arrOf st').toList.map λ q:Keyed=>(q.2,kfT s6.heap q)).map (·.2)):=by
    unfold jG;rw[zB8,zEF];exact b3
   have e2:(arrOf st').map (·.2)=(((arrOf st').toList.map λ q:Keyed=>(q.2,kfT s6.heap q)).map (·.1)).toArray:=by
    rw[zB8];apply Array.ext';rw[zFn];rfl
   have:=fin _ p1 p2
   rw[e2,b1];simp only[bne_self_eq_false,zCE,if_false];exact this
end
section
variable{prog:zAS}{w:World}{A:zA8}{E:Value->zAB->Prop}{s:zAB}
def tY{zs:List (Value×List Int)}{Q:Value->zAB->Prop}(hz:∀p∈zs,m6 s.heap p)(hl:zs.length<4000)
  (h:∀(zs':List (Value×List Int)) h' e,zs'.Perm zs->jG (zs'.map (·.2))->(∀b o,s.heap.get? b=some o->h'.get? b=some o)->h'.get? s.heap.objs.size=some (zCo "list" (zs'.map (·.1)).toArray e)->Q (.ref s.heap.objs.size) {s with heap:=h'}):
  wpAny (model prog w) A (zGV (zs.map (·.1))>>=λ l=>zEi [l] (call (.builtin "list.sort") [l])>>=λ _=>ret l) (λ fin s'=>∃r,fin= .done (.ret r)/\Q r s') E s:=by
 have hlen:(zs.map (·.1)).length=zs.length:=zAH _;refine zAG (wpAny_newList ?_ (by rw[zDd];lia));have hoL:(s.heap.push (zCo "list" (zs.map (·.1)).toArray 0)).get? s.heap.objs.size=some (zCo "list" (zs.map (·.1)).toArray 0):=zAh _ rfl;refine zAG (zDe (zEw slot_list_sort ⟨_,hoL,rfl⟩ entry_list_sort ?_ (args_list_sort _)));refine xP (s:={s with heap:=s.heap.push (zCo "list" (zs.map (·.1)).toArray 0)}) hoL (λ p hp=>?_) (by lia) λ zs' a1 a2=>⟨_,rfl,?_⟩
 .obtain⟨x,o,xs,k,e1,e2,e3⟩:=hz p hp
  exact⟨x,o,xs,k,e1,zAD _ e2,e3⟩
 have hne:∀b o,s.heap.get? b=some o->b≠s.heap.objs.size:=λ b o e=>zAk (zAW e)
 obtain⟨e1,he1⟩:∃e1,((s.heap.push (zCo "list" (zs.map (·.1)).toArray 0)).update s.heap.objs.size (zCl λ _=>(#[]:Array Value))).get? s.heap.objs.size=some (zCo "list" #[] e1):=⟨_,zFM hoL λ _=>#[]⟩
 have g1:=zAD (zCo "list" #[] 0) (zAD (zCo "tuple" (zs.map (·.1)).toArray 0) he1);have g2:=zFM g1 (λ _=>(zs'.map (·.1)).toArray);refine zA7 ⟨_,rfl,h zs' _ _ a1 a2 (λ b o e=>?_) g2⟩;unfold zGt;rw[zDD _ _ _ _ (hne b o e)];refine zAD _ (zAD _ ?_);rw[zDD _ _ _ _ (hne b o e)];exact zAD _ e
end
section
variable{X:Cx}
def vL{pins:List (Addr×Obj)}(I:Inv X pins Z H s)(ht:eU X.K H vs nss)(h64:vs.length<4000)(q:aCI H vs nss Q)
  (hs1:∃h1 tk,s1={s with heap:=h1,toks:=tk}/\s.heap.objs.size<=h1.objs.size/\∀b o,s.heap.get? b=some o->h1.get? b=some o){zs:List (Value×List Int)}(hz:zs.Perm ((vs.map nD).zip nss))(hus:us=zs.map (·.1)):
  wpAny (model X.prog X.w) X.A.in1 (zGV us>>=λ l=>zEi [l] (call (.builtin "list.sort") [l])>>=λ _=>ret l) (λ fin s'=>∃r,fin= .done (.ret r)/\EP X pins Z Q r s') X.xe s1:=by
 obtain⟨h1,tk,rfl,hsz,keep⟩:=hs1;subst hus;have hall:∀p∈zs,m6 h1 p:=λ p hp=>by
  obtain⟨x,o,xs,k,e1,e2,e3⟩:=(ht.at I).all p (hz.mem_iff.mp hp);exact⟨x,o,xs,k,e1,keep _ _ e2,e3⟩
 have hlen:zs.length<4000:=by
  rw[hz.length_eq,zGK,zAH,<-ht.len,zEP];exact h64
 refine tY (s:={s with heap:=h1,toks:=tk}) hall hlen λ zs' h' e a1 a2 a3 a4=>?_
 have hmap:(vs.map nD).zip nss=(vs.zip nss).map λ p=>(nD p.1,p.2):=by rw[List.zip_map_left];rfl
 obtain⟨ws,w1,w2⟩:=uJ (f:=λ p:V×List Int=>(nD p.1,p.2)) (a1.trans hz) hmap;have hfr:H h1.objs.size=none:=I.hok.fresh hsz;have hmem:∀v∈ws.map (·.1),RelV v (nD v):=λ v hv=>by
  obtain⟨p,hp,rfl⟩:=zC3.mp hv;exact ht.refs p.1 (zC8 (w1.mem_iff.mp hp)).1
 have hws:zs'.map (·.1)=(ws.map (·.1)).map nD:=by rw[w2,zB8,zB8];rfl
 have hwl:(ws.map (·.1)).length<=zAN:=by
  rw[zAH,w1.length_eq,zGK,<-ht.len,zEP,zDd];lia
 refine⟨.ref h1.objs.size,upd H h1.objs.size (.lst (ws.map (·.1))),I.laid (t':=tk) (λ b o e=>a3 b o (keep b o e)) hsz ⟨hwl,(ws.map (·.1)).map nD,e,rQ hmem,?_⟩,rfl,(q ws w1 ?_).at hfr⟩
 .rw[<-hws];exact a4
 .have:ws.map (·.2)=zs'.map (·.2):=by rw[w2,zB8];rfl
  rw[this];exact a2
def wj(K:zAA):List V->Hp->VK->Prop:=λ xs H Q=>∃p vs nss,xs=[.ref p]/\SqL K H p vs/\eU K H vs nss/\vs.length<4000/\aCI H vs nss Q
def rO:jH X (.builtin "sorted") (wj X.K):=by
 intro pins s Z H xs us Q I r h;obtain⟨p,vs,nss,rfl,hp,ht,h64,q⟩:=h;obtain⟨u,rfl,ru⟩:=vals1 r;cases ru;obtain⟨its,rv,pl,hz⟩:=I.list hp;have e:=ht.vals rv;subst e;have hl2:(vs.map nD).length=nss.length:=by rw[zAH];exact ht.len
 refine tZ (collect_list pl.isList ?_ (by rw[zAH];exact hz));refine vL I ht h64 q ⟨_,_,rfl,?_,λ b o e=>?_⟩ (zBB _) ?_
 .rw[Heap.size_update,size_push']
  exact zFe _
 .rw[zDD _ _ _ _ (zAk (zAW e))]
  exact zAD _ e
 .exact(List.map_fst_zip (by lia)).symm
end
def kZ:List D->Rs D
 |[.lst l]=>match m9 l with
  |some nss=>if nss.length<4000 then .ok (.lst ((jt nss).map tupI))else .st
  |none=>.st
 |_=>.st
def xq{K:zAA}:aEQ K (wj K) kZ:=by
 intro A xs ds H Q z r ez q;unfold kZ at ez;split at ez
 .cases r with
  |cons h r=>
   cases r;cases h with
   |lst h m r=>
    split at ez
    .rename_i nss e
     obtain⟨e1,e2⟩:=nj e;subst e1;split at ez
     .rename_i hl
      cases ez;have ht:=vA r e2;exact⟨_,_,nss,rfl,SqL.of h,ht,by rw[ht.len];exact hl,aAb ht q⟩
     .cases ez
    .cases ez
 .cases ez
section
variable{C:Ct}{pos p:Pos}{m:Mode}{a:Expr}{ga:En->Rs (List D)}
def pP(hm:C.mg "sorted"=none)(ha:SA C m [a] ga)(he:∀i,zAY [a] (C.X i).env=[(false,eval a (C.X i).env)]:=by intro _;rfl)(hg:∀i,Gl (C.X i) "sorted":=by intro _;rfl)(hv:zB5 "sorted"=some (.builtin "sorted"):=by decide+kernel):SE C (some []) (.Call (.Name "sorted" p) [a] [] pos) (opA kZ ga):=by
 obtain⟨t,h1,h2⟩:=ha;refine⟨_,λ i=>mD (r:=wj C.K) (by rw[<-C.hK i];exact rO) (hg i) (by rw[(C.cx i).2.2.2.1];exact hm) hv (h1 i) (by decide) (by decide) (he i) rfl,aCb xq h2⟩
end
def zp:∀{us:List α},us.length=6->∃a0 a1 a2 a3 a4 a5,us=[a0,a1,a2,a3,a4,a5]
 |[a0,a1,a2,a3,a4,a5],_=>⟨a0,a1,a2,a3,a4,a5,rfl⟩
def aGq(ρ:En)(i:Nat)(ds:List Int):D->Ou
 | .int z=>if ds.length<4000 then .nx (ρ.set i (.ow (.set (step_dedup ds z))))else .st
 |_=>.st
abbrev Ent:=List Int×Addr×V
section
theorem ints_of:∀(tks:List (Int×Tok)),zBo (tks.map λ p=>zEY p.1 p.2) (tks.map (·.1))
 |[]=>.nil
 |p::r=>.cons _ _ (ints_of r)
end
abbrev aGw:=List (Str×(List D->Rs D))
def fnOf(tab:aGw):Rs D->Option (List D->Rs D)
 | .ok (.fn x)=>tab.lookup x
 |_=>none
def shB:Slot->Bool
 | .no=>true
 | .sh _=>true
 |_=>false
def nsL(ρ:En)(fg:D->En->Rs En)(ft:En->Rs Bool)(inn:En->Rs (List D)):List D->Rs (List D)
 |[]=>.ok []
 |d::ds=>(fg d ρ).bd λ ρ1=>(ft ρ1).bd λ k=>if k=true then(inn ρ1).bd λ ys=>(nsL ρ fg ft inn ds).bd λ zs=>.ok (ys++zs)else nsL ρ fg ft inn ds
def inL(fi2:En->Rs (List D))(fg2:D->En->Rs En)(ft2:En->Rs Bool)(fe:En->Rs D):En->Rs (List D):=λ ρ1=>if ρ1.all shB=true then(fi2 ρ1).bd λ ds=>lcL ρ1 fg2 ft2 fe ds else .st
def qR(fi:En->Rs (List D))(js:List (Option Nat))(fg:D->En->Rs En)(ft:En->Rs Bool)(inn:En->Rs (List D)):En->Rs D:=λ ρ=>(fi (shE ρ)).bd λ ds=>match nsL (stE js (shE ρ)) fg ft inn ds with
 | .ok l=>if l.length<zAN then .ok (.lst l)else .st
 |_=>.st
def aBO(h:nsL ρ fg ft inn (d::ds)= .ok l):
  ∃ρ1 k,fg d ρ= .ok ρ1/\ft ρ1= .ok k/\((k=true/\∃ys zs,inn ρ1= .ok ys/\nsL ρ fg ft inn ds= .ok zs/\l=ys++zs)\/(k=false/\nsL ρ fg ft inn ds= .ok l)):=by
 unfold nsL at h;obtain⟨ρ1,e1,h⟩:=bV h;obtain⟨k,e2,h⟩:=bV h;refine⟨ρ1,k,e1,e2,?_⟩;cases k with
 |true=>
  rw[if_pos rfl]at h;obtain⟨ys,e3,h⟩:=bV h;obtain⟨zs,e4,h⟩:=bV h;exact .inl ⟨rfl,ys,zs,e3,e4,by cases h;rfl⟩
 |false=>
  rw[if_neg zAI]at h;exact .inr ⟨rfl,h⟩
def aF9(h:inL fi2 fg2 ft2 fe ρ1= .ok ys):ρ1.all shB=true/\∃ds,fi2 ρ1= .ok ds/\lcL ρ1 fg2 ft2 fe ds= .ok ys:=by
 unfold inL at h;split at h
 .rename_i hs
  obtain⟨ds,e1,e2⟩:=bV h;exact⟨hs,ds,e1,e2⟩
 .cases h
def RR.butS{K:zAA}(R:RR K G U ρ Z H lab)(hs:ρ.all shB=true)(hlab:¬(lab l).1<=1)(B:jC l H H')(hl:H l=some o)(ho:fP o=true)(h0:G.H0 l=none):RR K G U ρ Z H' lab:=by
 refine⟨R.len,λ j s e=>?_,λ b o hb=>?_,R.new,λ q hq=>(R.tm q hq).but B hl ho hlab⟩
 .rcases R.sl j s e with z|⟨u,e1,e2⟩
  .exact .inl z
  .have hb:=zBP.mp hs s (zBM e)
   cases s with
   |no=>exact .inl rfl
   |sh d=>exact .inr ⟨u,e1,Rp.but B hl ho hlab e2⟩
   |_=>cases hb
 .exact B b o (λ z=>by subst z;rw[h0]at hb;cases hb) (R.old b o hb)
section
variable{K:zAA}{G:Gx}{wi wi2:TI}{fi fi2:En->Rs (List D)}{js:List (Option Nat)}{ks ks2:List Nat}{g g2:TG}{fg fg2:D->En->Rs En}{tt tt2:TT}{ft ft2:En->Rs Bool}{te:TE}{fe:En->Rs D}
def aE4(hi:aCJ K G wi fi)(hg:aCK K {G with E:=λ _ _ _=>False} g fg)(hgo:j6 g ks)(hgm:tG g)(hk:∀k∈ks2,k∉ks/\(js[k]?).join=none)(ht:wH K {G with E:=λ _ _ _=>False} tt ft)(hi2:aCJ K {G with E:=λ _ _ _=>False} wi2 fi2)
  (hg2:aCK K {G with E:=λ _ _ _=>False} g2 fg2)(ht2:wH K {G with E:=λ _ _ _=>False} tt2 ft2)(he:jA K {G with E:=λ _ _ _=>False} (some []) te fe):
  jA K G (some []) (aGN (λ _=>.lst []) wi (stV js) g tt (aA3 ks2 wi2 g2 tt2 (aDn te))) (qR fi js fg ft (inL fi2 fg2 ft2 fe)):=by
 intro U Z H ρ lab Q R W;refine hi U Z H _ _ _ R.shE (W.bd.imp λ ds _ w J H1 lab1 U1 s1 _ R1 jl=>?_);intro l hl;obtain⟨out,hout,hlen,w⟩:∃out,nsL (stE js (VL.shE ρ)) fg ft (inL fi2 fg2 ft2 fe) ds= .ok out/\out.length<zAN/\QE K (some []) lab H Q (.lst out):=by
  cases hout:nsL (stE js (VL.shE ρ)) fg ft (inL fi2 fg2 ft2 fe) ds with
  |ok out=>
   rw[hout]at w;dsimp only at w;split at w
   .rename_i hz;exact⟨out,rfl,hz,w⟩
   .exact zAE w
  |ex c=>rw[hout]at w;exact zAE w
  |st=>rw[hout]at w;exact zAE w
 have R0:RR K {G with E:=λ _ _ _=>False} (U1++U) (VL.shE ρ) Z H1 (λ _=>(0,0)):=R1.blk0 rfl;have RB:=R0.block (js:=js) (λ _=>zAn _) hl;have hHl:H l=none:=s1.free hl;have h0l:G.H0 l=none:=R1.old.free hl;have labl:¬((λ p=>if p=l then((2,0):Nat×Nat)else(0,0)) l).1<=1:=by simp
 have hsk:∀k∈ks2,(stV js Z)[k]? =some none\/(stV js Z)[k]? =none:=λ k hk2=>by
  have:=(hk k hk2).2
  unfold stV;rw[zAi];cases e:js[k]? with
  |none=>exact .inr rfl
  |some o=>
   rw[e]at this;cases o with
   |none=>exact .inl rfl
   |some j=>cases this
 refine⟨λ i n H2=>∃(pre:List D) (acc:List V),n=ds.length-i/\i<=ds.length/\H2 l=some (.lst acc)/\RR K {G with E:=λ _ _ _=>False} (U1++U) (stE js (VL.shE ρ)) (stV js Z) H2 (λ p=>if p=l then(2,0)else(0,0))/\aM H H2/\Rps K (λ p=>H p=none/\p≠l) H2 acc pre/\
  ∃post,nsL (stE js (VL.shE ρ)) fg ft (inL fi2 fg2 ft2 fe) (ds.drop i)= .ok post/\out=pre++post,⟨ds.length,[],[],by lia,by lia,aj,RB.up (bh hl _),s1.trans (bh hl _),.nil,out,hout,rfl⟩,?_⟩
 rintro i n H2 ⟨pre,acc,rfl,hi',hH2,R2,s2,rpre,post,hpost,eout⟩;have jj:=jl _ H2 λ q hq=>R2.tm q (zAa _ hq)
 by_cases hlt:i<ds.length
 .obtain⟨go,yl⟩:=(jj i).2 hlt
  refine .inr ⟨go,λ x H3 hy=>?_⟩;obtain⟨s3,d,ed,rx⟩:=yl x H3 hy;replace R2:=R2.up s3;replace hH2:=s3 _ _ hH2;replace s2:=s2.trans s3;replace rpre:=rpre.up s3;have ed2:ds.drop i=d::ds.drop (i+1):=by
   rw[zBF hlt]
   have:=zAL hlt
   rw[ed]at this;cases this;rfl
  rw[ed2]at hpost;obtain⟨ρ1,k,e1,e2,e3⟩:=aBO hpost;have hgx:=hgo _ _ _ _ (hg (U1++U) x d _ H3 _ _ (λ Z4 H4=>H4=H3/\RR K {G with E:=λ _ _ _=>False} (U1++U) ρ1 Z4 H3 (λ p=>if p=l then(2,0)else(0,0))) ρ1 R2 rx e1 λ Z4 R4=>⟨rfl,R4⟩);refine hgm _ _ _ _ _ (λ Z4 H4 ⟨⟨eH,R4⟩,hlen4,hag4⟩=>?_) hgx;subst eH;refine ht (U1++U) Z4 H4 ρ1 _ _ R4 ?_;rw[e2];intro H5 s5;rcases e3 with ⟨rfl,ys,zs,e3,e4,rfl⟩|⟨rfl,e4⟩
  .rw[if_pos rfl]
   obtain⟨hsh,ds2,f1,f2⟩:=aF9 e3;refine⟨λ k hk2 v e=>?_,?_⟩
   .rw[hag4 k (hk k hk2).1]at e
    rcases hsk k hk2 with z|z<;>rw[z]at e<;>cases e
   refine hi2 (U1++U) Z4 H5 ρ1 _ _ (R4.up s5) ?_;rw[f1];intro J2 H6 lab6 U6 s6 hlab6 R6 jl6;have hl6:H6 l=some (.lst acc):=s6 _ _ (s5 _ _ hH2);have lab6l:¬(lab6 l).1<=1:=by rw[hlab6 l _ (s5 _ _ hH2)];exact labl
   refine⟨λ j n2 H7=>∃(pre2:List D) (acc2:List V),n2=ds2.length-j/\j<=ds2.length/\H7 l=some (.lst acc2)/\RR K {G with E:=λ _ _ _=>False} (U6++(U1++U)) ρ1 Z4 H7 lab6/\RR K {G with E:=λ _ _ _=>False} (U1++U) (stE js (VL.shE ρ)) (stV js Z) H7 (λ p=>if p=l then(2,0)else(0,0))/\aM H H7/\
    Rps K (λ p=>H p=none/\p≠l) H7 acc2 (pre++pre2)/\∃post2,lcL ρ1 fg2 ft2 fe (ds2.drop j)= .ok post2/\ys=pre2++post2,
    ⟨ds2.length,[],acc,by lia,by lia,hl6,R6,R2.up (s5.trans s6),(s2.trans s5).trans s6,by rw[zA3];exact rpre.up (s5.trans s6),ys,f2,rfl⟩,?_⟩
   rintro j n2 H7 ⟨pre2,acc2,rfl,hj,hl7,R7,Rb7,s7,rpre2,post2,hpost2,eys⟩;have jj7:=jl6 _ H7 λ q hq=>R7.tm q (zAa _ hq)
   by_cases hlt2:j<ds2.length
   .obtain⟨go2,yl2⟩:=(jj7 j).2 hlt2
    refine .inr ⟨go2,λ x2 H8 hy2=>?_⟩;obtain⟨s8,d2,ed8,rx2⟩:=yl2 x2 H8 hy2;replace R7:=R7.up s8;replace Rb7:=Rb7.up s8;replace hl7:=s8 _ _ hl7;replace s7:=s7.trans s8;replace rpre2:=rpre2.up s8;have ed9:ds2.drop j=d2::ds2.drop (j+1):=by
     rw[zBF hlt2]
     have:=zAL hlt2
     rw[ed8]at this;cases this;rfl
    rw[ed9]at hpost2;obtain⟨ρ2,k2,q1,q2,q3⟩:=qQ hpost2;refine hg2 (U6++(U1++U)) x2 d2 _ H8 _ _ _ ρ2 R7 rx2 q1 λ Z9 R9=>?_
    refine ht2 (U6++(U1++U)) Z9 H8 ρ2 _ _ R9 ?_;rw[q2];intro H9 s9;rcases q3 with ⟨rfl,y,ys2,q3,q4,rfl⟩|⟨rfl,q4⟩
    .rw[if_pos rfl]
     refine he (U6++(U1++U)) Z9 H9 ρ2 _ _ (R9.up s9) ?_;rw[q3];intro v Ha sa ra;have hla:Ha l=some (.lst acc2):=sa _ _ (s9 _ _ hl7);have B:jC l Ha (upd Ha l (.lst (acc2++[v]))):=λ b o ne hb=>by rw[aQ ne];exact hb
     have hsz:acc2.length<zAN:=by
      have h1:=rpre2.length;have h2:out.length=pre.length+(pre2.length+(ys2.length+1))+zs.length:=by rw[eout,eys];simp;lia
      rw[zAC]at h1;lia
     refine⟨acc2,hla,hsz,ds2.length-(j+1),by lia,pre2++[y],acc2++[v],rfl,hlt2,aj,(R7.up (s9.trans sa)).butS hsh lab6l B hla rfl h0l,(Rb7.up (s9.trans sa)).but_blk B hla rfl h0l,λ b o hb=>B b o (λ z=>by subst z;rw[hHl]at hb;cases hb) (((s7.trans s9).trans sa) b o hb),?_,ys2,q4,by rw[eys];simp⟩;rw[<-zA2];refine((rpre2.up (s9.trans sa)).append (.cons (ra.wk λ p o _ z=>?_) .nil)).but B hla rfl λ z=>z.2 rfl
     rcases z with z|z
     .exact⟨(s7.trans s9).free z,λ e=>by subst e;rw[s9 _ _ hl7]at z;cases z⟩
     .cases z
    .rw[if_neg zAI]
     exact⟨ds2.length-(j+1),by lia,pre2,acc2,rfl,hlt2,s9 _ _ hl7,R7.up s9,Rb7.up s9,s7.trans s9,rpre2.up s9,post2,q4,eys⟩
   .have ej:j=ds2.length:=by lia
    subst ej;rw[zCV]at hpost2;cases hpost2;rw[zA3]at eys;subst eys;exact .inl ⟨(jj7 _).1 (zAP _),ds.length-(i+1),by lia,_,acc2,rfl,hlt,hl7,Rb7,s7,rpre2,zs,e4,by rw[eout];simp⟩
  .rw[if_neg zAI]
   exact⟨ds.length-(i+1),by lia,pre,acc,rfl,hlt,s5 _ _ hH2,R2.up s5,s2.trans s5,rpre.up s5,post,e4,eout⟩
 .have ei:i=ds.length:=by lia
  subst ei;rw[zCV]at hpost;cases hpost;rw[zA3]at eout;subst eout;exact .inl ⟨(jj _).1 (zAP _),w _ H2 s2 (.lst hH2 (.inl hHl) (rpre.wk λ p o _ z=>⟨.inl z.1,z.2⟩))⟩
end
section
variable{C:Ct}{pos:Pos}{elt tg iter tg2 iter2:Expr}{ifs ifs2:List Expr}{sc:Scope}{N:List Str}{js:List (Option Nat)}{ks ks2:List Nat}{fi fi2:En->Rs (List D)}{fg fg2:D->En->Rs En}{ft ft2:En->Rs Bool}{fe:En->Rs D}
def aGT(hi:SI C tg iter fi)(hg:SG (C.blk sc N) tg ks fg)(ht:aCL (C.blk sc N) ifs ft)(hi2:SI (C.blk sc N) tg2 iter2 fi2)(hg2:SG (C.blk sc N) tg2 ks2 fg2)(ht2:aCL (C.blk sc N) ifs2 ft2)(he:SE (C.blk sc N) (some []) elt fe)(hk:∀k∈ks2,k∉ks/\(js[k]?).join=none:=by decide)(hs:∀i x,zBT iter (C.X i).env x=pure x:=by intro _ _;rfl)(hs2:∀(i:(C.blk sc N).ι) x,zBT iter2 ((C.blk sc N).X i).env x=pure x:=by intro _ _;rfl)(hB:∀i,dj (C.X i) sc N (stV js) (ks++ks2):=by intro _;exact xu rfl rfl rfl rfl rfl rfl):
  SE C (some []) (.ListComp elt [⟨tg,iter,ifs,0⟩,⟨tg2,iter2,ifs2,0⟩] sc pos) (qR fi js fg ft (inL fi2 fg2 ft2 fe)):=by
 obtain⟨wi,i1,i2⟩:=hi;obtain⟨g,g1,g2,g3,g4⟩:=hg;obtain⟨tt,t1,t2⟩:=ht;obtain⟨wi2,j1,j2⟩:=hi2;obtain⟨gg,h1,h2,h3,h4⟩:=hg2;obtain⟨tt2,u1,u2⟩:=ht2;obtain⟨te,e1,e2⟩:=he;have go1:j6 g (ks++ks2):=λ v Z H Q q=>g4 _ _ _ _ _ (λ Z' H' ⟨a,b,c⟩=>⟨a,b,λ k hk=>c k λ z=>hk (zAa _ z)⟩) (g3 v Z H Q q)
 refine⟨_,λ i=>aG4 (pos:=pos) (hB i) (C.calm i) (i1 i) (λ c fp z5 z0=>g1 (i,c,fp,z5,z0)) go1 (λ c fp z5 z0=>t1 (i,c,fp,z5,z0)) (aAY elt tg iter tg2 iter2 ifs ifs2 sc pos) (vI rfl (λ _ _ _ _=>rfl) λ _ _ _ _ _=>rfl) aDe ?_ rfl rfl (hs i),aE4 i2 g2 g3 g4 hk t2 j2 h2 u2 e2⟩;intro c fp z5 z0;exact aCy (C.calm i) (λ _ _ h=>h) (aAX elt tg iter tg2 iter2 ifs ifs2 sc pos) (vI rfl (λ _ _ _ _=>rfl) λ _ _ _ _ _=>rfl) (j1 (i,c,fp,z5,z0)) (h1 (i,c,fp,z5,z0)) h3 (u1 (i,c,fp,z5,z0)) (aFC (e1 (i,c,fp,z5,z0))) (hs2 (i,c,fp,z5,z0))
end
end VL
namespace HT
open PySem PySem.Spec PyProof.Rows
end HT
namespace VL
open PySem PySem.Spec PyProof.Rows L2
end VL
namespace PySem.AutoSeq1
end PySem.AutoSeq1
namespace VL
open PySem PySem.Spec PyProof.Rows L2
def Enr(K:zAA)(x:Str)(st:Stmt)(f:Addr)(fd:zAy):Prop:=L2.Fun K x x st f fd/\zAd K zAX x=some (some (.ref f))
def enr{K:zAA}{st:Stmt}{oc kV dc pm cd ct:Value}(a:zAd K zAX x=some (some (.ref f)))
  (l:K.lookup f=some ⟨oc,od,.func (zB6 x x (iu st) (bY st) (aF st) .none kV dc pm an cd ct),sl⟩)(c:zCe K cd x=true)(k:zB4 K (.ref f)=true):∃f fd,Enr K x st f fd:=⟨f,_,aFj (st:=st) l c k,a⟩
structure Dnr(K:zAA)(mg:Str->Option Value)(x:Str)(st:Stmt)(ps:List Str)(f:Addr)(d:zAy):Prop where
 F:L2.Fun K x x st f d
 m:mg x=some (.ref f)
 b:L2.Binds K d ps []
section
variable{C:Ct}
def bz{st:Stmt}(hF:dC C.prog C.w C.K C.mg C.base (CX1 C.prog C.w) k fn fd ps (spF C.K C.G.cl n F))(D:Dnr C.K C.mg x st ps fn fd)(ha:SA C m (e::es) ga)(hr:k<=C.k:=by exact zFZ rfl)(hg:∀i,Gl (C.X i) x:=by intro _;rfl)
  (hn:∀ρ ds,ga ρ= .ok ds->ds.length=n:=by repeat (first|exact λ _ _ h=>aDO h|apply aB1))(hdb:Nd x:=by decide)(he:∀i,zAY (e::es) (C.X i).env=(false,eval e (C.X i).env)::zAY es (C.X i).env:=by intro _;rfl)
  (hpl:∀i,(zCQ pos (zAY es (C.X i).env)).any (·.1)=false:=by intro _;rfl):SE C (some []) (.Call (.Name x p) (e::es) [] pos) (bH F ga):=aCg hF hr D.m D.F.kp D.b ha hn hdb he hpl hg
end
def eO{P:zAS}{w:World}{K:zAA}{st:Stmt}(D:Dnr K mg q st ps fn fd)(S:aq N ps (aF st))(hb:N.Nodup->∀cdv A outer s H E hr,SSs (ctD P w K mg base N q (aF st) fn cdv A outer s H E k hr) (bY st) f)(hn:ps.length=n:=by rfl)(hF:gR N.length f=FF:=by rfl):
  dC P w K mg base (CX1 P w) (k+1) fn fd ps (spF K (aY mg) n FF):=aD7 D.F S (hb S.nd) hn hF
def yD(items:Array Value)(nss:Nat->List Int)(h:Heap):Prop:=∀i v,items[i]? =some v->∃x its,v= .ref x/\IsTup h x its/\zBo its.toList (nss i)
def wg(items:Array Value):List Addr:=items.toList.filterMap λ v=>match v with| .ref x=>some x|_=>none
def w6{items:Array Value}{i:Nat}(h:items[i]? =some (zBb x)):x∈wg items:=by
 unfold wg;rw[zBq];exact⟨.ref x,by have:=zBM (l:=items.toList) (i:=i) (by simpa using h);exact this,rfl⟩
def yD.keep(T:yD items nss h)(k:∀b∈wg items,∀o,h.get? b=some o->h'.get? b=some o):yD items nss h':=λ i v e=>by
 obtain⟨x,its,rfl,⟨o,h1,h2⟩,h3⟩:=T i v e;exact⟨x,its,rfl,⟨o,k x (w6 e) o h1,h2⟩,h3⟩
end VL
namespace PySem
open Sem(wp)
section
variable{prog:zAS}{w:World}
inductive ut{K:Type}[DecidableEq K](knd:KeyKind prog w K)(h:Heap):List Value->List (K×Value)->Prop where
 |nil:ut knd h [] []
 |cons {x:Addr} {o:Obj} {n:Nat} {kv v:Value} {k:K} {us:List Value} {ps:List (K×Value)} (ho:h.get? x=some o) (hc:o.cls= .type "tuple") (hd:o.data= .seq #[kv,v] n) (hk:knd.is k kv=true) (r:ut knd h us ps):ut knd h (.ref x::us) ((k,v)::ps)
end
end PySem
namespace VL
open PySem PySem.Spec PyProof.Rows L2
section
variable{K:Type}[DecidableEq K]
end
end VL
namespace L2
open PySem PySem.Spec PyProof.Rows
def sr:Value->Bool
 | .bool b=>b
 |_=>false
theorem tM:∀{bs:List Bool} {us:List Value},Vals (bs.map V.bl) us->us=bs.map zCf
 |[],_,.nil=>rfl
 |b::bs,_,.cons h t=>by rw[tM t];cases h;rfl
def zF{A:zA8}{s:zAB}{bs:List Bool}:∀y∈bs.map zCf,zDM A s y (.bool true) (sr y):=λ y hy=>by
 obtain⟨b,_,rfl⟩:=zC3.mp hy
 have:=zEe (A:=A) (s:=s) b true
 cases b<;>exact this
def aCm:V->List V->Hp->VK->Prop:=λ x xs H Q=>∃(a:Addr) (bs:List Bool),x= .ref a/\xs=[.bl true]/\H a=some (.lst (bs.map V.bl))/\Q (.int (bs.count true:Nat)) H
def aCk:V->List V->Hp->VK->Prop:=λ x xs H Q=>∃(a:Addr) (bs:List Bool) (j:Nat),x= .ref a/\xs=[.bl true]/\H a=some (.lst (bs.map V.bl))/\bs[j]? =some true/\(∀m,m<j->bs[m]? =some false)/\Q (.int (j:Nat)) H
section
variable{X:Cx}
def zc:MtR X "list.count" aCm:=by
 intro pins s Z H x xs v us Q I rx rxs h;obtain⟨a,bs,rfl,rfl,ha,q⟩:=h;cases rx;obtain⟨u,rfl,ru⟩:=vals1 rxs;cases ru;obtain⟨_,its,n,rv,e⟩:=I.hok a _ ha;have ei:=tM rv;subst ei;refine zCX zEb ⟨_,e,rfl⟩ PySem.F.entry_list_count (PySem.F.args_list_count_2 _ _) (SeqAt.list_countAt a _ n none #[] (.bool true) sr) ⟨e,λ y hy=>zF y (by simpa using hy),?_⟩
 have:(bs.map zCf).countP sr=bs.count true:=by
  rw[List.countP_map];unfold List.count;congr 1;funext b;cases b<;>rfl
 rw[show(bs.map zCf).toArray.toList=bs.map zCf from rfl,this];exact⟨.int _,H,I.tok _,⟨_,rfl⟩,q⟩
def za:MtR X "list.index" aCk:=by
 intro pins s Z H x xs v us Q I rx rxs h;obtain⟨a,bs,j,rfl,rfl,ha,hj,hm,q⟩:=h;cases rx;obtain⟨u,rfl,ru⟩:=vals1 rxs;cases ru;obtain⟨hz,its,n,rv,e⟩:=I.hok a _ ha;have ei:=tM rv;subst ei;rw[zAH]at hz;have hl:=(zA4.mp hj).1;have h62:zAN<2^62:=by decide
 refine zCX zEc ⟨_,e,rfl⟩ PySem.F.entry_list_index (PySem.F.args_list_index_2 _ _) (SeqAt.list_indexAt a _ n none #[] (.bool true) sr j (by simpa using hl) (by lia) ?_ λ m hm1 hmj=>?_) ⟨e,λ y hy=>zF y (by simpa using hy),⟨.int _,H,I.tok _,⟨_,rfl⟩,q⟩⟩
 .rw[zAL hl]at hj
  simpa[sr]using hj
 .have h2:=hm m hmj
  rw[zAL (by lia)]at h2;simpa[sr]using h2
end
section
variable{X:Cx}{n0 n1 n2 odd:Str}{c1 c2:V}{k1 k2 k3 k4:List V}{l1 l2:List Str}{a1 a2:Expr}{as1 as2 e1 e2 e3 e4 w1 w2:List Expr}{kw1 kw2:List zCi}{Q:VK}{H:Hp}{vs:List V}
 {p1 p2 p3 p4 p5 p6 p7 p8 p9 p10 p11 p12 p13 p14 p15 p16 p17 p18 p19 p20 p21 p22 p23 p24 p25 p26 p27 p28 p29 p30 p31 p32 p33 p34 p35 p36 p37 p38 p39 p40:Pos}{q1 q2 q3 q4 q5 q6 q7:Pos}{j1 j2 j3 j4 j5:Nat}{E0:XK}{wd:Addr->Option Str}
end
section
variable{P:zAS}{w:World}{K:zAA}{mg:Str->Option Value}{base:Heap}{x q n0 n1 n2 odd:Str}{st:Stmt}{f:Addr}{fd:zAy}{k:Nat}{wd:Addr->Option Str}{c1 c2:V}{k1 k2 k3 k4:List V}{l1 l2:List Str}{a1 a2:Expr}{as1 as2 e1 e2 e3 e4 w1 w2:List Expr}{kw1 kw2:List zCi}
 {p1 p2 p3 p4 p5 p6 p7 p8 p9 p10 p11 p12 p13 p14 p15 p16 p17 p18 p19 p20 p21 p22 p23 p24 p25 p26 p27 p28 p29 p30 p31 p32 p33 p34 p35 p36 p37 p38 p39 p40:Pos}{q1 q2 q3 q4 q5 q6 q7:Pos}{j1 j2 j3 j4 j5:Nat}
end
section
variable{X:Cx}{n0 n1 n2 odd:Str}{c1 c2:V}{k1 k2 k3 k4:List V}{l1 l2:List Str}{a1 a2:Expr}{as1 as2 e1 e2 e3 e4 w1 w2:List Expr}{kw1 kw2:List zCi}{Q:VK}{H:Hp}{vs:List V}
 {p1 p2 p3 p4 p5 p6 p7 p8 p9 p10 p11 p12 p13 p14 p15 p16 p17 p18 p19 p20 p21 p22 p23 p24 p25 p26 p27 p28 p29 p30 p31 p32 p33 p34 p35 p36 p37 p38 p39 p40:Pos}{q1 q2 q3 q4 q5 q6 q7:Pos}{j1 j2 j3 j4 j5:Nat}{E0:XK}{wd:Addr->Option Str}
def wD(hN:X.N=[n0,n1,n2])(nd:X.N.Nodup)(m0:X.env.scope.names.lookup n0=some .local)(m1:X.env.scope.names.lookup n1=some .local)(m2:X.env.scope.names.lookup n2=some .local)
  (h1:PE X (.Call a1 as1 kw1 p1) (wQ X.K c1))(h2:PE X (.Call a2 as2 kw2 p2) (wQ X.K c2))(g1:PA X e1 (jD X.K k1))(g2:PA X e2 (jD X.K k2))(g3:PA X e3 (jD X.K k3))(g4:PA X e4 (jD X.K k4))(g5:PA X w1 (rU l1))(g6:PA X w2 (rU l2))
  (hl1:(p20.endLine==p21.line)=true)(hl2:(p30.endLine==p31.line)=true)(hz:(l1++l2).length<=100)(h:spW wd vs H Q E0)(hw:∀C w,wd C=some w->Wd X.K c1 c2 [k1,k2,k3,k4] (l1++l2) C w)
  (d0:Nd n0:=by decide)(d1:Nd n1:=by decide)(d2:Nd n2:=by decide)
  (f0:(n0==("__classdict__":Str))=false:=by decide)(f1:(n1==("__classdict__":Str))=false:=by decide)(f2:(n2==("__classdict__":Str))=false:=by decide):
  ∃t,PSs X [.If (.BoolOp .Or [.UnaryOp .Not (.Call a1 as1 kw1 p1) p3,.UnaryOp .Not (.Call a2 as2 kw2 p2) p4] p5) [.Return (some (.Constant (.str odd) j1 p6)) p7] [] p8,
   .Assign [.Name n1 p9] (.List e1 p10) p11,.Assign [.Name n1 p12] (.BinOp (.Name n1 p13) .Add (.List e2 p14) p15) p16,.Assign [.Name n1 p17] (.BinOp (.Name n1 p18) .Add (.List e3 p19) p22) p23,.Assign [.Name n1 p24] (.BinOp (.Name n1 p25) .Add (.List e4 p26) p27) p28,
   .If (.Compare (.Call (.Attribute (.Name n1 p29) "count" p20) [.Constant (.bool true) j2 p32] [] p21) [.NotEq] [.Constant (.int 1) j3 p33] p34) [.Return (some (.Constant (.str odd) j4 p35)) p36] [] p37,
   .Assign [.Name n2 p38] (.List w1 p39) p40,.Return (some (.Subscript (.BinOp (.Name n2 q1) .Add (.List w2 q2) q3) (.Call (.Attribute (.Name n1 q4) "index" p30) [.Constant (.bool true) j5 q5] [] p31) q6)) q7] t/\
   t {nx:=λ _ H'=>Q .non H',rt:=Q} (start X.N vs) H:=by
 obtain⟨ea,C,w,rfl,hH,hwd,hq⟩:=h;obtain⟨hk,hq1,hq2,b1,b2,b3,b4,j,k1',k2',k3',k4',ek,r1,r2,r3,r4,hlen,hcnt,hj,hjm,hjw⟩:=hw C w hwd;cases ek;have i0:X.N[0]? =some n0:=by rw[hN];rfl
 have i1:X.N[1]? =some n1:=by rw[hN];rfl
 have i2:X.N[2]? =some n2:=by rw[hN];rfl
 have v1:∀{pos:Pos},PE X (.Name n1 pos) (jo 1):=λ{pos}=>dq i1 (.inl m1) d1 f1
 have cat:∀{pp pq pr:Pos} {es:List Expr} {ks:List V},PA X es (jD X.K ks)->PE X (.BinOp (.Name n1 pp) .Add (.List es pq) pr) (tOp aAq (jo 1) (aDp (jD X.K ks))):=λ g=>aBF uL v1 (jd g)
 refine⟨_,cz (aAy (aEB (wu (aAt h1)) (aAs (wu (aAt h2)))).pt (iU (pZ cZ)) uI)
  (cz (iV nd i1 (.inl m1) (jd g1) (hf:=.inr m1)) (cz (iV nd i1 (.inl m1) (cat g2) (hf:=.inr m1)) (cz (iV nd i1 (.inl m1) (cat g3) (hf:=.inr m1)) (cz (iV nd i1 (.inl m1) (cat g4) (hf:=.inr m1))
  (cz (aAy (aEj (aFA (vY zBa zEb PySem.F.type_list_count zc v1 (aV aBJ cg) (hline:=hl1)) aBG)) (iU (pZ cZ)) uI)
  (cz (iV nd i2 (.inl m2) (jd g5) (hf:=.inr m2)) (iU (pZ (aEE yr (aBF uL (dq i2 (.inl m2) d2 f2) (jd g6)) (vY zBa zEc PySem.F.type_list_index za v1 (aV aBJ cg) (hline:=hl2)) λ _ _=>rfl))))))))),?_⟩
 have hs:start X.N [.ref ea]=[some (.ref ea),none,none]:=by rw[hN];rfl
 rw[hs];have sz:∀{n:Nat},n<=100->n<=zAN:=λ h=>zAr h (by decide)
 simp only[zAC]at hlen hz;refine tR (ea:=ea) rfl hH hk hq1 ⟨true,rfl,tR (ea:=ea) rfl hH hk hq2 ⟨true,rfl,?_⟩⟩;refine jL (ea:=ea) rfl hH hk r1 ⟨sz (by rw[zAH];omega),λ a1 H1 s1 ha1 _=>?_⟩;refine⟨.ref a1,rfl,jL (ea:=ea) rfl (s1 _ _ hH) hk r2 ⟨sz (by rw[zAH];omega),λ x2 G2 t2 hx2 _=>⟨a1,x2,_,_,rfl,rfl,t2 _ _ ha1,hx2,sz (by simp only[zAH];omega),λ a2 H2 s2 ha2 _=>?_⟩⟩⟩;have hH2:=s2 _ _ (t2 _ _ (s1 _ _ hH));refine⟨.ref a2,rfl,jL (ea:=ea) rfl hH2 hk r3 ⟨sz (by rw[zAH];omega),λ x3 G3 t3 hx3 _=>⟨a2,x3,_,_,rfl,rfl,t3 _ _ ha2,hx3,sz (by simp only[zAH,zAC];omega),λ a3 H3 s3 ha3 _=>?_⟩⟩⟩;have hH3:=s3 _ _ (t3 _ _ hH2);refine⟨.ref a3,rfl,jL (ea:=ea) rfl hH3 hk r4 ⟨sz (by rw[zAH];omega),λ x4 G4 t4 hx4 _=>⟨a3,x4,_,_,rfl,rfl,t4 _ _ ha3,hx4,sz (by simp only[zAH,zAC];omega),λ a4 H4 s4 ha4 _=>?_⟩⟩⟩;rw[<-zBV,<-zBV,<-zBV]at ha4;generalize hbs:b1++b2++b3++b4=bs at hcnt hj hjm ha4;refine⟨.ref a4,rfl,.inl ⟨rfl,_,.inl (.inl ha4)⟩,a4,bs,rfl,rfl,ha4,1,1,by rw[hcnt];rfl,rfl,false,rfl,?_⟩;refine pI ⟨sz (by rw[zAH];omega),λ a5 H5 s5 ha5 _=>?_⟩;refine⟨.ref a5,rfl,pI ⟨sz (by rw[zAH];omega),λ x6 G6 t6 hx6 _=>⟨a5,x6,_,_,rfl,rfl,t6 _ _ ha5,hx6,sz (by simp only[zAH];omega),λ a7 H7 s7 ha7 _=>?_⟩⟩⟩;have ha4':=s7 _ _ (t6 _ _ (s5 _ _ ha4));refine⟨.ref a4,rfl,.inl ⟨rfl,_,.inl (.inl ha4')⟩,a4,bs,j,rfl,rfl,ha4',hj,hjm,a7,_,_,.str w,rfl,rfl,.inl (.inl ha7),?_,?_⟩
 .rw[<-zBV]
  have hjl:j<(l1++l2).length:=(zA4.mp hjw).1;unfold atI ixN;rw[if_pos (Int.natCast_nonneg j),zAH,if_pos (by omega),zEI]
  show((l1++l2).map V.str)[j]? =_
  rw[zAi,hjw];rfl
 .exact hq _ λ b o e=>s7 _ _ (t6 _ _ (s5 _ _ (s4 _ _ (t4 _ _ (s3 _ _ (t3 _ _ (s2 _ _ (t2 _ _ (s1 _ _ e)))))))))
end
section
variable{P:zAS}{w:World}{K:zAA}{mg:Str->Option Value}{base:Heap}{x q n0 n1 n2 odd:Str}{st:Stmt}{f:Addr}{fd:zAy}{k:Nat}{wd:Addr->Option Str}{c1 c2:V}{k1 k2 k3 k4:List V}{l1 l2:List Str}{a1 a2:Expr}{as1 as2 e1 e2 e3 e4 w1 w2:List Expr}{kw1 kw2:List zCi}
 {p1 p2 p3 p4 p5 p6 p7 p8 p9 p10 p11 p12 p13 p14 p15 p16 p17 p18 p19 p20 p21 p22 p23 p24 p25 p26 p27 p28 p29 p30 p31 p32 p33 p34 p35 p36 p37 p38 p39 p40:Pos}{q1 q2 q3 q4 q5 q6 q7:Pos}{j1 j2 j3 j4 j5:Nat}
def aAF(F:Fun K x q st f fd)(S:aq [n0,n1,n2] [n0] (aF st))
  (hst:bY st=[.If (.BoolOp .Or [.UnaryOp .Not (.Call a1 as1 kw1 p1) p3,.UnaryOp .Not (.Call a2 as2 kw2 p2) p4] p5) [.Return (some (.Constant (.str odd) j1 p6)) p7] [] p8,
   .Assign [.Name n1 p9] (.List e1 p10) p11,.Assign [.Name n1 p12] (.BinOp (.Name n1 p13) .Add (.List e2 p14) p15) p16,.Assign [.Name n1 p17] (.BinOp (.Name n1 p18) .Add (.List e3 p19) p22) p23,.Assign [.Name n1 p24] (.BinOp (.Name n1 p25) .Add (.List e4 p26) p27) p28,
   .If (.Compare (.Call (.Attribute (.Name n1 p29) "count" p20) [.Constant (.bool true) j2 p32] [] p21) [.NotEq] [.Constant (.int 1) j3 p33] p34) [.Return (some (.Constant (.str odd) j4 p35)) p36] [] p37,
   .Assign [.Name n2 p38] (.List w1 p39) p40,.Return (some (.Subscript (.BinOp (.Name n2 q1) .Add (.List w2 q2) q3) (.Call (.Attribute (.Name n1 q4) "index" p30) [.Constant (.bool true) j5 q5] [] p31) q6)) q7])
  (m0:(aF st).names.lookup n0=some .local)(m1:(aF st).names.lookup n1=some .local)(m2:(aF st).names.lookup n2=some .local)
  (h:∀(cdv:Value) (A:zA8) (outer:List Env) (s:zAB) (H:Hp),PE (cxH P w K mg base [n0,n1,n2] q (aF st) f cdv A outer s H) (.Call a1 as1 kw1 p1) (wQ K c1)/\PE (cxH P w K mg base [n0,n1,n2] q (aF st) f cdv A outer s H) (.Call a2 as2 kw2 p2) (wQ K c2)/\
   PA (cxH P w K mg base [n0,n1,n2] q (aF st) f cdv A outer s H) e1 (jD K k1)/\PA (cxH P w K mg base [n0,n1,n2] q (aF st) f cdv A outer s H) e2 (jD K k2)/\PA (cxH P w K mg base [n0,n1,n2] q (aF st) f cdv A outer s H) e3 (jD K k3)/\
   PA (cxH P w K mg base [n0,n1,n2] q (aF st) f cdv A outer s H) e4 (jD K k4)/\PA (cxH P w K mg base [n0,n1,n2] q (aF st) f cdv A outer s H) w1 (rU l1)/\PA (cxH P w K mg base [n0,n1,n2] q (aF st) f cdv A outer s H) w2 (rU l2))
  (hl1:(p20.endLine==p21.line)=true)(hl2:(p30.endLine==p31.line)=true)(hz:(l1++l2).length<=100)(hw:∀C w,wd C=some w->Wd K c1 c2 [k1,k2,k3,k4] (l1++l2) C w)
  (d0:Nd n0:=by decide)(d1:Nd n1:=by decide)(d2:Nd n2:=by decide)
  (f0:(n0==("__classdict__":Str))=false:=by decide)(f1:(n1==("__classdict__":Str))=false:=by decide)(f2:(n2==("__classdict__":Str))=false:=by decide):
  FnH P w K mg base 1 f fd [n0] (spW wd):=by
 refine F.okH (k:=0) S (λ vs H Q E ⟨_,_,_,e,_⟩=>by rw[e];rfl) λ cdv A outer s H vs Q E hr hsp=>?_
 obtain⟨g1,g2,g3,g4,g5,g6,g7,g8⟩:=h cdv A outer s H;rw[hst];exact wD (X:=cxH P w K mg base [n0,n1,n2] q (aF st) f cdv A outer s H) rfl S.nd m0 m1 m2 g1 g2 g3 g4 g5 g6 g7 g8 hl1 hl2 hz hsp hw d0 d1 d2 f0 f1 f2
end
end L2
namespace VL
open PySem PySem.Spec PyProof.Rows L2
def dnr{K:zAA}{h:Heap}{mg:Str->Option Value}{x:Str}{st:Stmt}(X:K.In h)(G:h.Ns zAX mg)(e:∃f d,Enr K x st f d)(ps:List Str)
  (hb:∀(kV doc pm:Value) (an:Option Addr) (cdv ct:Value) (us:List Value),us.length=ps.length->zG9 (zB6 x x (iu st) (bY st) (aF st) .none kV doc pm an cdv ct) ⟨us,[]⟩=pure (ps.zip us):=by
   intro _ _ _ _ _ _ us hl;repeat' first|rfl|(simp at hl;done)|rcases us with _|⟨_,us⟩):∃f d,Dnr K mg x st ps f d/\zAd K zAX x=some (some (.ref f)):=by
 obtain⟨f,d,F,a⟩:=e;exact⟨f,d,⟨F,zA1 X G a,F.binds hb⟩,a⟩
def aFo(ds:List D)(k:List D->Ou):D->Ou
 | .lst es=>if ds.length+es.length<=zAN/\gZ es=true then k (ds++es)else .st
 |_=>.st
def aAE(i:Nat)(fe:En->Rs D):En->Ou:=λ ρ=>match ρ[i]? with
 |some (.ow (.lst ds))=>(fe ρ).bo (aFo ds λ l=>.nx (ρ.set i (.ow (.lst l))))
 |_=>.st
section
variable{C:Ct}{pos apos cpos p:Pos}{e:Expr}{fe:En->Rs D}{i:Nat}{x:Str}{m:Mode}
def wW(i:Nat)(he:SE C m e fe)(hm:okS m=true:=by rfl)(hN:∀j,(C.X j).N[i]? =some x:=by intro _;rfl)(hv:∀j,Vis (C.X j).env.scope x:=by intro _;first|exact zCd rfl|exact zBz (zCd rfl)|exact zBz (zBz rfl))(hd:Nd x:=by decide)
  (hcd:(x==("__classdict__":Str))=false:=by decide)(hs1:∀j,zAY [e] (C.X j).env=[(false,eval e (C.X j).env)]:=by intro _;rfl)
  (hbase:∀j,zDJ (.Name x p) "extend" (C.X j).env (eval (.Name x p) (C.X j).env)=eval (.Name x p) (C.X j).env:=by intro _;rfl)
  (hfew:∀j,((zCQ cpos (zAY [e] (C.X j).env)).all (λ x=>!x.1)&&(zFD cpos (zDc [] (C.X j).env)).all (λ x=>x.1.isSome)&&decide ([e].length+([]:List zCi).length+(if ([]:List zCi).isEmpty then 0 else 1)<30))=true:=by intro _;rfl)
  (hline:(apos.endLine==cpos.line)=true:=by rfl)
  (hsw:∀j,zD2 (.Call (.Attribute (.Name x p) "extend" apos) [e] [] cpos) none pos.line (C.X j).env=pure false:=by intro _;rfl):
  SS C (.Expr (.Call (.Attribute (.Name x p) "extend" apos) [e] [] cpos) pos) (aAE i fe):=by
 obtain⟨t,h1,h2⟩:=he;refine⟨rW (tBM C.K "list" lq (jo i) (jE t qx)),λ j=>mC (by rw[<-C.hK j];exact vY zBa zC7 zDI lG (dq (hN j) (hv j) hd hcd) (aV (h1 j) cg (hs1 j)) (hbase j) (hfew j) hline (hs1 j) rfl) (hsw j),λ U Z H ρ lab De R W=>?_⟩;unfold aAE at W;cases es:ρ[i]? with
 |none=>rw[es]at W;exact zAE W
 |some s=>
  rw[es]at W;split at W
  .rename_i ds hs
   cases hs;rcases R.sl i _ es with z|⟨v,ev,hv'⟩
   .cases z
   .obtain⟨hv1,htop⟩:=hv'
    obtain⟨a0,ea0,la0⟩:=htop rfl;subst ea0;obtain⟨a1,xs,ea1,h,mm,r⟩:=hv1.lst_inv;cases ea1;refine⟨.ref a0,ev,.inl ⟨rfl,xs,SqL.of h⟩,h2 U Z H ρ lab _ R (W.bo.imp λ d _ w y H2 s2 r2=>?_)⟩;cases d with
    |lst es'=>
     dsimp only[aFo]at w;by_cases hz:ds.length+es'.length<=zAN/\gZ es'=true
     .rw[if_pos hz]at w
      obtain⟨R',r'⟩:=R.shared hm s2 r2;have la:(bf H 1 lab a0).1=i+2:=by rw[bF h];exact la0
      obtain⟨b,zs,rfl,hb,mb,rb⟩:=r'.lst_inv;refine⟨a0,b,xs,zs,rfl,rfl,s2 _ _ h,hb,by rw[r.length,rb.length];exact hz.1,λ H3 B h3=>?_⟩;refine w Z H3 _ (R'.mut ev (s2 _ _ h) rfl la B ⟨.lst h3 (.inr la) ?_,λ _=>⟨a0,rfl,la⟩⟩);have ra:Rps C.K (λ p=>((bf H 1 lab p).1=1\/(bf H 1 lab p).1=i+2)/\p≠a0) H2 (xs++zs) (ds++es'):=
       (r.mono s2 λ p o e z=>⟨by rw[bF e];exact z.1,z.2⟩).append (rb.imm hz.2)
      exact ra.but B (s2 _ _ h) rfl λ z=>z.2 rfl
     .rw[if_neg hz]at w
      exact zAE w
    |_=>exact zAE w
  .exact zAE W
end
def xn(l b:Addr)(es:Array zFF)(ep:Nat)(sl:Array (Option Value))(items2:Array Value)(n2:Nat)(dd2:Option Addr)(sl2:Array (Option Value)):
  Meets (zE7.«dict.__eq__» ⟨[.ref l,.ref b],[]⟩) (λ _ R s=>s.heap.get? l=some {cls:=.type "dict",data:=.dict es ep,slots:=sl}/\s.heap.get? b=some {cls:=.type "tuple",dict:=dd2,data:=.seq items2 n2,slots:=sl2}/\R (.ok (.ret .notImplemented)) s):=
 .of_wp λ prog w A R s h=>by
  obtain⟨hp,g,d,tk,os⟩:=s;obtain⟨hl,hb,h⟩:=h;have f1:=zG2;wp_walk using zCp hl,zCp hb;exact⟨_,rfl,h⟩
def vB(l b:Addr)(es:Array zFF)(ep:Nat)(sl:Array (Option Value))(items2:Array Value)(n2:Nat)(dd2:Option Addr)(sl2:Array (Option Value)):
  Meets (zE7.«tuple.__eq__» ⟨[.ref b,.ref l],[]⟩) (λ _ R s=>s.heap.get? l=some {cls:=.type "dict",data:=.dict es ep,slots:=sl}/\s.heap.get? b=some {cls:=.type "tuple",dict:=dd2,data:=.seq items2 n2,slots:=sl2}/\R (.ok (.ret .notImplemented)) s):=
 .of_wp λ prog w A R s h=>by
  obtain⟨hp,g,d,tk,os⟩:=s;obtain⟨hl,hb,h⟩:=h;have f1:=F.sub_dict_tuple;wp_walk using zCp hl,zCp hb;exact⟨_,rfl,h⟩
def rB{A:zA8}{s:zAB}{l b:Addr}{es:Array zFF}{ep:Nat}{sl:Array (Option Value)}{items:Array Value}(hl:s.heap.get? l=some {cls:=.type "dict",data:=.dict es ep,slots:=sl})(hb:IsTup s.heap b items)(hu:A.units<cLine):SeqAt.RcAt A s (.ref l) (.ref b) false:=λ prog w E Q h=>by
 obtain⟨⟨cls2,dd2,data2,sl2⟩,ho2,hc2,n2,hd2⟩:=id hb;simp only at hc2 hd2;subst hc2 hd2;have hne:l≠b:=λ e=>by
  subst e;exact absurd (congrArg Obj.cls (zAf (hl.symm.trans ho2))) (show¬(zCM "dict"=zCM "tuple")by decide)
 exact(SeqAt.rc_eq_decline_or (k:=false) ⟨_,hl,rfl⟩ ⟨_,ho2,rfl⟩ (by decide) zG2 F.slot_dict_eq zFp
  (λ _ hq=>zCX F.slot_dict_eq ⟨_,hl,rfl⟩ F.entry_dict_eq (F.args_dict_eq_2 _ _) (xn l b es ep sl items n2 dd2 sl2) ⟨hl,ho2,hq⟩)
  (λ _ hq=>zCX zFp ⟨_,ho2,rfl⟩ F.entry_tuple_eq (F.args_tuple_eq_2 _ _) (vB l b es ep sl items n2 dd2 sl2) ⟨hl,ho2,hq⟩)
  (λ _ hq=>wpAny_isSame_ref_other hne hl ho2 (by simp) hq) (.inr hu) h)
def aG2(K:zAA):R2:=λ x y H Q=>zV K false x y H Q\/∃a kvs b ys,x= .ref a/\y= .ref b/\H a=some (.dK kvs)/\SqT K H b ys/\Q (.bl false) H
def aFO{X:Cx}(hu:X.A.units+64<cLine):OpR X (zB2 .Eq) (aG2 X.K):=by
 intro pins s Z H x y v u Q I rx ry h;rcases h with h|⟨a,kvs,b,ys,rfl,rfl,ha,hb,q⟩
 .exact aBK hu pins s Z H x y v u Q I rx ry h
 .cases rx
  cases ry;obtain⟨_,_,vs,_,o,es,ep,ho,hx,hd,_⟩:=I.hok a _ ha;obtain⟨its,_,ht,_⟩:=I.tuple hb;obtain⟨cls,dd,data,sl⟩:=o;obtain⟨h1,h2,h3⟩:=hx;simp only at h1 h2 hd;subst h1 h2 hd;exact rB ho ht (by lia) X.prog X.w X.xe _ ⟨.bl false,H,I,rfl,q⟩
def eqX:D->D->Rs D:=λ d e=>match d,e with
 | .dct [] _,.tup _=>.ok (.bl false)
 |d,e=>eqR false d e
def aFE{K:zAA}:OpS K (aG2 K) eqX:=by
 intro A x y d e H Q z rx ry ez q;unfold eqX at ez;split at ez
 .cases ez
  obtain⟨b,ys,rfl,hb,_⟩:=ry.tup_inv;generalize hk:D.dct [] _=dd at rx;cases rx with
  |dK h m r=>exact .inr ⟨_,_,b,ys,rfl,rfl,h,hb,q _ H (aM.refl H) (.bl _)⟩
  |dT h m r=>cases hk
  |_=>cases hk
 .exact .inl (os_eq A x y _ _ H Q z rx ry ez q)
section
variable{C:Ct}{pos:Pos}{m1 m2:Mode}{a b:Expr}{fa fb:En->Rs D}
def aE0(ha:SE C m1 a fa)(hb:SE C m2 b fb):ST C (.Compare a [.Eq] [b] pos) (tsb (op2 eqX fa fb)):=kW (λ i=>by rw[<-C.hK i];exact aFO (C.u64 i)) aFE ha hb
end
def uZ(K:zAA)(x:Str)(Pt:Addr):Bool:=match zAd K zAX x with
 |some (some (.ref f))=>(match K.lookup f with
  |some ⟨_,_,.func fd,_⟩=>(match fd.code with| .ref c=>zDS K c Pt|_=>false)
  |_=>false)&&(K.lookup Pt).isNone
 |_=>false
def zr{K:zAA}{h:Heap}{mg:Str->Option Value}{fa Pt:Addr}{x:Str}(X:K.In h)(G:h.Ns zAX mg)(hm:mg x=some (.ref fa))(e:uZ K x Pt=true)
  {o:Obj}{fd:zAy}(lk:K.lookup fa=some o)(hd:o.data= .func fd):K.lookup Pt=none/\∃c,fd.code= .ref c/\zDS K c Pt=true:=by
 unfold uZ at e;split at e
 .rename_i f hf
  have e1:=(zA1 X G hf).symm.trans hm;cases e1;rw[zAO]at e;refine⟨by simpa using e.2,?_⟩;have e2:=e.1;rw[lk]at e2;split at e2
  .rename_i fd' _ q
   have q2:=zAf q;rw[q2]at hd;have hd2:Data.func fd'=Data.func fd:=hd;cases hd2;split at e2
   .rename_i c hc
    exact⟨c,hc,e2⟩
   .cases e2
  .cases e2
 .cases e
def aDP{P:zAS}{w:World}{K:zAA}{h:Heap}{mg:Str->Option Value}{fa Pt:Addr}{fd:zAy}{k n:Nat}{x:Str}{N:List Str}{st:Stmt}{f:En->Ou}{F:List D->Rs D}(X:K.In h)(G:h.Ns zAX mg)
  (hB:uZ K "law" Pt=true){ps:List Str}(e:Dnr K mg "law" st ps fa fd)(S:aq N [x] (aF st))
  (hbind:∀(kV doc pm:Value) (an:Option Addr) (cdv ct:Value) (s:zAB) (u:Value),zFc s (zB6 "law" "law" (iu st) (bY st) (aF st) .none kV doc pm an cdv ct) ⟨[u],[]⟩ [(x,u)])
  (body:∀(base:Heap) (c:Addr) (s:zAB) (H:Hp) (hr:cX k (zCN.deeper (zC6 "law" (aF st) s.heap.objs.size fa (.ref c)))),oM (cxW P w K mg base N "law" (aF st) fa (.ref c) zCN s H Pt) Pt->zEr N->
   SSs (ctW P w K mg base N "law" (aF st) fa (.ref c) zCN s H Pt k hr) (bY st) f)
  (hF:F=gR N.length f)(tru:∀ns:List Int,ns.length<=n->F [.scr ns]= .ok (.bl true)):zN P w K mg fa Pt k n:=by
 obtain⟨oc,od,kV,doc,pm,an,cdv,ct,osl,e1,lk,hcd⟩:=e.F.ex;obtain⟨h1,c,h2,h3⟩:=zr X G e.m hB lk rfl;subst e1;obtain rfl:cdv= .ref c:=h2;exact⟨x,"law","law",_,_,_,_,kV,doc,pm,ct,oc,an,od,c,osl,N,h1,h3,lk,hcd,S,λ s u=>hbind kV doc pm an _ ct s u,λ a ns hl base s H hr Lx hO hS=>
  aB6 (body base c s H hr Lx S.nd) (by rw[<-hF];exact tru ns hl) (.cons (.scr (aEc hO hS)) .nil)⟩
section
variable{ρ:En}{i:Nat}{f g:En->Rs D}{fb gb:En->Rs Bool}{ga:En->Rs (List D)}{u v:En->Ou}{d:D}
@[simp] def varD_ap:wL i ρ=match ρ[i]? with
 |some (.sh d)=>.ok d
 |some (.nw d)=>.ok d
 |some (.ow d)=>.ok d
 |some (.oz d)=>.ok d
 |some (.o2 l)=>.ok (.lst (l.map .lst))
 |_=>.st:=aJ rfl
@[simp] def aCZ:aD i ρ=match ρ[i]? with
 |some (.sh d)=>.ok d
 |some (.nw d)=>.ok d
 |_=>.st:=aJ rfl
@[simp] def varN_ap:gr i ρ=match ρ[i]? with
 |some (.nw d)=>.ok d
 |_=>.st:=aJ rfl
@[simp] def varO_ap:ux i ρ=match ρ[i]? with
 |some (.ow d)=>.ok d
 |some (.o2 l)=>.ok (.lst (l.map .lst))
 |_=>.st:=aJ rfl
@[simp] def cD_ap:cD d ρ= .ok d:=aJ rfl
@[simp] def nilA_ap:aH ρ= .ok []:=aJ rfl
@[simp] def consA_ap:aA f ga ρ=(f ρ).bd λ d=>(ga ρ).bd λ ds=>.ok (d::ds):=aJ rfl
@[simp] def szl:zAN=16777216:=zDd
@[simp] def tupD_ap:bA ga ρ=(ga ρ).bd λ ds=>if ds.length<=16777216 then .ok (.tup ds)else .st:=by unfold bA;rw[szl]
@[simp] def lstD_ap:eZ ga ρ=(ga ρ).bd λ ds=>if ds.length<=16777216 then .ok (.lst ds)else .st:=by unfold eZ;rw[szl]
@[simp] def okD_ok:okD (.ok d)= .ok d:=aJ rfl
@[simp] def aFS:op2 fd f g ρ=(f ρ).bd λ x=>(g ρ).bd λ y=>okD (fd x y):=aJ rfl
@[simp] def op1_ap:op1 fd f ρ=(f ρ).bd λ x=>okD (fd x):=aJ rfl
@[simp] def opA_ap:opA fd ga ρ=(ga ρ).bd λ x=>okD (fd x):=aJ rfl
@[simp] def callD_ap:bH F ga ρ=(ga ρ).bd F:=aJ rfl
def aGp(d:D)(r:Rs D):Rs D:=match d with
 | .bl true=>r
 | .bl false=>.ok (.bl false)
 |_=>.st
@[simp] def andR_bl:aGp (.bl b) r=if b=true then r else .ok (.bl false):=by cases b<;>rfl
@[simp] def andD_ap:aFx f g ρ=(f ρ).bd λ d=>aGp d (g ρ):=aJ rfl
@[simp] def truD_bl:aC1 (.bl b)= .ok b:=aJ rfl
@[simp] def truD_lst:aC1 (.lst l)= .ok (!l.isEmpty):=aJ rfl
@[simp] def blD_bl:blD (.bl b)= .ok b:=aJ rfl
@[simp] def tst_ap:tst f ρ=(f ρ).bd aC1:=aJ rfl
@[simp] def aET:tsb f ρ=(f ρ).bd blD:=aJ rfl
@[simp] def orT_ap:orT fb gb ρ=(fb ρ).bd λ k=>if k=true then .ok true else gb ρ:=aJ rfl
@[simp] def notT_ap:z9 fb ρ=(fb ρ).bd λ k=>.ok (!k):=aJ rfl
@[simp] def bD:aa u v ρ=(u ρ).sq v:=aJ rfl
@[simp] def retS_ap:retS f ρ=(f ρ).bo .rt:=aJ rfl
@[simp] def dropS_ap:aBy f ρ=(f ρ).bo λ _=>.nx ρ:=aJ rfl
@[simp] def aFc:ifS fb u v ρ=(fb ρ).bo λ k=>if k=true then u ρ else v ρ:=aJ rfl
@[simp] def setS_ap:dU i f ρ=(f ρ).bo λ d=>.nx (ρ.set i (.sh d)):=aJ rfl
@[simp] def setN_ap:lW i f ρ=(f ρ).bo λ d=>.nx (ρ.set i (.nw d)):=aJ rfl
@[simp] def setO_ap:zR i f ρ=(f ρ).bo λ d=>.nx (ρ.set i (.ow d)):=aJ rfl
def aGB(ρ:En)(i:Nat):D->Ou
 | .lst ds=>.nx (ρ.set i (.oz (.lst ds)))
 |_=>.st
@[simp] def zSet_l(ρ:En)(i:Nat)(ds:List D):aGB ρ i (.lst ds)= .nx (ρ.set i (.oz (.lst ds))):=aJ rfl
@[simp] def setZ_ap:aAg i f ρ=(f ρ).bo (aGB ρ i):=by
 unfold aAg;congr 1
@[simp] def gf:gnm i d ρ= .ok (ρ.set i (.sh d)):=aJ rfl
@[simp] def gnil_nil:jr [] ρ= .ok ρ:=aJ rfl
@[simp] def gcons_cons:bZ a b (d::ds) ρ=(a d ρ).bd (b ds):=aJ rfl
@[simp] def gtup_tup:jU n b (.tup ds) ρ=if ds.length=n then b ds ρ else .st:=aJ rfl
def nxO(r:Rs En):Ou:=match r with
 | .ok ρ=>.nx ρ
 |_=>.st
@[simp] def itD_tup:itD (.tup l)= .ok l:=aJ rfl
@[simp] def itD_lst:itD (.lst l)= .ok l:=aJ rfl
@[simp] def itrD_ap:nH f ρ=(f ρ).bd itD:=aJ rfl
@[simp] def zB:jW ga a u ρ=(ga ρ).bo λ ds=>forL a u ds ρ:=aJ rfl
@[simp] def forL_nil:forL a u [] ρ= .nx ρ:=aJ rfl
noncomputable def Ou.tn(o:Ou)(k:En->Ou):Ou:=match o with
 | .nx ρ2=>k ρ2
 | .ct ρ2=>k ρ2
 | .bk ρ2=>.nx ρ2
 |o=>o
@[simp] def yI:(Ou.nx ρ).tn k=k ρ:=aJ rfl
@[simp] def tn_rt:(Ou.rt d).tn k= .rt d:=aJ rfl
def okE(r:Rs En)(k:En->Ou):Ou:=match r with
 | .ok ρ=>k ρ
 |_=>.st
@[simp] def eV:okE (.ok ρ) k=k ρ:=aJ rfl
def iD:forL a u (d::ds) ρ=okE (a d ρ) λ ρ1=>(u ρ1).tn (forL a u ds):=by
 unfold forL;cases a d ρ with
 |ok ρ1=>simp only[eV];cases u ρ1<;>rfl
 |ex c=>rfl
 |st=>rfl
@[simp] def oNone_ap:rn ρ= .ok none:=aJ rfl
@[simp] def oSome_ap:jw f ρ=(f ρ).bd λ d=>match d with
 | .int i=>.ok (some i)
 |_=>.st:=aJ rfl
@[simp] def sliceD_ap:jM f a b ρ=(f ρ).bd λ d=>(a ρ).bd λ l=>(b ρ).bd λ h=>okD (slD d l h):=aJ rfl
@[simp] def slD_lst:slD (.lst l) a b= .ok (.lst (cutD l a b)):=aJ rfl
@[simp] def immD_ap:bG f ρ=(f ρ).bd vq:=aJ rfl
@[simp] def rngA_ap:dF r ga ρ=(ga ρ).bd r:=aJ rfl
@[simp] def raiseS_ap:uG x ga ρ=(ga ρ).bo λ ds=>if ds.length<=16777216 then .ex x else .st:=by unfold uG;rw[szl]
@[simp] def yesT_ap:cj ρ= .ok true:=aJ rfl
end
section
variable{d e:D}{i j:Int}{l m:List D}
def zA(h:imm d=true):vq d= .ok d:=by unfold vq;rw[if_pos h]
@[simp] def gImm_int:vq (.int i)= .ok (.int i):=aJ rfl
@[simp] def addD_int:bJ (.int i) (.int j)= .ok (.int (i+j)):=aJ rfl
@[simp] def addD_lst:bJ (.lst l) (.lst m)=if l.length+m.length<=16777216 then .ok (.lst (l++m))else .st:=by unfold bJ;rw[szl]
@[simp] def subD_int:aC4 (.int i) (.int j)= .ok (.int (i-j)):=aJ rfl
def sJ(h0:0<j)(h1:j<1073741824):oG (.int i) (.int j)= .ok (.int (i / j)):=by unfold oG i2;dsimp only;rw[if_pos (by simp[h0,h1])]
def jR(h0:0<j):nG (.int i) (.int j)= .ok (.int (i%j)):=by unfold nG i2;dsimp only;rw[if_pos (by simp[h0])]
def uQ(h0: -(2^64)<i)(h1:i<2^64):dm (.int i) (.int j)= .ok (.int (i*j)):=by unfold dm;dsimp only;rw[if_pos (by simp only[zE2,zAO,decide_eq_true_eq];exact .inl ⟨h0,h1⟩)]
def aBV(h0: -(2^64)<j)(h1:j<2^64):dm (.int i) (.int j)= .ok (.int (i*j)):=by unfold dm;dsimp only;rw[if_pos (by simp only[zE2,zAO,decide_eq_true_eq];exact .inr ⟨h0,h1⟩)]
@[simp] def ltD_int:ltD (.int i) (.int j)= .ok (.bl (decide (i<j))):=aJ rfl
@[simp] def gtD_int:gtD (.int i) (.int j)= .ok (.bl (decide (j<i))):=aJ rfl
@[simp] def geD_int:geD (.int i) (.int j)= .ok (.bl (decide (j<=i))):=aJ rfl
@[simp] def lenD_tup:jq [.tup l]= .ok (.int l.length):=aJ rfl
@[simp] def lenD_lst:jq [.lst l]= .ok (.int l.length):=aJ rfl
@[simp] def lenD_scr:jq [.scr x]= .ok (.int x.length):=aJ rfl
@[simp] def tupleD_lst:jK [.lst l]= .ok (.tup l):=aJ rfl
@[simp] def mmD_int:mmD f [.int i,.int j]= .ok (.int (f i j)):=aJ rfl
@[simp] def ixD_tup:ixD (.tup l) (.int i)=atD l i:=aJ rfl
@[simp] def ixD_lst:ixD (.lst l) (.int i)=atD l i:=aJ rfl
@[simp] def ixD_scr:ixD (.scr x) (.int i)=atD (x.map .int) i:=aJ rfl
def ur{k:Nat}(h:l[k]? =some d):atD l (k:Int)= .ok d:=by
 have hk:=(zA4.mp h).1;unfold atD atI ixN;rw[if_pos (by omega),if_pos (by omega)];simp[h]
def xx(h0:0<=i)(h1:i<l.length):∃d,atD l i= .ok d/\d∈l/\l[i.toNat]? =some d:=by
 have hk:i.toNat<l.length:=by omega
 have e:=zAL hk;refine⟨_,?_,zCW hk,e⟩
 have:=ur e
 rwa [zDq h0]at this
@[simp] def atD_0{r:List D}:atD (d::r) 0= .ok d:=ur (k:=0) rfl
@[simp] def atD_1{r:List D}:atD (d::e::r) 1= .ok e:=ur (k:=1) rfl
@[simp] def eqR_int:eqR n (.int i) (.int j)= .ok (.bl (if n then !(i==j)else i==j)):=aJ rfl
def knd:D->Bool
 | .set _=>false
 | .scr _=>false
 | .fn _=>false
 |_=>true
def aDW(hT:T∈["bool","int","str","list","tuple","dict"])(h:knd d=true):qT T d= .ok (.bl (aDV (tyD d) T)):=by
 have ht:tyD d∈["NoneType","bool","int","str","list","tuple","dict"]:=by cases d<;>simp_all [tyD,knd]
 unfold qT jy;cases e:aDV (tyD d) T<;>simp[ht,hT]
def u9:D->Bool
 | .tup _=>true
 |_=>false
def nJ(h:knd d=true):qT "tuple" d= .ok (.bl (u9 d)):=by
 rw[aDW (by simp) h];cases d<;>first|rfl|(simp[knd]at h)
@[simp] def rF:qT "tuple" (.tup l)= .ok (.bl true):=nJ rfl
end
@[simp] def gA:gR n u ds=match u (bC n ds)with
 | .nx _=>.ok .non
 | .rt d=>.ok d
 | .ex c=>.ex c
 |_=>.st:=aJ rfl
def lZ(h0: -(2^62)<=j)(h1:j<2^62):lC [.int j]= .ok (gU 0 j):=by unfold lC;dsimp only;rw[if_pos ⟨h0,h1⟩]
def yX(h0: -(2^62)<=i)(h1:i<2^62)(h2: -(2^62)<=j)(h3:j<2^62):gW [.int i,.int j]= .ok (gU i j):=by unfold gW;dsimp only;rw[if_pos ⟨⟨h0,h1⟩,h2,h3⟩]
def aBX{lo hi:Int}:d∈gU lo hi↔∃k:Int,d= .int k/\lo<=k/\k<hi:=by
 unfold gU;rw[zC3];constructor
 .rintro⟨n,hn,rfl⟩
  have:=zBs.mp hn
  exact⟨lo+n,rfl,by omega,by omega⟩
 .rintro⟨k,rfl,h1,h2⟩
  exact⟨(k-lo).toNat,zBs.mpr (by omega),by congr 1;omega⟩
def q9(I:Nat->En->Prop)(hs:∀(i:Nat) d ρ,ds[i]? =some d->I i ρ->∃ρ2,okE (a d ρ) (λ ρ1=>u ρ1)= .nx ρ2/\I (i+1) ρ2)(h0:I 0 ρ):∃ρ',forL a u ds ρ= .nx ρ'/\I ds.length ρ':=by
 have go:∀(n:Nat) (ρ:En),n<=ds.length->I (ds.length-n) ρ->∃ρ',forL a u (ds.drop (ds.length-n)) ρ= .nx ρ'/\I ds.length ρ':=by
  intro n;induction n with
  |zero=>intro ρ _ h;exact⟨ρ,by rw[zF2,zCV];rfl,h⟩
  |succ n ih=>
   intro ρ hn h;have hlt:ds.length-(n+1)<ds.length:=by omega
   rw[zBF hlt,iD];obtain⟨ρ2,e,h2⟩:=hs _ _ ρ (zAL hlt) h;rw[show ds.length-(n+1)+1=ds.length-n by omega]at h2 ⊢;cases ea:a ds[ds.length-(n+1)] ρ with
   |ok ρ1=>
    rw[ea]at e;simp only[eV]at e ⊢;rw[e,yI];exact ih ρ2 (by omega) h2
   |ex c=>rw[ea]at e;cases e
   |st=>rw[ea]at e;cases e
 have:=go ds.length ρ (zAP _) (by rw[zF1];exact h0)
 rwa [zF1,zBf]at this
end VL
namespace VL.My
open PySem L2
def az:D:=(.tup [(.str "one")])
def wdN:Str->Option Str:=λ c=>((["NoWeb","NoPlace","NoWay","NoParting","TooMany","NoForest","NoPlan","NoOneWay","NoOrder","NoText","NoDeed","NoRow"]:List Str).zip (["web","place","way","parting","many","forest","plan","one way","order","text","deed","row"]:List Str)).lookup c
def aW:En->Ou:=
  (aa (ifS (orT (z9 (tst (op1 (qT "tuple") (aD 0)))) (orT (tsb (op2 (eqR true) (opA jq (aA (aD 0) aH)) (cD (.int 2)))) (tsb (op2 (inR true) (op2 ixD (aD 0) (cD (.int 0))) (bA (aA (cD (.str "beside")) (aA (cD (.str "across")) aH)))))))
   (retS (cD (.bl false)))
   Ou.nx)
  (retS (aFx (op1 (qT "tuple") (op2 ixD (aD 0) (cD (.int 1)))) (op2 geD (opA jq (aA (op2 ixD (aD 0) (cD (.int 1))) aH)) (cD (.int 2))))))
def aX:List D->Rs D:=gR 1 aW
def bw:En->Ou:=
  (aa (ifS (tsb (op2 ltD (aD 1) (opA jq (aA (aD 0) aH))))
   (retS (bG (op2 ixD (aD 0) (aD 1))))
   Ou.nx)
  (retS (cD (.int 0))))
def cJ:List D->Rs D:=gR 2 bw
def cP:En->Ou:=
  (aa (ifS (tsb (op2 geD (aD 0) (op2 aEo (cD (.int 10)) (cD (.int 18)))))
   (aa (dU 3 (aD 0))
   (aa (jW (dF lC (aA (aD 1) aH)) (gnm 4)
    (aa (ifS (tsb (op2 (eqR false) (aD 3) (cD (.int 0))))
     (retS (cD (.int 0)))
     Ou.nx)
    (dU 3 (op2 oG (aD 3) (aD 2)))))
   (retS (op2 nG (aD 3) (aD 2)))))
   Ou.nx)
  (aa (dU 5 (op2 nG (op2 dm (op2 bJ (op2 bJ (op2 nG (aD 0) (cD (.int 1000000007))) (op2 dm (cD (.int 1009)) (aD 1))) (cD (.int 17))) (cD (.int 69621))) (cD (.int 2147483647))))
  (aa (dU 5 (op2 nG (op2 bJ (op2 bJ (op2 dm (aD 5) (aD 5)) (op2 dm (cD (.int 40503)) (aD 1))) (cD (.int 5))) (cD (.int 2147483629))))
  (retS (op2 nG (op2 oG (op2 nG (op2 dm (aD 5) (cD (.int 48271))) (cD (.int 2147483647))) (cD (.int 32))) (aD 2))))))
def aZ:List D->Rs D:=gR 6 cP
def fG:En->Ou:=
  (aa (aAg 1 (eZ (aA (bA (aA (aD 0) (aA (cD (.int 1)) aH))) aH)))
  (aa (dU 2 (cD (.int 0)))
  (aa (m8 (tst (wL 1))
   (aa (zX 1 (jU 2 (bZ (gnm 3) (bZ (gnm 4) jr))))
   (aa (ifS (tsb (op2 eqX (aD 3) (cD az)))
    (aAK (i2 (λ _ _=>true) λ a b=>.int (a+b)) 2 (cD (.int 1)))
    (ifS (tst (bH aX (aA (aD 3) aH)))
     (aAD 1 (lcZ (nH (op2 ixD (aD 3) (cD (.int 1)))) [none,some 4] (gnm 0) cj (bA (aA (aD 0) (aA (op2 bJ (aD 1) (cD (.int 1))) aH)))))
     (retS (cD (.bl false)))))
   (ifS (orT (tsb (op2 gtD (aD 2) (cD (.int 40)))) (tsb (op2 gtD (aD 4) (cD (.int 24)))))
    (retS (cD (.bl false)))
    Ou.nx))))
  (retS (cD (.bl true))))))
def eG:List D->Rs D:=gR 5 fG
def du:En->Ou:=
  (aa (lW 3 (op2 dm (eZ (aA (bA (aA (cD (.str "one")) aH)) aH)) (bG (aD 2))))
  (aa (jW (dF lC (aA (aD 2) aH)) (gnm 4)
   (ifS (tsb (op2 gtD (opA jq (aA (gr 3) aH)) (cD (.int 1))))
    (aa (dU 5 (op2 bJ (cD (.int 2)) (bH aZ (aA (aD 0) (aA (op2 bJ (aD 1) (op2 dm (cD (.int 3)) (aD 4))) (aA (cD (.int 3)) aH))))))
    (aa (dU 6 (bH aZ (aA (aD 0) (aA (op2 bJ (op2 bJ (aD 1) (op2 dm (cD (.int 3)) (aD 4))) (cD (.int 1))) (aA (opA (mmD λ i j=>if j>i then j else i) (aA (cD (.int 1)) (aA (op2 bJ (op2 aC4 (opA jq (aA (gr 3) aH)) (aD 5)) (cD (.int 1))) aH))) aH)))))
    (aa (lW 7 (op2 ixD (eZ (aA (cD (.str "beside")) (aA (cD (.str "across")) aH))) (bH aZ (aA (aD 0) (aA (op2 bJ (op2 bJ (aD 1) (op2 dm (cD (.int 3)) (aD 4))) (cD (.int 2))) (aA (cD (.int 2)) aH))))))
    (lW 3 (op2 bJ (op2 bJ (jM (gr 3) rn (jw (aD 6))) (eZ (aA (bA (aA (gr 7) (aA (opA jK (aA (jM (gr 3) (jw (aD 6)) (jw (op2 bJ (aD 6) (aD 5)))) aH)) aH))) aH))) (jM (gr 3) (jw (op2 bJ (aD 6) (aD 5))) rn))))))
    Ou.nx))
  (retS (op2 ixD (gr 3) (cD (.int 0))))))
def dM:List D->Rs D:=gR 8 du
def cF:En->Ou:=
  (ifS (z9 (tst (bH eG (aA (aD 0) aH))))
   (uG "NoPlan" (aA (cD (.str "this is no plan")) aH))
   Ou.nx)
def cY:List D->Rs D:=gR 1 cF
def bB(R:List D->Rs D):En->Ou:=
  (aa (ifS (tsb (op2 (eqR false) (aD 0) (cD az)))
   (retS (bA (aA (op2 bJ (bG (aD 1)) (cD (.int 1))) (aA (eZ aH) aH))))
   Ou.nx)
  (aa (dU 2 (aD 1))
  (aa (zR 3 (eZ aH))
  (aa (jW (nH (op2 ixD (aD 0) (cD (.int 1)))) (gnm 4)
   (aa (nU (bH R (aA (aD 4) (aA (aD 2) aH))) (jU 2 (bZ (gnm 5) (bZ (gnm 6) jr))))
   (aa (aAE 3 (aD 6))
   (aa (ifS (tsb (op2 (eqR false) (op2 ixD (aD 0) (cD (.int 0))) (cD (.str "across"))))
    (nP 3 (qR (dF gW (aA (aD 1) (aA (aD 2) aH))) [none,none,some 2,some 5] (gnm 0) cj (inL (dF gW (aA (aD 2) (aA (aD 3) aH))) (gnm 1) cj (bA (aA (bG (aD 0)) (aA (bG (aD 1)) aH))))))
    Ou.nx)
   (dU 2 (aD 5))))))
  (retS (bA (aA (bG (aD 2)) (aA (ux 3) aH))))))))
def bR:Nat->List D->Rs D
 |0=>λ _=>.st
 |n+1=>gR 7 (bB (bR n))
def gm:List D->Rs D:=bR 64
def bI(R:List D->Rs D):En->Ou:=
  (aa (ifS (tsb (op2 (eqR false) (aD 0) (bA (aA (cD (.str "one")) aH))))
   (retS (bA (aA (cD (.int 1)) (aA (eZ aH) aH))))
   Ou.nx)
  (aa (dU 1 (cD (.int 0)))
  (aa (zR 2 (eZ aH))
  (aa (jW (nH (op2 ixD (aD 0) (cD (.int 1)))) (gnm 3)
   (aa (nU (bH R (aA (aD 3) aH)) (jU 2 (bZ (gnm 4) (bZ (gnm 5) jr))))
   (aa (nP 2 (lcD (nH (aD 5)) [none,none,some 1] (jU 2 (bZ (gnm 0) (bZ (gnm 1) jr))) cj (bA (aA (op2 bJ (bG (aD 2)) (bG (aD 0))) (aA (op2 bJ (bG (aD 2)) (bG (aD 1))) aH)))))
   (aa (ifS (tsb (op2 (eqR false) (op2 ixD (aD 0) (cD (.int 0))) (cD (.str "across"))))
    (jW (dF lC (aA (aD 1) aH)) (gnm 6)
     (nP 2 (lcD (dF lC (aA (aD 4) aH)) [none,some 6,some 1] (gnm 0) cj (bA (aA (bG (aD 1)) (aA (op2 bJ (bG (aD 2)) (bG (aD 0))) aH))))))
    Ou.nx)
   (dU 1 (op2 bJ (aD 1) (aD 4)))))))
  (retS (bA (aA (bG (aD 1)) (aA (ux 2) aH))))))))
def bu:Nat->List D->Rs D
 |0=>λ _=>.st
 |n+1=>gR 7 (bI (bu n))
def jB:List D->Rs D:=bu 64
def dH:En->Ou:=
  (aa (aBy (bH cY (aA (aD 0) aH)))
  (aa (nU (bH gm (aA (aD 0) (aA (cD (.int 0)) aH))) (jU 2 (bZ (gnm 1) (bZ (gnm 2) jr))))
  (retS (bA (aA (bG (aD 1)) (aA (opA jK (aA (opA kZ (aA (aD 2) aH)) aH)) aH))))))
def bM:List D->Rs D:=gR 3 dH
def cA:En->Ou:=
  (aa (nU (bH jB (aA (aD 0) aH)) (jU 2 (bZ (gnm 1) (bZ (gnm 2) jr))))
  (retS (bA (aA (bG (aD 1)) (aA (opA jK (aA (opA kZ (aA (aD 2) aH)) aH)) aH)))))
def di:List D->Rs D:=gR 3 cA
def lwR:En->Rs (List D):=(dF lC (aA (opA (mmD λ i j=>if j>i then j else i) (aA (cD (.int 1)) (aA (opA (mmD λ i j=>if j<i then j else i) (aA (opA jq (aA (aD 0) aH)) (aA (cD (.int 6)) aH))) aH))) aH))
def lPs:En->Rs (List D):=(nH (eZ (aA (aD 3) (aA (aD 4) (aA (bA (aA (cD (.str "across")) (aA (bA (aA (aD 3) (aA (aD 4) aH))) aH))) (aA (bA (aA (cD (.str "beside")) (aA (bA (aA (aD 4) (aA (aD 3) aH))) aH))) aH))))))
def lT:En->Ou:=(aa (dU 6 (bH bM (aA (aD 5) aH))) (ifS (orT (z9 (tst (op1 (qT "tuple") (aD 6)))) (orT (tsb (op2 (eqR true) (aD 6) (bH di (aA (aD 5) aH)))) (z9 (tst (op1 (qT "tuple") (op2 ixD (aD 6) (cD (.int 1)))))))) (retS (cD (.bl false))) Ou.nx))
def w7X:En->Rs D:=(eZ (aA (cD .non) (aA (bA aH) (aA (bA (aA (cD (.str "two")) aH)) (aA (eZ (aA (cD (.str "one")) aH)) (aA (bA (aA (cD (.str "across")) (aA (bA (aA (bG (aD 3)) aH)) aH))) (aA (bA (aA (cD (.str "beside")) (aA (eZ (aA (bG (aD 3)) (aA (bG (aD 4)) aH))) aH))) (aA (bA (aA (bG (aD 3)) (aA (bG (aD 4)) aH))) (aA (cD (.int 0)) (aA (cD (.str "one")) aH))))))))))
def w7Y:En->Rs D:=(op2 bJ (gr 7) (eZ (aA (bA (aA (cD (.str "across")) (aA (op2 aBU (bA (aA (bA (aA (cD (.str "one")) aH)) aH)) (cD (.int 41))) aH))) (aA (bA (aA (cD (.str "beside")) (aA (bA (aA (bG (aD 3)) (aA (cD .non) aH))) aH))) (aA (bA (aA (cD (.str "one")) (aA (bA (aA (bG (aD 3)) (aA (bG (aD 4)) aH))) aH))) (aA (cD (.dct [] [])) aH))))))
def w8:En->Rs D:=(op2 ixD (gr 7) (bH aZ (aA (aD 2) (aA (cD (.int 8000)) (aA (cD (.int 13)) aH)))))
def lIf:En->Ou:=(ifS (tsb (op2 (eqR true) (zU wdN "told" (bH bM (aA (aD 8) aH))) (cD (.str "plan")))) (retS (cD (.bl false))) Ou.nx)
def lwK:En->Ou:=aa (dU 2 (bH cJ (aA (aD 0) (aA (aD 1) aH)))) (aa (dU 3 (bH dM (aA (aD 2) (aA (cD (.int 5000)) (aA (op2 bJ (cD (.int 1)) (bH aZ (aA (aD 2) (aA (cD (.int 0)) (aA (cD (.int 20)) aH))))) aH))))) (aa (dU 4 (bH dM (aA (aD 2) (aA (cD (.int 6000)) (aA (op2 bJ (cD (.int 1)) (bH aZ (aA (aD 2) (aA (cD (.int 1)) (aA (cD (.int 20)) aH))))) aH))))) (aa (jW lPs (gnm 5) lT) (aa (lW 7 w7X) (aa (lW 7 w7Y) (aa (lW 8 w8) lIf))))))
def lwZ:En->Rs D:=(op2 (eqR false) (bH bM (aA (bA (aA (cD (.str "one")) aH)) aH)) (bA (aA (cD (.int 1)) (aA (bA aH) aH))))
def sZ:En->Ou:=aa (jW lwR (gnm 1) lwK) (retS lwZ)
def aCN:List D->Rs D:=gR 9 sZ
def xm{n:Bool}{d e:D}(h1:cM d<=60)(h2:aN d=true)(h3:aN e=true):eqR n d e= .ok (.bl (if n then !eqD d e else eqD d e)):=by
 unfold eqR;rw[if_pos (by simp[h1,h2,h3])]
def aFp{d:D}(h1:cM d<=60)(h2:aN d=true):eqX d az= .ok (.bl (eqD d az)):=by
 have h:=xm (n:=false) (e:=az) h1 h2 rfl;cases d with
 |dct a b=>simp[aN]at h2
 |_=>exact h
def aD0{n:Bool}{d:D}{es:List D}(h1:ao es<=60)(h2:aN d=true)(h3:aR es=true):inR n d (.tup es)= .ok (.bl (if n then !inD d es else inD d es)):=by
 unfold inR;dsimp only;rw[if_pos (by simp[h1,h2,h3])]
def aBb{d:D}(h:aN d=true):knd d=true:=by cases d<;>simp_all [aN,knd]
def lR:D->Bool
 | .str s=>s=="beside"||s=="across"
 |_=>false
def aDZ(d:D):inD d [.str "beside",.str "across"]=lR d:=by
 unfold inD;cases d with
 |str s=>simp[eqD,lR,BEq.comm]
 |_=>simp[eqD,lR]
def fj:D->Bool
 | .tup [w,.tup ys]=>lR w&&decide (2<=ys.length)
 |_=>false
def aEi{x:D}(h:aN x=true):aX [x]= .ok (.bl (fj x)):=by
 cases x with
 |tup l=>
  match l,h with
  |[],h=>simp[aX,aW,bC,fj]
  |[x],h=>simp[aX,aW,bC,fj]
  |x::y::z::r,h=>
   have e:¬((r.length:Int)+1+1+1=2):=by omega
   simp[aX,aW,bC,fj,e]
  |[w,y],h=>
   simp only[aN,aR,zAO]at h;have hi:inR true w (.tup [.str "beside",.str "across"])= .ok (.bl (!lR w)):=by
    rw[aD0 (by decide) h.1 rfl,aDZ];rfl
   cases c:lR w with
   |false=>
    rw[c]at hi;simp[aX,aW,bC,hi];cases y<;>simp[fj,c]
   |true=>
    rw[c]at hi;simp[aX,aW,bC,hi,nJ (aBb h.2.1)];cases y with
    |tup ys=>simp[u9,fj,c];omega
    |_=>simp[u9,fj]
 |_=>simp[aX,aW,bC,nJ (aBb h),u9,fj]
def oR(x:D):Bool:=eqD x az
def ph{x:D}(h:oR x=true):x=az:=by
 unfold oR az at h;cases x with
 |tup l=>
  match l with
  |[]=>simp[eqD,jY]at h
  |[a]=>
   cases a with
   |str s=>simp[eqD,jY]at h;subst h;rfl
   |_=>simp[eqD,jY]at h
  |a::b::r=>simp[eqD,jY]at h
 |_=>simp[eqD]at h
mutual
def lk:D->Option (Nat×Nat)
 | .tup [.str s]=>if s=="one" then some (1,1)else none
 | .tup [.str w,.tup ys]=>if (w=="beside"||w=="across")&&decide (2<=ys.length)then(lks ys).map λ q=>(q.1+1,q.2)else none
 |_=>none
def lks:List D->Option (Nat×Nat)
 |[]=>some (0,0)
 |y::ys=>(lk y).bind λ p=>(lks ys).map λ q=>(max p.1 q.1,p.2+q.2)
end
mutual
def nd:D->Nat
 | .tup l=>nds l+1
 | .lst l=>nds l+1
 |_=>1
def nds:List D->Nat
 |[]=>0
 |y::ys=>nd y+nds ys
end
def xH:∀x:D,1<=nd x:=by
 intro x;cases x<;>simp[nd]
def ie:lk az=some (1,1):=by simp[az,lk]
def lz{x:D}(h:fj x=true):∃w ys,x= .tup [.str w,.tup ys]/\2<=ys.length/\lk x=(lks ys).map λ q=>(q.1+1,q.2):=by
 cases x with
 |tup l=>
  match l with
  |[]=>simp[fj]at h
  |[a]=>simp[fj]at h
  |[a,b]=>
   cases b with
   |tup ys=>
    cases a with
    |str w=>
     simp[fj,lR]at h;exact⟨w,ys,rfl,h.2,by simp[lk,h]⟩
    |_=>simp[fj,lR]at h
   |_=>simp[fj]at h
  |a::b::c::r=>simp[fj]at h
 |_=>simp[fj]at h
def o8{x:D}(h1:oR x=false)(h2:fj x=false):lk x=none:=by
 cases x with
 |tup l=>
  match l with
  |[]=>simp[lk]
  |[a]=>
   cases a with
   |str s=>simp[oR,az,eqD,jY]at h1;simp[lk,h1]
   |_=>simp[lk]
  |[a,b]=>
   cases a with
   |str w=>
    cases b with
    |tup ys=>simp[fj,lR]at h2;simp[lk];intro a b;have:=h2 a;omega
    |_=>simp[lk]
   |_=>simp[lk]
  |a::b::c::r=>clear h1 h2;cases a<;>cases b<;>rfl
 |_=>simp[lk]
def xO{x:D}{a b:Nat}(h:lk x=some (a,b)):1<=a:=by
 cases c1:oR x with
 |true=>rw[ph c1,ie]at h;cases h;omega
 |false=>
  cases c2:fj x with
  |false=>rw[o8 c1 c2]at h;cases h
  |true=>
   obtain⟨w,ys,_,_,e⟩:=lz c2;rw[e]at h;cases hl:lks ys with
   |none=>rw[hl]at h;cases h
   |some q=>rw[hl]at h;cases h;omega
def pr(p:D×Int):D:=.tup [p.1,.int p.2]
def tot:List (D×Int)->Option Nat
 |[]=>some 0
 |p::r=>(lk p.1).bind λ q=>if p.2+(q.1:Int)<=25 then(tot r).map (·+q.2)else none
theorem tO(rs:List (D×Int)):∀qs,tot (qs++rs)=(tot qs).bind λ a=>(tot rs).map λ b=>a+b
 |[]=>by cases h:tot rs<;>simp[tot,h]
 |p::r=>by
  have ih:=tO rs r;simp only[zCv,tot];cases lk p.1 with
  |none=>rfl
  |some q=>
   simp only[zBZ];by_cases c:p.2+(q.1:Int)<=25
   .rw[if_pos c,if_pos c,ih]
    cases tot r with
    |none=>rfl
    |some a=>
     cases tot rs with
     |none=>rfl
     |some b=>simp;omega
   .rw[if_neg c,if_neg c];rfl
theorem yH{e:Int}(he:e<=25):∀ys:List D,tot (ys.map λ y=>(y,e))=(lks ys).bind λ q=>if e+(q.1:Int)<=25 then some q.2 else none
 |[]=>by simp[tot,lks,he]
 |y::ys=>by
  have ih:=yH he ys;simp only[zAj,tot,lks];cases hy:lk y with
  |none=>rfl
  |some p=>
   obtain⟨a,b⟩:=p;simp only[zBZ];rw[ih];cases hl:lks ys with
   |none=>simp
   |some q=>
    obtain⟨c,d⟩:=q;simp only[zBZ,zDB];by_cases h1:e+(a:Int)<=25
    .rw[if_pos h1]
     by_cases h2:e+(c:Int)<=25
     .rw[if_pos h2,if_pos (by omega)];simp;omega
     .rw[if_neg h2,if_neg (by omega)];rfl
    .rw[if_neg h1,if_neg (by omega)]
def xG{w:Str}{ys:List D}:nd (.tup [.str w,.tup ys])=nds ys+3:=by simp[nd,nds];omega
def nst:List (D×Int)->Nat
 |[]=>0
 |p::r=>nd p.1+nst r
theorem uN(rs:List (D×Int)):∀qs,nst (qs++rs)=nst qs+nst rs
 |[]=>by simp[nst]
 |p::r=>by simp[nst,uN rs r];omega
theorem yj(e:Int):∀ys:List D,nst (ys.map λ y=>(y,e))=nds ys
 |[]=>rfl
 |y::ys=>by simp[nst,nds,yj e ys]
theorem o9:∀ys:List D,ys.length<=nds ys
 |[]=>by simp
 |y::ys=>by have:=o9 ys;have:=xH y;simp[nds];omega
theorem yo:∀ys:List (D×Int),ys.length<=nst ys
 |[]=>by simp
 |y::ys=>by have:=yo ys;have:=xH y.1;simp[nst];omega
def Sm(x:D):Prop:=aN x=true/\cM x<=60
theorem aDq:∀{ys:List D} {y:D},y∈ys->aR ys=true->aN y=true/\cM y<=ao ys
 |z::ys,y,h,n=>by
  simp only[aR,zAO]at n;simp only[ao];rcases zAZ.mp h with rfl|h
  .exact⟨n.1,zEa _ _⟩
  .have:=aDq h n.2
   exact⟨this.1,zAr this.2 (zEU _ _)⟩
def wX{w:Str}{ys:List D}(h:Sm (.tup [.str w,.tup ys])):∀y∈ys,Sm y:=by
 intro y hy;obtain⟨h1,h2⟩:=h;simp only[aN,aR,zAO,cM,ao]at h1 h2
 have:=aDq hy h1.2.1
 exact⟨this.1,by omega⟩
def cW:En->Rs Bool:=tst (wL 1)
def uW:En->Ou:=(aa (zX 1 (jU 2 (bZ (gnm 3) (bZ (gnm 4) jr))))
   (aa (ifS (tsb (op2 eqX (aD 3) (cD az)))
    (aAK (i2 (λ _ _=>true) λ a b=>.int (a+b)) 2 (cD (.int 1)))
    (ifS (tst (bH aX (aA (aD 3) aH)))
     (aAD 1 (lcZ (nH (op2 ixD (aD 3) (cD (.int 1)))) [none,some 4] (gnm 0) cj (bA (aA (aD 0) (aA (op2 bJ (aD 1) (cD (.int 1))) aH)))))
     (retS (cD (.bl false)))))
   (ifS (orT (tsb (op2 gtD (aD 2) (cD (.int 40)))) (tsb (op2 gtD (aD 4) (cD (.int 24)))))
    (retS (cD (.bl false)))
    Ou.nx)))
theorem vf(e:Int):∀ys:List D,lcL [.no,.sh (.int e)] (gnm 0) cj (bA (aA (aD 0) (aA (op2 bJ (aD 1) (cD (.int 1))) aH))) ys= .ok (ys.map λ y=>pr (y,e+1))
 |[]=>rfl
 |y::ys=>by
  rw[lcL];simp[vf e ys,pr]
def turn{x0:D}{qs:List (D×Int)}{p:D×Int}{ones:Int}{s3 s4:Slot}(hs:Sm p.1)(hn:nst qs+nd p.1<100000)(h40:ones<=40):
  (oR p.1=true/\ones+1<=40/\p.2<=24/\uW [.sh x0,.oz (.lst ((qs++[p]).map pr)),.sh (.int ones),s3,s4]= .nx [.sh x0,.oz (.lst (qs.map pr)),.sh (.int (ones+1)),.sh p.1,.sh (.int p.2)])\/
  (∃w ys,p.1= .tup [.str w,.tup ys]/\lk p.1=((lks ys).map λ q=>(q.1+1,q.2))/\p.2<=24/\uW [.sh x0,.oz (.lst ((qs++[p]).map pr)),.sh (.int ones),s3,s4]= .nx [.sh x0,.oz (.lst ((qs++ys.map λ y=>(y,p.2+1)).map pr)),.sh (.int ones),.sh p.1,.sh (.int p.2)])\/
  (uW [.sh x0,.oz (.lst ((qs++[p]).map pr)),.sh (.int ones),s3,s4]= .rt (.bl false)/\(lk p.1=none\/24<p.2\/oR p.1=true/\40<ones+1)):=by
 obtain⟨x,e⟩:=p;have hpop:zX 1 (jU 2 (bZ (gnm 3) (bZ (gnm 4) jr))) [.sh x0,.oz (.lst ((qs++[(x,e)]).map pr)),.sh (.int ones),s3,s4]= .nx [.sh x0,.oz (.lst (qs.map pr)),.sh (.int ones),.sh x,.sh (.int e)]:=by
  simp[zX,aEp,pr]
 have heq:=aFp hs.2 hs.1;have hput:=aEi hs.1;dsimp only at hs hn heq hput ⊢;cases c1:oR x with
 |true=>
  have c1':eqD x az=true:=c1;by_cases hA:ones+1<=40/\e<=24
  .refine .inl ⟨rfl,hA.1,hA.2,?_⟩
   have a1:¬(40<ones+1):=by omega
   have a2:¬(24<e):=by omega
   unfold uW;rw[bD,hpop,cN];simp[heq,c1',aAK,i2,a1,a2]
  .refine .inr (.inr ⟨?_,?_⟩)
   .by_cases a1:40<ones+1
    .unfold uW;rw[bD,hpop,cN];simp[heq,c1',aAK,i2,a1]
    .have a2:24<e:=by omega
     unfold uW;rw[bD,hpop,cN];simp[heq,c1',aAK,i2,a1,a2]
   .by_cases a1:40<ones+1
    .exact .inr (.inr ⟨rfl,a1⟩)
    .exact .inr (.inl (by show 24<e;omega))
 |false=>
  have c1':eqD x az=false:=c1;cases c2:fj x with
  |false=>
   refine .inr (.inr ⟨?_,.inl (o8 c1 c2)⟩);unfold uW;rw[bD,hpop,cN];simp[heq,c1',hput,c2]
  |true=>
   obtain⟨w,ys,rfl,h2,hl⟩:=lz c2;have hz:qs.length+ys.length<=16777216:=by
    have h1:=yo qs;have h3:=o9 ys;have h4:nd (.tup [.str w,.tup ys])=nds ys+3:=xG;omega
   have hz2:ys.length<16777216:=by
    have h3:=o9 ys;have h4:nd (.tup [.str w,.tup ys])=nds ys+3:=xG;omega
   have hlc:lcZ (nH (op2 ixD (aD 3) (cD (.int 1)))) [none,some 4] (gnm 0) cj (bA (aA (aD 0) (aA (op2 bJ (aD 1) (cD (.int 1))) aH))) [.sh x0,.oz (.lst (qs.map pr)),.sh (.int ones),.sh (.tup [.str w,.tup ys]),.sh (.int e)]= .ok (.lst (ys.map λ y=>pr (y,e+1))):=by
    have:=vf e ys
    simp[lcZ,puE,puS,stE,hz2,this]
   by_cases a2:24<e
   .refine .inr (.inr ⟨?_,.inr (.inl a2)⟩)
    have a1:¬(40<ones):=by omega
    unfold uW;rw[bD,hpop,cN];simp[heq,c1',hput,c2,aAD,hlc,ue,hz,a1,a2]
   .refine .inr (.inl ⟨w,ys,rfl,hl,by show e<=24;omega,?_⟩)
    have a1:¬(40<ones):=by omega
    unfold uW;rw[bD,hpop,cN];simp[heq,c1',hput,c2,aAD,hlc,ue,hz,a1,a2]
def zP(p:D×Int):tot [p]=(lk p.1).bind λ q=>if p.2+(q.1:Int)<=25 then some q.2 else none:=by
 simp only[tot];cases lk p.1 with
 |none=>rfl
 |some q=>
  simp only[zBZ];by_cases h:p.2+(q.1:Int)<=25
  .rw[if_pos h,if_pos h];simp
  .rw[if_neg h,if_neg h]
def Gd(ps:List (D×Int))(ones:Int):Prop:=∃t:Nat,tot ps=some t/\ones+t<=40
theorem loop{x0:D}:∀(n:Nat) (ps:List (D×Int)) (ones:Int) (s3 s4:Slot),nst ps<n->nst ps<100000->(∀p∈ps,Sm p.1)->ones<=40->
  (Gd ps ones/\∃ρ',itW cW uW n [.sh x0,.oz (.lst (ps.map pr)),.sh (.int ones),s3,s4]= .nx ρ')\/(¬Gd ps ones/\itW cW uW n [.sh x0,.oz (.lst (ps.map pr)),.sh (.int ones),s3,s4]= .rt (.bl false))
 |0,ps,ones,s3,s4,h,_,_,_=>absurd h (zGT _)
 |n+1,ps,ones,s3,s4,h,h5,hS,h40=>by
  rcases List.eq_nil_or_concat ps with rfl|⟨qs,p,rfl⟩
  .refine .inl ⟨⟨0,rfl,by simpa using h40⟩,[.sh x0,.oz (.lst []),.sh (.int ones),s3,s4],?_⟩
   rw[itW];simp[cW]
  .rw[List.concat_eq_append]at*
   have hc:cW [.sh x0,.oz (.lst ((qs++[p]).map pr)),.sh (.int ones),s3,s4]= .ok true:=by simp[cW]
   have hn:=uN [p] qs;have hnp:nst [p]=nd p.1:=by simp[nst]
   have hp:=xH p.1;have ht:=tO [p] qs;have hq:∀q∈qs,Sm q.1:=λ q hq=>hS q (zAa _ hq)
   rw[itW,hc];simp only[qp,if_true];rcases turn (x0:=x0) (qs:=qs) (s3:=s3) (s4:=s4) (hS p (by simp)) (by omega) h40 with ⟨c1,a1,a2,e⟩|⟨w,ys,ep,el,a2,e⟩|⟨e,c⟩
   .rw[e]
    have ih:=loop (x0:=x0) n qs (ones+1) (.sh p.1) (.sh (.int p.2)) (by omega) (by omega) hq a1;have h1:tot [p]=some 1:=by
     rw[zP,ph c1,ie];simp only[zBZ];rw[if_pos (by omega)]
    have hiff:Gd (qs++[p]) ones↔Gd qs (ones+1):=by
     unfold Gd;rw[ht,h1];cases tot qs with
     |none=>simp
     |some a=>simp;omega
    rcases ih with ⟨g,ρ',e2⟩|⟨g,e2⟩
    .exact .inl ⟨hiff.mpr g,ρ',e2⟩
    .exact .inr ⟨λ z=>g (hiff.mp z),e2⟩
   .rw[e]
    have hsz:nd p.1=nds ys+3:=by rw[ep];exact xG
    have hn2:=uN (ys.map λ y=>(y,p.2+1)) qs;rw[yj]at hn2;have hS2:∀q∈qs++ys.map (λ y=>(y,p.2+1)),Sm q.1:=by
     intro q hq2;rcases zAs.mp hq2 with z|z
     .exact hq q z
     .obtain⟨y,hy,rfl⟩:=zC3.mp z
      have:=hS p (by simp)
      rw[ep]at this;exact wX this y hy
    have ih:=loop (x0:=x0) n (qs++ys.map λ y=>(y,p.2+1)) ones (.sh p.1) (.sh (.int p.2)) (by omega) (by omega) hS2 h40;have h1:tot [p]=tot (ys.map λ y=>(y,p.2+1)):=by
     rw[zP,yH (by omega),el];cases lks ys with
     |none=>rfl
     |some q=>
      simp only[zDB,zBZ];by_cases z:p.2+1+(q.1:Int)<=25
      .rw[if_pos z,if_pos (by simp;omega)]
      .rw[if_neg z,if_neg (by simp;omega)]
    have hiff:Gd (qs++[p]) ones↔Gd (qs++ys.map λ y=>(y,p.2+1)) ones:=by
     unfold Gd;rw[ht,h1,<-tO]
    rcases ih with ⟨g,ρ',e2⟩|⟨g,e2⟩
    .exact .inl ⟨hiff.mpr g,ρ',e2⟩
    .exact .inr ⟨λ z=>g (hiff.mp z),e2⟩
   .rw[e]
    refine .inr ⟨?_,rfl⟩;rintro⟨t,h1,h2⟩;rw[ht]at h1;rcases c with c|c|⟨c,c'⟩
    .rw[zP,c]at h1
     cases hq2:tot qs<;>simp[hq2]at h1
    .have:tot [p]=none:=by
      rw[zP];cases hl:lk p.1 with
      |none=>rfl
      |some q=>
       have:=xO (a:=q.1) (b:=q.2) hl
       simp only[zBZ];rw[if_neg (by omega)]
     rw[this]at h1;cases hq2:tot qs<;>simp[hq2]at h1
    .rw[zP,ph c,ie]at h1
     cases hq2:tot qs with
     |none=>simp[hq2]at h1
     |some a=>
      rw[hq2]at h1;simp only[zBZ]at h1;split at h1
      .simp at h1;omega
      .simp at h1
def ju(x:D):Bool:=match lk x with
 |some q=>decide (q.1<=24)&&decide (q.2<=40)
 |none=>false
def ye{x:D}(hs:Sm x)(hn:nd x<90000):eG [x]= .ok (.bl (ju x)):=by
 have hl:=loop (x0:=x) fuel [(x,1)] 0 .no .no (by simp[nst,fuel];omega) (by simp[nst];omega) (by simpa using hs) (by omega);have hg:Gd [(x,1)] 0↔ju x=true:=by
  unfold Gd ju;rw[zP];cases lk x with
  |none=>simp
  |some q=>
   simp only[zBZ];by_cases z:(1:Int)+(q.1:Int)<=25
   .rw[if_pos z];simp;omega
   .rw[if_neg z];simp;omega
 have h1:m8 cW uW [.sh x,.oz (.lst [pr (x,1)]),.sh (.int 0),.no,.no]=itW cW uW fuel [.sh x,.oz (.lst ([(x,(1:Int))].map pr)),.sh (.int 0),.no,.no]:=rfl;have hd:fG=aa (aAg 1 (eZ (aA (bA (aA (aD 0) (aA (cD (.int 1)) aH))) aH))) (aa (dU 2 (cD (.int 0))) (aa (m8 cW uW) (retS (cD (.bl true))))):=rfl;rcases hl with ⟨g,ρ',e⟩|⟨g,e⟩
 .have e':m8 cW uW [.sh x,.oz (.lst [.tup [x,.int 1]]),.sh (.int 0),.no,.no]= .nx ρ':=e
  simp[eG,hd,bC,e',hg.mp g]
 .have e':m8 cW uW [.sh x,.oz (.lst [.tup [x,.int 1]]),.sh (.int 0),.no,.no]= .rt (.bl false):=e
  have:ju x=false:=by
   cases c:ju x with
   |false=>rfl
   |true=>exact absurd (hg.mpr c) g
  simp[eG,hd,bC,e',this]
theorem sV{b:Int}(hb:0<b)(hb2:b<1073741824){c:Int}{k:Int}:∀(ds:List D) (x:Int) (s:Slot),(∀d∈ds,∃n:Int,d= .int n)->
  (∃y s',forL (gnm 4) (aa (ifS (tsb (op2 (eqR false) (aD 3) (cD (.int 0)))) (retS (cD (.int 0))) Ou.nx) (dU 3 (op2 oG (aD 3) (aD 2)))) ds [.sh (.int c),.sh (.int k),.sh (.int b),.sh (.int x),s,.no]= .nx [.sh (.int c),.sh (.int k),.sh (.int b),.sh (.int y),s',.no])\/
  forL (gnm 4) (aa (ifS (tsb (op2 (eqR false) (aD 3) (cD (.int 0)))) (retS (cD (.int 0))) Ou.nx) (dU 3 (op2 oG (aD 3) (aD 2)))) ds [.sh (.int c),.sh (.int k),.sh (.int b),.sh (.int x),s,.no]= .rt (.int 0)
 |[],x,s,_=>.inl ⟨x,s,rfl⟩
 |d::ds,x,s,h=>by
  have ih:=sV hb hb2 (c:=c) (k:=k) ds (x / b) (.sh d) λ e he=>h e (zAb _ he)
  rw[iD];by_cases hx:x=0
  .subst hx
   right;simp
  .simp[hx,sJ hb hb2]
   exact ih
def aD8{c k b:Int}(hk0:0<=k)(hk1:k<2^40)(hb:0<b)(hb2:b<1073741824):∃r:Int,aZ [.int c,.int k,.int b]= .ok (.int r)/\0<=r/\r<b:=by
 have hp:aEo (.int 10) (.int 18)= .ok (.int 1000000000000000000):=rfl;by_cases hc:(1000000000000000000:Int)<=c
 .have hr:=lZ (j:=k) (by omega) (by omega)
  have hl:=sV hb hb2 (c:=c) (k:=k) (gU 0 k) c .no λ d hd=>let⟨n,e,_⟩:=aBX.mp hd;⟨n,e⟩
  rcases hl with ⟨y,s',e⟩|e
  .refine⟨y%b,?_,zD8 _ (by omega),zDK _ hb⟩
   simp[aZ,cP,bC,hp,hc,hr,e,jR hb]
  .refine⟨0,?_,by omega,hb⟩
   simp[aZ,cP,bC,hp,hc,hr,e]
 .have s1:∀z:Int,0<=z%2147483647/\z%2147483647<2147483647:=λ z=>⟨zD8 _ (by decide),zDK _ (by decide)⟩
  have s2:∀z:Int,0<=z%2147483629/\z%2147483629<2147483629:=λ z=>⟨zD8 _ (by decide),zDK _ (by decide)⟩
  have m1:∀z,dm (.int 1009) (.int z)= .ok (.int (1009*z)):=λ z=>uQ (by decide) (by decide)
  have m2:∀z,dm (.int z) (.int 69621)= .ok (.int (z*69621)):=λ z=>aBV (by decide) (by decide)
  have m3:∀z,dm (.int 40503) (.int z)= .ok (.int (40503*z)):=λ z=>uQ (by decide) (by decide)
  have m4:∀z,dm (.int z) (.int 48271)= .ok (.int (z*48271)):=λ z=>aBV (by decide) (by decide)
  have m5:∀z:Int,dm (.int (z%2147483647)) (.int (z%2147483647))= .ok (.int (z%2147483647*(z%2147483647))):=λ z=>uQ (by have:=s1 z;omega) (by have:=s1 z;omega)
  have d1:∀z,nG (.int z) (.int 1000000007)= .ok (.int (z%1000000007)):=λ z=>jR (by decide)
  have d2:∀z,nG (.int z) (.int 2147483647)= .ok (.int (z%2147483647)):=λ z=>jR (by decide)
  have d3:∀z,nG (.int z) (.int 2147483629)= .ok (.int (z%2147483629)):=λ z=>jR (by decide)
  have d4:∀z,oG (.int z) (.int 32)= .ok (.int (z / 32)):=λ z=>sJ (by decide) (by decide)
  have d5:∀z,nG (.int z) (.int b)= .ok (.int (z%b)):=λ z=>jR hb
  simp[aZ,cP,bC,hp,hc,m1,m2,m3,m4,m5,d1,d2,d3,d4,d5,-Int.emod_emod_of_dvd];exact⟨zD8 _ (by omega),zDK _ hb⟩
def jm{c k b:Int}(hk0:0<=k)(hk1:k<2^40)(hb:0<b)(hb2:b<1073741824):∃r:Nat,aZ [.int c,.int k,.int b]= .ok (.int r)/\(r:Int)<b:=by
 obtain⟨r,e,h0,h1⟩:=aD8 (c:=c) hk0 hk1 hb hb2;exact⟨r.toNat,by rw[zDq h0];exact e,by omega⟩
def aDb{ns:List Int}{k:Int}(h:0<=k):∃c:Int,cJ [.scr ns,.int k]= .ok (.int c):=by
 by_cases hk:k<ns.length
 .obtain⟨d,e,hm,_⟩:=xx (l:=ns.map .int) (i:=k) h (by simpa using hk)
  obtain⟨c,_,rfl⟩:=zC3.mp hm;exact⟨c,by simp[cJ,bw,bC,hk,e]⟩
 .exact⟨0,by simp[cJ,bw,bC,hk]⟩
def aFr(l:List D)(f:Nat):cutD l none (some (f:Int))=l.take f:=by
 unfold cutD;rw[HT.o6,HT.vP,zBf,zF2];by_cases h:f<=l.length
 .rw[zBY h]
 .rw[zEV (by omega),zAe (zAP _),zAe (by omega)]
def aCA(l:List D)(f:Nat):cutD l (some (f:Int)) none=l.drop f:=by
 unfold cutD;rw[HT.o6,HT.vP];by_cases h:f<=l.length
 .rw[zBY h,zAe (by simp)]
 .rw[zEV (by omega),zB3 (by omega:l.length<=f)]
  simp
def aD9(l:List D)(f w:Nat)(h:f<=l.length):cutD l (some (f:Int)) (some ((f+w:Nat):Int))=(l.drop f).take w:=by
 unfold cutD;rw[HT.o6,HT.o6,zBY h];by_cases h2:f+w<=l.length
 .rw[zBY h2,zAw]
 .rw[zEV (by omega),zAe (by simp),zAe (by simp;omega)]
mutual
def plB:D->Bool
 | .tup [.str _]=>true
 | .tup [.str _,.tup ys]=>!ys.isEmpty&&iW ys
 |_=>false
def iW:List D->Bool
 |[]=>true
 |y::ys=>plB y&&iW ys
end
theorem jO:∀(l m:List D),iW (l++m)=(iW l&&iW m)
 |[],m=>by simp[iW]
 |y::l,m=>by simp[iW,jO l m,zGP]
theorem mG:∀(l m:List D),nds (l++m)=nds l+nds m
 |[],m=>by simp[nds]
 |y::l,m=>by simp[nds,mG l m];omega
theorem mW:∀(l m:List D),ao (l++m)=max (ao l) (ao m)
 |[],m=>by simp[ao]
 |y::l,m=>by simp[ao,mW l m,zGm]
def aCr{x:D}(h:plB x=true):(∃s,x= .tup [.str s])\/∃w ys,x= .tup [.str w,.tup ys]/\ys≠[]/\iW ys=true:=by
 cases x with
 |tup l=>
  match l with
  |[]=>simp[plB]at h
  |[a]=>
   cases a with
   |str s=>exact .inl ⟨s,rfl⟩
   |_=>simp[plB]at h
  |[a,b]=>
   cases a with
   |str w=>
    cases b with
    |tup ys=>
     simp[plB]at h;exact .inr ⟨w,ys,rfl,by simpa using h.1,h.2⟩
    |_=>simp[plB]at h
   |_=>simp[plB]at h
  |a::b::c::r=>exfalso;revert h;cases a<;>cases b<;>intro h<;>cases h
 |_=>simp[plB]at h
mutual
theorem wy:∀(x:D),plB x=true->imm x=true/\aN x=true
 | .tup [.str s],_=>⟨rfl,rfl⟩
 | .tup [.str w,.tup ys],h=>by
  simp only[plB,zAO]at h
  have:=o7 ys h.2
  exact⟨by simp[imm,gZ,this.1],by simp[aN,aR,this.2]⟩
 | .non,h=>by simp[plB]at h
 | .bl _,h=>by simp[plB]at h
 | .int _,h=>by simp[plB]at h
 | .str _,h=>by simp[plB]at h
 | .lst _,h=>by simp[plB]at h
 | .dct _ _,h=>by simp[plB]at h
 | .set _,h=>by simp[plB]at h
 | .scr _,h=>by simp[plB]at h
 | .tup [],h=>by simp[plB]at h
 | .tup [.non],h=>by cases h
 | .tup [.bl _],h=>by cases h
 | .tup [.int _],h=>by cases h
 | .tup [.tup _],h=>by cases h
 | .tup [.lst _],h=>by cases h
 | .tup [.dct _ _],h=>by cases h
 | .tup [.set _],h=>by cases h
 | .tup [.scr _],h=>by cases h
 | .tup (a::b::c::r),h=>by exfalso;revert h;cases a<;>cases b<;>intro h<;>cases h
 | .tup [a,b],h=>by
  rcases aCr h with ⟨s,e⟩|⟨w,ys,e,h1,h2⟩
  .cases e
  .cases e
   have:=o7 ys h2
   exact⟨by simp[imm,gZ,this.1],by simp[aN,aR,this.2]⟩
theorem o7:∀(l:List D),iW l=true->gZ l=true/\aR l=true
 |[],_=>⟨rfl,rfl⟩
 |y::ys,h=>by
  simp only[iW,zAO]at h;have h1:=wy y h.1;have h2:=o7 ys h.2;exact⟨by simp[gZ,h1.1,h2.1],by simp[aR,h1.2,h2.2]⟩
end
def yZ(m:Nat):iW (zAT m az)=true/\nds (zAT m az)=2*m/\ao (zAT m az)<=1:=by
 induction m with
 |zero=>exact⟨rfl,rfl,by simp[ao]⟩
 |succ m ih=>
  rw[zBA];refine⟨by simp only[iW,ih.1,zEx];rfl,?_,?_⟩
  .simp only[nds,ih.2.1];simp[az,nd,nds];omega
  .simp only[ao];have:=ih.2.2;have:cM az=1:=by simp[az,cM,ao]
   omega
def aBu(m:Nat):(zAT m [az]).flatten=zAT m az:=by
 induction m with
 |zero=>rfl
 |succ m ih=>rw[zBA,zBR,ih];rfl
def merge{L:List D}{f w:Nat}{s:Str}{i m:Nat}(hf:f<L.length)(hw:1<=w)(h1:iW L=true)(h2:nds L<=2*m+3*i)(h3:ao L<=1+2*i):
  let L2:=L.take f++[.tup [.str s,.tup ((L.drop f).take w)]]++L.drop (f+w)
  L2≠[]/\iW L2=true/\nds L2<=2*m+3*(i+1)/\ao L2<=1+2*(i+1):=by
 have e:L=L.take f++((L.drop f).take w++L.drop (f+w)):=by
  rw[<-zCj,zA6,zA6]
 have hne:(L.drop f).take w≠[]:=by
  intro z
  have:=congrArg zE4 z
  simp at this;omega
 rw[e,jO,jO]at h1;rw[e,mG,mG]at h2;rw[e,mW,mW]at h3;simp only[zAO]at h1;refine⟨by simp,?_,?_,?_⟩
 .rw[jO,jO]
  simp[iW,plB,h1,hne]
 .rw[mG,mG]
  simp[nds,nd];omega
 .rw[mW,mW]
  simp[ao,cM];omega
def vQ{lo hi:Int}{i:Nat}{d:D}(h:(gU lo hi)[i]? =some d):d= .int (lo+i)/\lo+i<hi:=by
 unfold gU at h;rw[zAi]at h;by_cases hi2:i<(hi-lo).toNat
 .rw[zF9 hi2]at h
  cases h;exact⟨rfl,by omega⟩
 .rw[List.getElem?_eq_none (by simpa using hi2)]at h
  cases h
def Pv(L:List D)(m:Nat):Prop:=∃d,lks L=some (d,m)/\d+L.length<=m+1
theorem mK:∀(a b:List D),lks (a++b)=(lks a).bind λ p=>(lks b).map λ q=>(max p.1 q.1,p.2+q.2)
 |[],b=>by cases h:lks b<;>simp[lks,h]
 |x::a,b=>by
  rw[zCv];simp only[lks,mK a b];cases lk x with
  |none=>rfl
  |some p=>
   cases lks a with
   |none=>rfl
   |some q=>
    cases lks b with
    |none=>rfl
    |some r=>simp[zGm,zCP]
theorem yc:∀m:Nat,Pv (zAT m az) m
 |0=>⟨0,rfl,by simp⟩
 |m+1=>by
  obtain⟨d,h1,h2⟩:=yc m;rw[zCq]at h2;refine⟨max 1 d,?_,by rw[zCq];omega⟩;rw[zBA];simp[lks,ie,h1,Nat.add_comm]
def pv_first{x:D}{r:List D}{m:Nat}(h:Pv (x::r) m):∃d o,lk x=some (d,o)/\d<=m/\o<=m:=by
 obtain⟨d,h1,h2⟩:=h;simp only[lks]at h1;cases hx:lk x with
 |none=>rw[hx]at h1;cases h1
 |some p=>
  rw[hx]at h1;cases hr:lks r with
  |none=>rw[hr]at h1;cases h1
  |some q=>
   rw[hr]at h1;simp at h1 h2;exact⟨p.1,p.2,rfl,by omega,by omega⟩
def aFV{L:List D}{f w m:Nat}{s:Str}(hs:(s=="beside"||s=="across")=true)(h2:2<=((L.drop f).take w).length)(h:Pv L m):Pv (L.take f++[.tup [.str s,.tup ((L.drop f).take w)]]++L.drop (f+w)) m:=by
 have e:L=L.take f++((L.drop f).take w++L.drop (f+w)):=by
  rw[<-zCj,zA6,zA6]
 obtain⟨d,h1,h3⟩:=h;have hl:=congrArg zE4 e;rw[zAC,zAC]at hl;rw[e,mK,mK]at h1;generalize L.take f=P at*;generalize (L.drop f).take w=X at*;generalize L.drop (f+w)=Z at*;cases hP:lks P with
 |none=>rw[hP]at h1;cases h1
 |some p=>
  cases hX:lks X with
  |none=>rw[hP,hX]at h1;cases h1
  |some x=>
   cases hZ:lks Z with
   |none=>rw[hP,hX,hZ]at h1;cases h1
   |some z=>
    rw[hP,hX,hZ]at h1;simp at h1;have hn:lk (.tup [.str s,.tup X])=some (x.1+1,x.2):=by simp only[lk];rw[hX,hs];simp[h2]
    refine⟨max p.1 (max (x.1+1) z.1),?_,by rw[zAC,zAC,zFS];omega⟩;rw[zA2,mK,mK,hP,hZ];simp only[lks,hn];simp;omega
def uP:En->Ou:=(ifS (tsb (op2 gtD (opA jq (aA (gr 3) aH)) (cD (.int 1))))
    (aa (dU 5 (op2 bJ (cD (.int 2)) (bH aZ (aA (aD 0) (aA (op2 bJ (aD 1) (op2 dm (cD (.int 3)) (aD 4))) (aA (cD (.int 3)) aH))))))
    (aa (dU 6 (bH aZ (aA (aD 0) (aA (op2 bJ (op2 bJ (aD 1) (op2 dm (cD (.int 3)) (aD 4))) (cD (.int 1))) (aA (opA (mmD λ i j=>if j>i then j else i) (aA (cD (.int 1)) (aA (op2 bJ (op2 aC4 (opA jq (aA (gr 3) aH)) (aD 5)) (cD (.int 1))) aH))) aH)))))
    (aa (lW 7 (op2 ixD (eZ (aA (cD (.str "beside")) (aA (cD (.str "across")) aH))) (bH aZ (aA (aD 0) (aA (op2 bJ (op2 bJ (aD 1) (op2 dm (cD (.int 3)) (aD 4))) (cD (.int 2))) (aA (cD (.int 2)) aH))))))
    (lW 3 (op2 bJ (op2 bJ (jM (gr 3) rn (jw (aD 6))) (eZ (aA (bA (aA (gr 7) (aA (opA jK (aA (jM (gr 3) (jw (aD 6)) (jw (op2 bJ (aD 6) (aD 5)))) aH)) aH))) aH))) (jM (gr 3) (jw (op2 bJ (aD 6) (aD 5))) rn))))))
    Ou.nx)
def zY{c a:Int}{L:List D}{i m:Nat}{s5 s6 s7:Slot}{mm:D}(ha:0<=a)(ha2:a<100000)(hi:i<24)(hm:m<=24)(hne:L≠[])(h1:iW L=true)(h2:nds L<=2*m+3*i)(h3:ao L<=1+2*i)(hP:Pv L m):
  ∃L2 t5 t6 t7,uP [.sh (.int c),.sh (.int a),.sh mm,.nw (.lst L),.sh (.int i),s5,s6,s7]= .nx [.sh (.int c),.sh (.int a),.sh mm,.nw (.lst L2),.sh (.int i),t5,t6,t7]/\L2≠[]/\iW L2=true/\nds L2<=2*m+3*(i+1)/\ao L2<=1+2*(i+1)/\Pv L2 m:=by
 have hlen:=o9 L;by_cases hl:1<L.length
 .have hl':(1:Int)<L.length:=by omega
  have hm3:dm (.int 3) (.int (i:Int))= .ok (.int (3*(i:Int))):=uQ (by decide) (by decide);obtain⟨r,er,hr⟩:=jm (c:=c) (k:=a+3*(i:Int)) (b:=3) (by omega) (by omega) (by omega) (by omega);let B:Int:=if (L.length:Int)-(2+(r:Int))+1>1 then(L.length:Int)-(2+(r:Int))+1 else 1
  have hB:0<B/\B<L.length:=by
   by_cases z:(L.length:Int)-(2+(r:Int))+1>1
   .have:B=(L.length:Int)-(2+(r:Int))+1:=if_pos z
    omega
   .have:B=1:=if_neg z
    omega
  obtain⟨f,ef,hf⟩:=jm (c:=c) (k:=a+3*(i:Int)+1) (b:=B) (by omega) (by omega) hB.1 (by omega);obtain⟨q,eq,hq⟩:=jm (c:=c) (k:=a+3*(i:Int)+2) (b:=2) (by omega) (by omega) (by omega) (by omega);obtain⟨wd,ew,mw,_⟩:=xx (l:=[D.str "beside",D.str "across"]) (i:=(q:Int)) (by omega) (by simpa using hq);obtain⟨s,rfl,hs⟩:∃s:Str,wd= .str s/\(s=="beside"||s=="across")=true:=by
   simp at mw;rcases mw with rfl|rfl
   .exact⟨_,rfl,rfl⟩
   .exact⟨_,rfl,rfl⟩
  have h2B:2<=L.length-f:=by
   by_cases z:(L.length:Int)-(2+(r:Int))+1>1
   .have:B=(L.length:Int)-(2+(r:Int))+1:=if_pos z
    omega
   .have:B=1:=if_neg z
    omega
  have hfl:f<L.length:=by omega
  have ec1:cutD L none (some (f:Int))=L.take f:=aFr L f;have ec2:cutD L (some (f:Int)) (some ((f:Int)+(2+(r:Int))))=(L.drop f).take (2+r):=by
   have:=aD9 L f (2+r) (by omega)
   rw[<-this];congr 2
  have ec3:cutD L (some ((f:Int)+(2+(r:Int)))) none=L.drop (f+(2+r)):=by
   have:=aCA L (f+(2+r))
   rw[<-this];congr 2
  have mg:=merge (s:=s) hfl (by omega:1<=2+r) h1 h2 h3;have z1:min f L.length+1<=16777216:=by omega
  have z2:min f L.length+(1+(L.length-(f+(2+r))))<=16777216:=by omega
  refine⟨_,.sh (.int (2+(r:Int))),.sh (.int f),.nw (.str s),?_,mg.1,mg.2.1,mg.2.2.1,mg.2.2.2,aFV hs (by rw[zAV,zAv];omega) hP⟩;have ef':aZ [.int c,.int (a+3*(i:Int)+1),.int (if (L.length:Int)-(2+(r:Int))+1>1 then(L.length:Int)-(2+(r:Int))+1 else 1)]= .ok (.int f):=ef;simp only[gt_iff_lt]at ef';simp[uP,hl',hm3,er,ef',eq,ew,ec1,ec2,ec3];rw[if_pos (by omega)];simp;rw[if_pos (by omega)];simp
 .refine⟨L,s5,s6,s7,?_,hne,h1,by omega,by omega,hP⟩
  have hl':¬(1:Int)<L.length:=by omega
  simp[uP,hl']
def aBT(m:Nat)(h:m<=24):dm (.lst [.tup [.str "one"]]) (.int (m:Int))= .ok (.lst (zAT m az)):=by
 unfold dm;dsimp only;rw[if_pos (by simp[gZ,imm,zAN];omega),zEI]
 have:=aBu m
 unfold az at this ⊢;rw[this]
def oE{c a:Int}{m:Nat}(ha:0<=a)(ha2:a<100000)(hm0:1<=m)(hm:m<=24):∃p,dM [.int c,.int a,.int m]= .ok p/\plB p=true/\nd p<=200/\cM p<=49/\∃d o,lk p=some (d,o)/\d<=m/\o<=m:=by
 have hr:=lZ (j:=(m:Int)) (by omega) (by omega);have h1:=yZ m;obtain⟨ρ',e,L,t4,t5,t6,t7,rfl,hne,g1,g2,g3,gP⟩:=q9 (a:=gnm 4) (u:=uP) (ds:=gU 0 (m:Int))
  (λ i ρ=>∃L t4 t5 t6 t7,ρ=[.sh (.int c),.sh (.int a),.sh (.int m),.nw (.lst L),t4,t5,t6,t7]/\L≠[]/\iW L=true/\nds L<=2*m+3*i/\ao L<=1+2*i/\Pv L m)
  (by
   rintro i d ρ hd ⟨L,t4,t5,t6,t7,rfl,hne,g1,g2,g3,gP⟩;obtain⟨rfl,hlt⟩:=vQ hd;obtain⟨L2,q5,q6,q7,e,z⟩:=zY (c:=c) (i:=i) (s5:=t5) (s6:=t6) (s7:=t7) (mm:=.int m) ha ha2 (by omega) hm hne g1 g2 g3 gP;refine⟨_,?_,L2,.sh (.int i),q5,q6,q7,rfl,z⟩;simp[e])
  (ρ:=[.sh (.int c),.sh (.int a),.sh (.int m),.nw (.lst (zAT m az)),.no,.no,.no,.no])
  ⟨_,_,_,_,_,rfl,by simp;omega,h1.1,by omega,h1.2.2,yc m⟩
 have hlen:(gU 0 (m:Int)).length=m:=by simp[gU]
 rw[hlen]at g2 g3;have hd:du=aa (lW 3 (op2 dm (eZ (aA (bA (aA (cD (.str "one")) aH)) aH)) (bG (aD 2)))) (aa (jW (dF lC (aA (aD 2) aH)) (gnm 4) uP) (retS (op2 ixD (gr 3) (cD (.int 0))))):=rfl;cases L with
 |nil=>exact absurd rfl hne
 |cons x r=>
  simp only[iW,zAO]at g1;simp only[nds]at g2;simp only[ao]at g3;refine⟨x,?_,g1.1,by omega,by omega,pv_first gP⟩;simp[dM,hd,bC,aBT m hm,hr,e]
section
variable{ρ:En}{fg:D->En->Rs En}{fe:En->Rs D}{inn:En->Rs (List D)}{fi:En->Rs (List D)}{js:List (Option Nat)}{ds out:List D}
theorem uY{α:Type}{f g:α->D}:∀(l:List α),(∀x∈l,∃ρ1,fg (f x) ρ= .ok ρ1/\fe ρ1= .ok (g x))->lcL ρ fg cj fe (l.map f)= .ok (l.map g)
 |[],_=>rfl
 |x::l,h=>by
  obtain⟨ρ1,e1,e2⟩:=h x zAU;rw[zAj,lcL,e1,j0];simp only[cj,j0,if_true];rw[e2,j0]
  have:=uY l λ z hz=>h z (zAb _ hz)
  rw[this,j0];rfl
theorem aBN{α:Type}{f:α->D}{g:α->List D}:∀(l:List α),(∀x∈l,∃ρ1,fg (f x) ρ= .ok ρ1/\inn ρ1= .ok (g x))->nsL ρ fg cj inn (l.map f)= .ok (l.flatMap g)
 |[],_=>rfl
 |x::l,h=>by
  obtain⟨ρ1,e1,e2⟩:=h x zAU;rw[zAj,nsL,e1,j0];simp only[cj,j0,if_true];rw[e2,j0]
  have:=aBN l λ z hz=>h z (zAb _ hz)
  rw[this,j0];rfl
def aB3(h1:fi (shE ρ)= .ok ds)(h2:ds.length<16777216)(h3:lcL (stE js (shE ρ)) fg ft fe ds= .ok out):lcD fi js fg ft fe ρ= .ok (.lst out):=by
 unfold lcD;rw[h1,j0,if_pos (show ds.length<zAN from h2),h3]
end
def pD(p:Int×Int):D:=.tup [.int p.1,.int p.2]
def shf(s:Int)(p:Int×Int):Int×Int:=(s+p.1,s+p.2)
def crs(m o:Nat):List (Int×Int):=(zBG m).flatMap λ(p:Nat)=>(zBG o).map λ(q:Nat)=>((p:Int),(m:Int)+(q:Int))
def wid(x:D):Nat:=((lk x).getD (0,0)).2
mutual
def tw:D->List (Int×Int)
 | .tup [.str w,.tup ys]=>tws ys (w=="across") 0
 |_=>[]
def tws:List D->Bool->Nat->List (Int×Int)
 |[],_,_=>[]
 |y::ys,b,m=>((tw y).map (shf m)++(if b then crs m (wid y)else[]))++tws ys b (m+wid y)
end
def pB(m o:Nat):(crs m o).length=m*o:=by
 unfold crs;rw[List.length_flatMap];simp only[zAH,zDQ];rw[List.map_const',List.sum_replicate_nat,zDQ]
def aDs(s:Int)(m:Nat):gU s (s+m)=(zBG m).map λ(k:Nat)=>.int (s+(k:Int)):=by
 unfold gU;rw[show(s+(m:Int)-s).toNat=m by omega]
def aDt(m:Nat):gU 0 (m:Int)=(zBG m).map λ(k:Nat)=>.int (k:Int):=by
 have:=aDs 0 m
 simpa using this
theorem yu:∀l:List (Int×Int),gZ (l.map pD)=true
 |[]=>rfl
 |p::l=>by simp[gZ,imm,pD,yu l]
def pA(w:Str):eqR false (.str w) (.str "across")= .ok (.bl (w=="across")):=by
 unfold eqR;simp[cM,aN,eqD]
def uT(R:List D->Rs D):En->Ou:=
   (aa (nU (bH R (aA (aD 4) (aA (aD 2) aH))) (jU 2 (bZ (gnm 5) (bZ (gnm 6) jr))))
   (aa (aAE 3 (aD 6))
   (aa (ifS (tsb (op2 (eqR false) (op2 ixD (aD 0) (cD (.int 0))) (cD (.str "across"))))
    (nP 3 (qR (dF gW (aA (aD 1) (aA (aD 2) aH))) [none,none,some 2,some 5] (gnm 0) cj (inL (dF gW (aA (aD 2) (aA (aD 3) aH))) (gnm 1) cj (bA (aA (bG (aD 0)) (aA (bG (aD 1)) aH))))))
    Ou.nx)
   (dU 2 (aD 5)))))
def aCC{x:D}{s:Int}{m o:Nat}{S3 S4 S6:Slot}(h0:0<=s)(h1:s<=100)(h2:m<=100)(h3:o<=100):
  qR (dF gW (aA (aD 1) (aA (aD 2) aH))) [none,none,some 2,some 5] (gnm 0) cj (inL (dF gW (aA (aD 2) (aA (aD 3) aH))) (gnm 1) cj (bA (aA (bG (aD 0)) (aA (bG (aD 1)) aH)))) [.sh x,.sh (.int s),.sh (.int (s+m)),S3,S4,.sh (.int (s+m+o)),S6]= .ok (.lst (((crs m o).map (shf s)).map pD)):=by
 have r1:=yX (i:=s) (j:=s+m) (by omega) (by omega) (by omega) (by omega);have r2:=yX (i:=s+m) (j:=s+m+o) (by omega) (by omega) (by omega) (by omega);rw[aDs]at r1 r2;have hi:dF gW (aA (aD 1) (aA (aD 2) aH)) (shE [.sh x,.sh (.int s),.sh (.int (s+m)),S3,S4,.sh (.int (s+m+o)),S6])= .ok ((zBG m).map λ(k:Nat)=>.int (s+(k:Int))):=by
  simp[shE,vC,r1]
 have hs:stE [none,none,some 2,some 5] (shE [.sh x,.sh (.int s),.sh (.int (s+m)),S3,S4,.sh (.int (s+m+o)),S6])=[.no,.no,.sh (.int (s+m)),.sh (.int (s+m+o))]:=by
  simp[stE,shE,vC]
 have hn:nsL [.no,.no,.sh (.int (s+m)),.sh (.int (s+m+o))] (gnm 0) cj (inL (dF gW (aA (aD 2) (aA (aD 3) aH))) (gnm 1) cj (bA (aA (bG (aD 0)) (aA (bG (aD 1)) aH)))) ((zBG m).map λ(k:Nat)=>.int (s+(k:Int)))= .ok (((crs m o).map (shf s)).map pD):=by
  rw[aBN (g:=λ(p:Nat)=>(zBG o).map λ(q:Nat)=>pD (s+p,s+m+q))]
  .congr 1
   unfold crs;rw[zFy,zFy];congr 1;funext p;rw[zB8,zB8];congr 1;funext q;simp[shf,zGk]
  .intro p _
   refine⟨[.sh (.int (s+p)),.no,.sh (.int (s+m)),.sh (.int (s+m+o))],by simp,?_⟩;unfold inL;rw[if_pos (by rfl)]
   have:dF gW (aA (aD 2) (aA (aD 3) aH)) [.sh (.int (s+p)),.no,.sh (.int (s+m)),.sh (.int (s+m+o))]= .ok ((zBG o).map λ(k:Nat)=>.int (s+m+(k:Int))):=by simp[r2]
   rw[this,j0];exact uY _ λ q _=>⟨[.sh (.int (s+p)),.sh (.int (s+m+q)),.sh (.int (s+m)),.sh (.int (s+m+o))],by simp,by simp[pD]⟩
 unfold qR;rw[hi,j0,hs,hn];dsimp only;rw[if_pos (by rw[zAH,zAH,pB];have:m*o<=100*100:=zDo h2 h3;have:zAN=16777216:=rfl;omega)]
def aGG{R:List D->Rs D}{w:Str}{z y:D}{s:Int}{m o:Nat}{A:List (Int×Int)}{t4 t5 t6:Slot}(hR:R [y,.int (s+m)]= .ok (.tup [.int (s+m+o),.lst (((tw y).map (shf (s+m))).map pD)]))(h0:0<=s)(h1:s<=100)(h2:m<=100)(h3:o<=100)(hA:A.length<=10000)(ht:(tw y).length<=10000):
  ∃u4 u5 u6,okE (gnm 4 y [.sh (.tup [.str w,z]),.sh (.int s),.sh (.int (s+m)),.ow (.lst (A.map pD)),t4,t5,t6]) (uT R)= .nx [.sh (.tup [.str w,z]),.sh (.int s),.sh (.int (s+m+o)),.ow (.lst ((A++((tw y).map (shf m)++(if (w=="across")=true then crs m o else[])).map (shf s)).map pD)),u4,u5,u6]:=by
 refine⟨.sh y,.sh (.int (s+m+o)),.sh (.lst (((tw y).map (shf (s+m))).map pD)),?_⟩;have e1:((tw y).map (shf (s+m))).map pD=(((tw y).map (shf m)).map (shf s)).map pD:=by
  rw[zB8 (f:=shf m)];congr 2;funext p;simp[shf,zGk]
 have hsz:zAN=16777216:=rfl;have c1:nU (bH R (aA (aD 4) (aA (aD 2) aH))) (jU 2 (bZ (gnm 5) (bZ (gnm 6) jr))) [.sh (.tup [.str w,z]),.sh (.int s),.sh (.int (s+m)),.ow (.lst (A.map pD)),.sh y,t5,t6]= .nx [.sh (.tup [.str w,z]),.sh (.int s),.sh (.int (s+m)),.ow (.lst (A.map pD)),.sh y,.sh (.int (s+m+o)),.sh (.lst (((tw y).map (shf (s+m))).map pD))]:=by
  simp[nU,hR]
 have c2:aAE 3 (aD 6) [.sh (.tup [.str w,z]),.sh (.int s),.sh (.int (s+m)),.ow (.lst (A.map pD)),.sh y,.sh (.int (s+m+o)),.sh (.lst (((tw y).map (shf (s+m))).map pD))]= .nx [.sh (.tup [.str w,z]),.sh (.int s),.sh (.int (s+m)),.ow (.lst ((A++((tw y).map (shf m)).map (shf s)).map pD)),.sh y,.sh (.int (s+m+o)),.sh (.lst (((tw y).map (shf (s+m))).map pD))]:=by
  have hv:aD 6 [.sh (.tup [.str w,z]),.sh (.int s),.sh (.int (s+m)),.ow (.lst (A.map pD)),.sh y,.sh (.int (s+m+o)),.sh (.lst (((tw y).map (shf (s+m))).map pD))]= .ok (.lst (((tw y).map (shf (s+m))).map pD)):=by simp
  unfold aAE;simp only[zBU,zBe];rw[hv,qp];unfold aFo;dsimp only;rw[if_pos ⟨by simp only[zAH];omega,yu _⟩,e1,<-zBV];rfl
 rw[gf,eV];show uT R [.sh (.tup [.str w,z]),.sh (.int s),.sh (.int (s+m)),.ow (.lst (A.map pD)),.sh y,t5,t6]=_;unfold uT;rw[bD,c1,cN,bD,c2,cN,bD];by_cases hw:(w=="across")=true
 .have hx:=aCC (x:=.tup [.str w,z]) (S3:=.ow (.lst ((A++((tw y).map (shf m)).map (shf s)).map pD))) (S4:=.sh y) (S6:=.sh (.lst (((tw y).map (shf (s+m))).map pD))) h0 h1 h2 h3
  have hmo:m*o<=100*100:=zDo h2 h3;have hl:=pB m o;have c3:ifS (tsb (op2 (eqR false) (op2 ixD (aD 0) (cD (.int 0))) (cD (.str "across"))))
    (nP 3 (qR (dF gW (aA (aD 1) (aA (aD 2) aH))) [none,none,some 2,some 5] (gnm 0) cj (inL (dF gW (aA (aD 2) (aA (aD 3) aH))) (gnm 1) cj (bA (aA (bG (aD 0)) (aA (bG (aD 1)) aH))))))
    Ou.nx [.sh (.tup [.str w,z]),.sh (.int s),.sh (.int (s+m)),.ow (.lst ((A++((tw y).map (shf m)).map (shf s)).map pD)),.sh y,.sh (.int (s+m+o)),.sh (.lst (((tw y).map (shf (s+m))).map pD))]=nP 3 (qR (dF gW (aA (aD 1) (aA (aD 2) aH))) [none,none,some 2,some 5] (gnm 0) cj (inL (dF gW (aA (aD 2) (aA (aD 3) aH))) (gnm 1) cj (bA (aA (bG (aD 0)) (aA (bG (aD 1)) aH))))) [.sh (.tup [.str w,z]),.sh (.int s),.sh (.int (s+m)),.ow (.lst ((A++((tw y).map (shf m)).map (shf s)).map pD)),.sh y,.sh (.int (s+m+o)),.sh (.lst (((tw y).map (shf (s+m))).map pD))]:=by
   simp[pA,hw]
  have c4:nP 3 (qR (dF gW (aA (aD 1) (aA (aD 2) aH))) [none,none,some 2,some 5] (gnm 0) cj (inL (dF gW (aA (aD 2) (aA (aD 3) aH))) (gnm 1) cj (bA (aA (bG (aD 0)) (aA (bG (aD 1)) aH))))) [.sh (.tup [.str w,z]),.sh (.int s),.sh (.int (s+m)),.ow (.lst ((A++((tw y).map (shf m)).map (shf s)).map pD)),.sh y,.sh (.int (s+m+o)),.sh (.lst (((tw y).map (shf (s+m))).map pD))]= .nx [.sh (.tup [.str w,z]),.sh (.int s),.sh (.int (s+m)),.ow (.lst ((A++((tw y).map (shf m)++crs m o).map (shf s)).map pD)),.sh y,.sh (.int (s+m+o)),.sh (.lst (((tw y).map (shf (s+m))).map pD))]:=by
   show(qR _ _ _ _ _ _).bo _=_
   rw[hx,qp];unfold ue;dsimp only;rw[if_pos (by simp only[zAH,zAC];omega),<-zBV,zA2,<-zBV];rfl
  rw[c3,c4,cN,if_pos hw];rfl
 .have c3:ifS (tsb (op2 (eqR false) (op2 ixD (aD 0) (cD (.int 0))) (cD (.str "across"))))
    (nP 3 (qR (dF gW (aA (aD 1) (aA (aD 2) aH))) [none,none,some 2,some 5] (gnm 0) cj (inL (dF gW (aA (aD 2) (aA (aD 3) aH))) (gnm 1) cj (bA (aA (bG (aD 0)) (aA (bG (aD 1)) aH))))))
    Ou.nx [.sh (.tup [.str w,z]),.sh (.int s),.sh (.int (s+m)),.ow (.lst ((A++((tw y).map (shf m)).map (shf s)).map pD)),.sh y,.sh (.int (s+m+o)),.sh (.lst (((tw y).map (shf (s+m))).map pD))]= .nx [.sh (.tup [.str w,z]),.sh (.int s),.sh (.int (s+m)),.ow (.lst ((A++((tw y).map (shf m)).map (shf s)).map pD)),.sh y,.sh (.int (s+m+o)),.sh (.lst (((tw y).map (shf (s+m))).map pD))]:=by
   simp[pA,hw]
  rw[c3,cN,if_neg hw,zA3];rfl
def vd{y:D}{ys:List D}{d o:Nat}(h:lks (y::ys)=some (d,o)):∃d1 o1 d2 o2,lk y=some (d1,o1)/\lks ys=some (d2,o2)/\d1<=d/\d2<=d/\o=o1+o2/\wid y=o1:=by
 simp only[lks]at h;cases hx:lk y with
 |none=>rw[hx]at h;cases h
 |some p=>
  rw[hx]at h;cases hr:lks ys with
  |none=>rw[hr]at h;cases h
  |some q=>
   rw[hr]at h;simp at h;exact⟨p.1,p.2,q.1,q.2,rfl,rfl,by omega,by omega,by omega,by simp[wid,hx]⟩
def aAa(m o:Nat):(m+o)*(m+o)=m*m+m*o+(m*o+o*o):=by
 rw[Nat.add_mul,Nat.mul_add,Nat.mul_add,zEQ o m]
def vK{a b:Nat}(h:a<=b):a*a<=b*b:=zDo h h
def aGs(n:Nat):Prop:=∀(x:D) (d o:Nat) (s:Int),lk x=some (d,o)->d<=n->Sm x->0<=s->s+o<=40->bR n [x,.int s]= .ok (.tup [.int (s+o),.lst (((tw x).map (shf s)).map pD)])/\(tw x).length<=o*o
theorem n6{n:Nat}(IH:aGs n){w:Str}{z:D}{s:Int}(h0:0<=s):∀(ys:List D) (m d o:Nat) (A:List (Int×Int)) (t4 t5 t6:Slot),lks ys=some (d,o)->d<=n->s+m+o<=40->(∀y∈ys,Sm y)->A.length<=m*m->
  (∃u4 u5 u6,forL (gnm 4) (uT (bR n)) ys [.sh (.tup [.str w,z]),.sh (.int s),.sh (.int (s+m)),.ow (.lst (A.map pD)),t4,t5,t6]= .nx [.sh (.tup [.str w,z]),.sh (.int s),.sh (.int (s+(m+o:Nat))),.ow (.lst ((A++(tws ys (w=="across") m).map (shf s)).map pD)),u4,u5,u6])/\A.length+(tws ys (w=="across") m).length<=(m+o)*(m+o)
 |[],m,d,o,A,t4,t5,t6,h,_,_,_,hA=>by
  simp only[lks,zDa,zGC]at h;obtain⟨rfl,rfl⟩:=h;exact⟨⟨t4,t5,t6,by simp[tws,forL]⟩,by simpa[tws]using hA⟩
 |y::ys,m,d,o,A,t4,t5,t6,h,hd,hm,hS,hA=>by
  obtain⟨d1,o1,d2,o2,e1,e2,l1,l2,rfl,ew⟩:=vd h;obtain⟨eR,eL⟩:=IH y d1 o1 (s+m) e1 (by omega) (hS y zAU) (by omega) (by omega);have q1:=vK (show o1<=40 by omega);have q2:=vK (show m<=40 by omega);obtain⟨u4,u5,u6,eu⟩:=aGG (w:=w) (z:=z) (A:=A) (t4:=t4) (t5:=t5) (t6:=t6) eR h0 (by omega) (by omega) (by omega) (by omega) (by omega);have q3:=aAa m o1;have q4:=pB m o1;have hl:(A++((tw y).map (shf m)++(if (w=="across")=true then crs m o1 else[])).map (shf s)).length<=(m+o1)*(m+o1):=by
   rw[zAC,zAH,zAC,zAH];split
   .omega
   .simp;omega
  obtain⟨⟨v4,v5,v6,ev⟩,el⟩:=n6 IH (w:=w) (z:=z) h0 ys (m+o1) d2 o2 (A++((tw y).map (shf m)++(if (w=="across")=true then crs m o1 else[])).map (shf s)) u4 u5 u6 e2 (by omega) (by omega) (λ q hq=>hS q (zAb _ hq)) hl;have et:tws (y::ys) (w=="across") m=((tw y).map (shf m)++(if (w=="across")=true then crs m o1 else[]))++tws ys (w=="across") (m+o1):=by
   rw[tws,ew]
  refine⟨⟨v4,v5,v6,?_⟩,?_⟩
  .rw[gf,eV]at eu
   rw[iD,gf,eV,eu,yI];rw[show s+((m+o1:Nat):Int)=s+m+o1 by omega]at ev;rw[ev,et,zBV (f:=shf s) (l₂:=tws ys _ _),zA2 A,zCP]
  .rw[et]
   rw[zAC,zAH]at el;rw[zAC (bs:=tws ys _ _),<-zCP m];omega
def aA2(R:List D->Rs D):bB R=aa (ifS (tsb (op2 (eqR false) (aD 0) (cD az)))
   (retS (bA (aA (op2 bJ (bG (aD 1)) (cD (.int 1))) (aA (eZ aH) aH))))
   Ou.nx)
  (aa (dU 2 (aD 1))
  (aa (zR 3 (eZ aH))
  (aa (jW (nH (op2 ixD (aD 0) (cD (.int 1)))) (gnm 4) (uT R))
  (retS (bA (aA (bG (aD 2)) (aA (ux 3) aH))))))):=rfl
def aBM{x:D}(hs:Sm x):eqR false x az= .ok (.bl (oR x)):=by
 rw[xm hs.2 hs.1 rfl];rfl
theorem tQ:∀n,aGs n
 |0,x,d,o,s,h,hd,_,_,_=>by have:=xO h;omega
 |n+1,x,d,o,s,h,hd,hS,h0,h1=>by
  have hq:=aBM hS;show gR 7 (bB (bR n)) [x,.int s]=_/\_;have st:bC 7 [x,.int s]=[.sh x,.sh (.int s),.no,.no,.no,.no,.no]:=rfl;rw[aA2,gA,st];cases c1:oR x with
  |true=>
   have:=ph c1
   subst this;rw[ie]at h;cases h;rw[c1]at hq
   have:tw az=[]:=by simp[az,tw]
   rw[this];simp[hq]
  |false=>
   rw[c1]at hq;cases c2:fj x with
   |false=>rw[o8 c1 c2]at h;cases h
   |true=>
    obtain⟨w,ys,rfl,h2,hl⟩:=lz c2;rw[hl]at h;cases hy:lks ys with
    |none=>rw[hy]at h;cases h
    |some q=>
     rw[hy]at h;obtain⟨q1,q2⟩:=q;cases h;obtain⟨⟨u4,u5,u6,eu⟩,el⟩:=n6 (tQ n) (w:=w) (z:=.tup ys) h0 ys 0 q1 q2 [] .no .no .no hy (by omega) (by omega) (wX hS) (by simp);have et:tw (.tup [.str w,.tup ys])=tws ys (w=="across") 0:=by rw[tw]
     rw[et];refine⟨?_,by simpa using el⟩;have eu':forL (gnm 4) (uT (bR n)) ys [.sh (.tup [.str w,.tup ys]),.sh (.int s),.sh (.int s),.ow (.lst []),.no,.no,.no]= .nx [.sh (.tup [.str w,.tup ys]),.sh (.int s),.sh (.int (s+q2)),.ow (.lst (((tws ys (w=="across") 0).map (shf s)).map pD)),u4,u5,u6]:=by
      simpa using eu
     simp[hq,eu']
def eS:En->Ou:=nP 2 (lcD (nH (aD 5)) [none,none,some 1] (jU 2 (bZ (gnm 0) (bZ (gnm 1) jr))) cj (bA (aA (op2 bJ (bG (aD 2)) (bG (aD 0))) (aA (op2 bJ (bG (aD 2)) (bG (aD 1))) aH))))
def eB:En->Ou:=(nP 2 (lcD (dF lC (aA (aD 4) aH)) [none,some 6,some 1] (gnm 0) cj (bA (aA (bG (aD 1)) (aA (op2 bJ (bG (aD 2)) (bG (aD 0))) aH)))))
def uV(R:List D->Rs D):En->Ou:=
   (aa (nU (bH R (aA (aD 3) aH)) (jU 2 (bZ (gnm 4) (bZ (gnm 5) jr))))
   (aa eS
   (aa (ifS (tsb (op2 (eqR false) (op2 ixD (aD 0) (cD (.int 0))) (cD (.str "across"))))
    (jW (dF lC (aA (aD 1) aH)) (gnm 6) eB)
    Ou.nx)
   (dU 1 (op2 bJ (aD 1) (aD 4))))))
def aGm{x y a:D}{m:Nat}{L B:List (Int×Int)}{t6:Slot}(h:L.length+B.length<=16000000):
  eS [.sh x,.sh (.int m),.ow (.lst (L.map pD)),.sh y,.sh a,.sh (.lst (B.map pD)),t6]= .nx [.sh x,.sh (.int m),.ow (.lst ((L++B.map (shf m)).map pD)),.sh y,.sh a,.sh (.lst (B.map pD)),t6]:=by
 have e:lcD (nH (aD 5)) [none,none,some 1] (jU 2 (bZ (gnm 0) (bZ (gnm 1) jr))) cj (bA (aA (op2 bJ (bG (aD 2)) (bG (aD 0))) (aA (op2 bJ (bG (aD 2)) (bG (aD 1))) aH))) [.sh x,.sh (.int m),.ow (.lst (L.map pD)),.sh y,.sh a,.sh (.lst (B.map pD)),t6]= .ok (.lst (B.map λ p=>pD (shf m p))):=by
  refine aB3 (ds:=B.map pD) (by simp[shE,vC]) (by rw[zAH];omega) ?_;have hs:stE [none,none,some 1] (shE [.sh x,.sh (.int m),.ow (.lst (L.map pD)),.sh y,.sh a,.sh (.lst (B.map pD)),t6])=[.no,.no,.sh (.int m)]:=by simp[stE,shE,vC]
  rw[hs];exact uY B λ p _=>⟨[.sh (.int p.1),.sh (.int p.2),.sh (.int m)],by simp[pD],by simp[pD,shf]⟩
 unfold eS
 show(lcD _ _ _ _ _ _).bo _=_
 rw[e,qp];unfold ue;dsimp only;have hsz:zAN=16777216:=rfl;rw[if_pos (by simp only[zAH];omega),zBV,zB8];rfl
def row(m o p:Nat):List (Int×Int):=(zBG o).map λ(q:Nat)=>((p:Int),(m:Int)+(q:Int))
def aGn{x y a:D}{m o p:Nat}{L:List (Int×Int)}(h:L.length<=100000)(h2:o<=100):
  eB [.sh x,.sh (.int m),.ow (.lst (L.map pD)),.sh y,.sh (.int o),.sh a,.sh (.int p)]= .nx [.sh x,.sh (.int m),.ow (.lst ((L++row m o p).map pD)),.sh y,.sh (.int o),.sh a,.sh (.int p)]:=by
 have e:lcD (dF lC (aA (aD 4) aH)) [none,some 6,some 1] (gnm 0) cj (bA (aA (bG (aD 1)) (aA (op2 bJ (bG (aD 2)) (bG (aD 0))) aH))) [.sh x,.sh (.int m),.ow (.lst (L.map pD)),.sh y,.sh (.int o),.sh a,.sh (.int p)]= .ok (.lst ((zBG o).map λ(q:Nat)=>pD ((p:Int),(m:Int)+(q:Int)))):=by
  have r1:=lZ (j:=(o:Int)) (by omega) (by omega);rw[aDt]at r1;refine aB3 (ds:=(zBG o).map λ(k:Nat)=>.int (k:Int)) (by simp[shE,vC,r1]) (by simp;omega) ?_;have hs:stE [none,some 6,some 1] (shE [.sh x,.sh (.int m),.ow (.lst (L.map pD)),.sh y,.sh (.int o),.sh a,.sh (.int p)])=[.no,.sh (.int p),.sh (.int m)]:=by simp[stE,shE,vC]
  rw[hs];exact uY _ λ q _=>⟨[.sh (.int q),.sh (.int p),.sh (.int m)],by simp,by simp[pD]⟩
 unfold eB nP;simp only[zBU,zBe];rw[e,qp];unfold ue;dsimp only;have hsz:zAN=16777216:=rfl;rw[if_pos (by simp only[zAH,zDQ];omega),zBV];unfold row;rw[zB8];rfl
theorem yW{x y a:D}{m o:Nat}(h2:o<=100):∀(ps:List Nat) (L:List (Int×Int)) (t6:Slot),L.length+ps.length*o<=100000->
  ∃u6,forL (gnm 6) eB (ps.map λ(k:Nat)=>.int (k:Int)) [.sh x,.sh (.int m),.ow (.lst (L.map pD)),.sh y,.sh (.int o),.sh a,t6]= .nx [.sh x,.sh (.int m),.ow (.lst ((L++ps.flatMap (row m o)).map pD)),.sh y,.sh (.int o),.sh a,u6]
 |[],L,t6,_=>⟨t6,by simp[forL]⟩
 |p::ps,L,t6,h=>by
  rw[zAq,Nat.add_mul]at h;have hl:(row m o p).length=o:=by simp[row]
  obtain⟨u6,e⟩:=yW h2 ps (L++row m o p) (.sh (.int p)) (by rw[zAC,hl];omega);refine⟨u6,?_⟩;rw[zAj,iD,gf,eV]
  show(eB [.sh x,.sh (.int m),.ow (.lst (L.map pD)),.sh y,.sh (.int o),.sh a,.sh (.int p)]).tn _=_
  rw[aGn (by omega) h2,yI,e,List.flatMap_cons,zA2]
def aGF{R:List D->Rs D}{w:Str}{z y:D}{m o:Nat}{A:List (Int×Int)}{t3 t4 t5 t6:Slot}(hR:R [y]= .ok (.tup [.int o,.lst ((tw y).map pD)]))(h2:m<=100)(h3:o<=100)(hA:A.length<=10000)(ht:(tw y).length<=10000):
  ∃u3 u4 u5 u6,okE (gnm 3 y [.sh (.tup [.str w,z]),.sh (.int m),.ow (.lst (A.map pD)),t3,t4,t5,t6]) (uV R)= .nx [.sh (.tup [.str w,z]),.sh (.int (m+o:Nat)),.ow (.lst ((A++((tw y).map (shf m)++(if (w=="across")=true then crs m o else[]))).map pD)),u3,u4,u5,u6]:=by
 have c1:nU (bH R (aA (aD 3) aH)) (jU 2 (bZ (gnm 4) (bZ (gnm 5) jr))) [.sh (.tup [.str w,z]),.sh (.int m),.ow (.lst (A.map pD)),.sh y,t4,t5,t6]= .nx [.sh (.tup [.str w,z]),.sh (.int m),.ow (.lst (A.map pD)),.sh y,.sh (.int o),.sh (.lst ((tw y).map pD)),t6]:=by
  simp[nU,hR]
 have c2:=aGm (x:=.tup [.str w,z]) (y:=y) (a:=.int o) (m:=m) (L:=A) (B:=tw y) (t6:=t6) (by omega);have hmo:m*o<=100*100:=zDo h2 h3;obtain⟨u6,e⟩:=yW (x:=.tup [.str w,z]) (y:=y) (a:=.lst ((tw y).map pD)) (m:=m) h3 (zBG m) (A++(tw y).map (shf m)) t6 (by rw[zAC,zAH,zDQ];omega);have r1:=lZ (j:=(m:Int)) (by omega) (by omega);rw[aDt]at r1;have ec:crs m o=(zBG m).flatMap (row m o):=rfl;by_cases hw:(w=="across")=true
 .refine⟨.sh y,.sh (.int o),.sh (.lst ((tw y).map pD)),u6,?_⟩
  have c3:ifS (tsb (op2 (eqR false) (op2 ixD (aD 0) (cD (.int 0))) (cD (.str "across"))))
    (jW (dF lC (aA (aD 1) aH)) (gnm 6) eB)
    Ou.nx [.sh (.tup [.str w,z]),.sh (.int m),.ow (.lst ((A++(tw y).map (shf m)).map pD)),.sh y,.sh (.int o),.sh (.lst ((tw y).map pD)),t6]= .nx [.sh (.tup [.str w,z]),.sh (.int m),.ow (.lst ((A++((tw y).map (shf m)++crs m o)).map pD)),.sh y,.sh (.int o),.sh (.lst ((tw y).map pD)),u6]:=by
   rw[<-zA2,ec,<-e];simp only[aFc,aET,aFS,aCZ];simp[pA,hw,r1]
  rw[gf,eV];show uV R [.sh (.tup [.str w,z]),.sh (.int m),.ow (.lst (A.map pD)),.sh y,t4,t5,t6]=_;unfold uV;rw[bD,c1,cN,bD,c2,cN,bD,c3,cN,if_pos hw];simp
 .refine⟨.sh y,.sh (.int o),.sh (.lst ((tw y).map pD)),t6,?_⟩
  have c3:ifS (tsb (op2 (eqR false) (op2 ixD (aD 0) (cD (.int 0))) (cD (.str "across"))))
    (jW (dF lC (aA (aD 1) aH)) (gnm 6) eB)
    Ou.nx [.sh (.tup [.str w,z]),.sh (.int m),.ow (.lst ((A++(tw y).map (shf m)).map pD)),.sh y,.sh (.int o),.sh (.lst ((tw y).map pD)),t6]= .nx [.sh (.tup [.str w,z]),.sh (.int m),.ow (.lst ((A++(tw y).map (shf m)).map pD)),.sh y,.sh (.int o),.sh (.lst ((tw y).map pD)),t6]:=by
   simp[pA,hw]
  rw[gf,eV];show uV R [.sh (.tup [.str w,z]),.sh (.int m),.ow (.lst (A.map pD)),.sh y,t4,t5,t6]=_;unfold uV;rw[bD,c1,cN,bD,c2,cN,bD,c3,cN,if_neg hw,zA3];simp
def aGr(n:Nat):Prop:=∀(x:D) (d o:Nat),lk x=some (d,o)->d<=n->Sm x->o<=40->bu n [x]= .ok (.tup [.int o,.lst ((tw x).map pD)])
def aAW{x:D}{d o:Nat}(h:lk x=some (d,o))(hS:Sm x)(ho:o<=40):(tw x).length<=o*o:=(tQ d x d o 0 h (zAP _) hS (by omega) (by omega)).2
theorem uw{n:Nat}(IH:aGr n){w:Str}{z:D}:∀(ys:List D) (m d o:Nat) (A:List (Int×Int)) (t3 t4 t5 t6:Slot),lks ys=some (d,o)->d<=n->m+o<=40->(∀y∈ys,Sm y)->A.length<=m*m->
  ∃u3 u4 u5 u6,forL (gnm 3) (uV (bu n)) ys [.sh (.tup [.str w,z]),.sh (.int m),.ow (.lst (A.map pD)),t3,t4,t5,t6]= .nx [.sh (.tup [.str w,z]),.sh (.int (m+o:Nat)),.ow (.lst ((A++tws ys (w=="across") m).map pD)),u3,u4,u5,u6]
 |[],m,d,o,A,t3,t4,t5,t6,h,_,_,_,hA=>by
  simp only[lks,zDa,zGC]at h;obtain⟨rfl,rfl⟩:=h;exact⟨t3,t4,t5,t6,by simp[tws,forL]⟩
 |y::ys,m,d,o,A,t3,t4,t5,t6,h,hd,hm,hS,hA=>by
  obtain⟨d1,o1,d2,o2,e1,e2,l1,l2,rfl,ew⟩:=vd h;have eR:=IH y d1 o1 e1 (by omega) (hS y zAU) (by omega);have eL:=aAW e1 (hS y zAU) (by omega);have q1:=vK (show o1<=40 by omega);have q2:=vK (show m<=40 by omega);obtain⟨u3,u4,u5,u6,eu⟩:=aGF (w:=w) (z:=z) (m:=m) (A:=A) (t3:=t3) (t4:=t4) (t5:=t5) (t6:=t6) eR (by omega) (by omega) (by omega) (by omega);have q3:=aAa m o1;have q4:=pB m o1;have hl:(A++((tw y).map (shf m)++(if (w=="across")=true then crs m o1 else[]))).length<=(m+o1)*(m+o1):=by
   rw[zAC,zAC,zAH];split
   .omega
   .simp;omega
  obtain⟨v3,v4,v5,v6,ev⟩:=uw IH (w:=w) (z:=z) ys (m+o1) d2 o2 (A++((tw y).map (shf m)++(if (w=="across")=true then crs m o1 else[]))) u3 u4 u5 u6 e2 (by omega) (by omega) (λ q hq=>hS q (zAb _ hq)) hl;have et:tws (y::ys) (w=="across") m=((tw y).map (shf m)++(if (w=="across")=true then crs m o1 else[]))++tws ys (w=="across") (m+o1):=by
   rw[tws,ew]
  refine⟨v3,v4,v5,v6,?_⟩;rw[gf,eV]at eu;rw[iD,gf,eV,eu,yI,ev,et,zA2 A,zCP]
def aCY(R:List D->Rs D):bI R=aa (ifS (tsb (op2 (eqR false) (aD 0) (bA (aA (cD (.str "one")) aH))))
   (retS (bA (aA (cD (.int 1)) (aA (eZ aH) aH))))
   Ou.nx)
  (aa (dU 1 (cD (.int 0)))
  (aa (zR 2 (eZ aH))
  (aa (jW (nH (op2 ixD (aD 0) (cD (.int 1)))) (gnm 3) (uV R))
  (retS (bA (aA (bG (aD 1)) (aA (ux 2) aH))))))):=rfl
theorem aAT:∀n,aGr n
 |0,x,d,o,h,hd,_,_=>by have:=xO h;omega
 |n+1,x,d,o,h,hd,hS,h1=>by
  have hq:eqR false x (.tup [.str "one"])= .ok (.bl (oR x)):=aBM hS;show gR 7 (bI (bu n)) [x]=_;have st:bC 7 [x]=[.sh x,.no,.no,.no,.no,.no,.no]:=rfl;rw[aCY,gA,st];cases c1:oR x with
  |true=>
   have:=ph c1
   subst this;rw[ie]at h;cases h;rw[c1]at hq
   have:tw az=[]:=by simp[az,tw]
   rw[this];simp[hq]
  |false=>
   rw[c1]at hq;cases c2:fj x with
   |false=>rw[o8 c1 c2]at h;cases h
   |true=>
    obtain⟨w,ys,rfl,h2,hl⟩:=lz c2;rw[hl]at h;cases hy:lks ys with
    |none=>rw[hy]at h;cases h
    |some q=>
     rw[hy]at h;obtain⟨q1,q2⟩:=q;cases h;obtain⟨u3,u4,u5,u6,eu⟩:=uw (aAT n) (w:=w) (z:=.tup ys) ys 0 q1 q2 [] .no .no .no .no hy (by omega) (by omega) (wX hS) (by simp);have et:tw (.tup [.str w,.tup ys])=tws ys (w=="across") 0:=by rw[tw]
     rw[et];have eu':forL (gnm 3) (uV (bu n)) ys [.sh (.tup [.str w,.tup ys]),.sh (.int 0),.ow (.lst []),.no,.no,.no,.no]= .nx [.sh (.tup [.str w,.tup ys]),.sh (.int q2),.ow (.lst ((tws ys (w=="across") 0).map pD)),u3,u4,u5,u6]:=by
      simpa using eu
     simp[hq,eu']
def kh(x:D):D:=.tup ((jt ((tw x).map λ p=>[p.1,p.2])).map tupI)
def yL{x:D}{d o:Nat}(h:lk x=some (d,o))(hS:Sm x)(ho:o<=40):kZ [.lst ((tw x).map pD)]= .ok (.lst ((jt ((tw x).map λ p=>[p.1,p.2])).map tupI)):=by
 have hl:=aAW h hS ho;have q:=vK ho;have e:(tw x).map pD=((tw x).map λ p=>[p.1,p.2]).map tupI:=by
  rw[zB8];rfl
 unfold kZ;dsimp only;rw[e,pH (by intro ns hn;obtain⟨p,_,rfl⟩:=zC3.mp hn;simp)];dsimp only;rw[if_pos (by rw[zAH];omega)]
def xQ{x:D}{d o:Nat}(h:lk x=some (d,o))(hS:Sm x)(hd:d<=60)(ho:o<=40):di [x]= .ok (.tup [.int o,kh x]):=by
 have e:jB [x]= .ok (.tup [.int o,.lst ((tw x).map pD)]):=aAT 64 x d o h (by omega) hS ho;have hs:=yL h hS ho;have st:bC 3 [x]=[.sh x,.no,.no]:=rfl;simp only[di,cA,gA,st];simp[nU,e,hs,kh]
def yd{x:D}{d o:Nat}(h:lk x=some (d,o))(hS:Sm x)(hn:nd x<90000)(hd:d<=24)(ho:o<=40):bM [x]= .ok (.tup [.int o,kh x]):=by
 have e:gm [x,.int 0]= .ok (.tup [.int (0+o),.lst (((tw x).map (shf 0)).map pD)]):=(tQ 64 x d o 0 h (by omega) hS (by omega) (by omega)).1;have e0:(tw x).map (shf 0)=tw x:=by
  conv=>rhs;rw[<-List.map_id (tw x)]
  congr 1;funext p;simp[shf]
 rw[e0,Int.zero_add]at e;have hs:=yL h hS ho;have hp:eG [x]= .ok (.bl true):=by
  rw[ye hS hn];simp[ju,h,hd,ho]
 have hc:cY [x]= .ok .non:=by
  have st:bC 1 [x]=[.sh x]:=rfl;simp only[cY,cF,gA,st];simp[hp]
 have st:bC 3 [x]=[.sh x,.no,.no]:=rfl;simp only[bM,dH,gA,st];simp[nU,hc,e,hs,kh]
def vX{x:D}(hp:eG [x]= .ok (.bl false)):bM [x]= .ex "NoPlan":=by
 have hc:cY [x]= .ex "NoPlan":=by
  have st:bC 1 [x]=[.sh x]:=rfl;simp only[cY,cF,gA,st];simp[hp]
 have st:bC 3 [x]=[.sh x,.no,.no]:=rfl;simp only[bM,dH,gA,st];simp[hc]
def dD{x:D}(hS:Sm x)(hn:nd x<90000)(h:ju x=false):bM [x]= .ex "NoPlan":=vX (by rw[ye hS hn,h])
theorem sH:∀l:List Int,aR (l.map .int)=true/\ao (l.map .int)=0
 |[]=>⟨rfl,rfl⟩
 |x::l=>by
  have:=sH l
  constructor
  .simp[aR,aN,this.1]
  .simp[ao,cM,this.2]
theorem rT:∀l:List (List Int),aR (l.map tupI)=true/\ao (l.map tupI)<=1
 |[]=>⟨rfl,by simp[ao]⟩
 |x::l=>by
  have h1:=rT l;have h2:=sH x;constructor
  .simp[aR,aN,tupI,h1.1,h2.1]
  .simp only[zAj,ao,tupI,cM,h2.2]
   omega
def aAS(o:Nat)(x:D):eqR true (.tup [.int o,kh x]) (.tup [.int o,kh x])= .ok (.bl false):=by
 have h:=rT (jt ((tw x).map λ p=>[p.1,p.2]));have hd:aN (.tup [.int o,kh x])=true:=by simp[kh,aN,aR,h.1]
 have h3:cM (.tup [.int o,kh x])<=60:=by
  simp only[kh,cM,ao];omega
 rw[xm h3 hd hd,mU _ hd];rfl
def aEg{fe:En->Rs D}{ρ:En}{c w:Str}(h:fe (ρ.map shS)= .ex c)(hw:wdN c=some w):zU wdN "told" fe ρ= .ok (.str w):=by
 unfold zU;rw[h];dsimp only;rw[hw]
def aBS:aBU (.tup [.tup [.str "one"]]) (.int 41)= .ok (.tup (zAT 41 az)):=by kernel_rfl
def aC0{x y:D}{r:List D}:lk (.tup (.tup r::y::[]))=none:=by cases y<;>rfl
structure Pn(x:D)(d o:Nat):Prop where
 im:imm x=true
 no:aN x=true
 nn:nd x<=1000
 dp:cM x<=55
 l:lk x=some (d,o)
 d24:d<=24
 o40:o<=40
def Pn.sm{x:D}{d o:Nat}(P:Pn x d o):Sm x:=⟨P.no,by have:=P.dp;omega⟩
def aBA{x y:D}{d1 o1 d2 o2:Nat}(w:Str)(hw:(w=="beside"||w=="across")=true)(P:Pn x d1 o1)(Q:Pn y d2 o2)(h1:d1<=20)(h2:d2<=20)(h3:o1<=20)(h4:o2<=20)(n1:nd x<=200)(n2:nd y<=200)(p1:cM x<=49)(p2:cM y<=49):Pn (.tup [.str w,.tup [x,y]]) (max d1 d2+1) (o1+o2) where
 im:=by simp[imm,gZ,P.im,Q.im]
 no:=by simp[aN,aR,P.no,Q.no]
 nn:=by simp[nd,nds];omega
 dp:=by simp[cM,ao];omega
 l:=by simp only[lk];rw[hw];simp[lks,P.l,Q.l]
 d24:=by omega
 o40:=by omega
theorem Pn.tup{x:D}{d o:Nat}(P:Pn x d o):∃r,x= .tup r:=by
 have:=P.l
 cases x with
 |tup r=>exact⟨r,rfl⟩
 |_=>simp[lk]at this
def aGf{a b c e f g h:Slot}{x:D}{d o:Nat}(P:Pn x d o)(s6:Slot):∃t6,lT [a,b,c,e,f,.sh x,s6,g,h]= .nx [a,b,c,e,f,.sh x,t6,g,h]:=by
 have e1:=yd P.l P.sm (by have:=P.nn;omega) P.d24 P.o40;have e2:=xQ P.l P.sm (by have:=P.d24;omega) P.o40;have e3:=aAS o x;refine⟨.sh (.tup [.int o,kh x]),?_⟩;unfold lT;have hi:qT "tuple" (kh x)= .ok (.bl true):=rF;simp[e1,e2,e3,hi]
def oV(p q:D):List D:=[.non,.tup [],.tup [.str "two"],.lst [.str "one"],.tup [.str "across",.tup [p]],.tup [.str "beside",.lst [p,q]],.tup [p,q],.int 0,.str "one"]++[.tup [.str "across",.tup (zAT 41 az)],.tup [.str "beside",.tup [p,.non]],.tup [.str "one",.tup [p,q]],.dct [] []]
theorem aBL:∀m:Nat,1<=m->lks (zAT m az)=some (1,m)
 |0,h=>by omega
 |1,_=>by simp[lks,ie]
 |m+2,_=>by
  rw[zBA]
  have:=aBL (m+1) (by omega)
  simp only[lks,ie,this];simp;omega
def aFT{x p q:D}{d1 o1 d2 o2:Nat}(P:Pn p d1 o1)(Q:Pn q d2 o2)(p1:cM p<=49)(p2:cM q<=49)(h:x∈oV p q):bM [x]= .ex "NoPlan":=by
 have n1:=P.nn;have n2:=Q.nn;have nn:∀{x:D},lk x=none->ju x=false:=λ h=>by simp[ju,h]
 unfold oV at h;simp only[zCv,zBx,zAZ,zEN,or_false]at h;rcases h with rfl|rfl|rfl|rfl|rfl|rfl|rfl|rfl|rfl|rfl|rfl|rfl|rfl
 .exact dD ⟨rfl,by decide⟩ (by decide) (nn (by simp[lk]))
 .exact dD ⟨rfl,by decide⟩ (by decide) (nn (by simp[lk]))
 .exact dD ⟨rfl,by decide⟩ (by decide) (nn (by simp[lk];decide))
 .exact dD ⟨rfl,by decide⟩ (by decide) (nn (by simp[lk]))
 .exact dD ⟨by simp[aN,aR,P.no],by simp[cM,ao];omega⟩ (by simp[nd,nds];omega) (nn (by simp[lk]))
 .exact dD ⟨by simp[aN,aR,P.no,Q.no],by simp[cM,ao];omega⟩ (by simp[nd,nds];omega) (nn (by simp[lk]))
 .refine dD ⟨by simp[aN,aR,P.no,Q.no],by simp[cM,ao];omega⟩ (by simp[nd,nds];omega) (nn ?_)
  obtain⟨r,rfl⟩:=P.tup;exact aC0 (x:=q)
 .exact dD ⟨rfl,by decide⟩ (by decide) (nn (by simp[lk]))
 .exact dD ⟨rfl,by decide⟩ (by decide) (nn (by simp[lk]))
 .have hr:=yZ 41
  have hn:=(o7 _ hr.1).2;have hl:=aBL 41 (by decide);refine dD ⟨by simp only[aN,aR,hn];rfl,by simp only[cM,ao];omega⟩ (by simp only[nd,nds,hr.2.1];omega) ?_
  have:lk (.tup [.str "across",.tup (zAT 41 az)])=some (2,41):=by
   simp only[lk,hl];rw[if_pos (by rw[zCq];rfl)];rfl
  unfold ju;rw[this];rfl
 .exact dD ⟨by simp[aN,aR,P.no],by simp[cM,ao];omega⟩ (by simp[nd,nds];omega) (nn (by simp[lk,lks,P.l]))
 .exact dD ⟨by simp[aN,aR,P.no,Q.no],by simp[cM,ao];omega⟩ (by simp[nd,nds];omega) (nn (by simp only[lk];rw[if_neg (by simp;decide)]))
 .exact vX (by kernel_rfl)
def aFX{ns:List Int}{k:Int}(k0:0<=k){s2 s3 s4 s5 s6 s7 s8:Slot}:∃t2 t3 t4 t5 t6 t7 t8,lwK [.sh (.scr ns),.sh (.int k),s2,s3,s4,s5,s6,s7,s8]= .nx [.sh (.scr ns),.sh (.int k),t2,t3,t4,t5,t6,t7,t8]:=by
 obtain⟨c,ec⟩:=aDb (ns:=ns) (k:=k) k0;obtain⟨r1,er1,hr1⟩:=jm (c:=c) (k:=0) (b:=20) (by decide) (by decide) (by decide) (by decide);obtain⟨r2,er2,hr2⟩:=jm (c:=c) (k:=1) (b:=20) (by decide) (by decide) (by decide) (by decide);obtain⟨r3,er3,hr3⟩:=jm (c:=c) (k:=8000) (b:=13) (by decide) (by decide) (by decide) (by decide);obtain⟨p,ep,p1,p2,p3,pd,po,p4,p5,p6⟩:=oE (c:=c) (a:=5000) (m:=1+r1) (by decide) (by decide) (by omega) (by omega);rw[show((1+r1:Nat):Int)=1+(r1:Int)by omega]at ep;obtain⟨q,eq,q1,q2,q3,qd,qo,q4,q5,q6⟩:=oE (c:=c) (a:=6000) (m:=1+r2) (by decide) (by decide) (by omega) (by omega);rw[show((1+r2:Nat):Int)=1+(r2:Int)by omega]at eq;have hp:=wy p p1;have hq:=wy q q1;have P:Pn p pd po:=⟨hp.1,hp.2,by omega,by omega,p4,by omega,by omega⟩;have Q:Pn q qd qo:=⟨hq.1,hq.2,by omega,by omega,q4,by omega,by omega⟩;have gp:vq p= .ok p:=zA hp.1;have gq:vq q= .ok q:=zA hq.1;have c2:dU 2 (bH cJ (aA (aD 0) (aA (aD 1) aH))) [.sh (.scr ns),.sh (.int k),s2,s3,s4,s5,s6,s7,s8]= .nx [.sh (.scr ns),.sh (.int k),.sh (.int c),s3,s4,s5,s6,s7,s8]:=by simp[ec]
 have c3:dU 3 (bH dM (aA (aD 2) (aA (cD (.int 5000)) (aA (op2 bJ (cD (.int 1)) (bH aZ (aA (aD 2) (aA (cD (.int 0)) (aA (cD (.int 20)) aH))))) aH)))) [.sh (.scr ns),.sh (.int k),.sh (.int c),s3,s4,s5,s6,s7,s8]= .nx [.sh (.scr ns),.sh (.int k),.sh (.int c),.sh p,s4,s5,s6,s7,s8]:=by simp[er1,ep]
 have c4:dU 4 (bH dM (aA (aD 2) (aA (cD (.int 6000)) (aA (op2 bJ (cD (.int 1)) (bH aZ (aA (aD 2) (aA (cD (.int 1)) (aA (cD (.int 20)) aH))))) aH)))) [.sh (.scr ns),.sh (.int k),.sh (.int c),.sh p,s4,s5,s6,s7,s8]= .nx [.sh (.scr ns),.sh (.int k),.sh (.int c),.sh p,.sh q,s5,s6,s7,s8]:=by simp[er2,eq]
 obtain⟨ρ',ef,t5,t6,rfl⟩:=q9 (a:=gnm 5) (u:=lT) (ds:=[p,q,.tup [.str "across",.tup [p,q]],.tup [.str "beside",.tup [q,p]]]) (λ _ ρ=>∃t5 t6,ρ=[.sh (.scr ns),.sh (.int k),.sh (.int c),.sh p,.sh q,t5,t6,s7,s8]) (by
   rintro i d ρ hd ⟨t5,t6,rfl⟩;have hm:=zBM hd;have hP:∃d' o',Pn d d' o':=by
    simp only[zAZ,zEN,or_false]at hm;rcases hm with rfl|rfl|rfl|rfl
    .exact⟨_,_,P⟩
    .exact⟨_,_,Q⟩
    .exact⟨_,_,aBA "across" rfl P Q (by omega) (by omega) (by omega) (by omega) p2 q2 p3 q3⟩
    .exact⟨_,_,aBA "beside" rfl Q P (by omega) (by omega) (by omega) (by omega) q2 p2 q3 p3⟩
   obtain⟨d',o',hP⟩:=hP;obtain⟨u6,e⟩:=aGf (a:=.sh (.scr ns)) (b:=.sh (.int k)) (c:=.sh (.int c)) (e:=.sh p) (f:=.sh q) (g:=s7) (h:=s8) hP t6;exact⟨_,by rw[gf,eV];exact e,.sh d,u6,rfl⟩) (ρ:=[.sh (.scr ns),.sh (.int k),.sh (.int c),.sh p,.sh q,s5,s6,s7,s8]) ⟨_,_,rfl⟩
 have c5:jW lPs (gnm 5) lT [.sh (.scr ns),.sh (.int k),.sh (.int c),.sh p,.sh q,s5,s6,s7,s8]= .nx [.sh (.scr ns),.sh (.int k),.sh (.int c),.sh p,.sh q,t5,t6,s7,s8]:=by
  have hi:lPs [.sh (.scr ns),.sh (.int k),.sh (.int c),.sh p,.sh q,s5,s6,s7,s8]= .ok [p,q,.tup [.str "across",.tup [p,q]],.tup [.str "beside",.tup [q,p]]]:=by
   unfold lPs;simp
  rw[zB,hi,qp,ef]
 have c6:lW 7 w7X [.sh (.scr ns),.sh (.int k),.sh (.int c),.sh p,.sh q,t5,t6,s7,s8]= .nx [.sh (.scr ns),.sh (.int k),.sh (.int c),.sh p,.sh q,t5,t6,.nw (.lst [.non,.tup [],.tup [.str "two"],.lst [.str "one"],.tup [.str "across",.tup [p]],.tup [.str "beside",.lst [p,q]],.tup [p,q],.int 0,.str "one"]),s8]:=by
  unfold w7X;simp[gp,gq]
 have c7:lW 7 w7Y [.sh (.scr ns),.sh (.int k),.sh (.int c),.sh p,.sh q,t5,t6,.nw (.lst [.non,.tup [],.tup [.str "two"],.lst [.str "one"],.tup [.str "across",.tup [p]],.tup [.str "beside",.lst [p,q]],.tup [p,q],.int 0,.str "one"]),s8]= .nx [.sh (.scr ns),.sh (.int k),.sh (.int c),.sh p,.sh q,t5,t6,.nw (.lst (oV p q)),s8]:=by
  unfold w7Y;simp[gp,gq,aBS,oV]
 obtain⟨b,eb,mb,_⟩:=xx (l:=oV p q) (i:=(r3:Int)) (by omega) (by simpa[oV]using hr3);have c8:lW 8 w8 [.sh (.scr ns),.sh (.int k),.sh (.int c),.sh p,.sh q,t5,t6,.nw (.lst (oV p q)),s8]= .nx [.sh (.scr ns),.sh (.int k),.sh (.int c),.sh p,.sh q,t5,t6,.nw (.lst (oV p q)),.nw b]:=by
  unfold w8;simp[er3,eb]
 have hb:=aFT P Q p3 q3 mb;have c9:lIf [.sh (.scr ns),.sh (.int k),.sh (.int c),.sh p,.sh q,t5,t6,.nw (.lst (oV p q)),.nw b]= .nx [.sh (.scr ns),.sh (.int k),.sh (.int c),.sh p,.sh q,t5,t6,.nw (.lst (oV p q)),.nw b]:=by
  have hr:zU wdN "told" (bH bM (aA (aD 8) aH)) [.sh (.scr ns),.sh (.int k),.sh (.int c),.sh p,.sh q,t5,t6,.nw (.lst (oV p q)),.nw b]= .ok (.str "plan"):=aEg (c:="NoPlan") (by simp[shS,hb]) (by kernel_rfl);have hE:eqR true (.str "plan") (.str "plan")= .ok (.bl false):=rfl;unfold lIf;simp[hr,hE]
 refine⟨.sh (.int c),.sh p,.sh q,t5,t6,.nw (.lst (oV p q)),.nw b,?_⟩;unfold lwK;rw[bD,c2,cN,bD,c3,cN,bD,c4,cN,bD,c5,cN,bD,c6,cN,bD,c7,cN,bD,c8,cN,c9]
def aB5(ns:List Int)(hn:ns.length<=63):aCN [.scr ns]= .ok (.bl true):=by
 have st:bC 9 [.scr ns]=[.sh (.scr ns),.no,.no,.no,.no,.no,.no,.no,.no]:=rfl;have hk:∃m:Int,(if (if (6:Int)<(ns.length:Int)then(6:Int)else(ns.length:Int))>1 then(if (6:Int)<(ns.length:Int)then(6:Int)else(ns.length:Int))else 1)=m/\0<=m/\m<=6:=⟨_,rfl,by split<;>split<;>omega,by split<;>split<;>omega⟩
 obtain⟨m,hm,m0,m1⟩:=hk;have hr:=lZ (j:=m) (by omega) (by omega);obtain⟨ρ',e,t1,t2,t3,t4,t5,t6,t7,t8,rfl⟩:=q9 (a:=gnm 1) (u:=lwK) (ds:=gU 0 m) (λ _ ρ=>∃t1 t2 t3 t4 t5 t6 t7 t8,ρ=[.sh (.scr ns),t1,t2,t3,t4,t5,t6,t7,t8]) (by
  rintro i d ρ hd ⟨t1,t2,t3,t4,t5,t6,t7,t8,rfl⟩;obtain⟨rfl,_⟩:=vQ hd;obtain⟨u2,u3,u4,u5,u6,u7,u8,e⟩:=aFX (ns:=ns) (k:=0+(i:Int)) (by omega) (s2:=t2) (s3:=t3) (s4:=t4) (s5:=t5) (s6:=t6) (s7:=t7) (s8:=t8);exact⟨_,by rw[gf,eV];exact e,_,_,_,_,_,_,_,_,rfl⟩) (ρ:=[.sh (.scr ns),.no,.no,.no,.no,.no,.no,.no,.no]) ⟨_,_,_,_,_,_,_,_,rfl⟩
 have c1:jW lwR (gnm 1) lwK [.sh (.scr ns),.no,.no,.no,.no,.no,.no,.no,.no]= .nx [.sh (.scr ns),t1,t2,t3,t4,t5,t6,t7,t8]:=by
  have hi:lwR [.sh (.scr ns),.no,.no,.no,.no,.no,.no,.no,.no]= .ok (gU 0 m):=by
   rw[<-hr,<-hm];rfl
  rw[zB,hi,qp,e]
 have w1:bM [.tup [.str "one"]]= .ok (.tup [.int (1:Nat),kh (.tup [.str "one"])]):=yd (x:=.tup [.str "one"]) ie ⟨rfl,by decide⟩ (by decide) (by decide) (by decide);have w2:kh (.tup [.str "one"])= .tup []:=by simp[kh,tw,jt]
 rw[w2]at w1;have g2:eqR false (.tup [.int 1,.tup []]) (.tup [.int 1,.tup []])= .ok (.bl true):=rfl;simp only[aCN,sZ,gA,st];rw[bD,c1,cN];unfold lwZ;simp[w1,g2]
local macro_rules|`(tactic|walk_at "sc")=>`(tactic|exact⟨rfl,rfl,rfl,by decide+kernel,rfl,by decide+kernel,by decide+kernel⟩)
def top(i:Nat):Stmt:=PySem.Challenge.pw_fewways_k42_webs_of_plans.main.body.getD i (.Pass ⟨0,0,0,0⟩)
abbrev dX:Stmt:=top 20
abbrev nC:Stmt:=top 21
abbrev iT:Stmt:=top 22
abbrev cu:Stmt:=top 23
abbrev km:Stmt:=top 24
abbrev gQ:Stmt:=top 26
abbrev lB:Stmt:=top 27
abbrev lA:Stmt:=top 28
abbrev dW:Stmt:=top 29
abbrev fL:Stmt:=top 30
abbrev jN:Stmt:=top 31
abbrev gO:Stmt:=top 32
abbrev nu:Stmt:=top 33
def kj:aq ["thing"] ["thing"] (aF dX):=by walk_at "sc"
def wZ:aq ["thing","left","ones","here","deep"] ["thing"] (aF nC):=by walk_at "sc"
def rA:aq ["thing"] ["thing"] (aF iT):=by walk_at "sc"
def pW:aq ["plan","start","at","ties","inner","behind","inner_ties"] ["plan","start"] (aF cu):=by walk_at "sc"
def vM:aq ["plan","many","ties"] ["plan"] (aF km):=by walk_at "sc"
def pY:aq ["_law_script","_law_k"] ["_law_script","_law_k"] (aF gQ):=by walk_at "sc"
def vO:aq ["_law_cell","_law_k","_law_bound","_law_left","_law_j","_law_stir"] ["_law_cell","_law_k","_law_bound"] (aF lB):=by walk_at "sc"
def vN:aq ["_law_cell","_law_at","_law_many","_law_some","_law_turn","_law_wide","_law_first","_law_word"] ["_law_cell","_law_at","_law_many"] (aF lA):=by walk_at "sc"
def qz:aq ["_law_plan_here","_law_many","_law_ties","_law_one","_law_wide","_law_more","_law_place"] ["_law_plan_here"] (aF dW):=by walk_at "sc"
def oN:aq ["_law_plan_here","_law_many","_law_ties"] ["_law_plan_here"] (aF fL):=by walk_at "sc"
def uD:aq ["_law_error","_law_kinds","_law_words"] ["_law_error"] (aF jN):=by walk_at "sc"
def pX:aq ["_law_call","_law_word","_law_error"] ["_law_call"] (aF gO):=by walk_at "sc"
def aEd:aq ["_law_script","_law_k","_law_cell","_law_plan_here","_law_other","_law_some","_law_found","_law_odd","_law_bad"] ["_law_script"] (aF nu):=by walk_at "sc"
set_option genInjectivity false in
set_option genSizeOf false in
structure Adr where
 gF:Addr
 aW:zAy
 sO:Addr
 fG:zAy
 mR:Addr
 cF:zAy
 dB:Addr
 bB:zAy
 qb:Addr
 dH:zAy
 kE:Addr
 bw:zAy
 qg:Addr
 cP:zAy
 qe:Addr
 du:zAy
 dg:Addr
 bI:zAy
 jX:Addr
 cA:zAy
 oH:Addr
 oJ:zAy
 jz:Addr
 kJ:zAy
 zE:Addr
 sZ:zAy
 aDm:Value
 aDl:V
 uy:Value
 uz:Value
 n8:Value
 ni:Value
 eF:Addr
 iw:Addr
 dz:Addr
 iy:Addr
 cQ:Addr
 dw:Addr
 dJ:Addr
 fV:Addr
 dI:Addr
 eE:Addr
 fU:Addr
 fW:Addr
 iz:Addr
def wdA(t:Adr):Addr->Option Str:=λ C=>(([t.iw,t.dz,t.iy,t.cQ,t.dw,t.dJ,t.fV,t.dI,t.eE,t.fU,t.fW,t.iz]:List Addr).zip (["web","place","way","parting","many","forest","plan","one way","order","text","deed","row"]:List Str)).lookup C
structure Txt(K:zAA)(mg:Str->Option Value)(t:Adr):Prop where
 gJ:Dnr K mg "is_put_together" dX ["thing"] t.gF t.aW
 sU:Dnr K mg "is_plan" nC ["thing"] t.sO t.fG
 mV:Dnr K mg "check_plan" iT ["thing"] t.mR t.cF
 gh:Dnr K mg "ties_within" cu ["plan","start"] t.dB t.bB
 ik:Dnr K mg "plan_web" km ["plan"] t.qb t.dH
 kI:Dnr K mg "_law_cell_at" gQ ["_law_script","_law_k"] t.kE t.bw
 dG:Dnr K mg "_law_draw" lB ["_law_cell","_law_k","_law_bound"] t.qg t.cP
 lH:Dnr K mg "_law_plan" lA ["_law_cell","_law_at","_law_many"] t.qe t.du
 il:Dnr K mg "_law_web_of" dW ["_law_plan_here"] t.dg t.bI
 jZ:Dnr K mg "_law_plan_web" fL ["_law_plan_here"] t.jX t.cA
 gH:Dnr K mg "_law_class" jN ["_law_error"] t.oH t.oJ
 eQ:Dnr K mg "_law_refused" gO ["_law_call"] t.jz t.kJ
 aEM:Dnr K mg "law" nu ["_law_script"] t.zE t.sZ
 vp:mg "ONE"=some t.aDm
 aDu:RelV t.aDl t.aDm
 az:∀A H,Rp K A H t.aDl az
 mQ:mg "BESIDE"=some t.uy
 aAp:RelV (.str "beside") t.uy
 jV:mg "ACROSS"=some t.uz
 vW:RelV (.str "across") t.uz
 gC:mg "MOST_ONES"=some t.n8
 vU:RelV (.int 40) t.n8
 gD:mg "MOST_DEEP"=some t.ni
 vV:RelV (.int 24) t.ni
 qK:mg "FewError"=some (.ref t.eF)
 l_FewError:aY mg "FewError"=t.eF
 fH:bK K t.eF
 aDK:mg "NoWeb"=some (.ref t.iw)
 aDQ:aY mg "NoWeb"=t.iw
 oY:bK K t.iw
 zg:mg "NoPlace"=some (.ref t.dz)
 zx:aY mg "NoPlace"=t.dz
 j8:bK K t.dz
 aDL:mg "NoWay"=some (.ref t.iy)
 aDR:aY mg "NoWay"=t.iy
 oZ:bK K t.iy
 v9:mg "NoParting"=some (.ref t.cQ)
 vh:aY mg "NoParting"=t.cQ
 fu:bK K t.cQ
 zf:mg "TooMany"=some (.ref t.dw)
 zu:aY mg "TooMany"=t.dw
 j7:bK K t.dw
 xK:mg "NoForest"=some (.ref t.dJ)
 xT:aY mg "NoForest"=t.dJ
 iK:bK K t.dJ
 v8:mg "NoPlan"=some (.ref t.fV)
 vg:aY mg "NoPlan"=t.fV
 jJ:bK K t.fV
 xJ:mg "NoOneWay"=some (.ref t.dI)
 xR:aY mg "NoOneWay"=t.dI
 iJ:bK K t.dI
 zj:mg "NoOrder"=some (.ref t.eE)
 zy:aY mg "NoOrder"=t.eE
 j9:bK K t.eE
 aBY:mg "NoText"=some (.ref t.fU)
 aB9:aY mg "NoText"=t.fU
 lL:bK K t.fU
 aBZ:mg "NoDeed"=some (.ref t.fW)
 aBa:aY mg "NoDeed"=t.fW
 lN:bK K t.fW
 aDM:mg "NoRow"=some (.ref t.iz)
 aDS:aY mg "NoRow"=t.iz
 o4:bK K t.iz
 uO:mg "ValueError"=none
 aO:mg "isinstance"=none
 rz:mg "len"=none
 aEH:mg "max"=none
 aGc:mg "min"=none
 iZ:mg "range"=none
 v7:mg "sorted"=none
 iY:mg "tuple"=none
 cb:xr K t.eF [t.iw,t.dz,t.iy,t.cQ,t.dw,t.dJ,t.fV,t.dI,t.eE,t.fU,t.fW,t.iz]=true
open PySem.Spec PyProof.Rows
section
variable{P:zAS}{w:World}{K:zAA}{mg:Str->Option Value}{base:Heap}{t:Adr}
def lE(T:Txt K mg t):dC P w K mg base (CX1 P w) 1 t.gF t.aW ["thing"] (spF K (aY mg) 1 aX):=
 eO (k:=0) (f:=aW) T.gJ kj λ n _ _ _ _ _ _ _=>
  (aK (fK (SW.st (vH (tU (mj (uC (aC 0) T.aO T.iY))) (vH (aA6 (nA T.rz (aB (aC 0) aG)) aL) (wU (aEZ (bT (aC 0) aL) (ak (aB (iQ T.mQ T.aAp (λ _ _=>.str _)) (aB (iQ T.jV T.vW (λ _ _=>.str _)) aG))))))))
   (aU (bx rY))
   cT)
  (aU (bx (aEb (uC (bT (aC 0) aL) T.aO T.iY) (aE9 (aGU (nA T.rz (aB (bT (aC 0) aL) aG)) aL))))))
def qF(T:Txt K mg t):dC P w K mg base (CX1 P w) 1 t.kE t.bw ["_law_script","_law_k"] (spF K (aY mg) 2 cJ):=
 eO (k:=0) (f:=bw) T.kI pY λ n _ _ _ _ _ _ _=>
  (aK (fK (aGQ (aC 1) (nA T.rz (aB (aC 0) aG)))
   (aU (bx (bO (bT (aC 0) (aC 1)))))
   cT)
  (aU (bx aL)))
def dN(T:Txt K mg t):dC P w K mg base (CX1 P w) 1 t.qg t.cP ["_law_cell","_law_k","_law_bound"] (spF K (aY mg) 3 aZ):=
 eO (k:=0) (f:=cP) T.dG vO λ n _ _ _ _ _ _ _=>
  (aK (fK (aGR (aC 0) (aE8 aL aL))
   (aK (cB (i:=3) (gK (aC 0)))
   (aK (kY (lV (aB (aC 1) aG) T.iZ) (bW (ks:=[4]))
    (aK (fK (vJ (aC 3) aL)
     (aU (bx aL))
     cT)
    (aU (cB (i:=3) (gK (yS (aC 3) (aC 2)))))))
   (aU (bx (mz (aC 3) (aC 2))))))
   cT)
  (aK (cB (i:=5) (gK (mz (iM (bQ (bQ (mz (aC 0) aL) (iM aL (aC 1))) aL) aL) aL)))
  (aK (cB (i:=5) (gK (mz (bQ (bQ (iM (aC 5) (aC 5)) (iM aL (aC 1))) aL) aL)))
  (aU (bx (mz (yS (mz (iM (aC 5) aL) aL) aL) (aC 2)))))))
def uM(T:Txt K mg t):FnH P w K mg base 1 t.oH t.oJ ["_law_error"] (spW (wdA t)):=
 aAF (c1:=.ref t.eF) (c2:=.ty "ValueError") (k1:=[.ref t.iw,.ref t.dz,.ref t.iy]) (k2:=[.ref t.cQ,.ref t.dw,.ref t.dJ]) (k3:=[.ref t.fV,.ref t.dI,.ref t.eE]) (k4:=[.ref t.fU,.ref t.fW,.ref t.iz]) (l1:=["web","place","way","parting","many","forest","plan","one way"]) (l2:=["order","text","deed","row"]) T.gH.F uD rfl rfl rfl rfl (λ cdv A outer s H=>⟨(dY rfl rfl rfl T.aO (cO (v:=.ref t.eF) rfl T.qK rfl)),(dY rfl rfl rfl T.aO (yf (v:=.ty "ValueError") (u:=.type "ValueError") rfl T.uO rfl rfl)),(aV (dY rfl rfl rfl T.aO (cO (v:=.ref t.iw) rfl T.aDK rfl)) (aV (dY rfl rfl rfl T.aO (cO (v:=.ref t.dz) rfl T.zg rfl)) (aV (dY rfl rfl rfl T.aO (cO (v:=.ref t.iy) rfl T.aDL rfl)) cg))),(aV (dY rfl rfl rfl T.aO (cO (v:=.ref t.cQ) rfl T.v9 rfl)) (aV (dY rfl rfl rfl T.aO (cO (v:=.ref t.dw) rfl T.zf rfl)) (aV (dY rfl rfl rfl T.aO (cO (v:=.ref t.dJ) rfl T.xK rfl)) cg))),(aV (dY rfl rfl rfl T.aO (cO (v:=.ref t.fV) rfl T.v8 rfl)) (aV (dY rfl rfl rfl T.aO (cO (v:=.ref t.dI) rfl T.xJ rfl)) (aV (dY rfl rfl rfl T.aO (cO (v:=.ref t.eE) rfl T.zj rfl)) cg))),(aV (dY rfl rfl rfl T.aO (cO (v:=.ref t.fU) rfl T.aBY rfl)) (aV (dY rfl rfl rfl T.aO (cO (v:=.ref t.fW) rfl T.aBZ rfl)) (aV (dY rfl rfl rfl T.aO (cO (v:=.ref t.iz) rfl T.aDM rfl)) cg))),(aV cZ (aV cZ (aV cZ (aV cZ (aV cZ (aV cZ (aV cZ (aV cZ cg)))))))),(aV cZ (aV cZ (aV cZ (aV cZ cg))))⟩) rfl rfl (by decide) λ C w h=>(aDk T.cb h).1
def xF(T:Txt K mg t):dC P w K mg base (CX1 P w) 2 t.sO t.fG ["thing"] (spF K (aY mg) 1 eG):=
 eO (k:=1) (f:=fG) T.sU wZ λ n _ _ _ _ _ _ _=>
  (aK (aC5 (i:=1) (aA5 (wY (aB (ak (aB (aC 0) (aB aL aG))) aG))))
  (aK (cB (i:=2) (gK aL))
  (aK (aA8 (mj (aE5 1))
   (aK (aC6 1 (my (n:=2) (cG (bW (ks:=[3,4])) (cG (bW (ks:=[3,4])) jc))))
   (aK (fK (aE0 (aC 3) (iQ T.vp T.aDu T.az))
    (aU (aE2 (i:=2) aL (λ _=>aF8)))
    (aU (fK (mj (bz (lE T) T.gJ (aB (aC 3) aG)))
     (aU (wV 1 (aEa (N:=["inner","deep"]) (js:=[none,some 4]) (ks:=[0]) (pL (bT (aC 3) aL)) iB pN (ak (aB (aC 0) (aB (bQ (aC 1) aL) aG))))))
     (aU (bx rY)))))
   (aU (fK (SW.st (vH (aA7 (aC 2) (iQ T.gC T.vU (λ _ _=>.int _))) (wU (aA7 (aC 4) (iQ T.gD T.vV (λ _ _=>.int _))))))
    (aU (bx rY))
    cT)))))
  (aU (bx rY)))))
def oA(T:Txt K mg t):dC P w K mg base (CX1 P w) 2 t.qe t.du ["_law_cell","_law_at","_law_many"] (spF K (aY mg) 3 dM):=
 eO (k:=1) (f:=du) T.lH vN λ n _ _ _ _ _ _ _=>
  (aK (jb (i:=3) (gK (iM (gM (aB (ak (aB cC aG)) aG)) (bO (aC 2)))))
  (aK (kY (lV (aB (aC 2) aG) T.iZ) (bW (ks:=[4]))
   (aU (fK (aA7 (nA T.rz (aB (fB 3) aG)) aL)
    (aK (cB (i:=5) (gK (bQ aL (bz (dN T) T.dG (aB (aC 0) (aB (bQ (aC 1) (iM aL (aC 4))) (aB aL aG)))))))
    (aK (cB (i:=6) (gK (bz (dN T) T.dG (aB (aC 0) (aB (bQ (bQ (aC 1) (iM aL (aC 4))) aL) (aB (yR T.aEH (aB aL (aB (bQ (aE6 (nA T.rz (aB (fB 3) aG)) (aC 5)) aL) aG))) aG))))))
    (aK (jb (i:=7) (gK (bT (gM (aB cC (aB cC aG))) (bz (dN T) T.dG (aB (aC 0) (aB (bQ (bQ (aC 1) (iM aL (aC 4))) aL) (aB aL aG)))))))
    (aU (jb (i:=3) (gK (bQ (bQ (pQ (fB 3) yM (o5 (aC 6))) (gM (aB (ak (aB (fB 7) (aB (pO T.iY (aB (pQ (fB 3) (o5 (aC 6)) (o5 (bQ (aC 6) (aC 5)))) aG)) aG))) aG))) (pQ (fB 3) (o5 (bQ (aC 6) (aC 5))) yM))))))))
    cT)))
  (aU (bx (bT (fB 3) aL)))))
def rD(T:Txt K mg t):dC P w K mg base (CX1 P w) 3 t.mR t.cF ["thing"] (spF K (aY mg) 1 cY):=
 eO (k:=2) (f:=cF) T.mV rA λ n _ _ _ _ _ _ _=>
  (aU (fK (tU (mj (bz (xF T) T.sU (aB (aC 0) aG))))
   (aU (aA9 rfl T.v8 T.vg T.jJ (aB cC aG)))
   cT))
def rP(T:Txt K mg t){R:List D->Rs D}{k:Nat}(hk:1<=k)(hR:dC P w K mg base (CX1 P w) k t.dB t.bB ["plan","start"] (spF K (aY mg) 2 R))(nd:zEr (["plan","start","at","ties","inner","behind","inner_ties"]:List Str))(cdv A outer s H E hr):SSs (ctD P w K mg base ["plan","start","at","ties","inner","behind","inner_ties"] "ties_within" (aF cu) t.dB cdv A outer s H E k hr) (bY cu) (bB R):=
  (aK (fK (vJ (aC 0) (iQ T.vp T.aDu T.az))
   (aU (bx (ak (aB (bQ (bO (aC 1)) aL) (aB (gM aG) aG)))))
   cT)
  (aK (cB (i:=2) (gK (aC 1)))
  (aK (yK (i:=3) (aA5 (wY aG)))
  (aK (kY (pL (bT (aC 0) aL)) (bW (ks:=[4]))
   (aK (tW (bz hR T.gh (aB (aC 4) (aB (aC 2) aG)) (zAP _)) (my (n:=2) (cG (bW (ks:=[5,6])) (cG (bW (ks:=[5,6])) jc))))
   (aK (wW 3 (aC 6))
   (aK (fK (vJ (bT (aC 0) aL) (iQ T.jV T.vW (λ _ _=>.str _)))
    (aU (mq 3 (aGT (N:=["low","high","at","behind"]) (js:=[none,none,some 2,some 5]) (ks:=[0]) (ks2:=[1]) (yP (aB (aC 1) (aB (aC 2) aG)) T.iZ) iB pN (yP (aB (aC 2) (aB (aC 3) aG)) T.iZ) iB pN (ak (aB (bO (aC 0)) (aB (bO (aC 1)) aG))))))
    cT)
   (aU (cB (i:=2) (gK (aC 5))))))))
  (aU (bx (ak (aB (bO (aC 2)) (aB (yQ 3) aG)))))))))
theorem jF(T:Txt K mg t):∀n,dC P w K mg base (CX1 P w) (1+n) t.dB t.bB ["plan","start"] (spF K (aY mg) 2 (bR n))
 |0=>vy
 |n+1=>eO (k:=1+n) (f:=bB (bR n)) T.gh pW λ nd cdv A outer s H E hr=>rP T (zET _ _) (jF T n) nd cdv A outer s H E hr
def qC(T:Txt K mg t):dC P w K mg base (CX1 P w) 65 t.dB t.bB ["plan","start"] (spF K (aY mg) 2 gm):=jF T 64
def uo(T:Txt K mg t){R:List D->Rs D}{k:Nat}(hk:1<=k)(hR:dC P w K mg base (CX1 P w) k t.dg t.bI ["_law_plan_here"] (spF K (aY mg) 1 R))(nd:zEr (["_law_plan_here","_law_many","_law_ties","_law_one","_law_wide","_law_more","_law_place"]:List Str))(cdv A outer s H E hr):SSs (ctD P w K mg base ["_law_plan_here","_law_many","_law_ties","_law_one","_law_wide","_law_more","_law_place"] "_law_web_of" (aF dW) t.dg cdv A outer s H E k hr) (bY dW) (bI R):=
  (aK (fK (vJ (aC 0) (ak (aB cC aG)))
   (aU (bx (ak (aB aL (aB (gM aG) aG)))))
   cT)
  (aK (cB (i:=1) (gK aL))
  (aK (yK (i:=2) (aA5 (wY aG)))
  (aK (kY (pL (bT (aC 0) aL)) (bW (ks:=[3]))
   (aK (tW (bz hR T.il (aB (aC 3) aG) (zAP _)) (my (n:=2) (cG (bW (ks:=[4,5])) (cG (bW (ks:=[4,5])) jc))))
   (aK (mq 2 (aDr (N:=["_law_first","_law_second","_law_many"]) (js:=[none,none,some 1]) (ks:=[0,1]) (pL (aC 5)) (my (n:=2) (cG iB (cG iB jc))) pN (ak (aB (bQ (bO (aC 2)) (bO (aC 0))) (aB (bQ (bO (aC 2)) (bO (aC 1))) aG)))))
   (aK (fK (vJ (bT (aC 0) aL) cC)
    (aU (kY (lV (aB (aC 1) aG) T.iZ) (bW (ks:=[6]))
     (aU (mq 2 (aDr (N:=["_law_other","_law_place","_law_many"]) (js:=[none,some 6,some 1]) (ks:=[0]) (lV (aB (aC 4) aG) T.iZ) iB pN (ak (aB (bO (aC 1)) (aB (bQ (bO (aC 2)) (bO (aC 0))) aG))))))))
    cT)
   (aU (cB (i:=1) (gK (bQ (aC 1) (aC 4)))))))))
  (aU (bx (ak (aB (bO (aC 1)) (aB (yQ 2) aG)))))))))
theorem jQ(T:Txt K mg t):∀n,dC P w K mg base (CX1 P w) (1+n) t.dg t.bI ["_law_plan_here"] (spF K (aY mg) 1 (bu n))
 |0=>vy
 |n+1=>eO (k:=1+n) (f:=bI (bu n)) T.il qz λ nd cdv A outer s H E hr=>uo T (zET _ _) (jQ T n) nd cdv A outer s H E hr
def rC(T:Txt K mg t):dC P w K mg base (CX1 P w) 65 t.dg t.bI ["_law_plan_here"] (spF K (aY mg) 1 jB):=jQ T 64
def jP(T:Txt K mg t):dC P w K mg base (CX1 P w) 66 t.qb t.dH ["plan"] (spF K (aY mg) 1 bM):=
 eO (k:=65) (f:=dH) T.ik vM λ n _ _ _ _ _ _ _=>
  (aK (aC7 (bz (rD T) T.mV (aB (aC 0) aG)))
  (aK (tW (bz (qC T) T.gh (aB (aC 0) (aB aL aG))) (my (n:=2) (cG (bW (ks:=[1,2])) (cG (bW (ks:=[1,2])) jc))))
  (aU (bx (ak (aB (bO (aC 1)) (aB (pO T.iY (aB (pP T.v7 (aB (aC 2) aG)) aG)) aG)))))))
def oU(T:Txt K mg t):dC P w K mg base (CX1 P w) 66 t.jX t.cA ["_law_plan_here"] (spF K (aY mg) 1 di):=
 eO (k:=65) (f:=cA) T.jZ oN λ n _ _ _ _ _ _ _=>
  (aK (tW (bz (rC T) T.il (aB (aC 0) aG)) (my (n:=2) (cG (bW (ks:=[1,2])) (cG (bW (ks:=[1,2])) jc))))
  (aU (bx (ak (aB (bO (aC 1)) (aB (pO T.iY (aB (pP T.v7 (aB (aC 2) aG)) aG)) aG))))))
def qD(T:Txt K mg t):dC P w K mg base (CX1 P w) 68 t.jz t.kJ ["_law_call"] (spR P w K mg base 67 "told" (wdA t)):=
 w5 T.eQ.F pX rfl rfl rfl rfl rfl rfl T.qK T.fH (uM T) T.gH.m T.gH.F.kp T.gH.b (by decide) λ C w h=>(aDk T.cb h).2
def aGC(T:Txt K mg t):∀c w,wdN c=some w->wdA t (aY mg c)=some w:=aGD (ns:=["NoWeb","NoPlace","NoWay","NoParting","TooMany","NoForest","NoPlan","NoOneWay","NoOrder","NoText","NoDeed","NoRow"]) T.cb (by simp only[List.map,T.aDQ,T.zx,T.aDR,T.vh,T.zu,T.xT,T.vg,T.xR,T.zy,T.aB9,T.aBa,T.aDS])
def aGo(T:Txt K mg t){c Pt:Addr}{s:zAB}{H:Hp}(hr:cX 68 (zCN.deeper (zC6 "law" (aF nu) s.heap.objs.size t.zE (.ref c))))(Lx:oM (cxW P w K mg base ["_law_script","_law_k","_law_cell","_law_plan_here","_law_other","_law_some","_law_found","_law_odd","_law_bad"] "law" (aF nu) t.zE (.ref c) zCN s H Pt) Pt)(n:zEr (["_law_script","_law_k","_law_cell","_law_plan_here","_law_other","_law_some","_law_found","_law_odd","_law_bad"]:List Str)):
  SSs (ctW P w K mg base ["_law_script","_law_k","_law_cell","_law_plan_here","_law_other","_law_some","_law_found","_law_odd","_law_bad"] "law" (aF nu) t.zE (.ref c) zCN s H Pt 68 hr) (bY nu) sZ:=
  (aK (kY (lV (aB (yR T.aEH (aB aL (aB (aCe T.aGc (aB (nA T.rz (aB (aC 0) aG)) (aB aL aG))) aG))) aG) T.iZ) (bW (ks:=[1]))
   (aK (cB (i:=2) (gK (bz (qF T) T.kI (aB (aC 0) (aB (aC 1) aG)))))
   (aK (cB (i:=3) (gK (bz (oA T) T.lH (aB (aC 2) (aB aL (aB (bQ aL (bz (dN T) T.dG (aB (aC 2) (aB aL (aB aL aG))))) aG))))))
   (aK (cB (i:=4) (gK (bz (oA T) T.lH (aB (aC 2) (aB aL (aB (bQ aL (bz (dN T) T.dG (aB (aC 2) (aB aL (aB aL aG))))) aG))))))
   (aK (kY (pL (gM (aB (aC 3) (aB (aC 4) (aB (ak (aB cC (aB (ak (aB (aC 3) (aB (aC 4) aG))) aG))) (aB (ak (aB cC (aB (ak (aB (aC 4) (aB (aC 3) aG))) aG))) aG)))))) (bW (ks:=[5]))
    (aK (cB (i:=6) (gK (bz (jP T) T.ik (aB (aC 5) aG))))
    (aU (fK (SW.st (vH (tU (mj (uC (aC 6) T.aO T.iY))) (vH (aA6 (aC 6) (bz (oU T) T.jZ (aB (aC 5) aG))) (wU (tU (mj (uC (bT (aC 6) aL) T.aO T.iY)))))))
     (aU (bx rY))
     cT))))
   (aK (jb (i:=7) (gK (gM (aB aAh (aB (ak aG) (aB (ak (aB cC aG)) (aB (gM (aB cC aG)) (aB (ak (aB cC (aB (ak (aB (bO (aC 3)) aG)) aG))) (aB (ak (aB cC (aB (gM (aB (bO (aC 3)) (aB (bO (aC 4)) aG))) aG))) (aB (ak (aB (bO (aC 3)) (aB (bO (aC 4)) aG))) (aB aL (aB cC aG))))))))))))
   (aK (jb (i:=7) (gK (bQ (fB 7) (gM (aB (ak (aB cC (aB (aCd (ak (aB (ak (aB cC aG)) aG)) aL) aG))) (aB (ak (aB cC (aB (ak (aB (bO (aC 3)) (aB aAh aG))) aG))) (aB (ak (aB cC (aB (ak (aB (bO (aC 3)) (aB (bO (aC 4)) aG))) aG))) (aB aCf aG))))))))
   (aK (jb (i:=8) (gK (bT (fB 7) (bz (dN T) T.dG (aB (aC 2) (aB aL (aB aL aG)))))))
   (aU (fK (aA6 (aE7 (k:=68) (k0:=67) (kb:=66) (wn:=wdN) (wd:=wdA t) (λ _=>qD T) (zFZ rfl) T.eQ.m T.eQ.F.kp T.eQ.b (λ _=>⟨⟨_,Lx⟩,rfl,rfl,rfl⟩) ⟨rfl,rfl,rfl,by decide+kernel,by decide+kernel⟩ rfl (aGC T) (by decide) (λ _ _ _ _ _ _ _ _ _ _=>(bz (jP T) T.ik (aB (aC 8) aG))) (hfree:=λ _=>aB8 (sc:=aF nu) (by decide+kernel))) cC)
    (aU (bx rY))
    cT))))))))))
  (aU (bx (aGV (bz (jP T) T.ik (aB (ak (aB cC aG)) aG)) (ak (aB aL (aB (ak aG) aG)))))))
end
def aES{K:zAA}{h:Heap}{mg:Str->Option Value}{qc_ONE:Addr}{qs_ONE:Array (Option Value)}{qn_ONE:Nat}{tk_ONE_0:Tok}{tk_BESIDE:Tok}{tk_ACROSS:Tok}{tk_MOST_ONES:Tok}{tk_MOST_DEEP:Tok}{q_FewError:Addr}{q_NoWeb:Addr}{q_NoPlace:Addr}{q_NoWay:Addr}{q_NoParting:Addr}{q_TooMany:Addr}{q_NoForest:Addr}{q_NoPlan:Addr}{q_NoOneWay:Addr}{q_NoOrder:Addr}{q_NoText:Addr}{q_NoDeed:Addr}{q_NoRow:Addr}(X:K.In h)(G:h.Ns zAX mg)
  (h0:∃f d,Enr K "is_put_together" dX f d)
  (h1:∃f d,Enr K "is_plan" nC f d)
  (h2:∃f d,Enr K "check_plan" iT f d)
  (h3:∃f d,Enr K "ties_within" cu f d)
  (h4:∃f d,Enr K "plan_web" km f d)
  (h5:∃f d,Enr K "_law_cell_at" gQ f d)
  (h6:∃f d,Enr K "_law_draw" lB f d)
  (h7:∃f d,Enr K "_law_plan" lA f d)
  (h8:∃f d,Enr K "_law_web_of" dW f d)
  (h9:∃f d,Enr K "_law_plan_web" fL f d)
  (h10:∃f d,Enr K "_law_class" jN f d)
  (h11:∃f d,Enr K "_law_refused" gO f d)
  (h12:∃f d,Enr K "law" nu f d)
  (vp:zAd K zAX "ONE"=some (some (.ref qc_ONE)))
  (h_ONE:K.lookup qc_ONE=some ⟨.type "tuple",none,.seq #[.str "one" tk_ONE_0] qn_ONE,qs_ONE⟩)
  (mQ:zAd K zAX "BESIDE"=some (some (.str "beside" tk_BESIDE)))
  (jV:zAd K zAX "ACROSS"=some (some (.str "across" tk_ACROSS)))
  (gC:zAd K zAX "MOST_ONES"=some (some (.int 40 tk_MOST_ONES)))
  (gD:zAd K zAX "MOST_DEEP"=some (some (.int 24 tk_MOST_DEEP)))
  (y_FewError:zAd K zAX "FewError"=some (some (.ref q_FewError)))
  (fH:bK K q_FewError)
  (y_NoWeb:zAd K zAX "NoWeb"=some (some (.ref q_NoWeb)))
  (oY:bK K q_NoWeb)
  (y_NoPlace:zAd K zAX "NoPlace"=some (some (.ref q_NoPlace)))
  (j8:bK K q_NoPlace)
  (y_NoWay:zAd K zAX "NoWay"=some (some (.ref q_NoWay)))
  (oZ:bK K q_NoWay)
  (y_NoParting:zAd K zAX "NoParting"=some (some (.ref q_NoParting)))
  (fu:bK K q_NoParting)
  (y_TooMany:zAd K zAX "TooMany"=some (some (.ref q_TooMany)))
  (j7:bK K q_TooMany)
  (y_NoForest:zAd K zAX "NoForest"=some (some (.ref q_NoForest)))
  (iK:bK K q_NoForest)
  (y_NoPlan:zAd K zAX "NoPlan"=some (some (.ref q_NoPlan)))
  (jJ:bK K q_NoPlan)
  (y_NoOneWay:zAd K zAX "NoOneWay"=some (some (.ref q_NoOneWay)))
  (iJ:bK K q_NoOneWay)
  (y_NoOrder:zAd K zAX "NoOrder"=some (some (.ref q_NoOrder)))
  (j9:bK K q_NoOrder)
  (y_NoText:zAd K zAX "NoText"=some (some (.ref q_NoText)))
  (lL:bK K q_NoText)
  (y_NoDeed:zAd K zAX "NoDeed"=some (some (.ref q_NoDeed)))
  (lN:bK K q_NoDeed)
  (y_NoRow:zAd K zAX "NoRow"=some (some (.ref q_NoRow)))
  (o4:bK K q_NoRow)
  (cb:L2.xr K q_FewError [q_NoWeb,q_NoPlace,q_NoWay,q_NoParting,q_TooMany,q_NoForest,q_NoPlan,q_NoOneWay,q_NoOrder,q_NoText,q_NoDeed,q_NoRow]=true)
  (z_ValueError:zAd K zAX "ValueError"=some none)
  (z_isinstance:zAd K zAX "isinstance"=some none)
  (z_len:zAd K zAX "len"=some none)
  (z_max:zAd K zAX "max"=some none)
  (z_min:zAd K zAX "min"=some none)
  (z_range:zAd K zAX "range"=some none)
  (z_sorted:zAd K zAX "sorted"=some none)
  (z_tuple:zAd K zAX "tuple"=some none):
  ∃t,Txt K mg t:=by
 obtain⟨f0,d0,F0,a0⟩:=dnr X G h0 ["thing"];obtain⟨f1,d1,F1,a1⟩:=dnr X G h1 ["thing"];obtain⟨f2,d2,F2,a2⟩:=dnr X G h2 ["thing"];obtain⟨f3,d3,F3,a3⟩:=dnr X G h3 ["plan","start"];obtain⟨f4,d4,F4,a4⟩:=dnr X G h4 ["plan"];obtain⟨f5,d5,F5,a5⟩:=dnr X G h5 ["_law_script","_law_k"];obtain⟨f6,d6,F6,a6⟩:=dnr X G h6 ["_law_cell","_law_k","_law_bound"];obtain⟨f7,d7,F7,a7⟩:=dnr X G h7 ["_law_cell","_law_at","_law_many"];obtain⟨f8,d8,F8,a8⟩:=dnr X G h8 ["_law_plan_here"];obtain⟨f9,d9,F9,a9⟩:=dnr X G h9 ["_law_plan_here"];obtain⟨f10,d10,F10,a10⟩:=dnr X G h10 ["_law_error"];obtain⟨f11,d11,F11,a11⟩:=dnr X G h11 ["_law_call"];obtain⟨f12,d12,F12,a12⟩:=dnr X G h12 ["_law_script"];exact⟨⟨f0,_,f1,_,f2,_,f3,_,f4,_,f5,_,f6,_,f7,_,f8,_,f9,_,f10,_,f11,_,f12,_,_,.ref qc_ONE,_,_,_,_,q_FewError,q_NoWeb,q_NoPlace,q_NoWay,q_NoParting,q_TooMany,q_NoForest,q_NoPlan,q_NoOneWay,q_NoOrder,q_NoText,q_NoDeed,q_NoRow⟩,⟨F0,F1,F2,F3,F4,F5,F6,F7,F8,F9,F10,F11,F12,zA1 X G vp,rfl,λ A H=>.tup (show SqT K H qc_ONE [V.str "one"]from .inr ⟨_,_,_,h_ONE,rfl,rfl,rfl,(by show 1<=zAN;decide),(.cons ⟨_,rfl⟩ .nil)⟩) (.cons (.str _) .nil),zA1 X G mQ,⟨_,rfl⟩,zA1 X G jV,⟨_,rfl⟩,zA1 X G gC,⟨_,rfl⟩,zA1 X G gD,⟨_,rfl⟩,zA1 X G y_FewError,(by unfold aY;rw[zA1 X G y_FewError]),fH,zA1 X G y_NoWeb,(by unfold aY;rw[zA1 X G y_NoWeb]),oY,zA1 X G y_NoPlace,(by unfold aY;rw[zA1 X G y_NoPlace]),j8,zA1 X G y_NoWay,(by unfold aY;rw[zA1 X G y_NoWay]),oZ,zA1 X G y_NoParting,(by unfold aY;rw[zA1 X G y_NoParting]),fu,zA1 X G y_TooMany,(by unfold aY;rw[zA1 X G y_TooMany]),j7,zA1 X G y_NoForest,(by unfold aY;rw[zA1 X G y_NoForest]),iK,zA1 X G y_NoPlan,(by unfold aY;rw[zA1 X G y_NoPlan]),jJ,zA1 X G y_NoOneWay,(by unfold aY;rw[zA1 X G y_NoOneWay]),iJ,zA1 X G y_NoOrder,(by unfold aY;rw[zA1 X G y_NoOrder]),j9,zA1 X G y_NoText,(by unfold aY;rw[zA1 X G y_NoText]),lL,zA1 X G y_NoDeed,(by unfold aY;rw[zA1 X G y_NoDeed]),lN,zA1 X G y_NoRow,(by unfold aY;rw[zA1 X G y_NoRow]),o4,zB9 X G z_ValueError,zB9 X G z_isinstance,zB9 X G z_len,zB9 X G z_max,zB9 X G z_min,zB9 X G z_range,zB9 X G z_sorted,zB9 X G z_tuple,cb⟩⟩
def aFy{l:zEJ}{w:World}{K:zAA}{h:Heap}{mg:Str->Option Value}{fa Pt:Addr}(X:K.In h)(G:h.Ns zAX mg)(hfa:mg "law"=some (.ref fa))(hB:uZ K "law" Pt=true)(ht:∃t,Txt K mg t):L2.zN l.prog w K mg fa Pt 68 63:=by
 obtain⟨t,T⟩:=ht;have e:=hfa.symm.trans T.aEM.m;cases e;exact aDP (f:=sZ) (F:=aCN) X G hB T.aEM aEd (λ _ _ _ _ _ _ _ _=>.of_eq rfl) (λ base c s H hr Lx nd=>aGo T hr Lx nd) rfl aB5
def walk{l:zEJ}{q:zAS}{loose:List Str}{XP:(Str->Option Value)->Heap->Prop}{YP:World->Heap->Prop}{d:DefRec}{K:Params->zAA}{Pt:Addr}(hn:l.most=some 63)(hdf:d.params.defaults=[])
  (hY:∀(w:World) (h:Heap),YP w h->(K w.params).In h/\h.get? Pt=some (zCB #[]))
  (F:∀(w:World) (mg:Str->Option Value) (fa:Addr) (h:Heap),(K w.params).In h->h.Ns zAX mg->mg d.name=some (.ref fa)->L2.zN l.prog w (K w.params) mg fa Pt 68 63):
  zGD q loose XP YP l.row.toRowW d [] (λ f vs=>zFg f vs):=
 L2.aAU hn (by decide) hdf ⟨rfl,by decide,by decide⟩ hY F
end VL.My
open PySem PySem.W PyProof.Rows
set_option maxRecDepth 100000 in
set_option maxHeartbeats 0 in
theorem PySem.Challenge.cw_fewways_k42_webs_of_plans_holds : PySem.Challenge.rw_fewways_k42_webs_of_plans.Holds := by
 w_on; o_law; k_head; (case hw=>w_witness2)
 k_fill
 refine VL.My.walk (l:=PySem.Challenge.rw_fewways_k42_webs_of_plans) rfl rfl (fun w h Y=>⟨PySem.W.km_in_of Y,PySem.W.km_tabs_of Y _ zAU⟩) ?F
 case F =>
  intro w mg fa h KX G hmg
  refine VL.My.aFy KX G hmg ?B ?T
  (case B=>kernel_rfl)
  case T =>
   refine' VL.My.aES KX G (VL.enr ?a0 ?l0 ?c0 ?k0) (VL.enr ?a1 ?l1 ?c1 ?k1) (VL.enr ?a2 ?l2 ?c2 ?k2) (VL.enr ?a3 ?l3 ?c3 ?k3) (VL.enr ?a4 ?l4 ?c4 ?k4) (VL.enr ?a5 ?l5 ?c5 ?k5) (VL.enr ?a6 ?l6 ?c6 ?k6) (VL.enr ?a7 ?l7 ?c7 ?k7) (VL.enr ?a8 ?l8 ?c8 ?k8) (VL.enr ?a9 ?l9 ?c9 ?k9) (VL.enr ?a10 ?l10 ?c10 ?k10) (VL.enr ?a11 ?l11 ?c11 ?k11) (VL.enr ?a12 ?l12 ?c12 ?k12) ?vp ?h_ONE ?mQ ?jV ?gC ?gD ?y_FewError ?fH ?y_NoWeb ?oY ?y_NoPlace ?j8 ?y_NoWay ?oZ ?y_NoParting ?fu ?y_TooMany ?j7 ?y_NoForest ?iK ?y_NoPlan ?jJ ?y_NoOneWay ?iJ ?y_NoOrder ?j9 ?y_NoText ?lL ?y_NoDeed ?lN ?y_NoRow ?o4 ?cb ?z_ValueError ?z_isinstance ?z_len ?z_max ?z_min ?z_range ?z_sorted ?z_tuple
   (case y_FewError=>k_is); (case fH=>unfold L2.bK; k_exc)
   (case y_NoWeb=>k_is); (case oY=>unfold L2.bK; k_exc)
   (case y_NoPlace=>k_is); (case j8=>unfold L2.bK; k_exc)
   (case y_NoWay=>k_is); (case oZ=>unfold L2.bK; k_exc)
   (case y_NoParting=>k_is); (case fu=>unfold L2.bK; k_exc)
   (case y_TooMany=>k_is); (case j7=>unfold L2.bK; k_exc)
   (case y_NoForest=>k_is); (case iK=>unfold L2.bK; k_exc)
   (case y_NoPlan=>k_is); (case jJ=>unfold L2.bK; k_exc)
   (case y_NoOneWay=>k_is); (case iJ=>unfold L2.bK; k_exc)
   (case y_NoOrder=>k_is); (case j9=>unfold L2.bK; k_exc)
   (case y_NoText=>k_is); (case lL=>unfold L2.bK; k_exc)
   (case y_NoDeed=>k_is); (case lN=>unfold L2.bK; k_exc)
   (case y_NoRow=>k_is); (case o4=>unfold L2.bK; k_exc)
   (case cb=>kernel_rfl)
   any_goals k_is
