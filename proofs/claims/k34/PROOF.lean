import PyProof.Rows.All
import KE.KDictOf
import PyProof.DictWalks
import Wide.All
import OpenK.AllK
import Wide.FinOn
import Lean
import PyProof.EqAt
import PyProof.EqKinds
import PyProof.TupleCall
import KE.LcSums
import PySem.Challenge.RW_fewways_k34_partings_of_forests_counted
open Array renaming length_toList->zBq,getD_eq_getD_getElem?->zEc,toList->zH6
open Array.Perm renaming refl->zGB
open Bool renaming and_eq_true->zAM,false_ne_true->zA6,eq_iff_iff->zAj,not_eq_true'->zBQ,or_eq_true->zCI,false_eq_true->zCZ,and_false->zC9,and_true->zCr,and_assoc->zDy,eq_false_iff->zGd,false_and->zHS,false_or->zH7,or_true->zHf
open Classical renaming byContradiction->zE3,propDecidable->zEe,choose_spec->zEy,not_imp->zFm
open False renaming elim->zAH
open ForInStep renaming yield->zBe
open Function renaming comp_def->zEF
open Int renaming toNat_of_nonneg->zBS,le_refl->zBy,mul_le_mul_of_nonneg_left->zCD,le_trans->zCf,mul_add->zDA,emod_lt_of_pos->zDL,zero_add->zDM,emod_nonneg->zDo,pow_succ->zDp,pow_nonneg->zEG,mul_one->zEM,one_mul->zEN,mul_le_mul_of_nonneg_right->zEa,mul_pos->zEz,natCast_mul->zFA,add_mul_emod_self_left->zFX,mul_nonneg->zFd,mul_comm->zGL,emod_eq_of_lt->zGo,mul_left_comm->zGp,toNat_natCast->zGq,mul_assoc->zHh,toNat_add->zHi
open LawfulBEq renaming eq_of_beq->zHH
open List renaming mem_cons_of_mem->zAB,map_cons->zAC,mem_cons_self->zAE,length_map->zAF,getElem?_eq_getElem->zAI,mem_append_left->zAJ,mem_singleton->zAK,size_toArray->zAL,replicate->zAN,getElem?_eq_some_iff->zAO,getElem?_map->zAP,mem_cons->zAQ,mem_map->zAS,length_append->zAT,mem_append->zAX,map_append->zAZ,mem_append_right->zA1,map_map->zA3,length_cons->zA4,all_eq_true->zA7,nodup_cons->zA9,pairwise_cons->zAb,mem_filter->zAe,lookup_cons->zAh,nodup_append->zAk,mem_of_getElem?->zAl,length_singleton->zAm,filter_cons->zAn,append_nil->zAo,nodup_iff_pairwise_ne->zAs,filter_congr->zAv,append_assoc->zAx,filter_append->zAz,pairwise_map->zBD,range->zBE,getD_eq_getElem?_getD->zBG,getElem?_set_ne->zBH,length_set->zBI,pairwise_iff_getElem->zBJ,map_congr_left->zBL,replicate_succ->zBR,length_filter_le->zBU,zip_cons_cons->zBY,filter_eq_self->zB4,length_nil->zB5,getElem?_set_self->zB6,max?_eq_some_iff->zBb,drop_eq_getElem_cons->zBg,getElem?_append_left->zBh,range'->zBi,filterMap_cons->zBv,getElem_of_mem->zBw,sum_cons->zBx,mem_filterMap->zCE,length_replicate->zCJ,any_cons->zCL,flatten_cons->zCM,getElem?_inj->zCN,mem_erase_of_ne->zCP,getElem?_range->zCU,filter_map->zC2,find?_cons->zC3,getElem?_replicate->zC4,filter_eq_nil_iff->zC6,reverse_cons->zC7,mem_range->zCa,getElem?_eq_none->zCc,countP_cons->zCg,getElem_map->zCh,getElem_mem->zCi,getElem_toArray->zCl,all_cons->zCs,foldl_cons->zCx,nil_append->zCy,getElem?_append_right->zDD,perm_ext_iff_of_nodup->zDE,map_nil->zDF,ne_nil_of_mem->zDG,length_erase_of_mem->zDQ,getElem?_cons_succ->zDU,getElem?_cons_zero->zDV,lookup_eq_none_iff->zDW,drop_length->zD0,length_take->zD1,not_mem_nil->zD2,length_pos_of_mem->zD6,take_of_length_le->zD7,filter_nil->zDe,of_mem_zip->zDf,singleton_append->zDg,isEmpty_toArray->zDu,length->zEH,append_of_mem->zEV,lookup_append->zEW,map_singleton->zEX,set_cons_succ->zEY,set_cons_zero->zEZ,map_id->zEo,foldl->zFe,sublist_append_left->zFf,range_succ_eq_map->zFq,all_map->zGD,concat_eq_append->zGE,eq_nil_or_concat->zGF,eq_replicate_iff->zGG,max?_eq_none_iff->zGH,lookup->zGT,map_eq_nil_iff->zGU,contains_cons->zG1,filter_filter->zG2,getElem_range->zG3,zip_nil_right->zG4,foldl_append->zGf,take_add_one->zGg,zip_nil_left->zGh,append_inj'->zGr,cons_append->zGs,map_fst_zip->zGt,map_snd_zip->zGu,mem_reverse->zGv,range'_succ->zGw,length_zip->zHL,max?->zHM,mem_range'->zHN,drop_zero->zHU,nodup_nil->zHV
open List.Pairwise renaming nil->zFB,imp_of_mem->zHj,map->zHk
open List.Perm renaming refl->zBN,swap->zE6
open List.Sublist renaming refl->zBW
open List.cons renaming injEq->zE0
open Nat renaming le_refl->zAV,lt_of_lt_of_le->zA2,ne_of_lt->zAd,le_trans->zAf,zero_le->zAi,lt_irrefl->zBT,le_of_lt->zBf,lt_succ_self->zCm,le_max_right->zD8,le_of_not_lt->zD9,le_max_left->zDq,min_self->zDr,ne_of_gt->zDs,pow_le_pow_right->zEB,le_succ->zEO,not_lt->zE7,not_lt_zero->zFC,mul_comm->zGM,sub_self->zGN,succ_eq_add_one->zG5,le_succ_of_le->zGx,lt_trichotomy->zGy,succ_min_succ->zHA,succ_le_succ->zHO,add_one_inj->zHW
open Nat.succ renaming inj->zGz
open Ne renaming symm->zCX
open Option renaming map_eq_some_iff->zB3,map_some->zDa,isSome_some->zGO,bind_some->zG6,getD_some->zG7,none->zHa
open Option.some renaming inj->zAg
open Or renaming inr->zBC,inl->zB1
open Prod renaming fst->zEg,ext->zHc,snd->zHd
open Prod.mk renaming injEq->zEC
open PyProof.Rows renaming step_dedup->zBB,IntsAre->zBK,KeyOrd->zBt,seqObj->zBz,callWith_type1->zC8,SortSt->zCj,kindOf->zCk,SortKind->zCt,envOfC->zDx,AllBare->zEK,lt_int->zEp,failedOf->zFk,get?_update_seq->zFv,pendingOf->zFw,boot_range->zGW,sortedHeap->zGY,listUpdate_at->zG9,subscriptTail->zGc,subscriptTail_builtinR->zGl,seqEpoch_at->zH1,Subscript_->zHn
open PyProof.Rows.IsTup renaming new->zFp
open PyProof.Rows.KeyOrd renaming kle_refl->zCW,kle_trans->zDR,kle_of_klt->zEU,kle_antisymm->zGC
open PySem renaming Shared->zAD,sizeLine->zAR,Program->zAU,starEach->zAW,wpAny_bind->zAY,Around->zA8,mainGlobals->zAa,FuncData->zAc,mem_of_lookup->zAp,bootBuiltins->zAq,wpAny_pure->zAr,compareOp->zAw,assignEach->zBV,Keyword->zB2,attributeBase->zB7,foldedSetIterable->zB9,wpAny_mono->zBa,binaryOp->zBd,swapsWith->zBl,wpAny_holding->zBm,sizeLine_eq->zBo,backTo->zBp,sysModules->zCA,wpAny_truthy_bool->zCB,keywordEach->zCF,call_meets->zCK,wpAny_loadPart'->zCQ,wpAny_passesOwn->zCR,behindInMarks->zCT,wpAny_binaryOp_repeat_ref->zCY,GenState->zC1,typeIs_int->zCp,wpAny_loadPart_at->zCq,NameKind->zDH,backToKw->zDK,cellsFrom->zDO,codeAny->zDP,wpAny_Call_Name_kw->zDX,holding->zD5,Builtin->zDm,assign->zDw,letOwnedTupleGo->zER,wpAny_execs_nil->zES,Result->zE2,callerA->zE9,Arguments->zEb,swappedStores->zEi,swapsWithSole->zEj,tupleKind->zEk,tupleKind_room_in1->zEl,wpAny_standAt->zEm,BindsTo->zEx,typeLookup->zFU,wpAny_newObj_type->zFV,wpAny_pyIter_list->zFW,codeAny_mono->zFc,noFill_tuple_add->zFi,SetTable->zFj,codeAny_builtin->zFt,excClassObj->zFu,relabel->zFx,richCompare->zFy,subscripted->zFz,valueAt->zGA,newFunctionEnv->zGR,recursionLimit->zGS,PyData->zGV,closureFor->zGX,wpAny_comprehension_free->zGZ,call->zG8,newList->zGa,seq_tuple_add->zGb,seqSlot_of->zGj,richCompare_meets_room->zGk,wpAny_pyNext_list_item->zGm,Paired->zHB,PassesOwn->zHC,call_meetsIn->zHF,concat_meets->zHG,lastMarks->zHI,seqIndex_neg->zHJ,wpAny_pyNext_list_end->zHK,codeAny_call_builtin->zHQ,wpAny_loadName_local->zHR,getItem->zHZ,intKind->zH0,seqIndex_of->zH2,standAt->zH3,wpAny_isSubtype_exc->zH4,wpAny_loadName_cell->zH5,Within->zHe,builtinsNs->zHp,slot_list_getitem->zHq,wpAny_Name->zHr,wpAny_assign_Name->zHs
open PySem.Around renaming under_plainId->zFl
open PySem.AutoSeq1 renaming sub_tuple_tuple->zEd
open PySem.Builtin.List renaming listTooLong->zBP
open PySem.Builtin.Range renaming rangeSize->zBA,rangeFitsLong->zBr,small->zCG
open PySem.Builtin.Tuple renaming tupleCompareSizes->zDb,tupleTooMany->zEE,tupleExact->zET,tupleHashOf->zHg
open PySem.Calls renaming callWith_builtin->zDY,evalArgs_plain->zDn,spliced_cons->zEL,Name_function_global->zEn,spliced_nil->zG0
open PySem.Data renaming seq->zH8
open PySem.F renaming plainAttrs_list->zBZ,slot_int_rmul->zBs,slot_list_append->zC0,slot_list_extend->zCb,slot_tuple_mul->zCu,args_tuple_add_2->zDI,type_list_append->zDJ,entry_tuple_add->zDN,slot_tuple_add->zDS,args_int_rmul_2->zDZ,slot_dict_get->zD3,entry_int_rmul->zDc,slot_int_index->zDd,fills_int_mul->zDz,typeOf_object_class->zEA,args_tuple_mul_2->zE4,entry_tuple_mul->zEf,type_list_extend->zEq,args_dict_get_3->zFD,plainAttrs_dict->zFE,plain_list_iadd->zFF,slot_dict_items->zFG,slot_list_count->zFH,entry_dict_get->zFY,slot_gs_get->zGK,args_list_extend_2->zGe,entry_list_extend->zGn,slot_tuple_rmul->zHT
open PySem.Heap renaming get?_push_of_some->zAG,lt_size->zA0,get?_push_size->zA5,size_push->zCC,get?_update_ne->zCw,SameBut->zE5,get?_update_other->zFo
open PySem.Heap.DictOf renaming new->zFn
open PySem.Heap.IsSliceOf renaming new->zH9
open PySem.NameKind renaming free->zB8,cell->zCd
open PySem.Obj renaming mapSeq->zBc
open PySem.Paired renaming length->zEI,snoc->zHb
open PySem.SeqAt renaming EqAt->zBk
open PySem.SeqAt.EqAt renaming of_refs->zBu,same->zCS,int_int->zDi,int_str->zDj,str_int->zDk,bool_tuple->zEr,list_tuple->zEs,none_tuple->zEt,tuple_bool->zEu,tuple_list->zEv,tuple_none->zEw,bool_bool->zFI,bool_list->zFJ,bool_none->zFK,int_tuple->zFL,list_bool->zFM,list_none->zFN,none_bool->zFO,none_list->zFP,str_tuple->zFQ,tuple_int->zFR,tuple_str->zFS,bool_int->zF0,bool_str->zF1,int_bool->zF2,int_list->zF3,int_none->zF4,list_int->zF5,list_str->zF6,none_int->zF7,none_str->zF8,str_bool->zF9,str_list->zFa,str_none->zFb,str_str->zFh
open PySem.SeqAt.RcAt renaming lists_lengths->zCz,tuples->zDv,lists->zEJ
open PySem.Value renaming ref->zBF,none->zBX,type->zCV,int->zCv,builtin->zDT,bool->zDl,notImplemented->zDt,isInt->zEh,str->zFs,isStrOf->zHY,float->zHo
open PySem.W renaming Frag->zAA,mg_none_of->zAt,nsIn->zAu,kia_one->zAy,findIn->zBM,emptyDict->zBO,instObj->zBj,fnOf->zBn,mg_of->zCH,keepIn->zC5,looks_findIn->zCe,hideAll->zCn,hideAll_get->zCo,codeIn->zDB,kitOne->zDC,kas_rev->zD4,lookIn->zDh,Looks->zED,kitx_dict->zEP,methodObj->zEQ,plainGet->zE1,OpenLaw->zE8,cellsFrom_some->zFZ,KasT->zFg,plainGet_of->zFr,kitx_tuple->zGI,of_hideAll->zGJ,kas_place->zGP,kitx_list->zGQ,InstAt->zGi,WalkO->zHD,excIn->zHE,isFn->zHP
open PySem.W.Looks renaming ld->zHl,now->zHm
open Sum renaming inl->zB0,inr->zFT
open Sum.inl renaming inj->zHX
open True renaming intro->zCO
noncomputable section
namespace PySem.W.Fast
def tw6236215206620902752:=0
def tw13327057638328746208:=0
def tw6701191811963461440:=0
def tw15453098961483385952:=0
def tw2201793787420528736:=0
def tw4191418839523975296:=0
def tw15949064457340649024:=0
def tw2766385435082110241:=0
def tw18053112851032944193:=0
def tw484273158502488961:=0
def tw12064236467279755329:=0
def tw8394122263083703681:=0
def tw5173625527670224833:=0
def tw5558156555707427681:=0
def tw17816175425101530530:=0
def tw3098969477354623458:=0
def tw15397589865486059907:=0
def tw11081591689261526435:=0
def tw11722760658047829699:=0
def tw14477853627218029027:=0
def tw13920816276100567811:=0
def tw9569082269174904131:=0
def tw4105297280509961539:=0
def tw13183779295121631555:=0
def tw2817555453599438660:=0
def tw1139095761723042212:=0
def tw4915399119838990212:=0
def tw4303755095022404516:=0
def tw370870227066909604:=0
def tw7488784210264413252:=0
def tw9240753391302309220:=0
def tw3729089079838244229:=0
def tw14469501779318291589:=0
def tw17720214742366447493:=0
def tw16865569565623434310:=0
def tw1742958913756276678:=0
def tw17482066094347172550:=0
def tw18243211663019405158:=0
def tw17431846388348531558:=0
def tw15102252278422916230:=0
def tw10016037757796410534:=0
def tw10948802296315778086:=0
def tw18042741560449475622:=0
def tw5875226384775638375:=0
def tw12823386220322338919:=0
def tw8132087926045473191:=0
def tw3532079250656988871:=0
def tw3162108477168300039:=0
def tw942698843652549223:=0
def tw914557720865341768:=0
def tw9982394065819125416:=0
def tw10077251678880342568:=0
def tw5830052129828612520:=0
def tw12779895774844885288:=0
def tw18126751695716825960:=0
def tw7929292309604422377:=0
def tw17265311356451792905:=0
def tw16228052215193146249:=0
def tw6600902091807424713:=0
def tw14911817609355302857:=0
def tw10420597276692383721:=0
def tw12807662486924577162:=0
def tw13210794434288423082:=0
def tw10997482105860818378:=0
def tw9447545018963068650:=0
def tw4391891984190146442:=0
def tw7487612633873577898:=0
def tw8144143031976870090:=0
def tw5915883956798917578:=0
def tw17829938745674397931:=0
def tw7998772179428757771:=0
def tw12064680077732087787:=0
def tw15551230666749367883:=0
def tw2574326320746864395:=0
def tw8989472026837309067:=0
def tw12486378978149417676:=0
def tw11396202196024152780:=0
def tw2001309648942414988:=0
def tw14610468497495232812:=0
def tw5071486994662178092:=0
def tw1584955827710246220:=0
def tw3381819567363790349:=0
def tw15645158701307565133:=0
def tw3411075709180029613:=0
def tw15706675980533505934:=0
def tw18118886350671780206:=0
def tw1745276429739944750:=0
def tw14752243608903992590:=0
def tw6082138303188327022:=0
def tw13782848628259489679:=0
def tw13908657567111853391:=0
def tw10633137489821210447:=0
def tw13642233299350798927:=0
def tw17223760489345985391:=0
def tw8693729367070432400:=0
def tw7231642445126979312:=0
def tw5323583856619944272:=0
def tw11392197637009715088:=0
def tw13209080796956732624:=0
def tw1686478390046557680:=0
def tw5981574282850500560:=0
def tw17384766026179850064:=0
def tw74288883395678928:=0
def tw3748744700189238705:=0
def tw17603284688015374097:=0
def tw7759866214459280177:=0
def tw197123550439622321:=0
def tw17280455510102548433:=0
def tw17913689222997347601:=0
def tw3487660844975391442:=0
def tw15035534816795570066:=0
def tw7609178132972928530:=0
def tw3132952633445990355:=0
def tw17933221363772903251:=0
def tw10200035019701411699:=0
def tw11039436070993982931:=0
def tw13194474733193608979:=0
def tw14128811415767398003:=0
def tw13010485878487647315:=0
def tw14723308666145706836:=0
def tw11164168632468494196:=0
def tw15346029773166373652:=0
def tw12262036590910824085:=0
def tw8453109041878689877:=0
def tw14203006886896163189:=0
def tw7556958915665321237:=0
def tw2563306447312059957:=0
def tw5322080306869026933:=0
def tw5977096761957014677:=0
def tw3157632533220517013:=0
def tw6504363870426943189:=0
def tw6498880794528323638:=0
def tw15570475862221042006:=0
def tw17850859806448636150:=0
def tw9226889036020835862:=0
def tw7259599958244140566:=0
def tw14087564003871675510:=0
def tw9221470668585806998:=0
def tw11803456164388283542:=0
def tw5524574437560444630:=0
def tw4295740956500045110:=0
def tw12567989033569637399:=0
def tw17552475217830092695:=0
def tw11709406162668209047:=0
def tw14904632382429549367:=0
def tw12914478896354478455:=0
def tw5457011042733818263:=0
def tw15803983387618426871:=0
def tw8451698380457827512:=0
def tw13959847702542491864:=0
def tw9905526571638480984:=0
def tw11393108211627814584:=0
def tw15691792165980296185:=0
def tw8516928996347776025:=0
def tw14355938155463558201:=0
def tw6204932886717331673:=0
def tw16379263388814278297:=0
def tw7275691705939378746:=0
def tw1863058395618865626:=0
def tw13377811763878555898:=0
def tw908698491200937786:=0
def tw12853375996094469946:=0
def tw15505113281466720923:=0
def tw15804779730692586203:=0
def tw14716807728570603803:=0
def tw16051998209901017371:=0
def tw6054291030331280443:=0
def tw10744531932996845499:=0
def tw17692656915836816155:=0
def tw5416570699816182139:=0
def tw15225032278656710588:=0
def tw598940472863791644:=0
def tw814451916511507292:=0
def tw3503217770168115356:=0
def tw8365412784740487228:=0
def tw17145441031178176445:=0
def tw8624846094479595741:=0
def tw6037550678046296573:=0
def tw10345391740654025373:=0
def tw637707686988063869:=0
def tw11470104975621637117:=0
def tw3606650800793755837:=0
def tw13495343867825695805:=0
def tw11703419764196518237:=0
def tw12096882166547925918:=0
def tw5478023355424732670:=0
def tw17959663668971870270:=0
def tw7087190546846713950:=0
def tw11013426399329300894:=0
def tw3343859378536956062:=0
def tw5135366223873667806:=0
def tw3980741536405683518:=0
def tw4925135978376869470:=0
def tw15844033931531102431:=0
def tw14568315388136112095:=0
def tw14010141529664149343:=0
def tw5602132406939531679:=0
def tw10706228610631655423:=0
def tw17441092358088298079:=0
def tw7633660175675453311:=0
def tw12987213397724494645:=0
def tw3773546246521212215:=0
end PySem.W.Fast
abbrev gX:=List (Int×Int)
abbrev gV:=List (List Int)
abbrev hZ:=List (PySem.Addr×PySem.Obj)
set_option bootstrap.genMatcherCode false
set_option compiler.extract_closed false
set_option Elab.async false
set_option linter.all false
set_option maxRecDepth 100000
namespace L2
open PySem PySem.Spec PyProof.Rows
abbrev Key:=Sum Int Str
def vh:Key->Value->Bool
 | .inl k,v=>zEh k v
 | .inr x,v=>zHY x v
def aLg(w:World):Key->Int
 | .inl k=>hashInt k
 | .inr x=>hashStr w x
def b8:∀{k:Key} {v:Value},vh k v=true->(∃i t,k=zB0 i/\v=zCv i t)\/(∃x t,k=zFT x/\v=zFs x t)
 | .inl i,v,h=>by
  obtain⟨t,e⟩:=Value.isInt_shape (k:=i) (v:=v) h;exact .inl ⟨i,t,rfl,e⟩
 | .inr x,v,h=>by
  obtain⟨t,e⟩:=Value.isStrOf_shape (x:=x) (v:=v) h;exact .inr ⟨x,t,rfl,e⟩
def aCw(i:Int)(t:Tok):vh (.inl i) (.int i t)=true:=by simp[vh,zEh]
def aCv(x:Str)(t:Tok):vh (.inr x) (.str x t)=true:=by simp[vh,zHY]
def aJg(a b:Int):decide ((zB0 a:Key)=zB0 b)=(a==b):=by
 by_cases e:a=b
 .subst e;simp
 .have h:¬(zB0 a:Key)=zB0 b:=λ q=>e (zHX q)
  rw[decide_eq_false h];exact(beq_eq_false_iff_ne.mpr e).symm
def aJd(a b:Str):decide ((zFT a:Key)=zFT b)=decide (a=b):=by
 by_cases e:a=b
 .subst e;simp
 .have h:¬(zFT a:Key)=zFT b:=λ q=>e (Sum.inr.inj q)
  rw[decide_eq_false h,decide_eq_false e]
def aJf(a:Int)(b:Str):decide ((zB0 a:Key)=zFT b)=false:=decide_eq_false (λ q=>nomatch q)
def aJe(a:Str)(b:Int):decide ((zFT a:Key)=zB0 b)=false:=decide_eq_false (λ q=>nomatch q)
def bO(prog:zAU)(w:World):PySem.KeyKind prog w Key where
 is:=vh
 hash:=aLg w
 inj:=λ v a b ha hb=>by
  rcases b8 ha with ⟨i,t,rfl,rfl⟩|⟨x,t,rfl,rfl⟩
  .rcases b8 hb with ⟨j,u,rfl,e⟩|⟨y,u,rfl,e⟩
   .injection e with e1 _;rw[e1]
   .exact nomatch e
  .rcases b8 hb with ⟨j,u,rfl,e⟩|⟨y,u,rfl,e⟩
   .exact nomatch e
   .injection e with e1 _;rw[e1]
 byValue:=λ k v h=>by
  rcases b8 h with ⟨i,t,rfl,rfl⟩|⟨x,t,rfl,rfl⟩<;>rfl
 pyHash:=λ hv h=>by
  rcases b8 hv with ⟨i,t,rfl,rfl⟩|⟨x,t,rfl,rfl⟩
  .exact wpAny_pyHash_int h
  .exact wpAny_pyHash_str h
 eqBool:=λ hu hv h=>by
  rcases b8 hu with ⟨i,t,rfl,rfl⟩|⟨x,t,rfl,rfl⟩
  .rcases b8 hv with ⟨j,u,rfl,rfl⟩|⟨y,u,rfl,rfl⟩
   .rw[aJg]at h;exact wpAny_eqBool_int h
   .rw[aJf]at h;exact zDj i t y u _ _ _ _ h
  .rcases b8 hv with ⟨j,u,rfl,rfl⟩|⟨y,u,rfl,rfl⟩
   .rw[aJe]at h;exact zDk x t j u _ _ _ _ h
   .rw[aJd]at h;exact wpAny_eqBool_str h
 «strs»:=λ k x t v h=>by
  rcases b8 h with ⟨i,u,rfl,e⟩|⟨y,u,rfl,e⟩
  .exact nomatch e
  .injection e with e1 _
   subst e1;cases v<;>rfl
def za(prog:zAU)(w:World)(i:Int)(t:Tok):(bO prog w).is (.inl i) (.int i t)=true:=aCw i t
def z9(prog:zAU)(w:World)(x:Str)(t:Tok):(bO prog w).is (.inr x) (.str x t)=true:=aCv x t
inductive V where
 |non|bl (b:Bool)|int (i:Int)|str (x:Str)|byt (b:Array UInt8)|flt (b:UInt64)|ref (a:Addr)|ty (n:String)
 deriving DecidableEq
def RelV:V->Value->Prop
 | .non,u=>u=zBX
 | .bl b,u=>u=zDl b
 | .int i,u=>∃t,u=zCv i t
 | .str x,u=>∃t,u=zFs x t
 | .byt b,u=>∃t,u=Value.bytes b t
 | .flt b,u=>∃t,u=zHo b t
 | .ref a,u=>u=zBF a
 | .ty n,u=>u=zCV n
abbrev Vals:List V->List Value->Prop:=zHB RelV
theorem Vals.length(r:Vals xs us):xs.length=us.length:=zEI r
theorem Vals.get:∀{xs:List V} {us:List Value} {i:Nat} {x:V},Vals xs us->xs[i]? =some x->∃u,us[i]? =some u/\RelV x u
 |_,_,_,_,.nil,e=>by simp at e
 |_,_,0,_,.cons r _,e=>by simp at e;subst e;exact⟨_,rfl,r⟩
 |_,_,i+1,x,.cons _ t,e=>by
  obtain⟨u,h1,h2⟩:=Vals.get (i:=i) (x:=x) t (by simpa using e);exact⟨u,by simpa using h1,h2⟩
theorem Vals.set(r:RelV x u):∀{xs:List V} {us:List Value} (i:Nat),Vals xs us->Vals (xs.set i x) (us.set i u)
 |_,_,_,.nil=>.nil
 |_,_,0,.cons _ t=>.cons r t
 |_,_,i+1,.cons q t=>.cons q (Vals.set r i t)
theorem Vals.append:∀{xs ys:List V} {us ws:List Value},Vals xs us->Vals ys ws->Vals (xs++ys) (us++ws)
 |_,_,_,_,.nil,s=>s
 |_,_,_,_,.cons r t,s=>.cons r (Vals.append t s)
def mz:Option V->Option Value->Prop
 |some v,some u=>RelV v u
 |none,none=>True
 |_,_=>False
def KV{κ:Type}:List (κ×V)->List (κ×Value)->Prop:=zHB λ(p:κ×V) (q:κ×Value)=>p.1=q.1/\RelV p.2 q.2
def kV:Key->V
 | .inl i=>.int i
 | .inr x=>.str x
inductive HO where
 |lst (xs:List V)
 |tup (xs:List V)
 |dK (kvs:List (Key×V))|dT (kvs:List (List Key×V))
 |set (S:Int->Bool) (n:Nat)
 |ins (C dx:Addr) (fs:List (Str×V))
 |own (x:Addr)
 |xd (fs:List (Str×V))
 |met (f x:Addr)
 |rng (lo hi:Int)
 |frz (o:Obj) (u:HO)
 |tbl (q:Str)
 |ext (φ:Heap->Prop)
abbrev Hp:=Addr->Option HO
def upd(H:Hp)(a:Addr)(o:HO):Hp:=λ b=>if b=a then some o else H b
def ak:upd H a o a=some o:=by unfold upd;rw[if_pos rfl]
def aW(h:b≠a):upd H a o b=H b:=by unfold upd;rw[if_neg h]
def aKx{H:Hp}{a b:Addr}{o u:HO}(h:H a=some o)(h':H b=some u)(d:o≠u):a≠b:=by
 intro e;subst e;rw[h]at h';exact d (zAg h')
def bZ{H:Hp}{a b:Addr}{o:HO}(h:H a=some o)(h':H b=none):a≠b:=by
 intro e;subst e;rw[h]at h';cases h'
def NoD(h:Heap)(a:Addr):Prop:=∀o,h.get? a=some o->o.dict=none
theorem NoD.push(h:Heap){o:Obj}(hl:o.isFreed=false:=by rfl)(hd:o.dict=none:=by rfl):NoD (h.push o) h.objs.size:=λ u e=>by rw[zA5 _ hl]at e;cases e;exact hd
def NoD.keep{h h':Heap}{a:Addr}{o:Obj}(n:NoD h a)(e:h.get? a=some o)(e':h'.get? a=some o):NoD h' a:=λ u q=>by rw[e']at q;cases q;exact n o e
section
variable{H H':Hp}
def aLX(q:Str)(oc:Obj):Prop:=∃vs t,oc.data= .fields vs/\vs[1]? =some (.str q t)
def TabOk(q:Str)(H:Hp)(ps:Array Value):Prop:=TriplesOk ps.toList/\∀pos cv,codeAmong pos ps.toList=some cv->∃c' oc,cv= .ref c'/\H c'=some (.frz oc (.own c'))/\aLX q oc
def TabOk.mono(t:TabOk q H ps)(f:∀b o u,H b=some (.frz o u)->H' b=some (.frz o u)):TabOk q H' ps:=⟨t.1,λ pos cv hc=>let⟨c',oc,z,a,b⟩:=t.2 pos cv hc;⟨c',oc,z,f _ _ _ a,b⟩⟩
end
section
variable(P:zAU)(w:World)
def cB(H:Hp)(h:Heap)(a:Addr):HO->Prop
 | .lst xs=>xs.length<=zAR/\∃(its:List Value) (n:Nat),Vals xs its/\h.get? a=some {cls:=.type "list",data:=.seq its.toArray n}
 | .tup xs=>(xs.length<=zAR/\NoD h a)/\∃its:List Value,Vals xs its/\IsTup h a its.toArray
 | .dK kvs=>kvs.length<=zAR/\(a==zCA)=false/\∃vs,KV kvs vs/\h.DictOf (bO P w) a vs
 | .dT kvs=>kvs.length<=zAR/\(a==zCA)=false/\∃xs:List (List Key×Addr×Value),
   zHB (λ(p:List Key×V) (q:List Key×Addr×Value)=>p.1=q.1/\H q.2.1=some (.tup (p.1.map kV))/\RelV p.2 q.2.2) kvs xs/\
   ∃o es ep,h.get? a=some o/\o.ExactDict/\o.data= .dict es ep/\es.toList=xs.map (entryOfKey (zEk (bO P w)))/\(xs.map (·.1)).Nodup
 | .set S n=>h.SetOf (zH0 P w) a S n
 | .ins C dx fs=>H dx=some (.own a)/\fs.length<=1000/\dx≠a/\h.get? a=some (zBj C dx)/\
   ∃mA,h.Ns1 dx mA/\(∀f,mz (fs.lookup f) (mA f))/\zHe mA (fs.map (·.1))
 | .own _=>∃o,h.get? a=some o
 | .xd fs=>∃mA,h.Ns1 a mA/\∀f,mz (fs.lookup f) (mA f)
 | .rng lo hi=>∃t u v,h.get? a=some {cls:=.type "range",data:=.fields #[.int lo t,.int hi u,.int 1 v]}
 | .frz o u=>h.get? a=some o/\cB H h a u
 | .tbl q=>∃ps,h.get? a=some {cls:=.none,data:=.fields ps}/\TabOk q H ps
 | .met f x=>h.get? a=some (zEQ (.ref f) (.ref x))
 | .ext φ=>φ h/\(∃o,h.get? a=some o)/\∀h1 h2:Heap,φ h1->(∀o,h1.get? a=some o->h2.get? a=some o)->φ h2
def HOk(H:Hp)(h:Heap):Prop:=∀a o,H a=some o->cB P w H h a o
end
section
variable{P:zAU}{w:World}{H H':Hp}{h h':Heap}{a:Addr}{o:HO}
theorem cB.lt(x:cB P w H h a o):a<h.objs.size:=by
 cases o with
 |lst xs=>obtain⟨_,_,_,_,e⟩:=x;exact zA0 e
 |tup xs=>obtain⟨_,_,_,p⟩:=x;exact p.lt
 |dK kvs=>obtain⟨_,_,_,_,o,_,_,e,_⟩:=x;exact zA0 e
 |dT kvs=>obtain⟨_,_,_,_,o,_,_,e,_⟩:=x;exact zA0 e
 |set S n=>obtain⟨o,_,_,_,e,_⟩:=x;exact zA0 e
 |ins C dx fs=>obtain⟨_,_,_,e,_⟩:=x;exact zA0 e
 |own y=>obtain⟨_,e⟩:=x;exact zA0 e
 |xd fs=>obtain⟨_,⟨_,_,_,e,_⟩,_⟩:=x;exact zA0 e
 |rng lo hi=>obtain⟨_,_,_,e⟩:=x;exact zA0 e
 |frz ob u=>obtain⟨e,_⟩:=x;exact zA0 e
 |tbl q=>obtain⟨ps,e,_⟩:=x;exact zA0 e
 |met f y=>exact zA0 (show h.get? a=some _ from x)
 |ext φ=>obtain⟨_,⟨_,e⟩,_⟩:=x;exact zA0 e
theorem Paired.mapP:∀{l₁:List α} {l₂:List β},zHB F l₁ l₂->(∀a b,F a b->G a b)->zHB G l₁ l₂
 |_,_,.nil,_=>.nil
 |_,_,.cons r t,f=>.cons (f _ _ r) (Paired.mapP t f)
def cB.stay(x:cB P w H h a o)(k:∀b u,(b=a\/H b=some (.own a))->h.get? b=some u->h'.get? b=some u)
  (ho:∀b,H b=some (.own a)->H' b=some (.own a))(ht:∀b xs,H b=some (.tup xs)->H' b=some (.tup xs))(hz:∀b o u,H b=some (.frz o u)->H' b=some (.frz o u):=by exact λ _ _ _ q=>q):cB P w H' h' a o:=by
 induction o with
 |lst xs=>obtain⟨z,its,n,r,e⟩:=x;exact⟨z,its,n,r,k _ _ (.inl rfl) e⟩
 |tup xs=>obtain⟨z,its,r,ob,e,c⟩:=x;exact⟨⟨z.1,z.2.keep e (k _ _ (.inl rfl) e)⟩,its,r,ob,k _ _ (.inl rfl) e,c⟩
 |dK kvs=>obtain⟨z,y,vs,r,ob,es,ep,e,c⟩:=x;exact⟨z,y,vs,r,ob,es,ep,k _ _ (.inl rfl) e,c⟩
 |dT kvs=>
  obtain⟨z,y,xs,r,ob,es,ep,e,c⟩:=x;exact⟨z,y,xs,Paired.mapP r λ p q z=>⟨z.1,ht _ _ z.2.1,z.2.2⟩,ob,es,ep,k _ _ (.inl rfl) e,c⟩
 |set S n=>obtain⟨ob,es,ep,t,e,c⟩:=x;exact⟨ob,es,ep,t,k _ _ (.inl rfl) e,c⟩
 |ins C dx fs=>
  obtain⟨d,z,ne,e,mA,⟨od,es,ep,e2,c⟩,r⟩:=x;exact⟨ho _ d,z,ne,k _ _ (.inl rfl) e,mA,⟨od,es,ep,k _ _ (.inr d) e2,c⟩,r⟩
 |own y=>obtain⟨ob,e⟩:=x;exact⟨ob,k _ _ (.inl rfl) e⟩
 |xd fs=>obtain⟨mA,⟨od,es,ep,e,c⟩,r⟩:=x;exact⟨mA,⟨od,es,ep,k _ _ (.inl rfl) e,c⟩,r⟩
 |rng lo hi=>obtain⟨t,u,v,e⟩:=x;exact⟨t,u,v,k _ _ (.inl rfl) e⟩
 |frz ob u ih=>obtain⟨e,q⟩:=x;exact⟨k _ _ (.inl rfl) e,ih q⟩
 |tbl q=>
  obtain⟨ps,e,t⟩:=x;exact⟨ps,k _ _ (.inl rfl) e,t.mono hz⟩
 |met f y=>
  have e:h.get? a=some (zEQ (.ref f) (.ref y)):=x;show h'.get? a=some (zEQ (.ref f) (.ref y));exact k a _ (.inl rfl) e
 |ext φ=>obtain⟨p,⟨o,e⟩,st⟩:=x;exact⟨st _ _ p λ o q=>k _ _ (.inl rfl) q,⟨o,k _ _ (.inl rfl) e⟩,st⟩
theorem HOk.lt(x:HOk P w H h)(e:H a=some o):a<h.objs.size:=(x a o e).lt
def HOk.fresh(x:HOk P w H h)(e:h.objs.size<=a):H a=none:=by
 cases q:H a with
 |none=>rfl
 |some u=>exact absurd (zA2 (x.lt q) e) (zBT _)
def HOk.kept(x:HOk P w H h)(k:∀b u,h.get? b=some u->h'.get? b=some u):HOk P w H h':=λ a o e=>
 (x a o e).stay (λ b u _ q=>k b u q) (λ _ q=>q) λ _ _ q=>q
def HOk.laid(x:HOk P w H h)(k:∀b u,h.get? b=some u->h'.get? b=some u)(hp:h.objs.size<=a)(new:cB P w (upd H a o) h' a o):HOk P w (upd H a o) h':=λ b u e=>by
 have hn:=x.fresh hp;by_cases hb:b=a
 .subst hb;rw[ak]at e;cases e;exact new
 .rw[aW hb]at e
  exact(x b u e).stay (λ c v _ q=>k c v q) (λ c q=>by rw[aW (bZ q hn)];exact q) (λ c xs q=>by rw[aW (bZ q hn)];exact q) λ c o' u' q=>by rw[aW (bZ q hn)];exact q
end
def Rd(H:Hp)(a:Addr)(u:HO):Prop:=H a=some u\/∃o,H a=some (.frz o u)
def Rd.ok(r:Rd H a u)(x:HOk P w H h):cB P w H h a u:=by
 rcases r with r|⟨o,r⟩
 .exact x a u r
 .obtain⟨_,q⟩:=x a _ r
  exact q
def Mut:Option HO->Prop
 |some (.lst _)=>True
 |some (.dK _)=>True
 |some (.dT _)=>True
 |some (.set _ _)=>True
 |some (.ins _ _ _)=>True
 |some (.ext _)=>True
 |_=>False
section
variable{P:zAU}{w:World}{H:Hp}{h h':Heap}{x e:Addr}{o':HO}
def HOk.write(ok:HOk P w H h)(mu:Mut (H x))(he:e=x\/H e=some (.own x))(k:∀b u,b≠e->h.get? b=some u->h'.get? b=some u)(heo:∃u,h'.get? e=some u)
  (new:cB P w (upd H x o') h' x o'):HOk P w (upd H x o') h':=λ b u q=>by
 have nown:∀c y,H c=some (.own y)->c≠x:=λ c y r z=>by subst z;rw[r]at mu;exact mu
 have ntup:∀c xs,H c=some (.tup xs)->c≠x:=λ c xs r z=>by subst z;rw[r]at mu;exact mu
 by_cases hb:b=x
 .subst hb;rw[ak]at q;cases q;exact new
 .rw[aW hb]at q
  by_cases hbe:b=e
  .have q':H b=some (.own x):=by
    rcases he with z|z
    .exact absurd (hbe.trans z) hb
    .rw[hbe];exact z
   rw[q]at q';cases q';obtain⟨v,hv⟩:=heo;exact⟨v,by rw[hbe];exact hv⟩
  .refine(ok b u q).stay (λ c v hc r=>k c v ?_ r) (λ c r=>by rw[aW (nown c b r)];exact r) (λ c xs r=>by rw[aW (ntup c xs r)];exact r) λ c o2 u2 r=>by rw[aW λ z=>by subst z;rw[r]at mu;exact mu];exact r
   rcases hc with rfl|hc
   .exact hbe
   .rintro rfl
    rcases he with z|z
    .exact nown c b hc z
    .rw[hc]at z;cases z;exact hb rfl
end
structure Un(fs ex:List Addr)(H H':Hp)(h h':Heap):Prop where
 keep:∀b o,h.get? b=some o->H b=none->b∉fs->b∉ex->h'.get? b=some o
 slot:∀b o,h.get? b=some o->H b=none->b∈fs->b∉ex->∃sl,h'.get? b=some {o with slots:=sl}
 free:∀b o,h.get? b=some o->H b=none->b∉ex->H' b=none
 there:∀b o,h.get? b=some o->b∉ex->∃o',h'.get? b=some o'
 tups:∀b xs,H b=some (.tup xs)->H' b=some (.tup xs)
 frzs:∀b o u,H b=some (.frz o u)->H' b=some (.frz o u)
 tbls:∀b q,H b=some (.tbl q)->H' b=some (.tbl q)
section
variable{fs ex:List Addr}{H H1:Hp}{h h1 h':Heap}{a x e:Addr}{o:HO}
def Un.any(u:Un fs ex H H1 h h1)(q:h.get? b=some ob)(n:H b=none)(hx:b∉ex):∃sl,h1.get? b=some {ob with slots:=sl}:=by
 by_cases hb:b∈fs
 .exact u.slot b ob q n hb hx
 .exact⟨ob.slots,u.keep b ob q n hb hx⟩
def Un.kept(k:∀b u,h.get? b=some u->h'.get? b=some u):Un fs ex H H h h':=
 ⟨λ b ob q _ _ _=>k b ob q,λ b ob q _ _ _=>⟨ob.slots,k b ob q⟩,λ _ _ _ n _=>n,λ b ob q _=>⟨ob,k b ob q⟩,λ _ _ q=>q,λ _ _ _ q=>q,λ _ _ q=>q⟩
def Un.refl:Un fs ex H H h h:=Un.kept λ _ _ q=>q
def Un.laid(k:∀b u,h.get? b=some u->h'.get? b=some u)(hp:h.objs.size<=a)(hn:H a=none):Un fs ex H (upd H a o) h h' where
 keep:=λ b u q _ _ _=>k b u q
 slot:=λ b u q _ _ _=>⟨u.slots,k b u q⟩
 free:=λ b u q n _=>by rw[aW (zAd (zA2 (zA0 q) hp))];exact n
 there:=λ b u q _=>⟨u,k b u q⟩
 tups:=λ b xs q=>by rw[aW (bZ q hn)];exact q
 frzs:=λ b u xs q=>by rw[aW (bZ q hn)];exact q
 tbls:=λ b r q=>by rw[aW (bZ q hn)];exact q
def Un.write(mu:Mut (H x))(he:e=x\/H e=some (.own x))(k:∀b u,b≠e->h.get? b=some u->h'.get? b=some u)(heo:∃u,h'.get? e=some u):Un fs ex H (upd H x o) h h':=by
 have hx:∀b,H b=none->b≠x:=λ b n z=>by subst z;rw[n]at mu;exact mu
 have hb:∀b,H b=none->b≠e:=λ b n z=>by
  subst z;rcases he with r|r
  .exact hx b n r
  .rw[n]at r;cases r
 have hm:∀b u,H b=some u->¬Mut (some u)->b≠x:=λ b u q nm z=>by subst z;rw[q]at mu;exact nm mu
 refine⟨λ b u q n _ _=>k b u (hb b n) q,λ b u q n _ _=>⟨u.slots,k b u (hb b n) q⟩,λ b u q n _=>by rw[aW (hx b n)];exact n,λ b u q _=>?_,
  λ b xs q=>by rw[aW (hm b _ q λ z=>z)];exact q,λ b u xs q=>by rw[aW (hm b _ q λ z=>z)];exact q,λ b r q=>by rw[aW (hm b _ q λ z=>z)];exact q⟩
 by_cases hbe:b=e
 .subst hbe;exact heo
 .exact⟨u,k b u hbe q⟩
end
def trk(h:Heap)(H:Hp):List Addr:=(zBE h.objs.size).filter λ a=>(H a).isSome
def yG(h:Heap)(H:Hp):Heap:=zCn h (trk h H)
def aDB(h:Heap)(H:Hp):(yG h H).objs.size=h.objs.size:=PySem.W.hideAll_size _ _
def aFI(e:h.get? b=some o)(n:H b=none):(yG h H).get? b=some o:=
 zCo _ e λ hm=>by
  have q:(H b).isSome=true:=(zAe.mp hm).2;rw[n]at q;simp at q
def aGl(e:(yG h H).get? b=some o):h.get? b=some o/\H b=none:=by
 have e':h.get? b=some o:=zGJ (trk h H) e;refine⟨e',?_⟩;cases q:H b with
 |none=>rfl
 |some x=>
  have hm:b∈trk h H:=zAe.mpr ⟨zCa.mpr (zA0 e'),by simp[q]⟩;have z:(yG h H).get? b=none:=PySem.W.hideAll_none (trk h H) hm;rw[z]at e;cases e
def aH9(g h:Heap)(L:Addr):hZ:=(zBE h.objs.size).filterMap λ a=>if a=L\/(g.get? a).isSome=true then none else(h.get? a).map λ o=>(a,o)
def rest(g h:Heap)(L d:Addr):hZ:=(aH9 g h L).filter λ p=>decide (p.1≠d)
structure Mod(K:zAA)(mg:Str->Option Value)(base:Heap):Prop where
 kin:K.In base
 glob:base.Ns zAa mg
 blt:∃mb,base.Ns zHp mb/\∀x:Str,x≠"__name__"->mb x=zAq x
 nolimit:base.NoLimit
structure Cx where
 prog:zAU
 w:World
 K:zAA
 mg:Str->Option Value
 base:Heap
 A:zA8
 N:List Str
 z5:zAD
 zS:Hp
 env:Env
 outer:List Env
 stack:List Env
 ex:List Addr
 fn:Str->Bool
 calm:Bool
 pn:hZ
 xe:Value->zAD->Prop
 ta:hZ:=[]
 tq:Str:=""
def frs(l:List Env):List Addr:=l.filterMap (·.frame)
abbrev Cx.fs(X:Cx):List Addr:=frs X.outer
def Vis(sc:Scope)(x:Str):Prop:=sc.names.lookup x=some .local\/sc.names.lookup x=some .cell\/sc.names.lookup x=some .free
def Loc(sc:Scope)(x:Str):Prop:=sc.names.lookup x=some .local\/sc.names.lookup x=some .cell
def Look(env:Env)(h:Heap)(m:Str->Option Value)(x:Str)(u:Value):Prop:=
 (env.kindOf x=some .local/\m x=some u)\/((env.kindOf x=some .cell\/env.kindOf x=some .free)/\∃c,env.cells.lookup x=some c/\h.IsCell c (some u))
structure Cx.Ok(X:Cx):Prop where
 mod:Mod X.K X.mg X.base
 kind:X.env.scope.kind= .function
 glob:X.env.globals=zAa
 blt:X.env.builtins=zHp
 above:X.z5.heap.objs.size<=X.env.locals
 inj:∀x y c,X.env.cells.lookup x=some c->X.env.cells.lookup y=some c->x=y
 has:∀x,(X.env.kindOf x=some .cell\/X.env.kindOf x=some .free)->∃c,X.env.cells.lookup x=some c
 cab:∀x c,X.fn x=true->X.env.cells.lookup x=some c->X.z5.heap.objs.size<=c
 hd:X.calm=true->X.A.handled=none
 frames:X.A.frames=some X.stack
 stk:X.stack=X.outer\/(X.stack=X.env::X.outer/\X.env.frame=some X.env.locals)
 exf:∀b∈X.ex,b≠X.env.locals/\∀x c,X.env.cells.lookup x=some c->c≠b
 bs:∀b o,X.base.get? b=some o->X.z5.heap.get? b=some o/\X.zS b=none
 bsz:X.base.objs.size<=X.z5.heap.objs.size
 noex:∀b o,X.base.get? b=some o->b∉X.ex
 exfs:∀b∈X.ex,b∉X.fs
 funs:X.z5.heap.FunFrames X.base X.outer
 frf:∀b∈X.fs,X.zS b=none
structure Inv(X:Cx)(hV:hZ)(σ:List (Option V))(H:Hp)(s:zAD):Prop where
 ok:X.Ok
 os:s.os=X.z5.os
 bare:zEK s.gens
 base:Un X.fs X.ex X.zS H X.z5.heap s.heap
 loc:∃m,s.heap.Ns X.env.locals m/\∀(i:Nat) (x:Str) (v:V),X.N[i]? =some x->σ[i]? =some (some v)->Vis X.env.scope x->∃u,RelV v u/\Look X.env s.heap m x u
 cell:∀x c,X.env.cells.lookup x=some c->∃v,s.heap.IsCell c v
 free:H X.env.locals=none
 freeC:∀x c,X.env.cells.lookup x=some c->H c=none
 pin:∀p∈X.pn++hV,s.heap.get? p.1=some p.2/\H p.1=none/\p.1≠X.env.locals/\p.1∉X.fs/\∀v,p.2.data≠.cell v
 hok:HOk X.prog X.w H s.heap
 len:σ.length=X.N.length
 tab:∀p∈X.ta,H p.1=none/\p.1≠X.env.locals/\p.1∉X.fs/\(∀q∈X.pn++hV,q.1≠p.1)/\∃ps,s.heap.get? p.1=some {cls:=.none,data:=.fields ps}/\TabOk X.tq H ps
section
variable{X:Cx}{hV:hZ}{σ:List (Option V)}{H H':Hp}{s:zAD}{h':Heap}
def Cx.Ok.nofr(ok:X.Ok)(e:X.base.get? b=some o):b∉X.fs:=λ hb=>by
 have:=(ok.funs.mem hb).1
 rw[e]at this;cases this
theorem Inv.bs(I:Inv X hV σ H s):∀b o,X.base.get? b=some o->s.heap.get? b=some o/\H b=none:=λ b o e=>
 ⟨I.base.keep b o (I.ok.bs b o e).1 (I.ok.bs b o e).2 (I.ok.nofr e) (I.ok.noex b o e),I.base.free b o (I.ok.bs b o e).1 (I.ok.bs b o e).2 (I.ok.noex b o e)⟩
def Inv.bk(I:Inv X hV σ H s):∀b o,X.base.get? b=some o->s.heap.get? b=some o:=λ b o e=>(I.bs b o e).1
theorem Inv.mod(I:Inv X hV σ H s):Mod X.K X.mg X.base:=I.ok.mod
def Inv.kIn(I:Inv X hV σ H s):X.K.In s.heap:=I.ok.mod.kin.keeps I.bk
def Inv.fr(I:Inv X hV σ H s):∃m,Fr X.base X.env.locals s.heap m:=
 let⟨m,hn,_⟩:=I.loc
 ⟨m,hn,I.bk,zAf I.ok.bsz I.ok.above⟩
theorem Inv.lt(I:Inv X hV σ H s):X.env.locals<s.heap.objs.size:=let⟨_,hn,_⟩:=I.loc;hn.lt
def Inv.sz(I:Inv X hV σ H s):X.z5.heap.objs.size<=s.heap.objs.size:=zAf I.ok.above (zBf I.lt)
def Inv.nofs(I:Inv X hV σ H s)(h:s.heap.objs.size<=a):a∉X.fs:=λ hb=>by
 obtain⟨_,o,ho,_⟩:=I.ok.funs.mem hb;exact absurd (zA2 (zA0 ho) (zAf I.sz h)) (zBT _)
def Inv.cne(I:Inv X hV σ H s):∀x c,X.env.cells.lookup x=some c->c≠X.env.locals:=λ x c e z=>by
 obtain⟨v,o,ho,hd⟩:=I.cell x c e;obtain⟨m,⟨o',es,ep,ho',hd',_⟩,_⟩:=I.loc;rw[z,ho']at ho;cases ho;rw[hd']at hd;cases hd
theorem Inv.funs(I:Inv X hV σ H s):s.heap.FunFrames X.base X.outer:=by
 have all:∀(l:List Env),(∀b∈frs l,b∈X.fs)->X.z5.heap.FunFrames X.base l->s.heap.FunFrames X.base l:=by
  intro l;induction l with
  |nil=>intro _ _;trivial
  |cons env r ih=>
   intro hs hl;obtain⟨hk,⟨L,o,hf,hn,ho,hd⟩,hr⟩:=hl;have hL:L∈X.fs:=hs L (by unfold frs;rw[zBv,hf];exact zAE);obtain⟨sl,e⟩:=I.base.slot L o ho (I.ok.frf L hL) hL λ z=>I.ok.exfs L z hL
   exact⟨hk,⟨L,_,hf,hn,e,hd⟩,ih (λ b hb=>hs b (by unfold frs;rw[zBv,hf];exact zAB _ hb)) hr⟩
 exact all X.outer (λ _ hb=>hb) I.ok.funs
theorem Inv.stack(I:Inv X hV σ H s):s.heap.FunFrames X.base X.stack:=by
 rcases I.ok.stk with e|⟨e,hf⟩
 .rw[e];exact I.funs
 .rw[e]
  obtain⟨m,hn,_⟩:=I.loc;refine .cons (by rw[I.ok.kind];decide) hf hn ?_ I.funs;exact Heap.get?_none_of_le (zAf I.ok.bsz I.ok.above)
def Inv.stkSub(I:Inv X hV σ H s):∀b∈frs X.stack,b∈X.env.locals::X.fs:=λ b hb=>by
 rcases I.ok.stk with e|⟨e,hf⟩
 .rw[e]at hb;exact zAB _ hb
 .rw[e]at hb
  unfold frs at hb;rw[zBv,hf]at hb;exact hb
def Inv.stkFree(I:Inv X hV σ H s):∀b∈frs X.stack,H b=none:=λ b hb=>by
 rcases zAQ.mp (I.stkSub b hb)with e|hb
 .rw[e];exact I.free
 .obtain⟨_,o,ho,_⟩:=I.ok.funs.mem hb
  exact I.base.free b o ho (I.ok.frf b hb) λ z=>I.ok.exfs b z hb
def Inv.step{g':Array zC1}{t':Nat}{d':Drawn}{ch:List Addr}(I:Inv X hV σ H s)
  (hch:∀b∈ch,(b∈X.ex\/X.z5.heap.objs.size<=b)/\b≠X.env.locals/\(∀x c,X.env.cells.lookup x=some c->c≠b)/\∀p∈X.ta++(X.pn++hV),p.1≠b)
  (keep:∀b o,b≠X.env.locals->b∉X.fs->b∉ch->s.heap.get? b=some o->H b=none->h'.get? b=some o)
  (slot:∀b o,b≠X.env.locals->b∈X.fs->b∉ch->s.heap.get? b=some o->H b=none->∃sl,h'.get? b=some {o with slots:=sl})(free:∀b o,b∉ch->s.heap.get? b=some o->H b=none->H' b=none)
  (there:∀b o,b∉ch->s.heap.get? b=some o->∃o',h'.get? b=some o')
  (tups:∀b xs,H b=some (.tup xs)->H' b=some (.tup xs))(frzs:∀b o u,H b=some (.frz o u)->H' b=some (.frz o u))(tbls:∀b q,H b=some (.tbl q)->H' b=some (.tbl q))
  (ns:∀m,s.heap.Ns X.env.locals m->h'.Ns X.env.locals m)(hok:HOk X.prog X.w H' h')(hg:zEK g'):
  Inv X hV σ H' {s with heap:=h',gens:=g',drawn:=d',toks:=t'}:=by
 have neL:∀b o,X.z5.heap.get? b=some o->b≠X.env.locals:=λ b o e=>zAd (zA2 (zA0 e) I.ok.above)
 have neC:∀b o,X.z5.heap.get? b=some o->b∉X.ex->b∉ch:=λ b o e hx hb=>by
  rcases(hch b hb).1 with z|z
  .exact hx z
  .exact absurd (zA2 (zA0 e) z) (zBT _)
 have b5:∀x c,X.env.cells.lookup x=some c->∀v,s.heap.IsCell c v->h'.IsCell c v:=λ x c e v ⟨o,ho,hd⟩=>by
  have nch:c∉ch:=λ z=>(hch c z).2.2.1 x c e rfl
  by_cases hc:c∈X.fs
  .obtain⟨sl,q⟩:=slot c o (I.cne x c e) hc nch ho (I.freeC x c e)
   exact⟨_,q,hd⟩
  .exact⟨o,keep c o (I.cne x c e) hc nch ho (I.freeC x c e),hd⟩
 refine⟨I.ok,I.os,hg,⟨λ b o e n hb hx=>?_,λ b o e n hb hx=>?_,λ b o e n hx=>?_,λ b o e hx=>?_,λ b xs e=>tups b xs (I.base.tups b xs e),λ b o xs e=>frzs b o xs (I.base.frzs b o xs e),λ b q e=>tbls b q (I.base.tbls b q e)⟩,?_,λ x c e=>?_,?_,λ x c e=>?_,λ p hp=>?_,hok,I.len,λ p hp=>?_⟩
 .exact keep b o (neL b o e) hb (neC b o e hx) (I.base.keep b o e n hb hx) (I.base.free b o e n hx)
 .obtain⟨sl,e1⟩:=I.base.slot b o e n hb hx
  obtain⟨sl',e2⟩:=slot b _ (neL b o e) hb (neC b o e hx) e1 (I.base.free b o e n hx);exact⟨sl',e2⟩
 .obtain⟨o',e1⟩:=I.base.there b o e hx
  exact free b o' (neC b o e hx) e1 (I.base.free b o e n hx)
 .obtain⟨o',e1⟩:=I.base.there b o e hx
  exact there b o' (neC b o e hx) e1
 .obtain⟨m,hn,hl⟩:=I.loc
  refine⟨m,ns m hn,λ i x v e1 e2 e3=>?_⟩;obtain⟨u,r,l⟩:=hl i x v e1 e2 e3;refine⟨u,r,?_⟩;rcases l with l|⟨k,c,e,z⟩
  .exact .inl l
  .exact .inr ⟨k,c,e,b5 x c e _ z⟩
 .obtain⟨v,z⟩:=I.cell x c e
  exact⟨v,b5 x c e v z⟩
 .obtain⟨m,⟨o,_,_,ho,_⟩,_⟩:=I.loc
  exact free _ o (λ z=>(hch _ z).2.1 rfl) ho I.free
 .obtain⟨v,o,ho,hd⟩:=I.cell x c e
  exact free c o (λ z=>(hch c z).2.2.1 x c e rfl) ho (I.freeC x c e)
 .obtain⟨e,n,ne,nf,d⟩:=I.pin p hp
  have nch:p.1∉ch:=λ z=>(hch p.1 z).2.2.2 p (zA1 _ hp) rfl
  exact⟨keep p.1 p.2 ne nf nch e n,free p.1 p.2 nch e n,ne,nf,d⟩
 .obtain⟨n,ne,nf,np,ps,e,t⟩:=I.tab p hp
  have nch:p.1∉ch:=λ z=>(hch p.1 z).2.2.2 p (zAJ _ hp) rfl
  exact⟨free p.1 _ nch e n,ne,nf,np,ps,keep p.1 _ ne nf nch e n,t.mono frzs⟩
def Inv.pinL(I:Inv X hV σ H s)(hp:p∈X.ta++(X.pn++hV)):p.1<s.heap.objs.size:=by
 rcases zAX.mp hp with z|z
 .obtain⟨_,_,_,_,_,e,_⟩:=I.tab p z
  exact zA0 e
 .exact zA0 (I.pin p z).1
def Inv.un{t':Nat}(I:Inv X hV σ H s)(u:Un X.fs [] H H' s.heap h')(hok:HOk X.prog X.w H' h'):Inv X hV σ H' {s with heap:=h',toks:=t'}:=by
 obtain⟨m,⟨o,es,ep,ho,r⟩,_⟩:=id I.loc;obtain⟨sl,hL⟩:=u.any ho I.free (by simp);exact I.step (g':=s.gens) (d':=s.drawn) (ch:=[]) (λ _ z=>nomatch z) (λ b o _ hb _ e n=>u.keep b o e n hb (by simp)) (λ b o _ hb _ e n=>u.slot b o e n hb (by simp)) (λ b o _ e n=>u.free b o e n (by simp)) (λ b o _ e=>u.there b o e (by simp)) u.tups u.frzs u.tbls (λ m' hm=>by
  obtain⟨o',es',ep',ho',r'⟩:=hm;rw[ho]at ho';cases ho';exact⟨_,es',ep',hL,r'⟩) hok I.bare
def Inv.call{g':Array zC1}{t':Nat}{d':Drawn}{ch:List Addr}(I:Inv X hV σ H s)(u:Un (frs X.stack) ch H H' s.heap h')(hok:HOk X.prog X.w H' h')(hg:zEK g')
  (hch:∀b∈ch,(b∈X.ex\/X.z5.heap.objs.size<=b)/\b≠X.env.locals/\(∀x c,X.env.cells.lookup x=some c->c≠b)/\∀p∈X.ta++(X.pn++hV),p.1≠b):
  Inv X hV σ H' {s with heap:=h',gens:=g',drawn:=d',toks:=t'}:=by
 obtain⟨m,⟨o,es,ep,ho,r⟩,_⟩:=id I.loc;obtain⟨sl,hL⟩:=u.any ho I.free λ z=>(hch _ z).2.1 rfl
 exact I.step (ch:=ch) hch (λ b o hL hb hc e n=>u.keep b o e n (λ z=>(zAQ.mp (I.stkSub b z)).elim hL hb) hc) (λ b o _ _ hc e n=>u.any e n hc) (λ b o hc e n=>u.free b o e n hc) (λ b o hc e=>u.there b o e hc) u.tups u.frzs u.tbls (λ m' hm=>by
  obtain⟨o',es',ep',ho',r'⟩:=hm;rw[ho]at ho';cases ho';exact⟨_,es',ep',hL,r'⟩) hok hg
def Inv.turned{t':Nat}{it:Addr}(I:Inv X hV σ H s)(k:∀b o,b≠it->s.heap.get? b=some o->h'.get? b=some o)(hn:H it=none)(hL:it≠X.env.locals)
  (h1:it∈X.ex\/X.z5.heap.objs.size<=it)(h2:∀x c,X.env.cells.lookup x=some c->c≠it)(h3:∀p∈X.ta++(X.pn++hV),p.1≠it):Inv X hV σ H {s with heap:=h',toks:=t'}:=by
 have nit:∀b u,H b=some u->b≠it:=λ b u e z=>by rw[z,hn]at e;cases e
 refine I.step (g':=s.gens) (d':=s.drawn) (ch:=[it]) (λ b hb=>?_) (λ b o _ _ hc e _=>k b o (λ z=>hc (by simp[z])) e) (λ b o _ _ hc e _=>⟨o.slots,k b o (λ z=>hc (by simp[z])) e⟩) (λ _ _ _ _ n=>n)
  (λ b o hc e=>⟨o,k b o (λ z=>hc (by simp[z])) e⟩) (λ _ _ e=>e) (λ _ _ _ e=>e) (λ _ _ e=>e) (λ m hm=>?_) (λ b u e=>?_) I.bare
 .have e:b=it:=by simpa using hb
  subst e;exact⟨h1,hL,h2,h3⟩
 .obtain⟨o,es,ep,ho,r⟩:=hm
  exact⟨o,es,ep,k _ o (zCX hL) ho,r⟩
 .refine(I.hok b u e).stay (λ c v hc q=>k c v ?_ q) (λ _ q=>q) λ _ _ q=>q
  rcases hc with z|z
  .rw[z];exact nit b u e
  .exact nit c _ z
def Inv.tok(I:Inv X hV σ H s)(t:Nat):Inv X hV σ H {s with toks:=t}:=I.un (h':=s.heap) (t':=t) Un.refl I.hok
theorem Inv.kept(I:Inv X hV σ H s)(k:∀b u,s.heap.get? b=some u->h'.get? b=some u):Inv X hV σ H {s with heap:=h',toks:=t'}:=I.un (Un.kept k) (I.hok.kept k)
theorem Inv.laid(I:Inv X hV σ H s)(k:∀b u,s.heap.get? b=some u->h'.get? b=some u)(hp:s.heap.objs.size<=a)(new:cB X.prog X.w (upd H a o) h' a o):
  Inv X hV σ (upd H a o) {s with heap:=h',toks:=t'}:=I.un (Un.laid k hp (I.hok.fresh hp)) (I.hok.laid k hp new)
theorem Inv.write(I:Inv X hV σ H s)(mu:Mut (H x))(he:e=x\/H e=some (.own x))(k:∀b u,b≠e->s.heap.get? b=some u->h'.get? b=some u)(heo:∃u,h'.get? e=some u)
  (new:cB X.prog X.w (upd H x o) h' x o):Inv X hV σ (upd H x o) {s with heap:=h',toks:=t'}:=I.un (Un.write mu he k heo) (I.hok.write mu he k heo new)
def Inv.weak(I:Inv X hV σ H s)(hl:σ'.length=σ.length)(w:∀(i:Nat) v,σ'[i]? =some (some v)->σ[i]? =some (some v)):Inv X hV σ' H s:=
 ⟨I.ok,I.os,I.bare,I.base,let⟨m,hn,hl'⟩:=I.loc;⟨m,hn,λ i x v e1 e2 e3=>hl' i x v e1 (w i v e2) e3⟩,I.cell,I.free,I.freeC,I.pin,I.hok,hl.trans I.len,I.tab⟩
def Inv.pins_of(I:Inv X hV σ H s)(h:∀p∈pins',s.heap.get? p.1=some p.2/\H p.1=none/\p.1≠X.env.locals/\p.1∉X.fs/\∀v,p.2.data≠.cell v)(h2:∀q∈pins',∀p∈X.ta,q.1≠p.1):Inv X pins' σ H s:=
 ⟨I.ok,I.os,I.bare,I.base,I.loc,I.cell,I.free,I.freeC,λ p hp=>(zAX.mp hp).elim (λ z=>I.pin p (zAJ _ z)) (h p),I.hok,I.len,λ p hp=>let⟨a,b,c,d,e⟩:=I.tab p hp;⟨a,b,c,λ q hq=>(zAX.mp hq).elim (λ z=>d q (zAJ _ z)) (λ z=>h2 q z p hp),e⟩⟩
def z7{N:List Str}(hN:N.Nodup){i j:Nat}{x:Str}(a:N[i]? =some x)(b:N[j]? =some x):i=j:=by
 obtain⟨h1,e1⟩:=zAO.mp a;obtain⟨h2,e2⟩:=zAO.mp b;exact(List.getElem_inj hN).mp (e1.trans e2.symm)
def vY{M:Model}{A:zA8}{E:Value->zAD->Prop}{i:Nat}{x:Str}{v:V}{u:Value}{Q:Unit->zAD->Prop}(I:Inv X hV σ H s)(hN:X.N.Nodup)(hi:X.N[i]? =some x)(hx:Loc X.env.scope x)(r:RelV v u)
  (h:∀s',Inv X hV (σ.set i (some v)) H s'->(∃a,zE5 a s.heap s'.heap/\(a=X.env.locals\/X.env.cells.lookup x=some a))->Q () s')(hf:X.fn x=true\/X.env.scope.names.lookup x=some .local:=by first|exact .inl rfl|exact .inr rfl|assumption):wpAny M A (storeName X.env x u) Q E s:=by
 obtain⟨m,hn,hl⟩:=id I.loc;have hcls:(X.env.scope.kind== .class||(X.env.scope.kind== .module&&X.env.locals !=X.env.globals))=false:=by rw[I.ok.kind];rfl
 have hiσ:i<σ.length:=by rw[I.len];exact(zAO.mp hi).1
 have cne:=I.cne;have yY:∀{a:Addr} {h':Heap},(∃o,s.heap.get? a=some o/\H a=none)->zE5 a s.heap h'->HOk X.prog X.w H h':=λ{a h'} ha hs b ob e=>by
  obtain⟨_,_,hfree⟩:=ha;refine(I.hok b ob e).stay (λ c w' hc q=>(hs.2 c ?_).trans q) (λ _ q=>q) λ _ _ q=>q
  rintro rfl;rcases hc with rfl|hc
  .rw[hfree]at e;cases e
  .rw[hfree]at hc;cases hc
 rcases hx with hk|hk
 .refine wpAny_storeName_local hk hn (λ h' hn' hs=>?_) hcls
  obtain⟨oL,_,_,hoL,_⟩:=id hn;refine h _ ⟨I.ok,I.os,I.bare,⟨λ b o e n hb hx=>?_,λ b o e n hb hx=>?_,I.base.free,λ b o e hx=>?_,I.base.tups,I.base.frzs,I.base.tbls⟩,⟨_,hn',λ j y v' e1 e2 e3=>?_⟩,λ y c e=>?_,I.free,I.freeC,λ p hp=>?_,yY ⟨oL,hoL,I.free⟩ hs,by simpa using I.len,λ p hp=>?_⟩ ⟨_,hs,.inl rfl⟩
  .exact(hs.2 b (zAd (zA2 (zA0 e) I.ok.above))).trans (I.base.keep b o e n hb hx)
  .obtain⟨sl,e1⟩:=I.base.slot b o e n hb hx
   exact⟨sl,(hs.2 b (zAd (zA2 (zA0 e) I.ok.above))).trans e1⟩
  .obtain⟨o',e1⟩:=I.base.there b o e hx
   exact⟨o',(hs.2 b (zAd (zA2 (zA0 e) I.ok.above))).trans e1⟩
  .by_cases hj:j=i
   .subst hj
    rw[hi]at e1;cases e1;rw[zB6 hiσ]at e2;cases e2;exact⟨u,r,.inl ⟨hk,by simp⟩⟩
   .rw[zBH (zCX hj)]at e2
    obtain⟨u',r',q⟩:=hl j y v' e1 e2 e3;refine⟨u',r',?_⟩;rcases q with ⟨k,e⟩|⟨k,c,e,z⟩
    .refine .inl ⟨k,?_⟩
     have:y≠x:=λ e=>hj (z7 hN e1 (e▸hi))
     simp[this,e]
    .exact .inr ⟨k,c,e,z.sameBut hs (cne y c e)⟩
  .obtain⟨w',z⟩:=I.cell y c e
   exact⟨w',z.sameBut hs (cne y c e)⟩
  .obtain⟨e,n,ne,nf,d⟩:=I.pin p hp
   exact⟨(hs.2 p.1 ne).trans e,n,ne,nf,d⟩
  .obtain⟨n,ne,nf,np,ps,e,t⟩:=I.tab p hp
   exact⟨n,ne,nf,np,ps,(hs.2 p.1 ne).trans e,t⟩
 .have hfn:X.fn x=true:=by
   rcases hf with z|z
   .exact z
   .rw[z]at hk;cases hk
  obtain⟨c,hc⟩:=I.ok.has x (.inl hk);obtain⟨w',z⟩:=I.cell x c hc;refine wpAny_storeName_cell I.ok.kind hk hc z (λ h' hc' hs=>?_);obtain⟨oc,hoc,hocd⟩:=id z;refine h {s with heap:=h'} ⟨I.ok,I.os,I.bare,⟨λ b o e n hb hx=>?_,λ b o e n hb hx=>?_,I.base.free,λ b o e hx=>?_,I.base.tups,I.base.frzs,I.base.tbls⟩,⟨m,hn.sameBut hs (zCX (cne x c hc)),λ j y v' e1 e2 e3=>?_⟩,λ y c' e=>?_,I.free,I.freeC,λ p hp=>?_,yY ⟨oc,hoc,I.freeC x c hc⟩ hs,by simpa using I.len,λ p hp=>?_⟩ ⟨c,hs,.inr hc⟩
  .exact(hs.2 b (zAd (zA2 (zA0 e) (I.ok.cab x c hfn hc)))).trans (I.base.keep b o e n hb hx)
  .obtain⟨sl,e1⟩:=I.base.slot b o e n hb hx
   exact⟨sl,(hs.2 b (zAd (zA2 (zA0 e) (I.ok.cab x c hfn hc)))).trans e1⟩
  .obtain⟨o',e1⟩:=I.base.there b o e hx
   exact⟨o',(hs.2 b (zAd (zA2 (zA0 e) (I.ok.cab x c hfn hc)))).trans e1⟩
  .by_cases hj:j=i
   .subst hj
    rw[hi]at e1;cases e1;rw[zB6 hiσ]at e2;cases e2;exact⟨u,r,.inr ⟨.inl hk,c,hc,hc'⟩⟩
   .rw[zBH (zCX hj)]at e2
    obtain⟨u',r',q⟩:=hl j y v' e1 e2 e3;refine⟨u',r',?_⟩;rcases q with q|⟨k,c',e,z'⟩
    .exact .inl q
    .refine .inr ⟨k,c',e,z'.sameBut hs ?_⟩
     rintro rfl;exact hj (z7 hN e1 (I.ok.inj _ _ _ e hc▸hi))
  .by_cases hcc:c'=c
   .subst hcc;exact⟨_,hc'⟩
   .obtain⟨w2,z2⟩:=I.cell y c' e
    exact⟨w2,z2.sameBut hs hcc⟩
  .obtain⟨e,n,ne,nf,d⟩:=I.pin p hp
   refine⟨(hs.2 p.1 ?_).trans e,n,ne,nf,d⟩;intro q;rw[q,hoc]at e;have q':oc=p.2:=zAg e;exact d w' (by rw[<-q'];exact hocd)
  .obtain⟨n,ne,nf,np,ps,e,t⟩:=I.tab p hp
   refine⟨n,ne,nf,np,ps,(hs.2 p.1 ?_).trans e,t⟩;intro q;rw[q,hoc]at e;rw[zAg e]at hocd;cases hocd
def sr(I:Inv X hV σ H s)(hN:X.N.Nodup)(hi:X.N[i]? =some x)(hx:Loc X.env.scope x)(r:RelV v u)
  (h:∀s',Inv X hV (σ.set i (some v)) H s'->Q () s')(hf:X.fn x=true\/X.env.scope.names.lookup x=some .local:=by first|exact .inl rfl|exact .inr rfl|assumption):wpAny M A (storeName X.env x u) Q E s:=
 vY I hN hi hx r (λ s' I' _=>h s' I') hf
def Inv.call'(I:Inv X hV σ H s)(ho:s'.os=s.os)(u:Un (frs X.stack) ch H H' s.heap s'.heap)(hok:HOk X.prog X.w H' s'.heap)(hg:zEK s'.gens)
  (hch:∀b∈ch,(b∈X.ex\/X.z5.heap.objs.size<=b)/\b≠X.env.locals/\(∀x c,X.env.cells.lookup x=some c->c≠b)/\∀p∈X.ta++(X.pn++hV),p.1≠b):Inv X hV σ H' s':=by
 obtain⟨h',g',d',t',o'⟩:=s';have e:o'=s.os:=ho;subst e;exact I.call (g':=g') (t':=t') (d':=d') u hok hg hch
end
abbrev XK:=Value->Option Addr->Hp->Prop
abbrev St:=List (Option V)
abbrev VK:=V->Hp->Prop
abbrev TE:=St->Hp->VK->Prop
abbrev TT:=St->Hp->(Bool->Hp->Prop)->Prop
abbrev TA:=St->Hp->(List V->Hp->Prop)->Prop
structure Ends where
 nx:St->Hp->Prop
 rt:VK
 bk:St->Hp->Prop:=λ _ _=>False
 ct:St->Hp->Prop:=λ _ _=>False
abbrev TS:=Ends->St->Hp->Prop
def EP(X:Cx)(hV:hZ)(σ:St)(Q:VK)(u:Value)(s':zAD):Prop:=∃v H',Inv X hV σ H' s'/\RelV v u/\Q v H'
def TP(X:Cx)(hV:hZ)(σ:St)(Q:Bool->Hp->Prop)(b:Bool)(s':zAD):Prop:=∃H',Inv X hV σ H' s'/\Q b H'
def AP(X:Cx)(hV:hZ)(σ:St)(Q:List V->Hp->Prop)(us:List Value)(s':zAD):Prop:=∃vs H',Inv X hV σ H' s'/\Vals vs us/\Q vs H'
def SP(X:Cx)(hV:hZ)(D:Ends)(f:Flow)(s':zAD):Prop:=
 match f with
 | .next=>∃σ' H',Inv X hV σ' H' s'/\D.nx σ' H'
 | .brk=>∃σ' H',Inv X hV σ' H' s'/\D.bk σ' H'
 | .cont=>∃σ' H',Inv X hV σ' H' s'/\D.ct σ' H'
 | .ret u=>∃v σ' H',Inv X hV σ' H' s'/\RelV v u/\D.rt v H'
def PE(X:Cx)(e:Expr)(t:TE):Prop:=
 ∀(hV:hZ) (s:zAD) (σ:St) (H:Hp) (Q:VK),Inv X hV σ H s->t σ H Q->wpAny (model X.prog X.w) X.A (eval e X.env) (EP X hV σ Q) X.xe s
def PT(X:Cx)(e:Expr)(t:TT):Prop:=
 ∀(hV:hZ) (s:zAD) (σ:St) (H:Hp) (Q:Bool->Hp->Prop),Inv X hV σ H s->t σ H Q->wpAny (model X.prog X.w) X.A (isTrue e X.env (eval e X.env)) (TP X hV σ Q) X.xe s
def PW(X:Cx)(e:Expr)(t:TT):Prop:=
 ∀(whole:Sem Value) (hV:hZ) (s:zAD) (σ:St) (H:Hp) (Q:Bool->Hp->Prop),Inv X hV σ H s->t σ H Q->wpAny (model X.prog X.w) X.A (isTrue e X.env whole) (TP X hV σ Q) X.xe s
def PW.pt(h:PW X e t):PT X e t:=h _
def PA(X:Cx)(es:List Expr)(t:TA):Prop:=
 ∀(pos:Pos) (hV:hZ) (s:zAD) (σ:St) (H:Hp) (Q:List V->Hp->Prop),Inv X hV σ H s->t σ H Q->wpAny (model X.prog X.w) X.A (spliced (zBp pos (zAW es X.env))) (AP X hV σ Q) X.xe s
def PS(X:Cx)(st:Stmt)(t:TS):Prop:=
 ∀(hV:hZ) (s:zAD) (σ:St) (H:Hp) (D:Ends),Inv X hV σ H s->t D σ H->wpAny (model X.prog X.w) X.A (exec st X.env) (SP X hV D) X.xe s
def PSs(X:Cx)(st:List Stmt)(t:TS):Prop:=
 ∀(hV:hZ) (s:zAD) (σ:St) (H:Hp) (D:Ends),Inv X hV σ H s->t D σ H->wpAny (model X.prog X.w) X.A (execs st X.env) (SP X hV D) X.xe s
def thn(h:wpAny M A t Q E s)(hQ:∀a s,Q a s->Q' a s):wpAny M A t Q' E s:=zBa h hQ λ _ _ x=>x
section
variable{X:Cx}
def m7(i:Nat):TE:=λ σ H Q=>∃v,σ[i]? =some (some v)/\Q v H
def tC(v:V):TE:=λ _ H Q=>Q v H
abbrev _root_.Nd(x:PySem.Str):Prop:=(x==("__debug__":PySem.Str))=false
def eF(hN:X.N[i]? =some x)(hv:Vis X.env.scope x)(hd:Nd x:=by decide)(hcd:(x==("__classdict__":Str))=false:=by decide):PE X (.Name x pos) (m7 i):=by
 intro hV s σ H Q I h;obtain⟨v,e,h⟩:=h;obtain⟨m,hn,hl⟩:=I.loc;obtain⟨u,r,l⟩:=hl i x v hN e hv;have fin:EP X hV σ Q u s:=⟨v,H,I,r,h⟩;rcases l with ⟨hk,hm⟩|⟨hk,c,hc,hcell⟩
 .exact zHr (zHR I.ok.kind hk hn hm fin) hd
 .rcases hk with hk|hk
  .exact zHr (zH5 I.ok.kind hk hc hcell fin) hd
  .exact zHr (wpAny_loadName_free I.ok.kind hk hc hcell fin hcd) hd
def aEU{i j pos}:PE X (.Constant (.int i) j pos) (tC (.int i)):=λ _ _ _ H _ I h=>wpAny_Constant_int ⟨.int i,H,I.tok _,⟨_,rfl⟩,h⟩
def aKo{b j pos}:PE X (.Constant (.bool b) j pos) (tC (.bl b)):=λ _ _ _ H _ I h=>Constant_bool ⟨.bl b,H,I,rfl,h⟩
def aJL{j pos}:PE X (.Constant .none j pos) (tC .non):=λ _ _ _ H _ I h=>Constant_none ⟨.non,H,I,rfl,h⟩
def aJI{x j pos}:PE X (.Constant (.str x) j pos) (tC (.str x)):=λ _ _ _ H _ I h=>Calls.Constant_str ⟨.str x,H,I.tok _,⟨_,rfl⟩,h⟩
def Gl(X:Cx)(x:Str):Prop:=X.env.kindOf x=some .globalImplicit
def xr(I:Inv X hV σ H s)(hg:Gl X x)(hm:X.mg x=some u)(h:Q u s)
  (hd:Nd x:=by decide):wpAny (model X.prog X.w) X.A (eval (.Name x pos) X.env) Q E s:=
 zEn I.ok.kind hg (Calls.loadGlobal_global (by rw[I.ok.glob];exact I.mod.glob.keeps I.bk) hm h) hd
def qH(I:Inv X hV σ H s)(hg:Gl X x)(hm:X.mg x=none)(hv:zAq x=some u)(h:Q u s)
  (hn:x≠"__name__":=by decide)(hd:Nd x:=by decide):wpAny (model X.prog X.w) X.A (eval (.Name x pos) X.env) Q E s:=by
 obtain⟨mb,h1,h2⟩:=I.mod.blt;exact zEn I.ok.kind hg (Calls.loadGlobal_builtin (by rw[I.ok.glob];exact I.mod.glob.keeps I.bk) hm (by rw[I.ok.blt];exact h1.keeps I.bk) ((h2 x hn).trans hv) h) hd
def aGY(hg:Gl X x)(hm:X.mg x=some u)(r:RelV v u)(hd:Nd x:=by decide):PE X (.Name x pos) (tC v):=
 λ _ _ _ H _ I h=>xr I hg hm ⟨v,H,I,r,h⟩ hd
def aG4(hg:Gl X x)(hm:X.mg x=none)(hv:zAq x=some u)(r:RelV v u)(hn:x≠"__name__":=by decide)(hd:Nd x:=by decide):PE X (.Name x pos) (tC v):=
 λ _ _ _ H _ I h=>qH I hg hm hv ⟨v,H,I,r,h⟩ hn hd
variable{a b:Expr}{ta tb:TE}{pos:Pos}
variable{tA tB':TT}{rest:List Expr}
def aLa(t u:TT):TT:=λ σ H Q=>t σ H λ c H1=>if c=true then u σ H1 Q else Q false H1
def tOr(t u:TT):TT:=λ σ H Q=>t σ H λ c H1=>if c=true then Q true H1 else u σ H1 Q
def aL5(t:TT):TT:=λ σ H Q=>t σ H λ c H1=>Q (!c) H1
def aGP(ha:PT X a tA):PW X (.BoolOp .And [a] pos) tA:=by
 intro wh hV s σ H Q I h;refine isTrue_and (thn (ha hV s σ H Q I h) λ c s1 e=>?_);cases c with
 |true=>exact isTrue_and_nil e
 |false=>exact e
def aIu(ha:PT X a tA):PW X (.BoolOp .Or [a] pos) tA:=by
 intro wh hV s σ H Q I h;refine isTrue_or (thn (ha hV s σ H Q I h) λ c s1 e=>?_);cases c with
 |false=>exact isTrue_or_nil e
 |true=>exact e
def aIv(ha:PT X a tA)(hb:PW X (.BoolOp .And (b::rest) pos) tB'):PW X (.BoolOp .And (a::b::rest) pos) (aLa tA tB'):=by
 intro wh hV s σ H Q I h;refine isTrue_and (thn (ha hV s σ H _ I h) λ c s1 ⟨H1,I1,q1⟩=>?_);cases c with
 |true=>exact hb wh hV s1 σ H1 Q I1 q1
 |false=>exact⟨H1,I1,q1⟩
def aKj(ha:PT X a tA)(hb:PW X (.BoolOp .Or (b::rest) pos) tB'):PW X (.BoolOp .Or (a::b::rest) pos) (tOr tA tB'):=by
 intro wh hV s σ H Q I h;refine isTrue_or (thn (ha hV s σ H _ I h) λ c s1 ⟨H1,I1,q1⟩=>?_);cases c with
 |true=>exact⟨H1,I1,q1⟩
 |false=>exact hb wh hV s1 σ H1 Q I1 q1
def aIx(ha:PT X a tA):PT X (.UnaryOp .Not a pos) (aL5 tA):=by
 intro hV s σ H Q I h;exact isTrue_not (ha hV s σ H (λ c H1=>Q (!c) H1) I h)
def aK4(ta tb:TE):TE:=λ σ H Q=>ta σ H λ x H1=>∃c,x= .bl c/\if c=true then tb σ H1 Q else Q (.bl false) H1
def aL4(ta tb:TE):TE:=λ σ H Q=>ta σ H λ x H1=>∃c,x= .bl c/\if c=true then Q (.bl true) H1 else tb σ H1 Q
def aKZ(ta:TE):TE:=λ σ H Q=>ta σ H λ x H1=>∃c,x= .bl c/\Q (.bl (!c)) H1
def aJJ{op}(h:PE X a t):PE X (.BoolOp op [a] pos) t:=λ hV s σ H Q I hw=>BoolOp_one (h hV s σ H Q I hw)
def aJN(ha:PE X a ta)(hb:PE X (.BoolOp .And (b::rest) pos) tb):PE X (.BoolOp .And (a::b::rest) pos) (aK4 ta tb):=by
 intro hV s σ H Q I h;refine BoolOp_and (thn (ha hV s σ H _ I h) λ v s1 ⟨x,H1,I1,r1,q1⟩=>?_);obtain⟨c,rfl,q1⟩:=q1;cases r1;refine zCB ?_;cases c with
 |true=>exact hb hV s1 σ H1 Q I1 q1
 |false=>exact⟨.bl false,H1,I1,rfl,q1⟩
def aKl(ha:PE X a ta)(hb:PE X (.BoolOp .Or (b::rest) pos) tb):PE X (.BoolOp .Or (a::b::rest) pos) (aL4 ta tb):=by
 intro hV s σ H Q I h;refine BoolOp_or (thn (ha hV s σ H _ I h) λ v s1 ⟨x,H1,I1,r1,q1⟩=>?_);obtain⟨c,rfl,q1⟩:=q1;cases r1;refine zCB ?_;cases c with
 |false=>exact hb hV s1 σ H1 Q I1 q1
 |true=>exact⟨.bl true,H1,I1,rfl,q1⟩
def aJK(ha:PE X a ta):PE X (.UnaryOp .Not a pos) (aKZ ta):=by
 intro hV s σ H Q I h;refine UnaryOp_ (thn (ha hV s σ H _ I h) λ v s1 ⟨x,H1,I1,r1,q1⟩=>?_);obtain⟨c,rfl,q1⟩:=q1;cases r1;exact not_of (zCB ⟨.bl (!c),H1,I1,rfl,q1⟩)
def tIf(t:TT)(ta tb:TE):TE:=λ σ H Q=>t σ H λ c H1=>if c=true then ta σ H1 Q else tb σ H1 Q
def aEV(hc:PT X c tA)(ha:PE X a ta)(hb:PE X b tb):PE X (.IfExp c a b pos) (tIf tA ta tb):=by
 intro hV s σ H Q I h;refine wpAny_IfExp (thn (hc hV s σ H _ I h) λ d s1 ⟨H1,I1,q1⟩=>?_);cases d with
 |true=>exact ha hV s1 σ H1 Q I1 q1
 |false=>exact hb hV s1 σ H1 Q I1 q1
end
def SqL(K:zAA)(H:Hp)(a:Addr)(xs:List V):Prop:=
 Rd H a (.lst xs)\/
  ∃(o:Obj) (its:Array Value) (n:Nat),K.lookup a=some o/\o.cls= .type "list"/\o.dict=none/\o.data= .seq its n/\its.size<=zAR/\Vals xs its.toList
def SqT(K:zAA)(H:Hp)(a:Addr)(xs:List V):Prop:=
 Rd H a (.tup xs)\/
  ∃(o:Obj) (its:Array Value) (n:Nat),K.lookup a=some o/\o.cls= .type "tuple"/\o.dict=none/\o.data= .seq its n/\its.size<=zAR/\Vals xs its.toList
def aLj:Value->Option V
 | .none=>some .non
 | .bool b=>some (.bl b)
 | .int i _=>some (.int i)
 | .str x _=>some (.str x)
 | .bytes b _=>some (.byt b)
 | .float b _=>some (.flt b)
 | .ref a=>some (.ref a)
 | .type n=>some (.ty n)
 |_=>none
def RelV.abs(r:RelV x u):aLj u=some x:=by
 cases x with
 |non=>cases r;rfl
 |bl _=>cases r;rfl
 |int _=>obtain⟨t,rfl⟩:=r;rfl
 |str _=>obtain⟨t,rfl⟩:=r;rfl
 |byt _=>obtain⟨t,rfl⟩:=r;rfl
 |flt _=>obtain⟨t,rfl⟩:=r;rfl
 |ref _=>cases r;rfl
 |ty _=>cases r;rfl
def RelV.inj(r:RelV x u)(q:RelV y u):x=y:=zAg (r.abs.symm.trans q.abs)
theorem Vals.inj:∀{xs ys:List V} {us:List Value},Vals xs us->Vals ys us->xs=ys
 |_,_,_,.nil,.nil=>rfl
 |_,_,_,.cons r t,.cons r' t'=>by rw[r.inj r',Vals.inj t t']
section
variable{X:Cx}{hV:hZ}{σ:St}{H:Hp}{s:zAD}{a:Addr}{xs ys:List V}
def SqL.of{K:zAA}(h:H a=some (.lst xs)):SqL K H a xs:=.inl (.inl h)
def SqT.of{K:zAA}(h:H a=some (.tup xs)):SqT K H a xs:=.inl (.inl h)
def Inv.list(I:Inv X hV σ H s)(h:SqL X.K H a xs):∃its:List Value,Vals xs its/\PlainL s.heap a its.toArray/\xs.length<=zAR:=by
 rcases h with h|⟨o,its,n,hk,hc,hd,hs,hz,r⟩
 .obtain⟨z,its,n,r,e⟩:=h.ok I.hok
  exact⟨its,r,⟨_,n,e,rfl,rfl,rfl⟩,z⟩
 .refine⟨its.toList,r,⟨o,n,I.kIn a o hk,hc,hd,by simpa using hs⟩,?_⟩
  have e:=r.length;simp only[zBq]at e;lia
def Inv.tuple(I:Inv X hV σ H s)(h:SqT X.K H a xs):∃its:List Value,Vals xs its/\IsTup s.heap a its.toArray/\xs.length<=zAR:=by
 rcases h with h|⟨o,its,n,hk,hc,hd,hs,hz,r⟩
 .obtain⟨z,its,r,p⟩:=h.ok I.hok
  exact⟨its,r,p,z.1⟩
 .refine⟨its.toList,r,⟨o,I.kIn a o hk,hc,n,by simpa using hs⟩,?_⟩
  have e:=r.length;simp only[zBq]at e;lia
def Inv.list_inj(I:Inv X hV σ H s)(h:SqL X.K H a xs)(h':SqL X.K H a ys):xs=ys:=by
 obtain⟨its,r,⟨o,n,e,_,_,d⟩,_⟩:=I.list h;obtain⟨its',r',⟨o',n',e',_,_,d'⟩,_⟩:=I.list h';rw[e]at e';cases e';rw[d]at d';injection d' with d1 _
 have:its=its':=by simpa using congrArg zH6 d1
 subst this;exact r.inj r'
def Inv.tuple_inj(I:Inv X hV σ H s)(h:SqT X.K H a xs)(h':SqT X.K H a ys):xs=ys:=by
 obtain⟨its,r,⟨o,e,_,n,d⟩,_⟩:=I.tuple h;obtain⟨its',r',⟨o',e',_,n',d'⟩,_⟩:=I.tuple h';rw[e]at e';cases e';rw[d]at d';injection d' with d1 _
 have:its=its':=by simpa using congrArg zH6 d1
 subst this;exact r.inj r'
end
section
variable{X:Cx}{st:Stmt}{rest:List Stmt}{t u:TS}{e:Expr}{te:TE}{pos:Pos}
def aK0:TS:=λ D σ H=>D.nx σ H
def aL2(t u:TS):TS:=λ D σ H=>t {D with nx:=u D} σ H
def aBw:PSs X [] aK0:=λ _ _ σ H _ I h=>zES ⟨σ,H,I,h⟩
def zT(h1:PS X st t)(h2:PSs X rest u):PSs X (st::rest) (aL2 t u):=by
 intro hV s σ H D I h;refine wpAny_execs_cons (thn (h1 hV s σ H {D with nx:=u D} I h) λ f s1 q=>?_);cases f with
 |next=>
  obtain⟨σ',H',I',q⟩:=q;exact h2 hV s1 σ' H' D I' q
 |ret v=>exact q
 |brk=>exact q
 |cont=>exact q
def aBv(h1:PS X st t):PSs X [st] t:=by
 intro hV s σ H D I h;refine wpAny_execs_cons (thn (h1 hV s σ H D I h) λ f s1 q=>?_);cases f with
 |next=>exact zES q
 |ret v=>exact q
 |brk=>exact q
 |cont=>exact q
def Inv.quiet(I:Inv X hV σ H s):interactive X.env=false:=by simp[interactive,I.ok.kind]
def sY(te:TE):TS:=λ D σ H=>te σ H λ _ H1=>D.nx σ H1
def jk(he:PE X e te)(hs:zBl e none pos.line X.env=pure false:=by rfl):PS X (.Expr e pos) (sY te):=by
 intro hV s σ H D I h;exact wpAny_Expr_any (thn (he hV s σ H _ I h) λ v s1 ⟨x,H1,I1,r1,q1⟩=>⟨σ,H1,I1,q1⟩) I.quiet hs
def aL3(te:TE):TS:=λ D σ H=>te σ H D.rt
def aIy(he:PE X e te):PS X (.Return (some e) pos) (aL3 te):=by
 intro hV s σ H D I h;exact wpAny_Return_some (thn (he hV s σ H _ I h) λ v s1 ⟨x,H1,I1,r1,q1⟩=>⟨x,σ,H1,I1,r1,q1⟩)
def aL8(c:TT)(t u:TS):TS:=λ D σ H=>c σ H λ b H1=>if b=true then t D σ H1 else u D σ H1
def aIG(hc:PT X c tc)(ha:PSs X a t)(hb:PSs X b u):PS X (.If c a b pos) (aL8 tc t u):=by
 intro hV s σ H D I h;refine wpAny_If (thn (hc hV s σ H _ I h) λ d s1 ⟨H1,I1,q1⟩=>?_);cases d with
 |true=>exact ha hV s1 σ H1 D I1 q1
 |false=>exact hb hV s1 σ H1 D I1 q1
end
abbrev TG:=V->St->Hp->(St->Hp->Prop)->Prop
abbrev TGs:=List V->St->Hp->(St->Hp->Prop)->Prop
def PG(X:Cx)(target:Expr)(t:TG):Prop:=
 ∀(hV:hZ) (s:zAD) (σ:St) (H:Hp) (v:V) (u:Value) (Q:St->Hp->Prop),Inv X hV σ H s->RelV v u->t v σ H Q->
  wpAny (model X.prog X.w) X.A (zDw target X.env u) (λ _ s'=>∃σ' H',Inv X hV σ' H' s'/\Q σ' H') X.xe s
def PGs(X:Cx)(ts:List Expr)(t:TGs):Prop:=
 ∀(hV:hZ) (s:zAD) (σ:St) (H:Hp) (vs:List V) (us:List Value) (Q:St->Hp->Prop),Inv X hV σ H s->Vals vs us->t vs σ H Q->
  wpAny (model X.prog X.w) X.A (assignInOrder ((zBV ts X.env).map (·.2)) us) (λ _ s'=>∃σ' H',Inv X hV σ' H' s'/\Q σ' H') X.xe s
abbrev aLO:=V->V->V->Hp->(Hp->Prop)->Prop
def aLT(X:Cx)(t:aLO):Prop:=
 ∀(hV:hZ) (s:zAD) (σ:St) (H:Hp) (o i v:V) (ov iv u:Value) (Q:Hp->Prop),Inv X hV σ H s->RelV o ov->RelV i iv->RelV v u->t o i v H Q->
  wpAny (model X.prog X.w) X.A (setItem ov iv u) (λ _ s'=>∃H',Inv X hV σ H' s'/\Q H') X.xe s
abbrev TIp:=V->V->Hp->VK->Prop
def PIp(X:Cx)(op:Operator)(t:TIp):Prop:=
 ∀(hV:hZ) (s:zAD) (σ:St) (H:Hp) (x y:V) (v u:Value) (Q:VK),Inv X hV σ H s->RelV x v->RelV y u->t x y H Q->
  wpAny (model X.prog X.w) X.A (inplaceOp op v u) (EP X hV σ Q) X.xe s
section
variable{X:Cx}{pos:Pos}
def qj(i:Nat):TG:=λ v σ H Q=>Q (σ.set i (some v)) H
def aGV(hN:X.N.Nodup)(hi:X.N[i]? =some x)(hx:Loc X.env.scope x)(hf:X.fn x=true\/X.env.scope.names.lookup x=some .local:=by first|exact .inl rfl|exact .inr rfl|assumption):PG X (.Name x pos) (qj i):=by
 intro hV s σ H v u Q I r h;exact zHs (sr I hN hi hx r (λ s' I'=>⟨_,H,I',h⟩) hf)
def aJt:TGs:=λ vs σ H Q=>vs=[]/\Q σ H
def aFO(t:TG)(u:TGs):TGs:=λ vs σ H Q=>∃v r,vs=v::r/\t v σ H λ σ' H'=>u r σ' H' Q
def aGU:PGs X [] aJt:=by
 intro hV s σ H vs us Q I r h;obtain⟨e,h⟩:=h;subst e;cases r;exact assignInOrder_nil ⟨σ,H,I,h⟩
def aET(h1:PG X e t)(h2:PGs X es u)
  (hs:(zBV (e::es) X.env).map (·.2)=zDw e X.env::(zBV es X.env).map (·.2):=by rfl):PGs X (e::es) (aFO t u):=by
 intro hV s σ H vs us Q I r h;obtain⟨v,vr,e1,h⟩:=h;subst e1;cases r with
 |cons r rr=>
  rw[hs];refine assignInOrder_cons (thn (h1 hV s σ H _ _ _ I r h) λ _ s1 ⟨σ1,H1,I1,q1⟩=>?_);exact h2 hV s1 σ1 H1 _ _ Q I1 rr q1
def aHR(K:zAA)(n:Nat)(t:TGs):TG:=λ v σ H Q=>∃a xs,v= .ref a/\SqT K H a xs/\xs.length=n/\t xs σ H Q
def aJC(hc:X.calm=true)(h:PGs X es t)
  (hn:(zBV es X.env).length=n:=by rfl)(hst:(zBV es X.env).findIdx? (·.1)=none:=by rfl):PG X (.Tuple es k pos) (aHR X.K n t):=by
 intro hV s σ H v u Q I r hw;obtain⟨a,xs,e1,hq,hl,hw⟩:=hw;subst e1;cases r;obtain⟨its,rv,ht,hz⟩:=I.tuple hq;refine assign_Tuple_tuple (I.ok.hd hc) ht (by simp[hn,<-hl,rv.length]) hst λ h' hx=>?_
 have I1:Inv X hV σ H {s with heap:=h'}:=I.kept (t':=s.toks) λ b o e=>hx b o (zAd (zA0 e)) e
 exact h hV _ σ H xs _ Q I1 (by simpa using rv) hw
def aLJ(to ti:TE)(t:aLO):TG:=λ v σ H Q=>to σ H λ o H1=>ti σ H1 λ i H2=>t o i v H2 λ H3=>Q σ H3
def aJD(ho:PE X o to)(hi:PE X i ti)(hs:aLT X t)
  (ha:∀v,zDw (.Subscript o i pos) X.env v=(do
   let ov <-zD5 [v] (eval o X.env);let iv <-zD5 [v,ov] (eval i X.env)
   zH3 pos
   zD5 [v,ov,iv] (setItem ov iv v)
   release [v,ov,iv] []):=by intro _;rfl):PG X (.Subscript o i pos) (aLJ to ti t):=by
 intro hV s σ H v u Q I r h;rw[ha];refine zAY (zBm (thn (ho hV s σ H _ I h) λ ov s1 ⟨x,H1,I1,r1,q1⟩=>?_));refine zAY (zBm (thn (hi hV s1 σ H1 _ I1 q1) λ iv s2 ⟨y,H2,I2,r2,q2⟩=>?_));refine zAY (zEm (zAY (zBm (thn (hs hV s2 σ H2 x y v ov iv u _ I2 r1 r2 r q2) λ _ s3 ⟨H3,I3,q3⟩=>?_))));exact wpAny_release ⟨σ,H3,I3,q3⟩
def aA6(te:TE)(g:TG):TS:=λ D σ H=>te σ H λ x H1=>g x σ H1 D.nx
def aAp(he:PE X e te)(hg:PG X tg g)(hs:zEj [tg] e pos.line X.env=pure false:=by rfl)(hw:zEi [tg] e X.env=pure none:=by rfl)
  (h1:(zBV [tg] X.env).map (·.2)=[zDw tg X.env]:=by rfl):PS X (.Assign [tg] e pos) (aA6 te g):=by
 intro hV s σ H D I h;refine wpAny_Assign_stores (thn (he hV s σ H _ I h) λ v s1 ⟨x,H1,I1,r1,q1⟩=>?_) hs hw;rw[h1];exact thn (hg hV s1 σ H1 x v _ I1 r1 q1) λ _ s2 q=>q
def aEM(hN:X.N.Nodup)(hi:X.N[i]? =some x)(hx:Loc X.env.scope x)(he:PE X e te)(hs:zBl e (some (.Name x pos')) pos.line X.env=pure false:=by rfl)(hf:X.fn x=true\/X.env.scope.names.lookup x=some .local:=by first|exact .inl rfl|exact .inr rfl|assumption):
  PS X (.Assign [.Name x pos'] e pos) (aA6 te (qj i)):=by
 intro hV s σ H D I h;refine wpAny_Assign_Name (thn (he hV s σ H _ I h) λ v s1 ⟨y,H1,I1,r1,q1⟩=>?_) hs;exact sr I1 hN hi hx r1 (λ s2 I2=>⟨_,H1,I2,q1⟩) hf
def aL9(i:Nat)(te:TE)(ti:TIp):TS:=λ D σ H=>∃x,σ[i]? =some (some x)/\te σ H λ y H1=>ti x y H1 λ z H2=>D.nx (σ.set i (some z)) H2
def aIz(hN:X.N.Nodup)(hi:X.N[i]? =some x)(hx:Loc X.env.scope x)(he:PE X e te)(ho:PIp X op ti)(hf:X.fn x=true\/X.env.scope.names.lookup x=some .local:=by first|exact .inl rfl|exact .inr rfl|assumption):
  PS X (.AugAssign (.Name x pos') op e pos) (aL9 i te ti):=by
 intro hV s σ H D I h;obtain⟨v,e1,h⟩:=h;obtain⟨m,hn,hl⟩:=I.loc;have vis:Vis X.env.scope x:=by rcases hx with k|k;exact .inl k;exact .inr (.inl k)
 obtain⟨u,r,l⟩:=hl i x v hi e1 vis;refine wpAny_AugAssign_Name ?_;have go:wpAny (model X.prog X.w) X.A (eval e X.env) (λ w zI=>wpAny (model X.prog X.w) X.A (inplaceOp op u w) (λ r zC=>wpAny (model X.prog X.w) X.A (storeName X.env x r) (λ _=>SP X hV D .next) X.xe zC) X.xe zI) X.xe s:=by
  refine thn (he hV s σ H _ I h) λ w s1 ⟨y,H1,I1,r1,q1⟩=>?_
  refine thn (ho hV s1 σ H1 v y u w _ I1 r r1 q1) λ z s2 ⟨zv,H2,I2,r2,q2⟩=>?_
  exact sr I2 hN hi hx r2 (λ s3 I3=>⟨_,H2,I3,q2⟩) hf
 rcases l with ⟨hk,hm⟩|⟨hk,c,hc,hcell⟩
 .exact zHR I.ok.kind hk hn hm go
 .rcases hk with hk|hk
  .exact zH5 I.ok.kind hk hc hcell go
  .rcases hx with k|k
   .have:X.env.scope.names.lookup x=some .free:=hk
    rw[k]at this;cases this
   .have:X.env.scope.names.lookup x=some .free:=hk
    rw[k]at this;cases this
def ipI(f:Int->Int->Int):TIp:=λ x y H Q=>∃i j,x= .int i/\y= .int j/\Q (.int (f i j)) H
def aEw:PIp X .Add (ipI λ i j=>i+j):=by
 intro hV s σ H x y v u Q I r1 r2 h;obtain⟨i,j,e1,e2,q⟩:=h;subst e1;subst e2;obtain⟨t,rfl⟩:=r1;obtain⟨t',rfl⟩:=r2;exact iadd_int ⟨.int _,H,I.tok _,⟨_,rfl⟩,q⟩
end
section
variable{X:Cx}{pos:Pos}
def aI3(c:TT)(tb:TS):TS:=λ D σ H=>∃W:Nat->St->Hp->Prop,(∃m,W m σ H)/\∀m σ H,W m σ H->
 c σ H λ b H1=>if b=true then∃N:St->Hp->Prop,(∀σ' H',N σ' H'->∃m',m'<m/\W m' σ' H')/\tb {D with nx:=N,ct:=N,bk:=D.nx} σ H1 else D.nx σ H1
def aEL(hp:zHC (model X.prog X.w) X.A X.env X.xe)(hc:PT X c tc)(hb:PSs X body tb):PS X (.While c body [] pos) (aI3 tc tb):=by
 intro hV s σ H D I h;obtain⟨W,⟨m0,w0⟩,turn⟩:=h;refine wpAny_While (codeAny_whileLoop (λ n s'=>∃σ' H',Inv X hV σ' H' s'/\W n σ' H') ?_ m0 ⟨σ,H,I,w0⟩);rintro n s1 ⟨σ1,H1,I1,w1⟩;refine zCR hp (thn (hc hV s1 σ1 H1 _ I1 (turn n σ1 H1 w1)) λ b s2 ⟨H2,I2,q2⟩=>?_);cases b with
 |true=>
  obtain⟨N,hN,q2⟩:=q2;rw[if_pos rfl];refine zCR hp (thn (hb hV s2 σ1 H2 _ I2 q2) λ f s3 q3=>?_);cases f with
  |next=>
   obtain⟨σ3,H3,I3,n3⟩:=q3;obtain⟨m',hm,w3⟩:=hN σ3 H3 n3;exact⟨m',hm,σ3,H3,I3,w3⟩
  |cont=>
   obtain⟨σ3,H3,I3,n3⟩:=q3;obtain⟨m',hm,w3⟩:=hN σ3 H3 n3;exact⟨m',hm,σ3,H3,I3,w3⟩
  |brk=>exact q3
  |ret v=>exact q3
 |false=>
  rw[if_neg zA6];exact zES ⟨σ1,H2,I2,q2⟩
end
structure It where
 go:Nat->Hp->Prop
 yld:Nat->Hp->V->Hp->Prop
 stop:Nat->Hp->Prop
def rW(X:Cx)(hV:hZ)(H:Hp)(b:Addr):Prop:=
 H b=none/\b≠X.env.locals/\b∉X.fs/\(b∈X.ex\/X.z5.heap.objs.size<=b)/\(∀x c,X.env.cells.lookup x=some c->c≠b)/\∀p∈X.ta++(X.pn++hV),p.1≠b
def Inv.fpOk(I:Inv X hV σ H s)(hb:s.heap.objs.size<=b)(hn:H' b=none):rW X hV H' b:=by
 refine⟨hn,zDs (zA2 I.lt hb),I.nofs hb,.inr (zAf I.sz hb),λ x c e z=>?_,λ p hp z=>?_⟩
 .obtain⟨v,q⟩:=I.cell x c e
  exact absurd (zA2 q.lt (by rw[z];exact hb)) (zBT _)
 .exact absurd (zA2 (I.pinL hp) (by rw[z];exact hb)) (zBT _)
structure Turn(P:zAU)(w:World)(K:zAA)(tg:Expr)(J:It)(fp:List Addr)(it:Addr)(tn:Nat->Heap->Prop):Prop where
 mem:it∈fp
 obj:∀i h,tn i h->∀b∈fp,∃o,h.get? b=some o/\∀v,o.data≠.cell v
 keep:∀i h h',tn i h->(∀b∈fp,∀o,h.get? b=some o->h'.get? b=some o)->tn i h'
 item:∀(X:Cx),X.prog=P->X.w=w->X.K=K->X.calm=true->∀(i:Nat) (hV:hZ) (s:zAD) (σ:St) (H:Hp) (E:Value->zAD->Prop),Inv X hV σ H s->(∀b∈fp,rW X hV H b)->tn i s.heap->J.go i H->
  wpAny (model P w) X.A (pyNext (.ref it)) (λ r s1=>∃u,r=some u/\
   wpAny (model P w) X.A (zER tg (.ref it) u) (λ _ s2=>∃x H',Inv X hV σ H' s2/\RelV x u/\J.yld i H x H'/\tn (i+1) s2.heap/\∀b∈fp,H' b=none) E s1) E s
 done:∀(X:Cx),X.prog=P->X.w=w->X.K=K->X.calm=true->∀(i:Nat) (hV:hZ) (s:zAD) (σ:St) (H:Hp) (E:Value->zAD->Prop),Inv X hV σ H s->(∀b∈fp,rW X hV H b)->tn i s.heap->J.stop i H->
  wpAny (model P w) X.A (pyNext (.ref it)) (λ r s1=>r=none/\Inv X hV σ H s1) E s
 self:∀(A:zA8) (i:Nat) (s:zAD) (Q:Value->zAD->Prop) (E:Value->zAD->Prop),tn i s.heap->Q (.ref it) s->wpAny (model P w) A (pyIter (.ref it)) Q E s
abbrev TI:=St->Hp->(It->Hp->Prop)->Prop
def PIE(X:Cx)(hV:hZ)(σ:St)(tg:Expr)(R:It->Hp->Prop)(itv:Value)(s2:zAD):Prop:=
 ∃(it:Addr) (fp:List Addr) (tn:Nat->Heap->Prop) (J:It) (H':Hp),itv= .ref it/\Inv X hV σ H' s2/\Turn X.prog X.w X.K tg J fp it tn/\tn 0 s2.heap/\(∀b∈fp,rW X hV H' b)/\R J H'
def PI(X:Cx)(tg iter:Expr)(wi:TI):Prop:=
 ∀(hV:hZ) (s:zAD) (σ:St) (H:Hp) (R:It->Hp->Prop),Inv X hV σ H s->wi σ H R->
  wpAny (model X.prog X.w) X.A (eval iter X.env) (λ v s1=>wpAny (model X.prog X.w) X.A (pyIter v) (PIE X hV σ tg R) X.xe s1) X.xe s
def aFL(ho:s.heap.get? it=some o)(hc:o.cls= .type n)(hd:o.data= .fields vs)
    (hn:["enumerate","zip","dict_itemiterator","dict_reverseitemiterator","odict_iterator","itertools.zip_longest","itertools.pairwise"].contains n=false)(hQ:Q () s):wpAny M A (zER tg (.ref it) u) Q E s:=by
  unfold zER;cases tg<;>first
    |exact zAr hQ
    | (cases u <;> first
        |exact zAr hQ
        | (refine zAY (wpAny_load ho ?_)
           rw[hc,hd];show wpAny M A (if (["enumerate","zip","dict_itemiterator","dict_reverseitemiterator","odict_iterator","itertools.zip_longest","itertools.pairwise"].contains n&&vs[0]? ==some (rawInt _))=true then _ else _) Q E s;rw[if_neg (by intro h;rw[hn,zHS]at h;cases h)];exact zAr hQ))
def Itl(K:zAA)(a:Addr):It:=
 ⟨λ i H=>∃xs x,SqL K H a xs/\xs[i]? =some x,λ i H x H'=>H'=H/\∀xs,SqL K H a xs->xs[i]? =some x,λ i H=>∃xs,SqL K H a xs/\xs.length<=i⟩
def Itt(K:zAA)(a:Addr):It:=
 ⟨λ i H=>∃xs x,SqT K H a xs/\xs[i]? =some x,λ i H x H'=>H'=H/\∀xs,SqT K H a xs->xs[i]? =some x,λ i H=>∃xs,SqT K H a xs/\xs.length<=i⟩
def Itr(lo:Int)(n:Nat):It:=⟨λ i _=>i<n,λ i H x H'=>H'=H/\x= .int (lo+i),λ i _=>n<=i⟩
def aC6{P:zAU}{w:World}{K:zAA}{tg:Expr}(a it:Addr):Turn P w K tg (Itl K a) [it] it (λ i h=>h.IsListIter it a i) where
 mem:=by simp
 obj:=λ i h st b hb=>by
  have e:b=it:=by simpa using hb
  subst e;obtain⟨o,e,c,d⟩:=st;exact⟨o,e,λ v z=>by rw[d]at z;cases z⟩
 keep:=λ i h h' st k=>st.at λ o e=>k it (by simp) o e
 item:=by
  intro X hP hw hK hc i hV s σ H E I hf st hg;subst hP hw hK;obtain⟨xs,x,hq,hx⟩:=hg;obtain⟨its,rv,p,hz⟩:=I.list hq;obtain⟨u,hu,ru⟩:=rv.get hx;obtain⟨f0,f1,f2,f3,f4,f5⟩:=hf it (by simp);refine zGm st p.isList (x:=u) (by simpa using hu) λ h' st' sb=>?_
  have I1:Inv X hV σ H {s with heap:=h'}:=I.turned (t':=s.toks) (λ b o hb e=>(sb.2 b hb).trans e) f0 f1 f3 f4 f5;obtain⟨o,e,c,d⟩:=id st';exact⟨u,rfl,aFL (s:={s with heap:=h'}) e c d (by decide) ⟨x,H,I1,ru,⟨rfl,λ ys hy=>by rw[I.list_inj hy hq];exact hx⟩,st',λ b hb=>(hf b hb).1⟩⟩
 done:=by
  intro X hP hw hK hc i hV s σ H E I hf st hg;subst hP hw hK;obtain⟨xs,hq,hx⟩:=hg;obtain⟨its,rv,p,hz⟩:=I.list hq;obtain⟨f0,f1,f2,f3,f4,f5⟩:=hf it (by simp);have hl:=rv.length;exact zHK (I.ok.hd hc) st p.isList (by simp;lia) λ h' eb=>⟨rfl,I.turned (t':=s.toks) (λ b o hb e=>eb b o hb e) f0 f1 f3 f4 f5⟩
 self:=λ _ _ _ _ _ st h=>wpAny_pyIter_listiter st h
def aA2{P:zAU}{w:World}{K:zAA}{tg:Expr}(a it:Addr):Turn P w K tg (Itt K a) [it] it (λ i h=>h.IsTupleIter it a i) where
 mem:=by simp
 obj:=λ i h st b hb=>by
  have e:b=it:=by simpa using hb
  subst e;obtain⟨o,e,c,d⟩:=st;exact⟨o,e,λ v z=>by rw[d]at z;cases z⟩
 keep:=λ i h h' st k=>st.at λ o e=>k it (by simp) o e
 item:=by
  intro X hP hw hK hc i hV s σ H E I hf st hg;subst hP hw hK;obtain⟨xs,x,hq,hx⟩:=hg;obtain⟨its,rv,p,hz⟩:=I.tuple hq;obtain⟨u,hu,ru⟩:=rv.get hx;obtain⟨f0,f1,f2,f3,f4,f5⟩:=hf it (by simp);refine wpAny_pyNext_tuple_item st (show s.heap.IsTuple a its.toArray from p) (x:=u) (by simpa using hu) λ h' st' sb=>?_
  have I1:Inv X hV σ H {s with heap:=h'}:=I.turned (t':=s.toks) (λ b o hb e=>(sb.2 b hb).trans e) f0 f1 f3 f4 f5;obtain⟨o,e,c,d⟩:=id st';exact⟨u,rfl,aFL (s:={s with heap:=h'}) e c d (by decide) ⟨x,H,I1,ru,⟨rfl,λ ys hy=>by rw[I.tuple_inj hy hq];exact hx⟩,st',λ b hb=>(hf b hb).1⟩⟩
 done:=by
  intro X hP hw hK hc i hV s σ H E I hf st hg;subst hP hw hK;obtain⟨xs,hq,hx⟩:=hg;obtain⟨its,rv,p,hz⟩:=I.tuple hq;obtain⟨f0,f1,f2,f3,f4,f5⟩:=hf it (by simp);have hl:=rv.length;exact wpAny_pyNext_tuple_end (I.ok.hd hc) st (show s.heap.IsTuple a its.toArray from p) (by simp;lia) λ h' eb=>⟨rfl,I.turned (t':=s.toks) (λ b o hb e=>eb b o hb e) f0 f1 f3 f4 f5⟩
 self:=λ _ _ _ _ _ st h=>wpAny_pyIter_tupleiter st h
def aA3{P:zAU}{w:World}{K:zAA}{tg:Expr}(it:Addr)(lo:Int)(n:Nat):Turn P w K tg (Itr lo n) [it] it (λ i h=>IsRangeIter h it (lo+(i:Nat)*1) ((n:Int)-(i:Nat)) 1) where
 mem:=by simp
 obj:=λ i h st b hb=>by
  have e:b=it:=by simpa using hb
  subst e;exact⟨_,st,λ v z=>by
   have z':Data.fields _=Data.cell v:=z;cases z'⟩
 keep:=λ i h h' st k=>k it (by simp) _ st
 item:=by
  intro X hP hw hK hc i hV s σ H E I hf st hg;subst hP hw hK;obtain⟨f0,f1,f2,f3,f4,f5⟩:=hf it (by simp);have W:=Walks.range (prog:=X.prog) (w:=X.w) (I.ok.hd hc) it lo 1 n;refine W.item i s _ _ hg st λ v h' tk hv st' kk=>?_
  obtain⟨t,rfl⟩:=hv;have I1:Inv X hV σ H {s with heap:=h',toks:=tk}:=I.turned (λ b o hb e=>kk b o (by simpa using hb) e) f0 f1 f3 f4 f5;refine⟨_,rfl,aFL (s:={s with heap:=h',toks:=tk}) (n:="range_iterator") st' rfl rfl (by decide) ⟨.int (lo+i),H,I1,⟨t,?_⟩,⟨rfl,rfl⟩,st',λ b hb=>(hf b hb).1⟩⟩;rw[zEM]
 done:=by
  intro X hP hw hK hc i hV s σ H E I hf st hg;subst hP hw hK;obtain⟨f0,f1,f2,f3,f4,f5⟩:=hf it (by simp);exact wpAny_pyNext_range_end (I.ok.hd hc) st (by have:n<=i:=hg;lia) λ h' eb=>⟨rfl,I.turned (t':=s.toks) (λ b o hb e=>eb b o hb e) f0 f1 f3 f4 f5⟩
 self:=λ _ _ _ _ _ st h=>wpAny_pyIter_rangeiter st h
section
variable{X:Cx}{tg:Expr}
def zO{hV:hZ}{σ:St}{H:Hp}{s:zAD}{R:It->Hp->Prop}{E:Value->zAD->Prop}{lo hi:Int}{t u v:Tok}{tk:Nat}(I:Inv X hV σ H s)(h1: -(2^62)<=lo)(h2:lo<2^62)(h3: -(2^62)<=hi)(h4:hi<2^62)
  (q:R (Itr lo (hi-lo).toNat) H):wpAny (model X.prog X.w) X.A (pyIter (.ref s.heap.objs.size)) (PIE X hV σ tg R) E {s with heap:=s.heap.push {cls:=.type "range",data:=.fields #[.int lo t,.int hi u,.int 1 v]},toks:=tk}:=by
 refine wpAny_pyIter_range (IsRange.new ..) (small_one h1 h2 h3 h4) ?_;have I1:Inv X hV σ H {s with heap:=s.heap.push {cls:=.type "range",data:=.fields #[.int lo t,.int hi u,.int 1 v]},toks:=tk}:=I.kept λ b o e=>zAG _ e
 refine⟨(s.heap.push {cls:=.type "range",data:=.fields #[.int lo t,.int hi u,.int 1 v]}).objs.size,[(s.heap.push {cls:=.type "range",data:=.fields #[.int lo t,.int hi u,.int 1 v]}).objs.size],_,_,H,rfl,
  I1.kept (t':=tk) λ b o e=>zAG _ e,aA3 _ lo (hi-lo).toNat,?_,λ b hb=>?_,q⟩
 .have e1:lo+((0:Nat):Int)*1=lo:=by simp
  have e2:(((hi-lo).toNat:Nat):Int)-((0:Nat):Int)=zBA lo hi 1:=by rw[rangeSize_one];split<;>lia
  show IsRangeIter _ _ (lo+((0:Nat):Int)*1) ((((hi-lo).toNat:Nat):Int)-((0:Nat):Int)) 1;rw[e1,e2];exact zA5 _ rfl
 .have e:b=(s.heap.push {cls:=.type "range",data:=.fields #[.int lo t,.int hi u,.int 1 v]}).objs.size:=by simpa using hb
  subst e;exact I1.fpOk (zAV _) (I1.hok.fresh (zAV _))
def aLH(ta:TA):TI:=λ σ H R=>ta σ H λ vs H1=>∃j:Int,vs=[.int j]/\-(2^62)<=j/\j<2^62/\R (Itr 0 j.toNat) H1
def aLG(ta:TA):TI:=λ σ H R=>ta σ H λ vs H1=>∃i j:Int,vs=[.int i,.int j]/\(-(2^62)<=i/\i<2^62/\-(2^62)<=j/\j<2^62)/\R (Itr i (j-i).toNat) H1
def aCm{a:Expr}{ta:TA}{p pos:Pos}(hg:Gl X "range")(hm:X.mg "range"=none)(ha:PA X [a] ta)(hs:zAW [a] X.env=[(false,eval a X.env)]:=by rfl):PI X tg (.Call (.Name "range" p) [a] [] pos) (aLH ta):=by
 intro hV s σ H R I h;refine Call_ (qH I hg hm zGW (zC8 (thn (ha pos hV s σ H _ I h) λ us s1 ⟨vs,H1,I1,r1,q1⟩=>?_) hs rfl));obtain⟨j,e,q1,q2,q⟩:=q1;subst e;cases r1 with
 |cons r rr=>
  cases rr;obtain⟨t,rfl⟩:=r;exact call_range_1 (zO I1 (by lia) (by lia) q1 q2 (by simpa using q))
def aCl(hg:Gl X "range")(hm:X.mg "range"=none)(ha:PA X [a,b] ta)(hs:zAW [a,b] X.env=[(false,eval a X.env),(false,eval b X.env)]:=by rfl)(hs2:zAW [b] X.env=[(false,eval b X.env)]:=by rfl):
  PI X tg (.Call (.Name "range" p) [a,b] [] pos) (aLG ta):=by
 intro hV s σ H R I h;refine Call_ (qH I hg hm zGW (zC8 (thn (ha pos hV s σ H _ I h) λ us s1 ⟨vs,H1,I1,r1,q1⟩=>?_) (by rw[hs,hs2]) (by rw[hs2];rfl)));obtain⟨i,j,e,⟨q1,q2,q3,q4⟩,q⟩:=q1;subst e;cases r1 with
 |cons r rr=>
  cases rr with
  |cons r' rr=>
   cases rr;obtain⟨t,rfl⟩:=r;obtain⟨t',rfl⟩:=r';exact call_range_2 (zO I1 q1 q2 q3 q4 q)
def aK1(wi:TI)(g:TG)(tb:TS):TS:=λ D σ H=>wi σ H λ J H1=>∃W:Nat->Nat->St->Hp->Prop,(∃m,W 0 m σ H1)/\∀i m σ H,W i m σ H->
 (J.stop i H/\D.nx σ H)\/(J.go i H/\∃N:St->Hp->Prop,(∀σ' H',N σ' H'->∃m',m'<m/\W (i+1) m' σ' H')/\∀x H',J.yld i H x H'->g x σ H' λ σ2 H2=>tb {D with nx:=N,ct:=N,bk:=D.nx} σ2 H2)
def uA(fp:List Addr)(h:Heap):hZ:=fp.filterMap λ b=>(h.get? b).map λ o=>(b,o)
def oF(hb:b∈fp)(e:h.get? b=some o):(b,o)∈uA fp h:=zCE.mpr ⟨b,hb,by rw[e];rfl⟩
def v9(hp:p∈uA fp h):p.1∈fp/\h.get? p.1=some p.2:=by
 obtain⟨b,hb,e⟩:=zCE.mp hp;cases q:h.get? b with
 |none=>rw[q]at e;cases e
 |some o=>
  rw[q]at e;have e':(b,o)=p:=zAg e;subst e';exact⟨hb,q⟩
def Inv.pinned(I:Inv X hV σ H s)(hf:∀b∈fp,rW X hV H b)(ho:∀b∈fp,∃o,s.heap.get? b=some o/\∀v,o.data≠.cell v):Inv X (hV++uA fp s.heap) σ H s:=
 I.pins_of (λ p hp=>(zAX.mp hp).elim (λ z=>I.pin p (zA1 _ z)) λ z=>by
  obtain⟨hb,e⟩:=v9 z;obtain⟨f0,f1,f2,_⟩:=hf p.1 hb;obtain⟨o,e',d⟩:=ho p.1 hb;rw[e]at e';cases e';exact⟨e,f0,f1,f2,d⟩) λ q hq p hp=>(zAX.mp hq).elim (λ z=>(I.tab p hp).2.2.2.1 q (zA1 _ z)) λ z=>((hf q.1 (v9 z).1).2.2.2.2.2 p (zAJ _ hp)).symm
def Inv.unpinned(I:Inv X (hV++pl) σ H s):Inv X hV σ H s:=I.pins_of (λ p hp=>I.pin p (zA1 _ (zAJ _ hp))) λ q hq p hp=>(I.tab p hp).2.2.2.1 q (zA1 _ (zAJ _ hq))
def aEO(hp:zHC (model X.prog X.w) X.A X.env X.xe)(hc:X.calm=true)(hi:PI X tg iter wi)(hg:PG X tg g)(hb:PSs X body tb)
  (hs:∀x,zB9 iter X.env x=pure x:=by intro _;rfl):PS X (.For tg iter body [] pos) (aK1 wi g tb):=by
 intro hV s σ H D I h;refine wpAny_For (thn (hi hV s σ H _ I h) λ v s1 h1=>thn h1 λ itv s2 h2=>?_) hs;obtain⟨it,fp,tn,J,H2,e,I2,T,st2,f2,W,⟨m0,w0⟩,turn⟩:=h2;subst e;have qV:∀{H':Hp},(∀b∈fp,H' b=none)->∀b∈fp,rW X hV H' b:=λ hn b hb=>⟨hn b hb,(f2 b hb).2⟩
 refine codeAny_forLoop_any (λ n s'=>∃i σ' H',Inv X hV σ' H' s'/\tn i s'.heap/\(∀b∈fp,H' b=none)/\W i n σ' H') ?_ m0 ⟨0,σ,H2,I2,st2,λ b hb=>(f2 b hb).1,w0⟩;rintro n s3 ⟨i,σ3,H3,I3,st3,fr3,w3⟩;rcases turn i n σ3 H3 w3 with ⟨stop,qn⟩|⟨go,N,hN,step⟩
 .refine zCR hp (thn (T.done X rfl rfl rfl hc i hV s3 σ3 H3 X.xe I3 (qV fr3) st3 stop) λ r s4 ⟨hr,I4⟩=>?_)
  subst hr;exact zES ⟨σ3,H3,I4,qn⟩
 .refine zCR hp (thn (T.item X rfl rfl rfl hc i hV s3 σ3 H3 X.xe I3 (qV fr3) st3 go) λ r s4 ⟨u,hr,h4⟩=>?_)
  subst hr;refine zCR hp (thn h4 λ _ s5 ⟨x,H5,I5,r5,y5,st5,fr5⟩=>?_);have I5':=I5.pinned (qV fr5) (T.obj _ _ st5);refine zCR hp (thn (hg _ s5 σ3 H5 x u _ I5' r5 (step x H5 y5)) λ _ s6 ⟨σ6,H6,I6,q6⟩=>?_);refine zCR hp (thn (hb _ s6 σ6 H6 _ I6 q6) λ f s7 q7=>?_);have again:∀{σ7:St} {H7:Hp},Inv X (hV++uA fp s5.heap) σ7 H7 s7->N σ7 H7->∃m,m<n/\∃i σ' H',Inv X hV σ' H' s7/\tn i s7.heap/\(∀b∈fp,H' b=none)/\W i m σ' H':=λ{σ7 H7} I7 n7=>by
   obtain⟨m',hm,w7⟩:=hN σ7 H7 n7;refine⟨m',hm,i+1,σ7,H7,I7.unpinned,T.keep _ _ _ st5 λ b hb o e=>(I7.pin (b,o) (zA1 _ (zA1 _ (oF hb e)))).1,λ b hb=>?_,w7⟩;obtain⟨o,e,d⟩:=T.obj _ _ st5 b hb;exact(I7.pin (b,o) (zA1 _ (zA1 _ (oF hb e)))).2.1
  cases f with
  |next=>obtain⟨σ7,H7,I7,n7⟩:=q7;exact again I7 n7
  |cont=>obtain⟨σ7,H7,I7,n7⟩:=q7;exact again I7 n7
  |brk=>obtain⟨σ7,H7,I7,q7⟩:=q7;exact⟨σ7,H7,I7.unpinned,q7⟩
  |ret v=>obtain⟨x7,σ7,H7,I7,r7,q7⟩:=q7;exact⟨x7,σ7,H7,I7.unpinned,r7,q7⟩
end
abbrev R2:=V->V->Hp->VK->Prop
def OpR(X:Cx)(f:Value->Value->Sem Value)(r:R2):Prop:=
 ∀(hV:hZ) (s:zAD) (σ:St) (H:Hp) (x y:V) (v u:Value) (Q:VK),Inv X hV σ H s->RelV x v->RelV y u->r x y H Q->
  wpAny (model X.prog X.w) X.A (f v u) (EP X hV σ Q) X.xe s
def UnR(X:Cx)(f:Value->Sem Value)(r:V->Hp->VK->Prop):Prop:=
 ∀(hV:hZ) (s:zAD) (σ:St) (H:Hp) (x:V) (v:Value) (Q:VK),Inv X hV σ H s->RelV x v->r x H Q->
  wpAny (model X.prog X.w) X.A (f v) (EP X hV σ Q) X.xe s
def cR(X:Cx)(f:Value)(r:List V->Hp->VK->Prop):Prop:=
 ∀(hV:hZ) (s:zAD) (σ:St) (H:Hp) (xs:List V) (us:List Value) (Q:VK),Inv X hV σ H s->Vals xs us->r xs H Q->
  wpAny (model X.prog X.w) X.A (call f us) (EP X hV σ Q) X.xe s
def aLk(X:Cx)(r:V->Hp->(Bool->Hp->Prop)->Prop):Prop:=
 ∀(hV:hZ) (s:zAD) (σ:St) (H:Hp) (x:V) (v:Value) (Q:Bool->Hp->Prop),Inv X hV σ H s->RelV x v->r x H Q->
  wpAny (model X.prog X.w) X.A (truthy v) (TP X hV σ Q) X.xe s
def tOp(r:R2)(ta tb:TE):TE:=λ σ H Q=>ta σ H λ x H1=>tb σ H1 λ y H2=>r x y H2 Q
def tUn(r:V->Hp->VK->Prop)(ta:TE):TE:=λ σ H Q=>ta σ H λ x H1=>r x H1 Q
def rI(C:Int->Int->Prop)(g:Int->Int->V):R2:=λ x y H Q=>∃i j,x= .int i/\y= .int j/\C i j/\Q (g i j) H
def rI0(g:Int->Int->V):R2:=λ x y H Q=>∃i j,x= .int i/\y= .int j/\Q (g i j) H
def rU(g:Int->V):V->Hp->VK->Prop:=λ x H Q=>∃i,x= .int i/\Q (g i) H
section
variable{X:Cx}{a b:Expr}{ta tb:TE}{pos:Pos}
def aKM(ha:PE X a ta)(hb:PE X b tb){hV:hZ}{s:zAD}{σ:St}{H:Hp}{R:V->V->Hp->Prop}(I:Inv X hV σ H s)
  (h:ta σ H λ x H1=>tb σ H1 λ y H2=>R x y H2){Q:Value->zAD->Prop}{f:Value->Value->Sem Value}
  (hf:∀v u s2 x y H2,Inv X hV σ H2 s2->RelV x v->RelV y u->R x y H2->wpAny (model X.prog X.w) X.A (f v u) Q X.xe s2):
  wpAny (model X.prog X.w) X.A (eval a X.env) (λ v z4=>wpAny (model X.prog X.w) X.A (eval b X.env) (λ u zI=>wpAny (model X.prog X.w) X.A (f v u) Q X.xe zI) X.xe z4) X.xe s:=by
 refine thn (ha hV s σ H _ I h) λ v s1 ⟨x,H1,I1,r1,q1⟩=>?_
 refine thn (hb hV s1 σ H1 _ I1 q1) λ u s2 ⟨y,H2,I2,r2,q2⟩=>?_
 exact hf v u s2 x y H2 I2 r1 r2 q2
def aKm{op:Operator}{r:R2}(ho:OpR X (zBd op) r)(ha:PE X a ta)(hb:PE X b tb):PE X (.BinOp a op b pos) (tOp r ta tb):=by
 intro hV s σ H Q I h;exact wpAny_BinOp (aKM ha hb I h λ v u s2 x y H2 I2 rx ry q=>ho hV s2 σ H2 x y v u Q I2 rx ry q)
def aKk(ho:UnR X (unaryOp op) r)(ha:PE X a ta):PE X (.UnaryOp op a pos) (tUn r ta):=by
 intro hV s σ H Q I h;exact UnaryOp_ (thn (ha hV s σ H _ I h) λ v s1 ⟨x,H1,I1,r1,q1⟩=>ho hV s1 σ H1 x v Q I1 r1 q1)
def opI{f:Value->Value->Sem Value}{C:Int->Int->Prop}{g:Int->Int->Int}
  (rule:∀(i j:Int) (t u:Tok) (s:zAD) (Q:Value->zAD->Prop) (E:Value->zAD->Prop),C i j->Q (.int (g i j) s.toks) {s with toks:=s.toks+1}->wpAny (model X.prog X.w) X.A (f (.int i t) (.int j u)) Q E s):
  OpR X f (rI C λ i j=>.int (g i j)):=by
 intro hV s σ H x y v u Q I rx ry h;obtain⟨i,j,rfl,rfl,hc,q⟩:=h;obtain⟨t,rfl⟩:=rx;obtain⟨t',rfl⟩:=ry;exact rule i j t t' s _ _ hc ⟨.int (g i j),H,I.tok _,⟨_,rfl⟩,q⟩
def aKv{f:Value->Value->Sem Value}{g:Int->Int->Int}
  (rule:∀(i j:Int) (t u:Tok) (s:zAD) (Q:Value->zAD->Prop) (E:Value->zAD->Prop),Q (.int (g i j) s.toks) {s with toks:=s.toks+1}->wpAny (model X.prog X.w) X.A (f (.int i t) (.int j u)) Q E s):
  OpR X f (rI0 λ i j=>.int (g i j)):=by
 intro hV s σ H x y v u Q I rx ry h;obtain⟨i,j,rfl,rfl,q⟩:=h;obtain⟨t,rfl⟩:=rx;obtain⟨t',rfl⟩:=ry;exact rule i j t t' s _ _ ⟨.int (g i j),H,I.tok _,⟨_,rfl⟩,q⟩
def aGj{f:Value->Value->Sem Value}{g:Int->Int->Bool}
  (rule:∀(i j:Int) (t u:Tok) (s:zAD) (Q:Value->zAD->Prop) (E:Value->zAD->Prop),Q (.bool (g i j)) s->wpAny (model X.prog X.w) X.A (f (.int i t) (.int j u)) Q E s):
  OpR X f (rI0 λ i j=>.bl (g i j)):=by
 intro hV s σ H x y v u Q I rx ry h;obtain⟨i,j,rfl,rfl,q⟩:=h;obtain⟨t,rfl⟩:=rx;obtain⟨t',rfl⟩:=ry;exact rule i j t t' s _ _ ⟨.bl (g i j),H,I,rfl,q⟩
def aLY(i j:Int):Prop:=0<j/\j<1073741824
def aLq(i j:Int):Prop:=0<=j/\j<=1000000/\i.natAbs<2^64
def aHg(i j:Int):Prop:=(-(2^64)<i/\i<2^64)\/(-(2^64)<j/\j<2^64)
def aHg.ok(h:aHg i j):IntMulOk i j:=by
 rcases h with ⟨h1,h2⟩|⟨h1,h2⟩
 .exact .of_left (intBits_le_64 h1 h2)
 .exact .of_right (intBits_le_64 h1 h2)
def aJ5:OpR X (zBd .Add) (rI0 λ i j=>.int (i+j)):=aKv λ _ _ _ _ _ _ _ q=>add_int q
def aJR:OpR X (zBd .Sub) (rI0 λ i j=>.int (i-j)):=aKv λ _ _ _ _ _ _ _ q=>sub_int q
def aJV:OpR X (zBd .Mult) (rI aHg λ i j=>.int (i*j)):=opI λ _ _ _ _ _ _ _ hc q=>mul_int q hc.ok
def aGe:OpR X (zBd .FloorDiv) (rI aLY λ i j=>.int (i / j)):=opI λ i j _ _ _ _ _ hc q=>by
 have h1:(0:Int)<j:=hc.1;have h2:j<1073741824:=hc.2;exact floordiv_int (by lia) (by rw[Int.fdiv_eq_ediv_of_nonneg i (by lia)];exact q) (.inl (PyProof.noPylong_small (by lia)))
def aJW:OpR X (zBd .Mod) (rI (λ _ j=>0<j) λ i j=>.int (i%j)):=opI λ i j _ _ _ _ _ hc q=>by
 have h1:(0:Int)<j:=hc;exact mod_int' (by lia) (by rw[Int.fmod_eq_emod_of_nonneg i (by lia)];exact q)
def aJT:OpR X (zBd .Pow) (rI aLq λ i j=>.int (i^j.toNat)):=opI λ _ _ _ _ _ _ _ hc q=>pow_int_small hc.1 hc.2.1 hc.2.2 q
def unI{f:Value->Sem Value}{g:Int->Int}
  (rule:∀(i:Int) (t:Tok) (s:zAD) (Q:Value->zAD->Prop) (E:Value->zAD->Prop),Q (.int (g i) s.toks) {s with toks:=s.toks+1}->wpAny (model X.prog X.w) X.A (f (.int i t)) Q E s):
  UnR X f (rU λ i=>.int (g i)):=by
 intro hV s σ H x v Q I rx h;obtain⟨i,rfl,q⟩:=h;obtain⟨t,rfl⟩:=rx;exact rule i t s _ _ ⟨.int (g i),H,I.tok _,⟨_,rfl⟩,q⟩
def aIW:UnR X (unaryOp .USub) (rU λ i=>.int (-i)):=unI λ _ _ _ _ _ q=>neg_int q
end
section
variable{X:Cx}{a b c:Expr}{ta tb tc:TE}{pos:Pos}
def aFS(I:Inv X hV σ H s)(q:Q (.bl k) H)(e:k=k'):EP X hV σ Q (.bool k') s:=by
 subst e;exact⟨.bl k,H,I,rfl,q⟩
def aKr:OpR X (zAw .Lt) (rI0 λ i j=>.bl (decide (i<j))):=aGj λ _ _ _ _ _ _ _ q=>lt_int q
def aKs:OpR X (zAw .LtE) (rI0 λ i j=>.bl (decide (i<=j))):=aGj λ _ _ _ _ _ _ _ q=>le_int q
def aKt:OpR X (zAw .Gt) (rI0 λ i j=>.bl (decide (j<i))):=aGj λ _ _ _ _ _ _ _ q=>gt_int q
def aKu:OpR X (zAw .GtE) (rI0 λ i j=>.bl (decide (j<=i))):=aGj λ _ _ _ _ _ _ _ q=>ge_int q
def aJ2:OpR X (zAw .Is) (λ x y H Q=>y= .non/\Q (.bl (decide (x= .non))) H):=by
 intro hV s σ H x y v u Q I rx ry h;obtain⟨rfl,q⟩:=h;cases ry;refine is_none_gen (aFS I q ?_);cases x<;>first
  |(cases rx;rfl)
  |(obtain⟨t,rfl⟩:=rx;rfl)
def isObj:HO->Bool
 | .lst _=>true
 | .ins _ _ _=>true
 |_=>false
def OpR.or(h:OpR X f r)(h':OpR X f r'):OpR X f (λ x y H Q=>r x y H Q\/r' x y H Q):=by
 intro hV s σ H x y v u Q I rx ry q;rcases q with q|q
 .exact h hV s σ H x y v u Q I rx ry q
 .exact h' hV s σ H x y v u Q I rx ry q
def aE8(b:Expr)(h:op≠.In:=by decide)(h2:op≠.NotIn:=by decide):zCT op b=false:=by
 have e1:(op==CmpOp.In)=false:=by cases op<;>first|rfl|exact absurd rfl h
 have e2:(op==CmpOp.NotIn)=false:=by cases op<;>first|rfl|exact absurd rfl h2
 cases b<;>simp[zCT,e1,e2]
def aG2{op:CmpOp}{r:R2}(ho:OpR X (zAw op) r)(ha:PE X a ta)(hb:PE X b tb)(hm:zCT op b=false):PE X (.Compare a [op] [b] pos) (tOp r ta tb):=by
 intro hV s σ H Q I h;exact wpAny_Compare1 (aKM ha hb I h λ v u s2 x y H2 I2 rx ry q=>ho hV s2 σ H2 x y v u Q I2 rx ry q) hm
def aHh(t:TE):TT:=λ σ H Q=>t σ H λ x H'=>∃k,x= .bl k/\Q k H'
def aGR(ho:OpR X (zAw op) r)(ha:PE X a ta)(hb:PE X b tb)(hm:zCT op b=false):PT X (.Compare a [op] [b] pos) (aHh (tOp r ta tb)):=by
 intro hV s σ H Q I h;refine wpAny_isTrue_Compare1 (thn (ha hV s σ H _ I h) λ v s1 ⟨x,H1,I1,r1,q1⟩=>thn (hb hV s1 σ H1 _ I1 q1) λ u s2 ⟨y,H2,I2,r2,q2⟩=>
  thn (ho hV s2 σ H2 x y v u _ I2 r1 r2 q2) λ c s3 ⟨z,H3,I3,r3,k,e,q3⟩=>?_) hm
 subst e;cases r3;exact zCB ⟨H3,I3,q3⟩
def aD5(r r':R2)(ta tb tc:TE):TE:=λ σ H Q=>ta σ H λ x H1=>tb σ H1 λ y H2=>r x y H2 λ z H3=>∃k,z= .bl k/\
 (if k=true then tc σ H3 λ w' H4=>r' y w' H4 Q else Q (.bl false) H3)
def aEY(ho:OpR X (zAw op) r)(ho':OpR X (zAw op') r')(ha:PE X a ta)(hb:PE X b tb)(hc:PE X c tc)
  (hm:zHI [op,op'] [b,c]=false:=by with_unfolding_all rfl):PE X (.Compare a [op,op'] [b,c] pos) (aD5 r r' ta tb tc):=by
 intro hV s σ H Q I h;refine Compare_chain (thn (ha hV s σ H _ I h) λ v s1 ⟨x,H1,I1,r1,q1⟩=>chain_link (thn (hb hV s1 σ H1 _ I1 q1) λ u s2 ⟨y,H2,I2,r2,q2⟩=>
  thn (ho hV s2 σ H2 x y v u _ I2 r1 r2 q2) λ d s3 ⟨z,H3,I3,r3,k,e,q3⟩=>?_)) hm
 subst e;cases r3;refine zCB ?_;cases k with
 |false=>exact ite_ff ⟨.bl false,H3,I3,rfl,q3⟩
 |true=>exact ite_tt (chain_last (thn (hc hV s3 σ H3 _ I3 q3) λ w' s4 ⟨z',H4,I4,r4,q4⟩=>ho' hV s4 σ H4 y z' u w' Q I4 r2 r4 q4))
def aKR(K:zAA)(x:V)(H:Hp)(k:Bool):Prop:=
 match x with
 | .non=>k=false
 | .bl b=>k=b
 | .int i=>k=(i !=0)
 | .str y=>y.length<=zAR/\k=((y.length:Int)!=0)
 | .byt y=>y.size<=zAR/\k=((y.size:Int)!=0)
 | .ref p=>(∃xs,SqL K H p xs/\k= !xs.isEmpty)\/(∃xs,SqT K H p xs/\k= !xs.isEmpty)\/∃kvs,H p=some (.dK kvs)/\k= !kvs.isEmpty
 |_=>False
def aBT(r:KV kvs vs):(!vs.isEmpty)= !kvs.isEmpty:=by
 cases r<;>rfl
def uT(r:Vals xs its):(!its.toArray.isEmpty)= !xs.isEmpty:=by
 cases r<;>simp
def qG:(zAR:Nat)<2^63:=by rw[zBo];decide
def aI1:aLk X (λ x H Q=>∃k,aKR X.K x H k/\Q k H):=by
 intro hV s σ H x v Q I rx h;obtain⟨k,e,q⟩:=h;have hl:=qG;have hs:zAR=16777216:=zBo;cases x with
 |non=>
  cases rx;have e':k=false:=e;subst e';exact truthy_none ⟨H,I,q⟩
 |bl b=>
  cases rx;have e':k=b:=e;subst e';exact zCB ⟨H,I,q⟩
 |int i=>
  obtain⟨t,rfl⟩:=rx;have e':k=(i !=0):=e;subst e';exact PySem.P.truthy_int ⟨H,I,q⟩
 |str y=>
  obtain⟨t,rfl⟩:=rx;obtain⟨hy,e'⟩:y.length<=zAR/\k=((y.length:Int)!=0):=e;subst e';exact PySem.P.truthy_str (by lia) ⟨H,I.tok _,q⟩
 |byt y=>
  obtain⟨t,rfl⟩:=rx;obtain⟨hy,e'⟩:y.size<=zAR/\k=((y.size:Int)!=0):=e;subst e';exact PySem.W.truthy_bytes (by lia) ⟨H,I.tok _,q⟩
 |ref p=>
  cases rx;have e':(∃xs,SqL X.K H p xs/\k= !xs.isEmpty)\/(∃xs,SqT X.K H p xs/\k= !xs.isEmpty)\/∃kvs,H p=some (.dK kvs)/\k= !kvs.isEmpty:=e
  rcases e' with ⟨xs,hx,e'⟩|⟨xs,hx,e'⟩|⟨kvs,hx,e'⟩
  .subst e'
   obtain⟨its,r,pl,hz⟩:=I.list hx;have hW:=r.length;exact wpAny_truthy_list pl.isList (by simp only[zAL];lia) ⟨H,I.tok _,by rw[uT r];exact q⟩
  .subst e'
   obtain⟨its,r,pl,hz⟩:=I.tuple hx;have hW:=r.length;exact truthy_tuple pl (by simp only[zAL];lia) ⟨H,I.tok _,by rw[uT r];exact q⟩
  .subst e'
   obtain⟨hz,hS,vs,r,m⟩:kvs.length<=zAR/\(p==zCA)=false/\∃vs,KV kvs vs/\s.heap.DictOf (bO X.prog X.w) p vs:=I.hok p _ hx
   have hW:kvs.length=vs.length:=zEI r;exact wpAny_truthy_dict hS m (by lia) ⟨H,I.tok _,by rw[aBT r];exact q⟩
 |_=>exact(show False from e).elim
def aEK(ha:PE X a ta)(he:∀whole,isTrue a X.env whole=(do let v <-whole;zH3 a.pos;zD5 [v] (truthy v))):
  PT X a (λ σ H Q=>ta σ H λ x H'=>∃k,aKR X.K x H' k/\Q k H'):=by
 intro hV s σ H Q I h;exact isTrue_plain (thn (ha hV s σ H _ I h) λ v s1 ⟨x,H1,I1,r1,q1⟩=>aI1 hV s1 σ H1 x v Q I1 r1 q1) (he _)
def vals1(r:Vals [x] us):∃u,us=[u]/\RelV x u:=by
 cases r with
 |cons r1 r2=>cases r2;exact⟨_,rfl,r1⟩
def vals2(r:Vals [x,y] us):∃u w',us=[u,w']/\RelV x u/\RelV y w':=by
 cases r with
 |cons r1 r2=>
  cases r2 with
  |cons r3 r4=>cases r4;exact⟨_,_,rfl,r1,r3⟩
def aDM(hc:X.calm=true):cR X (.builtin "max") (λ xs H Q=>∃i j,xs=[.int i,.int j]/\Q (.int (if j>i then j else i)) H):=by
 intro hV s σ H xs us Q I r h;obtain⟨i,j,rfl,q⟩:=h;obtain⟨u,w',rfl,⟨t,rfl⟩,⟨t',rfl⟩⟩:=vals2 r;refine max_two_ints (I.ok.hd hc) λ h' tk k=>⟨_,H,I.kept k,?_,q⟩
 by_cases hj:j>i
 .rw[if_pos hj,if_pos hj];exact⟨_,rfl⟩
 .rw[if_neg hj,if_neg hj];exact⟨_,rfl⟩
def aDJ(hc:X.calm=true):cR X (.builtin "min") (λ xs H Q=>∃i j,xs=[.int i,.int j]/\Q (.int (if j<i then j else i)) H):=by
 intro hV s σ H xs us Q I r h;obtain⟨i,j,rfl,q⟩:=h;obtain⟨u,w',rfl,⟨t,rfl⟩,⟨t',rfl⟩⟩:=vals2 r;refine min_two_ints (I.ok.hd hc) λ h' tk k=>⟨_,H,I.kept k,?_,q⟩
 by_cases hj:j<i
 .rw[if_pos hj,if_pos hj];exact⟨_,rfl⟩
 .rw[if_neg hj,if_neg hj];exact⟨_,rfl⟩
end
structure aHd(h:Heap)(x dx C:Addr)(mA:Str->Option Value):Prop where
 obj:h.get? x=some (zBj C dx)
 ns:h.Ns1 dx mA
 ne:dx≠x
def aCt{h:Heap}{dx:Addr}{mA:Str->Option Value}(n:h.Ns1 dx mA):∃od,h.get? dx=some od/\∀name,zDh name od=some (mA name):=by
 obtain⟨o,es,ep,ho,hd,hk,_,hm⟩:=n;refine⟨o,ho,λ name=>?_⟩;have e:=hm name;unfold nsFind findBy at e;rw[<-Array.find?_toList]at e;unfold zDh;rw[hd];dsimp only;split
 .rename_i y q
  rw[q]at e;exact congrArg some e
 .rename_i q
  rw[q]at e;have a:es.toList.any (·.refKey)=false:=by
   rw[List.any_eq_false];intro y hy;obtain⟨z,t,hkey⟩:=hk y (Array.mem_toList_iff.mp hy);simp[DictEntry.refKey,hkey]
  have a':¬es.toList.any (·.refKey)=true:=by rw[a];exact zA6
  rw[if_neg a'];exact congrArg some e
def aHd.look(I:aHd h x dx C mA):∃od,zGi h x (zBj C dx) C (some od)/\∀name,zDh name od=some (mA name):=
 let⟨od,ho,hl⟩:=aCt I.ns
 ⟨od,⟨I.obj,rfl,rfl,ho⟩,hl⟩
section
variable{prog:zAU}{w:World}{A:zA8}{E:Value->zAD->Prop}{s:zAD}{K:zAA}{x dx C f:Addr}{mA:Str->Option Value}{name:Str}
def aFN(X:K.In s.heap)(I:aHd s.heap x dx C mA)(hg:zE1 K C name=true)
  (hf:zBM K (.ref C) name=some (some (.ref f)))(ht:zHP K (.ref f)=true)(hv:mA name=none)(h:Q (.ref f,[.ref x]) s):
  wpAny (model prog w) A (getMethod (.ref x) name pl) Q E s:=by
 obtain⟨od,J,hl⟩:=I.look;exact PySem.W.method_fn X J (zFr hg).1 (zFr hg).2 hf (beq_iff_eq.mp ht) (by show(zDh name od).map (·.isSome)=some false;rw[hl,hv];rfl) h
def make_map(X:K.In s.heap)(hm:PySem.W.makesIn K C=true)
  (hi:zBM K (.ref C) "__init__"=some (some (.ref f)))(hf:PySem.W.typeIn K (.ref f)=some (.type "function"))
  (h:zDP (model prog w) (A.under (.builtin "type.__call__" ⟨.ref C::vs,kw⟩)) (.call (.ref f) ⟨.ref (s.heap.objs.size+1)::vs,kw⟩) (PySem.W.InitBack (s.heap.objs.size+1) R)
   {s with heap:=(s.heap.push zBO).push (zBj C s.heap.objs.size)}):
  zDP (model prog w) A (.call (.ref C) ⟨vs,kw⟩) R s:=by
 obtain⟨hh,g,d,t,os⟩:=s;exact PySem.W.make_core (PySem.W.makes_of X hm) (zCe X hi) (λ self=>PySem.W.bind_fn X self hf) (.inl rfl) h
end
def mz.some_of(r:mz (some v) o):∃u,o=some u/\RelV v u:=by
 cases o with
 |none=>exact(show False from r).elim
 |some u=>exact⟨u,rfl,r⟩
def mz.none_of(r:mz none o):o=none:=by
 cases o with
 |none=>rfl
 |some u=>exact(show False from r).elim
section
variable{P:zAU}{w:World}{H:Hp}{h:Heap}{a C dx:Addr}{fs:List (Str×V)}
def aCL(hok:HOk P w H h)(e:H a=some (.ins C dx fs)):∃mA,aHd h a dx C mA/\(∀f,mz (fs.lookup f) (mA f))/\zHe mA (fs.map (·.1))/\fs.length<=1000/\H dx=some (.own a):=by
 obtain⟨d,z,ne,ob,mA,n,r,q⟩:=(show cB P w H h a (.ins C dx fs)from hok a _ e);exact⟨mA,⟨ob,n,ne⟩,r,q,z,d⟩
end
structure Cls(K:zAA)(C:Addr):Prop where
 pg:zE1 K C Str.empty=true
 hd:PySem.W.hasDictIn K C=true
 po:PySem.W.plainOver K C=true
 sa:zBM K (.ref C) "__setattr__"=some (some (.builtin "object.__setattr__"))
def Cls.get{K:zAA}{C:Addr}(c:Cls K C)(f:Str):zE1 K C f=true:=c.pg
def aKV(K:zAA)(C:Addr)(f:Str):Prop:=zBM K (.ref C) f=some none
structure Meth(K:zAA)(C:Addr)(m:Str)(f:Addr):Prop where
 at_:zBM K (.ref C) m=some (some (.ref f))
 fn:zHP K (.ref f)=true
 kp:zC5 K (.ref f)=true
section
variable{X:Cx}{hV:hZ}{σ:St}{H:Hp}{s:zAD}{a C dx:Addr}{fs:List (Str×V)}{A:zA8}{E:Value->zAD->Prop}
def aBW(I:Inv X hV σ H s)(e:H a=some (.ins C dx fs))(c:Cls X.K C)(k:Meth X.K C m g)(l:fs.lookup m=none)
  (h:Q (.ref g,[.ref a]) s):wpAny (model X.prog X.w) A (getMethod (.ref a) m pl) Q E s:=by
 obtain⟨mA,O,r,_,_,_⟩:=aCL I.hok e;have hn:mA m=none:=mz.none_of (by rw[<-l];exact r m);exact aFN I.kIn O (c.get m) k.at_ k.fn hn h
def Inv.made(I:Inv X hV σ H s):Inv X hV σ (upd (upd H s.heap.objs.size (.own (s.heap.objs.size+1))) (s.heap.objs.size+1) (.ins C s.heap.objs.size []))
  {s with heap:=(s.heap.push zBO).push (zBj C s.heap.objs.size)}:=by
 have e1:(s.heap.push zBO).get? s.heap.objs.size=some zBO:=zA5 s.heap rfl;have e2:((s.heap.push zBO).push (zBj C s.heap.objs.size)).get? (s.heap.objs.size+1)=some (zBj C s.heap.objs.size):=by
  have:=zA5 (s.heap.push zBO) (o:=zBj C s.heap.objs.size) rfl
  rwa [zCC]at this
 have e3:(s.heap.push zBO).Ns s.heap.objs.size (λ _=>none):=⟨zBO,#[],_,e1,rfl,(λ e he=>absurd he (by simp)),λ _=>rfl⟩;have I1:=I.laid (a:=s.heap.objs.size) (o:=.own (s.heap.objs.size+1)) (h':=s.heap.push zBO) (t':=s.toks) (λ b u q=>zAG _ q) (zAV _) ⟨_,e1⟩;refine I1.laid (a:=s.heap.objs.size+1) (o:=.ins C s.heap.objs.size []) (t':=s.toks) (λ b u q=>zAG _ q) (Nat.le_of_eq (zCC _ _)) ?_;have ne:s.heap.objs.size≠s.heap.objs.size+1:=zAd (zCm _);refine⟨by rw[aW ne,ak],zAi _,ne,e2,λ _=>none,(Heap.Ns1.of_empty e3).at λ o q=>zAG _ q,λ _=>zCO,λ y hy=>absurd rfl hy⟩
end
def tFld(K:zAA)(ta:TE)(f:Str):TE:=λ σ H Q=>ta σ H λ x H1=>∃a C dx fs v,x= .ref a/\H1 a=some (.ins C dx fs)/\Cls K C/\aKV K C f/\fs.lookup f=some v/\Q v H1
section
variable{X:Cx}{e:Expr}{f:Str}{pos:Pos}
def methcall_of(he:PE X e te)(I:Inv X hV σ H s)
  (h:te σ H λ x H1=>∃a C dx fs g,x= .ref a/\H1 a=some (.ins C dx fs)/\Cls X.K C/\Meth X.K C m g/\fs.lookup m=none/\
   ∀s1,Inv X hV σ H1 s1->wpAny (model X.prog X.w) X.A (callWith pos (.ref g) [.ref a] (zBp pos (zAW args X.env)) (zDK pos (zCF [] X.env))) Q X.xe s1)
  (ht:eval (.Call (.Attribute e m apos) args [] pos) X.env=(do
   let ov <-eval e X.env
   zH3 apos.atName
   let(f,first) <-zD5 [ov] (getMethod ov m pl)
   callWith pos f first (zBp pos (zAW args X.env)) (zDK pos (zCF [] X.env)))):
  wpAny (model X.prog X.w) X.A (eval (.Call (.Attribute e m apos) args [] pos) X.env) Q X.xe s:=by
 refine PySem.W.methodCall_KW (pl:=pl) (thn (he hV s σ H _ I h) λ u s1 ⟨x,H1,I1,rx,a,C,dx,fs,g,ex,ea,c,k,l,q⟩=>?_) ht;subst ex;obtain rfl:u=zBF a:=rx;exact aBW I1 ea c k l (q s1 I1)
end
section
variable{X:Cx}{hV:hZ}{σ:St}{H:Hp}{s:zAD}{A:zA8}{E:Value->zAD->Prop}{Q:Value->zAD->Prop}{c:Value}{b:Bool}
inductive qP(K:zAA)(H:Hp):V->Value->Prop where
 |non:qP K H .non (.type "NoneType")
 |bl (x:Bool):qP K H (.bl x) (.type "bool")
 |int (i:Int):qP K H (.int i) (.type "int")
 |str (x:Str):qP K H (.str x) (.type "str")
 |flt (x:UInt64):qP K H (.flt x) (.type "float")
 |lst {a:Addr} {xs:List V} (e:H a=some (.lst xs)):qP K H (.ref a) (.type "list")
 |frz {a:Addr} {o:Obj} {xs:List V} (e:H a=some (.frz o (.lst xs))):qP K H (.ref a) (.type "list")
 |tup {a:Addr} {xs:List V} (e:H a=some (.tup xs)):qP K H (.ref a) (.type "tuple")
 |dK {a:Addr} {kvs:List (Key×V)} (e:H a=some (.dK kvs)):qP K H (.ref a) (.type "dict")
 |dT {a:Addr} {kvs:List (List Key×V)} (e:H a=some (.dT kvs)):qP K H (.ref a) (.type "dict")
 |ins {a C dx:Addr} {fs:List (Str×V)} (e:H a=some (.ins C dx fs)) (cl:Cls K C) (ha:zBM K (.ref C) "__class__"=some (some (.builtin "object.__class__")))
   (hn:PySem.W.specialIn K (.builtin "object.__class__") "__get__"=some (some (.builtin "getset_descriptor.__get__"))) (htk:PySem.W.takesIn K (.builtin "object.__class__")=some true)
   (hm:PySem.W.mroIn K C (.type "object")=some true):qP K H (.ref a) (.ref C)
def aCx(I:Inv X hV σ H s)(rx:RelV x u)(ty:qP X.K H x t)(e:zDC X.K t c=some b)(h:∀tk,Q (.bool b) {s with toks:=tk}):
  wpAny (model X.prog X.w) A (call (.builtin "isinstance") [u,c]) Q E s:=by
 cases ty with
 |non=>cases (show u=zBX from rx);exact zAy PySem.W.kitx_none I.kIn zCO e (λ z=>nomatch z) h
 |bl y=>cases (show u=zDl y from rx);exact zAy PySem.W.kitx_bool I.kIn zCO e (λ z=>nomatch z) h
 |int i=>obtain⟨t,q⟩:=(show∃t,u=zCv i t from rx);cases q;exact zAy PySem.W.kitx_int I.kIn zCO e (λ z=>nomatch z) h
 |str y=>obtain⟨t,q⟩:=(show∃t,u=zFs y t from rx);cases q;exact zAy PySem.W.kitx_str I.kIn zCO e (λ z=>nomatch z) h
 |flt y=>obtain⟨t,q⟩:=(show∃t,u=zHo y t from rx);cases q;exact zAy PySem.W.kitx_float I.kIn zCO e (λ z=>nomatch z) h
 |@lst a xs ea=>
  cases (show u=zBF a from rx);obtain⟨_,_,n,_,h1⟩:=(show cB X.prog X.w H s.heap a (.lst xs)from I.hok a _ ea);exact zAy zGQ I.kIn ⟨_,h1,rfl⟩ e (λ z=>nomatch z) h
 |@frz a ob xs ea=>
  cases (show u=zBF a from rx);obtain⟨_,_,_,n,_,h1⟩:=(show cB X.prog X.w H s.heap a (.frz ob (.lst xs))from I.hok a _ ea);exact zAy zGQ I.kIn ⟨_,h1,rfl⟩ e (λ z=>nomatch z) h
 |@tup a xs ea=>
  cases (show u=zBF a from rx);obtain⟨_,_,_,p⟩:=(show cB X.prog X.w H s.heap a (.tup xs)from I.hok a _ ea);obtain⟨o,h1,h2,_⟩:=p;exact zAy zGI I.kIn ⟨o,h1,h2⟩ e (λ z=>nomatch z) h
 |@dK a kvs ea=>
  cases (show u=zBF a from rx);obtain⟨_,_,vs,_,p⟩:=(show cB X.prog X.w H s.heap a (.dK kvs)from I.hok a _ ea);obtain⟨o,es,ep,h1,h2,_⟩:=p;exact zAy zEP I.kIn ⟨o,h1,h2.1⟩ e (λ z=>nomatch z) h
 |@dT a kvs ea=>
  cases (show u=zBF a from rx);obtain⟨_,_,xs,_,o,es,ep,h1,h2,_⟩:=(show cB X.prog X.w H s.heap a (.dT kvs)from I.hok a _ ea);exact zAy zEP I.kIn ⟨o,h1,h2.1⟩ e (λ z=>nomatch z) h
 |@ins a C dx fs ea cl ha hn htk hm=>
  cases (show u=zBF a from rx);obtain⟨mA,O,_⟩:=aCL I.hok ea;obtain⟨od,J,_⟩:=O.look;exact zAy (PySem.W.kitx_own (cl.get _) cl.hd ha hn htk hm) I.kIn J e (λ z=>nomatch z) h
end
structure jC(k:Nat)(A:zA8):Prop where
 hd:A.handled=none
 dp:A.depth+3*k+5<zGS
 un:A.units+16*k+200<cLine
def jC.mono(r:jC k A)(h:j<=k):jC j A:=⟨r.hd,by have:=r.dp;lia,by have:=r.un;lia⟩
theorem jC.deeper(r:jC (k+1) A)(env:Env):jC k (A.deeper env):=
 ⟨r.hd,by have:=r.dp;show A.depth+1+3*k+5<_;lia,by have:=r.un;show A.units+3+16*k+200<_;lia⟩
theorem jC.depth(r:jC k A):A.depth<zGS:=by have:=r.dp;lia
theorem jC.units(r:jC k A):A.units+64<cLine:=by have:=r.un;lia
def jC.units0(r:jC k A):A.units<cLine:=by have:=r.un;lia
def kY:TA:=λ _ H Q=>Q [] H
def gm(ta:TE)(tr:TA):TA:=λ σ H Q=>ta σ H λ x H1=>tr σ H1 λ xs H2=>Q (x::xs) H2
section
variable{X:Cx}{e:Expr}{es:List Expr}{te:TE}{t:TA}{pos:Pos}
def eN:PA X [] kY:=λ _ _ _ _ H Q I h=>zG0 ⟨[],H,I,.nil,h⟩
def cH(ha:PE X e te)(hr:PA X es t)(hs:zAW (e::es) X.env=(false,eval e X.env)::zAW es X.env:=by rfl):PA X (e::es) (gm te t):=by
 intro pos hV s σ H Q I h;rw[hs];show wpAny _ _ (spliced ((false,eval e X.env)::zBp pos (zAW es X.env))) _ _ s;refine zEL (thn (ha hV s σ H _ I h) λ u s1 ⟨x,H1,I1,r1,q1⟩=>?_);exact thn (hr pos hV s1 σ H1 _ I1 q1) λ us s2 ⟨xs,H2,I2,r2,q2⟩=>⟨x::xs,H2,I2,.cons r1 r2,q2⟩
def aL1(t:TA):TE:=λ σ H Q=>t σ H λ xs H1=>xs.length<=zAR/\∀p,H1 p=none->Q (.ref p) (upd H1 p (.tup xs))
def aL6(t:TA):TE:=λ σ H Q=>t σ H λ xs H1=>xs.length<=zAR/\∀p,H1 p=none->Q (.ref p) (upd H1 p (.lst xs))
def aJH{x1}(h:PA X es t):PE X (.Tuple es x1 pos) (aL1 t):=by
 intro hV s σ H Q I hq;refine wpAny_Tuple_spliced (thn (h pos hV s σ H _ I hq) λ us s1 ⟨xs,H1,I1,r,z,q⟩=>⟨by rw[<-r.length];exact z,?_⟩);have hf:H1 s1.heap.objs.size=none:=I1.hok.fresh (zAV _);refine⟨.ref s1.heap.objs.size,upd H1 s1.heap.objs.size (.tup xs),I1.laid (t':=s1.toks) (λ b u e=>zAG _ e) (zAV _) ?_,rfl,q _ hf⟩;exact⟨⟨z,NoD.push _⟩,us,r,⟨_,zA5 _ rfl,rfl,_,rfl⟩⟩
def aJM(h:PA X es t):PE X (.List es pos) (aL6 t):=by
 intro hV s σ H Q I hq;refine wpAny_List_spliced (thn (h pos hV s σ H _ I hq) λ us s1 ⟨xs,H1,I1,r,z,q⟩=>⟨by rw[<-r.length];exact z,?_⟩);have hf:H1 s1.heap.objs.size=none:=I1.hok.fresh (zAV _);refine⟨.ref s1.heap.objs.size,upd H1 s1.heap.objs.size (.lst xs),I1.laid (t':=s1.toks) (λ b u e=>zAG _ e) (zAV _) ?_,rfl,q _ hf⟩;exact⟨z,us,0,r,zA5 _ rfl⟩
end
abbrev Sp:=List V->Hp->VK->XK->Prop
abbrev CXT:=List Env->Hp->zAD->XK->Value->zAD->Prop
structure aFe(P:zAU)(w:World)(K:zAA)(mg:Str->Option Value)(base:Heap)(A:zA8)(outer:List Env)(s:zAD)(H:Hp):Prop where
 frames:A.frames=some outer
 mod:Mod K mg base
 bs:∀b o,base.get? b=some o->s.heap.get? b=some o/\H b=none
 bsz:base.objs.size<=s.heap.objs.size
 funs:s.heap.FunFrames base outer
 frf:∀b∈frs outer,H b=none
 hok:HOk P w H s.heap
 bare:zEK s.gens
def CE(outer:List Env)(P:zAU)(w:World)(H:Hp)(s:zAD)(Q:VK)(u:Value)(s':zAD):Prop:=
 ∃v H',s'.os=s.os/\zEK s'.gens/\Un (frs outer) [] H H' s.heap s'.heap/\HOk P w H' s'.heap/\RelV v u/\Q v H'
def CR(CX:CXT)(outer:List Env)(P:zAU)(w:World)(H:Hp)(s:zAD)(Q:VK)(E:XK)(r:zE2)(s':zAD):Prop:=
 match r with
 | .ok (.ret u)=>CE outer P w H s Q u s'
 | .ok _=>False
 | .error e=>CX outer H s E e s'
structure cG(P:zAU)(w:World)(K:zAA)(mg:Str->Option Value)(base:Heap)(CX:CXT)(k:Nat)(f:Addr)(fd:zAc)(ps:List Str)(sp:Sp):Prop where
 len:∀vs H Q E,sp vs H Q E->vs.length=ps.length
 run:∀(A:zA8) (outer:List Env) (s:zAD) (H:Hp) (args:Args) (us:List Value) (vs:List V) (Q:VK) (E:XK),jC k A->aFe P w K mg base A outer s H->zEx s fd args (ps.zip us)->Vals vs us->sp vs H Q E->
  zDP (model P w) A (.call (.ref f) args) (CR CX outer P w H s Q E) s
def cG.imp{P:zAU}{w:World}{K:zAA}{mg:Str->Option Value}{base:Heap}{CX:CXT}{k:Nat}{f:Addr}{fd:zAc}{ps:List Str}{sp sp':Sp}(F:cG P w K mg base CX k f fd ps sp)
  (h:∀vs H Q E,sp' vs H Q E->sp vs H Q E):cG P w K mg base CX k f fd ps sp':=
 ⟨λ vs H Q E q=>F.len vs H Q E (h _ _ _ _ q),λ A outer s H args us vs Q E hr he hb hv hs=>F.run A outer s H args us vs Q E hr he hb hv (h _ _ _ _ hs)⟩
section
variable{X:Cx}{hV:hZ}{σ:St}{H:Hp}{s s':zAD}
def Inv.env0(I:Inv X hV σ H s):aFe X.prog X.w X.K X.mg X.base X.A X.stack s H:=
 ⟨I.ok.frames,I.ok.mod,I.bs,zAf I.ok.bsz I.sz,I.stack,I.stkFree,I.hok,I.bare⟩
def Inv.after(I:Inv X hV σ H s)(h:CE X.stack X.prog X.w H s Q u s'):EP X hV σ Q u s':=by
 obtain⟨v,H',os,bare,un,hok,r,q⟩:=h;obtain⟨hh,g,d,t,os'⟩:=s';obtain rfl:os'=s.os:=os;exact⟨v,H',I.call (h':=hh) (g':=g) (d':=d) (t':=t) (ch:=[]) un hok bare (λ b z=>absurd z (by simp)),r,q⟩
end
def aHl(sp:Sp)(dvs:List V)(E:XK)(t:TA):TE:=λ σ H Q=>t σ H λ vs H1=>sp (vs++dvs) H1 Q E
def tMeth(C:Addr)(m:Str)(sp:Sp)(dvs:List V)(E:XK)(ta:TE)(t:TA):TE:=λ σ H Q=>ta σ H λ x H1=>∃a dx fs,x= .ref a/\H1 a=some (.ins C dx fs)/\fs.lookup m=none/\
 t σ H1 λ vs H2=>sp (x::(vs++dvs)) H2 Q E
def tMake(C:Addr)(sp:Sp)(dvs:List V)(E:XK)(t:TA):TE:=λ σ H Q=>t σ H λ vs H1=>∀x dx,H1 x=none->H1 dx=none->dx≠x->
 sp (.ref x::(vs++dvs)) (upd (upd H1 dx (.own x)) x (.ins C dx [])) (λ v H2=>v= .non/\Q (.ref x) H2) E
def Binds(K:zAA)(fd:zAc)(ps:List Str)(ds:List Value):Prop:=
 ∀(s:zAD) (us:List Value),K.In s.heap->(us++ds).length=ps.length->zEx s fd ⟨us,[]⟩ (ps.zip (us++ds))
def Binds.all{K:zAA}{fd:zAc}{ps:List Str}(h:∀us:List Value,us.length=ps.length->bindArgs fd ⟨us,[]⟩=pure (ps.zip us)):Binds K fd ps []:=λ s us _ hl=>by
 rw[zAo]at hl ⊢;exact .of_eq (h us hl)
def yf(CX:CXT)(X:Cx)(E:XK):Prop:=∀(hV:hZ) (σ:St) (H:Hp) (s:zAD) (e:Value) (s':zAD),Inv X hV σ H s->CX X.stack H s E e s'->X.xe e s'
section
variable{X:Cx}{CX:CXT}{k:Nat}{f:Addr}{fd:zAc}{ps:List Str}{sp:Sp}{dvs:List V}{ds:List Value}{E:XK}{x:Str}{p pos:Pos}{e:Expr}{es:List Expr}{t:TA}
def aIj(F:cG X.prog X.w X.K X.mg X.base CX k f fd ps sp)(hr:jC k X.A)(hb:Binds X.K fd ps ds)(hd:Vals dvs ds)(hx:yf CX X E)
  (I:Inv X hV σ H s)(r:Vals vs us)(h:sp (vs++dvs) H Q E):wpAny (model X.prog X.w) X.A (call (.ref f) us) (EP X hV σ Q) X.xe s:=by
 have r2:Vals (vs++dvs) (us++ds):=r.append hd;have hl:(us++ds).length=ps.length:=by rw[<-r2.length];exact F.len _ _ _ _ h
 refine wpAny_call (zFc (F.run X.A X.stack s H ⟨us,[]⟩ (us++ds) (vs++dvs) Q E hr I.env0 (hb s us I.kIn hl) r2 h) λ r s' hq=>?_);cases r with
 |error e=>exact hx hV σ H s e s' I hq
 |ok fl=>
  cases fl with
  |ret u=>exact I.after hq
  |next=>exact zAH hq
  |brk=>exact zAH hq
  |cont=>exact zAH hq
def aG3(F:cG X.prog X.w X.K X.mg X.base CX k f fd ps sp)(hr:jC k X.A)(hg:Gl X x)(hm:X.mg x=some (.ref f))(hk:zC5 X.K (.ref f)=true)(hb:Binds X.K fd ps ds)(hd:Vals dvs ds)(hx:yf CX X E)
  (ha:PA X (e::es) t)(hdb:Nd x:=by decide)(he:zAW (e::es) X.env=(false,eval e X.env)::zAW es X.env:=by rfl)(hpl:(zBp pos (zAW es X.env)).any (·.1)=false:=by rfl):
  PE X (.Call (.Name x p) (e::es) [] pos) (aHl sp dvs E t):=by
 intro hV s σ H Q I h;refine zDX (xr I hg hm ?_ hdb);refine PySem.W.callWith_K (h₀:=X.base) I.ok.mod.kin hk (thn (ha pos hV s σ H _ I h) λ us s1 ⟨vs,H1,I1,r,q⟩=>⟨I1.kIn,?_⟩) he hpl;exact aIj F hr hb hd hx I1 r q
end
structure ao(N P:List Str)(sc:Scope):Prop where
 kind:sc.kind= .function
 co:sc.isCoroutine=false
 gen:sc.isGenerator=false
 nd:N.Nodup
 pre:N.take P.length=P
 par:∀x∈P,sc.names.lookup x=some .local\/sc.names.lookup x=some .cell
 nofree:∀y∈sc.names,y.2≠.free
theorem wM{zCk:Str->Option zDH}{x:Str}:∀{binds:List (Str×Value)} {m:Str->Option Value},(∀v,(x,v)∉binds)->bindL zCk binds m x=m x
 |[],_,_=>rfl
 |(n,v)::r,m,h=>by
  unfold bindL;rw[wM λ w hw=>h w (zAB _ hw)];split
  .have:x≠n:=by rintro rfl;exact h v zAE
   simp[this]
  .rfl
theorem wO{zCk:Str->Option zDH}{x:Str}:∀{binds:List (Str×Value)} {m:Str->Option Value},(∀v,(x,v)∉binds)->bindC zCk binds m x=m x
 |[],_,_=>rfl
 |(n,v)::r,m,h=>by
  unfold bindC;rw[wO λ w hw=>h w (zAB _ hw)];split
  .rfl
  .have:x≠n:=by rintro rfl;exact h v zAE
   simp[this]
theorem wN{zCk:Str->Option zDH}{x:Str}{v:Value}:∀{P:List Str} {vs:List Value} {i:Nat} {m:Str->Option Value},P.Nodup->P[i]? =some x->vs[i]? =some v->zCk x=some .local->
  bindL zCk (P.zip vs) m x=some v
 |[],_,_,_,_,h,_,_=>by simp at h
 |_::_,[],_,_,_,_,h,_=>by simp at h
 |p::P,w::vs,0,m,nd,h1,h2,hk=>by
  simp at h1 h2;subst h1;subst h2;show bindL zCk ((p,w)::P.zip vs) m p=_;unfold bindL;rw[wM λ v hv=>(zA9.mp nd).1 (zDf hv).1,if_pos hk];simp
 |p::P,w::vs,i+1,m,nd,h1,h2,hk=>by
  show bindL zCk ((p,w)::P.zip vs) m x=_;unfold bindL;exact wN (i:=i) (zA9.mp nd).2 (by simpa using h1) (by simpa using h2) hk
theorem wQ{zCk:Str->Option zDH}{x:Str}{v:Value}:∀{P:List Str} {vs:List Value} {i:Nat} {m:Str->Option Value},P.Nodup->P[i]? =some x->vs[i]? =some v->zCk x≠some .local->
  bindC zCk (P.zip vs) m x=some v
 |[],_,_,_,_,h,_,_=>by simp at h
 |_::_,[],_,_,_,_,h,_=>by simp at h
 |p::P,w::vs,0,m,nd,h1,h2,hk=>by
  simp at h1 h2;subst h1;subst h2;show bindC zCk ((p,w)::P.zip vs) m p=_;unfold bindC;rw[wO λ v hv=>(zA9.mp nd).1 (zDf hv).1,if_neg hk];simp
 |p::P,w::vs,i+1,m,nd,h1,h2,hk=>by
  show bindC zCk ((p,w)::P.zip vs) m x=_;unfold bindC;exact wQ (i:=i) (zA9.mp nd).2 (by simpa using h1) (by simpa using h2) hk
def start(N:List Str)(vs:List V):St:=vs.map some++zAN (N.length-vs.length) none
def aAJ(CX:CXT)(P:zAU)(w:World)(K:zAA)(mg:Str->Option Value)(base:Heap)(N:List Str)(qual:Str)(scope:Scope)(f:Addr)(cd:Value)(A:zA8)(outer:List Env)(s:zAD)(H:Hp)(E:XK):Cx where
 prog:=P
 w:=w
 K:=K
 mg:=mg
 base:=base
 A:=A.deeper (zDx qual scope s.heap.objs.size f cd)
 N:=N
 z5:=s
 zS:=H
 env:=zDx qual scope s.heap.objs.size f cd
 outer:=outer
 stack:=zDx qual scope s.heap.objs.size f cd::outer
 ex:=[]
 calm:=true
 fn:=λ _=>true
 pn:=[]
 xe:=λ e s'=>wpAny (model P w) (A.deeper (zDx qual scope s.heap.objs.size f cd)) (leaving (zDx qual scope s.heap.objs.size f cd) e) (λ _ s''=>CX outer H s E e s'') (λ e' s''=>CX outer H s E e' s'') s'
def pH{sc:Scope}{n:Nat}{x:Str}(h:sc.names.lookup x=some .cell):∃c,(zDO n sc.names []).lookup x=some c:=by
 have q:=zFZ sc.names n [] (.inl h);exact Option.isSome_iff_exists.mp q
def aCz{CX:CXT}{P:zAU}{w:World}{K:zAA}{mg:Str->Option Value}{base:Heap}{N ps:List Str}{qual:Str}{scope:Scope}{f:Addr}{cd:Value}{A:zA8}{outer:List Env}{s s1:zAD}{H:Hp}{E:XK}{us:List Value}{vs:List V}
  (S:ao N ps scope)(hd:A.handled=none)(e0:aFe P w K mg base A outer s H)(hl:vs.length=ps.length)(r:Vals vs us)
  (x:InCallC s s.heap.objs.size (bindL (zDx qual scope s.heap.objs.size f cd).kindOf (ps.zip us) λ _=>none) (zDO (s.heap.objs.size+1) scope.names []) (bindC (zDx qual scope s.heap.objs.size f cd).kindOf (ps.zip us) λ _=>none) s1):
  Inv (aAJ CX P w K mg base N qual scope f cd A outer s H E) [] (start N vs) H s1:=by
 have hpl:ps.length<=N.length:=by have:=congrArg zEH S.pre;rw[zD1]at this;lia
 obtain⟨h1,tk,rfl,hk⟩:=x.done;have noA:∀b:Addr,b∉(aAJ CX P w K mg base N qual scope f cd A outer s H E).ex:=λ b z=>absurd (show b∈([]:List Addr)from z) (by simp)
 refine⟨⟨e0.mod,S.kind,rfl,rfl,zAV _,λ y z c h1 h2=>?_,λ y hy=>?_,λ y c _ h=>?_,λ _=>hd,Around.frames_deeper e0.frames,.inr ⟨rfl,rfl⟩,λ b z=>absurd z (noA b),e0.bs,e0.bsz,λ b _ _=>noA b,λ b z=>absurd z (noA b),e0.funs,e0.frf⟩,
  rfl,e0.bare,Un.kept hk,⟨_,x.toInCall.ns,λ i y v h1 h2 h3=>?_⟩,λ y c h=>⟨_,x.cell y c h⟩,e0.hok.fresh (zAV _),λ y c h=>?_,λ p hp=>absurd (show p∈([]:hZ)from hp) (by simp),e0.hok.kept hk,?_,λ p hp=>absurd (show p∈([]:hZ)from hp) (by simp)⟩
 .exact name_of_addr x.apart (zAp h1) (zAp h2)
 .have hy:scope.names.lookup y=some .cell\/scope.names.lookup y=some .free:=hy
  rcases hy with hy|hy
  .exact pH hy
  .exact absurd rfl (S.nofree _ (zAp hy))
 .exact zBf (x.above y c (zAp h))
 .have hi:i<vs.length:=by
   unfold start at h2;by_cases hi:i<vs.length
   .exact hi
   .rw[zDD (by simpa using hi)]at h2
    rw[zC4]at h2;split at h2<;>cases h2
  have ha:vs[i]? =some v:=by
   unfold start at h2;rw[zBh (by simpa using hi),zAP]at h2;cases e:vs[i]? with
   |none=>rw[e]at h2;cases h2
   |some a=>rw[e]at h2;cases h2;rfl
  obtain⟨u,hu,rv⟩:=r.get ha;have hp:ps[i]? =some y:=by
   rw[<-S.pre,List.getElem?_take_of_lt (by lia)];exact h1
  have ndP:ps.Nodup:=by rw[<-S.pre];exact S.nd.sublist (List.take_sublist _ _)
  refine⟨u,rv,?_⟩;rcases S.par y (zAl hp)with k|k
  .exact .inl ⟨k,wN ndP hp hu k⟩
  .obtain⟨c,e⟩:=pH (n:=s.heap.objs.size+1) k
   refine .inr ⟨.inl k,c,e,?_⟩;have q:=x.cell y c e;rw[wQ ndP hp hu (by show scope.names.lookup y≠_;rw[k];decide)]at q;exact q
 .exact e0.hok.fresh (zBf (x.above y c (zAp h)))
 .unfold start
  show _=N.length;rw[zAT,zAF,zCJ];lia
def aLL{CX:CXT}{P:zAU}{w:World}{K:zAA}{mg:Str->Option Value}{base:Heap}{k:Nat}{f:Addr}{name qual:Str}{params:zEb}{body:List Stmt}{scope:Scope}{dV kV doc pm cdv ct oc:Value}{an od:Option Addr}
  {osl:Array (Option Value)}{N ps:List Str}{sp:Sp}(lk:K.lookup f=some ⟨oc,od,.func (zBn name qual params body scope dV kV doc pm an cdv ct),osl⟩)(hcd:zDB K cdv qual=true)(S:ao N ps scope)
  (len:∀vs H Q E,sp vs H Q E->vs.length=ps.length)
  (hbody:∀(A:zA8) (outer:List Env) (s:zAD) (H:Hp) (vs:List V) (Q:VK) (E:XK),jC k (A.deeper (zDx qual scope s.heap.objs.size f cdv))->sp vs H Q E->
   ∃t,PSs (aAJ CX P w K mg base N qual scope f cdv A outer s H E) body t/\t {nx:=λ _ H'=>Q .non H',rt:=Q} (start N vs) H):
  cG P w K mg base CX (k+1) f (zBn name qual params body scope dV kV doc pm an cdv ct) ps sp:=by
 refine⟨len,λ A outer s H args us vs Q E hr e0 hb r hsp=>?_⟩;have hl:=len _ _ _ _ hsp;have KX:K.In s.heap:=e0.mod.kin.keeps λ b o e=>(e0.bs b o e).1
 have lim:s.heap.NoLimit:=e0.mod.nolimit.keeps λ b o e=>(e0.bs b o e).1
 have hkind:∀y∈ps.zip us,scope.names.lookup y.1=some .local\/(scope.names.lookup y.1=some .cell/\((zDO (s.heap.objs.size+1) scope.names []).lookup y.1).isSome=true):=λ⟨n,v⟩ hy=>by
  rcases S.par n (zDf hy).1 with q|q
  .exact .inl q
  .exact .inr ⟨q,zFZ _ _ _ (.inl q)⟩
 refine codeAny_call_function hr.depth (KX _ _ lk) rfl S.co S.gen rfl (PySem.W.codeRec_of KX hcd) (hb _ _ _ _ ?_);refine wpAny_newFunctionEnv_cells S.kind hkind λ env he s1 x=>?_
 subst he;refine⟨lim.keeps x.toInCall.keep,codeAny_func ?_⟩;obtain⟨t,ht,hq⟩:=hbody A outer s H vs Q E (hr.deeper _) hsp;have I:Inv (aAJ CX P w K mg base N qual scope f cdv A outer s H E) [] (start N vs) H s1:=aCz S hr.hd e0 hl r x;refine zBa (ht [] s1 (start N vs) H _ I hq) (λ fl s' hs=>?_) λ e s' hs=>hs
 have fin:∀{σ':St} {H':Hp} {v:V} {u:Value},Inv (aAJ CX P w K mg base N qual scope f cdv A outer s H E) [] σ' H' s'->RelV v u->Q v H'->CE outer P w H s Q u s':=
  λ{σ' H' v u} J rv q=>⟨v,H',J.os,J.bare,J.base,J.hok,rv,q⟩
 cases fl with
 |ret u=>
  obtain⟨v,σ',H',J,rv,q⟩:=hs;exact fin J rv q
 |next=>
  obtain⟨σ',H',J,q⟩:=hs;exact fin (v:=V.non) (u:=zBX) J rfl q
 |brk=>
  obtain⟨_,_,_,q⟩:=hs;exact zAH q
 |cont=>
  obtain⟨_,_,_,q⟩:=hs;exact zAH q
section
variable{X:Cx}{x:Str}{p pos:Pos}{e:Expr}{es:List Expr}{t:TA}{id T:String}{r:List V->Hp->VK->Prop}
def tCB(r:List V->Hp->VK->Prop)(t:TA):TE:=λ σ H Q=>t σ H λ vs H1=>r vs H1 Q
def lH(hc:cR X (.builtin id) r)(hg:Gl X x)(hm:X.mg x=none)(hv:zAq x=some (.builtin id))(ha:PA X (e::es) t)(hn:x≠"__name__":=by decide)(hdb:Nd x:=by decide)
  (he:zAW (e::es) X.env=(false,eval e X.env)::zAW es X.env:=by rfl)(hpl:(zBp pos (zAW es X.env)).any (·.1)=false:=by rfl):PE X (.Call (.Name x p) (e::es) [] pos) (tCB r t):=by
 intro hV s σ H Q I h;refine zDX (qH I hg hm hv ?_ hn hdb);exact PyProof.Rows.callWith_builtin1 (thn (ha pos hV s σ H _ I h) λ us s1 ⟨vs,H1,I1,r1,q1⟩=>hc hV s1 σ H1 vs us Q I1 r1 q1) he hpl
def iD(hc:cR X (.type T) r)(hg:Gl X x)(hm:X.mg x=none)(hv:zAq x=some (.type T))(ha:PA X (e::es) t)(hn:x≠"__name__":=by decide)(hdb:Nd x:=by decide)
  (he:zAW (e::es) X.env=(false,eval e X.env)::zAW es X.env:=by rfl)(hpl:(zBp pos (zAW es X.env)).any (·.1)=false:=by rfl):PE X (.Call (.Name x p) (e::es) [] pos) (tCB r t):=by
 intro hV s σ H Q I h;refine zDX (qH I hg hm hv ?_ hn hdb);exact zC8 (thn (ha pos hV s σ H _ I h) λ us s1 ⟨vs,H1,I1,r1,q1⟩=>hc hV s1 σ H1 vs us Q I1 r1 q1) he hpl
def aAs(hc:cR X (.type T) r)(hg:Gl X x)(hm:X.mg x=none)(hv:zAq x=some (.type T))(hn:x≠"__name__":=by decide)(hdb:Nd x:=by decide):
  PE X (.Call (.Name x p) [] [] pos) (tCB r kY):=by
 intro hV s σ H Q I h;refine zDX (qH I hg hm hv ?_ hn hdb);exact PyProof.Rows.callWith_type0 (hc hV s σ H [] [] Q I .nil h)
end
end L2
namespace HT
open PySem PyProof.Rows
def lexLt:List Int->List Int->Bool
 |[],[]=>false
 |[],_::_=>true
 |_::_,[]=>false
 |x::xs,y::ys=>if x=y then lexLt xs ys else decide (x<y)
def iY(x y:Int)(xs ys:List Int):lexLt (x::xs) (y::ys)=if x=y then lexLt xs ys else decide (x<y):=rfl
def vK:lexLt [] []=false:=rfl
def uO(y:Int)(ys:List Int):lexLt [] (y::ys)=true:=rfl
def uP(x:Int)(xs:List Int):lexLt (x::xs) []=false:=rfl
def aAA(A:zA8)(s:zAD)(a:Int)(t:Tok)(c:Int)(u:Tok):∃e,zBk A s (.int a t) (.int c u) e/\(e=true↔a=c):=
 ⟨(a==c),zDi a t c u,by simp⟩
def aEC(A:zA8)(s:zAD)(a:Int)(t:Tok)(c:Int)(u:Tok)(prog:zAU)(w:World)(E:Value->zAD->Prop)(Q:Value->zAD->Prop)(h:Q (.bool (decide (a<c))) s):
  wpAny (model prog w) A (zFy .Lt (.int a t) (.int c u)) Q E s:=
 (zEp h:wpAny (model prog w) A (zAw .Lt (.int a t) (.int c u)) Q E s)
section
open PySem.SeqAt
open PySem.AutoSeq1(wpAny_loadPart')
open PySem.MeetsSeq PySem.MeetsSeq2 PySem.MeetsSeq3
def vB(l b:Addr)(items items2:Array Value)(n n2:Nat)(dd dd2:Option Addr)(sl sl2:Array (Option Value))(ns ms:List Int)(hi:zBK items.toList ns)(hj:zBK items2.toList ms):
  Meets (zDm.«tuple.__lt__» ⟨[.ref l,.ref b],[]⟩)
   (λ _ R s=>s.heap.get? l=some {cls:=.type "tuple",dict:=dd,data:=.seq items n,slots:=sl}/\s.heap.get? b=some {cls:=.type "tuple",dict:=dd2,data:=.seq items2 n2,slots:=sl2}/\
    R (.ok (.ret (.bool (lexLt ns ms)))) s):=
 .of_wp λ prog w A R s h=>by
  obtain⟨hp,g,d,tk,os⟩:=s;obtain⟨hl,hb,h⟩:=h;have f2:=zEd;have z1:items.size=ns.length:=by rw[<-hi.length];simp
  have z2:items2.size=ms.length:=by rw[<-hj.length];simp
  wp_walk using zCQ hl,zCQ hb,wpAny_forIn_list _ (λ rest b s'=>b.1=none/\s'=⟨hp,g,d,tk,os⟩/\∃(vs ws:List Value) (ns' ms':List Int),rest=vs.zip ws/\
   zBK vs ns'/\zBK ws ms'/\ns'.length+items2.size=ms'.length+items.size/\R (.ok (.ret (.bool (lexLt ns' ms')))) ⟨hp,g,d,tk,os⟩) _
  case turn=>
   rintro⟨y,x⟩ rest b s' ⟨hb',rfl,vs,ws,ns',ms',hz,hvi,hwi,hW,hR⟩;cases hvi with
   |nil=>rw[zGh]at hz;cases hz
   |cons a t hvi'=>
    cases hwi with
    |nil=>rw[zG4]at hz;cases hz
    |cons c u hwi'=>
     rw[zBY]at hz;injection hz with hyx hrest
     injection hyx with hy hx
     subst hy hx;rw[iY]at hR;simp only[zA4]at hW;obtain⟨e,he,hiff⟩:=aAA A.in1 ⟨hp,g,d,tk,os⟩ a t c u;refine zAY (he prog w _ _ ?_);cases e with
     |true=>
      rw[if_pos (hiff.mp rfl)]at hR;wp_walk;exact⟨rfl,rfl,_,_,_,_,hrest,hvi',hwi',by lia,hR⟩
     |false=>
      rw[if_neg (λ q=>absurd (hiff.mpr q) zA6)]at hR;have hri:=aEC A.in1 ⟨hp,g,d,tk,os⟩ a t c u prog w;wp_walk using hri;exact⟨_,rfl,by simpa using hR⟩
  case fin=>
   rintro⟨b1,b2⟩ s' ⟨hb',rfl,vs,ws,ns',ms',hz,hvi,hwi,hW,hR⟩;simp only at hb';subst hb';have hv:lexLt ns' ms'=decide (items.size<items2.size):=by
    cases hvi with
    |nil=>
     cases hwi with
     |nil=>
      simp only[zB5]at hW;rw[vK];exact(decide_eq_false (by lia)).symm
     |cons c u hw=>
      simp only[zB5,zA4]at hW;rw[uO];exact(decide_eq_true (by lia)).symm
    |cons a t hv=>
     cases hwi with
     |nil=>
      simp only[zB5,zA4]at hW;rw[uP];exact(decide_eq_false (by lia)).symm
     |cons c u hw=>
      rw[zBY]at hz;cases hz
   rw[hv]at hR;wp_walk;exact⟨_,rfl,by simpa[zDb]using hR⟩
  case h=>
   exact⟨rfl,rfl,items.toList,items2.toList,ns,ms,rfl,hi,hj,by lia,h⟩
end
section
variable{prog:zAU}{w:World}{A:zA8}{E:Value->zAD->Prop}{s:zAD}
def aBF(hl:IsTup s.heap l items)(hb:IsTup s.heap b items2)(hi:zBK items.toList ns)(hj:zBK items2.toList ms)
  (hu:A.units<cLine)(h:Q (.bool (lexLt ns ms)) s):wpAny (model prog w) A (zAw .Lt (.ref l) (.ref b)) Q E s:=by
 obtain⟨⟨cls,dd,data,sl⟩,ho,hc,n,hd⟩:=id hl;obtain⟨⟨cls2,dd2,data2,sl2⟩,ho2,hc2,n2,hd2⟩:=id hb;simp only at hc hd hc2 hd2;subst hc hd hc2 hd2;exact zGk (op:=.Lt) ⟨_,ho,rfl⟩ ⟨_,ho2,rfl⟩ PySem.F.slot_tuple_lt PySem.F.entry_tuple_lt (PySem.F.args_tuple_lt_2 _ _) (vB l b items items2 n n2 dd dd2 sl sl2 ns ms hi hj)
  ⟨ho,ho2,show zDl (lexLt ns ms)≠zDt/\Q (.bool (lexLt ns ms)) s from⟨(λ x=>nomatch x),h⟩⟩ hu
def aH3(ht:IsTup s.heap t vs.toArray)(hb:IsTup s.heap b ws.toArray)(hv:vs≠[])
  (h1:ws=[]->Q (.ref t) s)(h2:ws≠[]->Q (.ref s.heap.objs.size) {s with heap:=s.heap.push {cls:=.type "tuple",data:=.seq (vs++ws).toArray}})
  (hsz:vs.length+ws.length<=zAR):wpAny (model prog w) A (zBd .Add (.ref t) (.ref b)) Q E s:=by
 obtain⟨⟨cls,dd,data,sl⟩,ho,hc,n,hd⟩:=id ht;obtain⟨⟨cls2,dd2,data2,sl2⟩,ho2,hc2,n2,hd2⟩:=id hb;simp only at hc hd hc2 hd2;subst hc hd hc2 hd2;have e:vs.toArray++ws.toArray=(vs++ws).toArray:=by simp
 by_cases hw:ws=[]
 .exact zHG ⟨_,ho,rfl⟩ ⟨_,ho2,rfl⟩ zFi zGb zDS zDN (zDI _ _)
   (tuple_addW1 t b vs.toArray ws.toArray n n2 dd dd2 sl sl2 (by simpa using hv) (by simp[hw])) ⟨ho,ho2,h1 hw⟩
 .refine zHG ⟨_,ho,rfl⟩ ⟨_,ho2,rfl⟩ zFi zGb zDS zDN (zDI _ _)
   (tuple_addW2 t b vs.toArray ws.toArray n n2 dd dd2 sl sl2 (by simpa using hv) (by simpa using hw) (by rw[zAL,zAL];exact hsz)) ⟨ho,ho2,?_⟩
  rw[e];exact h2 hw
end
end HT
namespace L2
open PySem PySem.Spec PyProof.Rows
abbrev TO:=St->Hp->(Option Int->Hp->Prop)->Prop
def intsAre_of:∀{us:List Value},Vals (ns.map V.int) us->zBK us ns:=by
 induction ns with
 |nil=>intro us r;rw[zDF]at r;cases r;exact .nil
 |cons n ns ih=>
  intro us r;rw[zAC]at r;cases r with
  |cons r1 r2=>
   obtain⟨t,e⟩:=r1;subst e;exact .cons n t (ih r2)
section
variable{X:Cx}{p2:Pos}
def aGK(K:zAA):R2:=λ x y H Q=>∃a b ns ms,x= .ref a/\y= .ref b/\SqT K H a (ns.map V.int)/\SqT K H b (ms.map V.int)/\Q (.bl (HT.lexLt ns ms)) H
def aJY(hu:X.A.units<cLine):OpR X (zAw .Lt) (aGK X.K):=by
 intro hV s σ H x y v u Q I rx ry h;obtain⟨a,b,ns,ms,rfl,rfl,ha,hb,q⟩:=h;cases rx;cases ry;obtain⟨its,r1,p1,_⟩:=I.tuple ha;obtain⟨its2,r2,p2,_⟩:=I.tuple hb;have i1:zBK its.toArray.toList ns:=intsAre_of r1;have i2:zBK its2.toArray.toList ms:=intsAre_of r2;exact HT.aBF p1 p2 i1 i2 hu ⟨.bl (HT.lexLt ns ms),H,I,rfl,q⟩
def aKh(K:zAA):R2:=λ x y H Q=>∃a b xs ys,x= .ref a/\y= .ref b/\SqT K H a xs/\SqT K H b ys/\xs≠[]/\xs.length+ys.length<=zAR/\
 (ys=[]->Q (.ref a) H)/\(ys≠[]->∀p,H p=none->Q (.ref p) (upd H p (.tup (xs++ys))))
def Vals.nil_iff(r:Vals xs us):us=[]↔xs=[]:=by
 cases r with
 |nil=>simp
 |cons _ _=>simp
def aGg:OpR X (zBd .Add) (aKh X.K):=by
 intro hV s σ H x y v u Q I rx ry h;obtain⟨a,b,xs,ys,rfl,rfl,ha,hb,hx,hz,q1,q2⟩:=h;cases rx;cases ry;obtain⟨its,r1,p1,_⟩:=I.tuple ha;obtain⟨its2,r2,p2,_⟩:=I.tuple hb;refine HT.aH3 p1 p2 (λ z=>hx (r1.nil_iff.mp z)) (λ z=>⟨.ref a,H,I,rfl,q1 (r2.nil_iff.mp z)⟩) (λ z=>?_) (by rw[<-r1.length,<-r2.length];exact hz);refine⟨.ref s.heap.objs.size,_,I.laid (t':=s.toks) (o:=.tup (xs++ys)) (λ b ob q=>zAG _ q) (zAV _) ?_,rfl,q2 (λ w=>z (r2.nil_iff.mpr w)) _ (I.hok.fresh (zAV _))⟩;exact⟨⟨by rw[zAT];exact hz,NoD.push _⟩,_,r1.append r2,zFp _ _⟩
end
def ixN(n:Nat)(i:Int):Option Nat:=if 0<=i then(if i<n then some i.toNat else none)else if -(n:Int)<=i then some (i+n).toNat else none
def atI{α:Type}(xs:List α)(i:Int):Option α:=(ixN xs.length i).bind λ j=>xs[j]?
def aCJ(h:ixN n i=some j):seqIndex? i n=some j/\j<n/\-(n:Int)<=i/\i<n:=by
 unfold ixN at h;by_cases h0:0<=i
 .rw[if_pos h0]at h
  by_cases h1:i<n
  .rw[if_pos h1]at h
   have e:i.toNat=j:=zAg h;exact⟨by rw[zH2 h0 h1,e],by lia,by lia,h1⟩
  .rw[if_neg h1]at h;cases h
 .rw[if_neg h0]at h
  by_cases h1: -(n:Int)<=i
  .rw[if_pos h1]at h
   have e:(i+n).toNat=j:=zAg h;exact⟨by rw[zHJ (by lia) h1,e],by lia,h1,by lia⟩
  .rw[if_neg h1]at h;cases h
def yc(h:atI xs i=some v):∃j,seqIndex? i xs.length=some j/\xs[j]? =some v/\j<xs.length/\-(xs.length:Int)<=i/\i<xs.length:=by
 unfold atI at h;cases e:ixN xs.length i with
 |none=>rw[e]at h;cases h
 |some j=>
  rw[e]at h;obtain⟨h1,h2,h3,h4⟩:=aCJ e;exact⟨j,h1,h,h2,h3,h4⟩
def sJ(b:Expr):Prop:=∀o i,zFz b false o i=operate [o,i] (zHZ o i)
def IxR(X:Cx)(r:R2):Prop:=
 ∀(value slice:Expr) (hV:hZ) (s:zAD) (σ:St) (H:Hp) (x y:V) (v u:Value) (Q:VK),Inv X hV σ H s->RelV x v->RelV y u->r x y H Q->
  zFz slice false v u=operate [v,u] (zHZ v u)->wpAny (model X.prog X.w) X.A (zGc value slice v u) (EP X hV σ Q) X.xe s
def MtR(X:Cx)(id:String)(r:V->List V->Hp->VK->Prop):Prop:=
 ∀(hV:hZ) (s:zAD) (σ:St) (H:Hp) (x:V) (xs:List V) (v:Value) (us:List Value) (Q:VK),Inv X hV σ H s->RelV x v->Vals xs us->r x xs H Q->
  wpAny (model X.prog X.w) X.A (call (.builtin id) (v::us)) (EP X hV σ Q) X.xe s
section
variable{X:Cx}{a b:Expr}{ta tb:TE}{pos:Pos}
def IxR.or(h:IxR X r)(h':IxR X r'):IxR X (λ x y H Q=>r x y H Q\/r' x y H Q):=by
 intro value slice hV s σ H x y v u Q I rx ry q hs;rcases q with q|q
 .exact h value slice hV s σ H x y v u Q I rx ry q hs
 .exact h' value slice hV s σ H x y v u Q I rx ry q hs
def aIJ{r:R2}(hr:IxR X r)(ha:PE X a ta)(hb:PE X b tb)(hs:sJ b):PE X (.Subscript a b pos) (tOp r ta tb):=by
 intro hV s σ H Q I h;exact zHn (aKM ha hb I h λ v u s2 x y H2 I2 rx ry q=>hr a b hV s2 σ H2 x y v u Q I2 rx ry q (hs _ _))
def aIs(K:zAA):R2:=λ x y H Q=>∃p xs i v,x= .ref p/\y= .int i/\SqL K H p xs/\atI xs i=some v/\Q v H
def aKd(K:zAA):R2:=λ x y H Q=>∃p xs i v,x= .ref p/\y= .int i/\SqT K H p xs/\atI xs i=some v/\Q v H
def aKe:R2:=λ x y H Q=>∃z i c,x= .str z/\y= .int i/\z.length<=zAR/\atI z.cps.toList i=some c/\Q (.str ⟨#[c]⟩) H
def aCI:IxR X (aIs X.K):=by
 intro value slice hV s σ H x y v u Q I rx ry h hs;obtain⟨p,xs,i,z,rfl,rfl,hq,he,q⟩:=h;cases rx;obtain⟨t,rfl⟩:=ry;obtain⟨its,r,pl,hz⟩:=I.list hq;obtain⟨j,h1,h2,h3,h4,h5⟩:=yc he;obtain⟨w,ew,rw'⟩:=r.get h2;have hl:=r.length;have hn:=qG;have fin:EP X hV σ Q w s:=⟨z,H,I,rw',q⟩;by_cases h0:0<=i
 .have hj:i.toNat=j:=by
   rw[zH2 h0 h5]at h1;exact zAg h1
  exact item_listR pl.isList h0 (by lia) (by rw[hj];simpa using ew) fin hs
 .have hj:(i+(its.toArray.size:Int)).toNat=j:=by
   rw[zHJ (by lia) h4]at h1;rw[zAL,<-hl];exact zAg h1
  exact zGl (x:=w) pl.isList.typeIs zHq.lookup
   (wpAny_getItem_list_neg (Q:=λ r s'=>r=w/\EP X hV σ Q r s') pl.isList (by lia) (by rw[zAL]<;>lia) (by lia) (by rw[hj];simpa using ew) ⟨rfl,fin⟩) hs
def aJi:IxR X (aKd X.K):=by
 intro value slice hV s σ H x y v u Q I rx ry h hs;obtain⟨p,xs,i,z,rfl,rfl,hq,he,q⟩:=h;cases rx;obtain⟨t,rfl⟩:=ry;obtain⟨its,r,pl,hz⟩:=I.tuple hq;obtain⟨j,h1,h2,h3,h4,h5⟩:=yc he;obtain⟨w,ew,rw'⟩:=r.get h2;have hl:=r.length;have hn:=qG;have fin:EP X hV σ Q w s:=⟨z,H,I,rw',q⟩;exact zGl (x:=w) pl.typeIs slot_tuple_getitem.lookup
  (getItem_tuple (j:=j) (Q:=λ r s'=>r=w/\EP X hV σ Q r s') pl (by lia) (by lia) (by rw[zAL,<-hl];exact h1) (by simpa using ew) ⟨rfl,fin⟩) hs
def aJj:IxR X aKe:=by
 intro value slice hV s σ H x y v u Q I rx ry h hs;obtain⟨z,i,c,rfl,rfl,hz,he,q⟩:=h;obtain⟨t,rfl⟩:=rx;obtain⟨t',rfl⟩:=ry;obtain⟨j,h1,h2,h3,h4,h5⟩:=yc he;have hl:z.cps.toList.length=z.length:=by simp[Str.length]
 rw[hl]at h1 h4 h5;have hn:=qG;exact tail_any (typeIs_str s z t) slot_str_getitem.lookup (getItem_str (c:=c) (by
  have e1:decide (i < -(2^63:Int))=false:=decide_eq_false (by lia);have e2:decide (i ≥ 2^63)=false:=decide_eq_false (by lia);rw[e1,e2,Bool.or_false]) (by rw[h1];simpa using h2) ⟨.str ⟨#[c]⟩,H,I.tok _,⟨_,rfl⟩,q⟩) hs
def rIx(K:zAA):R2:=λ x y H Q=>aIs K x y H Q\/aKd K x y H Q\/aKe x y H Q
def aJk:IxR X (rIx X.K):=aCI.or (aJi.or aJj)
def aBD(its:List Value)(n j:Nat)(u:Value):zBc (·.setIfInBounds j u) {cls:=.type "list",data:=.seq its.toArray n}={cls:=.type "list",data:=.seq (its.set j u).toArray n}:=by
 simp[zBc]
theorem Inv.lst(I:Inv X hV σ H s)(h:H p=some (.lst xs)):
  ∃(its:List Value) (n:Nat),Vals xs its/\s.heap.get? p=some {cls:=.type "list",data:=.seq its.toArray n}/\xs.length<=zAR:=by
 obtain⟨z,its,n,r,e⟩:=I.hok p _ h;exact⟨its,n,r,e,z⟩
def Inv.lstUpd{hV:hZ}{σ:St}{H:Hp}{s:zAD}{p:Addr}{xs ys:List V}{its its':List Value}{n n':Nat}{f:Obj->Obj}(I:Inv X hV σ H s)(h:H p=some (.lst xs))
  (ho:s.heap.get? p=some {cls:=.type "list",data:=.seq its.toArray n})(hf:f {cls:=.type "list",data:=.seq its.toArray n}={cls:=.type "list",data:=.seq its'.toArray n'})(r:Vals ys its')(hz:ys.length<=zAR)(t:Nat):
  Inv X hV σ (upd H p (.lst ys)) {s with heap:=s.heap.update p f,toks:=t}:=by
 have e:(s.heap.update p f).get? p=some {cls:=.type "list",data:=.seq its'.toArray n'}:=by
  rw[Heap.get?_update_self f ho (by rw[hf]<;>rfl),hf]
 refine I.write (x:=p) (e:=p) (by rw[h];trivial) (.inl rfl) (λ b u hb q=>(zFo _ _ (zCX hb)).trans q) ⟨_,e⟩ ?_;exact⟨hz,its',n',r,e⟩
def aHr:V->V->V->Hp->(Hp->Prop)->Prop:=λ o i v H Q=>∃p xs k j,o= .ref p/\i= .int k/\H p=some (.lst xs)/\ixN xs.length k=some j/\Q (upd H p (.lst (xs.set j v)))
def set_list:aLT X aHr:=by
 intro hV s σ H o i v ov iv u Q I ro ri rv h;obtain⟨p,xs,k,j,rfl,rfl,hp,hj,q⟩:=h;cases ro;obtain⟨t,rfl⟩:=ri;obtain⟨its,n,r,ho,hz⟩:=I.lst hp;obtain⟨h1,h2,h3,h4⟩:=aCJ hj;have hl:=r.length;have hn:=qG;have I':Inv X hV σ (upd H p (.lst (xs.set j v))) {s with heap:=s.heap.update p (zBc (·.setIfInBounds j u))}:=
  I.lstUpd hp ho (aBD its n j u) (r.set rv j) (by rw[zBI];exact hz) s.toks
 by_cases h0:0<=k
 .have hk:k.toNat=j:=by
   rw[zH2 h0 h4]at h1;exact zAg h1
  exact PySem.W.ki_setAt ho h0 (by lia) (by rw[zAL,<-hl];exact h4) (by rw[hk];exact⟨_,I',q⟩)
 .have hk:(k+(its.toArray.size:Int)).toNat=j:=by
   rw[zHJ (by lia) h3]at h1;rw[zAL,<-hl];exact zAg h1
  exact PySem.W.ki_setBack ho (by lia) (by rw[zAL,<-hl];exact h3) (by lia) (by rw[hk];exact⟨_,I',q⟩)
def yW:cR X (.builtin "len") (λ xs H Q=>∃p ys,xs=[.ref p]/\(SqL X.K H p ys\/SqT X.K H p ys)/\Q (.int ys.length) H):=by
 intro hV s σ H xs us Q I r h;obtain⟨p,ys,rfl,hq,q⟩:=h;obtain⟨u,rfl,rx⟩:=vals1 r;cases rx;have hn:=qG;rcases hq with hq|hq
 .obtain⟨its,r',pl,hz⟩:=I.list hq
  have hW:=r'.length;exact Calls.call_len_list pl.isList (by simp only[zAL]<;>lia) ⟨.int ys.length,H,I.tok _,⟨s.toks+1,by rw[zAL,hW]⟩,q⟩
 .obtain⟨its,r',pl,hz⟩:=I.tuple hq
  have hW:=r'.length;exact len_tuple pl (by simp only[zAL]<;>lia) ⟨.int ys.length,H,I.tok _,⟨s.toks+1,by rw[zAL,hW]⟩,q⟩
def cR.or(h:cR X f r)(h':cR X f r'):cR X f (λ xs H Q=>r xs H Q\/r' xs H Q):=by
 intro hV s σ H xs us Q I rs q;rcases q with q|q
 .exact h hV s σ H xs us Q I rs q
 .exact h' hV s σ H xs us Q I rs q
def vN:cR X (.type "tuple") (λ xs H Q=>∃p ys,xs=[.ref p]/\((SqL X.K H p ys/\∀l,H l=none->Q (.ref l) (upd H l (.tup ys)))\/(SqT X.K H p ys/\Q (.ref p) H))):=by
 intro hV s σ H xs us Q I r h;obtain⟨p,ys,rfl,h⟩:=h;obtain⟨u,rfl,rx⟩:=vals1 r;cases rx;rcases h with ⟨hq,q⟩|⟨hq,q⟩
 .obtain⟨its,r',pl,hz⟩:=I.list hq
  have hW:=r'.length;refine call_tuple_list pl.isList (λ h' kp=>?_) (by simp only[zAL]<;>lia);have I1:Inv X hV σ H {s with heap:=h'}:=I.kept (t':=s.toks) kp;have I2:Inv X hV σ (upd H h'.objs.size (.tup ys)) {s with heap:=h'.push {cls:=.type "tuple",data:=.seq its.toArray}}:=
   I1.laid (t':=s.toks) (λ b o e=>zAG _ e) (zAV _) (show cB X.prog X.w _ _ _ (.tup ys)from⟨⟨hz,NoD.push _⟩,its,r',zFp _ _⟩)
  exact⟨.ref h'.objs.size,_,I2,rfl,q _ (I1.hok.fresh (zAV _))⟩
 .obtain⟨its,r',pl,hz⟩:=I.tuple hq
  exact call_tuple_same pl ⟨.ref p,H,I,rfl,q⟩
def tyV(K:zAA)(T:String)(x:V)(H:Hp):Prop:=match x with
 | .str _=>T="str"
 | .int _=>T="int"
 | .ref p=>(T="list"/\∃xs,SqL K H p xs)\/(T="tuple"/\∃o,K.lookup p=some o/\o.cls= .type "tuple"/\o.dict=none)\/
   (T="dict"/\((∃kvs,H p=some (.dK kvs))\/∃kvs,H p=some (.dT kvs)))\/(T="set"/\∃S n,H p=some (.set S n))
 |_=>False
def aIX(I:Inv X hV σ H s)(r:RelV x v)(ty:tyV X.K T x H):
  s.TypeIs v T/\∀a,v= .ref a->∃ob,s.heap.get? a=some ob/\ob.dict=none:=by
 cases x with
 |str z=>
  obtain⟨t,rfl⟩:=r;cases (show T="str" from ty);exact⟨typeIs_str s z t,λ _ e=>nomatch e⟩
 |int i=>
  obtain⟨t,rfl⟩:=r;cases (show T="int" from ty);exact⟨zCp s i t,λ _ e=>nomatch e⟩
 |ref p=>
  cases r;rcases ty with ⟨rfl,xs,hq⟩|⟨rfl,o,hk,hc,hd⟩|⟨rfl,hk⟩|⟨rfl,S,n,hk⟩
  .obtain⟨its,_,pl,_⟩:=I.list hq
   refine⟨pl.isList.typeIs,λ a e=>?_⟩;cases e;obtain⟨o,n,e,c,hd,_⟩:=pl;exact⟨o,e,hd⟩
  .refine⟨⟨o,I.kIn p o hk,hc⟩,λ a e=>?_⟩
   cases e;exact⟨o,I.kIn _ o hk,hd⟩
  .have z:∃o,s.heap.get? p=some o/\o.ExactDict:=by
    rcases hk with ⟨kvs,hk⟩|⟨kvs,hk⟩
    .obtain⟨_,_,_,_,o,_,_,e,ex,_⟩:=I.hok p _ hk
     exact⟨o,e,ex⟩
    .obtain⟨_,_,_,_,o,_,_,e,ex,_⟩:=I.hok p _ hk
     exact⟨o,e,ex⟩
   obtain⟨o,e,ex⟩:=z;refine⟨⟨o,e,ex.1⟩,λ a e2=>?_⟩;cases e2;exact⟨o,e,ex.2.1⟩
  .obtain⟨o,_,_,_,e,ex,_⟩:=I.hok p _ hk
   refine⟨⟨o,e,ex.1⟩,λ a e2=>?_⟩;cases e2;exact⟨o,e,ex.2.1⟩
 |_=>exact zAH ty
def tBM(K:zAA)(T:String)(r:V->List V->Hp->VK->Prop)(to:TE)(t:TA):TE:=λ σ H Q=>to σ H λ x H1=>tyV K T x H1/\t σ H1 λ xs H2=>r x xs H2 Q
variable{o e:Expr}{es:List Expr}{to:TE}{t:TA}{name:Str}{apos cpos:Pos}{T id:String}{r:V->List V->Hp->VK->Prop}
def uB(pa:PlainAttrs T)(slot:Slot T name id)(hty:typeOf (.builtin id)=pure (.type "method_descriptor"))(hm:MtR X id r)(ho:PE X o to)(ha:PA X (e::es) t)
  (hbase:zB7 o name X.env (eval o X.env)=eval o X.env:=by rfl)
  (hfew:((zBp cpos (zAW (e::es) X.env)).all (λ x=>!x.1)&&(zDK cpos (zCF [] X.env)).all (λ x=>x.1.isSome)
   &&decide ((e::es).length+([]:List zB2).length+(if ([]:List zB2).isEmpty then 0 else 1)<30))=true:=by rfl)
  (hline:(apos.endLine==cpos.line)=true:=by rfl)(hs:zAW (e::es) X.env=(false,eval e X.env)::zAW es X.env:=by rfl)(hplain:(zBp cpos (zAW es X.env)).any (·.1)=false:=by rfl):
  PE X (.Call (.Attribute o name apos) (e::es) [] cpos) (tBM X.K T r to t):=by
 intro hV s σ H Q I h;refine wpAny_Call_method_late hbase hfew hline rfl (thn (ho hV s σ H _ I h) λ v s1 ⟨x,H1,I1,r1,ty,q1⟩=>?_);obtain⟨h1,h2⟩:=aIX I1 r1 ty;refine⟨T,id,pa,slot,hty,h1,h2,?_⟩;have hA:=ha cpos hV s1 σ H1 _ I1 q1;rw[hs]at hA ⊢;refine zDY (by show(false||(zBp cpos (zAW es X.env)).any (·.1))=false;rw[hplain]<;>rfl) (zDn ?_);exact thn hA λ us s2 ⟨vs,H2,I2,r2,q2⟩=>hm hV s2 σ H2 x vs v us Q I2 r1 r2 q2
end
def MtM(X:Cx)(id:String)(r:V->List V->Hp->VK->Prop):Prop:=
 ∀(hV:hZ) (s:zAD) (σ:St) (H:Hp) (x:V) (xs:List V) (v:Value) (us:List Value) (Q:VK),Inv X hV σ H s->RelV x v->Vals xs us->r x xs H Q->
  wpAny (model X.prog X.w) X.A (call (.builtin id) (v::us)) (EP X hV σ Q) X.xe s
def Vals.one:∀{x:V} {us:List Value},Vals [x] us->∃u,us=[u]/\RelV x u
 |_,_,.cons r .nil=>⟨_,rfl,r⟩
theorem Vals.reverse(h:Vals xs us):Vals xs.reverse us.reverse:=by
 induction h with
 |nil=>exact .nil
 |cons r t ih=>rw[zC7,zC7];exact Vals.append ih (.cons r .nil)
theorem Vals.rep(h:Vals xs us):∀k:Nat,Vals (zAN k xs).flatten (zAN k us).flatten
 |0=>.nil
 |k+1=>by
  rw[zBR,zBR,zCM,zCM];exact Vals.append h (Vals.rep h k)
theorem foldl_rep(its:List Value):∀(k:Nat) (acc:List Value),
  zFe (λ x1 x2=>x1++x2) acc.toArray (zAN k its.toArray)=(acc++(zAN k its).flatten).toArray
 |0,acc=>by simp
 |k+1,acc=>by
  have e:acc.toArray++its.toArray=(acc++its).toArray:=by simp
  have e2:(acc++its)++(zAN k its).flatten=acc++(zAN (k+1) its).flatten:=by
   rw[zBR,zCM,zAx]
  rw[<-e2,<-foldl_rep its k (acc++its),<-e,zBR,zCx]
section
variable{X:Cx}{hV:hZ}{σ:St}{H:Hp}{s:zAD}{l:Addr}{xs ys:List V}
def Inv.lset{its its':List Value}{n:Nat}{f:Array Value->Array Value}{t':Nat}(I:Inv X hV σ H s)(hH:H l=some (.lst xs))
  (e:s.heap.get? l=some {cls:=.type "list",data:=.seq its.toArray n})(hf:f its.toArray=its'.toArray)(hv:Vals ys its')(hz:ys.length<=zAR):
  Inv X hV σ (upd H l (.lst ys)) {s with heap:=s.heap.update l (zBc f),toks:=t'}:=by
 have q:=PySem.IsL.update e f;rw[hf]at q;refine I.write (x:=l) (e:=l) (by rw[hH];exact trivial) (.inl rfl) (λ b' u hb hu=>(zFo s.heap (zBc f) (zCX hb)).trans hu) ⟨_,q⟩ ?_;exact⟨hz,its',_,hv,q⟩
def Inv.lnew(I:Inv X hV σ H s)(hv:Vals ys its)(hz:ys.length<=zAR):
  Inv X hV σ (upd H s.heap.objs.size (.lst ys)) {s with heap:=s.heap.push {cls:=.type "list",data:=.seq its.toArray},toks:=t'}:=
 I.laid (λ _ _ q=>zAG _ q) (zAV _) ⟨hz,its,0,hv,zA5 _ rfl⟩
theorem Inv.fresh(I:Inv X hV σ H s):H s.heap.objs.size=none:=I.hok.fresh (zAV _)
def Inv.lstM(I:Inv X hV σ H s)(hH:H l=some (.lst xs)):xs.length<=zAR/\∃(its:List Value) (n:Nat),Vals xs its/\xs.length=its.length/\s.heap.get? l=some {cls:=.type "list",data:=.seq its.toArray n}:=by
 obtain⟨z,its,n,r,e⟩:=I.hok l _ hH;exact⟨z,its,n,r,r.length,e⟩
def uJ(h:n<=zAR):zBP n=false:=by
 unfold zBP;exact decide_eq_false (by lia)
end
section
variable{X:Cx}
def aGO:V->List V->Hp->VK->Prop:=λ x vs H Q=>∃l xs y,x= .ref l/\vs=[y]/\H l=some (.lst xs)/\xs.length<zAR/\Q .non (upd H l (.lst (xs++[y])))
def vg:MtM X "list.append" aGO:=by
 intro hV s σ H x vs v us Q I rx rv h;obtain⟨l,xs,y,rfl,rfl,hH,hz,q⟩:=h;cases rx;obtain⟨u,rfl,ru⟩:=rv.one;obtain⟨z,its,n,r,hl,e⟩:=I.lstM hH;refine zCK zC0 ⟨_,e,rfl⟩ F.entry_list_append (F.args_list_append_2 _ _) (PySem.list_append l its.toArray n u (by rw[zAL];lia)) ⟨e,?_⟩;refine⟨.non,_,I.lset (its':=its++[u]) hH e (by simp) (r.append (.cons ru .nil)) ?_,rfl,q⟩;rw[zAT,zAm];lia
def aGN:V->List V->Hp->VK->Prop:=λ x vs H Q=>∃l b xs zs,x= .ref l/\vs=[.ref b]/\H l=some (.lst xs)/\H b=some (.lst zs)/\xs.length+zs.length<=zAR/\Q .non (upd H l (.lst (xs++zs)))
def aCr:MtM X "list.extend" aGN:=by
 intro hV s σ H x vs v us Q I rx rv h;obtain⟨l,b,xs,zs,rfl,rfl,hH,hB,hz,q⟩:=h;cases rx;obtain⟨u,rfl,ru⟩:=rv.one;cases ru;obtain⟨z,its,n,r,hl,e⟩:=I.lstM hH;obtain⟨z2,its2,n2,r2,hl2,e2⟩:=I.lstM hB;have hsz:its.toArray.size+its2.toArray.size<=zAR:=by rw[zAL,zAL];lia
 have oQ:¬(!its.toArray.isEmpty&&zBP (its.toArray.size+its2.toArray.size))=true:=by
  rw[uJ hsz,zC9];exact zA6
 refine zCK zCb ⟨_,e,rfl⟩ zGn (zGe _ _)
  (AutoSeq1.list_extend_list_list_0 l its.toArray n b its2.toArray n2 oQ (by rw[zAL];lia) (by lia)) ⟨e,e2,?_⟩
 refine⟨.non,_,I.lset (its':=its++its2) hH e (by simp) (r.append r2) ?_,rfl,q⟩;rw[zAT];lia
def aLe:R2:=λ x y H Q=>∃l b xs zs,x= .ref l/\y= .ref b/\H l=some (.lst xs)/\H b=some (.lst zs)/\xs.length+zs.length<=zAR/\∀p,H p=none->Q (.ref p) (upd H p (.lst (xs++zs)))
def aJ4:OpR X (zBd .Add) aLe:=by
 intro hV s σ H x y v u Q I rx ry h;obtain⟨l,b,xs,zs,rfl,rfl,hH,hB,hz,q⟩:=h;cases rx;cases ry;obtain⟨z,its,n,r,hl,e⟩:=I.lstM hH;obtain⟨z2,its2,n2,r2,hl2,e2⟩:=I.lstM hB;refine PySem.P.add_list e e2 ?_ (by rw[zAL,zAL];lia);have ea:its.toArray++its2.toArray=(its++its2).toArray:=by simp
 rw[ea];exact⟨.ref _,_,I.lnew (t':=s.toks) (r.append r2) (by rw[zAT];lia),rfl,q _ I.fresh⟩
def aKc:R2:=λ x y H Q=>∃l k xs,x= .ref l/\y= .int k/\H l=some (.lst xs)/\-(2^63)<=k/\k<2^63/\xs.length*k.toNat<=zAR/\
 ∀p,H p=none->Q (.ref p) (upd H p (.lst (zAN k.toNat xs).flatten))
def len_rep(xs:List α)(k:Nat):(zAN k xs).flatten.length=k*xs.length:=by
 induction k with
 |zero=>simp
 |succ k ih=>rw[zBR,zCM,zAT,ih,Nat.succ_mul,Nat.add_comm]
def aJS:OpR X (zBd .Mult) aKc:=by
 intro hV s σ H x y v u Q I rx ry h;obtain⟨l,k,xs,rfl,rfl,hH,h1,h2,hz,q⟩:=h;cases rx;obtain⟨t,rfl⟩:=ry;obtain⟨z,its,n,r,hl,e⟩:=I.lstM hH;have hW:its.toArray.size*k.toNat<=zAR:=by rw[zAL,<-hl];exact hz
 have hcap:¬its.toArray.size*k.toNat>(2^63-1) / 8:=by
  have:(zAR:Nat)<=(2^63-1) / 8:=by decide
  lia
 have hfit:¬(!Builtin.List.listFitsIndex k)=true:=by
  rw[fitsIndex_both h1 h2];exact zA6
 have oQ:¬zBP (its.toArray.size*k.toNat)=true:=by
  rw[uJ hW];exact zA6
 have hnew:zFe (λ x1 x2=>x1++x2) #[] (zAN (if its.toArray.isEmpty=true then 0 else k.toNat) its.toArray)=(zAN k.toNat its).flatten.toArray:=by
  have f0:∀m:Nat,zFe (λ x1 x2=>x1++x2) #[] (zAN m its.toArray)=(zAN m its).flatten.toArray:=λ m=>by
   have:=foldl_rep its m []
   rw[zCy]at this;exact this
  rw[f0];cases its with
  |nil=>simp
  |cons a r'=>rw[if_neg (by simp)]
 refine zCY (T:="list") (U:="int") (by decide) ⟨_,e,rfl⟩ (λ s'=>zCp s' k t) noFill_list_mul zDz zBs repeat_list zDd.lookup
  (zCK zBs (zCp s k t) zDc (zDZ _ _) (int___rmul___int_list k t l its.toArray n)
   ⟨e,rfl,⟨_,e,rfl⟩,zCK F.slot_list_mul ⟨_,e,rfl⟩ F.entry_list_mul (F.args_list_mul_2 _ _) (AutoListH.list___mul___list_int_3 l its.toArray n k t hfit hcap oQ) ⟨e,?_⟩⟩)
 rw[hnew];exact⟨.ref _,_,I.lnew (t':=s.toks) (r.rep k.toNat) (by rw[len_rep,zGM];exact hz),rfl,q _ I.fresh⟩
end
end L2
namespace Att
open PySem PySem.W PySem.Calls PyProof.Rows
def rR:∀(ns:List Int) (vs:List Value),WellAll P h vs (ns.map WData.int)->zBK vs ns:=by
 intro ns;induction ns with
 |nil=>
  intro vs w;rw[zDF]at w;cases w;exact .nil
 |cons n ns ih=>
  intro vs w;rw[zAC]at w;cases w with
  |cons a b=>
   cases a;exact .cons _ _ (ih _ b)
def aCf{l:OpenLaw}{n:Nat}(hn:l.most=some n){P:Params}{h:Heap}{args:List WData}{vals:List Value}
  (hpre:l.row.toRowW.claim.pre args=true)(hwl:WellAll P h vals args):
  ∃a vs ns,vals=[zBF a]/\args=[WData.list (ns.map WData.int)]/\h.get? a=some {cls:=.type "list",data:=.seq vs.toArray}/\zBK vs ns/\ns.length<=n:=by
 have hsh:WShape.hasAll [] args [.list .int]=true:=(pre_splitW hpre).1;have hc:l.pre.holds [] {args:=args}=true:=(pre_splitW hpre).2;obtain⟨d,r,rfl,h1,h2⟩:=hasAllW_cons hsh;obtain rfl:=hasAllW_nil h2;obtain⟨xs,rfl,h3⟩:=hasW_list h1;obtain⟨ns,rfl⟩:=items_int h3;have hW:ns.length<=n:=by
  unfold OpenLaw.pre at hc;have h4:(WTm.not (.lt (.lit (.int (n:Int))) (.len (.arg 0)))).holds [] {args:=[.list (ns.map .int)]}=true:=by
   have h4:=(holds_andW hc).1;rw[hn]at h4;exact h4
  have h5:=condW_of h4 (w_not (w_lt w_lit (w_len_list (w_arg rfl))));rw[zAF]at h5;refine zD9 λ q=>?_
  have q':(n:Int)<((ns.length:Nat):Int):=by lia
  first
   |(rw[decide_eq_true q']at h5;exact absurd h5 (by decide))
   |(simp at h5;lia)
 cases hwl with
 |cons w1 w2=>
  cases w2;cases w1 with
  |list ho iX=>exact⟨_,_,ns,rfl,rfl,ho,rR ns _ iX,hW⟩
def aCk(l:OpenLaw)(args:List WData):l.row.toRowW.claim.post args (.bool true) args=true:=
 postW_of (r:=l.row.toRowW) (X:=(true==true))
  (show WShape.has [] (.bool true) .bool=true by first|rfl|decide|simp[WShape.has,WShape.arms,WShape.armsAll])
  (show(WTm.eq .res (.lit (.bool true))).value [] {args:=args,res:=some (.bool true),after:=args}=some (.bool (true==true))from w_eq_bool (w_res rfl) w_lit) rfl
def aAR{l:OpenLaw}{n:Nat}{q:zAU}{loose:List Str}{XP:(Str->Option Value)->Heap->Prop}{YP:World->Heap->Prop}{d:DefRec}
  (hn:l.most=some n)(hdf:d.params.defaults=[])
  (call:∀(w:World) (z5 z4:zAD) (mg mb:Str->Option Value) (fa:Addr) (o:Obj) (pm cd doc:Value) (a:Addr) (vs:List Value) (ns:List Int),
   Ground q loose [] XP w z5 mg mb z4.heap->YP w z4.heap->
   z4.heap.get? fa=some o->o.data= .func (docDef d.name d.params d.body d.scope pm cd doc)->z4.heap.CodeRec cd d.name->mg d.name=some (.ref fa)->
   z4.heap.get? a=some {cls:=.type "list",data:=.seq vs.toArray}->zBK vs ns->ns.length<=n->z4.gens=#[]->
   zDP (model l.prog w) zE9 (.call (.ref fa) ⟨[.ref a],[]⟩) (λ r s'=>r= .ok (.ret (.bool true))/\OldK z4.heap s'.heap/\s'.os=z4.os/\zEK s'.gens) z4):
  WalkO q loose XP YP l.row.toRowW d [] (λ f vs=>zG8 f vs):=by
 intro w z5 z4 mg mb G Y fa o pm cd doc dV kV ho hd hcd hD hmg hg args vals as hpre hlay hrd hwl hlo;obtain rfl:dV= .none:=Dflts.none hD hdf;obtain rfl:kV= .none:=Dflts.noKw hD;obtain⟨a,vs,ns,rfl,rfl,hobj,hints,hW⟩:=aCf hn hpre hwl;refine enter_call (zFc (call w z5 z4 mg mb fa o pm cd doc a vs ns G Y ho (fd_plain hd) hcd hmg hobj hints hW hg) λ r s' hq=>?_);obtain⟨rfl,h2,h3,h4⟩:=hq;exact⟨.inl ⟨.bool true,.bool true,[],rfl,λ _=>rfl,.bool true,aCk l _,λ _=>⟨zFB,λ _ hm=>(nomatch hm)⟩⟩,h2,h3,h4⟩
section
variable{prog:zAU}{w:World}{A:zA8}{E:Value->zAD->Prop}{s:zAD}{K:Frag}
def make_obj(X:K.In s.heap)(hm:makesIn K C=true)(hi:findIn K (.ref C) "__init__"=some (some (.ref fI)))(hf:isFn K (.ref fI)=true)
  (h:zDP (model prog w) (A.under (.builtin "type.__call__" ⟨.ref C::rest,kw⟩)) (.call (.ref fI) ⟨.ref (s.heap.objs.size+1)::rest,kw⟩) (InitBack (s.heap.objs.size+1) R)
   {s with heap:=(s.heap.push emptyDict).push (instObj C s.heap.objs.size)}):zDP (model prog w) A (.call (.ref C) ⟨rest,kw⟩) R s:=by
 obtain⟨hh,g,d,t,os⟩:=s;exact make_core (makes_of X hm) (looks_findIn X hi) (λ self=>bind_fn X self (beq_iff_eq.mp hf)) (.inl rfl) h
def get_field(X:K.In s.heap)(I:zGi s.heap x ox C (some (dictOf es n)))(hg:plainGet K C name=true)(hh:hasDictIn K C=true)(ha:findIn K (.ref C) name=some none)
  (hl:getL name es=some (some v))(hv:handedIn v=true)(h:Q v {s with toks:=s.toks+1}):wpAny (model prog w) A (getAttr (.ref x) name expr) Q E s:=
 get_value X I (plainGet_of hg).1 (findObj_own hh ha rfl hl) hv h
def ledger(h:Heap)(L d:Addr):hZ:=(zBE h.objs.size).filterMap λ a=>if a=L\/a=d then none else(h.get? a).map λ o=>(a,o)
end
end Att
namespace L2
open PySem PySem.Spec PyProof.Rows
theorem vU:∀{vs:List Value} {ns:List Int},zBK vs ns->Vals (ns.map V.int) vs
 |_,_,.nil=>.nil
 |_,_,.cons n t h=>.cons ⟨t,rfl⟩ (vU h)
def Only(H:Hp):Prop:=∀b,H b=none\/∃o xs,H b=some (.frz o (.lst xs))
def aEo{P:zAU}{w:World}{K:zAA}{mg mb:Str->Option Value}{CX:CXT}{k:Nat}{fa a:Addr}{fd:zAc}{x:Str}{sp:Sp}{z4:zAD}{vs:List Value}{ns:List Int}
  (KX:K.In z4.heap)(hns:z4.heap.Ns zAa mg)(hb:z4.heap.Ns zHp mb)(hbb:∀x:Str,x≠"__name__"->mb x=zAq x)(hlim:z4.heap.NoLimit)(hg:z4.gens=#[])
  (ha:z4.heap.get? a=some {cls:=.type "list",data:=.seq vs.toArray})(hi:zBK vs ns)(hl:ns.length<=zAR)(hr:jC k zE9)
  (F:∀base:Heap,K.In base->base.Ns zAa mg->cG P w K mg base CX k fa fd [x] sp)(hbind:∀(s:zAD) (u:Value),zEx s fd ⟨[u],[]⟩ [(x,u)])
  (hsp:∀H:Hp,Only H->SqL K H a (ns.map V.int)->sp [.ref a] H (λ v _=>v= .bl true) λ _ _ _=>False)
  (hCX:∀H e s',CX [] H z4 (λ _ _ _=>False) e s'->False):
  zDP (model P w) zE9 (.call (.ref fa) ⟨[.ref a],[]⟩) (λ r s'=>r= .ok (.ret (.bool true))/\OldK z4.heap s'.heap/\s'.os=z4.os/\zEK s'.gens) z4:=by
 have rv:=vU hi;have lenV:=hi.length;have core:∀H:Hp,Only H->SqL K H a (ns.map V.int)->HOk P w H z4.heap->(∀b,H b≠none->b=a)->(H a≠none->K.lookup a=none)->
   zDP (model P w) zE9 (.call (.ref fa) ⟨[.ref a],[]⟩) (λ r s'=>r= .ok (.ret (.bool true))/\OldK z4.heap s'.heap/\s'.os=z4.os/\zEK s'.gens) z4:=by
  intro H hO hS hok hA hK;have base_of:∀{b:Addr} {o:Obj},z4.heap.get? b=some o->H b=none->(yG z4.heap H).get? b=some o:=λ e n=>aFI e n
  have noA:∀{b:Addr} {o:Obj} {es:Array DictEntry} {ep:Nat},z4.heap.get? b=some o->o.data= .dict es ep->H b=none:=λ{b o es ep} e d=>by
   cases q:H b with
   |none=>rfl
   |some u=>
    have e':b=a:=hA b (by rw[q];simp);subst e';rw[ha]at e;cases e;have d':zH8 vs.toArray _=Data.dict es ep:=d;cases d'
  have nsK:∀{b:Addr} {m:Str->Option Value},z4.heap.Ns b m->(yG z4.heap H).Ns b m:=λ{b m} ⟨o,es,ep,e,d,r⟩=>⟨o,es,ep,base_of e (noA e d),d,r⟩
  have hKb:K.In (yG z4.heap H):=λ b o e=>base_of (KX b o e) (by
   cases q:H b with
   |none=>rfl
   |some u=>
    have e':b=a:=hA b (by rw[q];simp);subst e';rw[hK (by rw[q];simp)]at e;cases e)
  have hM:Mod K mg (yG z4.heap H):=⟨hKb,nsK hns,⟨mb,nsK hb,hbb⟩,let⟨mc,h1,h2⟩:=hlim;⟨mc,nsK h1,h2⟩⟩;have e0:aFe P w K mg (yG z4.heap H) zE9 [] z4 H:=⟨rfl,hM,λ b o e=>aGl e,Nat.le_of_eq (aDB _ _),trivial,λ b hb=>absurd (show b∈([]:List Addr)from hb) (by simp),hok,.of_eq hg⟩;refine zFc ((F _ hKb (nsK hns)).run zE9 [] z4 H ⟨[.ref a],[]⟩ [.ref a] [.ref a] _ _ hr e0 (hbind z4 (.ref a)) (.cons rfl .nil) (hsp H hO hS)) λ r s' h=>?_
  cases r with
  |error e=>exact(hCX H e s' h).elim
  |ok fl=>
   cases fl with
   |next=>exact zAH h
   |brk=>exact zAH h
   |cont=>exact zAH h
   |ret u=>
    obtain⟨v,H',os,bare,un,hok',r',q⟩:=h;have q':v= .bl true:=q;subst q';obtain rfl:u=zDl true:=r';refine⟨rfl,OldK.of_keep λ b o e=>?_,os,bare⟩;cases q:H b with
    |none=>exact un.keep b o e q (by intro z;exact absurd (show b∈([]:List Addr)from z) (by simp)) (by simp)
    |some u=>
     rcases hO b with z|⟨ob,xs,z⟩
     .rw[q]at z;cases z
     .have z2:=un.frzs b ob _ z
      obtain⟨e1,_⟩:=hok b _ z;obtain⟨e2,_⟩:=hok' b _ z2;rw[e]at e1;cases e1;exact e2
 cases hk:K.lookup a with
 |some o=>
  have e:=KX a o hk;rw[ha]at e;cases e;refine core (λ _=>none) (λ _=>.inl rfl) (.inr ⟨_,vs.toArray,_,hk,rfl,rfl,rfl,by rw[zAL,lenV];exact hl,by simpa using rv⟩) (λ b u z=>by have z':(none:Option HO)=some u:=z;cases z') (λ b z=>absurd rfl z) λ z=>absurd rfl z
 |none=>
  refine core (λ b=>if b=a then some (.frz {cls:=.type "list",data:=.seq vs.toArray} (.lst (ns.map V.int)))else none) (λ b=>?_) (.inl (.inr ⟨{cls:=.type "list",data:=.seq vs.toArray},if_pos rfl⟩)) (λ b u z=>?_) (λ b z=>?_) λ _=>hk
  .by_cases hb:b=a
   .exact .inr ⟨_,_,if_pos hb⟩
   .exact .inl (if_neg hb)
  .by_cases hb:b=a
   .have z':=(if_pos hb).symm.trans z
    cases z';subst hb;exact⟨ha,by rw[zAF];exact hl,vs,_,rv,ha⟩
   .have z':=(if_neg hb).symm.trans z
    cases z'
  .by_cases hb:b=a
   .exact hb
   .exact absurd (if_neg hb) z
def aFi{l:zE8}{n k:Nat}{q:zAU}{loose:List Str}{XP:(Str->Option Value)->Heap->Prop}{YP:World->Heap->Prop}{d:DefRec}{K:Params->zAA}{CX:World->CXT}{sp:World->Sp}{x:Str}
  (hn:l.most=some n)(hn2:n<=zAR)(hdf:d.params.defaults=[])(hr:jC k zE9)
  (hY:∀(w:World) (h:Heap),YP w h->(K w.params).In h)
  (F:∀(w:World) (mg:Str->Option Value) (fa:Addr) (h:Heap),(K w.params).In h->h.Ns zAa mg->mg d.name=some (.ref fa)->
   ∃fd:zAc,(∀(s:zAD) (u:Value),zEx s fd ⟨[u],[]⟩ [(x,u)])/\
    ∀base:Heap,(K w.params).In base->base.Ns zAa mg->cG l.prog w (K w.params) mg base (CX w) k fa fd [x] (sp w))
  (hsp:∀(w:World) (H:Hp) (a:Addr) (ns:List Int),ns.length<=n->Only H->SqL (K w.params) H a (ns.map V.int)->sp w [.ref a] H (λ v _=>v= .bl true) λ _ _ _=>False)
  (hCX:∀(w:World) (H:Hp) (s:zAD) (e:Value) (s':zAD),CX w [] H s (λ _ _ _=>False) e s'->False):
  zHD q loose XP YP l.row.toRowW d [] (λ f vs=>zG8 f vs):=by
 refine Att.aAR hn hdf λ w z5 z4 mg mb fa o pm cd doc a vs ns G Y ho hd hcd hmg hobj hints hW hg=>?_
 have KX:=hY w _ Y;obtain⟨fd,hb,hF⟩:=F w mg fa _ KX G.T.g hmg;exact aEo KX G.T.g G.T.b G.T.builtins G.T.nolimit hg hobj hints (zAf hW hn2) hr hF hb (λ H hO hS=>hsp w H a ns hW hO hS) λ H e s'=>hCX w H z4 e s'
def mV(s:Stmt):zEb:=match s with
 | .FunctionDef _ a _ _ _ _ _ _ _ _=>a
 |_=>{posonlyargs:=[],args:=[],vararg:=none,kwonlyargs:=[],kw_defaults:=[],kwarg:=none,defaults:=[]}
def gG(s:Stmt):List Stmt:=match s with
 | .FunctionDef _ _ b _ _ _ _ _ _ _=>b
 |_=>[]
def aO(s:Stmt):Scope:=match s with
 | .FunctionDef _ _ _ _ _ _ sc _ _ _=>sc
 |_=>{kind:=.function,names:=[],isGenerator:=false,isCoroutine:=false}
abbrev CX0:CXT:=λ _ _ _ _ _ _=>False
abbrev E0:XK:=λ _ _ _=>False
structure Fun(K:zAA)(x qual:Str)(st:Stmt)(f:Addr)(fd:zAc):Prop where
 ex:∃(oc:Value) (od:Option Addr) (kV doc pm:Value) (an:Option Addr) (cdv ct:Value) (osl:Array (Option Value)),
  fd=zBn x qual (mV st) (gG st) (aO st) .none kV doc pm an cdv ct/\K.lookup f=some ⟨oc,od,.func fd,osl⟩/\zDB K cdv qual=true
 kp:zC5 K (.ref f)=true
section
variable{K:zAA}
def Fun.binds{x qual:Str}{st:Stmt}{f:Addr}{fd:zAc}{ps:List Str}(F:Fun K x qual st f fd)
  (h:∀(kV doc pm:Value) (an:Option Addr) (cdv ct:Value) (us:List Value),us.length=ps.length->bindArgs (zBn x qual (mV st) (gG st) (aO st) .none kV doc pm an cdv ct) ⟨us,[]⟩=pure (ps.zip us)):Binds K fd ps []:=by
 obtain⟨oc,od,kV,doc,pm,an,cdv,ct,osl,rfl,lk,hcd⟩:=F.ex;exact .all (h kV doc pm an cdv ct)
def aJw{x qual:Str}{st:Stmt}{f:Addr}{oc:Value}{od an:Option Addr}{osl:Array (Option Value)}{kV doc pm cdv ct:Value}(l:K.lookup f=some ⟨oc,od,.func (zBn x qual (mV st) (gG st) (aO st) .none kV doc pm an cdv ct),osl⟩)
  (c:zDB K cdv qual=true)(k:zC5 K (.ref f)=true):Fun K x qual st f (zBn x qual (mV st) (gG st) (aO st) .none kV doc pm an cdv ct):=⟨⟨oc,od,kV,doc,pm,an,cdv,ct,osl,rfl,l,c⟩,k⟩
end
def aV(H H':Hp):Prop:=∀b o,H b=some o->H' b=some o
def aV.refl(H:Hp):aV H H:=λ _ _ h=>h
def aV.trans(a:aV H H1)(b:aV H1 H2):aV H H2:=λ c o h=>b c o (a c o h)
def aV.free(e:aV H H')(h:H' l=zHa):H l=zHa:=by
 cases q:H l with
 |none=>rfl
 |some o=>
  rw[e l o q]at h;cases h
end L2
set_option maxHeartbeats 4000000
namespace HT
open PySem PyProof.Rows
def lexLe:List Int->List Int->Bool
 |[],_=>true
 |_::_,[]=>false
 |x::xs,y::ys=>if x=y then lexLe xs ys else decide (x<=y)
def aBJ(x y:Int)(xs ys:List Int):lexLe (x::xs) (y::ys)=if x=y then lexLe xs ys else decide (x<=y):=rfl
def aED(A:zA8)(s:zAD)(a:Int)(t:Tok)(c:Int)(u:Tok)(prog:zAU)(w:World)(E:Value->zAD->Prop)(Q:Value->zAD->Prop)(h:Q (.bool (decide (a<=c))) s):
  wpAny (model prog w) A (zFy .LtE (.int a t) (.int c u)) Q E s:=
 (PyProof.Rows.le_int h:wpAny (model prog w) A (zAw .LtE (.int a t) (.int c u)) Q E s)
section
open PySem.SeqAt
open PySem.AutoSeq1(wpAny_loadPart')
open PySem.MeetsSeq PySem.MeetsSeq2 PySem.MeetsSeq3
def vC(l b:Addr)(items items2:Array Value)(n n2:Nat)(dd dd2:Option Addr)(sl sl2:Array (Option Value))(ns ms:List Int)(hi:zBK items.toList ns)(hj:zBK items2.toList ms):
  Meets (zDm.«tuple.__le__» ⟨[.ref l,.ref b],[]⟩)
   (λ _ R s=>s.heap.get? l=some {cls:=.type "tuple",dict:=dd,data:=.seq items n,slots:=sl}/\s.heap.get? b=some {cls:=.type "tuple",dict:=dd2,data:=.seq items2 n2,slots:=sl2}/\
    R (.ok (.ret (.bool (lexLe ns ms)))) s):=
 .of_wp λ prog w A R s h=>by
  obtain⟨hp,g,d,tk,os⟩:=s;obtain⟨hl,hb,h⟩:=h;have f2:=zEd;have z1:items.size=ns.length:=by rw[<-hi.length];simp
  have z2:items2.size=ms.length:=by rw[<-hj.length];simp
  wp_walk using zCQ hl,zCQ hb,wpAny_forIn_list _ (λ rest b s'=>b.1=none/\s'=⟨hp,g,d,tk,os⟩/\∃(vs ws:List Value) (ns' ms':List Int),rest=vs.zip ws/\
   zBK vs ns'/\zBK ws ms'/\ns'.length+items2.size=ms'.length+items.size/\R (.ok (.ret (.bool (lexLe ns' ms')))) ⟨hp,g,d,tk,os⟩) _
  case turn=>
   rintro⟨y,x⟩ rest b s' ⟨hb',rfl,vs,ws,ns',ms',hz,hvi,hwi,hW,hR⟩;cases hvi with
   |nil=>rw[zGh]at hz;cases hz
   |cons a t hvi'=>
    cases hwi with
    |nil=>rw[zG4]at hz;cases hz
    |cons c u hwi'=>
     rw[zBY]at hz;injection hz with hyx hrest
     injection hyx with hy hx
     subst hy hx;rw[aBJ]at hR;simp only[zA4]at hW;obtain⟨e,he,hiff⟩:=aAA A.in1 ⟨hp,g,d,tk,os⟩ a t c u;refine zAY (he prog w _ _ ?_);cases e with
     |true=>
      rw[if_pos (hiff.mp rfl)]at hR;wp_walk;exact⟨rfl,rfl,_,_,_,_,hrest,hvi',hwi',by lia,hR⟩
     |false=>
      rw[if_neg (λ q=>absurd (hiff.mpr q) zA6)]at hR;have hri:=aED A.in1 ⟨hp,g,d,tk,os⟩ a t c u prog w;wp_walk using hri;exact⟨_,rfl,by simpa using hR⟩
  case fin=>
   rintro⟨b1,b2⟩ s' ⟨hb',rfl,vs,ws,ns',ms',hz,hvi,hwi,hW,hR⟩;simp only at hb';subst hb';have hv:lexLe ns' ms'=decide (items.size<=items2.size):=by
    cases hvi with
    |nil=>
     simp only[zB5]at hW;have e:lexLe [] ms'=true:=by cases ms'<;>rfl
     rw[e];exact(decide_eq_true (by lia)).symm
    |cons a t hv=>
     cases hwi with
     |nil=>
      simp only[zB5,zA4]at hW;show false=_;exact(decide_eq_false (by lia)).symm
     |cons c u hw=>
      rw[zBY]at hz;cases hz
   rw[hv]at hR;wp_walk;exact⟨_,rfl,by simpa[zDb]using hR⟩
  case h=>
   exact⟨rfl,rfl,items.toList,items2.toList,ns,ms,rfl,hi,hj,by lia,h⟩
end
section
variable{prog:zAU}{w:World}{A:zA8}{E:Value->zAD->Prop}{s:zAD}
def aBL(hl:IsTup s.heap l items)(hb:IsTup s.heap b items2)(hi:zBK items.toList ns)(hj:zBK items2.toList ms)
  (hu:A.units<cLine)(h:Q (.bool (lexLe ns ms)) s):wpAny (model prog w) A (zAw .LtE (.ref l) (.ref b)) Q E s:=by
 obtain⟨⟨cls,dd,data,sl⟩,ho,hc,n,hd⟩:=id hl;obtain⟨⟨cls2,dd2,data2,sl2⟩,ho2,hc2,n2,hd2⟩:=id hb;simp only at hc hd hc2 hd2;subst hc hd hc2 hd2;exact zGk (op:=.LtE) ⟨_,ho,rfl⟩ ⟨_,ho2,rfl⟩ PySem.F.slot_tuple_le PySem.F.entry_tuple_le (PySem.F.args_tuple_le_2 _ _) (vC l b items items2 n n2 dd dd2 sl sl2 ns ms hi hj)
  ⟨ho,ho2,show zDl (lexLe ns ms)≠zDt/\Q (.bool (lexLe ns ms)) s from⟨(λ x=>nomatch x),h⟩⟩ hu
def aF1{ws:List Value}(ht:IsTup s.heap t #[])(hb:IsTup s.heap b ws.toArray)(h1:Q (.ref b) s):wpAny (model prog w) A (zBd .Add (.ref t) (.ref b)) Q E s:=by
 obtain⟨⟨cls,dd,data,sl⟩,ho,hc,n,hd⟩:=id ht;obtain⟨⟨cls2,dd2,data2,sl2⟩,ho2,hc2,n2,hd2⟩:=id hb;simp only at hc hd hc2 hd2;subst hc hd hc2 hd2;exact zHG ⟨_,ho,rfl⟩ ⟨_,ho2,rfl⟩ zFi zGb zDS zDN (zDI _ _)
   (tuple_addW0 t b #[] ws.toArray n n2 dd dd2 sl sl2 (by simp)) ⟨ho,ho2,h1⟩
end
end HT
namespace L2
open PySem PySem.Spec PyProof.Rows
def aHB(t T:String):Bool:=decide (t=T)||(decide (t="bool")&&decide (T="int"))
def aGw{K:zAA}(ht:t∈["NoneType","bool","int","str","list","tuple","dict"])(hT:T∈["bool","int","str","list","tuple","dict"]):
  zDC K (.type t) (.type T)=some (aHB t T):=by
 simp only[zAQ,zD2,or_false]at ht hT;rcases ht with rfl|rfl|rfl|rfl|rfl|rfl|rfl<;>rcases hT with rfl|rfl|rfl|rfl|rfl|rfl<;>kernel_rfl
def lQ(t T:String)(b:Bool):Bool:=decide (t∈["NoneType","bool","int","str","list","tuple","dict"])&&decide (T∈["bool","int","str","list","tuple","dict"])&&(aHB t T==b)
def aBO{K:zAA}(h:lQ t T b=true):zDC K (.type t) (.type T)=some b:=by
 unfold lQ at h;rw[zAM,zAM]at h;rw[aGw (of_decide_eq_true h.1.1) (of_decide_eq_true h.1.2),zHH h.2]
def bN(h:H p=none)(o:HO):aV H (upd H p o):=λ b u q=>by rw[aW (bZ q h)];exact q
section
variable{X:Cx}
def aLc(K:zAA):List V->Hp->VK->Prop:=λ xs H Q=>∃x T t b,xs=[x,.ty T]/\qP K H x (.type t)/\lQ t T b=true/\Q (.bl b) H
def j6:cR X (.builtin "isinstance") (aLc X.K):=by
 intro hV s σ H xs us Q I r h;obtain⟨x,T,t,b,rfl,ty,ok,q⟩:=h;obtain⟨u,w',rfl,r1,r2⟩:=vals2 r;obtain rfl:w'=zCV T:=r2;exact aCx I r1 ty (aBO ok) λ tk=>⟨.bl b,H,I.tok tk,rfl,q⟩
def aGL(K:zAA):R2:=λ x y H Q=>∃a b ns ms,x= .ref a/\y= .ref b/\SqT K H a (ns.map V.int)/\SqT K H b (ms.map V.int)/\Q (.bl (HT.lexLe ns ms)) H
def aJ0(hu:X.A.units<cLine):OpR X (zAw .LtE) (aGL X.K):=by
 intro hV s σ H x y v u Q I rx ry h;obtain⟨a,b,ns,ms,rfl,rfl,ha,hb,q⟩:=h;cases rx;cases ry;obtain⟨its,r1,p1,_⟩:=I.tuple ha;obtain⟨its2,r2,p2,_⟩:=I.tuple hb;have i1:zBK its.toArray.toList ns:=intsAre_of r1;have i2:zBK its2.toArray.toList ms:=intsAre_of r2;exact HT.aBL p1 p2 i1 i2 hu ⟨.bl (HT.lexLe ns ms),H,I,rfl,q⟩
def aE5:OpR X (zAw .Is) (λ x y H Q=>∃b c,x= .bl b/\y= .bl c/\Q (.bl (b==c)) H):=by
 intro hV s σ H x y v u Q I rx ry h;obtain⟨b,c,rfl,rfl,q⟩:=h;cases rx;cases ry;exact is_bool (aFS I q rfl)
def Inv.big'(I:Inv X hV σ H s):zCA<s.heap.objs.size:=by
 have h:zAa<s.heap.objs.size:=(I.mod.glob.keeps I.bk).lt;exact Nat.lt_trans (by decide) h
def aK2:TE:=λ _ H Q=>∀p,H p=none->Q (.ref p) (upd H p (.dK []))
def aGZ:PE X (.Dict [] [] pos) aK2:=λ hV s σ H Q I h=>
 wpAny_Dict_empty ⟨.ref s.heap.objs.size,_,I.laid (a:=s.heap.objs.size) (o:=.dK []) (t':=s.toks) (λ _ _ q=>zAG _ q) (zAV _)
  ⟨zAi _,beq_eq_false_iff_ne.mpr (zCX (zAd I.big')),[],.nil,zFn s.heap⟩,rfl,h _ (I.hok.fresh (zAV _))⟩
end
def jE(l:Addr)(H H':Hp):Prop:=∀b o,b≠l->H b=some o->H' b=some o
def aV.sqt{K:zAA}(e:aV H H')(h:SqT K H a xs):SqT K H' a xs:=by
 rcases h with (h|⟨o,h⟩)|h
 .exact .inl (.inl (e _ _ h))
 .exact .inl (.inr ⟨o,e _ _ h⟩)
 .exact .inr h
inductive D where
 |non|bl (b:Bool)|int (i:Int)|str (x:Str)|tup (l:List D)|lst (l:List D)|dct
mutual
inductive Rep(H:Hp):V->D->Prop where
 |non:Rep H .non .non
 |bl (b:Bool):Rep H (.bl b) (.bl b)
 |int (i:Int):Rep H (.int i) (.int i)
 |str (x:Str):Rep H (.str x) (.str x)
 |tup {a:Addr} {xs:List V} {ds:List D} (h:H a=some (.tup xs)) (r:jD H xs ds):Rep H (.ref a) (.tup ds)
 |lst {a:Addr} {xs:List V} {ds:List D} (h:H a=some (.lst xs)) (r:jD H xs ds):Rep H (.ref a) (.lst ds)
 |dct {a:Addr} (h:H a=some (.dK [])):Rep H (.ref a) .dct
inductive jD(H:Hp):List V->List D->Prop where
 |nil:jD H [] []
 |cons {x:V} {d:D} {xs:List V} {ds:List D} (h:Rep H x d) (r:jD H xs ds):jD H (x::xs) (d::ds)
end
theorem jD.length:∀{xs:List V} {ds:List D},jD H xs ds->xs.length=ds.length
 |_,_,.nil=>rfl
 |_,_,.cons _ r=>by rw[zA4,zA4,jD.length r]
theorem jD.get:∀{xs:List V} {ds:List D} {i:Nat} {x:V},jD H xs ds->xs[i]? =some x->∃d,ds[i]? =some d/\Rep H x d
 |_,_,_,_,.nil,e=>by simp at e
 |_,_,0,_,.cons h _,e=>by simp at e;subst e;exact⟨_,rfl,h⟩
 |_,_,i+1,x,.cons _ r,e=>by
  obtain⟨d,h1,h2⟩:=jD.get (i:=i) (x:=x) r (by simpa using e);exact⟨d,by simpa using h1,h2⟩
def PE.weaken(h:PE X e t)(imp:∀σ H Q,t' σ H Q->t σ H Q):PE X e t':=λ hV s σ H Q I q=>h hV s σ H Q I (imp σ H Q q)
def OpR.weaken(h:OpR X f r)(imp:∀x y H Q,r' x y H Q->r x y H Q):OpR X f r':=λ hV s σ H x y v u Q I rx ry q=>h hV s σ H x y v u Q I rx ry (imp x y H Q q)
def New(H:Hp)(o:HO)(Q:VK):Prop:=∀p H',aV H H'->H' p=some o->H p=none->Q (.ref p) H'
def New.at(n:New H o Q)(hp:H p=none):Q (.ref p) (upd H p o):=n p _ (bN hp o) ak hp
section
variable{X:Cx}{es:List Expr}{t:TA}{pos:Pos}
def aKY(t:TA):TE:=λ σ H Q=>t σ H λ xs H1=>xs.length<=zAR/\New H1 (.tup xs) Q
def aHj(t:TA):TE:=λ σ H Q=>t σ H λ xs H1=>xs.length<=zAR/\New H1 (.lst xs) Q
def aGW{x1}(h:PA X es t):PE X (.Tuple es x1 pos) (aKY t):=by
 have h':PA X es (λ σ H Q=>∃R:List V->Hp->Prop,t σ H R/\∀xs H',R xs H'->Q xs H'):=by
  intro pos hV s σ H Q I ⟨R,q,imp⟩;exact thn (h pos hV s σ H R I q) λ us s' ⟨vs,H',I',r,q'⟩=>⟨vs,H',I',r,imp _ _ q'⟩
 exact(aJH h').weaken λ σ H Q q=>⟨_,q,λ xs H' ⟨z,n⟩=>⟨z,λ p hp=>n.at hp⟩⟩
def xV(h:PA X es t):PE X (.List es pos) (aHj t):=by
 have h':PA X es (λ σ H Q=>∃R:List V->Hp->Prop,t σ H R/\∀xs H',R xs H'->Q xs H'):=by
  intro pos hV s σ H Q I ⟨R,q,imp⟩;exact thn (h pos hV s σ H R I q) λ us s' ⟨vs,H',I',r,q'⟩=>⟨vs,H',I',r,imp _ _ q'⟩
 exact(aJM h').weaken λ σ H Q q=>⟨_,q,λ xs H' ⟨z,n⟩=>⟨z,λ p hp=>n.at hp⟩⟩
def aI5:TE:=λ _ H Q=>New H (.dK []) Q
def aEW:PE X (.Dict [] [] pos) aI5:=aGZ.weaken λ σ H Q n p hp=>n.at hp
def aIA:R2:=λ x y H Q=>∃l b xs zs,x= .ref l/\y= .ref b/\H l=some (.lst xs)/\H b=some (.lst zs)/\xs.length+zs.length<=zAR/\New H (.lst (xs++zs)) Q
def aGh:OpR X (zBd .Add) aIA:=aJ4.weaken λ x y H Q ⟨l,b,xs,zs,e1,e2,h1,h2,z,n⟩=>⟨l,b,xs,zs,e1,e2,h1,h2,z,λ p hp=>n.at hp⟩
def o7:V->List V->Hp->VK->Prop:=λ x vs H Q=>∃l xs y,x= .ref l/\vs=[y]/\H l=some (.lst xs)/\xs.length<zAR/\∀H',jE l H H'->H' l=some (.lst (xs++[y]))->Q .non H'
def oE:MtM X "list.append" o7:=λ hV s σ H x xs v us Q I rx rv ⟨l,ys,y,e1,e2,h,z,n⟩=>
 vg hV s σ H x xs v us Q I rx rv ⟨l,ys,y,e1,e2,h,z,n _ (λ b o ne hb=>by rw[aW ne];exact hb) ak⟩
end
def bf(scope:Scope)(env:Env):List (Str×Addr):=(scope.names.filterMap λ y=>if y.2== .free then(env.cells.lookup y.1).map λ c=>(y.1,c)else none).reverse
theorem uw(env:Env):∀(names:List (Str×zDH)) (acc:List (Str×Addr)),(∀y∈names,y.2= .free->∃c,env.cells.lookup y.1=some c)->
  (forIn names acc λ(x:Str×zDH) r=>if (x.2== .free)=true then do let c <-cellOf env x.1;pure (zBe ((x.1,c)::r))else pure (zBe r):Sem (List (Str×Addr)))=
   pure ((names.filterMap λ y=>if y.2== .free then(env.cells.lookup y.1).map λ c=>(y.1,c)else none).reverse++acc)
 |[],acc,_=>rfl
 |(n,k)::r,acc,h=>by
  rw[List.forIn_cons];have ih:=λ acc'=>uw env r acc' λ y hy=>h y (zAB _ hy)
  by_cases hk:k= .free
  .subst hk
   obtain⟨c,hc⟩:=h (n,.free) zAE rfl;have hc':env.cells.lookup n=some c:=hc;simp only[beq_self_eq_true,if_true,cellOf,hc',zBv,zDa,zC7,zAx,zDg];exact ih _
  .have hb:(k==zB8)=false:=by simpa using hk
   simp only[hb,zCZ,if_false,zBv];exact ih _
def nM(h:∀y∈scope.names,y.2= .free->∃c,env.cells.lookup y.1=some c):zGX scope env=pure (bf scope env):=by
 have e:=uw env scope.names [] h;rw[zAo]at e;have e2:zGX scope env=((forIn scope.names ([]:List (Str×Addr)) λ(x:Str×zDH) r=>if (x.2== .free)=true then do let c <-cellOf env x.1;pure (zBe ((x.1,c)::r))else pure (zBe r):Sem (List (Str×Addr)))>>=λ r=>pure r):=rfl;rw[e2,e];rfl
def rB(h:(bf scope env).lookup x=some c):env.cells.lookup x=some c:=by
 have hm:=zAp h;unfold bf at hm;rw[zGv,zCE]at hm;obtain⟨y,hy,e⟩:=hm;split at e
 .cases q:env.cells.lookup y.1 with
  |none=>rw[q]at e;cases e
  |some c'=>
   rw[q]at e;have e':=zAg e;injection e' with e1 e2
   subst e1 e2;exact q
 .cases e
def aAN(hx:scope.names.lookup x=some .free)(h:env.cells.lookup x=some c):(bf scope env).lookup x=some c:=by
 have hm:(x,zB8)∈scope.names:=zAp hx
 have:(x,c)∈bf scope env:=by
  unfold bf;rw[zGv,zCE];exact⟨_,hm,by simp[h]⟩
 cases q:(bf scope env).lookup x with
 |none=>
  exact absurd this (by
   intro hm'
   have:=zDW.mp q _ hm'
   simp at this)
 |some c'=>
  have:=rB q
  rw[h]at this;exact this.symm▸rfl
def rN(scope:Scope)(C:Addr):List (Str×Addr):=zDO (C+1) scope.names []
theorem j0:∀(names:List (Str×zDH)) (n:Nat) (acc:List (Str×Addr)),zDO n names acc=zDO n names []++acc
 |[],_,_=>rfl
 |(x,k)::r,n,acc=>by
  unfold zDO;split
  .rw[j0 r (n+1) ((x,n)::acc),j0 r (n+1) [(x,n)],zAx];rfl
  .exact j0 r n acc
theorem oN:∀{names:List (Str×zDH)} {n:Nat} {x:Str} {c:Addr},(x,c)∈zDO n names []->(x,zCd)∈names
 |(y,k)::r,n,x,c,h=>by
  unfold zDO at h;split at h
  .rename_i hk
   rw[j0,zAX]at h;rcases h with h|h
   .exact zAB _ (oN h)
   .have e:=zAK.mp h
    cases e;rw[zHH hk];exact zAE
  .exact zAB _ (oN h)
 |[],_,_,_,h=>by cases h
def jV{l m:List (Str×Addr)}(h:(l++m).lookup x=some c):l.lookup x=some c\/(l.lookup x=none/\m.lookup x=some c):=by
 rw[zEW]at h;cases e:l.lookup x with
 |some c'=>rw[e]at h;exact .inl h
 |none=>rw[e]at h;exact .inr ⟨rfl,h⟩
def aGm{M:Model}{A:zA8}{E:Value->zAD->Prop}{s:zAD}{scope:Scope}{globals:Addr}{cl:List (Str×Addr)}{qual:Str}{env:Env}{Q:Env->zAD->Prop}
  (h:∀h':Heap,h'.Ns s.heap.objs.size (λ _=>none)->(∀b o,s.heap.get? b=some o->h'.get? b=some o)->CellsOk h' (s.heap.objs.size+1) (rN scope s.heap.objs.size)->
   Q {scope:=scope,locals:=s.heap.objs.size,globals:=globals,cells:=rN scope s.heap.objs.size++cl,qual:=qual,func:=none,code:=env.code,frame:=env.frame,builtins:=env.builtins} {s with heap:=h'}):
  wpAny M A (zGR scope globals cl [] qual none .none (some env)) Q E s:=by
 simp only[zGR,zGO,if_true];refine zAY (wpAny_alloc ?_);refine zAY (wpAny_layCells _ (λ name kind cells=>by cases hkc:kind==zCd<;>simp[hkc]) _ _ _ _ ?_);have ok:=cellsFrom_ok scope.names (s.heap.push {cls:=.type "dict",data:=.dict #[]}) (s.heap.objs.size+1) [] ⟨λ _ _ hm=>(nomatch hm),zFB⟩ (by rw[zCC];exact zAV _);rw[zCC]at ok;rw[show({s with heap:=s.heap.push {cls:=.type "dict",data:=.dict #[]}}:zAD).heap.objs.size=s.heap.objs.size+1 from zCC ..,j0];refine zAr ?_;exact h _ ((Heap.Ns.new s.heap (.type "dict")).keeps (pushCells_keeps _ _)) (λ b o e=>pushCells_keeps _ _ b o (zAG _ e)) ok
def Cx.block(X:Cx)(scope:Scope)(C:Addr)(N:List Str)(fp:List Addr)(z5:zAD)(zS:Hp):Cx:=
  {prog:=X.prog,w:=X.w,K:=X.K,mg:=X.mg,base:=X.base,A:=X.A,N:=N,z5:=z5,zS:=zS,env:=compEnvC scope (rN scope C++bf scope X.env) C X.env,outer:=X.stack,stack:=X.stack,ex:=fp,
    fn:=λ x=>scope.names.lookup x==some .cell,calm:=X.calm,pn:=[],xe:=λ _ _=>False}
structure gW(X:Cx)(scope:Scope)(N:List Str)(st:St->St)(ks:List Nat):Prop where
 kind:scope.kind= .function
 sep:∀y∈scope.names,y.2= .cell->scope.names.lookup y.1=some .cell
 loc:∀y∈scope.names,y.2= .local->scope.names.lookup y.1=some .local
 free:∀y∈scope.names,y.2= .free->X.env.kindOf y.1=some .cell\/X.env.kindOf y.1=some .free
 len:∀σ,(st σ).length=N.length
 val:∀σ (i:Nat) x v,N[i]? =some x->(st σ)[i]? =some (some v)->scope.names.lookup x=some .free/\i∉ks/\∃j:Nat,X.N[j]? =some x/\σ[j]? =some (some v)
def xR(h:(zFx scope env).names.lookup x=some .cell\/(zFx scope env).names.lookup x=some .free):scope.names.lookup x=some .free\/scope.names.lookup x=some .cell:=by
 have go:∀names:List (Str×zDH),((names.map λ(n,k)=>if (k==zB8&&env.scope.kind== .function&&env.kindOf n==some .cell)then(n,zCd)else(n,k)).lookup x=some .cell\/
   (names.map λ(n,k)=>if (k==zB8&&env.scope.kind== .function&&env.kindOf n==some .cell)then(n,zCd)else(n,k)).lookup x=some .free)->names.lookup x=some .free\/names.lookup x=some .cell:=by
  intro names;induction names with
  |nil=>intro h;simp at h
  |cons y r ih=>
   obtain⟨n,k⟩:=y;intro h;rw[zAC]at h;by_cases hx:x==n
   .rw[zAh,hx]
    show some k=some .free\/some k=some .cell;by_cases hcc:(k==zB8&&env.scope.kind== .function&&env.kindOf n==some .cell)=true
    .rw[zAM,zAM]at hcc
     rw[zHH hcc.1.1];exact .inl rfl
    .simp only[if_neg hcc,zAh,hx]at h
     exact h.elim .inr .inl
   .have hx':(x==n)=false:=by simpa using hx
    rw[zAh,hx'];refine ih ?_;by_cases hcc:(k==zB8&&env.scope.kind== .function&&env.kindOf n==some .cell)=true
    .simp only[if_pos hcc,zAh,hx']at h
     exact h
    .simp only[if_neg hcc,zAh,hx']at h
     exact h
 exact go scope.names h
def xT(h:scope.names.lookup x=some .free):(zFx scope env).names.lookup x=some .cell\/(zFx scope env).names.lookup x=some .free:=by
 have go:∀names:List (Str×zDH),names.lookup x=some .free->((names.map λ(n,k)=>if (k==zB8&&env.scope.kind== .function&&env.kindOf n==some .cell)then(n,zCd)else(n,k)).lookup x=some .cell\/
   (names.map λ(n,k)=>if (k==zB8&&env.scope.kind== .function&&env.kindOf n==some .cell)then(n,zCd)else(n,k)).lookup x=some .free):=by
  intro names;induction names with
  |nil=>intro h;simp at h
  |cons y r ih=>
   obtain⟨n,k⟩:=y;intro h;rw[zAC];by_cases hx:x==n
   .rw[zAh,hx]at h
    have hk:k= .free:=zAg h;by_cases hcc:(k==zB8&&env.scope.kind== .function&&env.kindOf n==some .cell)=true
    .simp only[if_pos hcc,zAh,hx]
     exact .inl trivial
    .simp only[if_neg hcc,zAh,hx]
     exact .inr (by rw[hk])
   .have hx':(x==n)=false:=by simpa using hx
    rw[zAh,hx']at h;by_cases hcc:(k==zB8&&env.scope.kind== .function&&env.kindOf n==some .cell)=true
    .simp only[if_pos hcc,zAh,hx']
     exact ih h
    .simp only[if_neg hcc,zAh,hx']
     exact ih h
 exact go scope.names h
section
variable{X:Cx}{hV:hZ}{σ:St}{H:Hp}{s:zAD}
theorem Inv.block{st:St->St}{D C:Addr}(I:Inv X hV σ H s)(B:gW X scope N st ks)
  (hfp:∀b∈fp,rW X hV H b)(hob:∀b∈fp,∃ob,s.heap.get? b=some ob)
  (hD:s.heap.objs.size<=D)(hC:s.heap.objs.size<=C)(hDC:D≠C)(keep:∀b u,s.heap.get? b=some u->h'.get? b=some u)(hns:h'.Ns C λ _=>none)(hcs:CellsOk h' (C+1) (rN scope C))(hDo:∀c,C<c->D≠c)(kX:cB X.prog X.w (upd H D o) h' D o):
  Inv (X.block scope C N fp s H) [] (st σ) (upd H D o) {s with heap:=h',toks:=tk}:=by
 have hHD:H D=none:=I.hok.fresh hD;have hcl:∀x c,(bf scope X.env).lookup x=some c->X.env.cells.lookup x=some c:=λ x c e=>rB e
 have hol:∀x c,(rN scope C).lookup x=some c->C<c/\h'.IsCell c none:=λ x c e=>let⟨q1,q2⟩:=hcs.empty x c (zAp e);⟨q2,q1⟩
 have hlt:∀x c,(bf scope X.env).lookup x=some c->c<s.heap.objs.size:=λ x c e=>let⟨v,ic⟩:=I.cell x c (hcl x c e);ic.lt
 have aE:∀b∈fp,b<s.heap.objs.size:=λ b hb=>by
  obtain⟨ob,e⟩:=hob b hb;exact zA0 e
 refine⟨⟨I.mod,?_,I.ok.glob,I.ok.blt,hC,λ x y c e1 e2=>?_,λ x hx=>?_,λ x c hf e=>?_,I.ok.hd,I.ok.frames,.inl rfl,λ b hb=>⟨?_,λ x c e z=>?_⟩,
  I.bs,?_,λ b ob e hb=>?_,λ b hb hs=>?_,I.stack,I.stkFree⟩,rfl,I.bare,Un.laid keep hD hHD,⟨_,hns,λ i x v e1 e2 hv=>?_⟩,λ x c e=>?_,?_,λ x c e=>?_,λ p hp=>absurd (show p∈([]:hZ)from hp) (by simp),I.hok.laid keep hD kX,B.len σ,λ p hp=>absurd (show p∈([]:hZ)from hp) (by simp)⟩
 .show(zFx scope X.env).kind= .function
  exact B.kind
 .rcases jV e1 with a1|⟨_,a1⟩<;>rcases jV e2 with a2|⟨_,a2⟩
  .exact PySem.name_of_addr hcs.apart (zAp a1) (zAp a2)
  .exact absurd (hlt y c a2) (zE7.mpr (zAf hC (zBf (hol x c a1).1)))
  .exact absurd (hlt x c a1) (zE7.mpr (zAf hC (zBf (hol y c a2).1)))
  .exact I.ok.inj x y c (hcl x c a1) (hcl y c a2)
 .show∃c,(rN scope C++bf scope X.env).lookup x=some c
  rw[zEW];cases e:(rN scope C).lookup x with
  |some c=>exact⟨c,rfl⟩
  |none=>
   rcases xR hx with hfree|hcell
   .obtain⟨c,hc⟩:=I.ok.has x (B.free (x,.free) (zAp hfree) rfl)
    exact⟨c,aAN hfree hc⟩
   .obtain⟨c,hc⟩:=pH (n:=C+1) hcell
    rw[show(rN scope C).lookup x=some c from hc]at e;cases e
 .rcases jV e with a1|⟨a0,_⟩
  .exact zAf hC (zBf (hol x c a1).1)
  .obtain⟨c',hc'⟩:=pH (n:=C+1) (zHH hf)
   rw[show(rN scope C).lookup x=some c' from hc']at a0;cases a0
 .exact zAd (zA2 (aE b hb) hC)
 .rcases jV e with a1|⟨_,a1⟩
  .exact absurd (aE b hb) (zE7.mpr (by rw[<-z];exact zAf hC (zBf (hol x c a1).1)))
  .exact(hfp b hb).2.2.2.2.1 x c (hcl x c a1) z
 .exact zAf I.ok.bsz I.sz
 .rcases(hfp b hb).2.2.2.1 with z|z
  .exact I.ok.noex b ob e z
  .exact absurd (zA2 (zA0 (I.ok.bs b ob e).1) z) (zBT _)
 .rcases zAQ.mp (I.stkSub b hs)with z|z
  .exact(hfp b hb).2.1 z
  .exact(hfp b hb).2.2.1 z
 .obtain⟨hfree,_,j,f1,f2⟩:=B.val σ i x v e1 e2
  obtain⟨m,hn,hl⟩:=I.loc;have hk:=B.free (x,.free) (zAp hfree) rfl;obtain⟨u,ru,hu⟩:=hl j x v f1 f2 (hk.elim (λ z=>.inr (.inl z)) λ z=>.inr (.inr z));rcases hu with ⟨k,_⟩|⟨_,c,ec,ic⟩
  .rcases hk with z|z
   .exact absurd (k.symm.trans z) (by decide)
   .exact absurd (k.symm.trans z) (by decide)
  .have hno:(rN scope C).lookup x=none:=by
    cases e:(rN scope C).lookup x with
    |none=>rfl
    |some c'=>
     have:=B.sep _ (oN (zAp e)) rfl
     rw[hfree]at this;cases this
   refine⟨u,ru,.inr ⟨?_,c,by show(rN scope C++bf scope X.env).lookup x=some c;rw[zEW,hno];exact aAN hfree ec,ic.keeps keep⟩⟩;rcases hv with z|z|z
   .have z':(zFx scope X.env).names.lookup x=some .local:=z
    rcases xT (env:=X.env) hfree with y|y
    .exact absurd (z'.symm.trans y) (by decide)
    .exact absurd (z'.symm.trans y) (by decide)
   .exact .inl z
   .exact .inr z
 .rcases jV e with a1|⟨_,a1⟩
  .exact⟨_,(hol x c a1).2⟩
  .obtain⟨v,ic⟩:=I.cell x c (hcl x c a1)
   exact⟨v,ic.keeps keep⟩
 .show upd H D o C=none
  rw[aW (zCX hDC)];exact I.hok.fresh hC
 .show upd H D o c=none
  rcases jV e with a1|⟨_,a1⟩
  .rw[aW (zCX (hDo c (hol x c a1).1))]
   exact I.hok.fresh (zAf hC (zBf (hol x c a1).1))
  .obtain⟨v,ic⟩:=I.cell x c (hcl x c a1)
   rw[aW (zAd (zA2 ic.lt hD))];exact I.freeC x c (hcl x c a1)
end
section
variable{prog:zAU}{w:World}{A:zA8}{R:zE2->zAD->Prop}{s:zAD}
def yP(I:Nat->zAD->Prop)
  (turn:∀n s,I n s->wpAny (model prog w) A (pyNext it) (λ r z4=>match r with
   |none=>R (.ok .next) z4
   |some v=>wpAny (model prog w) A (zER target it v) (λ _ z4=>wpAny (model prog w) A (zDw target env v) (λ _ zI=>
     wpAny (model prog w) A (forIn ifs true λ c r=>if r=true then do let ok <-isTrue c env (eval c env);pure (zBe ok)else pure (zBe r)) (λ ok zC=>
      if ok=true then wpAny (model prog w) A (eval elt env) (λ x s₄=>
       wpAny (model prog w) A (call (.builtin "list.append") [acc,x]) (λ _ s₅=>∃m,m<n/\I m s₅) (λ _ _=>False) s₄) (λ _ _=>False) zC
      else∃m,m<n/\I m zC) (λ _ _=>False) zI) (λ _ _=>False) z4) (λ _ _=>False) z4) (λ _ _=>False) s)
  (n:Nat)(h:I n s):zDP (model prog w) A (.compLoop (.ListComp elt [⟨target,iter,ifs,0⟩] scope pos) 0 it acc env) R s:=by
 refine codeAny_loop rfl I (λ n s hI=>?_) n h;show wpAny _ A ((compTurn (.ListComp elt [⟨target,iter,ifs,0⟩] scope pos) 0 it acc env).onRaise (λ x=>do noteFrame x env;theTreesLotGoes x)) _ _ s;refine wpAny_noted ?_;rw[compTurn_list];refine zAY (zEm (zAY (zBa (turn n s hI) (λ r z4 zD=>?_) λ _ _ h'=>h'.elim)));cases r with
 |none=>exact zAr zD
 |some v=>
  refine zAY (zBa zD (λ _ z4 zD=>?_) λ _ _ h'=>h'.elim);refine zAY (zBa zD (λ _ zI y9=>zAY (zBa y9 (λ ok zC h₃=>?_) λ _ _ h'=>h'.elim)) λ _ _ h'=>h'.elim);cases ok with
  |false=>exact zAr ⟨rfl,h₃⟩
  |true=>
   exact zAY (zAY (zBa h₃ (λ x s₄ h₄=>zAY (zBa h₄ (λ _ s₅ h₅=>zAr (zAr ⟨rfl,h₅⟩)) λ _ _ h'=>h'.elim)) λ _ _ h'=>h'.elim))
end
def uy(g:TG)(ks:List Nat):Prop:=∀v σ H (Q:St->Hp->Prop),g v σ H Q->g v σ H (λ σ' H'=>Q σ' H'/\σ'.length=σ.length/\∀k,k∉ks->σ'[k]? =σ[k]?)
def ux(g:TGs)(ks:List Nat):Prop:=∀vs σ H (Q:St->Hp->Prop),g vs σ H Q->g vs σ H (λ σ' H'=>Q σ' H'/\σ'.length=σ.length/\∀k,k∉ks->σ'[k]? =σ[k]?)
def aHO(h:i∈ks):uy (qj i) ks:=λ v σ H Q q=>⟨q,zBI,λ k hk=>zBH (λ(e:i=k)=>hk (e▸h))⟩
def aHN:ux aJt ks:=λ vs σ H Q ⟨e,q⟩=>⟨e,q,rfl,λ _ _=>rfl⟩
def aAZ(g:TG):Prop:=∀v σ H (Q Q':St->Hp->Prop),(∀σ' H',Q σ' H'->Q' σ' H')->g v σ H Q->g v σ H Q'
def qQ(g:TGs):Prop:=∀v σ H (Q Q':St->Hp->Prop),(∀σ' H',Q σ' H'->Q' σ' H')->g v σ H Q->g v σ H Q'
def aHQ:aAZ (qj i):=λ v σ H Q Q' imp q=>imp _ _ q
def aHP:qQ aJt:=λ v σ H Q Q' imp ⟨e,q⟩=>⟨e,imp _ _ q⟩
def aFM(h1:aAZ t)(h2:qQ u):qQ (aFO t u):=λ vs σ H Q Q' imp ⟨v,r,e,q⟩=>⟨v,r,e,h1 _ _ _ _ _ (λ σ' H' q'=>h2 _ _ _ _ _ imp q') q⟩
def aFK(h1:uy t ks)(m1:aAZ t)(h2:ux u ks)(m2:qQ u):ux (aFO t u) ks:=λ vs σ H Q ⟨v,r,e,q⟩=>
 ⟨v,r,e,m1 _ _ _ _ _ (λ σ' H' ⟨q',l',k'⟩=>m2 _ _ _ _ _ (λ σ2 H2 ⟨q2,l2,k2⟩=>⟨q2,l2.trans l',λ k hk=>(k2 k hk).trans (k' k hk)⟩) (h2 _ _ _ _ q')) (h1 _ _ _ _ q)⟩
def aJr{K:zAA}(h:ux t ks):uy (aHR K n t) ks:=λ v σ H Q ⟨a,xs,e1,e2,e3,q⟩=>⟨a,xs,e1,e2,e3,h _ _ _ _ q⟩
def aJs{K:zAA}(h:qQ t):aAZ (aHR K n t):=λ v σ H Q Q' imp ⟨a,xs,e1,e2,e3,q⟩=>⟨a,xs,e1,e2,e3,h _ _ _ _ _ imp q⟩
def aDR(X:Cx)(ifs:List Expr)(t:TT):Prop:=
 ∀(hV:hZ) (s:zAD) (σ:St) (H:Hp) (Q:Bool->Hp->Prop),Inv X hV σ H s->t σ H Q->
  wpAny (model X.prog X.w) X.A (forIn ifs true λ c r=>if r=true then do let ok <-isTrue c X.env (eval c X.env);pure (zBe ok)else pure (zBe r)) (TP X hV σ Q) X.xe s
def aL0:TT:=λ _ H Q=>Q true H
def aJG:aDR X [] aL0:=λ _ _ _ H _ I h=>wpAny_tests_nil ⟨H,I,h⟩
def aJF(h:PT X c t):aDR X [c] t:=λ hV s σ H Q I q=>wpAny_tests_one (h hV s σ H Q I q)
def tLC(wi:TI)(st:St->St)(g:TG)(tt:TT)(te:TE):TE:=λ σ H Q=>wi σ H λ J H1=>∀l,H1 l=none->∃W:Nat->Nat->List V->Hp->Prop,(∃m,W 0 m [] (upd H1 l (.lst [])))/\
 ∀i m acc H2,W i m acc H2->H2 l=some (.lst acc)/\acc.length<zAR/\((J.stop i H2/\Q (.ref l) H2)\/(J.go i H2/\∀x H3,J.yld i H2 x H3->g x (st σ) H3 λ σ4 H4=>tt σ4 H4 λ ok H5=>
  if ok=true then te σ4 H5 λ y H6=>H6 l=some (.lst acc)/\∃m',m'<m/\W (i+1) m' (acc++[y]) (upd H6 l (.lst (acc++[y])))else∃m',m'<m/\W (i+1) m' acc H5))
section
variable{X:Cx}{elt tg iter:Expr}{ifs:List Expr}{scope:Scope}{pos:Pos}{N:List Str}{st:St->St}{ks:List Nat}{wi:TI}{g:TG}{tt:TT}{te:TE}
def zc(B:gW X scope N st ks)(hc:X.calm=true)(hg:∀C fp z5 zS,PG (X.block scope C N fp z5 zS) tg g)(hgo:uy g ks)(ht:∀C fp z5 zS,aDR (X.block scope C N fp z5 zS) ifs tt)
  (he:∀C fp z5 zS,PE (X.block scope C N fp z5 zS) elt te){H1:Hp}{Q:VK}{RR:Value->Addr->zE2->zAD->Prop}
  (I:Inv X hV σ H1 zI)(T:Turn X.prog X.w X.K tg J fp it tn)(h0:tn 0 zI.heap)(hfp:∀b∈fp,rW X hV H1 b)
  (h:∀l,H1 l=none->∃W:Nat->Nat->List V->Hp->Prop,(∃m,W 0 m [] (upd H1 l (.lst [])))/\
   ∀i m acc H2,W i m acc H2->H2 l=some (.lst acc)/\acc.length<zAR/\((J.stop i H2/\Q (.ref l) H2)\/(J.go i H2/\∀x H3,J.yld i H2 x H3->g x (st σ) H3 λ σ4 H4=>tt σ4 H4 λ ok H5=>
    if ok=true then te σ4 H5 λ y H6=>H6 l=some (.lst acc)/\∃m',m'<m/\W (i+1) m' (acc++[y]) (upd H6 l (.lst (acc++[y])))else∃m',m'<m/\W (i+1) m' acc H5)))
  (hRR:∀D C H' s',(∃σ',Inv (X.block scope C N fp zI H1) [] σ' H' s')->zI.heap.objs.size<=C->Q (.ref D) H'->RR (.ref D) C (.ok .next) s'):
  wpAny (model X.prog X.w) X.A (zGa []) (λ acc zC=>wpAny (model X.prog X.w) X.A (zGR scope X.env.globals (bf scope X.env) [] X.env.qual none .none (some X.env)) (λ cenv s₄=>
   zDP (model X.prog X.w) X.A (.compStart (.ListComp elt [⟨tg,iter,ifs,0⟩] scope pos) 0 (.ref it) acc {cenv with scope:=zFx scope X.env}) (RR acc cenv.locals) s₄) E zC) E zI:=by
 refine zFV (aGm λ zD hns₁ y7 hcs₁=>?_);dsimp only at hns₁ y7 hcs₁ ⊢;generalize hH2:zI.heap.push {cls:=.type "list",dict:=none,data:=.seq ([]:List Value).toArray}=P2 at hns₁ y7 hcs₁ ⊢;have hC:P2.objs.size=zI.heap.objs.size+1:=by rw[<-hH2,zCC]
 have hDC:zI.heap.objs.size≠P2.objs.size:=by rw[hC];exact zAd (zCm _)
 have kQ:zI.heap.objs.size<=P2.objs.size:=by rw[hC];exact zEO _
 have old:∀b o,zI.heap.get? b=some o->zD.get? b=some o:=λ b o e=>y7 b o (hH2▸zAG _ e)
 have kX:zD.get? zI.heap.objs.size=some {cls:=.type "list",dict:=none,data:=.seq ([]:List Value).toArray}:=y7 _ _ (hH2▸zA5 _ rfl);generalize hCe:P2.objs.size=C at hns₁ y7 hcs₁ hDC kQ hC ⊢;have hHD:H1 zI.heap.objs.size=none:=I.hok.fresh (zAV _);have I0:Inv (X.block scope C N fp zI H1) [] (st σ) (upd H1 zI.heap.objs.size (.lst [])) {zI with heap:=zD,toks:=zI.toks}:=
  I.block B hfp (λ b hb=>by obtain⟨o,e,_⟩:=T.obj 0 _ h0 b hb;exact⟨o,e⟩) (zAV _) kQ hDC old hns₁ hcs₁ (λ c hc=>zAd (Nat.lt_of_le_of_lt kQ hc)) ⟨zAi _,[],0,.nil,kX⟩
 obtain⟨W,⟨m0,w0⟩,step⟩:=h _ hHD;have h01:tn 0 zD:=T.keep 0 _ _ h0 λ b _ o e=>old b o e
 have qV:∀{H':Hp},(∀b∈fp,H' b=none)->∀b∈fp,rW (X.block scope C N fp zI H1) [] H' b:=λ{H'} hn b hb=>
  ⟨hn b hb,(I0.ok.exf b hb).1,I0.ok.exfs b hb,.inl hb,λ x c e=>(I0.ok.exf b hb).2 x c e,λ p hp=>absurd (show p∈([]:hZ)from hp) (by simp)⟩
 have fr0:∀b∈fp,upd H1 zI.heap.objs.size (.lst []) b=none:=λ b hb=>by
  obtain⟨o,e,_⟩:=T.obj 0 _ h0 b hb;rw[aW (zAd (zA0 e))];exact(hfp b hb).1
 have loop:∀zC:zAD,zC={zI with heap:=zD,toks:=zI.toks}->
   zDP (model X.prog X.w) X.A (.compLoop (.ListComp elt [⟨tg,iter,ifs,0⟩] scope pos) 0 (.ref it) (.ref zI.heap.objs.size) (X.block scope C N fp zI H1).env) (RR (.ref zI.heap.objs.size) C) zC:=by
  rintro zC rfl;refine yP (λ n s'=>∃i acc H2,Inv (X.block scope C N fp zI H1) [] (st σ) H2 s'/\tn i s'.heap/\(∀b∈fp,H2 b=none)/\W i n acc H2) ?_ m0 ⟨0,[],_,I0,h01,fr0,w0⟩;rintro n s3 ⟨i,acc,H2,I2,st2,fr2,w2⟩;obtain⟨hl,hz,alt⟩:=step i n acc H2 w2;rcases alt with ⟨stop,q⟩|⟨go,nxt⟩
  .refine thn (T.done (X.block scope C N fp zI H1) rfl rfl rfl hc i [] s3 (st σ) H2 _ I2 (qV fr2) st2 stop) λ r s4 ⟨hr,I4⟩=>?_
   subst hr;exact hRR _ C H2 s4 ⟨_,I4⟩ kQ q
  .refine thn (T.item (X.block scope C N fp zI H1) rfl rfl rfl hc i [] s3 (st σ) H2 _ I2 (qV fr2) st2 go) λ r s4 ⟨u,hr,h4⟩=>?_
   subst hr;refine thn h4 λ _ s5 ⟨x,H5,I5,r5,y5,st5,fr5⟩=>?_
   have I5':=I5.pinned (qV fr5) (T.obj _ _ st5);refine thn (hg C fp zI H1 _ s5 (st σ) H5 x u _ I5' r5 (hgo _ _ _ _ (nxt x H5 y5))) λ _ s6 ⟨σ6,H6,I6,q6,aLC,ag6⟩=>?_
   refine thn (ht C fp zI H1 _ s6 σ6 H6 _ I6 q6) λ ok s7 ⟨H7,I7,q7⟩=>?_
   have again:∀{H9:Hp} {s9:zAD} {acc':List V},Inv (X.block scope C N fp zI H1) ([]++uA fp s5.heap) σ6 H9 s9->(∃m',m'<n/\W (i+1) m' acc' H9)->
     ∃m,m<n/\∃i acc H2,Inv (X.block scope C N fp zI H1) [] (st σ) H2 s9/\tn i s9.heap/\(∀b∈fp,H2 b=none)/\W i m acc H2:=λ{H9 s9 acc'} I9 ⟨m',hm,w9⟩=>by
    have pin9:∀b∈fp,∀o,s5.heap.get? b=some o->s9.heap.get? b=some o/\H9 b=none:=λ b hb o e=>by
     have z:=I9.pin (b,o) (zA1 _ (zA1 _ (oF hb e)));exact⟨z.1,z.2.1⟩
    refine⟨m',hm,i+1,acc',H9,I9.unpinned.weak (by rw[aLC]) (λ k v e=>?_),T.keep _ _ _ st5 λ b hb o e=>(pin9 b hb o e).1,λ b hb=>?_,w9⟩
    .have hk:k<(st σ).length:=(zAO.mp e).1
     have hkN:k<N.length:=by rw[<-B.len σ];exact hk
     obtain⟨_,hks,_⟩:=B.val σ k _ v (zAI hkN) e;rw[ag6 k hks];exact e
    .obtain⟨o,e,_⟩:=T.obj _ _ st5 b hb
     exact(pin9 b hb o e).2
   cases ok with
   |false=>
    rw[if_neg zA6]at q7 ⊢;exact again I7 q7
   |true=>
    rw[if_pos rfl]at q7 ⊢;refine thn (he C fp zI H1 _ s7 σ6 H7 _ I7 q7) λ u8 s8 ⟨y,H8,I8,r8,hl8,q8⟩=>?_
    refine thn (vg _ s8 σ6 H8 (.ref zI.heap.objs.size) [y] (.ref zI.heap.objs.size) [u8] (λ _ H9=>H9=upd H8 zI.heap.objs.size (.lst (acc++[y]))) I8 rfl (.cons r8 .nil) ⟨_,acc,y,rfl,rfl,hl8,hz,rfl⟩) λ _ s9 ⟨_,H9,I9,_,e9⟩=>?_
    subst e9;exact again I9 q8
 exact codeAny_compStart_list (loop _ rfl) (T.self X.A 0 _ _ _ h01 (loop _ rfl))
def aC1(I:Inv X hV σ H1 zI)(hfp:∀b∈fp,rW X hV H1 b)(h:∃σ',Inv (X.block scope C N fp zI H1) [] σ' H' s'):Inv X hV σ H' s':=by
 obtain⟨σ',J⟩:=h;exact I.call' (ch:=fp) J.os J.base J.hok J.bare λ b hb=>⟨(hfp b hb).2.2.2.1,(hfp b hb).2.1,(hfp b hb).2.2.2.2.1,(hfp b hb).2.2.2.2.2⟩
def aKn(B:gW X scope N st ks)(hc:X.calm=true)(hi:PI X tg iter wi)(hg:∀C fp z5 zS,PG (X.block scope C N fp z5 zS) tg g)(hgo:uy g ks)(ht:∀C fp z5 zS,aDR (X.block scope C N fp z5 zS) ifs tt)
  (he:∀C fp z5 zS,PE (X.block scope C N fp z5 zS) elt te)(hs:∀x,zB9 iter X.env x=pure x:=by intro _;rfl):PE X (.ListComp elt [⟨tg,iter,ifs,0⟩] scope pos) (tLC wi st g tt te):=by
 intro hV s σ H Q I h;have hcl:zGX scope X.env=pure (bf scope X.env):=nM λ y hy hk=>I.ok.has _ (B.free y hy hk)
 rw[eval_ListComp];refine zGZ (use:=none) rfl hs hcl B.kind B.loc (thn (hi hV s σ H _ I h) λ v s1 h1=>thn h1 λ itv s2 h2=>?_);obtain⟨it,fp,tn,J,H2,e,I2,T,st2,f2,hq⟩:=h2;subst e;refine zc (RR:=λ acc C=>compPost (model X.prog X.w) X.A X.xe none (EP X hV σ Q) acc C) B hc hg hgo ht he I2 T st2 f2 hq ?_;intro D C H' s' hJ kQ q;have I3:=aC1 I2 f2 hJ;obtain⟨σ',J'⟩:=hJ;obtain⟨m,hn,_⟩:=id J'.loc;have hHC:H' C=none:=J'.free;refine⟨m,hn,λ h'' hs''=>⟨.ref D,H',?_,rfl,q⟩⟩;exact I3.turned (t':=s'.toks) (λ b o ne e=>(hs''.2 b ne).trans e) hHC (zDs (zA2 I2.lt kQ)) (.inr (zAf I2.sz kQ))
  (λ x c e z=>by obtain⟨v,ic⟩:=I2.cell x c e;exact absurd (zA2 ic.lt (by rw[z];exact kQ)) (zBT _))
  (λ p hp z=>absurd (zA2 (I2.pinL hp) (by rw[z];exact kQ)) (zBT _))
def zU(hN:X.N.Nodup)(hx1:X.N[i]? =some x)(hx2:Loc X.env.scope x)(B:gW X scope N st ks)(hc:X.calm=true)(hi:PI X tg iter wi)(hg:∀C fp z5 zS,PG (X.block scope C N fp z5 zS) tg g)(hgo:uy g ks)
  (ht:∀C fp z5 zS,aDR (X.block scope C N fp z5 zS) ifs tt)(he:∀C fp z5 zS,PE (X.block scope C N fp z5 zS) elt te)(hsw:zBl (.ListComp elt [⟨tg,iter,ifs,0⟩] scope pos) (some (.Name x pos')) spos.line X.env=pure true)
  (hs:∀x,zB9 iter X.env x=pure x:=by intro _;rfl)(hf:X.fn x=true\/X.env.scope.names.lookup x=some .local:=by first|exact .inl rfl|exact .inr rfl|assumption):
  PS X (.Assign [.Name x pos'] (.ListComp elt [⟨tg,iter,ifs,0⟩] scope pos) spos) (aA6 (tLC wi st g tt te) (qj i)):=by
 intro hV s σ H D I h;have hcl:zGX scope X.env=pure (bf scope X.env):=nM λ y hy hk=>I.ok.has _ (B.free y hy hk)
 rw[exec_Assign_Name_used _ _ _ _ hsw];refine zAY (zEm (zAY ?_));show wpAny _ _ (do let _ <-comprehension (.ListComp elt [⟨tg,iter,ifs,0⟩] scope pos) scope X.env _ (zGa []) false (eval iter X.env) (some (zDw (.Name x pos') X.env))) _ _ s;refine zAY (zBa (zGZ (use:=some (zDw (.Name x pos') X.env)) (Q:=λ _ s'=>SP X hV D .next s') rfl hs hcl B.kind B.loc (thn (hi hV s σ H _ I h) λ v s1 h1=>thn h1 λ itv s2 h2=>?_)) (λ _ s' hq=>zAr (zAr hq)) λ _ _ e=>e);obtain⟨it,fp,tn,J,H2,e,I2,T,st2,f2,hq⟩:=h2;subst e;refine zc (Q:=λ x H1=>qj i x σ H1 D.nx) (RR:=λ acc C=>compPost (model X.prog X.w) X.A X.xe (some (zDw (.Name x pos') X.env)) (λ _ s'=>SP X hV D .next s') acc C) B hc hg hgo ht he I2 T st2 f2 hq ?_;intro DD C H' s' hJ kQ q;have I3:=aC1 I2 f2 hJ;obtain⟨σ',J'⟩:=hJ;obtain⟨m,hn,_⟩:=id J'.loc;have hHC:H' C=none:=J'.free;have neL:C≠X.env.locals:=zDs (zA2 I2.lt kQ);have neC:∀x c,X.env.cells.lookup x=some c->c≠C:=λ x c e z=>by obtain⟨v,ic⟩:=I2.cell x c e;exact absurd (zA2 ic.lt (by rw[z];exact kQ)) (zBT _)
 show wpAny _ _ (zDw (.Name x pos') X.env (.ref DD)) _ _ _;refine zHs ?_;refine vY I3 hN hx1 hx2 (show RelV (.ref DD) (.ref DD)from rfl) (λ s4 I4 ⟨a,hsa,ha⟩=>?_) hf;have nea:C≠a:=by
  rcases ha with z|z
  .rw[z];exact neL
  .exact zCX (neC _ _ z)
 refine⟨m,hn.sameBut hsa nea,λ h'' hs''=>⟨_,H',?_,q⟩⟩;exact I4.turned (t':=s4.toks) (λ b o ne e=>(hs''.2 b ne).trans e) hHC neL (.inr (zAf I2.sz kQ)) neC
  (λ p hp z=>absurd (zA2 (I2.pinL hp) (by rw[z];exact kQ)) (zBT _))
end
def CX1(P:zAU)(w:World):CXT:=λ outer H s E e s'=>∃(ea:Addr) (cls a0:Value) (B:Heap) (H':Hp),e= .ref ea/\s'.os=s.os/\zEK s'.gens/\Un (frs outer) [] H H' s.heap s'.heap/\HOk P w H' B/\Heap.FlyingW B outer ea cls a0 s'.heap/\
 (∀b o,s.heap.get? b=some o->H b=none->b∉frs outer->B.get? b=some o)/\(∀b o,s.heap.get? b=some o->b∉frs outer->∃o',B.get? b=some o')/\E cls none H'
structure jA(X:Cx)(E:XK):Prop where
 stk:X.stack=X.env::X.outer
 fr:X.env.frame=some X.env.locals
 ex:X.ex=[]
 xe:X.xe=λ e s'=>wpAny (model X.prog X.w) X.A (leaving X.env e) (λ _ s''=>CX1 X.prog X.w X.outer X.zS X.z5 E e s'') (λ e' s''=>CX1 X.prog X.w X.outer X.zS X.z5 E e' s'') s'
def jA.of{K:zAA}:
  jA (aAJ (CX1 P w) P w K mg base N qual scope f cd A outer z5 zS E) E:=⟨rfl,rfl,rfl,rfl⟩
section
variable{X:Cx}{E:XK}
def aFR{B h':Heap}(hX:X.ex=[])(I:Inv X hV σ H s)
  (a1:∀b o,s.heap.get? b=some o->H b=none->b∉frs X.stack->B.get? b=some o)(a2:∀b o,s.heap.get? b=some o->b∉frs X.stack->∃o',B.get? b=some o')
  (a3:B.StaysIn h')(a4:∀b o,b∈frs X.outer->s.heap.get? b=some o->H b=none->(∀vs,o.data≠.fields vs)->∃sl,h'.get? b=some {o with slots:=sl})
  (a5:∀b o,s.heap.get? b=some o->H b=none->H' b=none)(a6:∀b xs,H b=some (.tup xs)->H' b=some (.tup xs))(a7:∀b o u,H b=some (.frz o u)->H' b=some (.frz o u))(a8:∀b q,H b=some (.tbl q)->H' b=some (.tbl q)):
  Un (frs X.outer) [] X.zS H' X.z5.heap h'/\(∀b o,X.z5.heap.get? b=some o->X.zS b=none->b∉frs X.outer->B.get? b=some o)/\(∀b o,X.z5.heap.get? b=some o->b∉frs X.outer->∃o',B.get? b=some o'):=by
 have nx:∀b,b∉X.ex:=λ b z=>by rw[hX]at z;cases z
 have noS:∀b o,X.z5.heap.get? b=some o->b∉frs X.outer->b∉frs X.stack:=λ b o e nf hb=>by
  rcases zAQ.mp (I.stkSub b hb)with z|z
  .exact absurd z (zAd (zA2 (zA0 e) I.ok.above))
  .exact nf z
 have bk:∀b o,X.z5.heap.get? b=some o->X.zS b=none->b∉frs X.outer->B.get? b=some o:=λ b o e n nf=>
  a1 b o (I.base.keep b o e n nf (nx b)) (I.base.free b o e n (nx b)) (noS b o e nf)
 have ba:∀b o,X.z5.heap.get? b=some o->b∉frs X.outer->∃o',B.get? b=some o':=λ b o e nf=>by
  obtain⟨o1,e1⟩:=I.base.there b o e (nx b);exact a2 b o1 e1 (noS b o e nf)
 have sl:∀b o,X.z5.heap.get? b=some o->X.zS b=none->b∈frs X.outer->∃sl,h'.get? b=some {o with slots:=sl}:=λ b o e n hb=>by
  obtain⟨sl1,e1⟩:=I.base.slot b o e n hb (nx b);obtain⟨_,o2,ho2,hnf⟩:=I.ok.funs.mem hb;rw[e]at ho2;cases ho2;obtain⟨sl2,e2⟩:=a4 b _ hb e1 (I.base.free b o e n (nx b)) hnf;exact⟨sl2,e2⟩
 refine⟨⟨λ b o e n nf _=>a3 b o (bk b o e n nf),λ b o e n hb _=>sl b o e n hb,λ b o e n _=>?_,λ b o e _=>?_,λ b xs e=>a6 b xs (I.base.tups b xs e),λ b o u e=>a7 b o u (I.base.frzs b o u e),λ b q e=>a8 b q (I.base.tbls b q e)⟩,bk,ba⟩
 .obtain⟨o1,e1⟩:=I.base.there b o e (nx b)
  exact a5 b o1 e1 (I.base.free b o e n (nx b))
 .by_cases hb:b∈frs X.outer
  .obtain⟨s2,e2⟩:=sl b o e (I.ok.frf b hb) hb
   exact⟨_,e2⟩
  .obtain⟨o',e'⟩:=ba b o e hb
   exact⟨o',a3 b o' e'⟩
def jA.pass(D:jA X E):yf (CX1 X.prog X.w) X E:=by
 intro hV σ H s e s' I h;obtain⟨ea,cls,a0,B,H',rfl,os,bare,un,hok,fly,bk,ba,hE⟩:=h;rw[D.xe];have fly':=fly;rw[D.stk]at fly';have hfr:=I.ok.frames;rw[D.stk]at hfr;refine wpAny_leaves_onW (L:=X.env.locals) hfr D.fr fly' λ h' fl up=>?_
 have a4:∀b o,b∈frs X.outer->s.heap.get? b=some o->H b=none->(∀vs,o.data≠.fields vs)->∃sl,h'.get? b=some {o with slots:=sl}:=λ b o hb e n nf=>by
  have hb':b∈frs X.stack:=by
   rw[D.stk];unfold frs;rw[zBv,D.fr];exact zAB _ hb
  obtain⟨s1,e1⟩:=un.slot b o e n hb' (λ z=>nomatch z);obtain⟨s2,e2⟩:=up b _ e1 nf;exact⟨s2,e2⟩
 obtain⟨u1,u2,u3⟩:=aFR (B:=B) (h':=h') (H':=H') D.ex I bk ba fl.1 a4 (λ b o e n=>un.free b o e n (λ z=>nomatch z)) un.tups un.frzs un.tbls;exact⟨ea,cls,a0,B,H',rfl,os.trans I.os,bare,u1,hok,fl,u2,u3,hE⟩
def jA.raise(D:jA X E){ea:Addr}(I:Inv X hV σ H s)
  (hx:Heap.MadeExcOf s.heap h1 ea cls vs)(hE:E cls none H):X.xe (.ref ea) {s with heap:=h1}:=by
 rw[D.xe];have stk:s.heap.FunFrames X.base X.stack:=I.stack;have hin:∀env∈X.stack,∀a,env.frame=some a->a∈frs X.stack:=λ env he a ha=>zCE.mpr ⟨env,he,ha⟩
 have stk2:=PySem.W.funFrames_hide stk hin;have hfr:=I.ok.frames;rw[D.stk]at hfr;have stk3:s.heap.FunFrames (zCn s.heap (frs X.stack)) (X.env::X.outer):=by rw[<-D.stk];exact stk2
 refine wpAny_leaves_madeW (L:=X.env.locals) (base:=zCn s.heap (frs X.stack)) hfr D.fr (λ b o q=>zGJ _ q) stk3 hx λ h' t fl tup bn up=>?_
 have hok:HOk X.prog X.w H (zCn s.heap (frs X.stack)):=λ a o e=>by
  refine(I.hok a o e).stay (λ b u hb q=>zCo _ q λ hm=>?_) (λ _ z=>z) λ _ _ z=>z
  have hn:=I.stkFree b hm;rcases hb with z|z
  .rw[z,e]at hn;cases hn
  .rw[z]at hn;cases hn
 obtain⟨u1,u2,u3⟩:=aFR (B:=zCn s.heap (frs X.stack)) (h':=h') (H':=H) D.ex I (λ b o e n nf=>zCo _ e nf) (λ b o e nf=>⟨o,zCo _ e nf⟩) fl.1
  (λ b o hb e n nf=>up b o (hx.keeps b o e) nf) (λ b o e n=>n) (λ _ _ e=>e) (λ _ _ _ e=>e) (λ _ _ e=>e)
 exact⟨ea,cls,.ref t,_,H,rfl,I.os,I.bare,u1,hok,fl,u2,u3,hE⟩
def jA.own(D:jA X E):zHC (model X.prog X.w) X.A X.env X.xe:=λ e s' h=>by
 rw[D.xe]at h ⊢;exact wpAny_leaving_again (SameStack.refl _) h
end
section
variable{P:zAU}{w:World}{K:zAA}{mg:Str->Option Value}{base:Heap}
def Fun.okX{st:Stmt}(F:Fun K x q st f fd)(S:ao N ps (aO st))(len:∀vs H Q E,sp vs H Q E->vs.length=ps.length)
  (hbody:∀(cdv:Value) (A:zA8) (outer:List Env) (s:zAD) (H:Hp) (vs:List V) (Q:VK) (E:XK),jC k (A.deeper (zDx q (aO st) s.heap.objs.size f cdv))->sp vs H Q E->
   ∃t,PSs (aAJ (CX1 P w) P w K mg base N q (aO st) f cdv A outer s H E) (gG st) t/\t {nx:=λ _ H'=>Q .non H',rt:=Q} (start N vs) H):cG P w K mg base (CX1 P w) (k+1) f fd ps sp:=by
 obtain⟨oc,od,kV,doc,pm,an,cdv,ct,osl,rfl,lk,hcd⟩:=F.ex;exact aLL lk hcd S len λ A outer s H vs Q E hr hsp=>hbody cdv A outer s H vs Q E hr hsp
end
def oU(K:zAA)(C:Addr):Prop:=zHE K C [.type "ValueError",.type "Exception",.type "BaseException",.type "object"] "ValueError.__new__"=true
def xX{K:zAA}(X:K.In h)(hm:mg x=some (.ref C))(q:oU K C):OwnCls x C [.type "ValueError",.type "Exception",.type "BaseException",.type "object"] "ValueError.__new__" mg h:=by
 refine⟨hm,?_⟩;unfold oU zHE at q;split at q
 .rename_i dd cd sl ho
  split at q
  .rename_i C' bm k0 k1 k2 k3 n k5 hm' hs
   simp only[zAM,beq_iff_eq,zBQ]at q;obtain⟨⟨⟨⟨⟨rfl,rfl⟩,hdel⟩,ht⟩,hok⟩,hni⟩:=q;obtain⟨nm,bs,mro,ns,qn,hd,sn,sub,ab,col,del⟩:=cd;dsimp only at hm' hdel hok hni;subst hm' hdel;have hsl:sl=#[k0,k1,k2,k3,some (.builtin "ValueError.__new__"),k5]:=by
    obtain⟨l⟩:=sl;simp only at hs;rw[hs]
   subst hsl;exact⟨bm,ns,nm,qn,bs,hd,sn,sub,ab,col,dd,k0,k1,k2,k3,k5,_,X _ _ ho,.of_isNs (PySem.W.isNs_of_in X hok),PySem.W.nsMap_none_of_in X hok hni,PySem.W.tail_of_in X ht⟩
  .cases q
 .cases q
def aI4(C:Addr)(E:XK)(ta:TA):TS:=λ _ σ H=>ta σ H λ vs H1=>vs.length<=zAR/\E (.ref C) none H1
section
variable{X:Cx}{E:XK}
def aEN(D:jA X E)(hc:X.calm=true){rest:List Expr}(hm:X.mg x=some (.ref C))(hC:oU X.K C)(hg:Gl X x)
  (ha:PA X (y8::rest) ta)(he:zAW (y8::rest) X.env=(false,eval y8 X.env)::zAW rest X.env:=by rfl)
  (hplain:(zBp cpos (zAW rest X.env)).any (·.1)=false:=by rfl)(hd:Nd x:=by decide):
  PS X (.Raise (some (.Call (.Name x np) (y8::rest) [] cpos)) none pos) (aI4 C E ta):=by
 intro hV s σ H DD I h;obtain⟨tl,NN,nm,q,bs,hdct,sn,sub,ab,col,dd,k0,k1,k2,k3,k5,mN,hCo,hN,hni,T⟩:=(xX (h:=X.base) I.mod.kin hm hC).obj;have FB:=PySem.F.excBase_ValueError;refine wpAny_Raise_call_subU (C:=C) (nm:=nm) (q:=q) (N:=NN) (bs:=bs) (bm:=tl) (hdct:=hdct) (sn:=sn) (sub:=sub) (ab:=ab) (col:=col) (dd:=dd) (k0:=k0) (k1:=k1) (k2:=k2) (k3:=k3) (k5:=k5)
  FB FB.hasB FB (mN:=mN) (T.hasType FB.hasBase) (I.ok.hd hc) (by rw[he];show(false||(zBp cpos (zAW rest X.env)).any (·.1))=false;rw[hplain];rfl) hni
  (xr I hg hm ⟨rfl,?_⟩ hd)
 have harg:=ha cpos hV s σ H _ I h;rw[he]at harg ⊢;refine zDn (zBa harg (λ vs zI y9=>?_) λ _ _ y=>y);obtain⟨xs,H2,I2,rv,hz,hE⟩:=y9;refine⟨rfl,by show vs.length<=zAR;rw[<-rv.length];exact hz,I2.bk _ _ hCo,hN.keeps I2.bk,T.keeps I2.bk,λ h' ea hx=>D.raise I2 hx hE⟩
end
section
variable{κ:Type}[DecidableEq κ]
def mZ(kvs:List (κ×V))(k:κ):Option V:=(kvs.find? λ kv=>decide (kv.1=k)).map (·.2)
def putK(kvs:List (κ×V))(k:κ)(v:V):List (κ×V):=
 if (kvs.any λ kv=>decide (kv.1=k))=true then kvs.map (λ kv=>if kv.1=k then(kv.1,v)else kv)else kvs++[(k,v)]
def kJ{p:κ×V}{r:List (κ×V)}{k:κ}(e:p.1=k):mZ (p::r) k=some p.2:=by simp[mZ,zC3,e]
def kO{p:κ×V}{r:List (κ×V)}{k:κ}(e:¬p.1=k):mZ (p::r) k=mZ r k:=by simp[mZ,zC3,e]
theorem ym(k:κ):∀kvs:List (κ×V),(kvs.any λ kv=>decide (kv.1=k))=(mZ kvs k).isSome
 |[]=>rfl
 |p::r=>by
  rw[zCL];by_cases e:p.1=k
  .simp only[kJ e,decide_eq_true e,Bool.true_or,zGO]
  .rw[kO e,decide_eq_false e,zH7];exact ym k r
def qe(kvs:List (κ×V))(k:κ)(v:V):(putK kvs k v).length<=kvs.length+1:=by
 unfold putK;split
 .rw[zAF];omega
 .rw[zAT,zA4,zB5];omega
def mz.isSome_eq{o:Option V}{u:Option Value}(r:mz o u):o.isSome=u.isSome:=by
 cases o with
 |none=>cases u with
  |none=>rfl
  |some _=>exact(show False from r).elim
 |some _=>cases u with
  |none=>exact(show False from r).elim
  |some _=>rfl
def KV.val{kvs:List (κ×V)}{vs:List (κ×Value)}(r:KV kvs vs)(k:κ):mz (mZ kvs k) (zGA vs k):=by
 unfold KV at r;induction r with
 |nil=>exact zCO
 |@cons p q ps qs h t ih=>
  obtain⟨h1,h2⟩:=h;by_cases e:p.1=k
  .have e':q.1=k:=h1.symm.trans e
   have b:zGA (q::qs) k=some q.2:=by simp[zGA,zC3,e']
   rw[kJ e,b];exact h2
  .have e':¬q.1=k:=λ z=>e (h1.trans z)
   have b:zGA (q::qs) k=zGA qs k:=by simp[zGA,zC3,e']
   rw[kO e,b];exact ih
theorem KV.any{kvs:List (κ×V)}{vs:List (κ×Value)}(r:KV kvs vs)(k:κ):(kvs.any λ kv=>decide (kv.1=k))=vs.any λ kv=>decide (kv.1=k):=by
 unfold KV at r;induction r with
 |nil=>rfl
 |cons h t ih=>rw[zCL,zCL,ih,h.1]
def KV.repl{kvs:List (κ×V)}{vs:List (κ×Value)}(r:KV kvs vs)(k:κ){y:V}{u:Value}(ry:RelV y u):
  KV (kvs.map λ kv=>if kv.1=k then(kv.1,y)else kv) (vs.map λ kv=>if kv.1=k then(kv.1,u)else kv):=by
 unfold KV at r ⊢;induction r with
 |nil=>exact .nil
 |@cons p q ps qs h t ih=>
  rw[zAC,zAC];refine .cons ?_ ih;obtain⟨h1,h2⟩:=h;by_cases e:p.1=k
  .rw[if_pos e,if_pos (h1.symm.trans e)];exact⟨h1,ry⟩
  .rw[if_neg e,if_neg (λ z=>e (h1.trans z))];exact⟨h1,h2⟩
def KV.put{kvs:List (κ×V)}{vs:List (κ×Value)}(r:KV kvs vs)(k:κ){y:V}{u:Value}(ry:RelV y u):KV (putK kvs k y) (stored vs k u):=by
 unfold putK stored;rw[r.any k];by_cases e:(vs.any λ kv=>decide (kv.1=k))=true
 .rw[if_pos e,if_pos e];exact r.repl k ry
 .rw[if_neg e,if_neg e];exact zHb r ⟨rfl,ry⟩
theorem KV.length{kvs:List (κ×V)}{vs:List (κ×Value)}(r:KV kvs vs):kvs.length=vs.length:=zEI r
end
def zm{P:zAU}{w:World}{k:Key}{u:Value}(r:RelV (kV k) u):(bO P w).is k u=true:=by
 cases k with
 |inl i=>obtain⟨t,e⟩:=(show∃t,u=zCv i t from r);subst e;exact za P w i t
 |inr x=>obtain⟨t,e⟩:=(show∃t,u=zFs x t from r);subst e;exact z9 P w x t
theorem vo{P:zAU}{w:World}:∀{ks:List Key} {us:List Value},Vals (ks.map kV) us->ItemsAre (bO P w) ks us
 |[],_,r=>by rw[zDF]at r;cases r;exact .nil
 |k::ks,_,r=>by
  rw[zAC]at r;cases r with
  |cons h t=>exact .cons (zm h) (vo t)
abbrev KT(H:Hp):List (List Key×V)->List (List Key×Addr×Value)->Prop:=zHB λ p q=>p.1=q.1/\H q.2.1=some (.tup (p.1.map kV))/\RelV p.2 q.2.2
def KT.val{H:Hp}{kvs:List (List Key×V)}{xs:List (List Key×Addr×Value)}(r:KT H kvs xs)(k:List Key):mz (mZ kvs k) ((atKey xs k).map (·.2)):=by
 induction r with
 |nil=>exact zCO
 |@cons p q ps qs h t ih=>
  obtain⟨h1,_,h2⟩:=h;by_cases e:p.1=k
  .have e':q.1=k:=h1.symm.trans e
   have b:atKey (q::qs) k=some q.2:=by simp[atKey,zC3,e']
   rw[kJ e,b];exact h2
  .have e':¬q.1=k:=λ z=>e (h1.trans z)
   have b:atKey (q::qs) k=atKey qs k:=by simp[atKey,zC3,e']
   rw[kO e,b];exact ih
def KT.repl{H:Hp}{kvs:List (List Key×V)}{xs:List (List Key×Addr×Value)}(r:KT H kvs xs)(k:List Key){y:V}{u:Value}(ry:RelV y u):
  KT H (kvs.map λ kv=>if kv.1=k then(kv.1,y)else kv) (xs.map (putAt k u)):=by
 induction r with
 |nil=>exact .nil
 |@cons p q ps qs h t ih=>
  rw[zAC,zAC];refine .cons ?_ ih;obtain⟨h1,h2,h3⟩:=h;unfold putAt;by_cases e:p.1=k
  .rw[if_pos e,if_pos (h1.symm.trans e)];exact⟨h1,h2,ry⟩
  .rw[if_neg e,if_neg (λ z=>e (h1.trans z))];exact⟨h1,h2,h3⟩
def KT.put{H:Hp}{kvs:List (List Key×V)}{xs:List (List Key×Addr×Value)}(r:KT H kvs xs)(k:List Key){b:Addr}{y:V}{u:Value}(hb:H b=some (.tup (k.map kV)))(ry:RelV y u):
  KT H (putK kvs k y) (storedH xs k b u):=by
 have e:(kvs.any λ kv=>decide (kv.1=k))=(atKey xs k).isSome:=by
  rw[ym,(r.val k).isSome_eq,Option.isSome_map]
 unfold putK storedH;rw[e];by_cases q:(atKey xs k).isSome=true
 .rw[if_pos q,if_pos q];exact r.repl k ry
 .rw[if_neg q,if_neg q];exact zHb r ⟨rfl,hb,ry⟩
def KT.keeps{H H':Hp}{kvs:List (List Key×V)}{xs:List (List Key×Addr×Value)}(r:KT H kvs xs)(ht:∀b ys,H b=some (.tup ys)->H' b=some (.tup ys)):KT H' kvs xs:=
 Paired.mapP r λ _ _ z=>⟨z.1,ht _ _ z.2.1,z.2.2⟩
section
variable{P:zAU}{w:World}{H:Hp}{h:Heap}{a:Addr}
def aHq{u:HO}(ok:HOk P w H h)(e:Rd H a u):cB P w H h a u:=e.ok ok
def aAD{kvs:List (Key×V)}(ok:HOk P w H h)(e:Rd H a (.dK kvs)):kvs.length<=zAR/\(a==zCA)=false/\∃vs,KV kvs vs/\h.DictOf (bO P w) a vs:=
 show cB P w H h a (.dK kvs)from aHq ok e
def aIT{kvs:List (Key×V)}(ok:HOk P w H h)(e:H a=some (.dK kvs)):kvs.length<=zAR/\(a==zCA)=false/\∃vs,KV kvs vs/\h.DictOf (bO P w) a vs:=aAD ok (.inl e)
def xu{ks:List Key}(ok:HOk P w H h)(e:H a=some (.tup (ks.map kV))):(zEk (bO P w)).is h ks a:=by
 obtain⟨_,its,r,o,h1,h2,n,h3⟩:=(show cB P w H h a (.tup (ks.map kV))from ok a _ e);exact⟨o,its.toArray,n,h1,h2,h3,by simpa using vo r⟩
def aAC{kvs:List (List Key×V)}(ok:HOk P w H h)(e:Rd H a (.dT kvs)):kvs.length<=zAR/\(a==zCA)=false/\
  ∃xs,KT H kvs xs/\h.DictOfH (zEk (bO P w)) a xs:=by
 obtain⟨z,y,xs,r,o,es,ep,h1,h2,h3,h4,h5⟩:=(show cB P w H h a (.dT kvs)from aHq ok e);refine⟨z,y,xs,r,o,es,ep,h1,h2,h3,h4,λ x hx=>?_,h5⟩;have all:∀{l:List (List Key×V)} {m:List (List Key×Addr×Value)},KT H l m->∀x∈m,(zEk (bO P w)).is h x.1 x.2.1:=by
  intro l m q;induction q with
  |nil=>intro x hx;exact nomatch hx
  |@cons p q ps qs hq t ih=>
   intro x hx;rcases zAQ.mp hx with e|hx
   .subst e
    exact xu ok (by rw[<-hq.1];exact hq.2.1)
   .exact ih x hx
 exact all r x hx
def aLN{kvs:List (List Key×V)}(ok:HOk P w H h)(e:H a=some (.dT kvs)):kvs.length<=zAR/\(a==zCA)=false/\
  ∃xs,KT H kvs xs/\h.DictOfH (zEk (bO P w)) a xs:=aAC ok (.inl e)
end
def vA(H:Hp)(a:Addr)(y:V)(r:Option V):Prop:=
 (∃kvs k,Rd H a (.dK kvs)/\y=kV k/\r=mZ kvs k)\/∃kvs k b,Rd H a (.dT kvs)/\y= .ref b/\H b=some (.tup (k.map kV))/\r=mZ kvs k
def aFf(H:Hp)(a:Addr)(y v:V)(H':Hp):Prop:=
 (∃kvs k,H a=some (.dK kvs)/\y=kV k/\kvs.length<zAR/\H'=upd H a (.dK (putK kvs k v)))\/
 ∃kvs k b,H a=some (.dT kvs)/\y= .ref b/\H b=some (.tup (k.map kV))/\kvs.length<zAR/\H'=upd H a (.dT (putK kvs k v))
theorem vA.k{H:Hp}{a:Addr}{kvs:List (Key×V)}{k:Key}(e:H a=some (.dK kvs)):vA H a (kV k) (mZ kvs k):=.inl ⟨kvs,k,.inl e,rfl,rfl⟩
theorem aFf.k{H:Hp}{a:Addr}{kvs:List (Key×V)}{k:Key}{v:V}(e:H a=some (.dK kvs))(hl:kvs.length<zAR):aFf H a (kV k) v (upd H a (.dK (putK kvs k v))):=.inl ⟨kvs,k,e,rfl,hl,rfl⟩
section
variable{X:Cx}{hV:hZ}{σ:St}{H:Hp}{s:zAD}{a:Addr}{y v:V}{u r:Value}{o:Option V}{A:zA8}{E:Value->zAD->Prop}
def Inv.big(I:Inv X hV σ H s):zCA<s.heap.objs.size:=by
 have h:zAa<s.heap.objs.size:=(I.mod.glob.keeps I.bk).lt;exact Nat.lt_trans (by decide) h
def aDE{Q:Value->zAD->Prop}(hu:A.units+1<cLine)(I:Inv X hV σ H s)(g:vA H a y (some v))(ry:RelV y u)(h:∀w' s',Inv X hV σ H s'->RelV v w'->Q w' s'):
  wpAny (model X.prog X.w) A (zHZ (.ref a) u) Q E s:=by
 rcases g with ⟨kvs,k,e,ey,l⟩|⟨kvs,k,b,e,ey,eb,l⟩
 .subst ey
  obtain⟨z,hd,vs,rel,dd⟩:=aAD I.hok e;obtain⟨w',hw,rw'⟩:=mz.some_of (v:=v) (o:=zGA vs k) (by rw[l];exact rel.val k);exact wpAny_getItem_of (zm ry) dd.mapOf hw (h w' _ (I.tok _) rw')
 .subst ey
  cases (show u=zBF b from ry);obtain⟨z,hd,xs,rel,dd⟩:=aAC I.hok e;obtain⟨w',hw,rw'⟩:=mz.some_of (v:=v) (o:=(atKey xs k).map (·.2)) (by rw[l];exact rel.val k);obtain⟨p,hp,hp2⟩:=zB3.mp hw;refine wpAny_getItem_heap (zEl hu) (xu I.hok eb) dd hp ?_;rw[hp2];exact h w' _ (I.tok _) rw'
def aC0{h':Heap}{t':Nat}{ob:HO}(I:Inv X hV σ H s)(mu:Mut (H a))(hs:zE5 a s.heap h')(he:∃q,h'.get? a=some q)(new:cB X.prog X.w (upd H a ob) h' a ob):
  Inv X hV σ (upd H a ob) {s with heap:=h',toks:=t'}:=
 I.write (x:=a) (e:=a) mu (.inl rfl) (λ b q hb z=>(hs.2 b hb).trans z) he new
def aKD{P:zAU}{w:World}{H':Hp}{h':Heap}{kvs:List (Key×V)}{vs:List (Key×Value)}(z:kvs.length<=zAR)(hd:(a==zCA)=false)(rel:KV kvs vs)(dd:h'.DictOf (bO P w) a vs):
  cB P w H' h' a (.dK kvs):=⟨z,hd,vs,rel,dd⟩
def aDD{H':Hp}{Q:Unit->zAD->Prop}(hu:A.units+1<cLine)(I:Inv X hV σ H s)(g:aFf H a y v H')(ry:RelV y u)(rv:RelV v r)(h:∀s',Inv X hV σ H' s'->Q () s'):
  wpAny (model X.prog X.w) A (setItem (.ref a) u r) Q E s:=by
 rcases g with ⟨kvs,k,e,ey,l,eH⟩|⟨kvs,k,b,e,ey,eb,l,eH⟩
 .subst ey eH
  obtain⟨z,hd,vs,rel,dd⟩:=aIT I.hok e;have hz:vs.length<=zAR:=by rw[<-rel.length];exact z
  have hl:(putK kvs k v).length<=zAR:=by have:=qe kvs k v;omega
  refine wpAny_setItem_pairs (hsz:=hz) (zm ry) dd λ h' dd' hs=>h _ ?_
  have he:∃q,h'.get? a=some q:=let⟨q,_,_,hq,_⟩:=dd';⟨q,hq⟩
  exact aC0 I (by rw[e];exact zCO) hs he (aKD hl hd (rel.put k rv) dd')
 .subst ey eH
  cases (show u=zBF b from ry);obtain⟨z,hd,xs,rel,dd⟩:=aLN I.hok e;have hz:xs.length<=zAR:=by rw[<-zEI rel];exact z
  have hl:(putK kvs k v).length<=zAR:=by have:=qe kvs k v;omega
  refine wpAny_setItem_heap (hsz:=hz) (zEl hu) (xu I.hok eb) dd λ h' dd' hs=>h _ ?_
  obtain⟨q,es,ep,hq,h2,h3,h4,_,h5⟩:=dd';refine aC0 I (by rw[e];exact zCO) hs ⟨q,hq⟩ ⟨hl,hd,_,(rel.put k eb rv).keeps λ c ys ec=>?_,q,es,ep,hq,h2,h3,h4,h5⟩;rw[aW (aKx ec e (λ z=>nomatch z))];exact ec
end
def aLU(i:Expr):Prop:=∀ov iv,zFz i false ov iv=operate [ov,iv] (zHZ ov iv)
def aFo{prog:zAU}{w:World}{A:zA8}{E:Value->zAD->Prop}{s:zAD}{env:Env}{value slice:Expr}{pos:Pos}{T id:String}{Q:Value->zAD->Prop}
  (hl:zFU (.type T) "__getitem__"=pure (some (.builtin id)))(hs:aLU slice)
  (h:wpAny (model prog w) A (eval value env) (λ o z4=>wpAny (model prog w) A (eval slice env) (λ i zI=>zI.TypeIs o T/\wpAny (model prog w) A (zHZ o i) Q E zI) E z4) E s):
  wpAny (model prog w) A (eval (.Subscript value slice pos) env) Q E s:=by
 refine zHn (zBa h (λ o z4 zD=>zBa zD (λ i zI y9=>?_) λ _ _ x=>x) λ _ _ x=>x);obtain⟨hT,y9⟩:=y9;unfold zGc;refine zAY ?_;rw[getitemInPython_of_ne hT.not_modules];refine zAY (wpAny_specialOf hT hl ?_);have fin:wpAny (model prog w) A (zFz slice false o i) (λ r zC=>wpAny (model prog w) A (letTemporaryGo value o r>>=λ _=>pure r) Q E zC) E zI:=by
  rw[hs o i];exact wpAny_operating (zBa y9 (λ r zC h₃=>zAY (wpAny_letTemporaryGo (zAr h₃))) λ _ _ x=>x)
 first
  |exact zAr (zAY fin)
  |exact zAY (zAr (zAY fin))
  |exact zAY fin
def aAE{X:Cx}{hV:hZ}{σ:St}{H:Hp}{s:zAD}{a:Addr}{y:V}{o:Option V}(I:Inv X hV σ H s)(g:vA H a y o):s.TypeIs (.ref a) "dict":=by
 rcases g with ⟨kvs,k,e,_,_⟩|⟨kvs,k,b,e,_,_,_⟩
 .obtain⟨_,_,vs,_,dd⟩:=aAD I.hok e
  exact dd.typeIs
 .obtain⟨_,_,xs,_,dd⟩:=aAC I.hok e
  exact dd.typeIs
def aK3(td ty:TE):TE:=λ σ H Q=>td σ H λ x H1=>ty σ H1 λ y H2=>∃a v,x= .ref a/\vA H2 a y (some v)/\Q v H2
def aHo(td ty tv:TE):TS:=λ D σ H=>tv σ H λ v H1=>td σ H1 λ x H2=>ty σ H2 λ y H3=>∃a H4,x= .ref a/\aFf H3 a y v H4/\D.nx σ H4
section
variable{X:Cx}{o i value:Expr}{pos pos':Pos}{td ty tv:TE}
def aG1(hu:X.A.units+1<cLine)(ho:PE X o td)(hi:PE X i ty)(hs:aLU i):PE X (.Subscript o i pos) (aK3 td ty):=by
 intro hV s σ H Q I h;refine aFo PySem.F.slot_dict_getitem.lookup hs (thn (ho hV s σ H _ I h) λ u s1 ⟨x,H1,I1,rx,q1⟩=>thn (hi hV s1 σ H1 _ I1 q1) λ iv s2 ⟨y,H2,I2,ry,a,v,ex,g,q2⟩=>?_);subst ex;obtain rfl:u=zBF a:=rx;exact⟨aAE I2 g,aDE hu I2 g ry λ w' s3 I3 rw'=>⟨v,H2,I3,rw',q2⟩⟩
def aGS(hu:X.A.units+1<cLine)(ho:PE X o td)(hi:PE X i ty)(hv:PE X value tv)(hs:zBl value (some (.Subscript o i pos')) pos.line X.env=pure false):
  PS X (.Assign [.Subscript o i pos'] value pos) (aHo td ty tv):=by
 intro hV s σ H D I h;refine wpAny_Assign_Subscript (thn (hv hV s σ H _ I h) λ r s1 ⟨v,H1,I1,rv,q1⟩=>thn (ho hV s1 σ H1 _ I1 q1) λ u s2 ⟨x,H2,I2,rx,q2⟩=>thn (hi hV s2 σ H2 _ I2 q2) λ iv s3 ⟨y,H3,I3,ry,a,H4,ex,g,q3⟩=>?_) hs;subst ex;obtain rfl:u=zBF a:=rx;exact aDD hu I3 g ry rv λ s4 I4=>⟨σ,H4,I4,q3⟩
end
end L2
namespace Att
open PySem PySem.W PySem.Calls PyProof.Rows
end Att
namespace L2
open PySem PySem.Spec PyProof.Rows
section
variable{κ:Type}[DecidableEq κ]
end
section
variable{κ:Type}[DecidableEq κ]
theorem mz.getD{o:Option V}{u:Option Value}{d:V}{d':Value}(r:mz o u)(rd:RelV d d'):RelV (o.getD d) (u.getD d'):=by
 cases o with
 |none=>cases u with
  |none=>exact rd
  |some _=>exact(show False from r).elim
 |some _=>cases u with
  |none=>exact(show False from r).elim
  |some _=>exact r
end
structure M2(X:Cx)(o:Expr)(m:Str)(apos:Pos)(e f:Expr)(cpos:Pos):Prop where
 base:zB7 o m X.env (eval o X.env)=eval o X.env
 few:((zBp cpos (zAW [e,f] X.env)).all (λ x=>!x.1)&&(zDK cpos (zCF [] X.env)).all (λ x=>x.1.isSome)
  &&decide (([e,f]:List Expr).length+([]:List zB2).length+(if ([]:List zB2).isEmpty then 0 else 1)<30))=true
 line:(apos.endLine==cpos.line)=true
 trees:zBp cpos (zAW [e,f] X.env)=[(false,eval e X.env),(false,eval f X.env)]
def IsD(H:Hp)(a:Addr):Prop:=(∃kvs,Rd H a (.dK kvs))\/∃kvs,Rd H a (.dT kvs)
def aEv{X:Cx}{hV:hZ}{σ:St}{H:Hp}{s:zAD}{a:Addr}(I:Inv X hV σ H s)(d:IsD H a):
  s.TypeIs (.ref a) "dict"/\(∀b,zBF a= .ref b->∃ob,s.heap.get? b=some ob/\ob.dict=none)/\(a==zCA)=false:=by
 rcases d with ⟨kvs,e⟩|⟨kvs,e⟩
 .obtain⟨_,hd,vs,_,dd⟩:=aAD I.hok e
  refine⟨dd.typeIs,λ b q=>?_,hd⟩;cases q;obtain⟨ob,_,_,h1,h2,_⟩:=dd;exact⟨ob,h1,h2.2.1⟩
 .obtain⟨_,hd,xs,_,dd⟩:=aAC I.hok e
  refine⟨dd.typeIs,λ b q=>?_,hd⟩;cases q;obtain⟨ob,_,_,h1,h2,_⟩:=dd;exact⟨ob,h1,h2.2.1⟩
section
variable{X:Cx}{hV:hZ}{σ:St}{H:Hp}{s:zAD}{a:Addr}{y d:V}{u r:Value}{o:Option V}{A:zA8}{E:Value->zAD->Prop}
def aKE{Q:Value->zAD->Prop}(hu:A.units+1<cLine)(I:Inv X hV σ H s)(g:vA H a y o)(ry:RelV y u)(rd:RelV d r)(h:∀w' s',Inv X hV σ H s'->RelV (o.getD d) w'->Q w' s'):
  wpAny (model X.prog X.w) A (call (.builtin "dict.get") [.ref a,u,r]) Q E s:=by
 rcases g with ⟨kvs,k,e,ey,l⟩|⟨kvs,k,b,e,ey,eb,l⟩
 .subst ey
  obtain⟨z,hd,vs,rel,dd⟩:=aAD I.hok e;refine zHF zD3 dd.typeIs zFY (zFD _ _ _) (meets_dict_get_default (bO X.prog X.w) a (zm ry) hd r) ⟨_,dd.mapOf,h _ _ (I.tok _) ?_⟩;rw[l];exact(rel.val k).getD rd
 .subst ey
  cases (show u=zBF b from ry);obtain⟨z,hd,xs,rel,dd⟩:=aAC I.hok e;refine zHF zD3 dd.typeIs zFY (zFD _ _ _) (meetsH_dict_get_default (zEk (bO X.prog X.w)) a b hd r) ⟨zEl hu,k,xs,xu I.hok eb,dd,h _ _ (I.tok _) ?_⟩;rw[l];exact(rel.val k).getD rd
end
def aD4(td ty tx:TE):TE:=λ σ H Q=>td σ H λ x H1=>∃a,x= .ref a/\IsD H1 a/\ty σ H1 λ y H2=>tx σ H2 λ z H3=>∃o,vA H3 a y o/\Q (o.getD z) H3
section
variable{X:Cx}{o e f:Expr}{apos cpos:Pos}{td ty tx:TE}
def aEX(hu:X.A.units+1<cLine)(ho:PE X o td)(he:PE X e ty)(hf:PE X f tx)(m:M2 X o "get" apos e f cpos):PE X (.Call (.Attribute o "get" apos) [e,f] [] cpos) (aD4 td ty tx):=by
 intro hV s σ H Q I h;refine wpAny_Call_method m.base m.few m.line zFE zD3 PySem.F.type_dict_get (thn (ho hV s σ H _ I h) λ u s1 ⟨x,H1,I1,rx,a,ex,d,q1⟩=>?_);subst ex;obtain rfl:u=zBF a:=rx;obtain⟨t1,t2,_⟩:=aEv I1 d;refine⟨t1,t2,?_⟩;rw[m.trees];refine zDY rfl (zDn (zEL (thn (he hV s1 σ H1 _ I1 q1) λ iv s2 ⟨y,H2,I2,ry,q2⟩=>
  zEL (thn (hf hV s2 σ H2 _ I2 q2) λ fv s3 ⟨z,H3,I3,rz,ov,g,q3⟩=>zG0 ?_))))
 exact aKE hu I3 g ry rz λ w' s4 I4 rw'=>⟨_,H3,I4,rw',q3⟩
end
end L2
namespace Att
open PySem PySem.W PySem.Calls PyProof.Rows
end Att
namespace L2
open PySem PySem.Spec PyProof.Rows
section
variable{κ:Type}[DecidableEq κ]
end
section
variable{X:Cx}
structure aLV(X:Cx)(P:Addr):Prop where
 ta:∃o,X.ta=[(P,o)]
 ex:P∈X.ex
 tq:X.tq=X.env.qual++"<lambda>"
 code:∃c,X.env.code= .ref c/\PySem.W.CodeHd X.base c P
 blt:X.base.BuiltinsAt X.mg P
 gne:zAa≠P
end
abbrev bmV:List Value:=[.type "ValueError",.type "Exception",.type "BaseException",.type "object"]
section
variable{prog:zAU}{w:World}{A:zA8}{E:Value->zAD->Prop}{h:Heap}{g:Array zC1}{d:Drawn}{t:Nat}{os:OsState}{a:Addr}{o:Obj}
 {nm q:Str}{C N:Addr}{bs bm:List Value}{hdct:Bool}{sn:List Str}{sub:List Value}{ab:Bool}{col:Option Bool}{dd:Option Addr}{k0 k1 k2 k3 k5:Option Value}{newId:String}{K:zAA}
def aAM{R:zE2->zAD->Prop}(hC:h.get? C=some (zFu nm q C N bs bm hdct sn sub ab col dd k0 k1 k2 k3 k5 newId))(T:OwnTail h bmV bm)
  (hx:h.get? a=some o)(hc:o.cls= .ref C)(hq:R (.ok (.ret (.ref C))) ⟨h,g,d,t,os⟩):
  zDP (model prog w) A (.call (.builtin "getset_descriptor.__get__") ⟨[.builtin "object.__class__",.ref a,.ref C],[]⟩) R ⟨h,g,d,t,os⟩:=by
 have hT5:(⟨h,g,d,t,os⟩:zAD).TypeIs (.builtin "object.__class__") "getset_descriptor":=zEA;have hcB:(zBF C::bm).contains (.type (".".intercalate ("object.__class__".cutAt '.').dropLast))=true:=by
  rw[F.owner_object_class,zG1,T.hasType (X:="object") (b:=true) (by decide+kernel)];rfl
 refine zHQ zGK.plain F.entry_gs_get (zGK.check _ _ _ _ _ _ _ _ hT5 (F.args_gs_get _ _ _) ?_)
 repeat (any_goals (first|assumption|(with_reducible refine zCq hx ?_;rw[hc])|(with_reducible refine zH4 hC ?_;rw[hcB])|wp_step))
 refine⟨Code.quiet_builtin _ (by decide+kernel),zFt F.entry_object_class ?_⟩
 repeat (any_goals (first|assumption|(with_reducible refine zCq hx ?_;rw[hc])|wp_step))
def yS{M:Model}{nameV:Value}{Q:Unit->zAD->Prop}(hC:h.get? C=some (zFu nm q C N bs bm hdct sn sub ab col dd k0 k1 k2 k3 k5 newId))(T:OwnTail h bmV bm)
  (hx:h.get? a=some o)(hc:o.cls= .ref C)(hq:Q () ⟨h,g,d,t,os⟩):wpAny M A (checkBuiltinCall "BaseException.__getattribute__" ⟨[.ref a,nameV],[]⟩) Q E ⟨h,g,d,t,os⟩:=by
 have hk:builtinKind "BaseException.__getattribute__"=some .slot:=by decide+kernel
 have b9:splitId "BaseException.__getattribute__"=some ("BaseException","__getattribute__"):=by decide+kernel
 have hcB:(zBF C::bm).contains (.type "BaseException")=true:=by rw[zG1,T.hasType (X:="BaseException") (b:=true) (by decide+kernel)];rfl
 have ha:=F.args_bexc_ga (.ref a) nameV;simp only[checkBuiltinCall,hk,b9];refine zAY ?_
 .unfold isInstance
  repeat (first|(with_reducible refine zCq hx ?_;rw[hc])|(with_reducible refine zH4 hC ?_;rw[hcB])|wp_step)
  exact hq
def vM{tk:Tok}{Q:Fin->zAD->Prop}(hC:h.get? C=some (zFu nm q C N bs bm hdct sn sub ab col dd k0 k1 k2 k3 k5 newId))(T:OwnTail h bmV bm)(lk:∀M:Model,zED M h (zFU (.ref C) "__class__") (some (.builtin "object.__class__")))
  (hx:h.get? a=some o)(hc:o.cls= .ref C)(hq:Q (.done (.ret (.ref C))) ⟨h,g,d,t,os⟩):
  wpAny (model prog w) A (zDm.«object.__getattribute__» ⟨[.ref a,.str "__class__" tk],[]⟩) Q E ⟨h,g,d,t,os⟩:=by
 have hT5:(⟨h,g,d,t,os⟩:zAD).TypeIs (.builtin "object.__class__") "getset_descriptor":=zEA;have f5:=zEA;have f6:=zGK.lookup;have f7:=F.slot_gs_set.lookup
 repeat (any_goals (first|assumption|(with_reducible refine zCq hx ?_;rw[hc])|with_reducible refine(lk _).here ?_|wp_step))
 refine aAM hC T hx hc ?_
 repeat (any_goals (first|assumption|wp_step))
def yQ{Q:Option Value->zAD->Prop}(hC:h.get? C=some (zFu nm q C N bs bm hdct sn sub ab col dd k0 k1 k2 k3 k5 newId))(T:OwnTail h bmV bm)(lk:∀M:Model,zED M h (zFU (.ref C) "__class__") (some (.builtin "object.__class__")))
  (lg:∀M:Model,zED M h (zFU (.ref C) "__getattribute__") (some (.builtin "BaseException.__getattribute__")))(ln:∀M:Model,zED M h (zFU (.ref C) "__getattr__") none)
  (hx:h.get? a=some o)(hc:o.cls= .ref C)(hq:Q (some (.ref C)) ⟨h,g,d,t+1,os⟩):wpAny (model prog w) A (getAttr? (.ref a) "__class__") Q E ⟨h,g,d,t,os⟩:=by
 have by_exc:∀{E:Value->zAD->Prop} {t:Nat} {tk:Tok} {Q:Value->zAD->Prop},Q (.ref C) ⟨h,g,d,t,os⟩->wpAny (model prog w) A (getAttrBy (.ref a) (.str "__class__" tk) false) Q E ⟨h,g,d,t,os⟩:=by
  intro E t tk Q hq;have FB:=PySem.F.excAttr_ValueError;have f3:=FB.ga.bind (.ref a);have hx0:(false&&onTheHeap (zDT "BaseException.__getattribute__"))=false:=rfl;have hx2:(zDT "BaseException.__getattribute__"==zDT "object.__getattribute__")=false:=by decide+kernel
  have hx1:(onTheHeap (zBF C)&&zDT "BaseException.__getattribute__"==zDT "object.__getattribute__")=false:=by rw[hx2];rfl
  repeat (any_goals (first|assumption|(with_reducible refine zCq hx ?_;rw[hc])|with_reducible refine(lg _).here ?_|with_reducible refine(ln _).here ?_|wp_step))
  refine zHQ FB.ga.plain F.entry_bexc_ga (yS hC T hx hc (vM hC T lk hx hc ?_))
  repeat (any_goals (first|assumption|wp_step))
 unfold getAttr? getAttrBy?
 repeat (any_goals (first|assumption|with_reducible apply by_exc|wp_step))
def aEq(hE:oU K C)(ha:zBM K (.ref C) "__class__"=some (some (.builtin "object.__class__")))(hgt:zBM K (.ref C) "__getattribute__"=some (some (.builtin "BaseException.__getattribute__")))
  (hga:zBM K (.ref C) "__getattr__"=some none):PySem.W.KitX K (.ref a) (.ref C) (λ h=>∃o,h.get? a=some o/\o.cls= .ref C) where
 ty:=λ M h _ ⟨o,h1,h2⟩=>h2▸(zHl h1).andThen .now
 it:=λ M h X _=>by
  obtain⟨bm,NN,nm,q,bs,hdct,sn,sub,ab,col,dd,k0,k1,k2,k3,k5,mN,hC,_⟩:=(xX (h:=h) (mg:=λ _=>some (.ref C)) (x:="x") X rfl hE).obj;intro A' Q' E' s' k q;unfold isType loadHead;exact zAY (wpAny_loadPart (k _ _ hC) (zAr q))
 ne:=λ h tp dd its n sl X htp=>by
  obtain⟨bm,NN,nm,q,bs,hdct,sn,sub,ab,col,dd,k0,k1,k2,k3,k5,mN,hC,_⟩:=(xX (h:=h) (mg:=λ _=>some (.ref C)) (x:="x") X rfl hE).obj;refine zGd.mpr λ z=>?_
  have e:C=tp:=Value.ref.inj (beq_iff_eq.mp z);subst e;rw[hC]at htp;exact absurd (congrArg Obj.cls (zAg htp)) (by show zCV "type"≠zCV "tuple";decide+kernel)
 ca:=λ{prog w A E Q s} X ⟨o,h1,h2⟩ k=>by
  obtain⟨h,g,d,t,os⟩:=s;obtain⟨bm,NN,nm,q,bs,hdct,sn,sub,ab,col,dd,k0,k1,k2,k3,k5,mN,hC,hN,hni,T⟩:=(xX (h:=h) (mg:=λ _=>some (.ref C)) (x:="x") X rfl hE).obj;exact yQ hC T (λ M=>zCe X ha) (λ M=>zCe X hgt) (λ M=>zCe X hga) h1 h2 k
end
def excφ(a C:Addr):Heap->Prop:=λ h=>∃o,h.get? a=some o/\o.cls= .ref C
structure aLn(K:zAA)(C:Addr):Prop where
 ex:oU K C
 ca:zBM K (.ref C) "__class__"=some (some (.builtin "object.__class__"))
 gt:zBM K (.ref C) "__getattribute__"=some (some (.builtin "BaseException.__getattribute__"))
 ga:zBM K (.ref C) "__getattr__"=some none
section
variable{X:Cx}
def aHx(K:zAA):List V->Hp->VK->Prop:=λ xs H Q=>∃a C y c b,xs=[.ref a,y]/\RelV y c/\H a=some (.ext (excφ a C))/\aLn K C/\zDC K (.ref C) c=some b/\Q (.bl b) H
def aDO:cR X (.builtin "isinstance") (aHx X.K):=by
 intro hV s σ H xs us Q I r h;obtain⟨a,C,y,c,b,rfl,ry,ha,kc,e,q⟩:=h;obtain⟨u,w',rfl,r1,r2⟩:=vals2 r;cases r1;have hc:w'=c:=by
  cases y<;>first
   |(cases r2;cases ry;rfl)
   |(obtain⟨t1,rfl⟩:=r2;obtain⟨t2,rfl⟩:=ry;exact absurd e (by simp[zDC,PySem.W.kitCls]))
 subst hc;obtain⟨p,_⟩:excφ a C s.heap/\_:=I.hok a _ ha;exact zAy (aEq kc.ex kc.ca kc.gt kc.ga) I.kIn p e (λ z=>nomatch z) λ tk=>⟨.bl b,H,I.tok tk,rfl,q⟩
end
structure aLS(k:Nat)(A:zA8):Prop where
 dp:A.depth+3*k+5<zGS
 un:A.units+16*k+200<cLine
structure FnH(P:zAU)(w:World)(K:zAA)(mg:Str->Option Value)(base:Heap)(k:Nat)(f:Addr)(fd:zAc)(ps:List Str)(sp:Sp):Prop where
 len:∀vs H Q E,sp vs H Q E->vs.length=ps.length
 run:∀(A:zA8) (outer:List Env) (s:zAD) (H:Hp) (args:Args) (us:List Value) (vs:List V) (Q:VK) (E:XK),aLS k A->aFe P w K mg base A outer s H->zEx s fd args (ps.zip us)->Vals vs us->sp vs H Q E->
  zDP (model P w) A (.call (.ref f) args) (CR CX0 outer P w H s Q E) s
mutual
def eqD:D->D->Bool
 | .non,.non=>true
 | .bl a,.bl b=>a==b
 | .bl a,.int b=>(if a then 1 else 0)==b
 | .int a,.bl b=>a==(if b then 1 else 0)
 | .int a,.int b=>a==b
 | .str a,.str b=>a==b
 | .tup l,.tup m=>gj l m
 | .lst l,.lst m=>gj l m
 |_,_=>false
def gj:List D->List D->Bool
 |[],[]=>true
 |x::xs,y::ys=>eqD x y&&gj xs ys
 |_,_=>false
end
mutual
def iB:D->Nat
 | .tup l=>bY l+1
 | .lst l=>bY l+1
 |_=>0
def bY:List D->Nat
 |[]=>0
 |d::r=>max (iB d) (bY r)
end
mutual
def aQ:D->Bool
 | .tup l=>aR l
 | .lst l=>aR l
 | .dct=>false
 |_=>true
def aR:List D->Bool
 |[]=>true
 |d::r=>aQ d&&aR r
end
mutual
theorem ik:∀d:D,aQ d=true->eqD d d=true
 | .non,_=>by simp[eqD]
 | .bl b,_=>by simp[eqD]
 | .int i,_=>by simp[eqD]
 | .str x,_=>by simp[eqD]
 | .tup l,h=>by simp only[eqD];exact fV l (by simpa[aQ]using h)
 | .lst l,h=>by simp only[eqD];exact fV l (by simpa[aQ]using h)
 | .dct,h=>by simp[aQ]at h
theorem fV:∀l:List D,aR l=true->gj l l=true
 |[],_=>by simp[gj]
 |d::r,h=>by
  simp only[aR,zAM]at h;simp only[gj,zAM];exact⟨ik d h.1,fV r h.2⟩
end
mutual
theorem Rep.inj{H:Hp}:∀{x:V} {d e:D},Rep H x d->Rep H x e->d=e
 |_,_,_,.non,h=>by cases h;rfl
 |_,_,_,.bl b,h=>by cases h;rfl
 |_,_,_,.int i,h=>by cases h;rfl
 |_,_,_,.str x,h=>by cases h;rfl
 |_,_,_,.tup ha r,h=>by
  cases h with
  |tup hb r'=>rw[ha]at hb;cases hb;rw[jD.inj r r']
  |lst hb _=>rw[ha]at hb;cases hb
  |dct hb=>rw[ha]at hb;cases hb
 |_,_,_,.lst ha r,h=>by
  cases h with
  |tup hb _=>rw[ha]at hb;cases hb
  |lst hb r'=>rw[ha]at hb;cases hb;rw[jD.inj r r']
  |dct hb=>rw[ha]at hb;cases hb
 |_,_,_,.dct ha,h=>by
  cases h with
  |tup hb _=>rw[ha]at hb;cases hb
  |lst hb _=>rw[ha]at hb;cases hb
  |dct hb=>rfl
theorem jD.inj{H:Hp}:∀{xs:List V} {ds es:List D},jD H xs ds->jD H xs es->ds=es
 |_,_,_,.nil,h=>by cases h;rfl
 |_,_,_,.cons h r,h'=>by
  cases h' with
  |cons k r'=>rw[Rep.inj h k,jD.inj r r']
end
theorem lu:∀(l m:List D),gj l m=((zBE (min l.length m.length)).all (λ j=>match l[j]?,m[j]? with|some a,some b=>eqD a b|_,_=>true)&&l.length==m.length)
 |[],[]=>by simp[gj]
 |[],y::ys=>by simp[gj]
 |x::xs,[]=>by simp[gj]
 |x::xs,y::ys=>by
  have ih:=lu xs ys;simp only[gj,ih,zA4,zHA,zFq,zCs,zGD,zDV,zEF,zDU,zG5,zHW,zDy];congr 1;congr 1;simp
theorem jY:∀{l:List D} {d:D},d∈l->iB d<=bY l
 |x::r,d,h=>by
  simp only[bY];rcases zAQ.mp h with rfl|h
  .exact zDq _ _
  .exact zAf (jY h) (zD8 _ _)
theorem eQ:∀{l:List D} {d:D},d∈l->aR l=true->aQ d=true
 |x::r,d,h,n=>by
  simp only[aR,zAM]at n;rcases zAQ.mp h with rfl|h
  .exact n.1
  .exact eQ h n.2
def cZ{ds es:List D}{n m:Nat}(hn:n=ds.length)(hm:m=es.length):((zBE (min n m)).all (λ j=>match ds[j]?,es[j]? with|some a,some b=>eqD a b|_,_=>true)&&n==m)=gj ds es:=by
 subst hn hm;exact(lu ds es).symm
def nP{P:zAU}{w:World}{H:Hp}{h:Heap}(hok:HOk P w H h){a:Addr}{xs:List V}(e:H a=some (.tup xs)):∃its:List Value,Vals xs its/\h.IsTuple a its.toArray:=by
 obtain⟨_,its,r,p⟩:=hok a _ e;exact⟨its,r,p⟩
def lO{P:zAU}{w:World}{H:Hp}{h:Heap}(hok:HOk P w H h){a:Addr}{xs:List V}(e:H a=some (.lst xs)):∃its:List Value,Vals xs its/\h.IsList a its.toArray:=by
 obtain⟨_,its,n,r,p⟩:=hok a _ e;exact⟨its,r,_,p,rfl,n,rfl⟩
section
variable{P:zAU}{w:World}{H:Hp}{s:zAD}
mutual
theorem yO(hok:HOk P w H s.heap):∀{x y:V} {d e:D} (n:Nat) {A:zA8} {u v:Value},Rep H x d->Rep H y e->RelV x u->RelV y v->iB d<=n->aQ d=true->aQ e=true->A.units+n<cLine->zBk A s u v (eqD d e)
 |_,_,_,_,n,A,u,v,r1,r2,ru,rv,hd,nd,ne,hu=>by
  have hu0:A.units<cLine:=by omega
  cases r1 with
  |tup h1 q1=>
   rename_i a xs ds;cases ru;obtain⟨its,w1,t1⟩:=nP hok h1;cases r2 with
   |tup h2 q2=>
    rename_i b ys es;cases rv;obtain⟨its2,w2,t2⟩:=nP hok h2;by_cases hab:a=b
    .subst hab
     have e:=Rep.inj (Rep.tup h1 q1) (Rep.tup h2 q2);rw[<-e,ik _ nd];exact zCS _
    .simp only[iB]at hd
     obtain⟨k,rfl⟩:∃k,n=k+1:=⟨n-1,by omega⟩
     have z:=zDv t1 t2 hu0 (zz hok k q1 q2 w1 w2 (by omega) (by simpa[aQ]using nd) (by simpa[aQ]using ne) (by show A.units+1+k<cLine;omega));rw[cZ (by rw[zAL,<-w1.length,q1.length]) (by rw[zAL,<-w2.length,q2.length])]at z;simp only[eqD];exact zBu hab z
   |lst h2 q2=>
    cases rv;obtain⟨its2,w2,t2⟩:=lO hok h2;simp only[eqD];exact zEv t1 t2 hu0
   |dct h2=>simp[aQ]at ne
   |non=>cases rv;simp only[eqD];exact zEw t1 hu0
   |bl b=>cases rv;simp only[eqD];exact zEu b t1 hu0
   |int i=>obtain⟨tk,rfl⟩:=rv;simp only[eqD];exact zFR i tk t1 hu0
   |str i=>obtain⟨tk,rfl⟩:=rv;simp only[eqD];exact zFS i tk t1 hu0
  |lst h1 q1=>
   rename_i a xs ds;cases ru;obtain⟨its,w1,t1⟩:=lO hok h1;cases r2 with
   |lst h2 q2=>
    rename_i b ys es;cases rv;obtain⟨its2,w2,t2⟩:=lO hok h2;by_cases hab:a=b
    .subst hab
     have e:=Rep.inj (Rep.lst h1 q1) (Rep.lst h2 q2);rw[<-e,ik _ nd];exact zCS _
    .simp only[iB]at hd
     obtain⟨k,rfl⟩:∃k,n=k+1:=⟨n-1,by omega⟩
     have l1:its.toArray.size=ds.length:=by rw[zAL,<-w1.length,q1.length]
     have l2:its2.toArray.size=es.length:=by rw[zAL,<-w2.length,q2.length]
     by_cases hl:its.toArray.size=its2.toArray.size
     .have z:=zEJ t1 t2 hl hu0 (zz hok k q1 q2 w1 w2 (by omega) (by simpa[aQ]using nd) (by simpa[aQ]using ne) (by show A.units+1+k<cLine;omega))
      have z':=cZ (ds:=ds) (es:=es) l1 l2;rw[<-hl,zDr,beq_self_eq_true,zCr]at z';rw[z']at z;simp only[eqD];exact zBu hab z
     .have z:=zCz t1 t2 (by simpa using hl) hu0
      have z':=cZ (ds:=ds) (es:=es) l1 l2;rw[beq_eq_false_iff_ne.mpr hl,zC9]at z';simp only[eqD];rw[<-z'];exact zBu hab z
   |tup h2 q2=>
    cases rv;obtain⟨its2,w2,t2⟩:=nP hok h2;simp only[eqD];exact zEs t1 t2 hu0
   |dct h2=>simp[aQ]at ne
   |non=>cases rv;simp only[eqD];exact zFN t1 hu0
   |bl b=>cases rv;simp only[eqD];exact zFM b t1 hu0
   |int i=>obtain⟨tk,rfl⟩:=rv;simp only[eqD];exact zF5 i tk t1 hu0
   |str i=>obtain⟨tk,rfl⟩:=rv;simp only[eqD];exact zF6 i tk t1 hu0
  |dct h1=>simp[aQ]at nd
  |non=>
   cases ru;cases r2 with
   |tup h2 q2=>cases rv;obtain⟨_,_,t2⟩:=nP hok h2;simp only[eqD];exact zEt t2 hu0
   |lst h2 q2=>cases rv;obtain⟨_,_,t2⟩:=lO hok h2;simp only[eqD];exact zFP t2 hu0
   |dct h2=>simp[aQ]at ne
   |non=>cases rv;simp only[eqD];exact zCS _
   |bl b=>cases rv;simp only[eqD];exact zFO b
   |int i=>obtain⟨tk,rfl⟩:=rv;simp only[eqD];exact zF7 i tk
   |str i=>obtain⟨tk,rfl⟩:=rv;simp only[eqD];exact zF8 i tk
  |bl a=>
   cases ru;cases r2 with
   |tup h2 q2=>cases rv;obtain⟨_,_,t2⟩:=nP hok h2;simp only[eqD];exact zEr a t2 hu0
   |lst h2 q2=>cases rv;obtain⟨_,_,t2⟩:=lO hok h2;simp only[eqD];exact zFJ a t2 hu0
   |dct h2=>simp[aQ]at ne
   |non=>cases rv;simp only[eqD];exact zFK a
   |bl b=>cases rv;simp only[eqD];exact zFI a b
   |int i=>obtain⟨tk,rfl⟩:=rv;simp only[eqD];exact zF0 a i tk
   |str i=>obtain⟨tk,rfl⟩:=rv;simp only[eqD];exact zF1 a i tk
  |int a=>
   obtain⟨tu,rfl⟩:=ru;cases r2 with
   |tup h2 q2=>cases rv;obtain⟨_,_,t2⟩:=nP hok h2;simp only[eqD];exact zFL a tu t2 hu0
   |lst h2 q2=>cases rv;obtain⟨_,_,t2⟩:=lO hok h2;simp only[eqD];exact zF3 a tu t2 hu0
   |dct h2=>simp[aQ]at ne
   |non=>cases rv;simp only[eqD];exact zF4 a tu
   |bl b=>cases rv;simp only[eqD];exact zF2 a tu b
   |int i=>obtain⟨tk,rfl⟩:=rv;simp only[eqD];exact zDi a tu i tk
   |str i=>obtain⟨tk,rfl⟩:=rv;simp only[eqD];exact zDj a tu i tk
  |str a=>
   obtain⟨tu,rfl⟩:=ru;cases r2 with
   |tup h2 q2=>cases rv;obtain⟨_,_,t2⟩:=nP hok h2;simp only[eqD];exact zFQ a tu t2 hu0
   |lst h2 q2=>cases rv;obtain⟨_,_,t2⟩:=lO hok h2;simp only[eqD];exact zFa a tu t2 hu0
   |dct h2=>simp[aQ]at ne
   |non=>cases rv;simp only[eqD];exact zFb a tu
   |bl b=>cases rv;simp only[eqD];exact zF9 a tu b
   |int i=>obtain⟨tk,rfl⟩:=rv;simp only[eqD];exact zDk a tu i tk
   |str i=>obtain⟨tk,rfl⟩:=rv;simp only[eqD];exact zFh a tu i tk
 termination_by _ _ _ _ n=>(n,0)
theorem zz(hok:HOk P w H s.heap):∀{xs ys:List V} {ds es:List D} (n:Nat) {A:zA8} {us vs:List Value},jD H xs ds->jD H ys es->Vals xs us->Vals ys vs->bY ds<=n->aR ds=true->aR es=true->A.units+n<cLine->
  ∀(j:Nat) (h1:j<us.toArray.size) (h2:j<vs.toArray.size),zBk A s us.toArray[j] vs.toArray[j] (match ds[j]?,es[j]? with|some a,some b=>eqD a b|_,_=>true)
 |xs,ys,ds,es,n,A,us,vs,q1,q2,w1,w2,hd,nd,ne,hu,j,h1,h2=>by
  have hj1:j<us.length:=by simpa using h1
  have hj2:j<vs.length:=by simpa using h2
  have hx:j<xs.length:=by rw[w1.length];exact hj1
  have hy:j<ys.length:=by rw[w2.length];exact hj2
  have ex:=zAI hx;have ey:=zAI hy;obtain⟨d,ed,rd⟩:=q1.get ex;obtain⟨e,ee,re⟩:=q2.get ey;obtain⟨u,eu,ru⟩:=w1.get ex;obtain⟨v,ev,rv⟩:=w2.get ey;have e1:us.toArray[j]=u:=by
   rw[zCl];exact zAg ((zAI hj1).symm.trans eu)
  have e2:vs.toArray[j]=v:=by
   rw[zCl];exact zAg ((zAI hj2).symm.trans ev)
  rw[e1,e2,ed,ee];exact yO hok n rd re ru rv (zAf (jY (zAl ed)) hd) (eQ (zAl ed) nd) (eQ (zAl ee) ne) hu
 termination_by _ _ _ _ n=>(n,1)
end
end
section
def inD(d:D)(es:List D):Bool:=es.any λ e=>eqD e d
end
section
variable{P:zAU}{w:World}{H:Hp}{s:zAD}
open Classical in
def mq(H:Hp)(d:D)(u:Value):Bool:=if h:∃e,∃y,RelV y u/\Rep H y e then eqD (choose h) d else false
def pC{d e:D}{y:V}{u:Value}(r:RelV y u)(h:Rep H y e):mq H d u=eqD e d:=by
 have hx:∃e,∃y,RelV y u/\Rep H y e:=⟨e,y,r,h⟩
 unfold mq;rw[dif_pos hx];obtain⟨y',r',h'⟩:=zEy hx;have e1:=RelV.inj r r';subst e1;rw[Rep.inj h' h]
theorem pJ(hok:HOk P w H s.heap){d:D}{x:V}{v:Value}(rx:Rep H x d)(rv:RelV x v){n:Nat}{A:zA8}(hu:A.units+n<cLine)(nd:aQ d=true):∀{xs:List V} {es:List D} {us:List Value},jD H xs es->Vals xs us->bY es<=n->aR es=true->∀u∈us,zBk A s u v (mq H d u)
 |_,_,_,.nil,.nil,_,_,u,hm=>by cases hm
 |_,_,_,.cons h r,.cons k t,hd,ne,u,hm=>by
  simp only[bY]at hd;simp only[aR,zAM]at ne;rcases zAQ.mp hm with z|z
  .subst z
   rw[pC k h];exact yO hok n h rx k rv (zAf (zDq _ _) hd) ne.1 nd hu
  .exact pJ hok rx rv hu nd r t (zAf (zD8 _ _) hd) ne.2 u z
end
section
variable{H:Hp}{d:D}
theorem rA:∀{xs:List V} {es:List D} {us:List Value},jD H xs es->Vals xs us->us.countP (mq H d)=es.countP (λ e=>eqD e d)
 |_,_,_,.nil,.nil=>rfl
 |_,_,_,.cons h r,.cons k t=>by rw[zCg,zCg,pC k h,rA r t]
end
section
variable{X:Cx}
def aBu:V->List V->Hp->VK->Prop:=λ x xs H Q=>∃a y d es,x= .ref a/\xs=[y]/\Rep H (.ref a) (.lst es)/\Rep H y d/\bY es<=60/\aQ d=true/\aR es=true/\Q (.int (es.countP (λ e=>eqD e d):Nat)) H
def aCs(hu:X.A.units+64<cLine):MtR X "list.count" aBu:=by
 intro hV s σ H x xs v us Q I rx rxs h;obtain⟨a,y,d,es,rfl,rfl,ra,rd,hd,nd,ne,q⟩:=h;cases rx;obtain⟨u,rfl,ru⟩:=Vals.one rxs;have hu1:X.A.in1.units+60<cLine:=by show X.A.units+1+60<cLine;omega
 cases ra with
 |lst ha r=>
  obtain⟨its,rv,tl⟩:=lO I.hok ha;obtain⟨⟨cls,dd,data,sl⟩,ho,hc,n,hdd⟩:=id tl;simp only at hc hdd;subst hc hdd;refine zCK zFH ⟨_,ho,rfl⟩ PySem.F.entry_list_count (PySem.F.args_list_count_2 _ _) (SeqAt.list_countAt a its.toArray n dd sl u (mq H d))
   ⟨ho,λ w hw=>pJ I.hok rd ru hu1 nd r rv hd ne w (by simpa using hw),?_⟩
  rw[show its.toArray.toList=its from rfl,rA r rv];exact⟨.int _,H,I.tok _,⟨_,rfl⟩,q⟩
end
def aL7(K:zAA)(c:V):TE:=tCB (aHx K) (gm (m7 0) (gm (tC c) kY))
section
variable{X:Cx}{n0 n1 n2 odd:Str}{c1 c2:V}{k1 k2 k3 k4:List V}{l1 l2:List Str}{a1 a2:Expr}{as1 as2 e1 e2 e3 e4 w1 w2:List Expr}{kw1 kw2:List zB2}{Q:VK}{H:Hp}{vs:List V}
 {p1 p2 p3 p4 p5 p6 p7 p8 p9 p10 p11 p12 p13 p14 p15 p16 p17 p18 p19 p20 p21 p22 p23 p24 p25 p26 p27 p28 p29 p30 p31 p32 p33 p34 p35 p36 p37 p38 p39 p40:Pos}{q1 q2 q3 q4 q5 q6 q7:Pos}{j1 j2 j3 j4 j5:Nat}{E0:XK}{wd:Addr->Option Str}
end
end L2
namespace VL
open PySem PySem.Spec PyProof.Rows L2
inductive D where
 |non|bl (b:Bool)|int (i:Int)|str (x:Str)|tup (l:List D)|lst (l:List D)|dct (ks vs:List D)|set (l:List Int)|scr (l:List Int)|fn (x:Str)|itm (o:Option Nat) (l:gX)
instance:Inhabited D:=⟨.non⟩
def kD:Key->D
 | .inl i=>.int i
 | .inr x=>.str x
variable{K:zAA}
def mD(K:zAA)(H:Hp)(a:Addr)(ns:List Int):Prop:=(∃o,H a=some (.frz o (.lst (ns.map V.int))))\/
 ∃(o:Obj) (its:Array Value) (n:Nat),K.lookup a=some o/\o.cls= .type "list"/\o.dict=none/\o.data= .seq its n/\its.size<=zAR/\Vals (ns.map V.int) its.toList
def mD.sq(h:mD K H a ns):SqL K H a (ns.map V.int):=by
 rcases h with h|h
 .exact .inl (.inr h)
 .exact .inr h
def rD(H:Hp)(a:Addr)(oo:Option Nat)(l:gX):Prop:=∃o es ep,o.data= .dict es ep/\(oo=none\/oo=some ep)/\H a=some (.frz o (.dK (l.map λ p=>(.inl p.1,V.int p.2))))
def hsh(ns:List Int):Int:=reduceHash (zHg (ns.map hashInt))
def dxO(a:Addr)(es:List (List Int×Addr×V)):HO:=.ext λ h=>es.length<=zAR/\(a==zCA)=false/\∃(xs:List (List Int×Addr×Value)) (o:Obj) (ts:Array DictEntry) (ep:Nat),zHB (λ e x=>e.1=x.1/\e.2.1=x.2.1/\RelV e.2.2 x.2.2) es xs/\
 h.get? a=some o/\o.ExactDict/\o.data= .dict ts ep/\ts.toList=xs.map λ x=>⟨hsh x.1,.ref x.2.1,x.2.2⟩
structure DxK(K:zAA)(H:Hp)(a:Addr)(es:List (List Int×Addr×V)):Prop where
 at_:H a=some (dxO a es)
 ks:∀e∈es,SqT K H e.2.1 (e.1.map V.int)
 nd:(es.map (·.1)).Nodup
mutual
inductive Rp(K:zAA):(Addr->Prop)->Hp->V->D->Prop where
 |non {A:Addr->Prop} {H:Hp}:Rp K A H .non .non
 |bl {A:Addr->Prop} {H:Hp} (b:Bool):Rp K A H (.bl b) (.bl b)
 |int {A:Addr->Prop} {H:Hp} (i:Int):Rp K A H (.int i) (.int i)
 |str {A:Addr->Prop} {H:Hp} (x:Str):Rp K A H (.str x) (.str x)
 |tup {A:Addr->Prop} {H:Hp} {a:Addr} {xs:List V} {ds:List D} (h:SqT K H a xs) (r:Rps K A H xs ds):Rp K A H (.ref a) (.tup ds)
 |lst {A:Addr->Prop} {H:Hp} {a:Addr} {xs:List V} {ds:List D} (h:H a=some (.lst xs)) (m:A a) (r:Rps K (λ p=>A p/\p≠a) H xs ds):Rp K A H (.ref a) (.lst ds)
 |dK {A:Addr->Prop} {H:Hp} {a:Addr} {kvs:List (Key×V)} {ds:List D} (h:H a=some (.dK kvs)) (m:A a) (r:Rps K (λ p=>A p/\p≠a) H (kvs.map (·.2)) ds):Rp K A H (.ref a) (.dct (kvs.map λ p=>kD p.1) ds)
 |dT {A:Addr->Prop} {H:Hp} {a:Addr} {es:List (List Int×Addr×V)} {ds:List D} (h:DxK K H a es) (m:A a) (r:Rps K (λ p=>A p/\p≠a) H (es.map (·.2.2)) ds):Rp K A H (.ref a) (.dct (.non::es.map λ e=>.tup (e.1.map .int)) ds)
 |set {A:Addr->Prop} {H:Hp} {a:Addr} {S:Int->Bool} {l:List Int} (h:H a=some (.set S l.length)) (m:A a) (hS:∀i,S i=decide (i∈l)) (nd:l.Nodup):Rp K A H (.ref a) (.set l)
 |scr {A:Addr->Prop} {H:Hp} {a:Addr} {ns:List Int} (h:mD K H a ns):Rp K A H (.ref a) (.scr ns)
 |fn {A:Addr->Prop} {H:Hp} {a:Addr} {x:Str} (h:zAu K zAa x=some (some (.ref a))):Rp K A H (.ref a) (.fn x)
 |itm {A:Addr->Prop} {H:Hp} {a:Addr} {oo:Option Nat} {l:gX} (h:rD H a oo l):Rp K A H (.ref a) (.itm oo l)
inductive Rps(K:zAA):(Addr->Prop)->Hp->List V->List D->Prop where
 |nil {A:Addr->Prop} {H:Hp}:Rps K A H [] []
 |cons {A:Addr->Prop} {H:Hp} {x:V} {d:D} {xs:List V} {ds:List D} (h:Rp K A H x d) (r:Rps K A H xs ds):Rps K A H (x::xs) (d::ds)
end
def mD.mono(s:aV H H')(h:mD K H a ns):mD K H' a ns:=by
 rcases h with ⟨o,h⟩|h
 .exact .inl ⟨o,s _ _ h⟩
 .exact .inr h
def rD.mono(h:rD H a oo l)(s:aV H H'):rD H' a oo l:=let⟨o,es,ep,y,z,e⟩:=h;⟨o,es,ep,y,z,s _ _ e⟩
def DxK.mono(h:DxK K H a es)(s:aV H H'):DxK K H' a es:=⟨s _ _ h.at_,λ e he=>s.sqt (h.ks e he),h.nd⟩
def Rp.mono'(s:aV H H')(r:Rp K A H x d)(hA:∀p o,H p=some o->A p->A' p):Rp K A' H' x d:=
 Rp.rec (motive_1:=λ A H x d _=>∀H',aV H H'->∀A':Addr->Prop,(∀p o,H p=some o->A p->A' p)->Rp K A' H' x d) (motive_2:=λ A H xs ds _=>∀H',aV H H'->∀A':Addr->Prop,(∀p o,H p=some o->A p->A' p)->Rps K A' H' xs ds)
  (λ _ _ _ _=>.non) (λ b _ _ _ _=>.bl b) (λ i _ _ _ _=>.int i) (λ x _ _ _ _=>.str x) (λ h _ ih _ s _ hA=>.tup (s.sqt h) (ih _ s _ hA))
  (λ h m _ ih _ s _ hA=>.lst (s _ _ h) (hA _ _ h m) (ih _ s _ λ p o e z=>⟨hA p o e z.1,z.2⟩)) (λ h m _ ih _ s _ hA=>.dK (s _ _ h) (hA _ _ h m) (ih _ s _ λ p o e z=>⟨hA p o e z.1,z.2⟩))
  (λ h m _ ih _ s _ hA=>.dT (h.mono s) (hA _ _ h.at_ m) (ih _ s _ λ p o e z=>⟨hA p o e z.1,z.2⟩)) (λ h m hS nd _ s _ hA=>.set (s _ _ h) (hA _ _ h m) hS nd) (λ h _ s _ _=>.scr (h.mono s)) (λ h _ _ _ _=>.fn h) (λ h _ s _ _=>.itm (h.mono s)) (λ _ _ _ _=>.nil) (λ _ _ ih ir _ s _ hA=>.cons (ih _ s _ hA) (ir _ s _ hA)) r H' s A' hA
def Rps.mono'(s:aV H H')(r:Rps K A H xs ds)(hA:∀p o,H p=some o->A p->A' p):Rps K A' H' xs ds:=
 Rps.rec (motive_1:=λ A H x d _=>∀H',aV H H'->∀A':Addr->Prop,(∀p o,H p=some o->A p->A' p)->Rp K A' H' x d) (motive_2:=λ A H xs ds _=>∀H',aV H H'->∀A':Addr->Prop,(∀p o,H p=some o->A p->A' p)->Rps K A' H' xs ds)
  (λ _ _ _ _=>.non) (λ b _ _ _ _=>.bl b) (λ i _ _ _ _=>.int i) (λ x _ _ _ _=>.str x) (λ h _ ih _ s _ hA=>.tup (s.sqt h) (ih _ s _ hA))
  (λ h m _ ih _ s _ hA=>.lst (s _ _ h) (hA _ _ h m) (ih _ s _ λ p o e z=>⟨hA p o e z.1,z.2⟩)) (λ h m _ ih _ s _ hA=>.dK (s _ _ h) (hA _ _ h m) (ih _ s _ λ p o e z=>⟨hA p o e z.1,z.2⟩))
  (λ h m _ ih _ s _ hA=>.dT (h.mono s) (hA _ _ h.at_ m) (ih _ s _ λ p o e z=>⟨hA p o e z.1,z.2⟩)) (λ h m hS nd _ s _ hA=>.set (s _ _ h) (hA _ _ h m) hS nd) (λ h _ s _ _=>.scr (h.mono s)) (λ h _ _ _ _=>.fn h) (λ h _ s _ _=>.itm (h.mono s)) (λ _ _ _ _=>.nil) (λ _ _ ih ir _ s _ hA=>.cons (ih _ s _ hA) (ir _ s _ hA)) r H' s A' hA
def Rp.mono(s:aV H H')(hA:∀p o,H p=some o->A p->A' p)(r:Rp K A H x d):Rp K A' H' x d:=r.mono' s hA
def Rps.mono(s:aV H H')(hA:∀p o,H p=some o->A p->A' p)(r:Rps K A H x d):Rps K A' H' x d:=r.mono' s hA
def Rp.up(s:aV H H')(r:Rp K A H x d):Rp K A H' x d:=r.mono s λ _ _ _ h=>h
def Rp.wk(hA:∀p o,H p=some o->A p->A' p)(r:Rp K A H x d):Rp K A' H x d:=r.mono (aV.refl H) hA
def Rps.up(s:aV H H')(r:Rps K A H x d):Rps K A H' x d:=r.mono s λ _ _ _ h=>h
def Rps.wk(hA:∀p o,H p=some o->A p->A' p)(r:Rps K A H x d):Rps K A' H x d:=r.mono (aV.refl H) hA
def ie:HO->Bool
 | .lst _=>true| .dK _=>true| .dT _=>true| .set _ _=>true| .ext _=>true|_=>false
def wX(s:jE l H H')(hl:H l=some o)(ho:ie o=true)(h:SqT K H a xs):SqT K H' a xs:=by
 rcases h with (h|⟨u,h⟩)|h
 .refine .inl (.inl (s _ _ (λ e=>?_) h))
  subst e;rw[hl]at h;cases h;cases ho
 .refine .inl (.inr ⟨u,s _ _ (λ e=>?_) h⟩)
  subst e;rw[hl]at h;cases h;cases ho
 .exact .inr h
def aBo(s:jE l H H')(hl:H l=some o)(ho:ie o=true)(h:mD K H a ns):mD K H' a ns:=by
 rcases h with ⟨u,h⟩|h
 .exact .inl ⟨u,s _ _ (λ e=>by subst e;rw[hl]at h;cases h;cases ho) h⟩
 .exact .inr h
def rD.but(h:rD H a oo q)(s:jE l H H')(hl:H l=some o)(ho:ie o=true):rD H' a oo q:=let⟨u,es,ep,y,z,e⟩:=h;⟨u,es,ep,y,z,s _ _ (λ z=>by subst z;rw[hl]at e;cases e;cases ho) e⟩
def DxK.but(h:DxK K H a es)(s:jE l H H')(hl:H l=some o)(ho:ie o=true)(ne:a≠l):DxK K H' a es:=
 ⟨s _ _ ne h.at_,λ e he=>wX s hl ho (h.ks e he),h.nd⟩
def Rp.but'(s:jE l H H')(hl:H l=some o)(ho:ie o=true)(r:Rp K A H x d)(hA:¬A l):Rp K A H' x d:=
 Rp.rec (motive_1:=λ A H x d _=>∀H',jE l H H'->∀o:HO,H l=some o->ie o=true->¬A l->Rp K A H' x d) (motive_2:=λ A H xs ds _=>∀H',jE l H H'->∀o:HO,H l=some o->ie o=true->¬A l->Rps K A H' xs ds)
  (λ _ _ _ _ _ _=>.non) (λ b _ _ _ _ _ _=>.bl b) (λ i _ _ _ _ _ _=>.int i) (λ x _ _ _ _ _ _=>.str x) (λ h _ ih _ s o hl ho hA=>.tup (wX s hl ho h) (ih _ s o hl ho hA))
  (λ h m _ ih _ s o hl ho hA=>.lst (s _ _ (λ e=>hA (e▸m)) h) m (ih _ s o hl ho λ z=>hA z.1)) (λ h m _ ih _ s o hl ho hA=>.dK (s _ _ (λ e=>hA (e▸m)) h) m (ih _ s o hl ho λ z=>hA z.1))
  (λ h m _ ih _ s o hl ho hA=>.dT (h.but s hl ho λ e=>hA (e▸m)) m (ih _ s o hl ho λ z=>hA z.1)) (λ h m hS nd _ s o hl ho hA=>.set (s _ _ (λ e=>hA (e▸m)) h) m hS nd) (λ h _ s o hl ho _=>.scr (aBo s hl ho h)) (λ h _ _ _ _ _ _=>.fn h) (λ h _ s o hl ho _=>.itm (h.but s hl ho)) (λ _ _ _ _ _ _=>.nil) (λ _ _ ih ir _ s o hl ho hA=>.cons (ih _ s o hl ho hA) (ir _ s o hl ho hA)) r H' s o hl ho hA
def Rps.but'(s:jE l H H')(hl:H l=some o)(ho:ie o=true)(r:Rps K A H xs ds)(hA:¬A l):Rps K A H' xs ds:=
 Rps.rec (motive_1:=λ A H x d _=>∀H',jE l H H'->∀o:HO,H l=some o->ie o=true->¬A l->Rp K A H' x d) (motive_2:=λ A H xs ds _=>∀H',jE l H H'->∀o:HO,H l=some o->ie o=true->¬A l->Rps K A H' xs ds)
  (λ _ _ _ _ _ _=>.non) (λ b _ _ _ _ _ _=>.bl b) (λ i _ _ _ _ _ _=>.int i) (λ x _ _ _ _ _ _=>.str x) (λ h _ ih _ s o hl ho hA=>.tup (wX s hl ho h) (ih _ s o hl ho hA))
  (λ h m _ ih _ s o hl ho hA=>.lst (s _ _ (λ e=>hA (e▸m)) h) m (ih _ s o hl ho λ z=>hA z.1)) (λ h m _ ih _ s o hl ho hA=>.dK (s _ _ (λ e=>hA (e▸m)) h) m (ih _ s o hl ho λ z=>hA z.1))
  (λ h m _ ih _ s o hl ho hA=>.dT (h.but s hl ho λ e=>hA (e▸m)) m (ih _ s o hl ho λ z=>hA z.1)) (λ h m hS nd _ s o hl ho hA=>.set (s _ _ (λ e=>hA (e▸m)) h) m hS nd) (λ h _ s o hl ho _=>.scr (aBo s hl ho h)) (λ h _ _ _ _ _ _=>.fn h) (λ h _ s o hl ho _=>.itm (h.but s hl ho)) (λ _ _ _ _ _ _=>.nil) (λ _ _ ih ir _ s o hl ho hA=>.cons (ih _ s o hl ho hA) (ir _ s o hl ho hA)) r H' s o hl ho hA
def Rp.but(s:jE l H H')(hl:H l=some o)(ho:ie o=true)(hA:¬A l)(r:Rp K A H x d):Rp K A H' x d:=r.but' s hl ho hA
def Rps.but(s:jE l H H')(hl:H l=some o)(ho:ie o=true)(hA:¬A l)(r:Rps K A H x d):Rps K A H' x d:=r.but' s hl ho hA
mutual
def imm:D->Bool
 | .tup l=>dJ l
 | .lst _=>false
 | .dct _ _=>false
 | .set _=>false
 |_=>true
def dJ:List D->Bool
 |[]=>true
 |d::r=>imm d&&dJ r
end
def mQ(e:dJ (d::r)=true):imm d=true/\dJ r=true:=by
 simp only[dJ,zAM]at e;exact e
def aCM(e:imm (.tup l)=true):dJ l=true:=by simpa[imm]using e
def aCP(e:imm (.lst l)=true):False:=by simp[imm]at e
def sH(e:imm (.dct l k)=true):False:=by simp[imm]at e
def aCN(e:imm (.set l)=true):False:=by simp[imm]at e
def Rp.imm'(r:Rp K A H x d)(e:VL.imm d=true):Rp K A' H x d:=
 Rp.rec (motive_1:=λ _ H x d _=>VL.imm d=true->Rp K A' H x d) (motive_2:=λ _ H xs ds _=>dJ ds=true->Rps K A' H xs ds)
  (λ _=>.non) (λ b _=>.bl b) (λ i _=>.int i) (λ x _=>.str x) (λ h _ ih e=>.tup h (ih (aCM e)))
  (λ _ _ _ _ e=>(aCP e).elim) (λ _ _ _ _ e=>(sH e).elim) (λ _ _ _ _ e=>(sH e).elim) (λ _ _ _ _ e=>(aCN e).elim) (λ h _=>.scr h) (λ h _=>.fn h) (λ h _=>.itm h) (λ _=>.nil) (λ _ _ ih ir e=>.cons (ih (mQ e).1) (ir (mQ e).2)) r e
def Rps.imm'(r:Rps K A H xs ds)(e:dJ ds=true):Rps K A' H xs ds:=
 Rps.rec (motive_1:=λ _ H x d _=>VL.imm d=true->Rp K A' H x d) (motive_2:=λ _ H xs ds _=>dJ ds=true->Rps K A' H xs ds)
  (λ _=>.non) (λ b _=>.bl b) (λ i _=>.int i) (λ x _=>.str x) (λ h _ ih e=>.tup h (ih (aCM e)))
  (λ _ _ _ _ e=>(aCP e).elim) (λ _ _ _ _ e=>(sH e).elim) (λ _ _ _ _ e=>(sH e).elim) (λ _ _ _ _ e=>(aCN e).elim) (λ h _=>.scr h) (λ h _=>.fn h) (λ h _=>.itm h) (λ _=>.nil) (λ _ _ ih ir e=>.cons (ih (mQ e).1) (ir (mQ e).2)) r e
theorem Rp.imm(r:Rp K A H x d)(h:VL.imm d=true):Rp K A' H x d:=r.imm' h
def Rps.imm(r:Rps K A H x d)(h:dJ d=true):Rps K A' H x d:=r.imm' h
def Rp.int_inv(r:Rp K A H v (.int i)):v= .int i:=by cases r;rfl
def Rp.tup_inv(r:Rp K A H v (.tup ds)):∃a xs,v= .ref a/\SqT K H a xs/\Rps K A H xs ds:=by cases r with|tup h r=>exact⟨_,_,rfl,h,r⟩
def Rp.lst_inv(r:Rp K A H v (.lst ds)):∃a xs,v= .ref a/\H a=some (.lst xs)/\A a/\Rps K (λ p=>A p/\p≠a) H xs ds:=by cases r with|lst h m r=>exact⟨_,_,rfl,h,m,r⟩
def Rp.scr_inv(r:Rp K A H v (.scr ns)):∃a,v= .ref a/\mD K H a ns:=by cases r with|scr h=>exact⟨_,rfl,h⟩
def Rps.one_inv(r:Rps K A H vs [d]):∃v,vs=[v]/\Rp K A H v d:=by cases r with|cons h r=>cases r;exact⟨_,rfl,h⟩
section
variable{A:Addr->Prop}{H:Hp}
theorem Rps.length:∀{xs:List V} {ds:List D},Rps K A H xs ds->xs.length=ds.length:=by
 intro xs ds h;induction xs generalizing ds with
 |nil=>cases h;rfl
 |cons x xs ih=>cases h with|cons _ r=>exact congrArg (·+1) (ih r)
theorem Rps.get:∀{xs:List V} {ds:List D} {i:Nat} {x:V},Rps K A H xs ds->xs[i]? =some x->∃d,ds[i]? =some d/\Rp K A H x d
 |_,_,_,_,.nil,e=>by simp at e
 |_,_,0,_,.cons h _,e=>by simp at e;subst e;exact⟨_,rfl,h⟩
 |_,_,i+1,x,.cons _ r,e=>by
  obtain⟨d,h1,h2⟩:=Rps.get (i:=i) (x:=x) r (by simpa using e);exact⟨d,by simpa using h1,h2⟩
theorem Rps.getD:∀{xs:List V} {ds:List D} {i:Nat} {d:D},Rps K A H xs ds->ds[i]? =some d->∃x,xs[i]? =some x/\Rp K A H x d
 |_,_,_,_,.nil,e=>by simp at e
 |_,_,0,_,.cons h _,e=>by simp at e;subst e;exact⟨_,rfl,h⟩
 |_,_,i+1,d,.cons _ r,e=>by
  obtain⟨x,h1,h2⟩:=Rps.getD (i:=i) (d:=d) r (by simpa using e);exact⟨x,by simpa using h1,h2⟩
def Rps.append:∀{xs ys:List V} {ds es:List D},Rps K A H xs ds->Rps K A H ys es->Rps K A H (xs++ys) (ds++es):=by
 intro xs ys ds es h s;induction xs generalizing ds with
 |nil=>cases h;exact s
 |cons x xs ih=>cases h with|cons h r=>exact .cons h (ih r)
theorem Rps.reverse:∀{xs:List V} {ds:List D},Rps K A H xs ds->Rps K A H xs.reverse ds.reverse:=by
 intro xs ds h;induction xs generalizing ds with
 |nil=>cases h;exact .nil
 |cons x xs ih=>
  cases h with
  |cons h r=>
   rw[zC7,zC7];exact Rps.append (ih r) (.cons h .nil)
theorem Rps.set(h:Rp K A H x d):∀{xs:List V} {ds:List D} (n:Nat),Rps K A H xs ds->Rps K A H (xs.set n x) (ds.set n d)
 |_,_,_,.nil=>.nil
 |_,_,0,.cons _ r=>.cons h r
 |_,_,n+1,.cons k r=>.cons k (Rps.set h n r)
theorem Rps.ints:∀{ns:List Int},Rps K A H (ns.map V.int) (ns.map D.int)
 |[]=>.nil
 |n::ns=>.cons (.int n) Rps.ints
theorem Rps.ints_of:∀{xs:List V} {ns:List Int},Rps K A H xs (ns.map D.int)->xs=ns.map V.int
 |_,[],.nil=>rfl
 |_,n::ns,.cons h r=>by
  cases h;rw[zAC,Rps.ints_of r]
end
def aN(h:a=b):a=b:=h
inductive Rs(α:Type) where
 |ok (a:α)|ex (c:Str)|st
noncomputable def Rs.bd{α β:Type}:Rs α->(α->Rs β)->Rs β
 | .ok a,f=>f a
 | .ex c,_=>.ex c
 | .st,_=>.st
@[simp] def bz(a:α)(f:α->Rs β):(Rs.ok a).bd f=f a:=aN rfl
def dj{r:Rs α}(h:r.bd f= .ok b):∃a,r= .ok a/\f a= .ok b:=by
 cases r with
 |ok a=>exact⟨a,rfl,h⟩
 |ex c=>cases h
 |st=>cases h
abbrev bS:=List (List D)
inductive Slot where
 |no|sh (d:D)|nw (d:D)|ow (d:D)|oz (d:D)|o2 (l:bS)
abbrev En:=List Slot
abbrev Lab:=Addr->Nat×Nat
abbrev Mode:=Option (List Nat)
def inM(m:Mode)(n:Nat):Prop:=match m with
 |none=>True
 |some L=>n∈L
def jn:Mode->Mode->Mode
 |some a,some b=>some (a++b)
 |_,_=>none
def aLF(h:inM a n):inM (jn a b) n:=by
 cases a with
 |none=>cases b<;>exact trivial
 |some L=>
  cases b with
  |none=>exact trivial
  |some M=>exact zAJ _ h
def aLE(h:inM b n):inM (jn a b) n:=by
 cases a with
 |none=>cases b<;>exact trivial
 |some L=>
  cases b with
  |none=>exact trivial
  |some M=>exact zA1 _ h
def fpM(m:Mode)(lab:Lab)(H:Hp):Addr->Prop:=λ p=>H p=none\/inM m (lab p).1
def aFQ(h:fpM a lab H p):fpM (jn a b) lab H p:=h.imp id aLF
def aFP(h:fpM b lab H p):fpM (jn a b) lab H p:=h.imp id aLE
def jW(s:aV H H')(h:fpM m lab H' p):fpM m lab H p:=h.imp (λ z=>s.free z) id
structure Gx where
 H0:Hp
 E:XK
 cl:Str->Addr
def aCq:D->Bool
 | .lst _=>true
 | .dct _ _=>true
 | .set _=>true
 |_=>false
def gB(K:zAA)(H:Hp)(lab:Lab)(i:Nat)(v:V):Slot->Prop
 | .no=>True
 | .sh d=>Rp K (λ p=>(lab p).1<=1) H v d
 | .nw d=>Rp K (λ p=>(lab p).1=1) H v d
 | .ow d=>Rp K (λ p=>(lab p).1=1\/(lab p).1=i+2) H v d/\(aCq d=true->∃a,v= .ref a/\(lab a).1=i+2)
 | .oz d=>∃a xs ds,v= .ref a/\d= .lst ds/\H a=some (.lst xs)/\(lab a).1=i+2/\Rps K (λ p=>(lab p).1<=1) H xs ds
 | .o2 l=>∃a xs,v= .ref a/\H a=some (.lst xs)/\lab a=(i+2,0)/\xs.length=l.length/\∀(j:Nat) x ds,xs[j]? =some x->l[j]? =some ds->Rp K (λ p=>lab p=(i+2,j+1)) H x (.lst ds)
structure RR(K:zAA)(G:Gx)(U:List (V×D))(ρ:En)(σ:L2.St)(H:Hp)(lab:Lab):Prop where
 len:σ.length=ρ.length
 sl:∀(i:Nat) (s:Slot),ρ[i]? =some s->s= .no\/∃v,σ[i]? =some (some v)/\gB K H lab i v s
 old:aV G.H0 H
 new:∀p,(lab p).1≠0->G.H0 p=none
 tm:∀q∈U,Rp K (λ p=>(lab p).1<=1) H q.1 q.2
theorem gB.up(s:aV H H')(h:gB K H lab i v x):gB K H' lab i v x:=by
 cases x with
 |no=>exact trivial
 |sh d=>exact Rp.up s h
 |nw d=>exact Rp.up s h
 |ow d=>exact⟨Rp.up s h.1,h.2⟩
 |oz d=>
  obtain⟨a,xs,ds,e1,e2,e3,e4,e5⟩:=h;exact⟨a,xs,ds,e1,e2,s _ _ e3,e4,e5.up s⟩
 |o2 l=>
  obtain⟨a,xs,e1,e2,e3,e4,e5⟩:=h;exact⟨a,xs,e1,s _ _ e2,e3,e4,λ j x ds f1 f2=>(e5 j x ds f1 f2).up s⟩
def aDx(r:Rp K A H (.ref a) d)(hm:aCq d=true):∃o,H a=some o/\ie o=true/\A a:=by
 cases r with
 |lst h m _=>exact⟨_,h,rfl,m⟩
 |dK h m _=>exact⟨_,h,rfl,m⟩
 |dT h m _=>exact⟨_,h.at_,rfl,m⟩
 |set h m _ _=>exact⟨_,h,rfl,m⟩
 |tup _ _=>cases hm
 |scr _=>cases hm
 |fn _=>cases hm
 |itm _=>cases hm
def aIk(r:Rp K A H v d)(hm:aCq d=true):∃a,v= .ref a:=by
 cases r with
 |lst h m _=>exact⟨_,rfl⟩
 |dK h m _=>exact⟨_,rfl⟩
 |dT h m _=>exact⟨_,rfl⟩
 |set h m _ _=>exact⟨_,rfl⟩
 |_=>cases hm
theorem gB.lab{lab lab':Lab}(hl:∀p o,H p=some o->lab' p=lab p)(h:gB K H lab i v x):gB K H lab' i v x:=by
 cases x with
 |no=>exact trivial
 |sh d=>exact Rp.wk (λ p o e q=>(hl p o e).symm▸q) h
 |nw d=>exact Rp.wk (λ p o e q=>(hl p o e).symm▸q) h
 |ow d=>
  obtain⟨h,t⟩:=h;refine⟨Rp.wk (λ p o e q=>(hl p o e).symm▸q) h,λ m=>?_⟩;obtain⟨a,rfl,ea⟩:=t m;obtain⟨o,ho,_⟩:=aDx h m;exact⟨a,rfl,(congrArg (·.1) (hl a o ho)).trans ea⟩
 |oz d=>
  obtain⟨a,xs,ds,e1,e2,e3,e4,e5⟩:=h;exact⟨a,xs,ds,e1,e2,e3,(congrArg (·.1) (hl _ _ e3)).trans e4,Rps.wk (λ p o e q=>(hl p o e).symm▸q) e5⟩
 |o2 l=>
  obtain⟨a,xs,e1,e2,e3,e4,e5⟩:=h;exact⟨a,xs,e1,e2,(hl _ _ e2).trans e3,e4,λ j x ds f1 f2=>Rp.wk (λ p o e q=>(hl p o e).symm▸q) (e5 j x ds f1 f2)⟩
section
variable{G:Gx}{U:List (V×D)}{ρ:En}{σ:L2.St}{H H':Hp}{lab lab':Lab}
theorem RR.up(R:RR K G U ρ σ H lab)(s:aV H H'):RR K G U ρ σ H' lab:=
 ⟨R.len,λ i x e=>(R.sl i x e).imp id λ⟨v,e1,e2⟩=>⟨v,e1,e2.up s⟩,R.old.trans s,R.new,λ q hq=>(R.tm q hq).up s⟩
def RR.relab(R:RR K G U ρ σ H lab)(hl:∀p o,H p=some o->lab' p=lab p)(hn:∀p,(lab' p).1≠0->G.H0 p=none):RR K G U ρ σ H lab':=
 ⟨R.len,λ i x e=>(R.sl i x e).imp id λ⟨v,e1,e2⟩=>⟨v,e1,e2.lab hl⟩,R.old,hn,λ q hq=>Rp.wk (λ p o e z=>by rw[hl p o e];exact z) (R.tm q hq)⟩
def RR.drop(R:RR K G (U'++U) ρ σ H lab):RR K G U ρ σ H lab:=⟨R.len,R.sl,R.old,R.new,λ z hz=>R.tm z (zA1 _ hz)⟩
def RR.put(R:RR K G U ρ σ H lab)(h:gB K H lab i v s):RR K G U (ρ.set i s) (σ.set i (some v)) H lab:=by
 refine⟨by rw[zBI,zBI,R.len],λ j x e=>?_,R.old,R.new,R.tm⟩;by_cases hj:i=j
 .subst hj
  have hi:i<ρ.length:=by
   have:=(zAO.mp e).1
   rwa [zBI]at this
  rw[zB6 hi]at e;cases e;exact .inr ⟨v,by rw[zB6 (by rw[R.len];exact hi)],h⟩
 .rw[zBH hj]at e
  rcases R.sl j x e with z|⟨u,e1,e2⟩
  .exact .inl z
  .exact .inr ⟨u,by rw[zBH hj];exact e1,e2⟩
def bQ(H:Hp)(n:Nat)(lab:Lab):Lab:=λ p=>match H p with
 |none=>(n,0)
 |some _=>lab p
def bA(h:H p=some o):bQ H n lab p=lab p:=by unfold bQ;rw[h]
def uK(h:H p=none):bQ H n lab p=(n,0):=by unfold bQ;rw[h]
def RR.fresh{P:Nat->Prop}(h1:P 1)(hm:∀k,inM m k->P k)(R:RR K G U ρ σ H lab)(s:aV H H')(r:Rp K (fpM m lab H) H' v d):
  RR K G U ρ σ H' (bQ H 1 lab)/\Rp K (λ p=>P (bQ H 1 lab p).1) H' v d:=by
 refine⟨(R.relab (λ p o e=>bA e) λ p hp=>?_).up s,Rp.wk (λ p o e z=>?_) r⟩
 .cases e:H p with
  |none=>exact R.old.free e
  |some o=>rw[bA e]at hp;exact R.new p hp
 .rcases z with z|z
  .rw[uK z];exact h1
  .cases e:H p with
   |none=>rw[uK e];exact h1
   |some o=>rw[bA e];exact hm _ z
def RR.freshO(i:Nat)(hm:∀k,inM m k->k=1\/k=i+2)(R:RR K G U ρ σ H lab)(s:aV H H')(r:Rp K (fpM m lab H) H' v d)(ht:aCq d=true->∃a,v= .ref a/\H a=none):
  ∃lab',RR K G U ρ σ H' lab'/\gB K H' lab' i v (.ow d):=by
 obtain⟨R',r'⟩:=R.fresh (P:=λ k=>k=1\/k=i+2) (.inl rfl) hm s r;cases hd:aCq d with
 |false=>exact⟨_,R',r',λ z=>absurd z (by simp[hd])⟩
 |true=>
  obtain⟨a,rfl,ha⟩:=ht hd;refine⟨λ p=>if p=a then(i+2,0)else bQ H 1 lab p,?_,Rp.wk (λ p o e z=>?_) r',λ _=>⟨a,rfl,by show(if a=a then((i+2,0):Nat×Nat)else bQ H 1 lab a).1=i+2;rw[if_pos rfl]⟩⟩
  .refine(R.relab (lab':=λ p=>if p=a then(i+2,0)else bQ H 1 lab p) (λ p o e=>?_) λ p hp=>?_).up s
   .rw[if_neg (λ z=>by subst z;rw[ha]at e;cases e),bA e]
   .by_cases z:p=a
    .subst z;exact R.old.free ha
    .rw[if_neg z]at hp;exact R'.new p hp
  .dsimp only
   by_cases q:p=a
   .rw[if_pos q];exact .inr rfl
   .rw[if_neg q];exact z
def aIL(h:gB K H lab i v (.oz d)):Rp K (λ p=>(lab p).1<=1\/(lab p).1=i+2) H v d:=by
 obtain⟨a,xs,ds,rfl,rfl,h1,h2,h3⟩:=h;exact .lst h1 (.inr h2) (h3.wk λ p o e z=>⟨.inl z,λ q=>by subst q;lia⟩)
end
structure Ct where
 ι:Type
 X:ι->Cx
 prog:zAU
 w:World
 K:zAA
 mg:Str->Option Value
 base:Heap
 k:Nat
 G:Gx
 cx:∀i,(X i).prog=prog/\(X i).w=w/\(X i).K=K/\(X i).mg=mg/\(X i).base=base
 calm:∀i,(X i).calm=true
 room:∀i,jC k (X i).A
 own:∀i,zHC (model (X i).prog (X i).w) (X i).A (X i).env (X i).xe
 pass:∀i,yf (CX1 (X i).prog (X i).w) (X i) G.E
 dOk:Bool
 dcx:dOk=true->∀i,jA (X i) G.E
def Ct.hK(C:Ct)(i:C.ι):(C.X i).K=C.K:=(C.cx i).2.2.1
def WR{α:Type}(G:Gx)(r:Rs α)(P:α->Prop):Prop:=match r with
 | .ok a=>P a
 | .ex c=>∀H',aV G.H0 H'->G.E (.ref (G.cl c)) none H'
 | .st=>False
theorem WR.bd(h:WR G (r.bd k) P):WR G r (λ a=>WR G (k a) P):=by
 cases r with
 |ok a=>exact h
 |ex c=>exact h
 |st=>exact h
def WR.imp(h:WR G r P)(f:∀a,r= .ok a->P a->P' a):WR G r P':=by
 cases r with
 |ok a=>exact f a rfl h
 |ex c=>exact h
 |st=>exact h
abbrev QE(K:zAA)(m:Mode)(lab:Lab)(H:Hp)(Q:VK):D->Prop:=λ d=>∀v H',aV H H'->Rp K (fpM m lab H) H' v d->Q v H'
abbrev QA(K:zAA)(m:Mode)(lab:Lab)(H:Hp)(Q:List V->Hp->Prop):List D->Prop:=λ ds=>∀vs H',aV H H'->Rps K (fpM m lab H) H' vs ds->Q vs H'
abbrev QT(H:Hp)(Q:Bool->Hp->Prop):Bool->Prop:=λ b=>∀H',aV H H'->Q b H'
def jR(K:zAA)(G:Gx)(m:Mode)(t:TE)(f:En->Rs D):Prop:=∀U σ H ρ lab (Q:VK),RR K G U ρ σ H lab->WR G (f ρ) (QE K m lab H Q)->t σ H Q
def aHa(K:zAA)(G:Gx)(m:Mode)(t:TA)(f:En->Rs (List D)):Prop:=∀U σ H ρ lab (Q:List V->Hp->Prop),RR K G U ρ σ H lab->WR G (f ρ) (QA K m lab H Q)->t σ H Q
def aDQ(K:zAA)(G:Gx)(t:TT)(f:En->Rs Bool):Prop:=∀U σ H ρ lab (Q:Bool->Hp->Prop),RR K G U ρ σ H lab->WR G (f ρ) (QT H Q)->t σ H Q
def SE(C:Ct)(m:Mode)(e:Expr)(f:En->Rs D):Prop:=∃t,(∀i,PE (C.X i) e t)/\jR C.K C.G m t f
def SA(C:Ct)(m:Mode)(es:List Expr)(f:En->Rs (List D)):Prop:=∃t,(∀i,PA (C.X i) es t)/\aHa C.K C.G m t f
def ST(C:Ct)(e:Expr)(f:En->Rs Bool):Prop:=∃t,(∀i,PT (C.X i) e t)/\aDQ C.K C.G t f
def SW(C:Ct)(e:Expr)(f:En->Rs Bool):Prop:=∃t,(∀i,PW (C.X i) e t)/\aDQ C.K C.G t f
def SW.st(h:SW C e f):ST C e f:=let⟨t,h1,h2⟩:=h;⟨t,λ i=>(h1 i).pt,h2⟩
def dC(i:Nat):En->Rs D:=λ ρ=>match ρ[i]? with
 |some (.sh d)=>.ok d
 |some (.nw d)=>.ok d
 |some (.ow d)=>.ok d
 |some (.oz d)=>.ok d
 |some (.o2 l)=>.ok (.lst (l.map .lst))
 |_=>.st
def aD(i:Nat):En->Rs D:=λ ρ=>match ρ[i]? with
 |some (.sh d)=>.ok d
 |some (.nw d)=>.ok d
 |_=>.st
def kE(i:Nat):En->Rs D:=λ ρ=>match ρ[i]? with
 |some (.nw d)=>.ok d
 |_=>.st
def rE(i:Nat):En->Rs D:=λ ρ=>match ρ[i]? with
 |some (.ow d)=>.ok d
 |some (.o2 l)=>.ok (.lst (l.map .lst))
 |_=>.st
def cD(d:D):En->Rs D:=λ _=>.ok d
def aE7{K:zAA}{H:Hp}{lab:Lab}{i:Nat}{v:V}{l:bS}(h:gB K H lab i v (.o2 l)):Rp K (λ p=>(lab p).1=i+2) H v (.lst (l.map .lst)):=by
 obtain⟨a,xs,rfl,ha,hla,hW,hin⟩:=h;refine .lst ha (by rw[hla]) ?_;have go:∀(xs:List V) (l:bS) (n:Nat),xs.length=l.length->0<n->(∀(j:Nat) x ds,xs[j]? =some x->l[j]? =some ds->Rp K (λ p=>lab p=(i+2,n+j)) H x (.lst ds))->Rps K (λ p=>(lab p).1=i+2/\p≠a) H xs (l.map .lst):=by
  intro xs;induction xs with
  |nil=>intro l n hl _ _;cases l with|nil=>exact .nil|cons _ _=>simp at hl
  |cons x xs ih=>
   intro l n hl hn h;cases l with
   |nil=>simp at hl
   |cons ds l=>
    refine .cons (Rp.wk (λ p o e z=>⟨by rw[z],λ e=>by rw[e,hla]at z;have z2:(0:Nat)=n+0:=congrArg zHd z;lia⟩) (h 0 x ds rfl rfl)) (ih l (n+1) (by simpa using hl) (by lia) λ j y es e1 e2=>?_);have z:=h (j+1) y es (by simpa using e1) (by simpa using e2);rw[show n+1+j=n+(j+1)by lia];exact z
 exact go xs l 1 hW (by lia) λ j x ds e1 e2=>by have z:=hin j x ds e1 e2;rw[show 1+j=j+1 by lia];exact z
section
variable{C:Ct}{pos:Pos}
def aBk(K:zAA)(G:Gx)(i:Nat):jR K G (some [0,1,i+2]) (m7 i) (dC i):=by
 intro U σ H ρ lab Q R W;unfold dC at W;cases e:ρ[i]? with
 |none=>rw[e]at W;exact W.elim
 |some s=>
  rw[e]at W;rcases R.sl i s e with rfl|⟨v,ev,hv⟩
  .exact zAH W
  .cases s with
   |no=>exact zAH W
   |sh d=>exact⟨v,ev,W v H (aV.refl H) (Rp.wk (λ p o e z=>.inr (by show(lab p).1∈[0,1,i+2];rcases(show(lab p).1=0\/(lab p).1=1 by lia)with q|q<;>rw[q]<;>simp)) hv)⟩
   |nw d=>exact⟨v,ev,W v H (aV.refl H) (Rp.wk (λ p o e z=>.inr (by show(lab p).1∈[0,1,i+2];rw[z];simp)) hv)⟩
   |ow d=>exact⟨v,ev,W v H (aV.refl H) (Rp.wk (λ p o e z=>.inr (by show(lab p).1∈[0,1,i+2];rcases z with q|q<;>rw[q]<;>simp)) hv.1)⟩
   |oz d=>exact⟨v,ev,W v H (aV.refl H) (Rp.wk (λ p o e z=>.inr (by show(lab p).1∈[0,1,i+2];rcases(show(lab p).1=0\/(lab p).1=1\/(lab p).1=i+2 by lia)with q|q|q<;>rw[q]<;>simp)) (aIL hv))⟩
   |o2 l=>exact⟨v,ev,W v H (aV.refl H) (Rp.wk (λ p o e z=>.inr (by show(lab p).1∈[0,1,i+2];rw[z];simp)) (aE7 hv))⟩
def aDg(K:zAA)(G:Gx)(i:Nat):jR K G (some [0,1]) (m7 i) (aD i):=by
 intro U σ H ρ lab Q R W;unfold aD at W;cases e:ρ[i]? with
 |none=>rw[e]at W;exact W.elim
 |some s=>
  rw[e]at W;rcases R.sl i s e with rfl|⟨v,ev,hv⟩
  .exact zAH W
  .cases s with
   |sh d=>exact⟨v,ev,W v H (aV.refl H) (Rp.wk (λ p o e z=>.inr (by show(lab p).1∈[0,1];rcases(show(lab p).1=0\/(lab p).1=1 by lia)with q|q<;>rw[q]<;>simp)) hv)⟩
   |nw d=>exact⟨v,ev,W v H (aV.refl H) (Rp.wk (λ p o e z=>.inr (by show(lab p).1∈[0,1];rw[z];simp)) hv)⟩
   |_=>exact zAH W
def aDi(K:zAA)(G:Gx)(i:Nat):jR K G (some [1]) (m7 i) (kE i):=by
 intro U σ H ρ lab Q R W;unfold kE at W;cases e:ρ[i]? with
 |none=>rw[e]at W;exact W.elim
 |some s=>
  rw[e]at W;rcases R.sl i s e with rfl|⟨v,ev,hv⟩
  .exact zAH W
  .cases s with
   |nw d=>exact⟨v,ev,W v H (aV.refl H) (Rp.wk (λ p o e z=>.inr (by show(lab p).1∈[1];rw[z];simp)) hv)⟩
   |_=>exact zAH W
def aDh(K:zAA)(G:Gx)(i:Nat):jR K G (some [1,i+2]) (m7 i) (rE i):=by
 intro U σ H ρ lab Q R W;unfold rE at W;cases e:ρ[i]? with
 |none=>rw[e]at W;exact W.elim
 |some s=>
  rw[e]at W;rcases R.sl i s e with rfl|⟨v,ev,hv⟩
  .exact zAH W
  .cases s with
   |ow d=>exact⟨v,ev,W v H (aV.refl H) (Rp.wk (λ p o e z=>.inr (by show(lab p).1∈[1,i+2];rcases z with q|q<;>rw[q]<;>simp)) hv.1)⟩
   |o2 l=>exact⟨v,ev,W v H (aV.refl H) (Rp.wk (λ p o e z=>.inr (by show(lab p).1∈[1,i+2];rw[z];simp)) (aE7 hv))⟩
   |_=>exact zAH W
def du(i:Nat)(hN:∀j,(C.X j).N[i]? =some x:=by intro _;rfl)(hv:∀j,Vis (C.X j).env.scope x:=by intro _;first|exact zB1 rfl|exact zBC (zB1 rfl)|exact zBC (zBC rfl))(hd:Nd x:=by decide)
  (hcd:(x==("__classdict__":Str))=false:=by decide):SE C (some [0,1,i+2]) (.Name x pos) (dC i):=⟨_,λ j=>eF (hN j) (hv j) hd hcd,aBk _ _ i⟩
def aA(i:Nat)(hN:∀j,(C.X j).N[i]? =some x:=by intro _;rfl)(hv:∀j,Vis (C.X j).env.scope x:=by intro _;first|exact zB1 rfl|exact zBC (zB1 rfl)|exact zBC (zBC rfl))(hd:Nd x:=by decide)
  (hcd:(x==("__classdict__":Str))=false:=by decide):SE C (some [0,1]) (.Name x pos) (aD i):=⟨_,λ j=>eF (hN j) (hv j) hd hcd,aDg _ _ i⟩
def gC(i:Nat)(hN:∀j,(C.X j).N[i]? =some x:=by intro _;rfl)(hv:∀j,Vis (C.X j).env.scope x:=by intro _;first|exact zB1 rfl|exact zBC (zB1 rfl)|exact zBC (zBC rfl))(hd:Nd x:=by decide)
  (hcd:(x==("__classdict__":Str))=false:=by decide):SE C (some [1]) (.Name x pos) (kE i):=⟨_,λ j=>eF (hN j) (hv j) hd hcd,aDi _ _ i⟩
def mH(i:Nat)(hN:∀j,(C.X j).N[i]? =some x:=by intro _;rfl)(hv:∀j,Vis (C.X j).env.scope x:=by intro _;first|exact zB1 rfl|exact zBC (zB1 rfl)|exact zBC (zBC rfl))(hd:Nd x:=by decide)
  (hcd:(x==("__classdict__":Str))=false:=by decide):SE C (some [1,i+2]) (.Name x pos) (rE i):=⟨_,λ j=>eF (hN j) (hv j) hd hcd,aDh _ _ i⟩
def aJ:SE C (some []) (.Constant (.int i) j pos) (cD (.int i)):=⟨_,λ _=>aEU,λ U σ H ρ lab Q R W=>W _ H (aV.refl H) (.int i)⟩
def qU:SE C (some []) (.Constant (.bool b) j pos) (cD (.bl b)):=⟨_,λ _=>aKo,λ U σ H ρ lab Q R W=>W _ H (aV.refl H) (.bl b)⟩
def aDn:SE C (some []) (.Constant .none j pos) (cD .non):=⟨_,λ _=>aJL,λ U σ H ρ lab Q R W=>W _ H (aV.refl H) .non⟩
def aDm:SE C (some []) (.Constant (.str x) j pos) (cD (.str x)):=⟨_,λ _=>aJI,λ U σ H ρ lab Q R W=>W _ H (aV.refl H) (.str x)⟩
def aGC(hm:C.mg x=some u)(r:RelV v u)(hd:∀A H,Rp C.K A H v d)(hdb:Nd x:=by decide)(hg:∀i,Gl (C.X i) x:=by intro _;rfl):SE C (some []) (.Name x pos) (cD d):=
 ⟨_,λ i=>aGY (hg i) (by rw[(C.cx i).2.2.2.1];exact hm) r hdb,λ U σ H ρ lab Q R W=>W _ H (aV.refl H) (hd _ _)⟩
def pA(d:D):Rs D:=if imm d=true then .ok d else .st
def aq(f:En->Rs D):En->Rs D:=λ ρ=>(f ρ).bd pA
def az(h:SE C m e f):SE C (some []) e (aq f):=by
 obtain⟨t,h1,h2⟩:=h;refine⟨t,h1,λ U σ H ρ lab Q R W=>h2 U σ H ρ lab Q R (W.bd.imp λ d _ w v H' s r=>?_)⟩;unfold pA at w;by_cases hd:imm d=true
 .rw[if_pos hd]at w
  exact w v H' s (r.imm hd)
 .rw[if_neg hd]at w
  exact zAH w
def aH:En->Rs (List D):=λ _=>.ok []
def aC(f:En->Rs D)(g:En->Rs (List D)):En->Rs (List D):=λ ρ=>(f ρ).bd λ d=>(g ρ).bd λ ds=>.ok (d::ds)
variable{m m1 m2:Mode}{e a b:Expr}{es:List Expr}{f fa fb:En->Rs D}{g:En->Rs (List D)}
def aF:SA C (some []) [] aH:=⟨_,λ _=>eN,λ U σ H ρ lab Q R W=>W _ H (aV.refl H) .nil⟩
def aB(h:SE C m1 e f)(hr:SA C m2 es g)(hs:∀i,zAW (e::es) (C.X i).env=(false,eval e (C.X i).env)::zAW es (C.X i).env:=by intro _;rfl):SA C (jn m1 m2) (e::es) (aC f g):=by
 obtain⟨t,h1,h2⟩:=h;obtain⟨u,k1,k2⟩:=hr;refine⟨_,λ i=>cH (h1 i) (k1 i) (hs i),λ U σ H ρ lab Q R W=>?_⟩;refine h2 U σ H ρ lab _ R (W.bd.imp λ d _ w x H1 s1 r1=>?_);refine k2 U σ H1 ρ lab _ (R.up s1) (w.bd.imp λ ds _ w xs H2 s2 r2=>?_);exact w (x::xs) H2 (s1.trans s2) (.cons (r1.mono s2 λ p o _ z=>aFQ z) (r2.wk λ p o _ z=>aFP (jW s1 z)))
def dI(g:En->Rs (List D)):En->Rs D:=λ ρ=>(g ρ).bd λ ds=>if ds.length<=zAR then .ok (.tup ds)else .st
def gJ(g:En->Rs (List D)):En->Rs D:=λ ρ=>(g ρ).bd λ ds=>if ds.length<=zAR then .ok (.lst ds)else .st
def cC{x1}(h:SA C m es g):SE C m (.Tuple es x1 pos) (dI g):=by
 obtain⟨t,h1,h2⟩:=h;refine⟨_,λ i=>aGW (h1 i),λ U σ H ρ lab Q R W=>h2 U σ H ρ lab _ R (W.bd.imp λ ds _ w xs H1 s1 r1=>?_)⟩;by_cases hz:ds.length<=zAR
 .rw[if_pos hz]at w
  exact⟨by rw[r1.length];exact hz,λ p H' s hp _=>w _ H' (s1.trans s) (.tup (SqT.of hp) (r1.up s))⟩
 .rw[if_neg hz]at w
  exact zAH w
def aAc(h:SA C m es g):SE C m (.List es pos) (gJ g):=by
 obtain⟨t,h1,h2⟩:=h;refine⟨_,λ i=>xV (h1 i),λ U σ H ρ lab Q R W=>h2 U σ H ρ lab _ R (W.bd.imp λ ds _ w xs H1 s1 r1=>?_)⟩;by_cases hz:ds.length<=zAR
 .rw[if_pos hz]at w
  exact⟨by rw[r1.length];exact hz,λ p H' s hp hn=>w _ H' (s1.trans s) (.lst hp (.inl (s1.free hn)) ((r1.wk λ q o e z=>⟨z,λ e'=>by subst e';rw[hn]at e;cases e⟩).up s))⟩
 .rw[if_neg hz]at w
  exact zAH w
def ww:SE C (some []) (.Dict [] [] pos) (cD (.dct [] [])):=
 ⟨_,λ _=>aEW,λ U σ H ρ lab Q R W p H' s hp hn=>W _ H' s (.dK (kvs:=[]) hp (.inl hn) .nil)⟩
def aLZ(H:Hp)(v:V)(d:D):Prop:=aCq d=true->∃a,v= .ref a/\H a=none
def aKU(K:zAA)(G:Gx)(m:Mode)(t:TE)(f:En->Rs D):Prop:=∀U σ H ρ lab (Q:VK),RR K G U ρ σ H lab->WR G (f ρ) (λ d=>∀v H',aV H H'->Rp K (fpM m lab H) H' v d->aLZ H v d->Q v H')->t σ H Q
def SF(C:Ct)(m:Mode)(e:Expr)(f:En->Rs D):Prop:=∃t,(∀i,PE (C.X i) e t)/\aKU C.K C.G m t f
def jR.toF{K:zAA}{G:Gx}{t:TE}{f:En->Rs D}(h:jR K G (some []) t f):aKU K G (some []) t f:=λ U σ H ρ lab Q R W=>
 h U σ H ρ lab Q R (W.imp λ d _ w v H' s r=>w v H' s r λ hm=>by
  obtain⟨a,rfl⟩:=aIk r hm;obtain⟨o,_,_,z⟩:=aDx r hm;rcases z with z|z
  .exact⟨a,rfl,z⟩
  .cases z)
def aFt(h:SE C (some []) e f):SF C (some []) e f:=let⟨t,h1,h2⟩:=h;⟨t,h1,h2.toF⟩
def km(h:SA C m es g):SF C m (.List es pos) (gJ g):=by
 obtain⟨t,h1,h2⟩:=h;refine⟨_,λ i=>xV (h1 i),λ U σ H ρ lab Q R W=>h2 U σ H ρ lab _ R (W.bd.imp λ ds _ w xs H1 s1 r1=>?_)⟩;by_cases hz:ds.length<=zAR
 .rw[if_pos hz]at w
  exact⟨by rw[r1.length];exact hz,λ p H' s hp hn=>w _ H' (s1.trans s) (.lst hp (.inl (s1.free hn)) ((r1.wk λ q o e z=>⟨z,λ e'=>by subst e';rw[hn]at e;cases e⟩).up s)) λ _=>⟨p,rfl,s1.free hn⟩⟩
 .rw[if_neg hz]at w
  exact zAH w
def OpS(K:zAA)(r:R2)(fd:D->D->Rs D):Prop:=∀(A:Addr->Prop) x y d e H (Q:VK) z,Rp K A H x d->Rp K A H y e->fd d e= .ok z->(∀v H',aV H H'->Rp K (λ p=>H p=none\/A p) H' v z->Q v H')->r x y H Q
def pN(K:zAA)(r:List V->Hp->VK->Prop)(fd:List D->Rs D):Prop:=∀(A:Addr->Prop) xs ds H (Q:VK) z,Rps K A H xs ds->fd ds= .ok z->(∀v H',aV H H'->Rp K (λ p=>H p=none\/A p) H' v z->Q v H')->r xs H Q
def okD(r:Rs D):Rs D:=match r with
 | .ok d=>.ok d
 |_=>.st
def op2(fd:D->D->Rs D)(fa fb:En->Rs D):En->Rs D:=λ ρ=>(fa ρ).bd λ x=>(fb ρ).bd λ y=>okD (fd x y)
def op1(fd:D->Rs D)(fa:En->Rs D):En->Rs D:=λ ρ=>(fa ρ).bd λ x=>okD (fd x)
def opA(fd:List D->Rs D)(fa:En->Rs (List D)):En->Rs D:=λ ρ=>(fa ρ).bd λ x=>okD (fd x)
theorem WR.okD(h:WR G (okD r) P):∃z,r= .ok z/\P z:=by
 cases r with
 |ok z=>exact⟨z,rfl,h⟩
 |ex c=>exact zAH h
 |st=>exact zAH h
def w6{K:zAA}{G:Gx}{r:R2}{ta tb:TE}{fd:D->D->Rs D}(hs:OpS K r fd)(h1:jR K G m1 ta fa)(h2:jR K G m2 tb fb):jR K G (jn m1 m2) (tOp r ta tb) (op2 fd fa fb):=by
 intro U σ H ρ lab Q R W;refine h1 U σ H ρ lab _ R (W.bd.imp λ d _ w x H1 s1 r1=>?_);refine h2 U σ H1 ρ lab _ (R.up s1) (w.bd.imp λ e _ w y H2 s2 r2=>?_);obtain⟨z,ez,w⟩:=w.okD;refine hs (fpM (jn m1 m2) lab H) x y d e H2 Q z (r1.mono s2 λ p o _ q=>aFQ q) (r2.wk λ p o _ q=>aFP (jW s1 q)) ez λ v H' s r=>w v H' ((s1.trans s2).trans s) (r.wk λ p o _ q=>?_)
 rcases q with q|q
 .exact .inl ((s1.trans s2).free q)
 .exact q
def aBl{K:zAA}{G:Gx}{r:List V->Hp->VK->Prop}{ta:TA}{fd:List D->Rs D}(hs:pN K r fd)(h1:aHa K G m ta g):jR K G m (tCB r ta) (opA fd g):=by
 intro U σ H ρ lab Q R W;refine h1 U σ H ρ lab _ R (W.bd.imp λ d _ w x H1 s1 r1=>?_);obtain⟨z,ez,w⟩:=w.okD;refine hs (fpM m lab H) x d H1 Q z r1 ez λ v H' s r=>w v H' (s1.trans s) (r.wk λ p o _ q=>?_)
 rcases q with q|q
 .exact .inl (s1.free q)
 .exact q
def fP(h:SE C m e f)(hi:∀ρ d,f ρ= .ok d->imm d=true):SE C (some []) e f:=by
 obtain⟨t,h1,h2⟩:=h;exact⟨t,h1,λ U σ H ρ lab Q R W=>h2 U σ H ρ lab Q R (W.imp λ d ed w v H' s r=>w v H' s (r.imm (hi ρ d ed)))⟩
def jo(h:∀x y z,fd x y= .ok z->imm z=true)(e:op2 fd fa fb ρ= .ok d):imm d=true:=by
 obtain⟨x,_,e⟩:=dj e;obtain⟨y,_,e⟩:=dj e;unfold okD at e;split at e
 .rename_i z hz
  cases e;exact h x y _ hz
 .cases e
def mR(h:∀x z,fd x= .ok z->imm z=true)(e:opA fd g ρ= .ok d):imm d=true:=by
 obtain⟨x,_,e⟩:=dj e;unfold okD at e;split at e
 .rename_i z hz
  cases e;exact h x _ hz
 .cases e
def tK(ro:∀i,OpR (C.X i) (zBd op) r)(hs:OpS C.K r fd)(ha:SE C m1 a fa)(hb:SE C m2 b fb):SE C (jn m1 m2) (.BinOp a op b pos) (op2 fd fa fb):=by
 obtain⟨t,h1,h2⟩:=ha;obtain⟨u,k1,k2⟩:=hb;exact⟨_,λ i=>aKm (ro i) (h1 i) (k1 i),w6 hs h2 k2⟩
def aAe(ro:∀i,OpR (C.X i) (zAw op) r)(hs:OpS C.K r fd)(ha:SE C m1 a fa)(hb:SE C m2 b fb)(hm:zCT op b=false:=by first|exact aE8 _|(with_unfolding_all rfl)):
  SE C (jn m1 m2) (.Compare a [op] [b] pos) (op2 fd fa fb):=by
 obtain⟨t,h1,h2⟩:=ha;obtain⟨u,k1,k2⟩:=hb;exact⟨_,λ i=>aG2 (ro i) (h1 i) (k1 i) hm,w6 hs h2 k2⟩
variable{p:Pos}{x:Str}{id T:String}
def lB(ro:∀i,cR (C.X i) (.builtin id) r)(hs:pN C.K r fd)(hg:∀i,Gl (C.X i) x)(hm:C.mg x=none)(hv:zAq x=some (.builtin id))(ha:SA C m (e::es) g)
  (hn:x≠"__name__":=by decide)(hdb:Nd x:=by decide)(he:∀i,zAW (e::es) (C.X i).env=(false,eval e (C.X i).env)::zAW es (C.X i).env:=by intro _;rfl)
  (hpl:∀i,(zBp pos (zAW es (C.X i).env)).any (·.1)=false:=by intro _;rfl):SE C m (.Call (.Name x p) (e::es) [] pos) (opA fd g):=by
 obtain⟨t,h1,h2⟩:=ha;exact⟨_,λ i=>lH (ro i) (hg i) (by rw[(C.cx i).2.2.2.1];exact hm) hv (h1 i) hn hdb (he i) (hpl i),aBl hs h2⟩
def zE(ro:∀i,cR (C.X i) (.type T) r)(hs:pN C.K r fd)(hg:∀i,Gl (C.X i) x)(hm:C.mg x=none)(hv:zAq x=some (.type T))(ha:SA C m (e::es) g)
  (hn:x≠"__name__":=by decide)(hdb:Nd x:=by decide)(he:∀i,zAW (e::es) (C.X i).env=(false,eval e (C.X i).env)::zAW es (C.X i).env:=by intro _;rfl)
  (hpl:∀i,(zBp pos (zAW es (C.X i).env)).any (·.1)=false:=by intro _;rfl):SE C m (.Call (.Name x p) (e::es) [] pos) (opA fd g):=by
 obtain⟨t,h1,h2⟩:=ha;exact⟨_,λ i=>iD (ro i) (hg i) (by rw[(C.cx i).2.2.2.1];exact hm) hv (h1 i) hn hdb (he i) (hpl i),aBl hs h2⟩
def vP(f g:En->Rs D):En->Rs D:=λ ρ=>(f ρ).bd λ d=>match d with
 | .bl true=>g ρ
 | .bl false=>.ok (.bl false)
 |_=>.st
def orD(f g:En->Rs D):En->Rs D:=λ ρ=>(f ρ).bd λ d=>match d with
 | .bl false=>g ρ
 | .bl true=>.ok (.bl true)
 |_=>.st
def aJ7:D->Rs D
 | .bl b=>.ok (.bl (!b))
 |_=>.st
variable{rest:List Expr}
def lA{op}(h:SE C m a fa):SE C m (.BoolOp op [a] pos) fa:=by
 obtain⟨t,h1,h2⟩:=h;exact⟨_,λ i=>aJJ (h1 i),h2⟩
def lC(ha:SE C m1 a fa)(hb:SE C m2 (.BoolOp .And (b::rest) pos) fb):SE C m2 (.BoolOp .And (a::b::rest) pos) (vP fa fb):=by
 obtain⟨t,h1,h2⟩:=ha;obtain⟨u,k1,k2⟩:=hb;refine⟨_,λ i=>aJN (h1 i) (k1 i),λ U σ H ρ lab Q R W=>h2 U σ H ρ lab _ R (W.bd.imp λ d _ w x H1 s1 r1=>?_)⟩;cases r1 with
 |bl c=>
  refine⟨c,rfl,?_⟩;cases c with
  |true=>
   rw[if_pos rfl];exact k2 U σ H1 ρ lab Q (R.up s1) (w.imp λ z _ w v H' s r=>w v H' (s1.trans s) (r.wk λ p o _ q=>jW s1 q))
  |false=>
   rw[if_neg zA6];exact w _ H1 s1 (.bl false)
 |_=>exact zAH w
def aK8(ha:SE C m1 a fa)(hb:SE C m2 (.BoolOp .Or (b::rest) pos) fb):SE C m2 (.BoolOp .Or (a::b::rest) pos) (orD fa fb):=by
 obtain⟨t,h1,h2⟩:=ha;obtain⟨u,k1,k2⟩:=hb;refine⟨_,λ i=>aKl (h1 i) (k1 i),λ U σ H ρ lab Q R W=>h2 U σ H ρ lab _ R (W.bd.imp λ d _ w x H1 s1 r1=>?_)⟩;cases r1 with
 |bl c=>
  refine⟨c,rfl,?_⟩;cases c with
  |false=>
   rw[if_neg zA6];exact k2 U σ H1 ρ lab Q (R.up s1) (w.imp λ z _ w v H' s r=>w v H' (s1.trans s) (r.wk λ p o _ q=>jW s1 q))
  |true=>
   rw[if_pos rfl];exact w _ H1 s1 (.bl true)
 |_=>exact zAH w
def aIc(ha:SE C m a fa):SE C (some []) (.UnaryOp .Not a pos) (op1 aJ7 fa):=by
 obtain⟨t,h1,h2⟩:=ha;refine⟨_,λ i=>aJK (h1 i),λ U σ H ρ lab Q R W=>h2 U σ H ρ lab _ R (W.bd.imp λ d _ w x H1 s1 r1=>?_)⟩;obtain⟨z,ez,w⟩:=w.okD;cases r1 with
 |bl c=>cases ez;exact⟨c,rfl,w _ H1 s1 (.bl _)⟩
 |_=>cases ez
def ifD(c:En->Rs Bool)(f g:En->Rs D):En->Rs D:=λ ρ=>(c ρ).bd λ k=>if k=true then f ρ else g ρ
def aKb(hc:ST C c fc)(ha:SE C m1 a fa)(hb:SE C m2 b fb):SE C (jn m1 m2) (.IfExp c a b pos) (ifD fc fa fb):=by
 obtain⟨tc,c1,c2⟩:=hc;obtain⟨t,h1,h2⟩:=ha;obtain⟨u,k1,k2⟩:=hb;refine⟨_,λ i=>aEV (c1 i) (h1 i) (k1 i),λ U σ H ρ lab Q R W=>c2 U σ H ρ lab _ R (W.bd.imp λ k _ w H1 s1=>?_)⟩;cases k with
 |true=>
  rw[if_pos rfl]at w ⊢;exact h2 U σ H1 ρ lab Q (R.up s1) (w.imp λ z _ w v H' s r=>w v H' (s1.trans s) (r.wk λ p o _ q=>aFQ (jW s1 q)))
 |false=>
  rw[if_neg zA6]at w ⊢;exact k2 U σ H1 ρ lab Q (R.up s1) (w.imp λ z _ w v H' s r=>w v H' (s1.trans s) (r.wk λ p o _ q=>aFP (jW s1 q)))
def chD(fd fd':D->D->Rs D)(fa fb fc:En->Rs D):En->Rs D:=λ ρ=>(fa ρ).bd λ x=>(fb ρ).bd λ y=>(okD (fd x y)).bd λ z=>match z with
 | .bl true=>(fc ρ).bd λ w=>okD (fd' y w)
 | .bl false=>.ok (.bl false)
 |_=>.st
def aCd{K:zAA}{G:Gx}{r r':R2}{ta tb tc:TE}{fd fd':D->D->Rs D}{fc:En->Rs D}{m3:Mode}(hs:OpS K r fd)(hs':OpS K r' fd')(hi:∀x y z,fd' x y= .ok z->imm z=true)(h1:jR K G m1 ta fa)(h2:jR K G m2 tb fb)(h3:jR K G m3 tc fc):
  jR K G (some []) (aD5 r r' ta tb tc) (chD fd fd' fa fb fc):=by
 intro U σ H ρ lab Q R W;refine h1 U σ H ρ lab _ R (W.bd.imp λ d _ w x H1 s1 r1=>?_);refine h2 U σ H1 ρ lab _ (R.up s1) (w.bd.imp λ e _ w y H2 s2 r2=>?_);obtain⟨z,ez,w⟩:=w.bd.okD;refine hs (λ _=>True) x y d e H2 _ z (r1.mono s2 λ p o _ q=>trivial) (r2.wk λ p o _ q=>trivial) ez λ v H3 s3 r3=>?_
 cases r3 with
 |bl c=>
  refine⟨c,rfl,?_⟩;cases c with
  |false=>
   rw[if_neg zA6];exact w _ H3 ((s1.trans s2).trans s3) (.bl false)
  |true=>
   rw[if_pos rfl];refine h3 U σ H3 ρ lab _ ((R.up s1).up (s2.trans s3)) (w.bd.imp λ e' _ w y' H4 s4 r4=>?_);obtain⟨z',ez',w⟩:=w.okD;exact hs' (λ _=>True) y y' e e' H4 Q z' (r2.mono (s3.trans s4) λ p o _ q=>trivial) (r4.wk λ p o _ q=>trivial) ez' λ v H5 s5 r5=>w v H5 ((((s1.trans s2).trans s3).trans s4).trans s5) (r5.imm (hi _ _ _ ez'))
 |_=>exact zAH w
def zB(ro:∀i,OpR (C.X i) (zAw op) r)(hs:OpS C.K r fd)(ro':∀i,OpR (C.X i) (zAw op') r')(hs':OpS C.K r' fd')(hi:∀x y z,fd' x y= .ok z->imm z=true)
  (ha:SE C m1 a fa)(hb:SE C m2 b fb)(hc:SE C m3 c fc)(hm:zHI [op,op'] [b,c]=false:=by with_unfolding_all rfl):SE C (some []) (.Compare a [op,op'] [b,c] pos) (chD fd fd' fa fb fc):=by
 obtain⟨t,h1,h2⟩:=ha;obtain⟨u,k1,k2⟩:=hb;obtain⟨v,l1,l2⟩:=hc;exact⟨_,λ i=>aEY (ro i) (ro' i) (h1 i) (k1 i) (l1 i) hm,aCd hs hs' hi h2 k2 l2⟩
def aI2:D->Rs Bool
 | .non=>.ok false
 | .bl b=>.ok b
 | .int i=>.ok (i !=0)
 | .tup l=>.ok (!l.isEmpty)
 | .lst l=>.ok (!l.isEmpty)
 |_=>.st
def blD:D->Rs Bool
 | .bl b=>.ok b
 |_=>.st
def tst(f:En->Rs D):En->Rs Bool:=λ ρ=>(f ρ).bd aI2
def tsb(f:En->Rs D):En->Rs Bool:=λ ρ=>(f ρ).bd blD
def uR{K:zAA}{A:Addr->Prop}{H:Hp}{xs:List V}{ds:List D}(r:Rps K A H xs ds):(!ds.isEmpty)= !xs.isEmpty:=by cases r<;>rfl
def nQ(ha:SE C m a fa)(he:∀i whole,isTrue a (C.X i).env whole=(do let v <-whole;zH3 a.pos;zD5 [v] (truthy v)):=by intro _ _;rfl):ST C a (tst fa):=by
 obtain⟨t,h1,h2⟩:=ha;refine⟨λ σ H Q=>t σ H λ x H'=>∃k,aKR C.K x H' k/\Q k H',λ i=>by rw[<-C.hK i];exact aEK (h1 i) (he i),λ U σ H ρ lab Q R W=>h2 U σ H ρ lab _ R (W.bd.imp λ d _ w x H1 s1 r1=>?_)⟩;cases r1 with
 |non=>exact⟨false,rfl,w H1 s1⟩
 |bl b=>exact⟨b,rfl,w H1 s1⟩
 |int i=>exact⟨i !=0,rfl,w H1 s1⟩
 |tup h r=>exact⟨_,.inr (.inl ⟨_,h,rfl⟩),by rw[<-uR r];exact w H1 s1⟩
 |lst h m r=>exact⟨_,.inl ⟨_,SqL.of h,rfl⟩,by rw[<-uR r];exact w H1 s1⟩
 |_=>exact zAH w
def aFs{K:zAA}{G:Gx}{t:TE}{f:En->Rs D}(h:jR K G m t f):aDQ K G (aHh t) (tsb f):=λ U σ H ρ lab Q R W=>h U σ H ρ lab _ R (W.bd.imp λ d _ w x H1 s1 r1=>by
 cases r1 with
 |bl b=>exact⟨b,rfl,w H1 s1⟩
 |_=>exact zAH w)
def kh(ro:∀i,OpR (C.X i) (zAw op) r)(hs:OpS C.K r fd)(ha:SE C m1 a fa)(hb:SE C m2 b fb)(hm:zCT op b=false:=by first|exact aE8 _|(with_unfolding_all rfl)):
  ST C (.Compare a [op] [b] pos) (tsb (op2 fd fa fb)):=by
 obtain⟨t,h1,h2⟩:=ha;obtain⟨u,k1,k2⟩:=hb;exact⟨_,λ i=>aGR (ro i) (h1 i) (k1 i) hm,aFs (w6 hs h2 k2)⟩
variable{ga gb:En->Rs Bool}
def aH8(f g:En->Rs Bool):En->Rs Bool:=λ ρ=>(f ρ).bd λ k=>if k=true then g ρ else .ok false
def orT(f g:En->Rs Bool):En->Rs Bool:=λ ρ=>(f ρ).bd λ k=>if k=true then .ok true else g ρ
def uI(f:En->Rs Bool):En->Rs Bool:=λ ρ=>(f ρ).bd λ k=>.ok (!k)
def aFn(ha:ST C a ga):SW C (.BoolOp .And [a] pos) ga:=let⟨t,h1,h2⟩:=ha;⟨t,λ i=>aGP (h1 i),h2⟩
def wV(ha:ST C a ga):SW C (.BoolOp .Or [a] pos) ga:=let⟨t,h1,h2⟩:=ha;⟨t,λ i=>aIu (h1 i),h2⟩
def aD6(ha:ST C a ga)(hb:SW C (.BoolOp .And (b::rest) pos) gb):SW C (.BoolOp .And (a::b::rest) pos) (aH8 ga gb):=by
 obtain⟨t,h1,h2⟩:=ha;obtain⟨u,k1,k2⟩:=hb;refine⟨_,λ i=>aIv (h1 i) (k1 i),λ U σ H ρ lab Q R W=>h2 U σ H ρ lab _ R (W.bd.imp λ k _ w H1 s1=>?_)⟩;cases k with
 |true=>
  rw[if_pos rfl]at w ⊢;exact k2 U σ H1 ρ lab Q (R.up s1) (w.imp λ z _ w H' s=>w H' (s1.trans s))
 |false=>
  rw[if_neg zA6]at w ⊢;exact w H1 s1
def aBc(ha:ST C a ga)(hb:SW C (.BoolOp .Or (b::rest) pos) gb):SW C (.BoolOp .Or (a::b::rest) pos) (orT ga gb):=by
 obtain⟨t,h1,h2⟩:=ha;obtain⟨u,k1,k2⟩:=hb;refine⟨_,λ i=>aKj (h1 i) (k1 i),λ U σ H ρ lab Q R W=>h2 U σ H ρ lab _ R (W.bd.imp λ k _ w H1 s1=>?_)⟩;cases k with
 |false=>
  rw[if_neg zA6]at w ⊢;exact k2 U σ H1 ρ lab Q (R.up s1) (w.imp λ z _ w H' s=>w H' (s1.trans s))
 |true=>
  rw[if_pos rfl]at w ⊢;exact w H1 s1
def nR(ha:ST C a ga):ST C (.UnaryOp .Not a pos) (uI ga):=by
 obtain⟨t,h1,h2⟩:=ha;exact⟨_,λ i=>aIx (h1 i),λ U σ H ρ lab Q R W=>h2 U σ H ρ lab _ R (W.bd.imp λ k _ w H1 s1=>w H1 s1)⟩
end
inductive Ou where
 |nx (ρ:En)|rt (d:D)|bk (ρ:En)|ct (ρ:En)|ex (c:Str)|st
noncomputable def Rs.bo{α:Type}:Rs α->(α->Ou)->Ou
 | .ok a,f=>f a
 | .ex c,_=>.ex c
 | .st,_=>.st
@[simp] def bF(a:α)(f:α->Ou):(Rs.ok a).bo f=f a:=aN rfl
noncomputable def Ou.sq:Ou->(En->Ou)->Ou
 | .nx ρ,f=>f ρ
 |o,_=>o
@[simp] def aU(ρ:En)(f:En->Ou):(Ou.nx ρ).sq f=f ρ:=aN rfl
@[simp] def sq_rt(d:D)(f:En->Ou):(Ou.rt d).sq f= .rt d:=aN rfl
def WS(K:zAA)(G:Gx)(U:List (V×D))(o:Ou)(De:Ends):Prop:=match o with
 | .nx ρ=>∀σ H lab,RR K G U ρ σ H lab->De.nx σ H
 | .bk ρ=>∀σ H lab,RR K G U ρ σ H lab->De.bk σ H
 | .ct ρ=>∀σ H lab,RR K G U ρ σ H lab->De.ct σ H
 | .rt d=>∀v H,aV G.H0 H->Rp K (λ p=>G.H0 p=none) H v d->De.rt v H
 | .ex c=>∀H',aV G.H0 H'->G.E (.ref (G.cl c)) none H'
 | .st=>False
theorem WS.bo{K:zAA}(h:WS K G U (r.bo k) De):WR G r (λ a=>WS K G U (k a) De):=by
 cases r with
 |ok a=>exact h
 |ex c=>exact h
 |st=>exact h
def aLP(K:zAA)(G:Gx)(t:TS)(f:En->Ou):Prop:=∀U σ H ρ lab (De:Ends),RR K G U ρ σ H lab->WS K G U (f ρ) De->t De σ H
def SS(C:Ct)(s:Stmt)(f:En->Ou):Prop:=∃t,(∀i,PS (C.X i) s t)/\aLP C.K C.G t f
def SSs(C:Ct)(s:List Stmt)(f:En->Ou):Prop:=∃t,(∀i,PSs (C.X i) s t)/\aLP C.K C.G t f
section
variable{C:Ct}{pos:Pos}{s:Stmt}{ss:List Stmt}{f g:En->Ou}{e:Expr}{m:Mode}{fe:En->Rs D}
def bj:SSs C [] .nx:=⟨_,λ _=>aBw,λ U σ H ρ lab De R W=>W σ H lab R⟩
def aZ(f g:En->Ou):En->Ou:=λ ρ=>(f ρ).sq g
def aL(h:SS C s f):SSs C [s] f:=let⟨t,h1,h2⟩:=h;⟨t,λ i=>aBv (h1 i),h2⟩
def aG(h:SS C s f)(k:SSs C ss g):SSs C (s::ss) (aZ f g):=by
 obtain⟨t,h1,h2⟩:=h;obtain⟨u,k1,k2⟩:=k;refine⟨_,λ i=>zT (h1 i) (k1 i),λ U σ H ρ lab De R W=>h2 U σ H ρ lab _ R ?_⟩;unfold aZ at W;cases h:f ρ with
 |nx ρ'=>rw[h]at W;exact λ σ' H' lab' R'=>k2 U σ' H' ρ' lab' De R' W
 |rt d=>rw[h]at W;exact W
 |bk ρ'=>rw[h]at W;exact W
 |ct ρ'=>rw[h]at W;exact W
 |ex c=>rw[h]at W;exact W
 |st=>rw[h]at W;exact W
def frz(i:Nat)(ρ:En):En:=match ρ[i]? with
 |some (.ow d)=>ρ.set i (.nw d)
 |some (.o2 l)=>ρ.set i (.nw (.lst (l.map .lst)))
 |_=>ρ
def aKw:Mode->Bool
 |some L=>L.all (·!=0)
 |none=>false
def retS(fe:En->Rs D):En->Ou:=λ ρ=>(fe ρ).bo .rt
def bG(he:SE C m e fe)(hm:aKw m=true:=by rfl):SS C (.Return (some e) pos) (retS fe):=by
 obtain⟨t,h1,h2⟩:=he;refine⟨_,λ i=>aIy (h1 i),λ U σ H ρ lab De R W=>h2 U σ H ρ lab _ R (W.bo.imp λ d _ w v H' s r=>w v H' (R.old.trans s) (r.wk λ p o _ z=>?_))⟩;rcases z with z|z
 .exact R.old.free z
 .cases m with
  |none=>cases hm
  |some L=>
   refine R.new p λ e0=>?_
   have:=zA7.mp hm _ z
   rw[e0]at this;simp at this
def uq(fe:En->Rs D):En->Ou:=λ ρ=>(fe ρ).bo λ _=>.nx ρ
def aBi(he:SE C m e fe)(hs:∀i,zBl e none pos.line (C.X i).env=pure false:=by intro _;rfl):SS C (.Expr e pos) (uq fe):=by
 obtain⟨t,h1,h2⟩:=he;exact⟨_,λ i=>jk (h1 i) (hs i),λ U σ H ρ lab De R W=>h2 U σ H ρ lab _ R (W.bo.imp λ d _ w v H' s r=>w σ H' lab (R.up s))⟩
def ifS(c:En->Rs Bool)(f g:En->Ou):En->Ou:=λ ρ=>(c ρ).bo λ k=>if k=true then f ρ else g ρ
def eX{a b:List Stmt}(hc:ST C c fc)(ha:SSs C a f)(hb:SSs C b g):SS C (.If c a b pos) (ifS fc f g):=by
 obtain⟨tc,c1,c2⟩:=hc;obtain⟨t,h1,h2⟩:=ha;obtain⟨u,k1,k2⟩:=hb;refine⟨_,λ i=>aIG (c1 i) (h1 i) (k1 i),λ U σ H ρ lab De R W=>c2 U σ H ρ lab _ R (W.bo.imp λ k _ w H1 s1=>?_)⟩;cases k with
 |true=>rw[if_pos rfl]at w ⊢;exact h2 U σ H1 ρ lab De (R.up s1) w
 |false=>rw[if_neg zA6]at w ⊢;exact k2 U σ H1 ρ lab De (R.up s1) w
def SV(C:Ct)(i:Nat)(s:Stmt)(m:Mode)(f:En->Rs D):Prop:=∃t,(∀j,PS (C.X j) s (aA6 t (qj i)))/\jR C.K C.G m t f
def fG(he:SE C m e fe)(hN:∀j,(C.X j).N[i]? =some x:=by intro _;rfl)(hx:∀j,Loc (C.X j).env.scope x:=by intro _;first|exact zB1 rfl|exact zBC rfl)(hs:∀j,zBl e (some (.Name x pos')) pos.line (C.X j).env=pure false:=by intro _;rfl)(hf:∀j,(C.X j).fn x=true\/(C.X j).env.scope.names.lookup x=some .local:=by intro _;first|exact .inl rfl|exact .inr rfl)(nd:∀j,(C.X j).N.Nodup:=by intro _;assumption):
  SV C i (.Assign [.Name x pos'] e pos) m fe:=by
 obtain⟨t,h1,h2⟩:=he;exact⟨t,λ j=>aEM (nd j) (hN j) (hx j) (h1 j) (hs j) (hf j),h2⟩
def SVF(C:Ct)(i:Nat)(s:Stmt)(m:Mode)(f:En->Rs D):Prop:=∃t,(∀j,PS (C.X j) s (aA6 t (qj i)))/\aKU C.K C.G m t f
def jw(he:SF C m e fe)(hN:∀j,(C.X j).N[i]? =some x:=by intro _;rfl)(hx:∀j,Loc (C.X j).env.scope x:=by intro _;first|exact zB1 rfl|exact zBC rfl)(hs:∀j,zBl e (some (.Name x pos')) pos.line (C.X j).env=pure false:=by intro _;rfl)(hf:∀j,(C.X j).fn x=true\/(C.X j).env.scope.names.lookup x=some .local:=by intro _;first|exact .inl rfl|exact .inr rfl)(nd:∀j,(C.X j).N.Nodup:=by intro _;assumption):
  SVF C i (.Assign [.Name x pos'] e pos) m fe:=by
 obtain⟨t,h1,h2⟩:=he;exact⟨t,λ j=>aEM (nd j) (hN j) (hx j) (h1 j) (hs j) (hf j),h2⟩
def aHm(h:SV C i s (some []) fe):SVF C i s (some []) fe:=let⟨t,h1,h2⟩:=h;⟨t,h1,h2.toF⟩
def aCC(P:Nat->Bool):Mode->Bool
 |some L=>L.all P
 |none=>false
def jJ(h:aCC P m=true):∀k,inM m k->P k=true:=by
 intro k hk;cases m with
 |none=>cases h
 |some L=>exact zA7.mp h k hk
abbrev okS:Mode->Bool:=aCC λ k=>decide (k<=1)
abbrev okN:Mode->Bool:=aCC λ k=>k==1
abbrev okO(i:Nat):Mode->Bool:=aCC λ k=>k==1||k==i+2
def cT(i:Nat)(fe:En->Rs D):En->Ou:=λ ρ=>(fe ρ).bo λ d=>.nx (ρ.set i (.sh d))
def oY(i:Nat)(fe:En->Rs D):En->Ou:=λ ρ=>(fe ρ).bo λ d=>.nx (ρ.set i (.nw d))
def di(i:Nat)(fe:En->Rs D):En->Ou:=λ ρ=>(fe ρ).bo λ d=>.nx (ρ.set i (.ow d))
def RR.shared{K:zAA}(hm:okS m=true)(R:RR K G U ρ σ H lab)(s:aV H H')(r:Rp K (fpM m lab H) H' v d):
  RR K G U ρ σ H' (bQ H 1 lab)/\Rp K (λ p=>(bQ H 1 lab p).1<=1) H' v d:=R.fresh (P:=λ k=>k<=1) (by decide) (λ k hk=>of_decide_eq_true (jJ hm k hk)) s r
def bh{i:Nat}(h:SV C i s m fe)(hm:okS m=true:=by rfl):SS C s (cT i fe):=by
 obtain⟨t,h1,h2⟩:=h;refine⟨_,h1,λ U σ H ρ lab De R W=>h2 U σ H ρ lab _ R (W.bo.imp λ d _ w v H' s r=>?_)⟩;obtain⟨R',r'⟩:=R.shared hm s r;exact w _ _ _ (R'.put (s:=.sh d) r')
def mG(h:SV C i s m fe)(hm:okN m=true:=by rfl):SS C s (oY i fe):=by
 obtain⟨t,h1,h2⟩:=h;refine⟨_,h1,λ U σ H ρ lab De R W=>h2 U σ H ρ lab _ R (W.bo.imp λ d _ w v H' s r=>?_)⟩;obtain⟨R',r'⟩:=R.fresh (P:=λ k=>k=1) rfl (λ k hk=>beq_iff_eq.mp (jJ hm k hk)) s r;exact w _ _ _ (R'.put (s:=.nw d) r')
def dH(h:SVF C i s m fe)(hm:okO i m=true:=by rfl):SS C s (di i fe):=by
 obtain⟨t,h1,h2⟩:=h;refine⟨_,h1,λ U σ H ρ lab De R W=>h2 U σ H ρ lab _ R (W.bo.imp λ d _ w v H' s r ht=>?_)⟩;obtain⟨lab',R',r'⟩:=R.freshO i (λ k hk=>by have:=jJ hm k hk;simpa using this) s r ht;exact w _ _ _ (R'.put (s:=.ow d) r')
def aKT(K:zAA)(G:Gx)(g:TG)(fg:D->En->Rs En):Prop:=∀U v d σ H ρ lab (Q:L2.St->Hp->Prop) ρ',RR K G U ρ σ H lab->Rp K (λ p=>(lab p).1<=1) H v d->fg d ρ= .ok ρ'->(∀σ',RR K G U ρ' σ' H lab->Q σ' H)->g v σ H Q
def aLR(K:zAA)(G:Gx)(g:TGs)(fg:List D->En->Rs En):Prop:=∀U vs ds σ H ρ lab (Q:L2.St->Hp->Prop) ρ',RR K G U ρ σ H lab->Rps K (λ p=>(lab p).1<=1) H vs ds->fg ds ρ= .ok ρ'->(∀σ',RR K G U ρ' σ' H lab->Q σ' H)->g vs σ H Q
def SG(C:Ct)(tg:Expr)(ks:List Nat)(fg:D->En->Rs En):Prop:=∃g,(∀i,PG (C.X i) tg g)/\aKT C.K C.G g fg/\uy g ks/\aAZ g
def SGs(C:Ct)(tg:List Expr)(ks:List Nat)(fg:List D->En->Rs En):Prop:=∃g,(∀i,PGs (C.X i) tg g)/\aLR C.K C.G g fg/\ux g ks/\qQ g
def gnm(i:Nat):D->En->Rs En:=λ d ρ=>.ok (ρ.set i (.sh d))
def gP:List D->En->Rs En:=λ ds ρ=>match ds with
 |[]=>.ok ρ
 |_=>.st
def au(f:D->En->Rs En)(g:List D->En->Rs En):List D->En->Rs En:=λ ds ρ=>match ds with
 |d::r=>(f d ρ).bd (g r)
 |_=>.st
def gO(n:Nat)(g:List D->En->Rs En):D->En->Rs En:=λ d ρ=>match d with
 | .tup ds=>if ds.length=n then g ds ρ else .st
 |_=>.st
variable{ks:List Nat}{fg:D->En->Rs En}{fgs:List D->En->Rs En}{tg:Expr}{tgs:List Expr}
def aX(hN:∀j,(C.X j).N[i]? =some x:=by intro _;rfl)(hx:∀j,Loc (C.X j).env.scope x:=by intro _;first|exact zB1 rfl|exact zBC rfl)(hf:∀j,(C.X j).fn x=true\/(C.X j).env.scope.names.lookup x=some .local:=by intro _;first|exact .inl rfl|exact .inr rfl)(nd:∀j,(C.X j).N.Nodup:=by intro _;assumption)(hk:i∈ks:=by decide):SG C (.Name x pos) ks (gnm i):=
 ⟨_,λ j=>aGV (nd j) (hN j) (hx j) (hf j),λ U v d σ H ρ lab Q ρ' R r e q=>by cases e;exact q _ (R.put (s:=.sh d) r),aHO hk,aHQ⟩
def fH:SGs C [] ks gP:=by
 refine⟨_,λ _=>aGU,λ U vs ds σ H ρ lab Q ρ' R r e q=>?_,aHN,aHP⟩;cases r with
 |nil=>cases e;exact⟨rfl,q _ R⟩
 |cons _ _=>cases e
def bB(h:SG C tg ks fg)(k:SGs C tgs ks fgs)(hs:∀i,(zBV (tg::tgs) (C.X i).env).map (·.2)=zDw tg (C.X i).env::(zBV tgs (C.X i).env).map (·.2):=by intro _;rfl):SGs C (tg::tgs) ks (au fg fgs):=by
 obtain⟨g,h1,h2,h3,h4⟩:=h;obtain⟨u,k1,k2,k3,k4⟩:=k;refine⟨_,λ i=>aET (h1 i) (k1 i) (hs i),λ U vs ds σ H ρ lab Q ρ' R r e q=>?_,aFK h3 h4 k3 k4,aFM h4 k4⟩;cases r with
 |nil=>cases e
 |cons h r=>
  obtain⟨ρ1,e1,e2⟩:=dj e;exact⟨_,_,rfl,h2 U _ _ σ H ρ lab _ ρ1 R h e1 λ σ1 R1=>k2 U _ _ σ1 H ρ1 lab Q ρ' R1 r e2 q⟩
def jM(h:SGs C tgs ks fgs)(hn:∀i,(zBV tgs (C.X i).env).length=n:=by intro _;rfl)(hst:∀i,(zBV tgs (C.X i).env).findIdx? (·.1)=none:=by intro _;rfl):SG C (.Tuple tgs k pos) ks (gO n fgs):=by
 obtain⟨u,k1,k2,k3,k4⟩:=h;refine⟨aHR C.K n u,λ i=>by rw[<-C.hK i];exact aJC (C.calm i) (k1 i) (hn i) (hst i),λ U v d σ H ρ lab Q ρ' R r e q=>?_,aJr k3,aJs k4⟩;cases r with
 |tup h r=>
  unfold gO at e;dsimp only at e;split at e
  .rename_i hl
   exact⟨_,_,rfl,h,by rw[r.length];exact hl,k2 U _ _ σ H ρ lab Q ρ' R r e q⟩
  .cases e
 |_=>cases e
def aB5(fe:En->Rs D)(fg:D->En->Rs En):En->Ou:=λ ρ=>(fe ρ).bo λ d=>match fg d ρ with
 | .ok ρ'=>.nx ρ'
 |_=>.st
def aDd(he:SE C m e fe)(hg:SG C tg ks fg)(hm:okS m=true:=by rfl)(hs:∀i,zEj [tg] e pos.line (C.X i).env=pure false:=by intro _;rfl)(hw:∀i,zEi [tg] e (C.X i).env=pure none:=by intro _;rfl)
  (h1:∀i,(zBV [tg] (C.X i).env).map (·.2)=[zDw tg (C.X i).env]:=by intro _;rfl):SS C (.Assign [tg] e pos) (aB5 fe fg):=by
 obtain⟨t,p1,p2⟩:=he;obtain⟨g,q1,q2,_,_⟩:=hg;refine⟨_,λ i=>aAp (p1 i) (q1 i) (hs i) (hw i) (h1 i),λ U σ H ρ lab De R W=>p2 U σ H ρ lab _ R (W.bo.imp λ d _ w v H' s r=>?_)⟩;obtain⟨R',r'⟩:=R.shared hm s r;cases hgd:fg d ρ with
 |ok ρ'=>rw[hgd]at w;exact q2 U v d σ H' ρ _ _ ρ' R' r' hgd λ σ' R2=>w σ' H' _ R2
 |ex c=>rw[hgd]at w;exact zAH w
 |st=>rw[hgd]at w;exact zAH w
def JL(K:zAA)(lab:Lab)(J:It)(H:Hp)(ds:List D):Prop:=∀i,(ds.length<=i->J.stop i H)/\(i<ds.length->J.go i H/\∀x H',J.yld i H x H'->aV H H'/\∃d,ds[i]? =some d/\Rp K (λ p=>(lab p).1<=1) H' x d)
def aKS(K:zAA)(G:Gx)(wi:TI)(f:En->Rs (List D)):Prop:=∀U σ H ρ lab (Rr:It->Hp->Prop),RR K G U ρ σ H lab->
 WR G (f ρ) (λ ds=>∀J H1 lab1 U1,aV H H1->(∀p o,H p=some o->lab1 p=lab p)->RR K G (U1++U) ρ σ H1 lab1->(∀lab' H',(∀q∈U1,Rp K (λ p=>(lab' p).1<=1) H' q.1 q.2)->JL K lab' J H' ds)->Rr J H1)->wi σ H Rr
def SI(C:Ct)(tg iter:Expr)(f:En->Rs (List D)):Prop:=∃wi,(∀i,PI (C.X i) tg iter wi)/\aKS C.K C.G wi f
def aJo(K:zAA)(tl:TE):TI:=λ σ H R=>tl σ H λ x H1=>∃a,x= .ref a/\(((∃xs,SqL K H1 a xs)/\R (Itl K a) H1)\/((∃xs,SqT K H1 a xs)/\R (Itt K a) H1))
def aER(hl:PE X l tl):PI X tg l (aJo X.K tl):=by
 intro hV s σ H R I h;refine thn (hl hV s σ H _ I h) λ v s1 ⟨x,H1,I1,r1,a,e,q1⟩=>?_
 subst e;cases r1;have hp:∀b∈[s1.heap.objs.size],rW X hV H1 b:=λ b hb=>by
  have e:b=s1.heap.objs.size:=by simpa using hb
  rw[e];exact I1.fpOk (zAV _) (I1.hok.fresh (zAV _))
 rcases q1 with ⟨⟨xs,hq⟩,q⟩|⟨⟨xs,hq⟩,q⟩
 .obtain⟨its,rv,p,hz⟩:=I1.list hq
  refine zFW p.isList ?_;exact⟨_,_,_,_,H1,rfl,I1.kept (t':=s1.toks) λ b o e=>zAG _ e,aC6 a _,⟨_,zA5 _ rfl,rfl,rfl⟩,hp,q⟩
 .obtain⟨its,rv,p,hz⟩:=I1.tuple hq
  refine wpAny_pyIter_tuple (show s1.heap.IsTuple a its.toArray from p) ?_;exact⟨_,_,_,_,H1,rfl,I1.kept (t':=s1.toks) λ b o e=>zAG _ e,aA2 a _,⟨_,zA5 _ rfl,rfl,rfl⟩,hp,q⟩
def itD:D->Rs (List D)
 | .tup l=>.ok l
 | .lst l=>.ok l
 | .scr l=>.ok (l.map .int)
 |_=>.st
def cM(fe:En->Rs D):En->Rs (List D):=λ ρ=>(fe ρ).bd itD
def aCH{K:zAA}(h:SqL K H a xs)(r:Rps K (λ p=>(lab p).1<=1) H xs ds):JL K lab (Itl K a) H ds:=by
 have hl:=r.length;refine λ i=>⟨λ hi=>⟨xs,h,by lia⟩,λ hi=>⟨⟨xs,xs[i]'(by lia),h,by simp[hl,hi]⟩,λ x H' y=>?_⟩⟩
 obtain⟨e,y⟩:=y;subst e;obtain⟨d,h1,h2⟩:=r.get (y xs h);exact⟨aV.refl _,d,h1,h2⟩
def aJh{K:zAA}(h:SqT K H a xs)(r:Rps K (λ p=>(lab p).1<=1) H xs ds):JL K lab (Itt K a) H ds:=by
 have hl:=r.length;refine λ i=>⟨λ hi=>⟨xs,h,by lia⟩,λ hi=>⟨⟨xs,xs[i]'(by lia),h,by simp[hl,hi]⟩,λ x H' y=>?_⟩⟩
 obtain⟨e,y⟩:=y;subst e;obtain⟨d,h1,h2⟩:=r.get (y xs h);exact⟨aV.refl _,d,h1,h2⟩
def cX(he:SE C m e fe)(hm:okS m=true:=by rfl):SI C tg e (cM fe):=by
 obtain⟨t,p1,p2⟩:=he;refine⟨aJo C.K t,λ i=>by rw[<-C.hK i];exact aER (p1 i),λ U σ H ρ lab Rr R W=>p2 U σ H ρ lab _ R (W.bd.imp λ d _ w v H1 s r=>?_)⟩;obtain⟨R',r'⟩:=R.shared hm s r;cases d with
 |tup l=>
  cases r' with
  |tup h q=>
   rename_i a xs;refine⟨_,rfl,.inr ⟨⟨_,h⟩,w _ H1 _ [(.ref a,.tup l)] s (λ p o e=>bA e) ⟨R'.len,R'.sl,R'.old,R'.new,λ z hz=>?_⟩ λ lab' H' hq=>?_⟩⟩
   .rcases zAQ.mp hz with rfl|hz
    .exact .tup h q
    .exact R'.tm z hz
   .have z:=hq _ (zAE ..)
    cases z with
    |tup h' q'=>exact aJh h' q'
 |lst l=>
  cases r' with
  |lst h mm q=>
   rename_i a xs;refine⟨_,rfl,.inl ⟨⟨_,SqL.of h⟩,w _ H1 _ [(.ref a,.lst l)] s (λ p o e=>bA e) ⟨R'.len,R'.sl,R'.old,R'.new,λ z hz=>?_⟩ λ lab' H' hq=>?_⟩⟩
   .rcases zAQ.mp hz with rfl|hz
    .exact .lst h mm q
    .exact R'.tm z hz
   .have z:=hq _ (zAE ..)
    cases z with
    |lst h' _ q'=>exact aCH (SqL.of h') (q'.wk λ _ _ _ z=>z.1)
 |scr l=>
  cases r' with
  |scr h=>
   rename_i a;refine⟨_,rfl,.inl ⟨⟨_,h.sq⟩,w _ H1 _ [(.ref a,.scr l)] s (λ p o e=>bA e) ⟨R'.len,R'.sl,R'.old,R'.new,λ z hz=>?_⟩ λ lab' H' hq=>?_⟩⟩
   .rcases zAQ.mp hz with rfl|hz
    .exact .scr h
    .exact R'.tm z hz
   .have z:=hq _ (zAE ..)
    cases z with
    |scr h'=>exact aCH h'.sq Rps.ints
 |_=>exact zAH w
end
section
variable{C:Ct}{pos:Pos}{s:Stmt}{ss:List Stmt}{f:En->Ou}{e a b:Expr}{es:List Expr}{m:Mode}{fa:En->Rs D}{ks:List Nat}{fg:D->En->Rs En}{tg:Expr}{fi:En->Rs (List D)}{ga:En->Rs (List D)}
def bL(lo hi:Int):List D:=(zBE (hi-lo).toNat).map λ(k:Nat)=>.int (lo+(k:Int))
def kI:List D->Rs (List D)
 |[.int j]=>if -(2^62)<=j/\j<2^62 then .ok (bL 0 j)else .st
 |_=>.st
def xP:List D->Rs (List D)
 |[.int i,.int j]=>if (-(2^62)<=i/\i<2^62)/\(-(2^62)<=j/\j<2^62)then .ok (bL i j)else .st
 |_=>.st
def jB(r:List D->Rs (List D))(ga:En->Rs (List D)):En->Rs (List D):=λ ρ=>(ga ρ).bd r
def aEr{K:zAA}{lo hi:Int}:JL K lab (Itr lo (hi-lo).toNat) H (bL lo hi):=by
 have hl:(bL lo hi).length=(hi-lo).toNat:=by unfold bL;simp
 refine λ i=>⟨λ h=>by show(hi-lo).toNat<=i;lia,λ h=>⟨by show i<(hi-lo).toNat;lia,λ x H' y=>?_⟩⟩
 obtain⟨e,rfl⟩:=y;subst e;refine⟨aV.refl _,.int (lo+i),?_,.int _⟩;unfold bL;rw[zAP,zCU (by lia)];rfl
def jG(ha:SA C m [a] ga)(hm:C.mg "range"=none)(hs:∀i,zAW [a] (C.X i).env=[(false,eval a (C.X i).env)]:=by intro _;rfl)(hg:∀i,Gl (C.X i) "range":=by intro _;rfl):SI C tg (.Call (.Name "range" p) [a] [] pos) (jB kI ga):=by
 obtain⟨t,h1,h2⟩:=ha;refine⟨_,λ i=>aCm (hg i) (by rw[(C.cx i).2.2.2.1];exact hm) (h1 i) (hs i),λ U σ H ρ lab Rr R W=>h2 U σ H ρ lab _ R (W.bd.imp λ ds _ w vs H1 s r=>?_)⟩;unfold kI at w;split at w
 .rename_i j _
  split at w
  .rename_i hj
   cases r with
   |cons h r=>
    cases h;cases r;refine⟨j,rfl,hj.1,hj.2,?_⟩;have z:=w (Itr 0 (j-0).toNat) H1 lab [] s (λ _ _ _=>rfl) (R.up s) λ lab' H' _=>aEr
    rwa [Int.sub_zero]at z
  .exact zAH w
 .exact zAH w
def wg(ha:SA C m [a,b] ga)(hm:C.mg "range"=none)(hs:∀i,zAW [a,b] (C.X i).env=[(false,eval a (C.X i).env),(false,eval b (C.X i).env)]:=by intro _;rfl)(hs2:∀i,zAW [b] (C.X i).env=[(false,eval b (C.X i).env)]:=by intro _;rfl)(hg:∀i,Gl (C.X i) "range":=by intro _;rfl):SI C tg (.Call (.Name "range" p) [a,b] [] pos) (jB xP ga):=by
 obtain⟨t,h1,h2⟩:=ha;refine⟨_,λ i=>aCl (hg i) (by rw[(C.cx i).2.2.2.1];exact hm) (h1 i) (hs i) (hs2 i),λ U σ H ρ lab Rr R W=>h2 U σ H ρ lab _ R (W.bd.imp λ ds _ w vs H1 s r=>?_)⟩;unfold xP at w;split at w
 .rename_i i j _
  split at w
  .rename_i hj
   cases r with
   |cons h r=>
    cases h;cases r with
    |cons h r=>
     cases h;cases r;exact⟨i,j,rfl,⟨hj.1.1,hj.1.2,hj.2.1,hj.2.2⟩,w (Itr i (j-i).toNat) H1 lab [] s (λ _ _ _=>rfl) (R.up s) λ lab' H' _=>aEr⟩
  .exact zAH w
 .exact zAH w
def forL(fg:D->En->Rs En)(b:En->Ou):List D->En->Ou
 |[],ρ=>.nx ρ
 |d::ds,ρ=>match fg d ρ with
  | .ok ρ1=>match b ρ1 with
   | .nx ρ2=>forL fg b ds ρ2
   | .ct ρ2=>forL fg b ds ρ2
   | .bk ρ2=>.nx ρ2
   |o=>o
  |_=>.st
def gh(fi:En->Rs (List D))(fg:D->En->Rs En)(b:En->Ou):En->Ou:=λ ρ=>(fi ρ).bo λ ds=>forL fg b ds ρ
def cW(hi:SI C tg e fi)(hg:SG C tg ks fg)(hb:SSs C ss f)(hs:∀i,∀x,zB9 e (C.X i).env x=pure x:=by intro _ _;rfl):SS C (.For tg e ss [] pos) (gh fi fg f):=by
 obtain⟨wi,i1,i2⟩:=hi;obtain⟨gg,g1,g2,_,g4⟩:=hg;obtain⟨tb,b1,b2⟩:=hb;refine⟨_,λ i=>aEO (C.own i) (C.calm i) (i1 i) (g1 i) (b1 i) (hs i),λ U σ H ρ lab De R W=>i2 U σ H ρ lab _ R (W.bo.imp λ ds _ w J H1 lab1 U1 s1 _ R1 jl=>?_)⟩;refine⟨λ i n σ' H'=>∃ρ' lab',RR C.K C.G (U1++U) ρ' σ' H' lab'/\n=ds.length-i/\i<=ds.length/\WS C.K C.G U (forL fg f (ds.drop i) ρ') De,⟨ds.length,ρ,lab1,R1,by lia,by lia,w⟩,?_⟩;rintro i n σ' H' ⟨ρ',lab',R',rfl,hi,w'⟩;have jj:=jl lab' H' λ q hq=>R'.tm q (zAJ _ hq)
 by_cases hlt:i<ds.length
 .obtain⟨go,yl⟩:=(jj i).2 hlt
  refine .inr ⟨go,λ σ2 H2=>∃ρ2 lab2,RR C.K C.G (U1++U) ρ2 σ2 H2 lab2/\WS C.K C.G U (forL fg f (ds.drop (i+1)) ρ2) De,λ σ2 H2 ⟨ρ2,lab2,R2,w2⟩=>⟨ds.length-(i+1),by lia,ρ2,lab2,R2,rfl,hlt,w2⟩,λ x H2 hy=>?_⟩;obtain⟨s2,d,ed,rx⟩:=yl x H2 hy;replace R':=R'.up s2;have ed2:ds.drop i=d::ds.drop (i+1):=by
   rw[zBg hlt]
   have:=zAI hlt
   rw[ed]at this;cases this;rfl
  rw[ed2]at w';unfold forL at w';cases eg:fg d ρ' with
  |ex c=>rw[eg]at w';exact zAH w'
  |st=>rw[eg]at w';exact zAH w'
  |ok ρ1=>
   rw[eg]at w';refine g2 (U1++U) x d σ' H2 ρ' lab' _ ρ1 R' rx eg λ σ1 R1'=>b2 (U1++U) σ1 H2 ρ1 lab' _ R1' ?_
   dsimp only at w';cases eb:f ρ1 with
   |nx ρ2=>rw[eb]at w';exact λ σ2 H3 lab2 R2=>⟨ρ2,lab2,R2,w'⟩
   |ct ρ2=>rw[eb]at w';exact λ σ2 H3 lab2 R2=>⟨ρ2,lab2,R2,w'⟩
   |bk ρ2=>rw[eb]at w';exact λ σ2 H3 lab2 R2=>w' σ2 H3 lab2 R2.drop
   |rt d=>rw[eb]at w';exact w'
   |ex c=>rw[eb]at w';exact w'
   |st=>rw[eb]at w';exact w'
 .have e:i=ds.length:=by lia
  subst e;rw[zD0]at w';exact .inl ⟨(jj _).1 (zAV _),w' σ' H' lab' R'.drop⟩
def itW(c:En->Rs Bool)(b:En->Ou):Nat->En->Ou
 |0,_=>.st
 |n+1,ρ=>(c ρ).bo λ k=>if k=true then(match b ρ with
   | .nx ρ2=>itW c b n ρ2
   | .ct ρ2=>itW c b n ρ2
   | .bk ρ2=>.nx ρ2
   |o=>o)else .nx ρ
def fuel:Nat:=1000000
def pO(c:En->Rs Bool)(b:En->Ou):En->Ou:=itW c b fuel
def yw(hc:ST C c fc)(hb:SSs C ss f):SS C (.While c ss [] pos) (pO fc f):=by
 obtain⟨tc,c1,c2⟩:=hc;obtain⟨tb,b1,b2⟩:=hb;refine⟨_,λ i=>aEL (C.own i) (c1 i) (b1 i),λ U σ H ρ lab De R W=>?_⟩;refine⟨λ n σ' H'=>∃ρ' lab',RR C.K C.G U ρ' σ' H' lab'/\WS C.K C.G U (itW fc f n ρ') De,⟨fuel,ρ,lab,R,W⟩,?_⟩;rintro n σ' H' ⟨ρ',lab',R',w'⟩;cases n with
 |zero=>exact zAH w'
 |succ n=>
  refine c2 U σ' H' ρ' lab' _ R' (WS.bo (show WS C.K C.G U ((fc ρ').bo _) De from w') |>.imp λ k _ w H1 s1=>?_);cases k with
  |false=>
   rw[if_neg zA6]at w ⊢;exact w σ' H1 lab' (R'.up s1)
  |true=>
   rw[if_pos rfl]at w ⊢;refine⟨λ σ2 H2=>∃ρ2 lab2,RR C.K C.G U ρ2 σ2 H2 lab2/\WS C.K C.G U (itW fc f n ρ2) De,λ σ2 H2 ⟨ρ2,lab2,R2,w2⟩=>⟨n,zCm n,ρ2,lab2,R2,w2⟩,?_⟩;refine b2 U σ' H1 ρ' lab' _ (R'.up s1) ?_;cases eb:f ρ' with
   |nx ρ2=>rw[eb]at w;exact λ σ2 H3 lab2 R2=>⟨ρ2,lab2,R2,w⟩
   |ct ρ2=>rw[eb]at w;exact λ σ2 H3 lab2 R2=>⟨ρ2,lab2,R2,w⟩
   |bk ρ2=>rw[eb]at w;exact w
   |rt d=>rw[eb]at w;exact w
   |ex c=>rw[eb]at w;exact w
   |st=>rw[eb]at w;exact w
def tY(x:Str)(ga:En->Rs (List D)):En->Ou:=λ ρ=>(ga ρ).bo λ ds=>if ds.length<=zAR then .ex x else .st
def yx{rest:List Expr}(hd:C.dOk=true)(hm:C.mg x=some (.ref Ca))(hcl:C.G.cl x=Ca)(hC:oU C.K Ca)(ha:SA C m (y8::rest) ga)(he:∀i,zAW (y8::rest) (C.X i).env=(false,eval y8 (C.X i).env)::zAW rest (C.X i).env:=by intro _;rfl)(hplain:∀i,(zBp cpos (zAW rest (C.X i).env)).any (·.1)=false:=by intro _;rfl)(hdb:Nd x:=by decide)(hg:∀i,Gl (C.X i) x:=by intro _;rfl):SS C (.Raise (some (.Call (.Name x np) (y8::rest) [] cpos)) none pos) (tY x ga):=by
 obtain⟨t,h1,h2⟩:=ha;refine⟨_,λ i=>aEN (C.dcx hd i) (C.calm i) (by rw[(C.cx i).2.2.2.1];exact hm) (by rw[C.hK i];exact hC) (hg i) (h1 i) (he i) (hplain i) hdb,λ U σ H ρ lab De R W=>h2 U σ H ρ lab _ R (W.bo.imp λ ds _ w vs H1 s r=>?_)⟩;by_cases hz:ds.length<=zAR
 .rw[if_pos hz]at w
  refine⟨by rw[r.length];exact hz,?_⟩
  have:=w H1 (R.old.trans s)
  rwa [hcl]at this
 .rw[if_neg hz]at w
  exact zAH w
def spF(K:zAA)(cl:Str->Addr)(n:Nat)(F:List D->Rs D):Sp:=λ vs H Q E=>∃ds,vs.length=n/\Rps K (λ _=>True) H vs ds/\WR ⟨H,E,cl⟩ (F ds) (λ d=>∀v H',aV H H'->Rp K (λ p=>H p=none) H' v d->Q v H')
def aP(F:List D->Rs D)(ga:En->Rs (List D)):En->Rs D:=λ ρ=>(ga ρ).bd F
def aDk{K:zAA}(hn:∀ρ ds,ga ρ= .ok ds->ds.length=n)(h:aHa K G m t ga):jR K G (some []) (aHl (spF K G.cl n F) [] G.E t) (aP F ga):=by
 intro U σ H ρ lab Q R W;refine h U σ H ρ lab _ R (W.bd.imp λ ds eds w vs H1 s r=>⟨ds,by rw[zAo,r.length];exact hn ρ ds eds,by rw[zAo];exact r.wk λ _ _ _ _=>trivial,?_⟩);cases hF:F ds with
 |ok d=>
  rw[hF]at w;exact λ v H' s' r'=>w v H' (s.trans s') (r'.wk λ p o _ z=>.inl (s.free z))
 |ex c=>rw[hF]at w;exact λ H' s'=>w H' ((R.old.trans s).trans s')
 |st=>rw[hF]at w;exact w
variable{k:Nat}{fn:Addr}{fd:zAc}{ps:List Str}{x:Str}{p:Pos}{F:List D->Rs D}{n:Nat}
def aGD(hF:cG C.prog C.w C.K C.mg C.base (CX1 C.prog C.w) k fn fd ps (spF C.K C.G.cl n F))(hr:k<=C.k)(hm:C.mg x=some (.ref fn))(hk:zC5 C.K (.ref fn)=true)(hb:Binds C.K fd ps [])(ha:SA C m (e::es) ga)(hn:∀ρ ds,ga ρ= .ok ds->ds.length=n)(hdb:Nd x:=by decide)(he:∀i,zAW (e::es) (C.X i).env=(false,eval e (C.X i).env)::zAW es (C.X i).env:=by intro _;rfl)(hpl:∀i,(zBp pos (zAW es (C.X i).env)).any (·.1)=false:=by intro _;rfl)(hg:∀i,Gl (C.X i) x:=by intro _;rfl):SE C (some []) (.Call (.Name x p) (e::es) [] pos) (aP F ga):=by
 obtain⟨t,h1,h2⟩:=ha;refine⟨_,λ i=>?_,aDk hn h2⟩;obtain⟨e1,e2,e3,e4,e5⟩:=C.cx i;refine aG3 (CX:=CX1 (C.X i).prog (C.X i).w) (by rw[e1,e2,e3,e4,e5];exact hF) ((C.room i).mono hr) (hg i) (by rw[e4];exact hm) (by rw[e3];exact hk) (by rw[e3];exact hb) .nil (C.pass i) (h1 i) hdb (he i) (hpl i)
def aGt(h:aH ρ= .ok ds):ds.length=0:=by cases h;rfl
def aEi(h:∀ρ ds,ga ρ= .ok ds->ds.length=n):∀ρ ds,aC fa ga ρ= .ok ds->ds.length=n+1:=λ ρ ds e=>by
 obtain⟨d,_,e⟩:=dj e;obtain⟨r,er,e⟩:=dj e;cases e;rw[zA4,h ρ r er]
end
def bf(mg:Str->Option Value):Str->Addr:=λ x=>match mg x with
 |some (.ref a)=>a
 |_=>0
abbrev ctD(P:zAU)(w:World)(K:zAA)(mg:Str->Option Value)(base:Heap)(N:List Str)(q:Str)(sc:Scope)(f:Addr)(cdv:Value)(A:zA8)(outer:List Env)(s:zAD)(H:Hp)(E:XK)(k:Nat)(hr:jC k (A.deeper (zDx q sc s.heap.objs.size f cdv))):Ct where
 ι:=Unit
 X:=λ _=>aAJ (CX1 P w) P w K mg base N q sc f cdv A outer s H E
 prog:=P
 w:=w
 K:=K
 mg:=mg
 base:=base
 k:=k
 G:=⟨H,E,bf mg⟩
 cx:=λ _=>⟨rfl,rfl,rfl,rfl,rfl⟩
 calm:=λ _=>rfl
 room:=λ _=>hr
 own:=λ _=>jA.own jA.of
 pass:=λ _=>jA.pass jA.of
 dOk:=true
 dcx:=λ _ _=>jA.of
def bC(n:Nat)(ds:List D):En:=ds.map .sh++zAN (n-ds.length) .no
def eE(n:Nat)(f:En->Ou):List D->Rs D:=λ ds=>match f (bC n ds)with
 | .nx _=>.ok .non
 | .rt d=>.ok d
 | .ex c=>.ex c
 |_=>.st
theorem RR.start{K:zAA}(r:Rps K (λ _=>True) H vs ds):RR K ⟨H,E,cl⟩ [] (bC N.length ds) (start N vs) H (λ _=>(0,0)):=by
 have hl:=r.length;refine⟨by unfold bC L2.start;simp[hl],λ i s e=>?_,aV.refl H,λ p hp=>absurd rfl hp,λ q hq=>by cases hq⟩;unfold bC at e;by_cases hi:i<ds.length
 .rw[zBh (by simpa using hi),zAP]at e
  cases ed:ds[i]? with
  |none=>rw[ed]at e;cases e
  |some d=>
   rw[ed]at e;cases e;obtain⟨x,ex,rx⟩:=r.getD ed;refine .inr ⟨x,?_,rx.wk λ _ _ _ _=>zAi _⟩;unfold L2.start;rw[zBh (by simpa[hl]using hi),zAP,ex];rfl
 .rw[zDD (by simpa using hi),zC4]at e
  split at e
  .cases e;exact .inl rfl
  .cases e
section
variable{P:zAU}{w:World}{K:zAA}{mg:Str->Option Value}{base:Heap}
def aJy{x q:Str}{st:Stmt}(F:L2.Fun K x q st fn fd)(S:ao N ps (aO st))
  (hb:∀cdv A outer s H E hr,SSs (ctD P w K mg base N q (aO st) fn cdv A outer s H E k hr) (gG st) f):
  cG P w K mg base (CX1 P w) (k+1) fn fd ps (spF K (bf mg) ps.length (eE N.length f)):=by
 refine F.okX S (λ vs H Q E ⟨ds,hl,_⟩=>hl) λ cdv A outer s H vs Q E hr ⟨ds,hl,r,W⟩=>?_
 obtain⟨t,h1,h2⟩:=hb cdv A outer s H E hr;refine⟨t,h1 (),h2 [] _ H _ _ _ (RR.start r) ?_⟩;unfold eE at W;cases e:f (bC N.length ds)with
 |nx ρ=>rw[e]at W;exact λ σ' H' lab R=>W .non H' R.old .non
 |rt d=>rw[e]at W;exact λ v H' s r=>W v H' s r
 |ex c=>rw[e]at W;exact W
 |bk ρ=>rw[e]at W;exact zAH W
 |ct ρ=>rw[e]at W;exact zAH W
 |st=>rw[e]at W;exact zAH W
def aHT{st:Stmt}(F:L2.Fun K x q st fn fd)(S:ao N ps (aO st))
  (hb:∀cdv A outer s H E hr,SSs (ctD P w K mg base N q (aO st) fn cdv A outer s H E k hr) (gG st) f)(hn:ps.length=n)(hF:eE N.length f=FF):
  cG P w K mg base (CX1 P w) (k+1) fn fd ps (spF K (bf mg) n FF):=by
 subst hn hF;exact aJy F S hb
end
def OpR.or(h:OpR X f r)(h':OpR X f r'):OpR X f (λ x y H Q=>r x y H Q\/r' x y H Q):=by
 intro hV s σ H x y v u Q I rx ry q;rcases q with q|q
 .exact h hV s σ H x y v u Q I rx ry q
 .exact h' hV s σ H x y v u Q I rx ry q
def OpS.or{K:zAA}(h:OpS K r fd)(h':OpS K r' fd'):OpS K (λ x y H Q=>r x y H Q\/r' x y H Q) (λ d e=>match fd d e with
  | .ok z=>.ok z
  |_=>fd' d e):=by
 intro A x y d e H Q z rx ry ez q;dsimp only at ez;cases hd:fd d e with
 |ok w=>rw[hd]at ez;cases ez;exact .inl (h A x y d e H Q _ rx ry hd q)
 |ex c=>rw[hd]at ez;exact .inr (h' A x y d e H Q z rx ry ez q)
 |st=>rw[hd]at ez;exact .inr (h' A x y d e H Q z rx ry ez q)
section
variable{K:zAA}
def i2(p:Int->Int->Bool)(g:Int->Int->D):D->D->Rs D
 | .int i,.int j=>if p i j=true then .ok (g i j)else .st
 |_,_=>.st
def aAu{g:Int->Int->Int}(hp:∀i j,p i j=true->c i j):OpS K (rI c λ i j=>.int (g i j)) (i2 p λ i j=>.int (g i j)):=by
 intro A x y d e H Q z rx ry ez q;unfold i2 at ez;split at ez
 .rename_i i j
  split at ez
  .rename_i h
   cases ez;obtain rfl:=rx.int_inv;obtain rfl:=ry.int_inv;exact⟨i,j,rfl,rfl,hp i j h,q _ H (aV.refl H) (.int _)⟩
  .cases ez
 .cases ez
def aG9{g:Int->Int->Int}:OpS K (rI0 λ i j=>.int (g i j)) (i2 (λ _ _=>true) λ i j=>.int (g i j)):=by
 intro A x y d e H Q z rx ry ez q;unfold i2 at ez;split at ez
 .rename_i i j
  cases ez;obtain rfl:=rx.int_inv;obtain rfl:=ry.int_inv;exact⟨i,j,rfl,rfl,q _ H (aV.refl H) (.int _)⟩
 .cases ez
def xY{g:Int->Int->Bool}:OpS K (rI0 λ i j=>.bl (g i j)) (i2 (λ _ _=>true) λ i j=>.bl (g i j)):=by
 intro A x y d e H Q z rx ry ez q;unfold i2 at ez;split at ez
 .rename_i i j
  cases ez;obtain rfl:=rx.int_inv;obtain rfl:=ry.int_inv;exact⟨i,j,rfl,rfl,q _ H (aV.refl H) (.bl _)⟩
 .cases ez
def yE{g:Int->Int->Int}:∀x y z,i2 p (λ i j=>.int (g i j)) x y= .ok z->imm z=true:=by
 intro x y z e;unfold i2 at e;split at e
 .split at e
  .cases e;rfl
  .cases e
 .cases e
def aFF{g:Int->Int->Bool}:∀x y z,i2 p (λ i j=>.bl (g i j)) x y= .ok z->imm z=true:=by
 intro x y z e;unfold i2 at e;split at e
 .split at e
  .cases e;rfl
  .cases e
 .cases e
def dF:D->D->Rs D
 | .int i,.int j=>.ok (.int (i+j))
 | .lst l,.lst m=>if l.length+m.length<=zAR then .ok (.lst (l++m))else .st
 | .tup l,.tup m=>if l.length+m.length<=zAR then .ok (.tup (l++m))else .st
 |_,_=>.st
def aHz(K:zAA):R2:=λ x y H Q=>∃a b xs ys,x= .ref a/\y= .ref b/\SqT K H a xs/\SqT K H b ys/\xs.length+ys.length<=zAR/\
 (xs=[]->Q (.ref b) H)/\(ys=[]->Q (.ref a) H)/\New H (.tup (xs++ys)) Q
def aGf:OpR X (zBd .Add) (aHz X.K):=by
 intro hV s σ H x y v u Q I rx ry h;obtain⟨a,b,xs,ys,rfl,rfl,ha,hb,hz,q0,q1,q2⟩:=h;by_cases hx:xs=[]
 .subst hx
  cases rx;cases ry;obtain⟨its,r1,p1,_⟩:=I.tuple ha;obtain⟨its2,r2,p2,_⟩:=I.tuple hb;cases r1;exact HT.aF1 p1 p2 ⟨.ref b,H,I,rfl,q0 rfl⟩
 .exact aGg hV s σ H _ _ v u Q I rx ry ⟨a,b,xs,ys,rfl,rfl,ha,hb,hx,hz,q1,λ _ p hp=>q2.at hp⟩
def aEH(K:zAA):R2:=λ x y H Q=>rI0 (λ i j=>.int (i+j)) x y H Q\/(aIA x y H Q\/aHz K x y H Q)
def aGi:OpR X (zBd .Add) (aEH X.K):=OpR.or aJ5 (OpR.or aGh aGf)
def aJQ:OpS K (aEH K) dF:=by
 intro A x y d e H Q z rx ry ez q;unfold dF at ez;split at ez
 .cases ez;obtain rfl:=rx.int_inv;obtain rfl:=ry.int_inv;exact .inl ⟨_,_,rfl,rfl,q _ H (aV.refl H) (.int _)⟩
 .split at ez
  .rename_i hl
   cases ez;obtain⟨_,_,rfl,h1,m1,r1⟩:=rx.lst_inv;obtain⟨_,_,rfl,h2,m2,r2⟩:=ry.lst_inv;refine .inr (.inl ⟨_,_,_,_,rfl,rfl,h1,h2,by rw[r1.length,r2.length];exact hl,λ p H' s hp hn=>q _ H' s (.lst hp (.inl hn) ?_)⟩);exact(((r1.wk λ _ _ _ z=>z.1).append (r2.wk λ _ _ _ z=>z.1)).wk (A':=λ q=>(H q=none\/A q)/\q≠p) λ q o e z=>⟨.inr z,λ e'=>by subst e';rw[hn]at e;cases e⟩).up s
  .cases ez
 .split at ez
  .rename_i hl
   cases ez;obtain⟨_,_,rfl,h1,r1⟩:=rx.tup_inv;obtain⟨_,_,rfl,h2,r2⟩:=ry.tup_inv;have r1':=r1.wk (A':=λ p=>H p=none\/A p) λ _ _ _ z=>.inr z
   have r2':=r2.wk (A':=λ p=>H p=none\/A p) λ _ _ _ z=>.inr z
   refine .inr (.inr ⟨_,_,_,_,rfl,rfl,h1,h2,by rw[r1.length,r2.length];exact hl,λ e=>?_,λ e=>?_,λ p H' s hp hn=>q _ H' s (.tup (SqT.of hp) ((r1'.append r2').up s))⟩)
   .subst e
    cases r1';exact q _ H (aV.refl H) (.tup h2 r2')
   .subst e
    cases r2';rw[zAo]at q;exact q _ H (aV.refl H) (.tup h1 r1')
  .cases ez
 .cases ez
def gq:D->D->Rs D
 | .int i,.int j=>if (decide (-(2^64)<i)&&decide (i<2^64))||(decide (-(2^64)<j)&&decide (j<2^64))then .ok (.int (i*j))else .st
 | .lst l,.int k=>if decide (-(2^63)<=k)&&decide (k<2^63)&&decide (l.length*k.toNat<=zAR)&&dJ l then .ok (.lst (zAN k.toNat l).flatten)else .st
 |_,_=>.st
theorem Rps.rep(r:Rps K A H xs ds):∀k:Nat,Rps K A H (zAN k xs).flatten (zAN k ds).flatten
 |0=>.nil
 |k+1=>by
  rw[zBR,zBR,zCM,zCM];exact r.append (Rps.rep r k)
def aHu:R2:=λ x y H Q=>rI aHg (λ i j=>.int (i*j)) x y H Q\/aKc x y H Q
def aGd:OpR X (zBd .Mult) aHu:=OpR.or aJV aJS
def aJO:OpS K aHu gq:=by
 intro A x y d e H Q z rx ry ez q;unfold gq at ez;split at ez
 .split at ez
  .rename_i hc
   cases ez;obtain rfl:=rx.int_inv;obtain rfl:=ry.int_inv;refine .inl ⟨_,_,rfl,rfl,?_,q _ H (aV.refl H) (.int _)⟩;simp only[zCI,zAM,decide_eq_true_eq]at hc;exact hc
  .cases ez
 .split at ez
  .rename_i hc
   simp only[zAM,decide_eq_true_eq]at hc;cases ez;obtain⟨_,_,rfl,h1,m1,r1⟩:=rx.lst_inv;obtain rfl:=ry.int_inv;refine .inr ⟨_,_,_,rfl,rfl,h1,hc.1.1.1,hc.1.1.2,by rw[r1.length];exact hc.1.2,λ p hp=>q _ _ (bN hp _) (.lst ak (.inl hp) ?_)⟩;exact((r1.rep _).wk (A':=λ q=>(H q=none\/A q)/\q≠p) λ q o e z=>⟨.inr z.1,λ e'=>by subst e';rw[hp]at e;cases e⟩).up (bN hp _)
  .cases ez
 .cases ez
def intsOf:List D->Option (List Int)
 |[]=>some []
 | .int i::r=>(intsOf r).map (i::·)
 |_=>none
theorem cV:∀{l:List D} {ns:List Int},intsOf l=some ns->l=ns.map .int
 |[],ns,h=>by cases h;rfl
 | .int i::r,ns,h=>by
  simp only[intsOf,zB3]at h;obtain⟨ms,h1,rfl⟩:=h;rw[cV h1];rfl
 | .non::_,_,h=>by cases h
 | .bl _::_,_,h=>by cases h
 | .str _::_,_,h=>by cases h
 | .tup _::_,_,h=>by cases h
 | .lst _::_,_,h=>by cases h
 | .dct _ _::_,_,h=>by cases h
 | .set _::_,_,h=>by cases h
 | .scr _::_,_,h=>by cases h
theorem dM:∀ns:List Int,intsOf (ns.map .int)=some ns
 |[]=>rfl
 |n::ns=>by simp only[zAC,intsOf,dM ns,zDa]
def ltT(p:List Int->List Int->Bool):D->D->Rs D
 | .tup l,.tup m=>match intsOf l,intsOf m with
  |some ns,some ms=>.ok (.bl (p ns ms))
  |_,_=>.st
 |_,_=>.st
def aBq(r:Rp K A H x (.tup l))(e:intsOf l=some ns):∃a,x= .ref a/\SqT K H a (ns.map V.int):=by
 have:=cV e
 subst this;cases r with
 |tup h r=>
  have:=r.ints_of
  subst this;exact⟨_,rfl,h⟩
def aCB(hr:∀x y H Q,(∃a b ns ms,x= .ref a/\y= .ref b/\SqT K H a (ns.map V.int)/\SqT K H b (ms.map V.int)/\Q (.bl (p ns ms)) H)->r x y H Q):OpS K r (ltT p):=by
 intro A x y d e H Q z rx ry ez q;unfold ltT at ez;split at ez
 .split at ez
  .rename_i ns ms e1 e2
   cases ez;obtain⟨a,rfl,ha⟩:=aBq rx e1;obtain⟨b,rfl,hb⟩:=aBq ry e2;exact hr _ _ _ _ ⟨a,b,ns,ms,rfl,rfl,ha,hb,q _ H (aV.refl H) (.bl _)⟩
  .cases ez
 .cases ez
def ltD:D->D->Rs D:=λ d e=>match i2 (λ _ _=>true) (λ i j=>.bl (decide (i<j))) d e with
 | .ok z=>.ok z
 |_=>ltT HT.lexLt d e
def leD:D->D->Rs D:=λ d e=>match i2 (λ _ _=>true) (λ i j=>.bl (decide (i<=j))) d e with
 | .ok z=>.ok z
 |_=>ltT HT.lexLe d e
def gtD:D->D->Rs D:=i2 (λ _ _=>true) (λ i j=>.bl (decide (j<i)))
def geD:D->D->Rs D:=i2 (λ _ _=>true) (λ i j=>.bl (decide (j<=i)))
def aJX(hu:X.A.units<cLine):OpR X (zAw .Lt) (λ x y H Q=>rI0 (λ i j=>.bl (decide (i<j))) x y H Q\/aGK X.K x y H Q):=OpR.or aKr (aJY hu)
def aJZ(hu:X.A.units<cLine):OpR X (zAw .LtE) (λ x y H Q=>rI0 (λ i j=>.bl (decide (i<=j))) x y H Q\/aGL X.K x y H Q):=OpR.or aKs (aJ0 hu)
def aE2:OpS K (λ x y H Q=>rI0 (λ i j=>.bl (decide (i<j))) x y H Q\/aGK K x y H Q) ltD:=OpS.or xY (aCB λ _ _ _ _ h=>h)
def aE3:OpS K (λ x y H Q=>rI0 (λ i j=>.bl (decide (i<=j))) x y H Q\/aGL K x y H Q) leD:=OpS.or xY (aCB λ _ _ _ _ h=>h)
def aCO(e:ltT p x y= .ok z):imm z=true:=by
 unfold ltT at e;split at e
 .split at e
  .cases e;rfl
  .cases e
 .cases e
def aFC:∀x y z,ltD x y= .ok z->imm z=true:=by
 intro x y z e;unfold ltD at e;split at e
 .rename_i w hw;cases e;exact aFF _ _ _ hw
 .exact aCO e
def aJn:∀x y z,leD x y= .ok z->imm z=true:=by
 intro x y z e;unfold leD at e;split at e
 .rename_i w hw;cases e;exact aFF _ _ _ hw
 .exact aCO e
def isD(neg:Bool):D->D->Rs D
 | .bl a,.bl b=>if neg then .st else .ok (.bl (a==b))
 |d,.non=>match d with
  | .non=>.ok (.bl (!neg))
  |_=>.ok (.bl neg)
 |_,_=>.st
def aJ1:OpR X (zAw .Is) (λ x y H Q=>(∃b c,x= .bl b/\y= .bl c/\Q (.bl (b==c)) H)\/(y= .non/\Q (.bl (decide (x= .non))) H)):=OpR.or aE5 aJ2
def aIl(r:Rp K A H x d)(h:d≠.non):x≠.non:=by
 cases r with
 |non=>exact absurd rfl h
 |_=>exact λ e=>by cases e
def aKq:OpS K (λ x y H Q=>(∃b c,x= .bl b/\y= .bl c/\Q (.bl (b==c)) H)\/(y= .non/\Q (.bl (decide (x= .non))) H)) (isD false):=by
 intro A x y d e H Q z rx ry ez q;unfold isD at ez;split at ez
 .cases ez;cases rx;cases ry;exact .inl ⟨_,_,rfl,rfl,q _ H (aV.refl H) (.bl _)⟩
 .cases ry
  split at ez
  .cases ez;cases rx;exact .inr ⟨rfl,by rw[decide_eq_true rfl];exact q _ H (aV.refl H) (.bl _)⟩
  .rename_i hn
   cases ez;exact .inr ⟨rfl,by rw[decide_eq_false (aIl rx hn)];exact q _ H (aV.refl H) (.bl _)⟩
 .cases ez
def atD(l:List D)(i:Int):Rs D:=match atI l i with
 |some d=>.ok d
 |none=>.st
def ixD:D->D->Rs D
 | .tup l,.int i=>atD l i
 | .lst l,.int i=>atD l i
 | .scr l,.int i=>atD (l.map .int) i
 |_,_=>.st
theorem Rps.at(r:Rps K A H xs ds)(e:atI ds i=some d):∃x,atI xs i=some x/\Rp K A H x d:=by
 unfold atI at e ⊢;rw[r.length];cases h:ixN ds.length i with
 |none=>rw[h]at e;cases e
 |some j=>
  rw[h]at e;obtain⟨x,e1,e2⟩:=r.getD (i:=j) (d:=d) e;exact⟨x,e1,e2⟩
def aKp:OpS K (rIx K) ixD:=by
 intro A x y d e H Q z rx ry ez q;unfold ixD at ez;split at ez
 .unfold atD at ez
  split at ez
  .rename_i w hw
   cases ez;obtain⟨_,_,rfl,h,r⟩:=rx.tup_inv;obtain rfl:=ry.int_inv;obtain⟨v,e1,e2⟩:=r.at hw;exact .inr (.inl ⟨_,_,_,v,rfl,rfl,h,e1,q v H (aV.refl H) (e2.wk λ _ _ _ z=>.inr z)⟩)
  .cases ez
 .unfold atD at ez
  split at ez
  .rename_i w hw
   cases ez;obtain⟨_,_,rfl,h,m,r⟩:=rx.lst_inv;obtain rfl:=ry.int_inv;obtain⟨v,e1,e2⟩:=r.at hw;exact .inl ⟨_,_,_,v,rfl,rfl,SqL.of h,e1,q v H (aV.refl H) (e2.wk λ _ _ _ z=>.inr z.1)⟩
  .cases ez
 .unfold atD at ez
  split at ez
  .rename_i w hw
   cases ez;obtain⟨_,rfl,h⟩:=rx.scr_inv;obtain rfl:=ry.int_inv;obtain⟨v,e1,e2⟩:=(Rps.ints (K:=K) (A:=A) (H:=H)).at hw;exact .inl ⟨_,_,_,v,rfl,rfl,h.sq,e1,q v H (aV.refl H) (e2.wk λ _ _ _ z=>.inr z)⟩
  .cases ez
 .cases ez
def jP:List D->Rs D
 |[.tup l]=>.ok (.int l.length)
 |[.lst l]=>.ok (.int l.length)
 |[.scr l]=>.ok (.int l.length)
 |_=>.st
def aKF:pN K (λ xs H Q=>∃p ys,xs=[.ref p]/\(SqL K H p ys\/SqT K H p ys)/\Q (.int ys.length) H) jP:=by
 intro A xs ds H Q z r ez q;unfold jP at ez;split at ez
 .cases ez
  obtain⟨_,rfl,h0⟩:=r.one_inv;obtain⟨_,_,rfl,h,r⟩:=h0.tup_inv;exact⟨_,_,rfl,.inr h,by rw[r.length];exact q _ H (aV.refl H) (.int _)⟩
 .cases ez
  obtain⟨_,rfl,h0⟩:=r.one_inv;obtain⟨_,_,rfl,h,m,r⟩:=h0.lst_inv;exact⟨_,_,rfl,.inl (SqL.of h),by rw[r.length];exact q _ H (aV.refl H) (.int _)⟩
 .cases ez
  obtain⟨_,rfl,h0⟩:=r.one_inv;obtain⟨_,rfl,h⟩:=h0.scr_inv;exact⟨_,_,rfl,.inl h.sq,by rw[zAF];exact q _ H (aV.refl H) (.int _)⟩
 .cases ez
def aHH:∀x z,jP x= .ok z->imm z=true:=by
 intro x z e;unfold jP at e;split at e<;>first|(cases e;rfl)|cases e
def tyD:D->String
 | .non=>"NoneType"| .bl _=>"bool"| .int _=>"int"| .str _=>"str"| .tup _=>"tuple"| .lst _=>"list"| .dct _ _=>"dict"| .set _=>"set"| .scr _=>"script"| .fn _=>"function"| .itm _ _=>"items"
def oG(T:String):D->Rs D:=λ d=>if lQ (tyD d) T true=true then .ok (.bl true)else if lQ (tyD d) T false=true then .ok (.bl false)else .st
def aHw(K:zAA)(T:String):List V->Hp->VK->Prop:=λ xs H Q=>∃x d A b,xs=[x,.ty T]/\Rp K A H x d/\lQ (tyD d) T b=true/\Q (.bl b) H
def aDN:cR X (.builtin "isinstance") (aHw X.K T):=by
 intro hV s σ H xs us Q I rv h;obtain⟨x,d,A,b,rfl,rd,ok,q⟩:=h;cases rd with
 |tup h r=>
  obtain⟨u,w',rfl,ru,rw'⟩:=vals2 rv;cases ru;cases rw';obtain⟨its,_,⟨o,h1,h2,_⟩,_⟩:=I.tuple h;exact zAy zGI I.kIn ⟨o,h1,h2⟩ (aBO ok) (λ z=>nomatch z) λ tk=>⟨.bl b,H,I.tok _,rfl,q⟩
 |set h m hS nd=>cases b<;>simp[lQ,tyD]at ok
 |scr h=>cases b<;>simp[lQ,tyD]at ok
 |fn h=>cases b<;>simp[lQ,tyD]at ok
 |itm h=>cases b<;>simp[lQ,tyD]at ok
 |non=>exact j6 hV s σ H _ us Q I rv ⟨_,T,_,b,rfl,.non,ok,q⟩
 |bl c=>exact j6 hV s σ H _ us Q I rv ⟨_,T,_,b,rfl,.bl c,ok,q⟩
 |int c=>exact j6 hV s σ H _ us Q I rv ⟨_,T,_,b,rfl,.int c,ok,q⟩
 |str c=>exact j6 hV s σ H _ us Q I rv ⟨_,T,_,b,rfl,.str c,ok,q⟩
 |lst h m r=>exact j6 hV s σ H _ us Q I rv ⟨_,T,_,b,rfl,.lst h,ok,q⟩
 |dK h m r=>exact j6 hV s σ H _ us Q I rv ⟨_,T,_,b,rfl,.dK h,ok,q⟩
 |dT h m r=>
  obtain⟨u,w',rfl,ru,rw'⟩:=vals2 rv;cases ru;cases rw';obtain⟨⟨_,_,_,o,_,_,_,h1,h2,_⟩,_⟩:=(show cB X.prog X.w H s.heap _ (dxO _ _)from I.hok _ _ h.at_);exact zAy zEP I.kIn ⟨o,h1,h2.1⟩ (aBO ok) (λ z=>nomatch z) λ tk=>⟨.bl b,H,I.tok _,rfl,q⟩
end
section
variable{C:Ct}{pos p p2:Pos}{m:Mode}{a:Expr}{fa:En->Rs D}
def pU(ha:SE C m a fa)(hm:C.mg "isinstance"=none)(hmT:C.mg x=none)(hn:x≠"__name__":=by decide)(hd:Nd x:=by decide)(he:∀i,zAW [a,.Name x p2] (C.X i).env=(false,eval a (C.X i).env)::zAW [.Name x p2] (C.X i).env:=by intro _;rfl)(hpl:∀i,(zBp pos (zAW [.Name x p2] (C.X i).env)).any (·.1)=false:=by intro _;rfl)(hg:∀i,Gl (C.X i) "isinstance":=by intro _;rfl)(hv:zAq "isinstance"=some (.builtin "isinstance"):=by decide+kernel)(hgT:∀i,Gl (C.X i) x:=by intro _;rfl)(hvT:zAq x=some (.type T):=by decide+kernel):
  SE C (some []) (.Call (.Name "isinstance" p) [a,.Name x p2] [] pos) (op1 (oG T) fa):=by
 obtain⟨t,h1,h2⟩:=ha;refine⟨tCB (aHw C.K T) (gm t (gm (tC (.ty T)) kY)),λ i=>?_,λ U σ H ρ lab Q R W=>?_⟩
 .rw[<-C.hK i]
  exact lH aDN (hg i) (by rw[(C.cx i).2.2.2.1];exact hm) hv (cH (h1 i) (cH (aG4 (v:=.ty T) (hgT i) (by rw[(C.cx i).2.2.2.1];exact hmT) hvT rfl hn hd) eN) (he i)) (by decide) (by decide) (he i) (hpl i)
 .refine h2 U σ H ρ lab _ R (W.bd.imp λ d _ w x H1 s1 r1=>?_)
  obtain⟨z,ez,w⟩:=w.okD;unfold oG at ez;split at ez
  .rename_i h;cases ez;exact⟨x,d,_,true,rfl,r1,h,w _ H1 s1 (.bl _)⟩
  .split at ez
   .rename_i h;cases ez;exact⟨x,d,_,false,rfl,r1,h,w _ H1 s1 (.bl _)⟩
   .cases ez
end
def m6:Slot->Slot
 | .ow d=>.sh d
 | .nw d=>.sh d
 | .oz d=>.sh d
 | .o2 l=>.sh (.lst (l.map .lst))
 |s=>s
def shE(ρ:En):En:=ρ.map m6
def stV(js:List (Option Nat))(σ:L2.St):L2.St:=js.map λ o=>o.bind λ j=>(σ[j]?).join
def stE(js:List (Option Nat))(ρ:En):En:=js.map λ o=>match o with
 |none=>.no
 |some j=>(ρ[j]?).getD .no
def aGF{K:zAA}(h:gB K H lab i v s):∃d,(s= .no\/m6 s= .sh d)/\(s= .no\/Rp K (λ _=>True) H v d):=by
 cases s with
 |no=>exact⟨.non,.inl rfl,.inl rfl⟩
 |sh d=>exact⟨d,.inr rfl,.inr (Rp.wk (λ _ _ _ _=>trivial) h)⟩
 |nw d=>exact⟨d,.inr rfl,.inr (Rp.wk (λ _ _ _ _=>trivial) h)⟩
 |ow d=>exact⟨d,.inr rfl,.inr (Rp.wk (λ _ _ _ _=>trivial) h.1)⟩
 |oz d=>exact⟨d,.inr rfl,.inr (Rp.wk (λ _ _ _ _=>trivial) (aIL h))⟩
 |o2 l=>exact⟨_,.inr rfl,.inr (Rp.wk (λ _ _ _ _=>trivial) (aE7 h))⟩
theorem RR.shE{K:zAA}(R:RR K G U ρ σ H lab):RR K G U (shE ρ) σ H (λ _=>(0,0)):=by
 refine⟨by unfold VL.shE;rw[zAF];exact R.len,λ i s e=>?_,R.old,λ p hp=>absurd rfl hp,λ q hq=>(R.tm q hq).wk λ _ _ _ _=>zAi _⟩;unfold VL.shE at e;rw[zAP]at e;cases e0:ρ[i]? with
 |none=>rw[e0]at e;cases e
 |some s0=>
  rw[e0]at e;cases e;rcases R.sl i s0 e0 with rfl|⟨v,ev,hv⟩
  .exact .inl rfl
  .obtain⟨d,h1,h2⟩:=aGF hv
   rcases h1 with rfl|h1
   .exact .inl rfl
   .rcases h2 with rfl|h2
    .exact .inl rfl
    .exact .inr ⟨v,ev,by rw[h1];exact h2.wk λ _ _ _ _=>zAi _⟩
def aDa{i:Nat}(e:(stE js ρ)[i]? =some s):s= .no\/∃j,js[i]? =some (some j)/\ρ[j]? =some s:=by
 unfold stE at e;rw[zAP]at e;cases ej:js[i]? with
 |none=>rw[ej]at e;cases e
 |some o=>
  rw[ej]at e;cases o with
  |none=>cases e;exact .inl rfl
  |some j=>
   cases er:ρ[j]? with
   |none=>simp[er]at e;exact .inl e.symm
   |some s'=>simp[er]at e;subst e;exact .inr ⟨j,rfl,er⟩
def RR.block{K:zAA}{U:List (V×D)}(R:RR K G U (VL.shE ρ) σ H lab)(hz:∀p,(lab p).1<=1)(hl:H l=none):
  RR K G U (stE js (VL.shE ρ)) (stV js σ) H (λ p=>if p=l then(2,0)else(0,0)):=by
 have nl:∀p o,H p=some o->p≠l:=λ p o e z=>by subst z;rw[hl]at e;cases e
 refine⟨by unfold stE stV;rw[zAF,zAF],λ i s e=>?_,R.old,λ p hp=>?_,λ q hq=>(R.tm q hq).wk λ p o e _=>by rw[if_neg (nl p o e)];exact zAi _⟩
 .rcases aDa e with rfl|⟨j,ej,es⟩
  .exact .inl rfl
  .rcases R.sl j s es with rfl|⟨v,ev,hv⟩
   .exact .inl rfl
   .refine .inr ⟨v,?_,?_⟩
    .unfold stV
     rw[zAP,ej];simp[ev]
    .unfold VL.shE at es
     rw[zAP]at es;cases e0:ρ[j]? with
     |none=>rw[e0]at es;cases es
     |some s0=>
      rw[e0]at es;cases es;cases s0 with
      |no=>trivial
      |oz d=>exact Rp.wk (λ p o e _=>by show(if p=l then((2,0):Nat×Nat)else(0,0)).1<=1;rw[if_neg (nl p o e)];exact zAi _) hv
      |nw d=>exact Rp.wk (λ p o e _=>by show(if p=l then((2,0):Nat×Nat)else(0,0)).1<=1;rw[if_neg (nl p o e)];exact zAi _) hv
      |sh d=>exact Rp.wk (λ p o e _=>by show(if p=l then((2,0):Nat×Nat)else(0,0)).1<=1;rw[if_neg (nl p o e)];exact zAi _) hv
      |ow d=>exact Rp.wk (λ p o e _=>by show(if p=l then((2,0):Nat×Nat)else(0,0)).1<=1;rw[if_neg (nl p o e)];exact zAi _) hv
      |o2 d=>exact Rp.wk (λ p o e _=>by show(if p=l then((2,0):Nat×Nat)else(0,0)).1<=1;rw[if_neg (nl p o e)];exact zAi _) hv
 .by_cases hp':p=l
  .subst hp';exact R.old.free hl
  .exact absurd (show(if p=l then((2,0):Nat×Nat)else(0,0)).1=0 by rw[if_neg hp']) hp
def aLh(XN N:List Str)(js:List (Option Nat))(ks:List Nat)(sc:Scope):Bool:=(zBE js.length).all λ i=>match js[i]? with
 |some (some j)=>match N[i]?,XN[j]? with
  |some x,some y=>x==y&&sc.names.lookup x==some .free&& !ks.contains i
  |_,_=>false
 |_=>true
def aB4(h1:sc.kind= .function)(h2:(sc.names.all λ y=>y.2 != .cell||sc.names.lookup y.1==some .cell)=true)(h3:(sc.names.all λ y=>y.2 != .local||sc.names.lookup y.1==some .local)=true)
  (h4:(sc.names.all λ y=>y.2 != .free||(X.env.kindOf y.1==some .cell||X.env.kindOf y.1==some .free))=true)(h5:js.length=N.length)(h6:aLh X.N N js ks sc=true):gW X sc N (stV js) ks:=by
 refine⟨h1,λ y hy e=>?_,λ y hy e=>?_,λ y hy e=>?_,λ σ=>by unfold stV;rw[zAF];exact h5,λ σ i x v e1 e2=>?_⟩
 .have:=zA7.mp h2 y hy
  rw[e]at this;simpa using this
 .have:=zA7.mp h3 y hy
  rw[e]at this;simpa using this
 .have:=zA7.mp h4 y hy
  rw[e]at this;simpa using this
 .unfold stV at e2
  rw[zAP]at e2;cases ej:js[i]? with
  |none=>rw[ej]at e2;cases e2
  |some o=>
   rw[ej]at e2;cases o with
   |none=>cases e2
   |some j=>
    have hi:i<js.length:=(zAO.mp ej).1
    have:=zA7.mp h6 i (zCa.mpr hi)
    rw[ej,e1]at this;dsimp only at this;cases ey:X.N[j]? with
    |none=>rw[ey]at this;cases this
    |some y=>
     rw[ey]at this;simp only[zAM,beq_iff_eq,zBQ]at this;obtain⟨⟨h,h'⟩,h''⟩:=this;subst h;refine⟨h',λ hk=>?_,j,ey,?_⟩
     .rw[List.contains_iff_mem.mpr hk]at h'';cases h''
     .simp only[zDa,zG6,Option.some.injEq]at e2
      cases es:σ[j]? with
      |none=>rw[es]at e2;cases e2
      |some w=>rw[es]at e2;simp at e2;subst e2;rfl
abbrev Ct.blk(C:Ct)(sc:Scope)(N:List Str):Ct where
 ι:=C.ι×Addr×List Addr×zAD×Hp
 X:=λ i=>(C.X i.1).block sc i.2.1 N i.2.2.1 i.2.2.2.1 i.2.2.2.2
 prog:=C.prog
 w:=C.w
 K:=C.K
 mg:=C.mg
 base:=C.base
 k:=C.k
 G:={C.G with E:=λ _ _ _=>False}
 cx:=λ i=>C.cx i.1
 calm:=λ i=>C.calm i.1
 room:=λ i=>C.room i.1
 own:=λ i=>PassesOwn.never
 pass:=λ i hV σ H s e s' I h=>by obtain⟨_,_,_,_,_,_,_,_,_,_,_,_,_,hE⟩:=h;exact hE
 dOk:=false
 dcx:=λ h=>absurd h zA6
def lcL(ρ:En)(fg:D->En->Rs En)(ft:En->Rs Bool)(fe:En->Rs D):List D->Rs (List D)
 |[]=>.ok []
 |d::ds=>(fg d ρ).bd λ ρ1=>(ft ρ1).bd λ k=>if k=true then(fe ρ1).bd λ y=>(lcL ρ fg ft fe ds).bd λ ys=>.ok (y::ys)else lcL ρ fg ft fe ds
def lcD(fi:En->Rs (List D))(js:List (Option Nat))(fg:D->En->Rs En)(ft:En->Rs Bool)(fe:En->Rs D):En->Rs D:=λ ρ=>(fi (shE ρ)).bd λ ds=>
 if ds.length<zAR then(match lcL (stE js (shE ρ)) fg ft fe ds with
  | .ok l=>.ok (.lst l)
  |_=>.st)else .st
def aHb(C:Ct)(ifs:List Expr)(f:En->Rs Bool):Prop:=∃t,(∀i,aDR (C.X i) ifs t)/\aDQ C.K C.G t f
def fO:En->Rs Bool:=λ _=>.ok true
def gY:aHb C [] fO:=⟨_,λ _=>aJG,λ U σ H ρ lab Q R W=>W H (aV.refl H)⟩
def aDl(h:ST C c f):aHb C [c] f:=let⟨t,h1,h2⟩:=h;⟨t,λ i=>aJF (h1 i),h2⟩
def aEm(h:lcL ρ fg ft fe (d::ds)= .ok l):
  ∃ρ1 k,fg d ρ= .ok ρ1/\ft ρ1= .ok k/\((k=true/\∃y ys,fe ρ1= .ok y/\lcL ρ fg ft fe ds= .ok ys/\l=y::ys)\/(k=false/\lcL ρ fg ft fe ds= .ok l)):=by
 unfold lcL at h;obtain⟨ρ1,e1,h⟩:=dj h;obtain⟨k,e2,h⟩:=dj h;refine⟨ρ1,k,e1,e2,?_⟩;cases k with
 |true=>
  rw[if_pos rfl]at h;obtain⟨y,e3,h⟩:=dj h;obtain⟨ys,e4,h⟩:=dj h;cases h;exact .inl ⟨rfl,y,ys,e3,e4,rfl⟩
 |false=>
  rw[if_neg zA6]at h;exact .inr ⟨rfl,h⟩
def RR.but_blk{K:zAA}{U:List (V×D)}(R:RR K G U (stE js (VL.shE ρ)) σ H (λ p=>if p=l then(2,0)else(0,0)))(B:jE l H H')(hl:H l=some o)(ho:ie o=true)(h0:G.H0 l=none):
  RR K G U (stE js (VL.shE ρ)) σ H' (λ p=>if p=l then(2,0)else(0,0)):=by
 have aI:¬((λ p=>if p=l then((2,0):Nat×Nat)else(0,0)) l).1<=1:=by simp
 refine⟨R.len,λ j s e=>?_,λ b o hb=>?_,R.new,λ q hq=>(R.tm q hq).but B hl ho aI⟩
 .rcases R.sl j s e with z|⟨u,e1,e2⟩
  .exact .inl z
  .refine .inr ⟨u,e1,?_⟩
   rcases aDa e with rfl|⟨jx,ej,es⟩
   .trivial
   .unfold VL.shE at es
    rw[zAP]at es;cases e0:ρ[jx]? with
    |none=>rw[e0]at es;cases es
    |some s0=>rw[e0]at es;cases es;cases s0<;>first|trivial|exact Rp.but B hl ho aI e2
 .exact B b o (λ z=>by subst z;rw[h0]at hb;cases hb) (R.old b o hb)
def RR.blk0{K:zAA}(R:RR K G U (VL.shE ρ) σ H lab)(hG:G'.H0=G.H0):RR K G' U (VL.shE ρ) σ H (λ _=>(0,0)):=by
 refine⟨R.len,λ i s e=>?_,by rw[hG];exact R.old,λ p hp=>absurd rfl hp,λ q hq=>(R.tm q hq).wk λ _ _ _ _=>zAi _⟩;rcases R.sl i s e with rfl|⟨v,ev,hv⟩
 .exact .inl rfl
 .unfold VL.shE at e
  rw[zAP]at e;cases e0:ρ[i]? with
  |none=>rw[e0]at e;cases e
  |some s0=>rw[e0]at e;cases e;cases s0<;>first|exact .inl rfl|exact .inr ⟨v,ev,Rp.wk (λ _ _ _ _=>zAi _) hv⟩
section
variable{K:zAA}{G:Gx}{wi:TI}{fi:En->Rs (List D)}{js:List (Option Nat)}{g:TG}{fg:D->En->Rs En}{tt:TT}{ft:En->Rs Bool}{te:TE}{fe:En->Rs D}
def aDj(hi:aKS K G wi fi)(hg:aKT K {G with E:=λ _ _ _=>False} g fg)(ht:aDQ K {G with E:=λ _ _ _=>False} tt ft)(he:jR K {G with E:=λ _ _ _=>False} (some []) te fe):
  jR K G (some []) (tLC wi (stV js) g tt te) (lcD fi js fg ft fe):=by
 intro U σ H ρ lab Q R W;refine hi U σ H _ _ _ R.shE (W.bd.imp λ ds _ w J H1 lab1 U1 s1 _ R1 jl=>?_);intro l hl;obtain⟨hW,out,pV,w⟩:ds.length<zAR/\∃out,lcL (stE js (VL.shE ρ)) fg ft fe ds= .ok out/\QE K (some []) lab H Q (.lst out):=by
  by_cases hW:ds.length<zAR
  .rw[if_pos hW]at w
   cases pV:lcL (stE js (VL.shE ρ)) fg ft fe ds with
   |ok out=>rw[pV]at w;exact⟨hW,out,rfl,w⟩
   |ex c=>rw[pV]at w;exact zAH w
   |st=>rw[pV]at w;exact zAH w
  .rw[if_neg hW]at w
   exact zAH w
 have R0:RR K {G with E:=λ _ _ _=>False} (U1++U) (VL.shE ρ) σ H1 (λ _=>(0,0)):=R1.blk0 rfl;have RB:=R0.block (js:=js) (λ _=>zAi _) hl;have hHl:H l=none:=s1.free hl;have aI:¬((λ p=>if p=l then((2,0):Nat×Nat)else(0,0)) l).1<=1:=by simp
 refine⟨λ i n acc H2=>∃pre,n=ds.length-i/\i<=ds.length/\H2 l=some (.lst acc)/\RR K {G with E:=λ _ _ _=>False} (U1++U) (stE js (VL.shE ρ)) (stV js σ) H2 (λ p=>if p=l then(2,0)else(0,0))/\aV H H2/\acc.length<=i/\
  Rps K (λ p=>H p=none/\p≠l) H2 acc pre/\∃post,lcL (stE js (VL.shE ρ)) fg ft fe (ds.drop i)= .ok post/\out=pre++post,⟨ds.length,[],by lia,by lia,ak,RB.up (bN hl _),s1.trans (bN hl _),zAV _,.nil,out,pV,rfl⟩,?_⟩
 rintro i n acc H2 ⟨pre,rfl,hi,hH2,R2,s2,kX,rpre,post,hpost,eout⟩;refine⟨hH2,by lia,?_⟩;have jj:=jl _ H2 λ q hq=>R2.tm q (zAJ _ hq)
 by_cases hlt:i<ds.length
 .obtain⟨go,yl⟩:=(jj i).2 hlt
  refine .inr ⟨go,λ x H3 hy=>?_⟩;obtain⟨s3,d,ed,rx⟩:=yl x H3 hy;replace R2:=R2.up s3;replace hH2:=s3 _ _ hH2;replace s2:=s2.trans s3;replace rpre:=rpre.up s3;have ed2:ds.drop i=d::ds.drop (i+1):=by
   rw[zBg hlt]
   have:=zAI hlt
   rw[ed]at this;cases this;rfl
  rw[ed2]at hpost;obtain⟨ρ1,k,e1,e2,e3⟩:=aEm hpost;refine hg (U1++U) x d _ H3 _ _ _ ρ1 R2 rx e1 λ σ4 R4=>?_
  refine ht (U1++U) σ4 H3 ρ1 _ _ R4 ?_;rw[e2];intro H5 s5;rcases e3 with ⟨rfl,y,ys,e3,e4,rfl⟩|⟨rfl,e4⟩
  .rw[if_pos rfl]
   refine he (U1++U) σ4 H5 ρ1 _ _ (R4.up s5) ?_;rw[e3];intro v H6 s6 r6;have hl6:H6 l=some (.lst acc):=s6 _ _ (s5 _ _ hH2);have B:jE l H6 (upd H6 l (.lst (acc++[v]))):=λ b o ne hb=>by rw[aW ne];exact hb
   refine⟨hl6,ds.length-(i+1),by lia,pre++[y],rfl,hlt,ak,?_,?_,by rw[zAT];simp;lia,?_,ys,e4,by rw[eout];simp⟩
   .exact(R2.up (s5.trans s6)).but_blk B hl6 rfl (R1.old.free hl)
   .exact λ b o hb=>B b o (λ z=>by subst z;rw[hHl]at hb;cases hb) (((s2.trans s5).trans s6) b o hb)
   .refine((rpre.up (s5.trans s6)).append (.cons (r6.wk λ p o _ z=>?_) .nil)).but B hl6 rfl λ z=>z.2 rfl
    rcases z with z|z
    .exact⟨(s2.trans s5).free z,λ e=>by subst e;rw[s5 _ _ hH2]at z;cases z⟩
    .cases z
  .rw[if_neg zA6]
   exact⟨ds.length-(i+1),by lia,pre,rfl,hlt,s5 _ _ hH2,R2.up s5,s2.trans s5,by lia,rpre.up s5,post,e4,eout⟩
 .have ei:i=ds.length:=by lia
  subst ei;rw[zD0]at hpost;cases hpost;rw[zAo]at eout;subst eout;exact .inl ⟨(jj _).1 (zAV _),w _ H2 s2 (.lst hH2 (.inl hHl) (rpre.wk λ p o _ z=>⟨.inl z.1,z.2⟩))⟩
end
section
variable{C:Ct}{pos:Pos}{elt tg iter:Expr}{ifs:List Expr}{sc:Scope}{N:List Str}{js:List (Option Nat)}{ks:List Nat}{fi:En->Rs (List D)}{fg:D->En->Rs En}{ft:En->Rs Bool}{fe:En->Rs D}
def bu{C:Ct}(nd:N.Nodup:=by decide+kernel)(hk:i∈ks:=by decide)(hN:∀j,((C.blk sc N).X j).N[i]? =some x:=by intro _;rfl)(hx:∀j,Loc ((C.blk sc N).X j).env.scope x:=by intro _;first|exact zB1 rfl|exact zBC rfl)
  (hf:∀j,((C.blk sc N).X j).fn x=true\/((C.blk sc N).X j).env.scope.names.lookup x=some .local:=by intro _;first|exact .inl rfl|exact .inr rfl):SG (C.blk sc N) (.Name x pos) ks (gnm i):=
 aX hN hx hf (λ _=>nd) hk
def nD(hi:SI C tg iter fi)(hg:SG (C.blk sc N) tg ks fg)(ht:aHb (C.blk sc N) ifs ft)(he:SE (C.blk sc N) (some []) elt fe)(hs:∀i x,zB9 iter (C.X i).env x=pure x:=by intro _ _;rfl)(hB:∀i,gW (C.X i) sc N (stV js) ks:=by intro _;exact aB4 rfl rfl rfl rfl rfl rfl):SE C (some []) (.ListComp elt [⟨tg,iter,ifs,0⟩] sc pos) (lcD fi js fg ft fe):=by
 obtain⟨wi,i1,i2⟩:=hi;obtain⟨g,g1,g2,g3,g4⟩:=hg;obtain⟨tt,t1,t2⟩:=ht;obtain⟨te,e1,e2⟩:=he;exact⟨_,λ i=>aKn (hB i) (C.calm i) (i1 i) (λ c fp z5 zS=>g1 (i,c,fp,z5,zS)) g3 (λ c fp z5 zS=>t1 (i,c,fp,z5,zS)) (λ c fp z5 zS=>e1 (i,c,fp,z5,zS)) (hs i),aDj i2 g2 t2 e2⟩
def aD7(hi:SI C tg iter fi)(hg:SG (C.blk sc N) tg ks fg)(ht:aHb (C.blk sc N) ifs ft)(he:SE (C.blk sc N) (some []) elt fe)(hN:∀j,(C.X j).N[i]? =some x:=by intro _;rfl)(hx:∀j,Loc (C.X j).env.scope x:=by intro _;first|exact zB1 rfl|exact zBC rfl)(hsw:∀j,zBl (.ListComp elt [⟨tg,iter,ifs,0⟩] sc pos) (some (.Name x pos')) spos.line (C.X j).env=pure true:=by intro _;rfl)(hs:∀i x,zB9 iter (C.X i).env x=pure x:=by intro _ _;rfl)(hf:∀j,(C.X j).fn x=true\/(C.X j).env.scope.names.lookup x=some .local:=by intro _;first|exact .inl rfl|exact .inr rfl)(nd:∀j,(C.X j).N.Nodup:=by intro _;assumption)(hB:∀i,gW (C.X i) sc N (stV js) ks:=by intro _;exact aB4 rfl rfl rfl rfl rfl rfl):
  SV C i (.Assign [.Name x pos'] (.ListComp elt [⟨tg,iter,ifs,0⟩] sc pos) spos) (some []) (lcD fi js fg ft fe):=by
 obtain⟨wi,i1,i2⟩:=hi;obtain⟨g,g1,g2,g3,g4⟩:=hg;obtain⟨tt,t1,t2⟩:=ht;obtain⟨te,e1,e2⟩:=he;exact⟨_,λ j=>zU (nd j) (hN j) (hx j) (hB j) (C.calm j) (i1 j) (λ c fp z5 zS=>g1 (j,c,fp,z5,zS)) g3 (λ c fp z5 zS=>t1 (j,c,fp,z5,zS)) (λ c fp z5 zS=>e1 (j,c,fp,z5,zS)) (hsw j) (hs j) (hf j),aDj i2 g2 t2 e2⟩
end
def RR.mut{K:zAA}(R:RR K G U ρ σ H lab)(ev:σ[i]? =some (some v))(hl:H l=some o)(ho:ie o=true)(kK:(lab l).1=i+2)
  (B:jE l H H')(h':gB K H' lab i v s'):RR K G U (ρ.set i s') σ H' lab:=by
 refine⟨by rw[zBI];exact R.len,λ j x e=>?_,λ b u hb=>B b u (λ z=>?_) (R.old b u hb),R.new,λ q hq=>(R.tm q hq).but B hl ho λ z=>by lia⟩
 .by_cases hj:i=j
  .subst hj
   have hi:i<ρ.length:=by
    have:=(zAO.mp e).1
    rwa [zBI]at this
   rw[zB6 hi]at e;cases e;exact .inr ⟨v,ev,h'⟩
  .rw[zBH hj]at e
   rcases R.sl j x e with z|⟨u,e1,e2⟩
   .exact .inl z
   .refine .inr ⟨u,e1,?_⟩
    cases x with
    |no=>trivial
    |sh d=>exact Rp.but B hl ho (λ z=>by lia) e2
    |nw d=>exact Rp.but B hl ho (λ z=>by lia) e2
    |ow d=>exact⟨Rp.but B hl ho (λ z=>by lia) e2.1,e2.2⟩
    |oz d=>
     obtain⟨a,xs,ds,q1,q2,q3,q4,q5⟩:=e2;exact⟨a,xs,ds,q1,q2,B a _ (λ z=>by subst z;exact hj (by lia)) q3,q4,Rps.but B hl ho (λ z=>by lia) q5⟩
    |o2 ll=>
     obtain⟨a,xs,q1,q2,q3,q4,q5⟩:=e2;refine⟨a,xs,q1,B a _ (λ z=>?_) q2,q3,q4,λ jj y ds f1 f2=>(q5 jj y ds f1 f2).but B hl ho λ z=>?_⟩
     .rw[z]at q3;rw[q3]at kK;exact hj (by simpa using kK.symm)
     .rw[z]at kK;exact hj (by simpa using kK.symm)
 .subst z
  have:=R.new b (by rw[kK];lia)
  rw[this]at hb;cases hb
section
variable{C:Ct}{pos apos cpos p:Pos}{e a:Expr}{fe fa:En->Rs D}{i:Nat}{x:Str}{m:Mode}
def j8(i:Nat)(fe:En->Rs D):En->Ou:=λ ρ=>match ρ[i]? with
 |some (.ow (.lst ds))=>(fe ρ).bo λ d=>if ds.length<zAR then .nx (ρ.set i (.ow (.lst (ds++[d]))))else .st
 |_=>.st
def iC(i:Nat)(he:SE C m e fe)(hm:okN m=true:=by rfl)(hN:∀j,(C.X j).N[i]? =some x:=by intro _;rfl)(hv:∀j,Vis (C.X j).env.scope x:=by intro _;first|exact zB1 rfl|exact zBC (zB1 rfl)|exact zBC (zBC rfl))(hd:Nd x:=by decide)
  (hcd:(x==("__classdict__":Str))=false:=by decide)(hs1:∀j,zAW [e] (C.X j).env=[(false,eval e (C.X j).env)]:=by intro _;rfl)
  (hbase:∀j,zB7 (.Name x p) "append" (C.X j).env (eval (.Name x p) (C.X j).env)=eval (.Name x p) (C.X j).env:=by intro _;rfl)
  (hfew:∀j,((zBp cpos (zAW [e] (C.X j).env)).all (λ x=>!x.1)&&(zDK cpos (zCF [] (C.X j).env)).all (λ x=>x.1.isSome)&&decide ([e].length+([]:List zB2).length+(if ([]:List zB2).isEmpty then 0 else 1)<30))=true:=by intro _;rfl)
  (hline:(apos.endLine==cpos.line)=true:=by rfl)
  (hsw:∀j,zBl (.Call (.Attribute (.Name x p) "append" apos) [e] [] cpos) none pos.line (C.X j).env=pure false:=by intro _;rfl):
  SS C (.Expr (.Call (.Attribute (.Name x p) "append" apos) [e] [] cpos) pos) (j8 i fe):=by
 obtain⟨t,h1,h2⟩:=he;refine⟨sY (tBM C.K "list" o7 (m7 i) (gm t kY)),λ j=>jk (by rw[<-C.hK j];exact uB zBZ zC0 zDJ oE (eF (hN j) (hv j) hd hcd) (cH (h1 j) eN (hs1 j)) (hbase j) (hfew j) hline (hs1 j) rfl) (hsw j),λ U σ H ρ lab De R W=>?_⟩;unfold j8 at W;cases es:ρ[i]? with
 |none=>rw[es]at W;exact zAH W
 |some s=>
  rw[es]at W;split at W
  .rename_i ds hs
   cases hs;rcases R.sl i _ es with z|⟨v,ev,hv'⟩
   .cases z
   .obtain⟨hv1,htop⟩:=hv'
    obtain⟨a0,ea0,la0⟩:=htop rfl;subst ea0;cases hv1 with
    |lst h mm r=>
     rename_i xs;refine⟨.ref a0,ev,.inl ⟨rfl,xs,SqL.of h⟩,h2 U σ H ρ lab _ R (W.bo.imp λ d _ w y H2 s2 r2=>?_)⟩;by_cases hz:ds.length<zAR
     .rw[if_pos hz]at w
      refine⟨a0,xs,y,rfl,rfl,s2 _ _ h,by rw[r.length];exact hz,λ H3 B h3=>?_⟩;obtain⟨R',r'⟩:=R.fresh (P:=λ k=>k=1) rfl (λ k hk=>beq_iff_eq.mp (jJ hm k hk)) s2 r2;have la:(bQ H 1 lab a0).1=i+2:=by rw[bA h];exact la0
      refine w σ H3 _ (R'.mut ev (s2 _ _ h) rfl la B ⟨.lst h3 (.inr la) ?_,λ _=>⟨a0,rfl,la⟩⟩);have ra:Rps C.K (λ p=>((bQ H 1 lab p).1=1\/(bQ H 1 lab p).1=i+2)/\p≠a0) H2 (xs++[y]) (ds++[d]):=by
       refine(r.mono s2 λ p o e z=>⟨by rw[bA e];exact z.1,z.2⟩).append (.cons (r'.wk λ p o e z=>⟨.inl z,λ q=>?_⟩) .nil);subst q;rw[la]at z;lia
      exact ra.but B (s2 _ _ h) rfl λ z=>z.2 rfl
     .rw[if_neg hz]at w
      exact zAH w
  .exact zAH W
def at2(ll:bS):D->Option (Nat×List D)
 | .int n=>(ixN ll.length n).bind λ j=>(ll[j]?).map λ ds=>(j,ds)
 |_=>none
def nO(i:Nat)(fa fe:En->Rs D):En->Ou:=λ ρ=>match ρ[i]? with
 |some (.o2 ll)=>(fa ρ).bo λ k=>match at2 ll k with
  |some (j,ds)=>(fe ρ).bo λ d=>if ds.length<zAR then .nx (ρ.set i (.o2 (ll.set j (ds++[d]))))else .st
  |none=>.st
 |_=>.st
def aF5(h:at2 ll k=some (j,ds)):∃n,k= .int n/\ixN ll.length n=some j/\ll[j]? =some ds:=by
 cases k with
 |int n=>
  simp only[at2,Option.bind_eq_some_iff,zB3]at h;obtain⟨j',h1,ds',h2,h3⟩:=h;cases h3;exact⟨n,rfl,h1,h2⟩
 |_=>cases h
def tB(i:Nat){p2:Pos}(ha:SE C m a fa)(he:SE C (some []) e fe)(hN:∀j,(C.X j).N[i]? =some x:=by intro _;rfl)(hv:∀j,Vis (C.X j).env.scope x:=by intro _;first|exact zB1 rfl|exact zBC (zB1 rfl)|exact zBC (zBC rfl))(hd:Nd x:=by decide)
  (hcd:(x==("__classdict__":Str))=false:=by decide)(hs1:∀j,zAW [e] (C.X j).env=[(false,eval e (C.X j).env)]:=by intro _;rfl)(hp:sJ a:=by exact λ _ _=>rfl)
  (hbase:∀j,zB7 (.Subscript (.Name x p) a p2) "append" (C.X j).env (eval (.Subscript (.Name x p) a p2) (C.X j).env)=eval (.Subscript (.Name x p) a p2) (C.X j).env:=by intro _;rfl)
  (hfew:∀j,((zBp cpos (zAW [e] (C.X j).env)).all (λ x=>!x.1)&&(zDK cpos (zCF [] (C.X j).env)).all (λ x=>x.1.isSome)&&decide ([e].length+([]:List zB2).length+(if ([]:List zB2).isEmpty then 0 else 1)<30))=true:=by intro _;rfl)
  (hline:(apos.endLine==cpos.line)=true:=by rfl)
  (hsw:∀j,zBl (.Call (.Attribute (.Subscript (.Name x p) a p2) "append" apos) [e] [] cpos) none pos.line (C.X j).env=pure false:=by intro _;rfl):
  SS C (.Expr (.Call (.Attribute (.Subscript (.Name x p) a p2) "append" apos) [e] [] cpos) pos) (nO i fa fe):=by
 obtain⟨t,h1,h2⟩:=he;obtain⟨ta,a1,a2⟩:=ha;refine⟨sY (tBM C.K "list" o7 (tOp (aIs C.K) (m7 i) ta) (gm t kY)),λ j=>jk (by rw[<-C.hK j];exact uB zBZ zC0 zDJ oE (aIJ aCI (eF (hN j) (hv j) hd hcd) (a1 j) hp) (cH (h1 j) eN (hs1 j)) (hbase j) (hfew j) hline (hs1 j) rfl) (hsw j),λ U σ H ρ lab De R W=>?_⟩;unfold nO at W;cases es:ρ[i]? with
 |none=>rw[es]at W;exact zAH W
 |some s=>
  rw[es]at W;cases s with
  |o2 ll=>
   dsimp only at W;rcases R.sl i _ es with z|⟨v,ev,top,xs,rfl,ht,hlt,hW,hin⟩
   .cases z
   .refine⟨.ref top,ev,a2 U σ H ρ lab _ R (W.bo.imp λ k _ w kv H1 s1 r1=>?_)⟩
    cases hk:at2 ll k with
    |none=>rw[hk]at w;exact zAH w
    |some q=>
     obtain⟨j,ds⟩:=q;rw[hk]at w;dsimp only at w;obtain⟨n,rfl,hj,hds⟩:=aF5 hk;cases r1;have hjx:∃xj,xs[j]? =some xj:=by
      have:j<xs.length:=by rw[hW];exact(zAO.mp hds).1
      exact⟨_,zAI this⟩
     obtain⟨xj,hxj⟩:=hjx;have hr:=hin j xj ds hxj hds;cases hr with
     |lst hl ml rl=>
      rename_i l ys;refine⟨top,xs,n,.ref l,rfl,rfl,SqL.of (s1 _ _ ht),by unfold atI;rw[hW,hj];exact hxj,.inl ⟨rfl,ys,SqL.of (s1 _ _ hl)⟩,h2 U σ H1 ρ lab _ (R.up s1) (w.bo.imp λ d _ w y H2 s2 r2=>?_)⟩;by_cases hz:ds.length<zAR
      .rw[if_pos hz]at w
       have s12:=s1.trans s2;refine⟨l,ys,y,rfl,rfl,s12 _ _ hl,by rw[rl.length];exact hz,λ H3 B h3=>?_⟩;have ltop:l≠top:=λ e=>by rw[e,hlt]at ml;cases ml
       let lab':Lab:=λ p=>match H1 p with
        |none=>(i+2,j+1)
        |some _=>lab p
       have lo:∀{p o},H1 p=some o->lab' p=lab p:=λ{p o} e=>by show(match H1 p with|none=>_|some _=>_)=_;rw[e]
       have ln:∀{p},H1 p=none->lab' p=(i+2,j+1):=λ{p} e=>by show(match H1 p with|none=>_|some _=>_)=_;rw[e]
       have R':RR C.K C.G U ρ σ H2 lab':=((R.up s1).relab (λ p o e=>lo e) λ p hp=>by
        cases e:H1 p with
        |none=>exact(R.old.trans s1).free e
        |some o=>rw[lo e]at hp;exact R.new p hp).up s2
       have aS:lab' l=(i+2,j+1):=by rw[lo (s1 _ _ hl)];exact ml
       refine w σ H3 lab' (R'.mut ev (s12 _ _ hl) rfl (by rw[aS]) B ⟨top,xs,rfl,B _ _ (zCX ltop) (s12 _ _ ht),by rw[lo (s1 _ _ ht)];exact hlt,by rw[zBI];exact hW,λ jj z dz f1 f2=>?_⟩);by_cases hjj:j=jj
       .subst hjj
        rw[hxj]at f1;cases f1;rw[zB6 (zAO.mp hds).1]at f2;cases f2;refine .lst h3 aS ?_;have ra:Rps C.K (λ p=>lab' p=(i+2,j+1)/\p≠l) H2 (ys++[y]) (ds++[d]):=by
         refine(rl.mono s12 λ p o e z=>⟨by rw[lo (s1 _ _ e)];exact z.1,z.2⟩).append (.cons (r2.wk λ p o e z=>?_) .nil);rcases z with z|z
         .exact⟨ln z,λ q=>by subst q;rw[s1 _ _ hl]at z;cases z⟩
         .cases z
        exact ra.but B (s12 _ _ hl) rfl λ z=>z.2 rfl
       .rw[zBH hjj]at f2
        refine((hin jj z dz f1 f2).mono s12 (A':=λ p=>lab' p=(i+2,jj+1)) λ p o e q=>by rw[lo (s1 _ _ e)];exact q).but B (s12 _ _ hl) rfl λ q=>?_
        rw[aS]at q;simp only[zEC]at q;lia
      .rw[if_neg hz]at w
       exact zAH w
  |_=>exact zAH W
end
mutual
def eqD:D->D->Bool
 | .non,.non=>true
 | .bl a,.bl b=>a==b
 | .bl a,.int b=>(if a then 1 else 0)==b
 | .int a,.bl b=>a==(if b then 1 else 0)
 | .int a,.int b=>a==b
 | .str a,.str b=>a==b
 | .tup l,.tup m=>gj l m
 | .lst l,.lst m=>gj l m
 |_,_=>false
def gj:List D->List D->Bool
 |[],[]=>true
 |x::xs,y::ys=>eqD x y&&gj xs ys
 |_,_=>false
end
mutual
def iB:D->Nat
 | .tup l=>bY l+1
 | .lst l=>bY l+1
 |_=>0
def bY:List D->Nat
 |[]=>0
 |d::r=>max (iB d) (bY r)
end
mutual
def aQ:D->Bool
 | .tup l=>aR l
 | .lst l=>aR l
 | .dct _ _=>false
 | .set _=>false
 | .scr _=>false
 | .fn _=>false
 | .itm _ _=>false
 |_=>true
def aR:List D->Bool
 |[]=>true
 |d::r=>aQ d&&aR r
end
mutual
theorem ik:∀d:D,aQ d=true->eqD d d=true
 | .non,_=>by simp[eqD]
 | .bl b,_=>by simp[eqD]
 | .int i,_=>by simp[eqD]
 | .str x,_=>by simp[eqD]
 | .tup l,h=>by exact fV l (by simpa[aQ]using h)
 | .lst l,h=>by exact fV l (by simpa[aQ]using h)
 | .dct _ _,h=>by simp[aQ]at h
 | .set _,h=>by simp[aQ]at h
 | .scr _,h=>by simp[aQ]at h
theorem fV:∀l:List D,aR l=true->gj l l=true
 |[],_=>by simp[gj]
 |d::r,h=>by
  simp only[aR,zAM]at h;simp only[gj,zAM];exact⟨ik d h.1,fV r h.2⟩
end
structure jb(K:zAA)(H:Hp)(s:zAD):Prop where
 tup:∀{a:Addr} {xs:List V},SqT K H a xs->∃its:List Value,Vals xs its/\s.heap.IsTuple a its.toArray
 lst:∀{a:Addr} {xs:List V},H a=some (.lst xs)->∃its:List Value,Vals xs its/\s.heap.IsList a its.toArray
 inj:∀{a:Addr} {xs ys:List V},SqT K H a xs->SqT K H a ys->xs=ys
 ne:∀{a:Addr} {xs ys:List V},SqT K H a xs->H a=some (.lst ys)->False
def Inv.seqOk(I:L2.Inv X hV σ H s):jb X.K H s where
 tup:=λ h=>let⟨its,r,p,_⟩:=I.tuple h;⟨its,r,p⟩
 lst:=λ h=>let⟨its,r,p,_⟩:=I.list (SqL.of h);⟨its,r,p.isList⟩
 inj:=λ h h'=>I.tuple_inj h h'
 ne:=λ h h'=>by
  obtain⟨its,_,⟨o,e,c,_⟩,_⟩:=I.tuple h;obtain⟨its2,_,⟨o2,n2,e2,c2,_⟩,_⟩:=I.list (SqL.of h');rw[e]at e2;cases e2;rw[c]at c2;injection c2 with c3
  exact absurd c3 (by decide)
section
variable{K:zAA}{H:Hp}{s:zAD}
def ndP:D->Prop
 | .dct _ _=>False
 | .set _=>False
 | .scr _=>False
 | .fn _=>False
 | .itm _ _=>False
 |_=>True
def ndx{d:D}(h:aQ d=true):ndP d:=by cases d<;>first|exact zCO|(simp[aQ]at h)
def bJ(h:aQ (.dct a b)=true):False:=by simp[aQ]at h
def dW(h:aQ (.set a)=true):False:=by simp[aQ]at h
def dX(h:aQ (.scr a)=true):False:=by simp[aQ]at h
def fK(h:aQ (.fn a)=true):False:=by simp[aQ]at h
def dY(h:aQ (.itm o a)=true):False:=by simp[aQ]at h
def iG(h:aQ (.tup a)=true):aR a=true:=by simpa[aQ]using h
def iH(h:aQ (.lst a)=true):aR a=true:=by simpa[aQ]using h
def jK(h:aR (d::a)=true):aQ d=true/\aR a=true:=by
 simp only[aR,zAM]at h;exact h
def aHf(K:zAA)(s:zAD)(H:Hp)(x:V)(d:D):Prop:=jb K H s->∀(A':Addr->Prop) (e:D),Rp K A' H x e->aQ d=true->aQ e=true->d=e
def aAY(K:zAA)(s:zAD)(H:Hp)(xs:List V)(ds:List D):Prop:=jb K H s->∀(A':Addr->Prop) (es:List D),Rps K A' H xs es->aR ds=true->aR es=true->ds=es
def aHE(ha:SqT K H a xs)(ih:aAY K s H xs ds):aHf K s H (.ref a) (.tup ds):=λ ok A' e h n1 n2=>by
 cases h with
 |tup hb r'=>
  have e:=ok.inj ha hb;subst e;rw[ih ok _ _ r' (iG n1) (iG n2)]
 |lst hb _ _=>exact(ok.ne ha hb).elim
 |_=>exact zAH (ndx n2)
def aHF(ha:H a=some (.lst xs))(ih:aAY K s H xs ds):aHf K s H (.ref a) (.lst ds):=λ ok A' e h n1 n2=>by
 cases h with
 |tup hb r'=>exact(ok.ne hb ha).elim
 |lst hb _ r'=>
  rw[ha]at hb;cases hb;rw[ih ok _ _ r' (iH n1) (iH n2)]
 |_=>exact zAH (ndx n2)
def aEy(h1:aHf K s H x d)(h2:aAY K s H xs ds):aAY K s H (x::xs) (d::ds):=λ ok A' es h n1 n2=>by
 cases h with
 |cons k r'=>rw[h1 ok _ _ k (jK n1).1 (jK n2).1,h2 ok _ _ r' (jK n1).2 (jK n2).2]
def Rp.inj(ok:jb K H s)(r:Rp K A H x d)(h:Rp K A' H x e)(n1:aQ d=true)(n2:aQ e=true):d=e:=
 Rp.rec (motive_1:=λ _ H x d _=>aHf K s H x d) (motive_2:=λ _ H xs ds _=>aAY K s H xs ds)
  (λ _ _ _ h _ _=>by cases h;rfl) (λ _ _ _ _ h _ _=>by cases h;rfl) (λ _ _ _ _ h _ _=>by cases h;rfl) (λ _ _ _ _ h _ _=>by cases h;rfl) (λ ha _ ih=>aHE ha ih) (λ ha _ _ ih=>aHF ha ih)
  (λ _ _ _ _ _ _ _ _ n1 _=>(bJ n1).elim) (λ _ _ _ _ _ _ _ _ n1 _=>(bJ n1).elim) (λ _ _ _ _ _ _ _ _ n1 _=>(dW n1).elim) (λ _ _ _ _ _ n1 _=>(dX n1).elim) (λ _ _ _ _ _ n1 _=>(fK n1).elim) (λ _ _ _ _ _ n1 _=>(dY n1).elim)
  (λ _ _ _ h _ _=>by cases h;rfl) (λ _ _ h1 h2=>aEy h1 h2) r ok A' e h n1 n2
end
theorem lu:∀(l m:List D),gj l m=((zBE (min l.length m.length)).all (λ j=>match l[j]?,m[j]? with|some a,some b=>eqD a b|_,_=>true)&&l.length==m.length)
 |[],[]=>by simp[gj]
 |[],y::ys=>by simp[gj]
 |x::xs,[]=>by simp[gj]
 |x::xs,y::ys=>by
  have ih:=lu xs ys;simp only[gj,ih,zA4,zHA,zFq,zCs,zGD,zDV,zEF,zDU,zG5,zHW,zDy];congr 1;congr 1;simp
theorem jY:∀{l:List D} {d:D},d∈l->iB d<=bY l
 |x::r,d,h=>by
  simp only[bY];rcases zAQ.mp h with rfl|h
  .exact zDq _ _
  .exact zAf (jY h) (zD8 _ _)
theorem eQ:∀{l:List D} {d:D},d∈l->aR l=true->aQ d=true
 |x::r,d,h,n=>by
  simp only[aR,zAM]at n;rcases zAQ.mp h with rfl|h
  .exact n.1
  .exact eQ h n.2
def cZ(hn:n=ds.length)(hm:m=es.length):((zBE (min n m)).all (λ j=>match ds[j]?,es[j]? with|some a,some b=>eqD a b|_,_=>true)&&n==m)=gj ds es:=by
 subst hn hm;exact(lu ds es).symm
section
variable{K:zAA}{H:Hp}{s:zAD}
def aFc(K:zAA)(H:Hp)(s:zAD)(n:Nat):Prop:=∀(A1 A2:Addr->Prop) (x y:V) (d e:D) (A:zA8) (u v:Value),Rp K A1 H x d->Rp K A2 H y e->RelV x u->RelV y v->iB d<=n->aQ d=true->aQ e=true->A.units+n<cLine->zBk A s u v (eqD d e)
def aFd(K:zAA)(H:Hp)(s:zAD)(n:Nat):Prop:=∀(A1 A2:Addr->Prop) (xs ys:List V) (ds es:List D) (A:zA8) (us vs:List Value),Rps K A1 H xs ds->Rps K A2 H ys es->Vals xs us->Vals ys vs->bY ds<=n->aR ds=true->aR es=true->A.units+n<cLine->
  ∀(j:Nat) (h1:j<us.toArray.size) (h2:j<vs.toArray.size),zBk A s us.toArray[j] vs.toArray[j] (match ds[j]?,es[j]? with|some a,some b=>eqD a b|_,_=>true)
def ul(ok:jb K H s)(n:Nat)(IH:∀k,n=k+1->aFd K H s k):aFc K H s n:=by
 intro A1 A2 x y d e A u v r1 r2 ru rv hd nd ne hu;have hu0:A.units<cLine:=by lia
 cases r1 with
 |tup h1 q1=>
  rename_i a xs ds;cases ru;obtain⟨its,w1,t1⟩:=ok.tup h1;cases r2 with
  |tup h2 q2=>
   rename_i b ys es;cases rv;obtain⟨its2,w2,t2⟩:=ok.tup h2;by_cases hab:a=b
   .subst hab
    have e:=Rp.inj ok (Rp.tup h1 q1) (Rp.tup h2 q2) nd ne;rw[<-e,ik _ nd];exact zCS _
   .simp only[iB]at hd
    obtain⟨k,rfl⟩:∃k,n=k+1:=⟨n-1,by lia⟩
    have z:=zDv t1 t2 hu0 (IH k rfl _ _ _ _ _ _ _ _ _ q1 q2 w1 w2 (by lia) (iG nd) (iG ne) (by show A.units+1+k<cLine;lia));rw[cZ (by rw[zAL,<-w1.length,q1.length]) (by rw[zAL,<-w2.length,q2.length])]at z;simp only[eqD];exact zBu hab z
  |lst h2 mm2 q2=>
   cases rv;obtain⟨its2,w2,t2⟩:=ok.lst h2;simp only[eqD];exact zEv t1 t2 hu0
  |non=>cases rv;exact zEw t1 hu0
  |bl b=>cases rv;exact zEu b t1 hu0
  |int i=>obtain⟨tk,rfl⟩:=rv;exact zFR i tk t1 hu0
  |str i=>obtain⟨tk,rfl⟩:=rv;exact zFS i tk t1 hu0
  |_=>exact zAH (ndx ne)
 |lst h1 mm1 q1=>
  rename_i a xs ds;cases ru;obtain⟨its,w1,t1⟩:=ok.lst h1;cases r2 with
  |lst h2 mm2 q2=>
   rename_i b ys es;cases rv;obtain⟨its2,w2,t2⟩:=ok.lst h2;by_cases hab:a=b
   .subst hab
    have e:=Rp.inj ok (Rp.lst h1 mm1 q1) (Rp.lst h2 mm2 q2) nd ne;rw[<-e,ik _ nd];exact zCS _
   .simp only[iB]at hd
    obtain⟨k,rfl⟩:∃k,n=k+1:=⟨n-1,by lia⟩
    have l1:its.toArray.size=ds.length:=by rw[zAL,<-w1.length,q1.length]
    have l2:its2.toArray.size=es.length:=by rw[zAL,<-w2.length,q2.length]
    by_cases hl:its.toArray.size=its2.toArray.size
    .have z:=zEJ t1 t2 hl hu0 (IH k rfl _ _ _ _ _ _ _ _ _ q1 q2 w1 w2 (by lia) (iH nd) (iH ne) (by show A.units+1+k<cLine;lia))
     have z':=cZ (ds:=ds) (es:=es) l1 l2;rw[<-hl,zDr,beq_self_eq_true,zCr]at z';rw[z']at z;simp only[eqD];exact zBu hab z
    .have z:=zCz t1 t2 (by simpa using hl) hu0
     have z':=cZ (ds:=ds) (es:=es) l1 l2;rw[beq_eq_false_iff_ne.mpr hl,zC9]at z';simp only[eqD];rw[<-z'];exact zBu hab z
  |tup h2 q2=>
   cases rv;obtain⟨its2,w2,t2⟩:=ok.tup h2;simp only[eqD];exact zEs t1 t2 hu0
  |non=>cases rv;exact zFN t1 hu0
  |bl b=>cases rv;exact zFM b t1 hu0
  |int i=>obtain⟨tk,rfl⟩:=rv;exact zF5 i tk t1 hu0
  |str i=>obtain⟨tk,rfl⟩:=rv;exact zF6 i tk t1 hu0
  |_=>exact zAH (ndx ne)
 |non=>
  cases ru;cases r2 with
  |tup h2 q2=>cases rv;obtain⟨_,_,t2⟩:=ok.tup h2;exact zEt t2 hu0
  |lst h2 mm2 q2=>cases rv;obtain⟨_,_,t2⟩:=ok.lst h2;exact zFP t2 hu0
  |dK _ _ _=>exact(bJ ne).elim
  |dT _ _ _=>exact(bJ ne).elim
  |set _ _ _ _=>exact(dW ne).elim
  |scr _=>exact(dX ne).elim
  |fn _=>exact(fK ne).elim
  |itm _=>exact(dY ne).elim
  |non=>cases rv;exact zCS _
  |bl b=>cases rv;exact zFO b
  |int i=>obtain⟨tk,rfl⟩:=rv;exact zF7 i tk
  |str i=>obtain⟨tk,rfl⟩:=rv;exact zF8 i tk
 |bl a=>
  cases ru;cases r2 with
  |tup h2 q2=>cases rv;obtain⟨_,_,t2⟩:=ok.tup h2;exact zEr a t2 hu0
  |lst h2 mm2 q2=>cases rv;obtain⟨_,_,t2⟩:=ok.lst h2;exact zFJ a t2 hu0
  |dK _ _ _=>exact(bJ ne).elim
  |dT _ _ _=>exact(bJ ne).elim
  |set _ _ _ _=>exact(dW ne).elim
  |scr _=>exact(dX ne).elim
  |fn _=>exact(fK ne).elim
  |itm _=>exact(dY ne).elim
  |non=>cases rv;exact zFK a
  |bl b=>cases rv;exact zFI a b
  |int i=>obtain⟨tk,rfl⟩:=rv;exact zF0 a i tk
  |str i=>obtain⟨tk,rfl⟩:=rv;exact zF1 a i tk
 |int a=>
  obtain⟨tu,rfl⟩:=ru;cases r2 with
  |tup h2 q2=>cases rv;obtain⟨_,_,t2⟩:=ok.tup h2;exact zFL a tu t2 hu0
  |lst h2 mm2 q2=>cases rv;obtain⟨_,_,t2⟩:=ok.lst h2;exact zF3 a tu t2 hu0
  |dK _ _ _=>exact(bJ ne).elim
  |dT _ _ _=>exact(bJ ne).elim
  |set _ _ _ _=>exact(dW ne).elim
  |scr _=>exact(dX ne).elim
  |fn _=>exact(fK ne).elim
  |itm _=>exact(dY ne).elim
  |non=>cases rv;exact zF4 a tu
  |bl b=>cases rv;exact zF2 a tu b
  |int i=>obtain⟨tk,rfl⟩:=rv;exact zDi a tu i tk
  |str i=>obtain⟨tk,rfl⟩:=rv;exact zDj a tu i tk
 |str a=>
  obtain⟨tu,rfl⟩:=ru;cases r2 with
  |tup h2 q2=>cases rv;obtain⟨_,_,t2⟩:=ok.tup h2;exact zFQ a tu t2 hu0
  |lst h2 mm2 q2=>cases rv;obtain⟨_,_,t2⟩:=ok.lst h2;exact zFa a tu t2 hu0
  |dK _ _ _=>exact(bJ ne).elim
  |dT _ _ _=>exact(bJ ne).elim
  |set _ _ _ _=>exact(dW ne).elim
  |scr _=>exact(dX ne).elim
  |fn _=>exact(fK ne).elim
  |itm _=>exact(dY ne).elim
  |non=>cases rv;exact zFb a tu
  |bl b=>cases rv;exact zF9 a tu b
  |int i=>obtain⟨tk,rfl⟩:=rv;exact zDk a tu i tk
  |str i=>obtain⟨tk,rfl⟩:=rv;exact zFh a tu i tk
 |_=>exact zAH (ndx nd)
def wB(ok:jb K H s)(n:Nat)(IH:aFc K H s n):aFd K H s n:=by
 intro A1 A2 xs ys ds es A us vs q1 q2 w1 w2 hd nd ne hu j h1 h2;have hj1:j<us.length:=by simpa using h1
 have hj2:j<vs.length:=by simpa using h2
 have hx:j<xs.length:=by rw[w1.length];exact hj1
 have hy:j<ys.length:=by rw[w2.length];exact hj2
 have ex:=zAI hx;have ey:=zAI hy;obtain⟨d,ed,rd⟩:=q1.get ex;obtain⟨e,ee,re⟩:=q2.get ey;obtain⟨u,eu,ru⟩:=w1.get ex;obtain⟨v,ev,rv⟩:=w2.get ey;have e1:us.toArray[j]=u:=by
  rw[zCl];exact zAg ((zAI hj1).symm.trans eu)
 have e2:vs.toArray[j]=v:=by
  rw[zCl];exact zAg ((zAI hj2).symm.trans ev)
 rw[e1,e2,ed,ee];exact IH _ _ _ _ _ _ _ _ _ rd re ru rv (zAf (jY (zAl ed)) hd) (eQ (zAl ed) nd) (eQ (zAl ee) ne) hu
theorem aFU(ok:jb K H s):∀n,aFc K H s n
 |0=>ul ok 0 λ k h=>absurd h (by simp)
 |n+1=>ul ok (n+1) λ k h=>by
  have h':=zGz h;subst h';exact wB ok n (aFU ok n)
def yO(ok:jb K H s):∀{A1 A2:Addr->Prop} {x y:V} {d e:D} (n:Nat) {A:zA8} {u v:Value},Rp K A1 H x d->Rp K A2 H y e->RelV x u->RelV y v->iB d<=n->aQ d=true->aQ e=true->A.units+n<cLine->zBk A s u v (eqD d e)
 |_,_,_,_,_,_,n,A,u,v,r1,r2,ru,rv,hd,nd,ne,hu=>aFU ok n _ _ _ _ _ _ _ _ _ r1 r2 ru rv hd nd ne hu
def zz(ok:jb K H s):∀{A1 A2:Addr->Prop} {xs ys:List V} {ds es:List D} (n:Nat) {A:zA8} {us vs:List Value},Rps K A1 H xs ds->Rps K A2 H ys es->Vals xs us->Vals ys vs->bY ds<=n->aR ds=true->aR es=true->A.units+n<cLine->
  ∀(j:Nat) (h1:j<us.toArray.size) (h2:j<vs.toArray.size),zBk A s us.toArray[j] vs.toArray[j] (match ds[j]?,es[j]? with|some a,some b=>eqD a b|_,_=>true)
 |_,_,xs,ys,ds,es,n,A,us,vs,q1,q2,w1,w2,hd,nd,ne,hu,j,h1,h2=>wB ok n (aFU ok n) _ _ _ _ _ _ _ _ _ q1 q2 w1 w2 hd nd ne hu j h1 h2
def aEE(ok:jb K H s)(n:Nat)(r1:Rp K A1 H x d)(r2:Rp K A2 H y e)(ru:RelV x u)(rv:RelV y v)(hd:iB d<=n)(nd:aQ d=true)(ne:aQ e=true)(hu:A.units+n<cLine):
  SeqAt.RcAt A s u v (eqD d e)/\SeqAt.RcNeAt A s u v (!eqD d e):=by
 have hu0:A.units<cLine:=by lia
 cases r1 with
 |tup h1 q1=>
  rename_i a xs ds;cases ru;obtain⟨its,w1,t1⟩:=ok.tup h1;cases r2 with
  |tup h2 q2=>
   rename_i b ys es;cases rv;obtain⟨its2,w2,t2⟩:=ok.tup h2;simp only[iB]at hd;obtain⟨k,rfl⟩:∃k,n=k+1:=⟨n-1,by lia⟩
   have he:=zz ok (A:=A.in1) k q1 q2 w1 w2 (by lia) (iG nd) (iG ne) (by show A.units+1+k<cLine;lia);have z:=zDv t1 t2 hu0 he;have z2:=SeqAt.RcNeAt.tuples t1 t2 hu0 he;rw[cZ (by rw[zAL,<-w1.length,q1.length]) (by rw[zAL,<-w2.length,q2.length])]at z z2;simp only[eqD];exact⟨z,z2⟩
  |lst h2 mm2 q2=>
   cases rv;obtain⟨its2,w2,t2⟩:=ok.lst h2;simp only[eqD];exact⟨SeqAt.RcAt.tuple_list t1 t2 hu0,SeqAt.RcNeAt.tuple_list t1 t2 hu0⟩
  |non=>cases rv;exact⟨SeqAt.RcAt.tuple_none t1 hu0,SeqAt.RcNeAt.tuple_none t1 hu0⟩
  |bl b=>cases rv;exact⟨SeqAt.RcAt.tuple_bool b t1 hu0,SeqAt.RcNeAt.tuple_bool b t1 hu0⟩
  |int i=>obtain⟨tk,rfl⟩:=rv;exact⟨SeqAt.RcAt.tuple_int i tk t1 hu0,SeqAt.RcNeAt.tuple_int i tk t1 hu0⟩
  |str i=>obtain⟨tk,rfl⟩:=rv;exact⟨SeqAt.RcAt.tuple_str i tk t1 hu0,SeqAt.RcNeAt.tuple_str i tk t1 hu0⟩
  |_=>exact zAH (ndx ne)
 |lst h1 mm1 q1=>
  rename_i a xs ds;cases ru;obtain⟨its,w1,t1⟩:=ok.lst h1;cases r2 with
  |lst h2 mm2 q2=>
   rename_i b ys es;cases rv;obtain⟨its2,w2,t2⟩:=ok.lst h2;simp only[iB]at hd;obtain⟨k,rfl⟩:∃k,n=k+1:=⟨n-1,by lia⟩
   have l1:its.toArray.size=ds.length:=by rw[zAL,<-w1.length,q1.length]
   have l2:its2.toArray.size=es.length:=by rw[zAL,<-w2.length,q2.length]
   have z':=cZ (ds:=ds) (es:=es) l1 l2;by_cases hl:its.toArray.size=its2.toArray.size
   .have he:=zz ok (A:=A.in1) k q1 q2 w1 w2 (by lia) (iH nd) (iH ne) (by show A.units+1+k<cLine;lia)
    have z:=zEJ t1 t2 hl hu0 he;have z2:=SeqAt.RcNeAt.lists t1 t2 hl hu0 he;rw[<-hl,zDr,beq_self_eq_true,zCr]at z';rw[z']at z z2;simp only[eqD];exact⟨z,z2⟩
   .rw[beq_eq_false_iff_ne.mpr hl,zC9]at z'
    simp only[eqD];rw[<-z'];exact⟨zCz t1 t2 (by simpa using hl) hu0,SeqAt.RcNeAt.lists_lengths t1 t2 (by simpa using hl) hu0⟩
  |tup h2 q2=>
   cases rv;obtain⟨its2,w2,t2⟩:=ok.tup h2;simp only[eqD];exact⟨SeqAt.RcAt.list_tuple t1 t2 hu0,SeqAt.RcNeAt.list_tuple t1 t2 hu0⟩
  |non=>cases rv;exact⟨SeqAt.RcAt.list_none t1 hu0,SeqAt.RcNeAt.list_none t1 hu0⟩
  |bl b=>cases rv;exact⟨SeqAt.RcAt.list_bool b t1 hu0,SeqAt.RcNeAt.list_bool b t1 hu0⟩
  |int i=>obtain⟨tk,rfl⟩:=rv;exact⟨SeqAt.RcAt.list_int i tk t1 hu0,SeqAt.RcNeAt.list_int i tk t1 hu0⟩
  |str i=>obtain⟨tk,rfl⟩:=rv;exact⟨SeqAt.RcAt.list_str i tk t1 hu0,SeqAt.RcNeAt.list_str i tk t1 hu0⟩
  |_=>exact zAH (ndx ne)
 |non=>
  cases ru;cases r2 with
  |tup h2 q2=>cases rv;obtain⟨_,_,t2⟩:=ok.tup h2;exact⟨SeqAt.RcAt.none_tuple t2 hu0,SeqAt.RcNeAt.none_tuple t2 hu0⟩
  |lst h2 mm2 q2=>cases rv;obtain⟨_,_,t2⟩:=ok.lst h2;exact⟨SeqAt.RcAt.none_list t2 hu0,SeqAt.RcNeAt.none_list t2 hu0⟩
  |dK _ _ _=>exact(bJ ne).elim
  |dT _ _ _=>exact(bJ ne).elim
  |set _ _ _ _=>exact(dW ne).elim
  |scr _=>exact(dX ne).elim
  |fn _=>exact(fK ne).elim
  |itm _=>exact(dY ne).elim
  |non=>cases rv;exact⟨SeqAt.RcAt.none_none,SeqAt.RcNeAt.none_none⟩
  |bl b=>cases rv;exact⟨SeqAt.RcAt.none_bool b,SeqAt.RcNeAt.none_bool b⟩
  |int i=>obtain⟨tk,rfl⟩:=rv;exact⟨SeqAt.RcAt.none_int i tk,SeqAt.RcNeAt.none_int i tk⟩
  |str i=>obtain⟨tk,rfl⟩:=rv;exact⟨SeqAt.RcAt.none_str i tk,SeqAt.RcNeAt.none_str i tk⟩
 |bl a=>
  cases ru;cases r2 with
  |tup h2 q2=>cases rv;obtain⟨_,_,t2⟩:=ok.tup h2;exact⟨SeqAt.RcAt.bool_tuple a t2 hu0,SeqAt.RcNeAt.bool_tuple a t2 hu0⟩
  |lst h2 mm2 q2=>cases rv;obtain⟨_,_,t2⟩:=ok.lst h2;exact⟨SeqAt.RcAt.bool_list a t2 hu0,SeqAt.RcNeAt.bool_list a t2 hu0⟩
  |dK _ _ _=>exact(bJ ne).elim
  |dT _ _ _=>exact(bJ ne).elim
  |set _ _ _ _=>exact(dW ne).elim
  |scr _=>exact(dX ne).elim
  |fn _=>exact(fK ne).elim
  |itm _=>exact(dY ne).elim
  |non=>cases rv;exact⟨SeqAt.RcAt.bool_none a,SeqAt.RcNeAt.bool_none a⟩
  |bl b=>cases rv;exact⟨SeqAt.RcAt.bool_bool a b,SeqAt.RcNeAt.bool_bool a b⟩
  |int i=>obtain⟨tk,rfl⟩:=rv;exact⟨SeqAt.RcAt.bool_int a i tk,SeqAt.RcNeAt.bool_int a i tk⟩
  |str i=>obtain⟨tk,rfl⟩:=rv;exact⟨SeqAt.RcAt.bool_str a i tk,SeqAt.RcNeAt.bool_str a i tk⟩
 |int a=>
  obtain⟨tu,rfl⟩:=ru;cases r2 with
  |tup h2 q2=>cases rv;obtain⟨_,_,t2⟩:=ok.tup h2;exact⟨SeqAt.RcAt.int_tuple a tu t2 hu0,SeqAt.RcNeAt.int_tuple a tu t2 hu0⟩
  |lst h2 mm2 q2=>cases rv;obtain⟨_,_,t2⟩:=ok.lst h2;exact⟨SeqAt.RcAt.int_list a tu t2 hu0,SeqAt.RcNeAt.int_list a tu t2 hu0⟩
  |dK _ _ _=>exact(bJ ne).elim
  |dT _ _ _=>exact(bJ ne).elim
  |set _ _ _ _=>exact(dW ne).elim
  |scr _=>exact(dX ne).elim
  |fn _=>exact(fK ne).elim
  |itm _=>exact(dY ne).elim
  |non=>cases rv;exact⟨SeqAt.RcAt.int_none a tu,SeqAt.RcNeAt.int_none a tu⟩
  |bl b=>cases rv;exact⟨SeqAt.RcAt.int_bool a tu b,SeqAt.RcNeAt.int_bool a tu b⟩
  |int i=>obtain⟨tk,rfl⟩:=rv;exact⟨SeqAt.RcAt.int_int a tu i tk,SeqAt.RcNeAt.int_int a tu i tk⟩
  |str i=>obtain⟨tk,rfl⟩:=rv;exact⟨SeqAt.RcAt.int_str a tu i tk,SeqAt.RcNeAt.int_str a tu i tk⟩
 |str a=>
  obtain⟨tu,rfl⟩:=ru;cases r2 with
  |tup h2 q2=>cases rv;obtain⟨_,_,t2⟩:=ok.tup h2;exact⟨SeqAt.RcAt.str_tuple a tu t2 hu0,SeqAt.RcNeAt.str_tuple a tu t2 hu0⟩
  |lst h2 mm2 q2=>cases rv;obtain⟨_,_,t2⟩:=ok.lst h2;exact⟨SeqAt.RcAt.str_list a tu t2 hu0,SeqAt.RcNeAt.str_list a tu t2 hu0⟩
  |dK _ _ _=>exact(bJ ne).elim
  |dT _ _ _=>exact(bJ ne).elim
  |set _ _ _ _=>exact(dW ne).elim
  |scr _=>exact(dX ne).elim
  |fn _=>exact(fK ne).elim
  |itm _=>exact(dY ne).elim
  |non=>cases rv;exact⟨SeqAt.RcAt.str_none a tu,SeqAt.RcNeAt.str_none a tu⟩
  |bl b=>cases rv;exact⟨SeqAt.RcAt.str_bool a tu b,SeqAt.RcNeAt.str_bool a tu b⟩
  |int i=>obtain⟨tk,rfl⟩:=rv;exact⟨SeqAt.RcAt.str_int a tu i tk,SeqAt.RcNeAt.str_int a tu i tk⟩
  |str i=>obtain⟨tk,rfl⟩:=rv;exact⟨SeqAt.RcAt.str_str a tu i tk,SeqAt.RcNeAt.str_str a tu i tk⟩
 |_=>exact zAH (ndx nd)
end
section
variable{K:zAA}{H:Hp}{s:zAD}
open Classical in
def mq(K:zAA)(H:Hp)(d:D)(u:Value):Bool:=if h:∃e,aQ e=true/\∃y,RelV y u/\Rp K (λ _=>True) H y e then eqD (choose h) d else false
def pC(ok:jb K H s)(r:RelV y u)(h:Rp K A H y e)(ne:aQ e=true):mq K H d u=eqD e d:=by
 have hx:∃e,aQ e=true/\∃y,RelV y u/\Rp K (λ _=>True) H y e:=⟨e,ne,y,r,h.wk λ _ _ _ _=>trivial⟩
 unfold mq;rw[dif_pos hx];obtain⟨n',y',r',h'⟩:=zEy hx;have e1:=RelV.inj r r';subst e1;rw[Rp.inj ok h' h n' ne]
def inD(d:D)(es:List D):Bool:=es.any λ e=>eqD e d
def aAU(ok:jb K H s):∀{A:Addr->Prop} {xs:List V} {es:List D} {us:List Value},Rps K A H xs es->Vals xs us->aR es=true->us.any (mq K H d)=inD d es:=by
 intro A xs es us h v n;induction v generalizing es with
 |nil=>cases h;rfl
 |cons k t ih=>
  cases h with
  |cons h r=>
   simp only[aR,zAM]at n;unfold inD;rw[zCL,zCL,pC ok k h n.1,ih r n.2];rfl
def pJ(ok:jb K H s)(rx:Rp K A0 H x d)(rv:RelV x v)(hu:A.units+n<cLine)(nd:aQ d=true):∀{A1:Addr->Prop} {xs:List V} {es:List D} {us:List Value},Rps K A1 H xs es->Vals xs us->bY es<=n->aR es=true->∀u∈us,zBk A s u v (mq K H d u):=by
 intro A1 xs es us h v' hd ne u hm;induction v' generalizing es with
 |nil=>cases hm
 |cons k t ih=>
  cases h with
  |cons h r=>
   simp only[bY]at hd;simp only[aR,zAM]at ne;rcases zAQ.mp hm with z|z
   .subst z
    rw[pC ok k h ne.1];exact yO ok n h rx k rv (zAf (zDq _ _) hd) ne.1 nd hu
   .exact ih r (zAf (zD8 _ _) hd) ne.2 z
end
section
variable{X:Cx}
def aEG(K:zAA)(neg:Bool):R2:=λ x y H Q=>∃A B d e,Rp K A H x d/\Rp K B H y e/\iB d<=60/\aQ d=true/\aQ e=true/\Q (.bl (if neg then !eqD d e else eqD d e)) H
def aJ3(hu:X.A.units+64<cLine):OpR X (zAw .Eq) (aEG X.K false):=by
 intro hV s σ H x y v u Q I rx ry h;obtain⟨A,B,d,e,r1,r2,hd,nd,ne,q⟩:=h;exact(aEE (Inv.seqOk I) 60 r1 r2 rx ry hd nd ne (by lia)).1 X.prog X.w X.xe _ ⟨.bl (eqD d e),H,I,rfl,q⟩
def aJU(hu:X.A.units+64<cLine):OpR X (zAw .NotEq) (aEG X.K true):=by
 intro hV s σ H x y v u Q I rx ry h;obtain⟨A,B,d,e,r1,r2,hd,nd,ne,q⟩:=h;exact(aEE (Inv.seqOk I) 60 r1 r2 rx ry hd nd ne (by lia)).2 X.prog X.w X.xe _ ⟨.bl (!eqD d e),H,I,rfl,q⟩
def aGM(K:zAA)(neg:Bool):R2:=λ x y H Q=>∃A B d a es,Rp K A H x d/\y= .ref a/\(Rp K B H (.ref a) (.lst es)\/Rp K B H (.ref a) (.tup es))/\bY es<=60/\aQ d=true/\aR es=true/\Q (.bl (if neg then !inD d es else inD d es)) H
def aCo(hu:X.A.units+64<cLine):OpR X (zAw .NotIn) (aGM X.K true):=by
 intro hV s σ H x y v u Q I rx ry h;obtain⟨A,B,d,a,es,rd,rfl,ra,hd,nd,ne,q⟩:=h;cases ry;have ok:=Inv.seqOk I;have hu1:X.A.in1.units+60<cLine:=by show X.A.units+1+60<cLine;lia
 rcases ra with ra|ra
 .cases ra with
  |lst ha _ r=>
   obtain⟨its,rv,tl⟩:=ok.lst ha;refine SeqAt.notIn_listAt (mq X.K H d) tl (λ w hw=>pJ ok rd rx hu1 nd r rv hd ne w (by simpa using hw)) ⟨.bl _,H,I,rfl,?_⟩;rw[show its.toArray.any (mq X.K H d)=its.any (mq X.K H d)by simp,aAU ok r rv ne];exact q
 .cases ra with
  |tup ha r=>
   obtain⟨its,rv,tl⟩:=ok.tup ha;refine SeqAt.notIn_tupleAt (mq X.K H d) tl (λ w hw=>pJ ok rd rx hu1 nd r rv hd ne w (by simpa using hw)) ⟨.bl _,H,I,rfl,?_⟩;rw[show its.toArray.any (mq X.K H d)=its.any (mq X.K H d)by simp,aAU ok r rv ne];exact q
end
section
variable{K:zAA}
def eqR(neg:Bool):D->D->Rs D:=λ d e=>if decide (iB d<=60)&&aQ d&&aQ e then .ok (.bl (if neg then !eqD d e else eqD d e))else .st
def inR(neg:Bool):D->D->Rs D:=λ d e=>match e with
 | .lst es=>if decide (bY es<=60)&&aQ d&&aR es then .ok (.bl (if neg then !inD d es else inD d es))else .st
 | .tup es=>if decide (bY es<=60)&&aQ d&&aR es then .ok (.bl (if neg then !inD d es else inD d es))else .st
 |_=>.st
def os_eq:OpS K (aEG K n) (eqR n):=by
 intro A x y d e H Q z rx ry ez q;unfold eqR at ez;split at ez
 .rename_i h
  simp only[zAM,decide_eq_true_eq]at h;cases ez;exact⟨A,A,d,e,rx,ry,h.1.1,h.1.2,h.2,q _ H (aV.refl H) (.bl _)⟩
 .cases ez
def aIM:OpS K (aGM K n) (inR n):=by
 intro A x y d e H Q z rx ry ez q;unfold inR at ez;split at ez
 .split at ez
  .rename_i h
   simp only[zAM,decide_eq_true_eq]at h;cases ez;cases ry with
   |lst ha mm r=>exact⟨A,A,d,_,_,rx,rfl,.inl (.lst ha mm r),h.1.1,h.1.2,h.2,q _ H (aV.refl H) (.bl _)⟩
  .cases ez
 .split at ez
  .rename_i h
   simp only[zAM,decide_eq_true_eq]at h;cases ez;cases ry with
   |tup ha r=>exact⟨A,A,d,_,_,rx,rfl,.inr (.tup ha r),h.1.1,h.1.2,h.2,q _ H (aV.refl H) (.bl _)⟩
  .cases ez
 .cases ez
def aFE:∀x y z,eqR n x y= .ok z->imm z=true:=by
 intro x y z e;unfold eqR at e;split at e
 .cases e;rfl
 .cases e
end
section
variable{K:zAA}
def boolsOf:List D->Option (List Bool)
 |[]=>some []
 | .bl i::r=>(boolsOf r).map (i::·)
 |_=>none
theorem pI:∀{l:List D} {ns:List Bool},boolsOf l=some ns->l=ns.map .bl
 |[],ns,h=>by cases h;rfl
 | .bl i::r,ns,h=>by
  simp only[boolsOf,zB3]at h;obtain⟨ms,h1,rfl⟩:=h;rw[pI h1];rfl
 | .non::_,_,h=>by cases h
 | .int _::_,_,h=>by cases h
 | .str _::_,_,h=>by cases h
 | .tup _::_,_,h=>by cases h
 | .lst _::_,_,h=>by cases h
 | .dct _ _::_,_,h=>by cases h
 | .set _::_,_,h=>by cases h
 | .scr _::_,_,h=>by cases h
theorem rC:∀ns:List Bool,boolsOf (ns.map .bl)=some ns
 |[]=>rfl
 |n::ns=>by simp only[zAC,boolsOf,rC ns,zDa]
theorem wL{X:Cx}:∀{bs:List Bool} {us:List Value},Vals (bs.map V.bl) us->LSm.BoolsAre us bs
 |[],_,.nil=>.nil
 |b::bs,_,.cons r t=>by
  have e:_=zDl b:=r;subst e;exact .cons b (wL (X:=X) t)
theorem Rps.bools_of:∀{xs:List V} {bs:List Bool},Rps K A H xs (bs.map D.bl)->xs=bs.map V.bl
 |_,[],.nil=>rfl
 |_,n::ns,.cons h r=>by
  cases h;rw[zAC,Rps.bools_of r]
def ye(f:List Bool->Bool):List D->Rs D
 |[.lst l]=>match boolsOf l with
  |some bs=>.ok (.bl (f bs))
  |none=>.st
 |_=>.st
def aF3{X:Cx}(hc:X.calm=true):cR X (.builtin "all") (λ xs H Q=>∃(p:Addr) (bs:List Bool),xs=[.ref p]/\H p=some (.lst (bs.map V.bl))/\Q (.bl (bs.all id)) H):=by
 intro hV s σ H xs us Q I r h;obtain⟨p,bs,rfl,hp,q⟩:=h;obtain⟨u,rfl,ru⟩:=vals1 r;cases ru;obtain⟨its,rv,pl,hz⟩:=I.list (SqL.of hp);have hb:=wL (X:=X) rv;have hl:=pl.isList;have hlt:p<s.heap.objs.size:=by obtain⟨_,e,_⟩:=hl;exact zA0 e
 refine call_all_walk (zFW hl ?_);refine⟨s.heap.objs.size,[s.heap.objs.size,p],[s.heap.objs.size],its.toArray.size,_,_,λ i=>(bs[i]?).getD true,rfl,Walks.list (A:=X.A.in1) (I.ok.hd hc) _ p (zAd hlt) its.toArray,
  ⟨⟨_,zA5 _ rfl,rfl,rfl⟩,hl.push _⟩,λ i v s' Q' E' hP hQ=>?_,λ h' tk hk=>?_⟩
 .obtain⟨b,e,rfl⟩:=hb.get i v (by simpa using hP)
  simp only[e,zG7]at hQ;exact zCB hQ
 .have e:((zBE its.toArray.size).all λ i=>(bs[i]?).getD true)=bs.all id:=by
   rw[zAL,hb.length];exact LSm.range_all bs
  rw[e];exact⟨.bl _,H,I.kept (LSm.kept_iter hk),rfl,q⟩
def aKG:pN K (λ xs H Q=>∃(p:Addr) (bs:List Bool),xs=[.ref p]/\H p=some (.lst (bs.map V.bl))/\Q (.bl (f bs)) H) (ye f):=by
 intro A xs ds H Q z r ez q;unfold ye at ez;split at ez
 .split at ez
  .rename_i l bs e
   cases ez
   have:=pI e
   subst this;cases r with
   |cons h r=>
    cases r;cases h with
    |lst h m r=>
     have:=r.bools_of
     subst this;exact⟨_,bs,rfl,h,q _ H (aV.refl H) (.bl _)⟩
  .cases ez
 .cases ez
def aHI:∀x z,ye f x= .ok z->imm z=true:=by
 intro x z e;unfold ye at e;split at e
 .split at e
  .cases e;rfl
  .cases e
 .cases e
def mmD(f:Int->Int->Int):List D->Rs D
 |[.int i,.int j]=>.ok (.int (f i j))
 |_=>.st
def aIU:pN K (λ xs H Q=>∃i j,xs=[.int i,.int j]/\Q (.int (f i j)) H) (mmD f):=by
 intro A xs ds H Q z r ez q;unfold mmD at ez;split at ez
 .cases ez
  cases r with
  |cons h r=>
   cases h;cases r with
   |cons h r=>
    cases h;cases r;exact⟨_,_,rfl,q _ H (aV.refl H) (.int _)⟩
 .cases ez
def aFB:∀x z,mmD f x= .ok z->imm z=true:=by
 intro x z e;unfold mmD at e;split at e
 .cases e;rfl
 .cases e
def jL:List D->Rs D
 |[.lst l]=>.ok (.tup l)
 |[.tup l]=>.ok (.tup l)
 |_=>.st
def aFZ:pN K (λ xs H Q=>∃p ys,xs=[.ref p]/\((SqL K H p ys/\∀l,H l=none->Q (.ref l) (upd H l (.tup ys)))\/(SqT K H p ys/\Q (.ref p) H))) jL:=by
 intro A xs ds H Q z r ez q;unfold jL at ez;split at ez
 .cases ez
  cases r with
  |cons h r=>
   cases r;cases h with
   |lst h m r=>exact⟨_,_,rfl,.inl ⟨SqL.of h,λ l hl=>q _ _ (bN hl _) (.tup (SqT.of ak) ((r.wk λ _ _ _ z=>.inr z.1).up (bN hl _)))⟩⟩
 .cases ez
  cases r with
  |cons h r=>
   cases r;cases h with
   |tup h r=>exact⟨_,_,rfl,.inr ⟨h,q _ H (aV.refl H) (.tup h (r.wk λ _ _ _ z=>.inr z))⟩⟩
 .cases ez
end
section
variable{C:Ct}{pos:Pos}{m:Mode}{a e:Expr}{fe:En->Rs D}
def aH6(fd:D->D->Rs D)(i:Nat)(fe:En->Rs D):En->Ou:=λ ρ=>(op2 fd (dC i) fe ρ).bo λ d=>.nx (ρ.set i (.sh d))
def aDc(he:SE C m e fe)(ho:∀j,PIp (C.X j) op (ipI f))(hN:∀j,(C.X j).N[i]? =some x:=by intro _;rfl)(hx:∀j,Loc (C.X j).env.scope x:=by intro _;first|exact zB1 rfl|exact zBC rfl)(hf:∀j,(C.X j).fn x=true\/(C.X j).env.scope.names.lookup x=some .local:=by intro _;first|exact .inl rfl|exact .inr rfl)(nd:∀j,(C.X j).N.Nodup:=by intro _;assumption):SS C (.AugAssign (.Name x pos') op e pos) (aH6 (i2 (λ _ _=>true) λ a b=>.int (f a b)) i fe):=by
 obtain⟨t,h1,h2⟩:=he;refine⟨_,λ j=>aIz (nd j) (hN j) (hx j) (h1 j) (ho j) (hf j),λ U σ H ρ lab De R W=>?_⟩;have w0:=(WS.bo W).bd;refine aBk C.K C.G i U σ H ρ lab (λ v H'=>t σ H' λ y H1=>ipI f v y H1 λ z H2=>De.nx (σ.set i (some z)) H2) R (w0.imp λ d _ w v H' s r=>h2 U σ H' ρ lab _ (R.up s) (w.bd.imp λ e _ w y H1 s1 r1=>?_));obtain⟨z,ez,w⟩:=w.okD;unfold i2 at ez;split at ez
 .cases ez
  cases r;cases r1;exact⟨_,_,rfl,rfl,w _ _ _ (((R.up s).up s1).put (s:=.sh (.int _)) (Rp.int _))⟩
 .cases ez
end
section
variable{C:Ct}{pos p:Pos}{m m1 m2 m3:Mode}{a b c e:Expr}{fa fb fc:En->Rs D}{ga:En->Rs (List D)}
def Ct.u0(C:Ct)(i:C.ι):(C.X i).A.units<cLine:=(C.room i).units0
def Ct.u64(C:Ct)(i:C.ι):(C.X i).A.units+64<cLine:=(C.room i).units
def Ct.ltR(C:Ct)(i:C.ι):OpR (C.X i) (zAw .Lt) (λ x y H Q=>rI0 (λ i j=>.bl (decide (i<j))) x y H Q\/aGK C.K x y H Q):=by have h:=aJX (X:=C.X i) (C.u0 i);rw[C.hK i]at h;exact h
def Ct.leR(C:Ct)(i:C.ι):OpR (C.X i) (zAw .LtE) (λ x y H Q=>rI0 (λ i j=>.bl (decide (i<=j))) x y H Q\/aGL C.K x y H Q):=by have h:=aJZ (X:=C.X i) (C.u0 i);rw[C.hK i]at h;exact h
def Ct.eqRl(C:Ct)(i:C.ι):OpR (C.X i) (zAw .Eq) (aEG C.K false):=by have h:=aJ3 (X:=C.X i) (C.u64 i);rw[C.hK i]at h;exact h
def Ct.neRl(C:Ct)(i:C.ι):OpR (C.X i) (zAw .NotEq) (aEG C.K true):=by have h:=aJU (X:=C.X i) (C.u64 i);rw[C.hK i]at h;exact h
def Ct.ninRl(C:Ct)(i:C.ι):OpR (C.X i) (zAw .NotIn) (aGM C.K true):=by have h:=aCo (X:=C.X i) (C.u64 i);rw[C.hK i]at h;exact h
def Ct.aAW(C:Ct)(i:C.ι):OpR (C.X i) (zBd .Add) (aEH C.K):=by have h:=aGi (X:=C.X i);rw[C.hK i]at h;exact h
def rF:D->D->Rs D:=i2 (λ _ _=>true) λ i j=>.int (i-j)
def gn:D->D->Rs D:=i2 (λ _ j=>decide (0<j)&&decide (j<1073741824)) λ i j=>.int (i / j)
def qD:D->D->Rs D:=i2 (λ _ j=>decide (0<j)) λ i j=>.int (i%j)
def aJA:D->D->Rs D:=i2 (λ i j=>decide (0<=j)&&decide (j<=1000000)&&decide (i.natAbs<2^64)) λ i j=>.int (i^j.toNat)
def dD(ha:SE C m1 a fa)(hb:SE C m2 b fb):SE C (jn m1 m2) (.BinOp a .Add b pos) (op2 dF fa fb):=tK C.aAW aJQ ha hb
def nW(ha:SE C m1 a fa)(hb:SE C m2 b fb):SE C (jn m1 m2) (.BinOp a .Mult b pos) (op2 gq fa fb):=tK (λ _=>aGd) aJO ha hb
def nU(ha:SE C m1 a fa)(hb:SE C m2 b fb):SE C (some []) (.BinOp a .Sub b pos) (op2 rF fa fb):=fP (tK (λ _=>aJR) aG9 ha hb) λ _ _ h=>jo yE h
def oZ(ha:SE C m1 a fa)(hb:SE C m2 b fb):SE C (some []) (.BinOp a .FloorDiv b pos) (op2 gn fa fb):=fP (tK (λ _=>aGe) (aAu λ i j h=>by simpa[aLY]using h) ha hb) λ _ _ h=>jo yE h
def pR(ha:SE C m1 a fa)(hb:SE C m2 b fb):SE C (some []) (.BinOp a .Mod b pos) (op2 qD fa fb):=fP (tK (λ _=>aJW) (aAu λ i j h=>by simpa using h) ha hb) λ _ _ h=>jo yE h
def aIb(ha:SE C m1 a fa)(hb:SE C m2 b fb):SE C (some []) (.BinOp a .Pow b pos) (op2 aJA fa fb):=fP (tK (λ _=>aJT) (aAu λ i j h=>by simp only[zAM,decide_eq_true_eq]at h;exact⟨h.1.1,h.1.2,h.2⟩) ha hb) λ _ _ h=>jo yE h
def aKa(ha:SE C m1 a fa)(hb:SE C m2 b fb):SE C (some []) (.Compare a [.Lt] [b] pos) (op2 ltD fa fb):=fP (aAe C.ltR aE2 ha hb) λ _ _ h=>jo aFC h
def zA(ha:SE C m1 a fa)(hb:SE C m2 b fb):SE C (some []) (.Compare a [.Eq] [b] pos) (op2 (eqR false) fa fb):=fP (aAe C.eqRl os_eq ha hb) λ _ _ h=>jo aFE h
def aK9(ha:SE C m1 a fa)(hb:SE C m2 b fb):SE C (some []) (.Compare a [.NotEq] [b] pos) (op2 (eqR true) fa fb):=fP (aAe C.neRl os_eq ha hb) λ _ _ h=>jo aFE h
def vZ(ha:SE C m1 a fa)(hb:SE C m2 b fb):ST C (.Compare a [.Lt] [b] pos) (tsb (op2 ltD fa fb)):=kh C.ltR aE2 ha hb
def aHn(ha:SE C m1 a fa)(hb:SE C m2 b fb):ST C (.Compare a [.Gt] [b] pos) (tsb (op2 gtD fa fb)):=kh (λ _=>aKt) xY ha hb
def aK6(ha:SE C m1 a fa)(hb:SE C m2 b fb):ST C (.Compare a [.GtE] [b] pos) (tsb (op2 geD fa fb)):=kh (λ _=>aKu) xY ha hb
def yt(ha:SE C m1 a fa)(hb:SE C m2 b fb):ST C (.Compare a [.Eq] [b] pos) (tsb (op2 (eqR false) fa fb)):=kh C.eqRl os_eq ha hb
def sy(ha:SE C m1 a fa)(hb:SE C m2 b fb):ST C (.Compare a [.NotEq] [b] pos) (tsb (op2 (eqR true) fa fb)):=kh C.neRl os_eq ha hb
def aI7(ha:SE C m1 a fa)(hb:SE C m2 b fb)(hm:zCT .NotIn b=false:=by with_unfolding_all rfl):ST C (.Compare a [.NotIn] [b] pos) (tsb (op2 (inR true) fa fb)):=kh C.ninRl aIM ha hb hm
def aK5(ha:SE C m1 a fa)(hb:SE C m2 b fb):ST C (.Compare a [.Is] [b] pos) (tsb (op2 (isD false) fa fb)):=kh (λ _=>aJ1) aKq ha hb
def aGA(ha:SE C m1 a fa)(hb:SE C m2 b fb)(hc:SE C m3 c fc)(hm:zHI [.LtE,.LtE] [b,c]=false:=by with_unfolding_all rfl):SE C (some []) (.Compare a [.LtE,.LtE] [b,c] pos) (chD leD leD fa fb fc):=zB C.leR aE3 C.leR aE3 aJn ha hb hc hm
def aFz(ha:SE C m1 a fa)(hb:SE C m2 b fb)(hc:SE C m3 c fc)(hm:zHI [.LtE,.Lt] [b,c]=false:=by with_unfolding_all rfl):SE C (some []) (.Compare a [.LtE,.Lt] [b,c] pos) (chD leD ltD fa fb fc):=zB C.leR aE3 C.ltR aE2 aFC ha hb hc hm
def aM(ha:SE C m1 a fa)(hb:SE C m2 b fb)(hp:sJ b:=by exact λ _ _=>rfl):SE C m1 (.Subscript a b pos) (op2 ixD fa fb):=by
 obtain⟨t,h1,h2⟩:=ha;obtain⟨u,k1,k2⟩:=hb;refine⟨tOp (rIx C.K) t u,λ i=>by rw[<-C.hK i];exact aIJ aJk (h1 i) (k1 i) hp,λ U σ H ρ lab Q R W=>?_⟩;refine h2 U σ H ρ lab _ R (W.bd.imp λ d _ w x H1 s1 r1=>?_);refine k2 U σ H1 ρ lab _ (R.up s1) (w.bd.imp λ e _ w y H2 s2 r2=>?_);obtain⟨z,ez,w⟩:=w.okD;have hi:imm e=true:=by
  unfold ixD at ez;split at ez<;>first|rfl|cases ez
 refine aKp (fpM m1 lab H) x y d e H2 Q z (r1.up s2) (r2.imm hi) ez λ v H' s r=>w v H' ((s1.trans s2).trans s) (r.wk λ p o _ q=>?_)
 rcases q with q|q
 .exact .inl ((s1.trans s2).free q)
 .exact q
def gZ(hm:C.mg "len"=none)(ha:SA C m [a] ga)(he:∀i,zAW [a] (C.X i).env=[(false,eval a (C.X i).env)]:=by intro _;rfl)(hg:∀i,Gl (C.X i) "len":=by intro _;rfl):SE C (some []) (.Call (.Name "len" p) [a] [] pos) (opA jP ga):=
 fP (lB (λ i=>by have h:=yW (X:=C.X i);rw[C.hK i]at h;exact h) aKF hg hm PySem.boot_len ha (by decide) (by decide) he) λ _ _ h=>mR aHH h
def aIg(hm:C.mg "all"=none)(ha:SA C m [a] ga)(he:∀i,zAW [a] (C.X i).env=[(false,eval a (C.X i).env)]:=by intro _;rfl)(hg:∀i,Gl (C.X i) "all":=by intro _;rfl)(hv:zAq "all"=some (.builtin "all"):=by decide+kernel):SE C (some []) (.Call (.Name "all" p) [a] [] pos) (opA (ye λ bs=>bs.all id) ga):=
 fP (lB (λ i=>aF3 (C.calm i)) aKG hg hm hv ha (by decide) (by decide) he) λ _ _ h=>mR aHI h
def wj(hm:C.mg "min"=none)(ha:SA C m [a,b] ga)(he:∀i,zAW [a,b] (C.X i).env=(false,eval a (C.X i).env)::zAW [b] (C.X i).env:=by intro _;rfl)(hpl:∀i,(zBp pos (zAW [b] (C.X i).env)).any (·.1)=false:=by intro _;rfl)(hg:∀i,Gl (C.X i) "min":=by intro _;rfl)(hv:zAq "min"=some (.builtin "min"):=by decide+kernel):SE C (some []) (.Call (.Name "min" p) [a,b] [] pos) (opA (mmD λ i j=>if j<i then j else i) ga):=
 fP (lB (λ i=>aDJ (C.calm i)) aIU hg hm hv ha (by decide) (by decide) he hpl) λ _ _ h=>mR aFB h
def wu(hm:C.mg "max"=none)(ha:SA C m [a,b] ga)(he:∀i,zAW [a,b] (C.X i).env=(false,eval a (C.X i).env)::zAW [b] (C.X i).env:=by intro _;rfl)(hpl:∀i,(zBp pos (zAW [b] (C.X i).env)).any (·.1)=false:=by intro _;rfl)(hg:∀i,Gl (C.X i) "max":=by intro _;rfl)(hv:zAq "max"=some (.builtin "max"):=by decide+kernel):SE C (some []) (.Call (.Name "max" p) [a,b] [] pos) (opA (mmD λ i j=>if j>i then j else i) ga):=
 fP (lB (λ i=>aDM (C.calm i)) aIU hg hm hv ha (by decide) (by decide) he hpl) λ _ _ h=>mR aFB h
def jT(hm:C.mg "tuple"=none)(ha:SA C m [a] ga)(he:∀i,zAW [a] (C.X i).env=[(false,eval a (C.X i).env)]:=by intro _;rfl)(hg:∀i,Gl (C.X i) "tuple":=by intro _;rfl)(hv:zAq "tuple"=some (.type "tuple"):=by decide+kernel):SE C m (.Call (.Name "tuple" p) [a] [] pos) (opA jL ga):=
 zE (λ i=>by have h:=vN (X:=C.X i);rw[C.hK i]at h;exact h) aFZ hg hm hv ha (by decide) (by decide) he
def aBj(K:zAA):Sp:=λ vs H Q E=>∃a ns,vs=[.ref a]/\mD K H a ns/\ns.length<=63/\∀H',Q (.bl true) H'
def aGu{K:zAA}(h:∀ns:List Int,ns.length<=63->F [.scr ns]= .ok (.bl true)):∀vs H Q E,aBj K vs H Q E->spF K cl 1 F vs H Q E:=by
 rintro vs H Q E ⟨a,ns,rfl,hs,hl,q⟩;refine⟨[.scr ns],rfl,.cons (.scr hs) .nil,?_⟩;rw[h ns hl];intro v H' s r;cases r;exact q H'
def aIh{K:zAA}{a:Addr}(hO:Only H)(h:SqL K H a (ns.map V.int)):mD K H a ns:=by
 rcases h with (h|⟨o,h⟩)|h
 .rcases hO a with z|⟨o,xs,z⟩
  .rw[h]at z;cases z
  .rw[h]at z;cases z
 .exact .inl ⟨o,h⟩
 .exact .inr h
end
def zQ:V->List V->Hp->VK->Prop:=λ x vs H Q=>∃l b xs zs,x= .ref l/\vs=[.ref b]/\H l=some (.lst xs)/\H b=some (.lst zs)/\xs.length+zs.length<=zAR/\∀H',jE l H H'->H' l=some (.lst (xs++zs))->Q .non H'
def aBA:MtM X "list.extend" zQ:=λ hV s σ H x xs v us Q I rx rv ⟨l,b,ys,zs,e1,e2,h,h2,z,n⟩=>
 aCr hV s σ H x xs v us Q I rx rv ⟨l,b,ys,zs,e1,e2,h,h2,z,n _ (λ b o ne hb=>by rw[aW ne];exact hb) ak⟩
section
variable{K:zAA}
theorem vp:∀{ns:List Int} {us:List Value},Vals (ns.map V.int) us->∃ts:List (Int×Tok),us=ts.map (λ q=>zCv q.1 q.2)/\ts.map zEg=ns
 |[],_,.nil=>⟨[],rfl,rfl⟩
 |n::ns,_,.cons r t=>by
  obtain⟨tk,e⟩:∃tk,_=zCv n tk:=r
  obtain⟨ts,e1,e2⟩:=vp t;subst e;exact⟨(n,tk)::ts,by rw[e1];rfl,by rw[<-e2];rfl⟩
def aDK(hc:X.calm=true):cR X (.builtin "max") (λ xs H Q=>∃(p:Addr) (ns:List Int) (m:Int),xs=[.ref p]/\H p=some (.lst (ns.map V.int))/\ns.max?=some m/\Q (.int m) H):=by
 intro hV s σ H xs us Q I r h;obtain⟨p,ns,m,rfl,hp,hm,q⟩:=h;obtain⟨u,rfl,ru⟩:=vals1 r;cases ru;obtain⟨its,rv,pl,hz⟩:=I.list (SqL.of hp);obtain⟨ts,rfl,rfl⟩:=vp rv;have hsz:0<ts.toArray.size:=by
  cases ts with
  |nil=>cases hm
  |cons a b=>simp
 refine max_intList (xs:=ts.toArray) (I.ok.hd hc) (by have:=pl.isList;simpa[intItems]using this) hsz λ v h' tk hv hk=>?_
 obtain⟨t,rfl⟩:=intItems_at hv;obtain⟨h1,h2⟩:=argBest_gt (numAt ts.toArray) (ts.toArray.size-1);have hM:(ts.map zEg).max?=some (numAt ts.toArray (argBest (λ i j=>decide (numAt ts.toArray i>numAt ts.toArray j)) (ts.toArray.size-1))):=by
  rw[zBb];refine⟨?_,λ a ha=>?_⟩
  .rw[numAt_eq];exact getD_mem (by rw[zAF];simp at h1 hsz ⊢;omega)
  .obtain⟨j,hj,rfl⟩:=mem_getD ha
   have:=h2 j (by rw[zAF]at hj;simp;omega)
   rw[numAt_eq]at this;exact this
 rw[hm]at hM;injection hM with hM
 exact⟨.int m,H,I.kept hk,⟨t,by rw[hM]⟩,q⟩
def q9(f:List Int->Option Int):List D->Rs D
 |[.lst l]=>match intsOf l with
  |some ns=>match f ns with
   |some m=>.ok (.int m)
   |none=>.st
  |none=>.st
 |_=>.st
def aHY:pN K (λ xs H Q=>∃(p:Addr) (ns:List Int) (m:Int),xs=[.ref p]/\H p=some (.lst (ns.map V.int))/\f ns=some m/\Q (.int m) H) (q9 f):=by
 intro A xs ds H Q z r ez q;unfold q9 at ez;split at ez
 .split at ez
  .rename_i l ns e
   split at ez
   .rename_i m em
    cases ez
    have:=cV e
    subst this;cases r with
    |cons h r=>
     cases r;cases h with
     |lst h _ r=>
      have:=r.ints_of
      subst this;exact⟨_,ns,m,rfl,h,em,q _ H (aV.refl H) (.int _)⟩
   .cases ez
  .cases ez
 .cases ez
def aFA:∀x z,q9 f x= .ok z->imm z=true:=by
 intro x z e;unfold q9 at e;split at e
 .split at e
  .split at e
   .cases e;rfl
   .cases e
  .cases e
 .cases e
end
section
variable{C:Ct}{pos p:Pos}{a:Expr}{ga:En->Rs (List D)}{m:Mode}
def aFx(hm:C.mg "max"=none)(ha:SA C m [a] ga)(he:∀i,zAW [a] (C.X i).env=[(false,eval a (C.X i).env)]:=by intro _;rfl)(hg:∀i,Gl (C.X i) "max":=by intro _;rfl)(hv:zAq "max"=some (.builtin "max"):=by decide+kernel):SE C (some []) (.Call (.Name "max" p) [a] [] pos) (opA (q9 zHM) ga):=
 fP (lB (λ i=>aDK (C.calm i)) aHY hg hm hv ha (by decide) (by decide) he) λ _ _ h=>mR aFA h
end
def wR:fillsNumberSlot (.type "tuple") "mul"=pure false:=
 PySem.fillsNumberSlot_seq (id:="tuple.__mul__") (r:=some (.builtin "tuple.__rmul__")) zCu.lookup (by decide+kernel) zHT.lookup (by decide+kernel)
def sW:seqRepeat? (.type "tuple")=pure (some (.builtin "tuple.__mul__")):=by
 unfold seqRepeat?;rw[zGj (T:="tuple") (name:="__mul__") (id:="tuple.__mul__") zCu.lookup (by decide+kernel)];rw[zGj (T:="tuple") (name:="__rmul__") (id:="tuple.__rmul__") zHT.lookup (by decide+kernel)];rfl
def sX(k:Int)(t:Tok)(a:Addr)(its:Array Value)(n:Nat)(dd:Option Addr)(sl:Array (Option Value)):
  Meets (zDm.«int.__rmul__» ⟨[.int k t,.ref a],[]⟩) (λ _ R s=>s.heap.get? a=some {cls:=.type "tuple",dict:=dd,data:=.seq its n,slots:=sl}/\R (.ok (.ret zDt)) s):=by
 refine .of_wp λ P w A R s h=>?_
 obtain⟨_,_,_,_,_⟩:=s;obtain⟨hl,h⟩:=h;wp_walk;exact⟨_,rfl,h⟩
def aD3(k:Int)(t:Tok)(a:Addr)(l:List Value)(n:Nat)(dd:Option Addr)(sl:Array (Option Value))(h1:1<k)(h2:k<2^63)(hz:l.length*k.toNat<=zAR)(he:l.isEmpty=false):
  Meets (zDm.«tuple.__mul__» ⟨[.ref a,.int k t],[]⟩) (λ _ R s=>s.heap.get? a=some {cls:=.type "tuple",dict:=dd,data:=.seq l.toArray n,slots:=sl}/\
   R (.ok (.ret (zBF s.heap.objs.size))) {s with heap:=s.heap.push {cls:=zCV "tuple",data:=zH8 (zAN k.toNat l).flatten.toArray}}):=by
 have hs:(l.length:Int)*k<=zAR:=by
  have:((l.length*k.toNat:Nat):Int)=(l.length:Int)*k:=by
   rw[zFA,zBS (by lia)]
  rw[<-this];exact Int.ofNat_le.mpr hz
 have hb:(zAR:Int)<=(2^63-1) / 8:=by decide
 have c0:¬(decide (k < -2^63)||decide (k ≥ 2^63))=true:=by simp;lia
 have c1:¬(l.toArray.isEmpty||k==1)=true:=by simp only[zDu,he];simp;lia
 have c2:¬(decide (k<=0)||l.toArray.isEmpty)=true:=by simp only[zDu,he];simp;lia
 have c3:¬((l.toArray.size:Int)*k>(2^63-1) / 8):=by rw[zAL];lia
 have c4:¬zEE ((l.toArray.size:Int)*k)=true:=by rw[zAL];unfold zEE;simp[zAR]at hs ⊢;lia
 have ef:zFe (λ x1 x2=>x1++x2) #[] (zAN k.toNat l.toArray)=(zAN k.toNat l).flatten.toArray:=by
  have:=foldl_rep l k.toNat []
  simpa using this
 have c5:¬((zAN k.toNat l).flatten.toArray.size>zAR):=by rw[zAL,len_rep,zGM];lia
 refine .of_wp λ P w A R s h=>?_
 obtain⟨_,_,_,_,_⟩:=s;obtain⟨hl,h⟩:=h;wp_walk;rw[if_neg c0];wp_walk
 try rw[if_neg c1]
 wp_walk
 try rw[if_neg c2]
 wp_walk
 try rw[if_neg c3]
 wp_walk
 try rw[if_neg c4]
 try rw[ef]
 wp_walk
 try rw[if_neg c5]
 wp_walk;exact⟨_,rfl,h⟩
def aEF(K:zAA):R2:=λ x y H Q=>∃a k xs,x= .ref a/\y= .int k/\SqT K H a xs/\1<k/\k<2^63/\xs≠[]/\xs.length*k.toNat<=zAR/\New H (.tup (zAN k.toNat xs).flatten) Q
def aGb:OpR X (zBd .Mult) (aEF X.K):=by
 intro hV s σ H x y v u Q I rx ry h;obtain⟨a,k,xs,rfl,rfl,ha,h1,h2,hne,hz,q⟩:=h;cases rx;obtain⟨t,rfl⟩:=ry;obtain⟨its,r,p1,_⟩:=I.tuple ha;obtain⟨⟨cls,dd,data,sl⟩,ho,hc,n,hd⟩:=id p1;simp only at hc hd;subst hc hd;have hl:its.length*k.toNat<=zAR:=by rw[<-r.length];exact hz
 have he:its.isEmpty=false:=by
  cases its with
  |nil=>exact absurd (r.nil_iff.mp rfl) hne
  |cons _ _=>rfl
 refine zCY (T:="tuple") (U:="int") (by decide) ⟨_,ho,rfl⟩ (λ s'=>zCp s' k t) wR zDz zBs sW zDd.lookup
  (zCK zBs (zCp s k t) zDc (zDZ _ _) (sX k t a its.toArray n dd sl)
   ⟨ho,rfl,⟨_,ho,rfl⟩,zCK zCu ⟨_,ho,rfl⟩ zEf (zE4 _ _) (aD3 k t a its n dd sl h1 h2 hl he) ⟨ho,?_⟩⟩)
 refine⟨.ref s.heap.objs.size,_,I.laid (t':=s.toks) (o:=.tup (zAN k.toNat xs).flatten) (λ b ob q=>zAG _ q) (zAV _) ?_,rfl,q.at (I.hok.fresh (zAV _))⟩;exact⟨⟨by rw[len_rep,zGM];exact hz,NoD.push _⟩,_,r.rep k.toNat,zFp _ _⟩
def aGn:D->D->Rs D
 | .tup l,.int k=>if decide (1<k)&&decide (k<2^63)&& !l.isEmpty&&decide (l.length*k.toNat<=zAR)then .ok (.tup (zAN k.toNat l).flatten)else .st
 |_,_=>.st
def aG8{K:zAA}:OpS K (aEF K) aGn:=by
 intro A x y d e H Q z rx ry ez q;unfold aGn at ez;split at ez
 .split at ez
  .rename_i hc
   simp only[zAM,decide_eq_true_eq,zBQ]at hc;obtain⟨⟨⟨c1,c2⟩,c3⟩,c4⟩:=hc;cases ez;cases ry;cases rx with
   |tup h r=>
    refine⟨_,_,_,rfl,rfl,h,c1,c2,λ e=>?_,by rw[r.length];exact c4,λ p H' s hp hn=>q _ H' s (.tup (SqT.of hp) ?_)⟩
    .subst e
     cases r;cases c3
    .exact((Rps.rep r _).up s).wk λ _ _ _ z=>.inr z
  .cases ez
 .cases ez
def shS:Slot->Slot
 | .no=>.no
 | .sh d=>.sh d
 | .nw d=>.sh d
 | .ow d=>.sh d
 | .oz d=>.sh d
 | .o2 l=>.sh (.lst (l.map .lst))
end VL
namespace L2
open PySem PySem.Spec PyProof.Rows
def cxW(P:zAU)(w:World)(K:zAA)(mg:Str->Option Value)(base:Heap)(N:List Str)(qual:Str)(scope:Scope)(f:Addr)(cd:Value)(A:zA8)(s:zAD)(H:Hp)(Pt:Addr):Cx where
 prog:=P
 w:=w
 K:=K
 mg:=mg
 base:=base
 A:=A.deeper (zDx qual scope s.heap.objs.size f cd)
 N:=N
 z5:=s
 zS:=H
 env:=zDx qual scope s.heap.objs.size f cd
 outer:=[]
 stack:=[zDx qual scope s.heap.objs.size f cd]
 ex:=[Pt]
 calm:=true
 fn:=λ _=>true
 pn:=[]
 xe:=λ _ _=>False
 ta:=[(Pt,PySem.W.tabObj #[])]
 tq:=qual++".<locals>."++"<lambda>"
end L2
namespace VL
open PySem PySem.Spec PyProof.Rows L2
end VL
namespace L2
open PySem PySem.Spec PyProof.Rows
def pe_isi{X:Cx}{n0:Str}{e:Expr}{c:V}{p p' pos:Pos}(hN:X.N[0]? =some n0)(hv:X.env.scope.names.lookup n0=some .local)(hg:Gl X "isinstance")(hm:X.mg "isinstance"=none)(hc:PE X e (tC c))(hse:zAW [e] X.env=(false,eval e X.env)::zAW [] X.env:=by rfl)
  (hpl:(zBp pos (zAW [e] X.env)).any (·.1)=false:=by rfl)(d:Nd n0:=by decide)(d':(n0==("__classdict__":Str))=false:=by decide):PE X (.Call (.Name "isinstance" p) [.Name n0 p',e] [] pos) (aL7 X.K c):=
 lH aDO hg hm rfl (cH (eF hN (.inl hv) d d') (cH hc eN hse)) (hpl:=hpl)
section
variable{P:zAU}{w:World}{K:zAA}{mg:Str->Option Value}{base:Heap}{x q n0 n1 n2 odd:Str}{st:Stmt}{f:Addr}{fd:zAc}{k:Nat}{wd:Addr->Option Str}{c1 c2:V}{k1 k2 k3 k4:List V}{l1 l2:List Str}{a1 a2:Expr}{as1 as2 e1 e2 e3 e4 w1 w2:List Expr}{kw1 kw2:List zB2}
 {p1 p2 p3 p4 p5 p6 p7 p8 p9 p10 p11 p12 p13 p14 p15 p16 p17 p18 p19 p20 p21 p22 p23 p24 p25 p26 p27 p28 p29 p30 p31 p32 p33 p34 p35 p36 p37 p38 p39 p40:Pos}{q1 q2 q3 q4 q5 q6 q7:Pos}{j1 j2 j3 j4 j5:Nat}
end
structure LawOk(P:zAU)(w:World)(K:zAA)(mg:Str->Option Value)(fa Pt:Addr)(k n:Nat):Prop where
 ex:∃(x name qual:Str) (params:zEb) (body:List Stmt) (scope:Scope) (dV kV doc pm ct oc:Value) (an od:Option Addr) (c:Addr) (osl:Array (Option Value)) (N:List Str),
  K.lookup Pt=none/\PySem.W.codeHdIn K c Pt=true/\K.lookup fa=some ⟨oc,od,.func (zBn name qual params body scope dV kV doc pm an (.ref c) ct),osl⟩/\zDB K (.ref c) qual=true/\ao N [x] scope/\
  (∀(s:zAD) (u:Value),zEx s (zBn name qual params body scope dV kV doc pm an (.ref c) ct) ⟨[u],[]⟩ [(x,u)])/\
  ∀(a:Addr) (ns:List Int),ns.length<=n->∀(base:Heap) (s:zAD) (H:Hp),jC k (callerA.deeper (zDx qual scope s.heap.objs.size fa (.ref c)))->aLV (cxW P w K mg base N qual scope fa (.ref c) zE9 s H Pt) Pt->Only H->SqL K H a (ns.map V.int)->
   ∃t,PSs (cxW P w K mg base N qual scope fa (.ref c) zE9 s H Pt) body t/\t {nx:=λ _ _=>False,rt:=λ v _=>v= .bl true} (start N [.ref a]) H
end L2
namespace VL
open PySem PySem.Spec PyProof.Rows L2
section
variable{O:zBt}{kz:Nat->O.α}{n:Nat}
def Wr{α:Type}(kz:Nat->O.α)(n:Nat):zFg α->(α->Prop)->Prop
 | .ret a,Q=>Q a
 | .ask i j k,Q=>i<n/\j<n/\Wr kz n (k (O.blt (kz i) (kz j))) Q
theorem Wr.bindI:∀{t:zFg α},Wr kz n t (λ a=>Wr kz n (g a) Q)->Wr kz n (t.bind g) Q
 | .ret _,h=>h
 | .ask _ _ _,⟨h1,h2,h3⟩=>⟨h1,h2,Wr.bindI h3⟩
abbrev Pm(n:Nat)(p:Array Nat):Prop:=p.Perm (zBE n).toArray
def Pm.sz(h:Pm n p):p.size=n:=by
 have:=h.size_eq
 simpa using this
def Pm.in(h:Pm n p)(hi:i<n):p.getD i 0<n:=by
 have hs:i<p.size:=by rw[h.sz];exact hi
 have e:p.getD i 0=p[i]:=by simp[Array.getD,hs]
 rw[e];have hm:p[i]∈(zBE n).toArray:=h.mem_iff.mp (Array.getElem_mem hs);simpa using hm
def Kp(kz:Nat->O.α)(p:Array Nat)(i:Nat):O.α:=kz (p.getD i 0)
def zg(h:p[i]? =q[j]?):Kp kz p i=Kp kz q j:=by
 unfold Kp;congr 1;rw[zEc,zEc,h]
def aEp(hs:c<p.size)(hd:d<=c)(k:Nat):
  Kp kz (bubble p c d) k=if k=c-d then Kp kz p c else if c-d<k/\k<=c then Kp kz p (k-1)else Kp kz p k:=by
 have e:=getElem?_bubble hs d hd k;by_cases u1:k=c-d
 .rw[if_pos u1]at e ⊢
  exact zg e
 .rw[if_neg u1]at e ⊢
  by_cases u2:c-d<k/\k<=c
  .rw[if_pos u2]at e ⊢
   exact zg e
  .rw[if_neg u2]at e ⊢
   exact zg e
def aBN(hj:j<=p.size)(k:Nat):Kp kz (zD4 p i j) k=if i<=k/\k<j then Kp kz p (i+j-1-k)else Kp kz p k:=by
 unfold zD4;have e:=getElem?_mirror_all (i:=i) hj k;by_cases u1:i<=k/\k<j
 .rw[if_pos u1]at e ⊢
  exact zg e
 .rw[if_neg u1]at e ⊢
  exact zg e
def mL(hj:j<=p.size)(he:∀k,i<=k->k<j->Kp kz p k=Kp kz p (j-1))(k:Nat):Kp kz (zD4 p i j) k=Kp kz p k:=by
 rw[aBN hj];split
 .rw[he _ (by lia) (by lia),he k (by lia) (by lia)]
 .rfl
def Up(kz:Nat->O.α)(p:Array Nat)(k:Nat):Prop:=∀i j,i<=j->j<k->O.kle (Kp kz p i) (Kp kz p j)
def Dn(kz:Nat->O.α)(p:Array Nat)(k:Nat):Prop:=∀i j,i<=j->j<k->O.kle (Kp kz p j) (Kp kz p i)
def tX(h:Pm n p)(i j:Nat):Pm n (zD4 p i j):=(mirror_perm _ _ _ _).trans h
def Up.succ(h:Up kz p m)(hm:1<=m)(hl:O.kle (Kp kz p (m-1)) (Kp kz p m)):Up kz p (m+1):=by
 intro i j hij hj;by_cases q:j<m
 .exact h i j hij q
 .have q':j=m:=by lia
  subst q';by_cases q2:i=j
  .rw[q2];exact zCW _
  .exact zDR (h i (j-1) (by lia) (by lia)) hl
def Dn.succ(h:Dn kz p m)(hm:1<=m)(hl:O.kle (Kp kz p m) (Kp kz p (m-1))):Dn kz p (m+1):=by
 intro i j hij hj;by_cases q:j<m
 .exact h i j hij q
 .have q':j=m:=by lia
  subst q';by_cases q2:i=j
  .rw[q2];exact zCW _
  .exact zDR hl (h i (j-1) (by lia) (by lia))
theorem aA0(hp:Pm n p)(hr:r<=n):∀(f m:Nat),1<=m->m+f=r->Up kz p m->
  (∀m',1<=m'->m'<=r->Up kz p m'->(m'=r\/O.klt (Kp kz p m') (Kp kz p (m'-1)))->Q m')->Wr kz n (PySem.W.kas_asc p f m) Q
 |0,m,h1,hm,hu,k=>k m h1 (by lia) hu (.inl (by lia))
 |f+1,m,h1,hm,hu,k=>by
  refine⟨hp.in (by lia),hp.in (by lia),?_⟩;have hd:O.blt (kz (p.getD m 0)) (kz (p.getD (m-1) 0))=O.blt (Kp kz p m) (Kp kz p (m-1)):=rfl;rw[hd];cases hb:O.blt (Kp kz p m) (Kp kz p (m-1))with
  |true=>exact k m h1 (by lia) hu (.inr hb)
  |false=>exact aA0 hp hr f (m+1) (by lia) (by lia) (hu.succ h1 hb) k
theorem rY(hr:r<=n):∀(f:Nat) (p:Array Nat) (m e:Nat),Pm n p->1<=m->m+f=r->Dn kz p m->e+1<=m->(∀i,m-(e+1)<=i->i<m->Kp kz p i=Kp kz p (m-1))->
  (∀p' m' e',Pm n p'->1<=m'->m'<=r->Dn kz p' m'->e'+1<=m'->(∀i,m'-(e'+1)<=i->i<m'->Kp kz p' i=Kp kz p' (m'-1))->Q (p',m',e'))->Wr kz n (PySem.W.kas_desc f p m e) Q
 |0,p,m,e,hp,h1,hm,hd,he,hq,k=>k p m e hp h1 (by lia) hd he hq
 |f+1,p,m,e,hp,h1,hm,hd,he,hq,k=>by
  have hsz:m<=p.size:=by rw[hp.sz];lia
  refine⟨hp.in (by lia),hp.in (by lia),?_⟩;have hx:O.blt (kz (p.getD m 0)) (kz (p.getD (m-1) 0))=O.blt (Kp kz p m) (Kp kz p (m-1)):=rfl;rw[hx];cases hb:O.blt (Kp kz p m) (Kp kz p (m-1))with
  |true=>
   have hd':Dn kz p (m+1):=hd.succ h1 (zEU hb);dsimp only;rw[if_pos rfl];by_cases hz:e>0
   .rw[if_pos hz]
    refine rY hr f _ (m+1) 0 (tX hp _ _) (by lia) (by lia) (λ i j hij hj=>?_) (by lia) (λ i u v=>by congr 1;lia) k;rw[mL hsz hq,mL hsz hq];exact hd' i j hij hj
   .rw[if_neg hz]
    exact rY hr f p (m+1) 0 hp (by lia) (by lia) hd' (by lia) (λ i u v=>by congr 1;lia) k
  |false=>
   dsimp only;rw[if_neg (by simp)];refine⟨hp.in (by lia),hp.in (by lia),?_⟩;have hy:O.blt (kz (p.getD (m-1) 0)) (kz (p.getD m 0))=O.blt (Kp kz p (m-1)) (Kp kz p m):=rfl;rw[hy];cases hc:O.blt (Kp kz p (m-1)) (Kp kz p m)with
   |true=>exact k p m e hp h1 (by lia) hd he hq
   |false=>
    dsimp only;rw[if_neg (by simp)];have hee:Kp kz p m=Kp kz p (m-1):=zGC hc hb;refine rY hr f p (m+1) (e+1) hp (by lia) (by lia) (hd.succ h1 hc) (by lia) (λ i u v=>?_) k;rw[show m+1-1=m by lia];by_cases hi:i=m
    .rw[hi]
    .rw[hee]
     exact hq i (by lia) (by lia)
def aB8(hr:r<=n)(hp:Pm n p)(h1:1<=m)(hm:m<=r)(hd:Dn kz p m)(k:∀m' p',Pm n p'->1<=m'->m'<=r->Up kz p' m'->Q (m',p')):Wr kz n (PySem.W.kas_tail3 m r p) Q:=by
 have hsz:m<=p.size:=by rw[hp.sz];lia
 refine Wr.bindI (aA0 (tX hp 0 m) hr (r-m) m h1 (by lia) (λ i j hij hj=>?_) λ m' a1 a2 a3 _=>k m' _ (tX hp 0 m) a1 a2 a3);rw[aBN hsz,aBN hsz,if_pos (by lia),if_pos (by lia)];exact hd _ _ (by lia) (by lia)
def qR(hr:r<=n)(hp:Pm n p)(hm:m+1<=r)(hd:Dn kz p (m+1))(k:∀m' p',Pm n p'->1<=m'->m'<=r->Up kz p' m'->Q (m',p')):Wr kz n (PySem.W.kas_descPart m r p) Q:=by
 refine Wr.bindI (rY hr (r-(m+1)) p (m+1) 0 hp (by lia) (by lia) hd (by lia) (λ i u v=>by congr 1;lia) λ p' m' e' a1 a2 a3 a4 a5 a6=>?_);have hsz:m'<=p'.size:=by rw[a1.sz];lia
 dsimp only;by_cases hz:e'>0
 .rw[if_pos hz]
  refine aB8 hr (tX a1 _ _) a2 a3 (λ i j hij hj=>?_) k;rw[mL hsz a6,mL hsz a6];exact a4 i j hij hj
 .rw[if_neg hz]
  exact aB8 hr a1 a2 a3 a4 k
def aDV(hr:r<=n)(hp:Pm n p)(h1:1<=r)(k:∀m' p',Pm n p'->1<=m'->m'<=r->Up kz p' m'->Q (m',p')):Wr kz n (PySem.W.kas_count r p) Q:=by
 refine Wr.bindI (aA0 hp hr (r-1) 1 (zAV 1) (by lia) (λ i j hij hj=>by rw[show i=j by lia];exact zCW _) λ m a1 a2 a3 a4=>?_);by_cases hm:m=r
 .rw[if_pos (by simpa using hm)]
  exact k m p hp a1 a2 a3
 .rw[if_neg (by simpa using hm)]
  have hl:O.klt (Kp kz p m) (Kp kz p (m-1)):=a4.resolve_left hm;by_cases hg:m>1
  .rw[if_pos hg]
   refine⟨hp.in (by lia),hp.in (by lia),?_⟩;have hx:O.blt (kz (p.getD 0 0)) (kz (p.getD (m-1) 0))=O.blt (Kp kz p 0) (Kp kz p (m-1)):=rfl;rw[hx];cases hb:O.blt (Kp kz p 0) (Kp kz p (m-1))with
   |true=>exact k m p hp a1 a2 a3
   |false=>
    dsimp only;rw[if_neg (by simp)];have hsz:m<=p.size:=by rw[hp.sz];lia
    have iX:∀i,0<=i->i<m->Kp kz p i=Kp kz p (m-1):=λ i _ hi=>zGC (a3 i (m-1) (by lia) (by lia)) (zDR hb (a3 0 i (by lia) hi))
    refine qR hr (tX hp 0 m) (by lia) (λ i j hij hj=>?_) k;rw[mL hsz iX,mL hsz iX];by_cases hjm:j<m
    .rw[iX i (by lia) (by lia),iX j (by lia) hjm];exact zCW _
    .have hj':j=m:=by lia
     subst hj';by_cases hi:i=j
     .rw[hi];exact zCW _
     .rw[iX i (by lia) (by lia)];exact zEU hl
  .rw[if_neg hg]
   have hm1:m=1:=by lia
   subst hm1;refine qR hr hp (by lia) (λ i j hij hj=>?_) k;by_cases hi:i=j
   .rw[hi];exact zCW _
   .have e1:i=0:=by lia
    have e2:j=1:=by lia
    subst e1 e2;exact zEU hl
theorem sS(hp:Pm n p)(hc:c<n)(hu:Up kz p c):∀(f l r:Nat),l<=r->r<=c->r-l<=f->(∀i,i<l->O.kle (Kp kz p i) (Kp kz p c))->(∀i,r<=i->i<c->O.klt (Kp kz p c) (Kp kz p i))->
  (∀l',l'<=c->(∀i,i<l'->O.kle (Kp kz p i) (Kp kz p c))->(∀i,l'<=i->i<c->O.klt (Kp kz p c) (Kp kz p i))->Q l')->Wr kz n (zGP p c f l r) Q
 |0,l,r,a1,a2,a3,a4,a5,k=>by
  have e:l=r:=by lia
  subst e;exact k l a2 a4 a5
 |f+1,l,r,a1,a2,a3,a4,a5,k=>by
  unfold zGP;by_cases hg:l ≥ r
  .rw[if_pos hg]
   have e:l=r:=by lia
   subst e;exact k l a2 a4 a5
  .rw[if_neg hg]
   refine⟨hp.in hc,hp.in (by lia),?_⟩;have hx:O.blt (kz (p.getD c 0)) (kz (p.getD ((l+r) / 2) 0))=O.blt (Kp kz p c) (Kp kz p ((l+r) / 2)):=rfl;rw[hx];cases hb:O.blt (Kp kz p c) (Kp kz p ((l+r) / 2))with
   |true=>exact sS hp hc hu f l ((l+r) / 2) (by lia) (by lia) (by lia) a4 (λ i u v=>KeyOrd.klt_of_klt_of_kle hb (hu _ _ u v)) k
   |false=>exact sS hp hc hu f ((l+r) / 2+1) r (by lia) a2 (by lia) (λ i u=>zDR (hu i ((l+r) / 2) (by lia) (by lia)) hb) a5 k
theorem aDW:∀(f:Nat) (p:Array Nat) (c:Nat),Pm n p->c+f=n->Up kz p c->(∀p',Pm n p'->Up kz p' n->Q p')->Wr kz n (PySem.W.kas_bin f p c) Q
 |0,p,c,hp,hc,hu,k=>k p hp (by rw[show n=c by lia];exact hu)
 |f+1,p,c,hp,hc,hu,k=>by
  refine Wr.bindI (sS hp (by lia) hu c 0 c (by lia) (zAV c) (by lia) (λ i u=>by lia) (λ i u v=>by lia) λ l a1 a2 a3=>?_);refine aDW f _ (c+1) ((bubble_perm _ _ _).trans hp) (by lia) (λ i j hij hj=>?_) k;have hs:c<p.size:=by rw[hp.sz];lia
  rw[aEp hs (by lia),aEp hs (by lia),show c-(c-l)=l by lia]
  repeat' split
  all_goals first
   |(exfalso;lia)
   |exact O.irrefl _
   |exact a2 _ (by lia)
   |exact KeyOrd.klt_asymm (a3 _ (by lia) (by lia))
   |exact hu _ _ (by lia) (by lia)
def aFh(h1:1<=n)(k:∀p,Pm n p->Up kz p n->Q p):Wr kz n (PySem.W.kas_sort n) Q:=by
 refine Wr.bindI (aDV (zAV n) (zGB _) h1 λ m p a1 a2 a3 a4=>?_);dsimp only;by_cases hm:m<n
 .rw[if_pos hm]
  exact aDW _ p _ a1 (by lia) (by rw[show max m 1=m by lia];exact a4) k
 .rw[if_neg hm]
  exact k p a1 (by rw[show n=m by lia];exact a4)
theorem yh{I:zAD->Prop}(hc:∀i j (C:Bool->zAD->Prop) s,I s->i<n->j<n->(∀s',I s'->C (O.blt (kz i) (kz j)) s')->cmp i j C s):
  ∀(t:zFg α) (s:zAD),I s->Wr kz n t (λ a=>∀s',I s'->Q a s')->t.kasWp cmp Q s
 | .ret a,s,hI,h=>h s hI
 | .ask i j k,s,hI,⟨h1,h2,h3⟩=>hc i j _ s hI h1 h2 λ s' hI'=>yh hc _ s' hI' h3
end
theorem xq:∀a:List Int,HT.lexLt a a=false
 |[]=>rfl
 |x::a=>by rw[HT.iY,if_pos rfl];exact xq a
theorem ou:∀a b c:List Int,HT.lexLt a b=true->HT.lexLt b c=true->HT.lexLt a c=true
 |[],[],c,h,_=>by cases h
 |[],_::_,[],_,h=>by cases h
 |[],_::_,_::_,_,_=>rfl
 |_::_,[],_,h,_=>by cases h
 |_::_,_::_,[],_,h=>by cases h
 |x::a,y::b,z::c,h1,h2=>by
  rw[HT.iY]at h1 h2 ⊢;by_cases e1:x=y
  .subst e1
   rw[if_pos rfl]at h1;by_cases e2:x=z
   .rw[if_pos e2]at h2 ⊢
    exact ou a b c h1 h2
   .rw[if_neg e2]at h2 ⊢
    exact h2
  .rw[if_neg e1]at h1
   simp only[decide_eq_true_eq]at h1;by_cases e2:y=z
   .subst e2
    rw[if_neg e1];simpa using h1
   .rw[if_neg e2]at h2
    simp only[decide_eq_true_eq]at h2;rw[if_neg (by lia)];simp only[decide_eq_true_eq];lia
theorem uN:∀a b:List Int,HT.lexLt a b=false->HT.lexLt b a=false->a=b
 |[],[],_,_=>rfl
 |[],_::_,h,_=>by cases h
 |_::_,[],_,h=>by cases h
 |x::a,y::b,h1,h2=>by
  rw[HT.iY]at h1 h2;by_cases e:x=y
  .subst e
   rw[if_pos rfl]at h1 h2;rw[uN a b h1 h2]
  .rw[if_neg e]at h1
   rw[if_neg λ q=>e q.symm]at h2;simp only[decide_eq_false_iff_not]at h1 h2;lia
def aEf(a b c:List Int)(h:HT.lexLt a c=true):HT.lexLt a b=true\/HT.lexLt b c=true:=by
 cases e1:HT.lexLt a b with
 |true=>exact .inl rfl
 |false=>
  right;cases e2:HT.lexLt b a with
  |true=>exact ou b a c e2 h
  |false=>rw[<-uN a b e1 e2];exact h
def aBI:zBt:=⟨List Int,HT.lexLt,xq,ou,aEf,uN⟩
inductive dG(h:Heap):List Value->List (List Int)->Prop where
 |nil:dG h [] []
 |cons {x:Addr} {o:Obj} {xs:Array Value} {k:Nat} {ns:List Int} {vs:List Value} {nss:gV} (ho:h.get? x=some o) (hc:o.cls= .type "tuple") (hd:o.data= .seq xs k) (hi:zBK xs.toList ns) (hne:ns≠[]) (r:dG h vs nss):dG h (.ref x::vs) (ns::nss)
theorem dG.mono(k:∀x o,h.get? x=some o->o.cls= .type "tuple"->h'.get? x=some o):∀{vs:List Value} {nss:gV},dG h vs nss->dG h' vs nss
 |_,_,.nil=>.nil
 |_,_,.cons ho hc hd hi hne r=>.cons (k _ _ ho hc) hc hd hi hne (dG.mono k r)
theorem dG.at:∀{vs:List Value} {nss:gV} {i:Nat},dG h vs nss->i<vs.length->∃x o xs k,vs.getD i zBX= .ref x/\h.get? x=some o/\o.cls= .type "tuple"/\o.data= .seq xs k/\zBK xs.toList (nss.getD i [])/\nss.getD i []≠[]
 |_,_,_,.nil,hi=>by simp at hi
 |_,_,0,.cons ho hc hd hi hne _,_=>⟨_,_,_,_,rfl,ho,hc,hd,hi,hne⟩
 |_,_,i+1,.cons _ _ _ _ _ r,hi=>by
  obtain⟨x,o,xs,k,q⟩:=dG.at (i:=i) r (by simpa using hi);exact⟨x,o,xs,k,by simpa using q⟩
theorem dG.firsts:∀{vs:List Value} {nss:gV},dG h vs nss->∃fs,PySem.W.KatTups h vs fs/\fs.length=vs.length/\∀f∈fs,∃n t,f=zCv n t
 |_,_,.nil=>⟨[],.nil,rfl,λ f hf=>by simp at hf⟩
 |_,_,.cons (xs:=xs) ho hc hd hi hne r=>by
  obtain⟨fs,h1,h2,h3⟩:=dG.firsts r;obtain⟨l,rfl⟩:∃l:List Value,xs=l.toArray:=⟨xs.toList,by simp⟩
  rw[show l.toArray.toList=l by simp]at hi;cases hi with
  |nil=>exact absurd rfl hne
  |cons n t q=>
   rename_i l' ns';refine⟨.int n t::fs,.cons ho hc hd (by simp) h1,by simp[h2],λ f hf=>?_⟩;rcases zAQ.mp hf with rfl|hf
   .exact⟨n,t,rfl⟩
   .exact h3 f hf
section
variable{prog:zAU}{w:World}{A:zA8}{E:Value->zAD->Prop}{s:zAD}
def zj:∀{xs ys:List Value} {ns ms:List Int} (i:Nat),zBK xs ns->zBK ys ms->fin=decide (xs.length<ys.length)->Q (HT.lexLt ns ms) s->PySem.W.KatLex prog w A b fin Q (xs.zip ys) i s:=by
 intro xs ys ns ms i hx;induction hx generalizing ys ms i with
 |nil=>intro hy hf q;cases hy<;>(subst hf;exact q)
 |@cons x t xs ns r ih=>
  intro hy hf q;cases hy with
  |nil=>subst hf;exact q
  |@cons y u ys ms r'=>?_
  rw[zBY];refine PySem.W.kat_cons (wpAny_eqBool_int ?_);rw[HT.iY]at q;by_cases e:x=y
  .rw[if_pos e]at q
   rw[show(x==y)=true by simpa using e];exact PySem.W.kat_yes (ih (i+1) r' (by rw[hf];simp) q)
  .rw[if_neg e]at q
   rw[show(x==y)=false by simpa using e];refine PySem.W.kat_no ?_;cases hb:(b&&i==0)with
   |true=>exact oneLt_int q
   |false=>exact PySem.W.kat_one _ _ (zEp q)
def aBP(hx:s.heap.get? x=some ox)(dx:ox.data= .seq xs n)(hy:s.heap.get? y=some oy)(dy:oy.data= .seq ys k)(hi:zBK xs.toList ns)(hj:zBK ys.toList ms)
  (q:Q (HT.lexLt ns ms) s):wpAny (model prog w) A (keyLt' (tuples' b) (.ref x) (.ref y)) Q E s:=
 PySem.W.kat_lt hx dx hy dy (zj 0 hi hj (by simp) q)
def m9(vs:List Value)(p:Array Nat):Array Value:=(p.toList.map λ i=>vs.getD i zBX).toArray
def aFg(h:vs.length<2):(vs.toArray.zip vs.toArray).map (·.2)=m9 vs (zBE vs.length).toArray:=by
 cases vs with
 |nil=>simp[m9]
 |cons v t=>
  cases t with
  |nil=>simp[m9]
  |cons u t=>exact absurd h (zE7.mpr (Nat.le_add_left 2 t.length))
def aBH(ho:s.heap.get? a=some (zBz "list" vs.toArray c))(ht:dG s.heap vs nss)(h64:vs.length<64)
  (h:∀p:Array Nat,Pm vs.length p->Up (O:=aBI) (λ i=>nss.getD i []) p vs.length->P (.done (.ret .none)) {s with heap:=zGY s.heap a vs (m9 vs p)}):
  wpAny (model prog w) A (zDm.«list.sort» ⟨[.ref a],[]⟩) P E s:=by
 have hlt:a<s.heap.objs.size:=zA0 ho;have hz:vs.length<=zAR:=by rw[zBo];lia
 obtain⟨e1,ho1⟩:∃e1,(s.heap.update a (zBc λ _=>(#[]:Array Value))).get? a=some (zBz "list" #[] e1):=⟨_,zFv ho λ _=>#[]⟩
 have keep:∀x o,s.heap.get? x=some o->o.cls= .type "tuple"->(((s.heap.update a (zBc λ _=>(#[]:Array Value))).push (zBz "tuple" vs.toArray 0)).push (zBz "list" #[] 0)).get? x=some o:=λ x o e q=>by
  have hxa:x≠a:=λ z=>by
   subst z;rw[ho]at e;cases e;exact absurd q (show¬(zCV "list"=zCV "tuple")by decide)
  refine zAG _ (zAG _ ?_);rw[zCw _ _ _ _ hxa];exact e
 have ho6:(((s.heap.update a (zBc λ _=>(#[]:Array Value))).push (zBz "tuple" vs.toArray 0)).push (zBz "list" #[] 0)).get? a=some (zBz "list" #[] e1):=zAG _ (zAG _ ho1);have ht6:=ht.mono keep;rw[list_sort_plain];refine zAY (listItems_at ho rfl (zAY (zG9 ho rfl ?_ (by rw[zAL];exact hz) (zAi _))));refine zAY (zH1 ho1 rfl (zAY (wpAny_newTuple ?_ (by show vs.length<=_;exact hz))));refine zAY (wpAny_newList (zBm ?_) (zAi _));show wpAny (model prog w) A _ P E {s with heap:=((s.heap.update a (zBc λ _=>(#[]:Array Value))).push (zBz "tuple" vs.toArray 0)).push (zBz "list" #[] 0)};dsimp only;have hsz:∀p:Array Nat,Pm vs.length p->(m9 vs p).size=vs.length:=λ p a1=>by unfold m9;rw[zAL,zAF,zBq,a1.sz]
 by_cases h2:vs.toArray.size<2
 .rw[if_pos h2,if_pos h2]
  refine zAY (zAr ?_);rw[StateT.run_pure];refine zAY (zAr ?_);have h2':vs.length<2:=by simpa using h2
  have a1:Pm vs.length (zBE vs.length).toArray:=zGB _;have a3:=aFg h2';dsimp only;refine zAY (zH1 ho6 rfl ?_);show wpAny (model prog w) A (Builtin.List.listUpdate (.ref a) (λ _=>(vs.toArray.zip vs.toArray).map (·.2))>>=_) P E _;rw[a3];refine zAY (zG9 ho6 rfl ?_ (zAi _) (by show(m9 vs _).size<=_;rw[hsz _ a1];lia));simp only[bne_self_eq_false,zCZ,if_false];exact zAr (h _ a1 λ i j hij hj=>by rw[show i=j by lia];exact xq _)
 .rw[if_neg h2,if_neg h2]
  have h2':2<=vs.length:=zD9 (show¬vs.length<2 by simpa using h2);obtain⟨fs,f1,f2,f3⟩:=ht6.firsts;refine zAY (PySem.W.kat_kind (T:=.type "int") f1 (by lia) (λ v hv=>?_) (by decide) ?_)
  .obtain⟨n,t,rfl⟩:=f3 v hv
   exact zHm
  rw[show(zCV "int" !=zCV "tuple")=true by decide];refine zAY (zBa (PySem.W.kat_run (κ:=tuples' true) (ks:=vs) (vs:=vs) (Q:=λ st s'=>s'={s with heap:=((s.heap.update a (zBc λ _=>(#[]:Array Value))).push (zBz "tuple" vs.toArray 0)).push (zBz "list" #[] 0)}/\∃p:Array Nat,Pm vs.length p/\Up (O:=aBI) (λ i=>nss.getD i []) p vs.length/\(arrOf st).map (·.2)=m9 vs p/\zFk st=none)
   (G:=λ p s'=>s'={s with heap:=((s.heap.update a (zBc λ _=>(#[]:Array Value))).push (zBz "tuple" vs.toArray 0)).push (zBz "list" #[] 0)}/\Pm vs.length p/\Up (O:=aBI) (λ i=>nss.getD i []) p vs.length)
   rfl h2' h64 (λ p st s' _ b2 b3 b4=>⟨b4.1,p,b4.2.1,b4.2.2,PySem.W.kat_snds rfl b2,b3⟩) ?_) (λ r s' hr=>?_) λ _ _ e=>e)
  .refine yh (O:=aBI) (kz:=λ i=>nss.getD i []) (n:=vs.length) (I:=λ s'=>s'={s with heap:=((s.heap.update a (zBc λ _=>(#[]:Array Value))).push (zBz "tuple" vs.toArray 0)).push (zBz "list" #[] 0)}) (λ i j C s' hI hi hj hC=>?_) _ _ rfl (aFh (by lia) λ p a1 a2 s' hs'=>⟨hs',a1,a2⟩)
   subst hI;unfold PySem.W.kas_ask;obtain⟨x,ox,xs,kx,x1,x2,_,x4,x5,_⟩:=ht6.at hi;obtain⟨y,oy,ys,ky,y1,y2,_,y4,y5,_⟩:=ht6.at hj;rw[x1,y1];exact aBP x2 x4 y2 y4 x5 y5 (hC _ rfl)
  .obtain⟨⟨⟩,st⟩:=r
   obtain⟨e,p,b1,b2,b3,b4⟩:=hr;subst e;refine zAY (zH1 ho6 rfl ?_);rw[b3,b4];refine zAY (zG9 ho6 rfl ?_ (zAi _) (by show(m9 vs p).size<=_;rw[hsz p b1];lia));simp only[bne_self_eq_false,zCZ,if_false];exact zAr (h p b1 b2)
end
theorem sub_len[BEq α][LawfulBEq α]:∀{l l':List α},l.Nodup->(∀x∈l,x∈l')->l.length<=l'.length
 |[],_,_,_=>zAi _
 |x::l,l',nd,h=>by
  have hx:x∈l':=h x zAE;have ih:=sub_len (l:=l) (l':=l'.erase x) (zA9.mp nd).2 λ y hy=>(zCP λ e=>by subst e;exact(zA9.mp nd).1 hy).mpr (h y (zAB _ hy))
  rw[zDQ hx]at ih
  have:0<l'.length:=zD6 hx
  rw[zA4];lia
def Ris(xs:Array Nat):Prop:=∀i j,i<j->j<xs.size->xs.getD i 0<xs.getD j 0
structure TbOk(t:zFj)(n:Nat):Prop where
 dum:t.dummies=#[]
 siz:t.place.size=n
 ris:Ris t.place
 top:∀i,i<n->t.place.getD i 0<=t.mask
 msk:t.mask=7/\n<5\/t.mask=31/\n<19\/t.mask=127/\n<77
 pla:t.plain=true
structure TbPut(t:zFj)(n:Nat):Prop where
 dum:t.dummies=#[]
 siz:t.place.size=n
 ris:Ris t.place
 top:∀i,i<n->t.place.getD i 0<=t.mask
 msk:t.mask=7/\n<=5\/t.mask=31/\n<=19\/t.mask=127/\n<77
 pla:t.plain=true
structure TupAt(h:Heap)(x:Addr)(ns:List Int):Prop where
 ex:∃o xs k,h.get? x=some o/\o.cls= .type "tuple"/\o.data= .seq xs k/\zBK xs.toList ns
end VL
namespace PySem
end PySem
namespace VL
open PySem PySem.Spec PyProof.Rows L2
def aHc(h:Heap)(p:Value×List Int):Prop:=∃x o xs k,p.1= .ref x/\h.get? x=some o/\o.cls= .type "tuple"/\o.data= .seq xs k/\zBK xs.toList p.2/\p.2≠[]
theorem dG.all:∀{vs:List Value} {nss:gV},dG h vs nss->∀p∈vs.zip nss,aHc h p
 |_,_,.nil,p,hp=>by simp at hp
 |_,_,.cons ho hc hd hi hne r,p,hp=>by
  rw[zBY]at hp;rcases zAQ.mp hp with e|hp
  .subst e;exact⟨_,_,_,_,rfl,ho,hc,hd,hi,hne⟩
  .exact r.all p hp
theorem aBa:∀{zs:List (Value×List Int)},(∀p∈zs,aHc h p)->dG h (zs.map (·.1)) (zs.map (·.2))
 |[],_=>.nil
 |p::zs,hz=>by
  obtain⟨x,o,xs,k,e1,e2,e3,e4,e5,e6⟩:=hz p zAE;rw[zAC,zAC,e1];exact .cons e2 e3 e4 e5 e6 (aBa λ q hq=>hz q (zAB _ hq))
def oh(h:l.Perm m'):∀{m:List α},m'=m.map f->∃m2:List α,m2.Perm m/\l=m2.map f:=by
 induction h with
 |nil=>intro m e;exact⟨m,zBN _,e⟩
 |cons x p ih=>
  intro m e;cases m with
  |nil=>cases e
  |cons a m=>
   rw[zAC]at e;injection e with e1 e2
   obtain⟨m2,q1,q2⟩:=ih e2;exact⟨a::m2,q1.cons a,by rw[zAC,q2,e1]⟩
 |swap x y l=>
  intro m e;cases m with
  |nil=>cases e
  |cons a m=>
   cases m with
   |nil=>rw[zAC]at e;injection e with _ e2;cases e2
   |cons b m=>
    rw[zAC,zAC]at e;injection e with e1 e2
    injection e2 with e2 e3
    exact⟨b::a::m,zE6 _ _ _,by rw[zAC,zAC,e1,e2,e3]⟩
 |trans p q ih1 ih2=>
  intro m e;obtain⟨m2,a1,a2⟩:=ih2 e;obtain⟨m3,b1,b2⟩:=ih1 a2;exact⟨m3,b1.trans a1,b2⟩
def pL(l:gV):Prop:=l.Pairwise λ a b=>HT.lexLt b a=false
section
variable{prog:zAU}{w:World}{A:zA8}{E:Value->zAD->Prop}{s:zAD}
def yz{Q:Value->zAD->Prop}(hz:∀p∈zs,aHc s.heap p)(h64:zs.length<64)
  (h:∀(zs':List (Value×List Int)) h' e,zs'.Perm zs->pL (zs'.map (·.2))->(∀b o,s.heap.get? b=some o->h'.get? b=some o)->h'.get? s.heap.objs.size=some (zBz "list" (zs'.map (·.1)).toArray e)->Q (.ref s.heap.objs.size) {s with heap:=h'}):
  wpAny (model prog w) A (zGa (zs.map (·.1))>>=λ l=>zD5 [l] (call (.builtin "list.sort") [l])>>=λ _=>ret l) (λ fin s'=>∃r,fin= .done (.ret r)/\Q r s') E s:=by
 have hW:(zs.map (·.1)).length=zs.length:=zAF _;refine zAY (wpAny_newList ?_ (by rw[zBo];omega));have hoL:(s.heap.push (zBz "list" (zs.map (·.1)).toArray 0)).get? s.heap.objs.size=some (zBz "list" (zs.map (·.1)).toArray 0):=zA5 _ rfl;refine zAY (zBm (wpAny_call_entry slot_list_sort ⟨_,hoL,rfl⟩ entry_list_sort ?_ (args_list_sort _)));refine aBH (s:={s with heap:=s.heap.push (zBz "list" (zs.map (·.1)).toArray 0)}) hoL (aBa λ p hp=>?_) (by omega) λ p a1 a2=>⟨_,rfl,?_⟩
 .obtain⟨x,o,xs,k,e1,e2,e3⟩:=hz p hp
  exact⟨x,o,xs,k,e1,zAG _ e2,e3⟩
 rw[hW]at a1 a2;have bE:p.toList.map (λ i=>(zs.map (·.1)).getD i zBX)=(p.toList.map λ i=>zs.getD i (zBX,[])).map (·.1):=by
  rw[zA3];refine zBL λ i hi=>?_
  show(zs.map (·.1)).getD i zBX=(zs.getD i (zBX,[])).1
  rw[zBG,zBG,zAP];cases zs[i]?<;>rfl
 have hperm:(p.toList.map λ i=>zs.getD i (zBX,[])).Perm zs:=by
  have h1:p.toList.Perm (zBE zs.length):=by
   have:=Array.perm_iff_toList_perm.mp a1
   simpa using this
  refine(h1.map _).trans ?_
  have:(zBE zs.length).map (λ i=>zs.getD i (zBX,[]))=zs:=by
   refine List.ext_getElem (by simp) λ i h1 h2=>?_
   rw[zCh,zG3,zBG,zAI h2];rfl
  rw[this]
 have hne:∀b o,s.heap.get? b=some o->b≠s.heap.objs.size:=λ b o e=>zAd (zA0 e)
 obtain⟨e1,he1⟩:∃e1,((s.heap.push (zBz "list" (zs.map (·.1)).toArray 0)).update s.heap.objs.size (zBc λ _=>(#[]:Array Value))).get? s.heap.objs.size=some (zBz "list" #[] e1):=⟨_,zFv hoL λ _=>#[]⟩
 have g1:=zAG (zBz "list" #[] 0) (zAG (zBz "tuple" (zs.map (·.1)).toArray 0) he1);have g2:=zFv g1 (λ _=>m9 (zs.map (·.1)) p);generalize (if ((m9 (zs.map (·.1)) p).size==(#[]:Array Value).size)=true then e1 else e1+1)=c1 at g2;have hend:(zGY (s.heap.push (zBz "list" (zs.map (·.1)).toArray 0)) s.heap.objs.size (zs.map (·.1)) (m9 (zs.map (·.1)) p)).get? s.heap.objs.size=some (zBz "list" (m9 (zs.map (·.1)) p) c1):=g2;have pV:m9 (zs.map (·.1)) p=((p.toList.map λ i=>zs.getD i (zBX,[])).map (·.1)).toArray:=by unfold m9;rw[bE]
 have hris:pL ((p.toList.map λ i=>zs.getD i (zBX,[])).map (·.2)):=by
  unfold pL;rw[zA3];refine zBJ.mpr λ i j hi hj hij=>?_
  rw[zAF,zBq,a1.sz]at hi hj;have hk:∀k (hk:k<zs.length),Kp (O:=aBI) (λ i=>(zs.map (·.2)).getD i []) p k=(zs.getD (p.getD k 0) (zBX,[])).2:=λ k hk=>by
   show(zs.map (·.2)).getD (p.getD k 0) []=_
   rw[zBG,zBG,zAP];cases zs[p.getD k 0]?<;>rfl
  have hg:∀k (hk:k<p.toList.length),p.toList[k]=p.getD k 0:=λ k hk=>by
   have:k<p.size:=by simpa using hk
   simp[Array.getD,this]
  have this:HT.lexLt (Kp (O:=aBI) (λ i=>(zs.map (·.2)).getD i []) p j) (Kp (O:=aBI) (λ i=>(zs.map (·.2)).getD i []) p i)=false:=a2 i j (zBf hij) hj;rw[hk i hi,hk j hj]at this;rw[zCh,zCh,hg,hg];exact this
 have b6:∀b o,s.heap.get? b=some o->(zGY (s.heap.push (zBz "list" (zs.map (·.1)).toArray 0)) s.heap.objs.size (zs.map (·.1)) (m9 (zs.map (·.1)) p)).get? b=some o:=λ b o e=>by
  unfold zGY;rw[zCw _ _ _ _ (hne b o e)];refine zAG _ (zAG _ ?_);rw[zCw _ _ _ _ (hne b o e)];exact zAG _ e
 rw[pV]at hend b6;have hq:=h (p.toList.map λ i=>zs.getD i (zBX,[])) _ c1 hperm hris b6 hend;rw[<-pV]at hq;exact zAr ⟨_,rfl,hq⟩
def wY(h:wpAny (model prog w) A.in1 (collect v) (λ vs s'=>wpAny (model prog w) A.in1 (zGa vs>>=λ l=>zD5 [l] (call (.builtin "list.sort") [l])>>=λ _=>ret l) (λ fin s'=>∃r,fin= .done (.ret r)/\Q r s') E s') E s):
  wpAny (model prog w) A (call (.builtin "sorted") [v]) Q E s:=by
 refine Calls.call_function_entry kind_sorted plain_sorted entry_sorted (args_sorted1 _) ?_;unfold zDm.«sorted»;refine zAY (m:=checkCount "sorted" 1 1 _) (zAr (zAY ?_));exact h
end
inductive gQ(K:zAA)(H:Hp):List V->List (List Int)->Prop where
 |nil:gQ K H [] []
 |cons {a:Addr} {ns:List Int} {vs:List V} {nss:gV} (h:SqT K H a (ns.map V.int)) (hne:ns≠[]) (r:gQ K H vs nss):gQ K H (.ref a::vs) (ns::nss)
def ph:V->Value
 | .ref a=>.ref a
 |_=>.none
def gQ.vals{K:zAA}:∀{vs:List V} {nss:gV} {us:List Value},gQ K H vs nss->Vals vs us->us=vs.map ph:=by
 intro vs nss us t v;induction v generalizing nss with
 |nil=>rfl
 |cons q s ih=>
  cases t with
  |cons _ _ r=>
   cases q;rw[zAC,ih r];rfl
theorem gQ.len{K:zAA}:∀{vs:List V} {nss:gV},gQ K H vs nss->vs.length=nss.length
 |_,_,.nil=>rfl
 |_,_,.cons _ _ r=>by rw[zA4,zA4,r.len]
theorem gQ.refs{K:zAA}:∀{vs:List V} {nss:gV},gQ K H vs nss->∀v∈vs,RelV v (ph v)
 |_,_,.nil,v,hv=>by simp at hv
 |_,_,.cons _ _ r,v,hv=>by
  rcases zAQ.mp hv with e|hv
  .subst e;exact rfl
  .exact r.refs v hv
theorem gQ.at(I:Inv X hV σ H s):∀{vs:List V} {nss:gV},gQ X.K H vs nss->dG s.heap (vs.map ph) nss
 |_,_,.nil=>.nil
 |_,_,.cons h hne r=>by
  obtain⟨its,rv,⟨o,ho,hc,n,hd⟩,_⟩:=I.tuple h;exact .cons ho hc hd (by simpa using intsAre_of rv) hne (r.at I)
theorem vR:∀{vs:List V},(∀v∈vs,RelV v (ph v))->Vals vs (vs.map ph)
 |[],_=>.nil
 |v::vs,h=>.cons (h v zAE) (vR λ u hu=>h u (zAB _ hu))
section
variable{X:Cx}
def aFa(H:Hp)(vs:List V)(nss:gV)(Q:VK):Prop:=∀zs:List (V×List Int),zs.Perm (vs.zip nss)->pL (zs.map (·.2))->New H (.lst (zs.map (·.1))) Q
def aAa{hV:hZ}(I:Inv X hV σ H s)(ht:gQ X.K H vs nss)(h64:vs.length<64)(q:aFa H vs nss Q)
  (hs1:∃h1 tk,s1={s with heap:=h1,toks:=tk}/\s.heap.objs.size<=h1.objs.size/\∀b o,s.heap.get? b=some o->h1.get? b=some o){zs:List (Value×List Int)}(hz:zs.Perm ((vs.map ph).zip nss))(hus:us=zs.map (·.1)):
  wpAny (model X.prog X.w) X.A.in1 (zGa us>>=λ l=>zD5 [l] (call (.builtin "list.sort") [l])>>=λ _=>ret l) (λ fin s'=>∃r,fin= .done (.ret r)/\EP X hV σ Q r s') X.xe s1:=by
 obtain⟨h1,tk,rfl,hsz,keep⟩:=hs1;subst hus;have iX:∀p∈zs,aHc h1 p:=λ p hp=>by
  obtain⟨x,o,xs,k,e1,e2,e3⟩:=(ht.at I).all p (hz.mem_iff.mp hp);exact⟨x,o,xs,k,e1,keep _ _ e2,e3⟩
 have hW:zs.length<64:=by
  rw[hz.length_eq,zHL,zAF,<-ht.len,zDr];exact h64
 refine yz (s:={s with heap:=h1,toks:=tk}) iX hW λ zs' h' e a1 a2 a3 a4=>?_
 have bE:(vs.map ph).zip nss=(vs.zip nss).map λ p=>(ph p.1,p.2):=by rw[List.zip_map_left];rfl
 obtain⟨ws,w1,w2⟩:=oh (f:=λ p:V×List Int=>(ph p.1,p.2)) (a1.trans hz) bE;have hfr:H h1.objs.size=none:=I.hok.fresh hsz;have aT:∀v∈ws.map (·.1),RelV v (ph v):=λ v hv=>by
  obtain⟨p,hp,rfl⟩:=zAS.mp hv;exact ht.refs p.1 (zDf (w1.mem_iff.mp hp)).1
 have hws:zs'.map (·.1)=(ws.map (·.1)).map ph:=by rw[w2,zA3,zA3];rfl
 have hwl:(ws.map (·.1)).length<=zAR:=by
  rw[zAF,w1.length_eq,zHL,<-ht.len,zDr,zBo];lia
 refine⟨.ref h1.objs.size,upd H h1.objs.size (.lst (ws.map (·.1))),I.laid (t':=tk) (λ b o e=>a3 b o (keep b o e)) hsz ⟨hwl,(ws.map (·.1)).map ph,e,vR aT,?_⟩,rfl,(q ws w1 ?_).at hfr⟩
 .rw[<-hws];exact a4
 .have:ws.map (·.2)=zs'.map (·.2):=by rw[w2,zA3];rfl
  rw[this];exact a2
def aAm(K:zAA):List V->Hp->VK->Prop:=λ xs H Q=>∃p vs nss,xs=[.ref p]/\SqL K H p vs/\gQ K H vs nss/\vs.length<64/\aFa H vs nss Q
def vO:cR X (.builtin "sorted") (aAm X.K):=by
 intro hV s σ H xs us Q I r h;obtain⟨p,vs,nss,rfl,hp,ht,h64,q⟩:=h;obtain⟨u,rfl,ru⟩:=vals1 r;cases ru;obtain⟨its,rv,pl,hz⟩:=I.list hp;have e:=ht.vals rv;subst e;have hl2:(vs.map ph).length=nss.length:=by rw[zAF];exact ht.len
 refine wY (collect_list pl.isList ?_ (by rw[zAF];exact hz));refine aAa I ht h64 q ⟨_,_,rfl,?_,λ b o e=>?_⟩ (zBN _) ?_
 .rw[Heap.size_update,size_push']
  exact zEO _
 .rw[zCw _ _ _ _ (zAd (zA0 e))]
  exact zAG _ e
 .exact(zGt (by lia)).symm
end
def aDA(a:List Int):gV->List (List Int)
 |[]=>[a]
 |b::l=>if HT.lexLt b a then b::aDA a l else a::b::l
def tE:gV->List (List Int)
 |[]=>[]
 |a::l=>aDA a (tE l)
theorem qL(a:List Int):∀l,(aDA a l).Perm (a::l)
 |[]=>zBN _
 |b::l=>by
  unfold aDA;split
  .exact((qL a l).cons b).trans (zE6 _ _ _)
  .exact zBN _
theorem nT:∀l,(tE l).Perm l
 |[]=>zBN _
 |a::l=>(qL a _).trans ((nT l).cons a)
def aGr(h:HT.lexLt a b=true):HT.lexLt b a=false:=by
 cases e:HT.lexLt b a with
 |false=>rfl
 |true=>have:=ou a b a h e;rw[xq]at this;cases this
def aJa(h1:HT.lexLt b a=false)(h2:HT.lexLt c b=false):HT.lexLt c a=false:=by
 cases e:HT.lexLt c a with
 |false=>rfl
 |true=>
  rcases aEf c b a e with z|z
  .rw[h2]at z;cases z
  .rw[h1]at z;cases z
theorem uU(a:List Int):∀l,pL l->pL (aDA a l)
 |[],_=>zAb.mpr ⟨λ _ h=>by simp at h,.nil⟩
 |b::l,h=>by
  obtain⟨h1,h2⟩:=zAb.mp h;unfold aDA;cases e:HT.lexLt b a with
  |true=>
   rw[if_pos rfl];refine zAb.mpr ⟨λ x hx=>?_,uU a l h2⟩;rcases zAQ.mp ((qL a l).mem_iff.mp hx)with q|q
   .subst q;exact aGr e
   .exact h1 x q
  |false=>
   rw[if_neg (by simp)];refine zAb.mpr ⟨λ x hx=>?_,h⟩;rcases zAQ.mp hx with q|q
   .subst q;exact e
   .exact aJa e (h1 x q)
theorem kj:∀l,pL (tE l)
 |[]=>.nil
 |a::l=>uU a _ (kj l)
theorem v5:∀{a b:gV},a.Perm b->pL a->pL b->a=b
 |[],b,p,_,_=>p.nil_eq
 |x::a,b,p,h1,h2=>by
  cases b with
  |nil=>exact absurd p.length_eq (by simp)
  |cons y b=>
   have hxy:x=y:=by
    obtain⟨q1,_⟩:=zAb.mp h1;obtain⟨q2,_⟩:=zAb.mp h2;have m1:x∈y::b:=p.mem_iff.mp zAE;have m2:y∈x::a:=p.mem_iff.mpr zAE;rcases zAQ.mp m1 with e|m1
    .exact e
    .rcases zAQ.mp m2 with e|m2
     .exact e.symm
     .exact uN _ _ (q2 x m1) (q1 y m2)
   subst hxy;rw[v5 (List.Perm.cons_inv p) (zAb.mp h1).2 (zAb.mp h2).2]
abbrev tupI(ns:List Int):D:=.tup (ns.map .int)
def kW:List D->Option gV
 |[]=>some []
 | .tup l::r=>match intsOf l,kW r with
  |some (n::ns),some nss=>some ((n::ns)::nss)
  |_,_=>none
 |_=>none
theorem qT:∀{l:List D} {nss:gV},kW l=some nss->l=nss.map tupI/\∀ns∈nss,ns≠[]
 |[],nss,h=>by cases h;exact⟨rfl,λ ns h=>by simp at h⟩
 | .tup l::r,nss,h=>by
  unfold kW at h;split at h
  .rename_i n ns nss' e1 e2
   cases h;obtain⟨q1,q2⟩:=qT e2;rw[cV e1,q1];refine⟨rfl,λ ms hm=>?_⟩;rcases zAQ.mp hm with e|hm
   .subst e;simp
   .exact q2 ms hm
  .cases h
 | .non::_,_,h=>by cases h
 | .int _::_,_,h=>by cases h
 | .bl _::_,_,h=>by cases h
 | .str _::_,_,h=>by cases h
 | .lst _::_,_,h=>by cases h
 | .dct _ _::_,_,h=>by cases h
 | .set _::_,_,h=>by cases h
 | .scr _::_,_,h=>by cases h
theorem sV:∀{nss:gV},(∀ns∈nss,ns≠[])->kW (nss.map tupI)=some nss
 |[],_=>rfl
 |[]::nss,h=>absurd rfl (h [] zAE)
 |(n::ns)::nss,h=>by
  have ih:=sV λ ms hm=>h ms (zAB _ hm)
  rw[zAC];unfold kW;rw[ih,show intsOf (List.map D.int (n::ns))=some (n::ns)from dM _]
theorem yq{K:zAA}:∀{xs:List V} {nss:gV},Rps K A H xs (nss.map tupI)->(∀ns∈nss,ns≠[])->gQ K H xs nss
 |_,[],.nil,_=>.nil
 |_,ns::nss,.cons h r,hne=>by
  cases h with
  |tup h r'=>
   have e:=r'.ints_of;subst e;exact .cons h (hne ns zAE) (yq r λ ms hm=>hne ms (zAB _ hm))
theorem aDw{K:zAA}:∀{zs:List (V×List Int)},(∀p∈zs,∃a,p.1= .ref a/\SqT K H a (p.2.map V.int))->Rps K A H (zs.map (·.1)) ((zs.map (·.2)).map tupI)
 |[],_=>.nil
 |p::zs,h=>by
  obtain⟨a,e1,e2⟩:=h p zAE;rw[zAC,zAC,zAC,e1];exact .cons (.tup e2 .ints) (aDw λ q hq=>h q (zAB _ hq))
theorem gQ.all{K:zAA}:∀{vs:List V} {nss:gV},gQ K H vs nss->∀p∈vs.zip nss,∃a,p.1= .ref a/\SqT K H a (p.2.map V.int)
 |_,_,.nil,p,hp=>by simp at hp
 |_,_,.cons h _ r,p,hp=>by
  rw[zBY]at hp;rcases zAQ.mp hp with e|hp
  .subst e;exact⟨_,rfl,h⟩
  .exact r.all p hp
def aDf{K:zAA}(ht:gQ K H vs nss)(q:∀v H',aV H H'->Rp K (λ p=>H p=none) H' v (.lst ((tE nss).map tupI))->Q v H'):aFa H vs nss Q:=by
 intro zs hz hr p H' s hp hn;have e:zs.map (·.2)=tE nss:=v5 (((hz.map (·.2)).trans (by rw[zGu (by rw[ht.len];exact zAV _)])).trans (nT nss).symm) hr (kj nss);refine q _ H' s (.lst hp hn ?_);rw[<-e];exact aDw λ p hp=>by
  obtain⟨a,e1,e2⟩:=ht.all p (hz.mem_iff.mp hp);exact⟨a,e1,s.sqt e2⟩
def insI(a:Int):List Int->List Int
 |[]=>[a]
 |b::l=>if b<a then b::insI a l else a::b::l
def sortI:List Int->List Int
 |[]=>[]
 |a::l=>insI a (sortI l)
theorem insI_perm(a:Int):∀l,(insI a l).Perm (a::l)
 |[]=>zBN _
 |b::l=>by
  unfold insI;split
  .exact((insI_perm a l).cons b).trans (zE6 _ _ _)
  .exact zBN _
theorem sortI_perm:∀l,(sortI l).Perm l
 |[]=>zBN _
 |a::l=>(insI_perm a _).trans ((sortI_perm l).cons a)
theorem zq(a:Int):∀l:List Int,l.Pairwise (·<=·)->(insI a l).Pairwise (·<=·)
 |[],_=>zAb.mpr ⟨λ _ h=>by simp at h,.nil⟩
 |b::l,h=>by
  obtain⟨h1,h2⟩:=zAb.mp h;unfold insI;by_cases e:b<a
  .rw[if_pos e]
   refine zAb.mpr ⟨λ x hx=>?_,zq a l h2⟩;rcases zAQ.mp ((insI_perm a l).mem_iff.mp hx)with q|q
   .lia
   .exact h1 x q
  .rw[if_neg e]
   refine zAb.mpr ⟨λ x hx=>?_,h⟩;rcases zAQ.mp hx with q|q
   .lia
   .have:=h1 x q;lia
theorem pP:∀l,(sortI l).Pairwise (·<=·)
 |[]=>.nil
 |a::l=>zq a _ (pP l)
theorem oW:∀{us:List Value} {ns:List Int},zBK us ns->Vals (ns.map V.int) us
 |_,_,.nil=>.nil
 |_,_,.cons n t r=>.cons ⟨t,rfl⟩ (oW r)
section
variable{X:Cx}
def aAn(K:zAA):List V->Hp->VK->Prop:=λ xs H Q=>∃p ns,xs=[.ref p]/\SqL K H p (ns.map V.int)/\ns.length<64/\New H (.lst ((sortI ns).map V.int)) Q
def yU:cR X (.builtin "sorted") (aAn X.K):=by
 intro hV s σ H xs us Q I r h;obtain⟨p,ns,rfl,hp,h64,q⟩:=h;obtain⟨u,rfl,ru⟩:=vals1 r;cases ru;obtain⟨its,rv,pl,hz⟩:=I.list hp;have hI:zBK its ns:=intsAre_of rv;have hW:its.length<64:=by
  have:=rv.length
  rw[zAF]at this;lia
 refine sorted_ints pl.isList hI hW λ out ns' h1 h2 h3=>?_
 have e:ns'=sortI ns:=PySem.W.ksm_same (h2.trans (sortI_perm ns).symm) h3 (pP ns);subst e;obtain⟨e,he⟩:=sortedAll_at s.heap its out;have hfr:H (s.heap.objs.size+1)=none:=I.hok.fresh (zEO _);refine⟨.ref (s.heap.objs.size+1),upd H (s.heap.objs.size+1) (.lst ((sortI ns).map V.int)),I.laid (t':=s.toks) (λ b o q=>sortedAll_old q) (zEO _) ?_,rfl,q.at hfr⟩;refine⟨?_,out.toList,e,oW h1,?_⟩
 .rw[zAF,h2.length_eq]
  exact zAf (zBf h64) (by decide)
 .rw[Array.toArray_toList]
  exact he
end
def aC5(K:zAA)(r:List V->Hp->VK->Prop)(fd:List D->Rs D):Prop:=∀(A:Addr->Prop) xs ds H (Q:VK) z,Rps K A H xs ds->fd ds= .ok z->(∀v H',aV H H'->Rp K (λ p=>H p=none) H' v z->Q v H')->r xs H Q
def w5{K:zAA}(hs:aC5 K r fd)(h1:aHa K G m ta g):jR K G (some []) (tCB r ta) (opA fd g):=by
 intro U σ H ρ lab Q R W;refine h1 U σ H ρ lab _ R (W.bd.imp λ d _ w x H1 s1 r1=>?_);obtain⟨z,ez,w⟩:=w.okD;exact hs (fpM m lab H) x d H1 Q z r1 ez λ v H' s r=>w v H' (s1.trans s) (r.wk λ p o _ q=>.inl (s1.free q))
def nC:List D->Rs D
 |[.lst l]=>match kW l with
  |some nss=>if nss.length<64 then .ok (.lst ((tE nss).map tupI))else .st
  |none=>match intsOf l with
   |some ns=>if ns.length<64 then .ok (.lst ((sortI ns).map .int))else .st
   |none=>.st
 |_=>.st
def aDH{K:zAA}:aC5 K (λ xs H Q=>aAm K xs H Q\/aAn K xs H Q) nC:=by
 intro A xs ds H Q z r ez q;unfold nC at ez;split at ez
 .cases r with
  |cons h r=>
   cases r;cases h with
   |lst h m r=>
    split at ez
    .rename_i nss e
     obtain⟨e1,e2⟩:=qT e;subst e1;split at ez
     .rename_i hl
      cases ez;have ht:=yq r e2;exact .inl ⟨_,_,nss,rfl,SqL.of h,ht,by rw[ht.len];exact hl,aDf ht q⟩
     .cases ez
    .split at ez
     .rename_i ns e
      have e1:=cV e;subst e1;split at ez
      .rename_i hl
       cases ez;have e2:=r.ints_of;subst e2;exact .inr ⟨_,ns,rfl,SqL.of h,hl,λ p H' s hp hn=>q _ H' s (.lst hp hn .ints)⟩
      .cases ez
     .cases ez
 .cases ez
section
variable{C:Ct}{pos p:Pos}{m:Mode}{a:Expr}{ga:En->Rs (List D)}
def pQ(hm:C.mg "sorted"=none)(ha:SA C m [a] ga)(he:∀i,zAW [a] (C.X i).env=[(false,eval a (C.X i).env)]:=by intro _;rfl)(hg:∀i,Gl (C.X i) "sorted":=by intro _;rfl)(hv:zAq "sorted"=some (.builtin "sorted"):=by decide+kernel):SE C (some []) (.Call (.Name "sorted" p) [a] [] pos) (opA nC ga):=by
 obtain⟨t,h1,h2⟩:=ha;refine⟨_,λ i=>lH (r:=λ xs H Q=>aAm C.K xs H Q\/aAn C.K xs H Q) (by rw[<-C.hK i];exact vO.or yU) (hg i) (by rw[(C.cx i).2.2.2.1];exact hm) hv (h1 i) (by decide) (by decide) (he i) rfl,w5 aDH h2⟩
end
structure Mg{β:Type}(r:β->β->Prop)(T out ra rb:List β):Prop where
 pm:(out++(ra++rb)).Perm T
 so:out.Pairwise r
 lo:∀x∈out,∀y∈ra++rb,r x y
 sa:ra.Pairwise r
 sb:rb.Pairwise r
section
variable{β:Type}{r:β->β->Prop}{T:List β}
def Mf(r:β->β->Prop)(T o:List β):Prop:=o.Perm T/\o.Pairwise r
end
structure Eg(st st':zCj):Prop where
 k:zCk st'=zCk st
 a:arrOf st'=arrOf st
 p:zFw st'=zFw st
 f:zFk st'=zFk st
abbrev LS:=Option (Array Keyed)×Array Keyed×Nat×Nat×Nat×Nat×Nat
section
variable{O:zBt}{kf:Keyed->O.α}{T:List Keyed}{a b out:Array Keyed}{ia ib mg ac bc m0:Nat}{st:zCj}{Q:ForInStep LS->zCj->Prop}
abbrev rK(O:zBt)(kf:Keyed->O.α)(x y:Keyed):Prop:=O.kle (kf x) (kf y)
abbrev Ml(O:zBt)(kf:Keyed->O.α)(T:List Keyed)(a b out:Array Keyed)(ia ib:Nat):Prop:=Mg (rK O kf) T out.toList (a.toList.drop ia) (b.toList.drop ib)
structure Tu(O:zBt)(kf:Keyed->O.α)(T:List Keyed)(a b:Array Keyed)(m0:Nat)(st:zCj)(Q:ForInStep LS->zCj->Prop):Prop where
 ret:∀o out ia ib mg ac bc st',Eg st st'->Mf (rK O kf) T o.toList->Q (.done (some o,out,ia,ib,mg,ac,bc)) st'
 on:∀out ia ib mg ac bc st',Eg st st'->Ml O kf T a b out ia ib->ia+1<a.size->ib<b.size->m0<ia+ib->Q (.done (none,out,ia,ib,mg,ac,bc)) st'/\Q (.yield (none,out,ia,ib,mg,ac,bc)) st'
end
abbrev HS:=Option (Array Keyed)×Nat×Nat×Array Keyed×Nat×Nat×Nat
section
variable{O:zBt}{kf:Keyed->O.α}{T:List Keyed}{a b out:Array Keyed}{na nb mg ac bc m0:Nat}{st:zCj}{Q:ForInStep HS->zCj->Prop}
abbrev rH(O:zBt)(kf:Keyed->O.α)(x y:Keyed):Prop:=O.kle (kf y) (kf x)
abbrev Mh(O:zBt)(kf:Keyed->O.α)(T:List Keyed)(a b out:Array Keyed)(na nb:Nat):Prop:=Mg (rH O kf) T out.toList (a.toList.take na).reverse (b.toList.take nb).reverse
structure Th(O:zBt)(kf:Keyed->O.α)(T:List Keyed)(a b:Array Keyed)(m0:Nat)(st:zCj)(Q:ForInStep HS->zCj->Prop):Prop where
 ret:∀o na nb out mg ac bc st',Eg st st'->Mf (rK O kf) T o.toList->Q (.done (some o,na,nb,out,mg,ac,bc)) st'
 on:∀na nb out mg ac bc st',Eg st st'->Mh O kf T a b out na nb->0<na->1<nb->na<=a.size->nb<=b.size->na+nb<m0->Q (.done (none,na,nb,out,mg,ac,bc)) st'/\Q (.yield (none,na,nb,out,mg,ac,bc)) st'
end
structure Ea(st st':zCj):Prop where
 k:zCk st'=zCk st
 p:zFw st'=zFw st
 f:zFk st'=zFk st
section
variable{κ:zCt}{G:Keyed->Prop}{st:zCj}{P R:List Keyed}{lo:Nat}
structure Sg(κ:zCt)(G:Keyed->Prop)(st:zCj)(lo:Nat)(P R:List Keyed):Prop where
 k:zCk st=κ
 l:(arrOf st).toList=P++R
 p:P.length=lo
 g:∀x∈R,G x
end
def Pr(O:zBt)(kf:Keyed->O.α):Nat->List (List Keyed)->List (Nat×Nat×Nat)->Prop
 |_,[],[]=>True
 |o,x::segs,p::ps=>p.1=o/\p.2.1=x.length/\0<x.length/\x.Pairwise (rK O kf)/\Pr O kf (o+x.length) segs ps
 |_,_,_=>False
section
variable{κ:zCt}{O:zBt}{kf:Keyed->O.α}{st:zCj}{T R:List Keyed}{segs:List (List Keyed)}
structure Rn(κ:zCt)(O:zBt)(kf:Keyed->O.α)(T:List Keyed)(st:zCj)(segs:List (List Keyed))(R:List Keyed):Prop where
 k:zCk st=κ
 f:zFk st=none
 l:(arrOf st).toList=segs.flatten++R
 pm:(arrOf st).toList.Perm T
 pr:Pr O kf 0 segs (zFw st).toList
end
section
variable{K:zAA}{G:Gx}{wi:TI}{fi:En->Rs (List D)}{g:TG}{fg:D->En->Rs En}{tt:TT}
def aI9(hi:aKS K G wi fi)(hg:aKT K {G with E:=λ _ _ _=>False} g fg)(hfg:∀d,∃ρ1,fg d [.no]= .ok ρ1)(ht:aDQ K {G with E:=λ _ _ _=>False} tt fO)(R:RR K G U ρ σ H lab)
  (W:WR G (fi (shE ρ)) (λ ds=>ds.length<zAR/\∀(l:Addr) (as:List Addr) H',aV H H'->H l=none->H' l=some (.lst (as.map V.ref))->(l::as).Nodup->as.length=ds.length->(∀a∈as,H a=none/\H' a=some (.lst []))->Q (.ref l) H')):
  tLC wi (stV [none]) g tt (aHj kY) σ H Q:=by
 refine hi U σ H _ _ _ R.shE (W.imp λ ds _ w J H1 lab1 U1 s1 _ R1 jl=>?_);obtain⟨hW,w⟩:=w;intro l hl;have hHl:H l=none:=s1.free hl;have nl:∀p o,H1 p=some o->p≠l:=λ p o e z=>by subst z;rw[hl]at e;cases e
 have RB:RR K {G with E:=λ _ _ _=>False} (U1++U) [.no] (stV [none] σ) H1 (λ p=>if p=l then(2,0)else(0,0)):=by
  refine⟨rfl,λ i s e=>?_,R1.old,λ p hp=>?_,λ q hq=>(R1.tm q hq).wk λ p o e _=>by rw[if_neg (nl p o e)];exact zAi _⟩
  .match i,e with
   |0,e=>cases e;exact .inl rfl
   |i+1,e=>simp at e
  .by_cases z:p=l
   .subst z;exact R1.old.free hl
   .exact absurd (show(if p=l then((2,0):Nat×Nat)else(0,0)).1=0 by rw[if_neg z]) hp
 have aS:¬((λ p=>if p=l then((2,0):Nat×Nat)else(0,0)) l).1<=1:=by simp
 refine⟨λ i n acc H2=>∃as:List Addr,n=ds.length-i/\i<=ds.length/\acc=as.map V.ref/\H2 l=some (.lst acc)/\RR K {G with E:=λ _ _ _=>False} (U1++U) [.no] (stV [none] σ) H2 (λ p=>if p=l then(2,0)else(0,0))/\aV H H2/\as.length=i/\(l::as).Nodup/\∀a∈as,H a=none/\H2 a=some (.lst []),
  ⟨ds.length,[],by omega,by omega,rfl,ak,RB.up (bN hl _),s1.trans (bN hl _),rfl,by simp,λ a h=>by simp at h⟩,?_⟩
 rintro i n acc H2 ⟨as,rfl,hi',rfl,hH2,R2,s2,hlen2,hnd,hal⟩;refine⟨hH2,by rw[zAF];omega,?_⟩;have jj:=jl _ H2 λ q hq=>R2.tm q (zAJ _ hq)
 by_cases hlt:i<ds.length
 .obtain⟨go,yl⟩:=(jj i).2 hlt
  refine .inr ⟨go,λ x H3 hy=>?_⟩;obtain⟨s3,d,ed,rx⟩:=yl x H3 hy;replace R2:=R2.up s3;replace hH2:=s3 _ _ hH2;replace s2:=s2.trans s3;replace hal:=λ a ha=>(⟨(hal a ha).1,s3 _ _ (hal a ha).2⟩:H a=none/\H3 a=some (.lst []))
  obtain⟨ρ1,e1⟩:=hfg d;refine hg (U1++U) x d _ H3 _ _ _ ρ1 R2 rx e1 λ σ4 R4=>?_
  refine ht (U1++U) σ4 H3 ρ1 _ _ R4 λ H5 s5=>?_
  rw[if_pos rfl];refine⟨zAi _,λ p H6 s6 hp hn=>?_⟩;have hl6:H6 l=some (.lst (as.map V.ref)):=s6 _ _ (s5 _ _ hH2);have hpl:p≠l:=λ z=>by subst z;rw[s5 _ _ hH2]at hn;cases hn
  have hpa:p∉as:=λ z=>by
   have:=s5 _ _ (hal p z).2
   rw[hn]at this;cases this
  have hpH:H p=none:=(s2.trans s5).free hn;have B:jE l H6 (upd H6 l (.lst (as.map V.ref++[.ref p]))):=λ b o ne hb=>by rw[aW ne];exact hb
  refine⟨hl6,ds.length-(i+1),by omega,as++[p],rfl,hlt,by rw[zAZ];rfl,ak,?_,?_,by rw[zAT];simp;omega,?_,λ a ha=>?_⟩
  .have R6:=R2.up (s5.trans s6)
   refine⟨R6.len,λ j s e=>?_,λ b o hb=>?_,R6.new,λ q hq=>(R6.tm q hq).but B hl6 rfl aS⟩
   .match j,e with
    |0,e=>cases e;exact .inl rfl
    |j+1,e=>simp at e
   .exact B b o (λ z=>by subst z;rw[R1.old.free hl]at hb;cases hb) (R6.old b o hb)
  .exact λ b o hb=>B b o (λ z=>by subst z;rw[hHl]at hb;cases hb) (((s2.trans s5).trans s6) b o hb)
  .obtain⟨n1,n2⟩:=zA9.mp hnd
   refine zA9.mpr ⟨λ z=>?_,zAk.mpr ⟨n2,by simp,λ x hx y hy e=>?_⟩⟩
   .rcases zAX.mp z with z|z
    .exact n1 z
    .exact hpl (zAK.mp z).symm
   .rw[zAK]at hy
    subst hy;subst e;exact hpa hx
  .rcases zAX.mp ha with z|z
   .refine⟨(hal a z).1,?_⟩
    rw[aW λ q=>by subst q;exact(zA9.mp hnd).1 z];exact s6 _ _ (s5 _ _ (hal a z).2)
   .rw[zAK]at z
    subst z;exact⟨hpH,by rw[aW hpl];exact hp⟩
 .have ei:i=ds.length:=by omega
  exact .inl ⟨by rw[ei];exact(jj _).1 (zAV _),w l as H2 s2 hHl hH2 hnd (by omega) hal⟩
end
section
variable{C:Ct}{pos lpos:Pos}{tg iter:Expr}{sc:Scope}{N:List Str}{js:List (Option Nat)}{ks:List Nat}{fi:En->Rs (List D)}{fg:D->En->Rs En}
def llS(i:Nat)(fi:En->Rs (List D))(js:List (Option Nat))(fg:D->En->Rs En):En->Ou:=λ ρ=>(fi (shE ρ)).bo λ ds=>if ds.length<zAR then .nx (ρ.set i (.o2 (zAN ds.length [])))else .st
def aK7(hi:SI C tg iter fi)(hg:SG (C.blk sc N) tg ks fg)(hj:js=[none]:=by rfl)(hfg:∀d,∃ρ1,fg d [.no]= .ok ρ1:=by intro _;exact⟨_,rfl⟩)(hN:∀j,(C.X j).N[i]? =some x:=by intro _;rfl)(hx:∀j,Loc (C.X j).env.scope x:=by intro _;first|exact zB1 rfl|exact zBC rfl)(hsw:∀j,zBl (.ListComp (.List [] lpos) [⟨tg,iter,[],0⟩] sc pos) (some (.Name x pos')) spos.line (C.X j).env=pure true:=by intro _;rfl)(hs:∀i x,zB9 iter (C.X i).env x=pure x:=by intro _ _;rfl)(hf:∀j,(C.X j).fn x=true\/(C.X j).env.scope.names.lookup x=some .local:=by intro _;first|exact .inl rfl|exact .inr rfl)(nd:∀j,(C.X j).N.Nodup:=by intro _;assumption)(hB:∀i,gW (C.X i) sc N (stV js) ks:=by intro _;exact aB4 rfl rfl rfl rfl rfl rfl):
  SS C (.Assign [.Name x pos'] (.ListComp (.List [] lpos) [⟨tg,iter,[],0⟩] sc pos) spos) (llS i fi js fg):=by
 subst hj;obtain⟨wi,i1,i2⟩:=hi;obtain⟨g,g1,g2,g3,g4⟩:=hg;obtain⟨tt,t1,t2⟩:=gY (C:=C.blk sc N);refine⟨_,λ j=>zU (nd j) (hN j) (hx j) (hB j) (C.calm j) (i1 j) (λ c fp z5 zS=>g1 (j,c,fp,z5,zS)) g3 (λ c fp z5 zS=>t1 (j,c,fp,z5,zS)) (λ c fp z5 zS=>xV eN) (hsw j) (hs j) (hf j),λ U σ H ρ lab De R W=>?_⟩;refine aI9 i2 g2 hfg t2 R (W.bo.imp λ ds _ w=>?_);by_cases hl:ds.length<zAR
 .rw[if_pos hl]at w
  refine⟨hl,λ l as H' s hn hH hnd hW hal=>?_⟩;have kK:∀p o,H p=some o->(λ p=>if p=l then(i+2,0)else if p∈as then(i+2,as.idxOf p+1)else bQ H 1 lab p) p=lab p:=λ p o e=>by
   dsimp only;have z1:p≠l:=λ z=>by subst z;rw[hn]at e;cases e
   have z2:p∉as:=λ z=>by rw[(hal p z).1]at e;cases e
   rw[if_neg z1,if_neg z2,bA e]
  have R':RR C.K C.G U ρ σ H' (λ p=>if p=l then(i+2,0)else if p∈as then(i+2,as.idxOf p+1)else bQ H 1 lab p):=by
   refine(R.relab kK λ p hp=>?_).up s;cases e:H p with
   |none=>exact R.old.free e
   |some o=>
    have:=kK p o e
    dsimp only at this hp;rw[this]at hp;exact R.new p hp
  refine w _ _ _ (R'.put (s:=.o2 (zAN ds.length [])) ⟨l,as.map V.ref,rfl,hH,by dsimp only;rw[if_pos rfl],by rw[zAF,zCJ];exact hW,λ j x es e1 e2=>?_⟩);rw[zAP,zB3]at e1;obtain⟨a,e1,rfl⟩:=e1;have ees:es=[]:=by
   rw[zC4]at e2;split at e2
   .cases e2;rfl
   .cases e2
  subst ees;have ha:a∈as:=zAl e1;have hla:a≠l:=λ z=>by subst z;exact(zA9.mp hnd).1 ha
  have hj2:j<as.length:=(zAO.mp e1).1;refine .lst (hal a ha).2 ?_ .nil
  show(if a=l then(i+2,0)else if a∈as then(i+2,as.idxOf a+1)else bQ H 1 lab a)=(i+2,j+1)
  rw[if_neg hla,if_pos ha];have hix:as.idxOf a<as.length:=List.idxOf_lt_length_iff.mpr ha
  have:as[as.idxOf a]? =some a:=by rw[zAI hix];exact congrArg some (List.getElem_idxOf hix)
  have:=(zCN hix (zA9.mp hnd).2).mp (this.trans e1.symm)
  rw[this]
 .rw[if_neg hl]at w
  exact zAH w
end
def aLC:∀{us:List α},us.length=6->∃a0 a1 a2 a3 a4 a5,us=[a0,a1,a2,a3,a4,a5]
 |[a0,a1,a2,a3,a4,a5],_=>⟨a0,a1,a2,a3,a4,a5,rfl⟩
def gK(j:Int):List Int:=(zBE j.toNat).map λ(k:Nat)=>0+(k:Int)
def aIr:List V->Hp->VK->Prop:=λ xs H Q=>∃j:Int,xs=[.int j]/\∀p,H p=none->Q (.ref p) (upd H p (.rng 0 j))
def aAP:cR X (.type "range") aIr:=by
 intro hV s σ H vs us Q I rv h;obtain⟨j,rfl,q⟩:=h;obtain⟨u,rfl,ru⟩:=rv.one;obtain⟨t,rfl⟩:=ru;exact call_range_1 ⟨.ref s.heap.objs.size,_,I.laid (a:=s.heap.objs.size) (o:=.rng 0 j) (t':=s.toks+1+1) (λ _ _ q=>zAG _ q) (zAV _) ⟨_,_,_,zA5 _ rfl⟩,rfl,q _ (I.hok.fresh (zAV _))⟩
def zP:List V->Hp->VK->Prop:=λ xs H Q=>∃(p:Addr) (j:Int),xs=[.ref p]/\H p=some (.rng 0 j)/\-(2^62)<=j/\j<=10000/\∀l H',aV H H'->H l=none->H' l=some (.lst ((gK j).map V.int))->Q (.ref l) H'
def aB9:∀{ns:List Int} {us:List Value},ns.length=us.length->(∀(k:Nat) i,ns[k]? =some i->∃tk,us[k]? =some (.int i tk))->Vals (ns.map V.int) us:=by
 intro ns;induction ns with
 |nil=>intro us hl _;rw[List.eq_nil_of_length_eq_zero hl.symm];exact .nil
 |cons n ns ih=>
  intro us hl h;obtain⟨tk,e⟩:=h 0 n rfl;cases us with
  |nil=>cases e
  |cons u us=>
   have e':u= .int n tk:=zAg e;subst e';exact .cons ⟨tk,rfl⟩ (ih (zGz hl) λ k i hi=>h (k+1) i hi)
def yV(hc:X.calm=true):cR X (.type "list") zP:=by
 intro hV s σ H vs us Q I rv h;obtain⟨p,j,rfl,hp,h1,h2,q⟩:=h;obtain⟨u,rfl,ru⟩:=rv.one;cases ru;obtain⟨t,u,v,hg⟩:=I.hok p _ hp;have hsz:zBA 0 j 1=(j.toNat:Int):=by
  unfold zBA;simp only[show(1:Int)>0 by decide,if_true];split<;>lia
 refine call_list_range (n:=j.toNat) (I.ok.hd hc) hg ?_ hsz (by lia) λ h' tk acc c' hk hS kX=>?_
 .have fl:∀x:Int,-(2^62)<=x->x<=2^62->zBr x=true:=λ x hx1 hx2=>by
   unfold zBr;simp;lia
  unfold zCG;rw[hsz,fl 0 (by lia) (by lia),fl j (by lia) (by lia),fl 1 (by lia) (by lia),fl _ (by lia) (by lia),if_pos (by decide),fl (j+(1-1)) (by lia) (by lia),zHf];rfl
 .have hfr:=I.hok.fresh (zAV s.heap.objs.size)
  have hv:Vals ((gK j).map V.int) acc.toList:=by
   have hl:(gK j).length=acc.toList.length:=by rw[show acc.toList.length=acc.size from zBq,kX.1];simp[gK]
   refine aB9 hl λ k i hi=>?_
   have hk2:k<acc.size:=by rw[kX.1];have:=(zAO.mp hi).1;simpa[gK]using this
   obtain⟨tk,e⟩:=kX.2 k acc[k] (Array.getElem?_eq_getElem hk2);refine⟨tk,?_⟩;have ei:i=0+(k:Int)*1:=by
    unfold gK at hi;rw[zAP]at hi;cases c:(zBE j.toNat)[k]? with
    |none=>rw[c]at hi;cases hi
    |some m=>
     rw[c]at hi;cases hi
     have:=zAO.mp c
     have:m=k:=by simpa using this.2.symm
     subst this
     show(0:Int)+(m:Int)=0+(m:Int)*1
     lia
   rw[ei,<-e];simp[hk2]
  refine⟨.ref s.heap.objs.size,upd H s.heap.objs.size (.lst ((gK j).map V.int)),I.laid (t':=tk) hk (zAV _) ⟨?_,acc.toList,c',hv,by simpa using hS⟩,rfl,q _ _ (bN hfr _) hfr ak⟩;simp[gK]
  have:zAR=16777216:=zBo
  lia
def lrR:D->Rs D
 | .int j=>if -(2^62)<=j/\j<=10000 then .ok (.lst (bL 0 j))else .st
 |_=>.st
def lrD(fa:En->Rs D):En->Rs D:=λ ρ=>(fa ρ).bd lrR
def v4(j:Int):bL 0 j=(gK j).map D.int:=by
 unfold bL gK;rw[zA3,Int.sub_zero];rfl
section
variable{C:Ct}{pos pos2 p p2:Pos}{a:Expr}{fa:En->Rs D}{m:Mode}
def aAd(hmL:C.mg "list"=none)(hmR:C.mg "range"=none)(ha:SE C m a fa)(hs:∀i,zAW [a] (C.X i).env=[(false,eval a (C.X i).env)]:=by intro _;rfl)(hs2:∀i,zAW [.Call (.Name "range" p2) [a] [] pos2] (C.X i).env=[(false,eval (.Call (.Name "range" p2) [a] [] pos2) (C.X i).env)]:=by intro _;rfl)(hgL:∀i,Gl (C.X i) "list":=by intro _;rfl)(hvL:zAq "list"=some (.type "list"):=by decide+kernel)(hgR:∀i,Gl (C.X i) "range":=by intro _;rfl):SE C (some []) (.Call (.Name "list" p) [.Call (.Name "range" p2) [a] [] pos2] [] pos) (lrD fa):=by
 obtain⟨t,h1,h2⟩:=ha;refine⟨tCB zP (gm (tCB aIr (gm t kY)) kY),λ i=>iD (yV (C.calm i)) (hgL i) (by rw[(C.cx i).2.2.2.1];exact hmL) hvL (cH (iD aAP (hgR i) (by rw[(C.cx i).2.2.2.1];exact hmR) zGW (cH (h1 i) eN (hs i)) (by decide) (by decide) (hs i) rfl) eN (hs2 i)) (by decide) (by decide) (hs2 i) rfl,λ U σ H ρ lab Q R W=>?_⟩;refine h2 U σ H ρ lab _ R (W.bd.imp λ d _ w y H1 s1 r1=>?_);unfold lrR at w;split at w
 .rename_i j _
  by_cases hz: -(2^62)<=j/\j<=10000
  .rw[if_pos hz]at w
   have ey:=r1.int_inv;subst ey;refine⟨j,rfl,λ q hq=>⟨q,j,rfl,ak,hz.1,hz.2,λ l H' s' hl hH'=>?_⟩⟩;have s0:=(s1.trans (bN hq _)).trans s';have hlH:H l=none:=(s1.trans (bN hq _)).free hl;refine w _ H' s0 (.lst hH' (.inl hlH) ?_);rw[v4];exact Rps.ints
  .rw[if_neg hz]at w
   exact zAH w
 .exact zAH w
end
def aIB:V->List V->Hp->VK->Prop:=λ x vs H Q=>∃(l:Addr) (S:Int->Bool) (n:Nat) (i:Int),x= .ref l/\vs=[.int i]/\H l=some (.set S n)/\n+1<scanBound/\∀H',jE l H H'->H' l=some (.set (λ k=>S k||decide (k=i)) (if S i=true then n else n+1))->Q .non H'
def aGp:MtM X "set.add" aIB:=by
 intro hV s σ H x vs v us Q I rx rv h;obtain⟨l,S,n,i,rfl,rfl,hH,hn,q⟩:=h;cases rx;obtain⟨u,rfl,ru⟩:=rv.one;obtain⟨t,rfl⟩:=ru;have hS:s.heap.SetOf (zH0 X.prog X.w) l S n:=I.hok l _ hH;refine call_set_add (k:=i) (by simp[zH0,zEh]) rfl hS hn λ h' hsb hS'=>⟨.non,_,?_,rfl,q _ (λ b o ne hb=>by rw[aW ne];exact hb) ak⟩
 refine I.write (x:=l) (e:=l) (by rw[hH];exact trivial) (.inl rfl) (λ b' u hb hu=>(hsb.2 b' hb).trans hu) ?_ hS';obtain⟨o,_,_,_,ho,_⟩:=hS';exact⟨o,ho⟩
def aDC(ds:List Int)(z:Int):(zBB ds z).length=if decide (z∈ds)=true then ds.length else ds.length+1:=by
 unfold zBB;by_cases h:z∈ds
 .rw[if_pos (by simpa using h),if_pos (by simpa using h)]
 .rw[if_neg (by simpa using h),if_neg (by simpa using h),zAT,zAm]
def wI(ds:List Int)(z k:Int):(decide (k∈ds)||decide (k=z))=decide (k∈zBB ds z):=by
 unfold zBB;rw[zAj];split
 .rename_i h
  have h':z∈ds:=by simpa using h
  simp only[zCI,decide_eq_true_eq];exact⟨λ q=>q.elim id λ e=>e▸h',.inl⟩
 .simp
def aAH{z:Int}(nd:ds.Nodup):(zBB ds z).Nodup:=by
 unfold zBB;split
 .exact nd
 .rename_i h
  have h':¬z∈ds:=by simpa using h
  refine zAk.mpr ⟨nd,by simp,λ a ha b hb e=>?_⟩;rw[zAK]at hb;subst hb;subst e;exact h' ha
def aAW(ρ:En)(i:Nat)(ds:List Int):D->Ou
 | .int z=>if ds.length<4000 then .nx (ρ.set i (.ow (.set (zBB ds z))))else .st
 |_=>.st
def aF9(i:Nat)(fe:En->Rs D):En->Ou:=λ ρ=>match ρ[i]? with
 |some (.ow (.set ds))=>(fe ρ).bo λ d=>aAW ρ i ds d
 |_=>.st
section
variable{C:Ct}{pos apos cpos p:Pos}{e:Expr}{fe:En->Rs D}{i:Nat}{x:Str}{m:Mode}
def aDe(i:Nat)(he:SE C m e fe)(hm:okN m=true:=by rfl)(hN:∀j,(C.X j).N[i]? =some x:=by intro _;rfl)(hv:∀j,Vis (C.X j).env.scope x:=by intro _;first|exact zB1 rfl|exact zBC (zB1 rfl)|exact zBC (zBC rfl))(hd:Nd x:=by decide)
  (hcd:(x==("__classdict__":Str))=false:=by decide)(hs1:∀j,zAW [e] (C.X j).env=[(false,eval e (C.X j).env)]:=by intro _;rfl)
  (hbase:∀j,zB7 (.Name x p) "add" (C.X j).env (eval (.Name x p) (C.X j).env)=eval (.Name x p) (C.X j).env:=by intro _;rfl)
  (hfew:∀j,((zBp cpos (zAW [e] (C.X j).env)).all (λ x=>!x.1)&&(zDK cpos (zCF [] (C.X j).env)).all (λ x=>x.1.isSome)&&decide ([e].length+([]:List zB2).length+(if ([]:List zB2).isEmpty then 0 else 1)<30))=true:=by intro _;rfl)
  (hline:(apos.endLine==cpos.line)=true:=by rfl)
  (hsw:∀j,zBl (.Call (.Attribute (.Name x p) "add" apos) [e] [] cpos) none pos.line (C.X j).env=pure false:=by intro _;rfl):
  SS C (.Expr (.Call (.Attribute (.Name x p) "add" apos) [e] [] cpos) pos) (aF9 i fe):=by
 obtain⟨t,h1,h2⟩:=he;refine⟨sY (tBM C.K "set" aIB (m7 i) (gm t kY)),λ j=>jk (by rw[<-C.hK j];exact uB PySem.F.plainAttrs_set PySem.F.slot_set_add PySem.F.type_set_add aGp (eF (hN j) (hv j) hd hcd) (cH (h1 j) eN (hs1 j)) (hbase j) (hfew j) hline (hs1 j) rfl) (hsw j),λ U σ H ρ lab De R W=>?_⟩;unfold aF9 at W;cases es:ρ[i]? with
 |none=>rw[es]at W;exact zAH W
 |some s=>
  rw[es]at W;split at W
  .rename_i ds hs
   cases hs;rcases R.sl i _ es with z|⟨v,ev,hv'⟩
   .cases z
   .obtain⟨hv1,htop⟩:=hv'
    obtain⟨a0,ea0,la0⟩:=htop rfl;subst ea0;cases hv1 with
    |set h mm hS nd=>
     rename_i S;refine⟨.ref a0,ev,.inr (.inr (.inr ⟨rfl,S,_,h⟩)),h2 U σ H ρ lab _ R (W.bo.imp λ d _ w y H2 s2 r2=>?_)⟩;unfold aAW at w;split at w
     .rename_i z _
      by_cases hz:ds.length<4000
      .rw[if_pos hz]at w
       have ey:=r2.int_inv;subst ey;have hb:scanBound=4096:=rfl;refine⟨a0,S,ds.length,z,rfl,rfl,s2 _ _ h,by omega,λ H3 B h3=>?_⟩;refine w σ H3 _ ((R.up s2).mut ev (s2 _ _ h) rfl la0 B ⟨?_,λ _=>⟨a0,rfl,la0⟩⟩);have e1:(if S z=true then ds.length else ds.length+1)=(zBB ds z).length:=by
        rw[hS z];exact(aDC ds z).symm
       rw[e1]at h3;exact .set h3 (.inr la0) (λ k=>by rw[hS k];exact wI ds z k) (aAH nd)
      .rw[if_neg hz]at w
       exact zAH w
     .exact zAH w
  .exact zAH W
end
def aHs:List V->Hp->VK->Prop:=λ xs H Q=>xs=[]/\∀p,H p=none->Q (.ref p) (upd H p (.set (λ _=>false) 0))
def aDI:cR X (.type "set") aHs:=by
 intro hV s σ H vs us Q I rv h;obtain⟨rfl,q⟩:=h;cases rv;refine call_set_0 λ led=>⟨.ref s.heap.objs.size,_,I.laid (a:=s.heap.objs.size) (o:=.set (λ _=>false) 0) (t':=s.toks) (λ _ _ q=>zAG _ q) (zAV _) ?_,rfl,q _ (I.hok.fresh (zAV _))⟩
 exact⟨_,#[],0,_,zA5 _ rfl,⟨rfl,rfl,rfl⟩,rfl,λ e he=>by simp at he,λ k=>by simp,by decide,by rfl,rfl⟩
def aKf(neg:Bool):R2:=λ x y H Q=>∃(i:Int) (a:Addr) (S:Int->Bool) (n:Nat),x= .int i/\y= .ref a/\H a=some (.set S n)/\Q (.bl (if neg then !S i else S i)) H
def aGc:OpR X (zAw .NotIn) (aKf true):=by
 intro hV s σ H x y v u Q I rx ry h;obtain⟨i,a,S,n,rfl,rfl,hH,q⟩:=h;obtain⟨t,rfl⟩:=rx;cases ry;have hS:s.heap.SetOf (zH0 X.prog X.w) a S n:=I.hok a _ hH;exact wpAny_notInSet_of (k:=i) (by simp[zH0,zEh]) rfl hS ⟨.bl (!S i),H,I.tok _,rfl,q⟩
def inX(neg:Bool):D->D->Rs D
 | .int i,.set l=>.ok (.bl (if neg then !decide (i∈l)else decide (i∈l)))
 |d,e=>inR neg d e
def aJP{K:zAA}:OpS K (λ x y H Q=>aGM K n x y H Q\/aKf n x y H Q) (inX n):=by
 intro A x y d e H Q z rx ry ez q;unfold inX at ez;split at ez
 .cases ez
  have ex:=rx.int_inv;subst ex;cases ry with
  |set h m hS nd=>exact .inr ⟨_,_,_,_,rfl,rfl,h,by rw[hS];exact q _ H (aV.refl H) (.bl _)⟩
 .exact .inl (aIM A x y d e H Q z rx ry ez q)
section
variable{C:Ct}{pos p:Pos}{a b:Expr}{fa fb:En->Rs D}{m1 m2:Mode}
def aBf(ha:SE C m1 a fa)(hb:SE C m2 b fb)(hm:zCT .NotIn b=false:=by with_unfolding_all rfl):ST C (.Compare a [.NotIn] [b] pos) (tsb (op2 (inX true) fa fb)):=kh (λ i=>(C.ninRl i).or aGc) aJP ha hb hm
def aBm(hm:C.mg "set"=none)(hg:∀i,Gl (C.X i) "set":=by intro _;rfl)(hv:zAq "set"=some (.type "set"):=by decide+kernel):SE C (some []) (.Call (.Name "set" p) [] [] pos) (cD (.set [])):=by
 refine⟨tCB aHs kY,λ i=>aAs aDI (hg i) (by rw[(C.cx i).2.2.2.1];exact hm) hv,λ U σ H ρ lab Q R W=>?_⟩;exact⟨rfl,λ q hq=>W _ _ (bN hq _) (.set ak (.inl hq) (λ _=>by simp) (by simp))⟩
end
section
variable{prog:zAU}{w:World}{A:zA8}{E:Value->zAD->Prop}{s:zAD}{r:Addr}{a b c:Int}{t u v:Tok}{n:Nat}
def PR(a c:Int):Nat->Value->Prop:=λ i v=>∃t,v= .int (a+i*c) t
def aAK(hh:A.handled=none)(hr:IsRange s.heap r a b c t u v)(hsmall:zCG a b c=true)(hn:zBA a b c=n)(hW:n<=2^24)
  (h:∀h' tk vs,s.heap.objs.size<h'.objs.size->(∀b o,s.heap.get? b=some o->h'.get? b=some o)->vs.length=n->(∀(j:Nat) v,vs[j]? =some v->PR a c j v)->Q vs {s with heap:=h',toks:=tk}):wpAny (model prog w) A (collect (.ref r)) Q E s:=by
 unfold collect;refine zAY (wpAny_runValue (zFt PySem.F.entry_proto_collect ?_));rw[zFl PySem.F.plain_proto_collect _];show wpAny _ A.in1 (zGa []>>=λ l=>again (.builtin "list.__iadd__" ⟨[l,.ref r],[]⟩)) _ _ s;refine zAY (zFV (zAr ⟨plainId_quiet zFF _,zFt PySem.F.entry_list_iadd ?_⟩));rw[zFl zFF _];show wpAny _ A.in1 (Builtin.List.listExtendWith (.ref s.heap.objs.size) (.ref r) (.ref s.heap.objs.size)) _ _ _;have fin:∀h' tk acc' c',(∀b o,b≠s.heap.objs.size->(s.heap.push (zBz "list" #[] 0)).get? b=some o->h'.get? b=some o)->h'.get? s.heap.objs.size=some {cls:=.type "list",dict:=none,data:=.seq acc' c',slots:=#[]}->ItemsOf (PR a c) acc' n->
   wpAny (model prog w) A (do match (zBF s.heap.objs.size)with
    | .ref a=>match (<-load a).data with
     | .seq xs _=>pure xs.toList
     |_=>unsupported "internal:collect"
    |_=>unsupported "internal:collect") Q E {s with heap:=h',toks:=tk}:=λ h' tk acc' c' hk hS' kX=>
  zAY (wpAny_load hS' (zAr (h h' tk acc'.toList (zA0 hS') (λ b o e=>hk b o (zAd (zA0 e)) (zAG _ e)) (by rw[zBq];exact kX.1) λ j v e=>kX.2 j v (by rw[<-Array.getElem?_toList];exact e))))
 refine zBa (wpAny_extend_range (A:=A) (s:={s with heap:=s.heap.push (zBz "list" #[] 0)}) (R:=λ r s'=>∃h' tk acc' c',r= .ok (.ret (.ref s.heap.objs.size))/\s'={s with heap:=h',toks:=tk}/\(∀b o,b≠s.heap.objs.size->(s.heap.push (zBz "list" #[] 0)).get? b=some o->h'.get? b=some o)/\h'.get? s.heap.objs.size=some {cls:=.type "list",dict:=none,data:=.seq acc' c',slots:=#[]}/\ItemsOf (PR a c) acc' n)
  hh (zAG _ hr) hsmall hn hW s.heap.objs.size (.ref s.heap.objs.size) 0 (zA5 _ rfl) (λ h' tk acc' c' hk hS' kX=>⟨h',tk,acc',c',rfl,rfl,hk,hS',kX⟩)) (λ f s' hf=>?_) λ e s' he=>?_
 .cases f with
  |done f=>
   obtain⟨h',tk,acc',c',q1,q2,q3,q4,q5⟩:=hf;cases q1;subst q2;exact fin h' tk acc' c' q3 q4 q5
  |again c=>
   refine⟨hf.1,zFc hf.2 λ r s' hr=>?_⟩;obtain⟨h',tk,acc',c',q1,q2,q3,q4,q5⟩:=hr;subst q1 q2;exact fin h' tk acc' c' q3 q4 q5
 .obtain⟨h',tk,acc',c',q1,_⟩:=he
  cases q1
end
def rQ(r:Addr)(a b c:Int)(t u v:Tok)(n:Nat)(hsmall:zCG a b c=true)(hn:zBA a b c=n)(hW:n<=10000):
  Meets (zDm.«tuple.__new__» ⟨[.type "tuple",.ref r],[]⟩)
   (λ A R s=>A.handled=none/\IsRange s.heap r a b c t u v/\∀(h':Heap) (tk:Nat) (vs:List Value),s.heap.objs.size<h'.objs.size->(∀b o',s.heap.get? b=some o'->h'.get? b=some o')->vs.length=n->(∀(j:Nat) v,vs[j]? =some v->PR a c j v)->
    R (.ok (.ret (.ref h'.objs.size))) {s with heap:=h'.push {cls:=.type "tuple",data:=.seq vs.toArray},toks:=tk}):=
 .of_wp λ prog w A R s h=>by
  obtain⟨hp,g,d,tk,os⟩:=s;obtain⟨hh,ht,h⟩:=h;have hsub:=sub_tuple_self;have hinit:=init_tuple_lookup;have hmh:=madeHere_tuple;have hT:Shared.TypeIs ⟨hp,g,d,tk,os⟩ (.ref r) "range":=⟨_,ht,rfl⟩;wp_walk using zCQ ht,wpAny_typeOf hT,aAK (A:=A.in1) (show A.in1.handled=none from hh) ht hsmall hn (zAf hW (by decide));intro h' tk' vs hlt hk hl hv;show wpAny _ _ (zET vs.toArray>>=λ v=>ret v) _ _ _;unfold zET;refine zAY (zFV ?_ (by show vs.toArray.size<=zAR;rw[zAL,hl,zBo];lia));exact zAr ⟨_,rfl,h h' tk' vs hlt hk hl hv⟩
def aBt:List V->Hp->VK->Prop:=λ xs H Q=>∃(p:Addr) (j:Int),xs=[.ref p]/\H p=some (.rng 0 j)/\-(2^62)<=j/\j<=10000/\∀l H',aV H H'->H l=none->H' l=some (.tup ((gK j).map V.int))->Q (.ref l) H'
def aCc(h1: -(2^62)<=j)(h2:j<=10000):zBA 0 j 1=(j.toNat:Int)/\zCG 0 j 1=true:=by
 have hsz:zBA 0 j 1=(j.toNat:Int):=by
  unfold zBA;simp only[show(1:Int)>0 by decide,if_true];split<;>lia
 refine⟨hsz,?_⟩;have fl:∀x:Int,-(2^62)<=x->x<=2^62->zBr x=true:=λ x hx1 hx2=>by
  unfold zBr;simp;lia
 unfold zCG;rw[hsz,fl 0 (by lia) (by lia),fl j (by lia) (by lia),fl 1 (by lia) (by lia),fl _ (by lia) (by lia),if_pos (by decide),fl (j+(1-1)) (by lia) (by lia),zHf];rfl
def aAO(hc:X.calm=true):cR X (.type "tuple") aBt:=by
 intro hV s σ H vs us Q I rv h;obtain⟨p,j,rfl,hp,h1,h2,q⟩:=h;obtain⟨u,rfl,ru⟩:=rv.one;cases ru;obtain⟨t,u,v,hg⟩:=I.hok p _ hp;obtain⟨hsz,hsm⟩:=aCc h1 h2;refine callType_new PySem.F.called_tuple (by decide) (PySem.F.typeCall_tuple_1 _) (PySem.F.newCall_tuple_1 _) (λ obj=>PySem.F.args_object_init_2 obj _) PySem.F.entry_tuple_new
  (rQ p 0 j 1 t u v j.toNat hsm hsz (by lia)) ⟨I.ok.hd hc,hg,λ h' tk vs hlt hk hl hv=>⟨⟨_,zA5 _ rfl,rfl⟩,?_⟩⟩
 have hle:s.heap.objs.size<=h'.objs.size:=zBf hlt;have hv2:Vals ((gK j).map V.int) vs:=by
  have hl2:(gK j).length=vs.length:=by rw[hl];simp[gK]
  refine aB9 hl2 λ k i hi=>?_
  have hk2:k<vs.length:=by rw[<-hl2];exact(zAO.mp hi).1
  obtain⟨tk,e⟩:=hv k vs[k] (zAI hk2);refine⟨tk,?_⟩;have ei:i=0+(k:Int)*1:=by
   unfold gK at hi;rw[zAP]at hi;cases c:(zBE j.toNat)[k]? with
   |none=>rw[c]at hi;cases hi
   |some m=>
    rw[c]at hi;cases hi
    have:=zAO.mp c
    have:m=k:=by simpa using this.2.symm
    subst this
    show(0:Int)+(m:Int)=0+(m:Int)*1
    lia
  rw[ei,<-e];exact zAI hk2
 have hfr:H h'.objs.size=none:=I.hok.fresh hle;refine⟨.ref h'.objs.size,upd H h'.objs.size (.tup ((gK j).map V.int)),I.laid (t':=tk) (λ b o e=>zAG _ (hk b o e)) hle ⟨⟨?_,NoD.push _⟩,vs,hv2,?_⟩,rfl,q _ _ (bN hfr _) hfr ak⟩
 .simp[gK]
  have:zAR=16777216:=zBo
  lia
 .exact⟨_,zA5 _ rfl,rfl,0,rfl⟩
def trR:D->Rs D
 | .int j=>if -(2^62)<=j/\j<=10000 then .ok (.tup (bL 0 j))else .st
 |_=>.st
def trD(fa:En->Rs D):En->Rs D:=λ ρ=>(fa ρ).bd trR
section
variable{C:Ct}{pos pos2 p p2:Pos}{a:Expr}{fa:En->Rs D}{m:Mode}
def aCe(hmL:C.mg "tuple"=none)(hmR:C.mg "range"=none)(ha:SE C m a fa)(hs:∀i,zAW [a] (C.X i).env=[(false,eval a (C.X i).env)]:=by intro _;rfl)(hs2:∀i,zAW [.Call (.Name "range" p2) [a] [] pos2] (C.X i).env=[(false,eval (.Call (.Name "range" p2) [a] [] pos2) (C.X i).env)]:=by intro _;rfl)(hgL:∀i,Gl (C.X i) "tuple":=by intro _;rfl)(hvL:zAq "tuple"=some (.type "tuple"):=by decide+kernel)(hgR:∀i,Gl (C.X i) "range":=by intro _;rfl):SE C (some []) (.Call (.Name "tuple" p) [.Call (.Name "range" p2) [a] [] pos2] [] pos) (trD fa):=by
 obtain⟨t,h1,h2⟩:=ha;refine⟨tCB aBt (gm (tCB aIr (gm t kY)) kY),λ i=>iD (aAO (C.calm i)) (hgL i) (by rw[(C.cx i).2.2.2.1];exact hmL) hvL (cH (iD aAP (hgR i) (by rw[(C.cx i).2.2.2.1];exact hmR) zGW (cH (h1 i) eN (hs i)) (by decide) (by decide) (hs i) rfl) eN (hs2 i)) (by decide) (by decide) (hs2 i) rfl,λ U σ H ρ lab Q R W=>?_⟩;refine h2 U σ H ρ lab _ R (W.bd.imp λ d _ w y H1 s1 r1=>?_);unfold trR at w;split at w
 .rename_i j _
  by_cases hz: -(2^62)<=j/\j<=10000
  .rw[if_pos hz]at w
   have ey:=r1.int_inv;subst ey;refine⟨j,rfl,λ q hq=>⟨q,j,rfl,ak,hz.1,hz.2,λ l H' s' hl hH'=>?_⟩⟩;refine w _ H' ((s1.trans (bN hq _)).trans s') (.tup (SqT.of hH') ?_);rw[v4];exact Rps.ints
  .rw[if_neg hz]at w
   exact zAH w
 .exact zAH w
end
section
theorem NoD.at{h:Heap}{a:Addr}{o:Obj}(e:h.get? a=some o)(hd:o.dict=none:=by rfl):L2.NoD h a:=λ u q=>by rw[e]at q;cases q;exact hd
end
def aEx{X:Cx}{hV:hZ}{σ:List (Option V)}{H:Hp}{s:zAD}{h':Heap}{ch:List Addr}{p t':Nat}{o:HO}(I:Inv X hV σ H s)(hf:∀b∈ch,rW X hV H b)(k:∀b u,b∉ch->s.heap.get? b=some u->h'.get? b=some u)
  (hp:s.heap.objs.size<=p)(new:cB X.prog X.w (upd H p o) h' p o):Inv X hV σ (upd H p o) {s with heap:=h',toks:=t'}:=by
 have hn:=I.hok.fresh hp;have nch:∀b u,H b=some u->b∉ch:=λ b u e z=>by have:=(hf b z).1;rw[e]at this;cases this
 refine I.call (g':=s.gens) (d':=s.drawn) (ch:=ch) ⟨λ b u q _ _ hx=>k b u hx q,λ b u q _ _ hx=>⟨u.slots,k b u hx q⟩,λ b u q n _=>?_,λ b u q hx=>⟨u,k b u hx q⟩,λ b xs q=>?_,λ b u xs q=>?_,λ b ps q=>?_⟩ (λ b u e=>?_) I.bare
  λ b hb=>let⟨_,f1,_,f3,f4,f5⟩:=hf b hb;⟨f3,f1,f4,f5⟩
 .rw[aW (zAd (zA2 (zA0 q) hp))];exact n
 .rw[aW (bZ q hn)];exact q
 .rw[aW (bZ q hn)];exact q
 .rw[aW (bZ q hn)];exact q
 .by_cases hb:b=p
  .subst hb;rw[ak]at e;cases e;exact new
  .rw[aW hb]at e
   refine(I.hok b u e).stay (λ c v hc q=>k c v ?_ q) (λ c q=>by rw[aW (bZ q hn)];exact q) (λ c xs q=>by rw[aW (bZ q hn)];exact q) λ c o2 u2 q=>by rw[aW (bZ q hn)];exact q
   rcases hc with rfl|hc
   .exact nch _ _ e
   .exact nch _ _ hc
abbrev Ent:=List Int×Addr×V
section
theorem ints_of:∀(tks:List (Int×Tok)),zBK (tks.map λ p=>zCv p.1 p.2) (tks.map (·.1))
 |[]=>.nil
 |p::r=>.cons _ _ (ints_of r)
end
abbrev aLW:=List (Str×(List D->Rs D))
def fnOf(tab:aLW):Rs D->Option (List D->Rs D)
 | .ok (.fn x)=>tab.lookup x
 |_=>none
end VL
namespace HT
open PySem PySem.Spec PyProof.Rows
end HT
namespace VL
open PySem PySem.Spec PyProof.Rows L2
end VL
namespace PySem.AutoSeq1
set_option maxRecDepth 8000 in
def aBC(l:Addr)(items:Array Value)(n:Nat)(b:Addr)(items2:Array Value)(n2:Nat)(dd:Option Addr)(sl:Array (Option Value))(hs0:¬(!items.isEmpty&&zBP (items.size+items2.size))=true)(hs1:items.size<=zAR)(hs2:items.size+items2.size<=zAR+1):
  Meets (zDm.«list.extend» ⟨[.ref l,.ref b],[]⟩) (λ _ R s=>s.heap.get? l=some {cls:=.type "list",dict:=none,data:=.seq items n,slots:=#[]}/\s.heap.get? b=some {cls:=.type "tuple",dict:=dd,data:=.seq items2 n2,slots:=sl}/\
   R (.ok (.ret zBX)) {s with heap:=s.heap.update l (zBc λ x=>x++items2),toks:=s.toks}):=
 .of_wp λ prog w A R s h=>by
  obtain⟨hp,g,d,tk,os⟩:=s;obtain⟨hl,hb,h⟩:=h;have f1:=idx_int;have f2:=sub_tuple_tuple;have f3:=sub_list_list;have f4:=sub_tuple_list;have f5:=sub_list_tuple;have hz':(items++items2).size<=zAR+1:=by rw[Array.size_append];exact hs2
  wp_walk using(wpAny_updateSeq hl rfl (hz:=hs1) (_hz':=hz')),zCQ hl,zCQ hb;exact⟨_,rfl,h⟩
end PySem.AutoSeq1
namespace VL
open PySem PySem.Spec PyProof.Rows L2
def aHy(K:zAA):V->List V->Hp->VK->Prop:=λ x vs H Q=>∃l b xs zs,x= .ref l/\vs=[.ref b]/\H l=some (.lst xs)/\SqT K H b zs/\xs.length+zs.length<=zAR/\∀H',jE l H H'->H' l=some (.lst (xs++zs))->Q .non H'
def aGo:MtM X "list.extend" (aHy X.K):=by
 intro hV s σ H x vs v us Q I rx rv h;obtain⟨l,b,xs,zs,rfl,rfl,hH,hB,hz,q⟩:=h;cases rx;obtain⟨u,rfl,ru⟩:=rv.one;cases ru;obtain⟨z,its,n,r,hl,e⟩:=I.lstM hH;obtain⟨its2,r2,⟨⟨c2,dd,dt,sl⟩,e2,hc2,n2,hd2⟩,z2⟩:=I.tuple hB;replace hc2:c2= .type "tuple":=hc2;replace hd2:dt= .seq its2.toArray n2:=hd2;subst hc2 hd2;have l1:=r.length;have l2:=r2.length;have hsz:its.toArray.size+its2.toArray.size<=zAR:=by rw[zAL,zAL];lia
 have oQ:¬(!its.toArray.isEmpty&&zBP (its.toArray.size+its2.toArray.size))=true:=by
  rw[uJ hsz,zC9];exact zA6
 refine zCK zCb ⟨_,e,rfl⟩ zGn (zGe _ _) (AutoSeq1.aBC l its.toArray n b its2.toArray n2 dd sl oQ (by lia) (by lia)) ⟨e,e2,?_⟩;refine⟨.non,_,I.lset (its':=its++its2) hH e (by simp) (r.append r2) ?_,rfl,q _ (λ b o ne hb=>by rw[aW ne];exact hb) ak⟩;rw[zAT];lia
section
variable{C:Ct}{pos apos cpos p:Pos}{e:Expr}{fe:En->Rs D}{i:Nat}{x:Str}{m:Mode}
def aHW(ds:List D)(k:List D->Ou):D->Ou
 | .tup es=>if ds.length+es.length<=zAR then k (ds++es)else .st
 |_=>.st
def aKC(i:Nat)(fe:En->Rs D):En->Ou:=λ ρ=>match ρ[i]? with
 |some (.ow (.lst ds))=>(fe ρ).bo (aHW ds λ l=>.nx (ρ.set i (.ow (.lst l))))
 |_=>.st
def aA8(i:Nat)(he:SE C m e fe)(hm:okN m=true:=by rfl)(hN:∀j,(C.X j).N[i]? =some x:=by intro _;rfl)(hv:∀j,Vis (C.X j).env.scope x:=by intro _;first|exact zB1 rfl|exact zBC (zB1 rfl)|exact zBC (zBC rfl))(hd:Nd x:=by decide)
  (hcd:(x==("__classdict__":Str))=false:=by decide)(hs1:∀j,zAW [e] (C.X j).env=[(false,eval e (C.X j).env)]:=by intro _;rfl)
  (hbase:∀j,zB7 (.Name x p) "extend" (C.X j).env (eval (.Name x p) (C.X j).env)=eval (.Name x p) (C.X j).env:=by intro _;rfl)
  (hfew:∀j,((zBp cpos (zAW [e] (C.X j).env)).all (λ x=>!x.1)&&(zDK cpos (zCF [] (C.X j).env)).all (λ x=>x.1.isSome)&&decide ([e].length+([]:List zB2).length+(if ([]:List zB2).isEmpty then 0 else 1)<30))=true:=by intro _;rfl)
  (hline:(apos.endLine==cpos.line)=true:=by rfl)
  (hsw:∀j,zBl (.Call (.Attribute (.Name x p) "extend" apos) [e] [] cpos) none pos.line (C.X j).env=pure false:=by intro _;rfl):
  SS C (.Expr (.Call (.Attribute (.Name x p) "extend" apos) [e] [] cpos) pos) (aKC i fe):=by
 obtain⟨t,h1,h2⟩:=he;refine⟨sY (tBM C.K "list" (aHy C.K) (m7 i) (gm t kY)),λ j=>jk (by rw[<-C.hK j];exact uB zBZ zCb zEq aGo (eF (hN j) (hv j) hd hcd) (cH (h1 j) eN (hs1 j)) (hbase j) (hfew j) hline (hs1 j) rfl) (hsw j),λ U σ H ρ lab De R W=>?_⟩;unfold aKC at W;cases es:ρ[i]? with
 |none=>rw[es]at W;exact zAH W
 |some s=>
  rw[es]at W;split at W
  .rename_i ds hs
   cases hs;rcases R.sl i _ es with z|⟨v,ev,hv'⟩
   .cases z
   .obtain⟨hv1,htop⟩:=hv'
    obtain⟨a0,ea0,la0⟩:=htop rfl;subst ea0;obtain⟨a1,xs,ea1,h,mm,r⟩:=hv1.lst_inv;cases ea1;refine⟨.ref a0,ev,.inl ⟨rfl,xs,SqL.of h⟩,h2 U σ H ρ lab _ R (W.bo.imp λ d _ w y H2 s2 r2=>?_)⟩;cases d with
    |tup es'=>
     dsimp only[aHW]at w;by_cases hz:ds.length+es'.length<=zAR
     .rw[if_pos hz]at w
      obtain⟨R',r'⟩:=R.fresh (P:=λ k=>k=1) rfl (λ k hk=>beq_iff_eq.mp (jJ hm k hk)) s2 r2;have la:(bQ H 1 lab a0).1=i+2:=by rw[bA h];exact la0
      obtain⟨b,zs,rfl,hb,rb⟩:=r'.tup_inv;refine⟨a0,b,xs,zs,rfl,rfl,s2 _ _ h,hb,by rw[r.length,rb.length];exact hz,λ H3 B h3=>?_⟩;refine w σ H3 _ (R'.mut ev (s2 _ _ h) rfl la B ⟨.lst h3 (.inr la) ?_,λ _=>⟨a0,rfl,la⟩⟩);have ra:Rps C.K (λ p=>((bQ H 1 lab p).1=1\/(bQ H 1 lab p).1=i+2)/\p≠a0) H2 (xs++zs) (ds++es'):=by
       refine(r.mono s2 λ p o e z=>⟨by rw[bA e];exact z.1,z.2⟩).append (rb.wk λ p o e z=>⟨.inl z,λ q=>?_⟩);subst q;have z1:(bQ H 1 lab p).1=1:=z;lia
      exact ra.but B (s2 _ _ h) rfl λ z=>z.2 rfl
     .rw[if_neg hz]at w
      exact zAH w
    |_=>exact zAH w
  .exact zAH W
end
def Enr(K:zAA)(x:Str)(st:Stmt)(f:Addr)(fd:zAc):Prop:=L2.Fun K x x st f fd/\zAu K zAa x=some (some (.ref f))
def enr{K:zAA}{st:Stmt}{oc kV dc pm cd ct:Value}(a:zAu K zAa x=some (some (.ref f)))
  (l:K.lookup f=some ⟨oc,od,.func (zBn x x (mV st) (gG st) (aO st) .none kV dc pm an cd ct),sl⟩)(c:zDB K cd x=true)(k:zC5 K (.ref f)=true):∃f fd,Enr K x st f fd:=⟨f,_,aJw (st:=st) l c k,a⟩
structure Dnr(K:zAA)(mg:Str->Option Value)(x:Str)(st:Stmt)(ps:List Str)(f:Addr)(d:zAc):Prop where
 F:L2.Fun K x x st f d
 m:mg x=some (.ref f)
 b:L2.Binds K d ps []
section
variable{C:Ct}
def aY{st:Stmt}(hF:cG C.prog C.w C.K C.mg C.base (CX1 C.prog C.w) k fn fd ps (spF C.K C.G.cl n F))(D:Dnr C.K C.mg x st ps fn fd)(ha:SA C m (e::es) ga)(hr:k<=C.k:=by exact Nat.le_of_ble_eq_true rfl)(hg:∀i,Gl (C.X i) x:=by intro _;rfl)
  (hn:∀ρ ds,ga ρ= .ok ds->ds.length=n:=by repeat (first|exact λ _ _ h=>aGt h|apply aEi))(hdb:Nd x:=by decide)(he:∀i,zAW (e::es) (C.X i).env=(false,eval e (C.X i).env)::zAW es (C.X i).env:=by intro _;rfl)
  (hpl:∀i,(zBp pos (zAW es (C.X i).env)).any (·.1)=false:=by intro _;rfl):SE C (some []) (.Call (.Name x p) (e::es) [] pos) (aP F ga):=aGD hF hr D.m D.F.kp D.b ha hn hdb he hpl hg
end
def bI{P:zAU}{w:World}{K:zAA}{st:Stmt}(D:Dnr K mg q st ps fn fd)(S:ao N ps (aO st))(hb:N.Nodup->∀cdv A outer s H E hr,SSs (ctD P w K mg base N q (aO st) fn cdv A outer s H E k hr) (gG st) f)(hn:ps.length=n:=by rfl)(hF:eE N.length f=FF:=by rfl):
  cG P w K mg base (CX1 P w) (k+1) fn fd ps (spF K (bf mg) n FF):=aHT D.F S (hb S.nd) hn hF
def aB6(items:Array Value)(nss:Nat->List Int)(h:Heap):Prop:=∀i v,items[i]? =some v->∃x its,v= .ref x/\IsTup h x its/\zBK its.toList (nss i)
def aAl(items:Array Value):List Addr:=items.toList.filterMap λ v=>match v with| .ref x=>some x|_=>none
def aAk{items:Array Value}{i:Nat}(h:items[i]? =some (zBF x)):x∈aAl items:=by
 unfold aAl;rw[zCE];exact⟨.ref x,by have:=zAl (l:=items.toList) (i:=i) (by simpa using h);exact this,rfl⟩
def aB6.keep(T:aB6 items nss h)(k:∀b∈aAl items,∀o,h.get? b=some o->h'.get? b=some o):aB6 items nss h':=λ i v e=>by
 obtain⟨x,its,rfl,⟨o,h1,h2⟩,h3⟩:=T i v e;exact⟨x,its,rfl,⟨o,k x (aAk e) o h1,h2⟩,h3⟩
def putN(ds:List D):D->Option Nat
 | .int n=>ixN ds.length n
 |_=>none
def aCh(i:Nat)(fk fe:En->Rs D):En->Ou:=λ ρ=>match ρ[i]? with
 |some (.ow (.lst ds))=>(fe ρ).bo λ d=>(fk ρ).bo λ k=>match putN ds k with
  |some j=>.nx (ρ.set i (.ow (.lst (ds.set j d))))
  |none=>.st
 |_=>.st
def aCj(h:putN ds k=some j):∃n,k= .int n/\ixN ds.length n=some j:=by
 cases k with
 |int n=>exact⟨n,rfl,h⟩
 |_=>cases h
section
variable{C:Ct}{pos tpos p:Pos}{ek e:Expr}{fk fe:En->Rs D}{x:Str}{m m1:Mode}
def aBg(i:Nat)(hk:SE C m1 ek fk)(he:SE C m e fe)(hm:okN m=true:=by rfl)(hN:∀j,(C.X j).N[i]? =some x:=by intro _;rfl)(hv:∀j,Vis (C.X j).env.scope x:=by intro _;first|exact zB1 rfl|exact zBC (zB1 rfl)|exact zBC (zBC rfl))(hd:Nd x:=by decide)
  (hcd:(x==("__classdict__":Str))=false:=by decide)(ha:∀j v,zDw (.Subscript (.Name x p) ek tpos) (C.X j).env v=(do
   let ov <-zD5 [v] (eval (.Name x p) (C.X j).env);let iv <-zD5 [v,ov] (eval ek (C.X j).env)
   zH3 tpos
   zD5 [v,ov,iv] (setItem ov iv v)
   release [v,ov,iv] []):=by intro _ _;rfl)(hs:∀j,zEj [.Subscript (.Name x p) ek tpos] e pos.line (C.X j).env=pure false:=by intro _;rfl)(hw:∀j,zEi [.Subscript (.Name x p) ek tpos] e (C.X j).env=pure none:=by intro _;rfl)
  (h1:∀j,(zBV [.Subscript (.Name x p) ek tpos] (C.X j).env).map (·.2)=[zDw (.Subscript (.Name x p) ek tpos) (C.X j).env]:=by intro _;rfl):
  SS C (.Assign [.Subscript (.Name x p) ek tpos] e pos) (aCh i fk fe):=by
 obtain⟨tk,k1,k2⟩:=hk;obtain⟨te,e1,e2⟩:=he;refine⟨aA6 te (aLJ (m7 i) tk aHr),λ j=>aAp (e1 j) (aJD (eF (hN j) (hv j) hd hcd) (k1 j) set_list (ha j)) (hs j) (hw j) (h1 j),λ U σ H ρ lab De R W=>?_⟩;unfold aCh at W;cases es:ρ[i]? with
 |none=>rw[es]at W;exact zAH W
 |some s=>
  rw[es]at W;split at W
  .rename_i ds hs
   cases hs;rcases R.sl i _ es with z|⟨v,ev,hv'⟩
   .cases z
   .obtain⟨hv1,htop⟩:=hv'
    obtain⟨a0,ea0,la0⟩:=htop rfl;subst ea0;cases hv1 with
    |lst h mm r=>
     rename_i xs;refine e2 U σ H ρ lab _ R (W.bo.imp λ d _ w y H2 s2 r2=>⟨.ref a0,ev,?_⟩);refine k2 U σ H2 ρ lab _ (R.up s2) (w.bo.imp λ k _ w kv H3 s3 r3=>?_);cases hj:putN ds k with
     |none=>rw[hj]at w;exact zAH w
     |some j=>
      rw[hj]at w;dsimp only at w;obtain⟨n,rfl,hj⟩:=aCj hj;have ey:=r3.int_inv;subst ey;have h3:H3 a0=some (.lst xs):=(s2.trans s3) _ _ h;refine⟨a0,xs,n,j,rfl,rfl,h3,by rw[r.length];exact hj,?_⟩;obtain⟨R',r'⟩:=R.fresh (P:=λ k=>k=1) rfl (λ k hk=>beq_iff_eq.mp (jJ hm k hk)) s2 r2;have la:(bQ H 1 lab a0).1=i+2:=by rw[bA h];exact la0
      have B:jE a0 H3 (upd H3 a0 (.lst (xs.set j y))):=λ b' o ne hb=>by rw[aW ne];exact hb
      refine w σ _ _ ((R'.up s3).mut ev h3 rfl la B ⟨.lst ak (.inr la) ?_,λ _=>⟨a0,rfl,la⟩⟩);have ra:Rps C.K (λ p=>((bQ H 1 lab p).1=1\/(bQ H 1 lab p).1=i+2)/\p≠a0) H3 (xs.set j y) (ds.set j d):=by
       refine Rps.set ((r'.up s3).wk λ p o e z=>⟨.inl z,λ q=>?_⟩) j (r.mono (s2.trans s3) λ p o e z=>⟨by rw[bA e];exact z.1,z.2⟩);subst q;rw[la]at z;lia
      exact ra.but B h3 rfl λ z=>z.2 rfl
  .exact zAH W
end
def jy(ks vs:List D):Option (List (Int×D)):=match intsOf ks with
 |some is=>if is.length=vs.length then some (is.zip vs)else none
 |none=>none
def aB2(ps:List (Int×D)):D:=.dct (ps.map λ p=>.int p.1) (ps.map (·.2))
def aAq(h:jy ks vs=some ps):ks=ps.map (λ p=>.int p.1)/\vs=ps.map (·.2):=by
 unfold jy at h;split at h
 .rename_i is hi
  split at h
  .rename_i hl
   cases h;refine⟨?_,?_⟩
   .rw[cV hi,show(λ p:Int×D=>D.int p.1)=(λ i=>D.int i)∘zEg from rfl,<-zA3,zGt (by lia)]
   .rw[zGu (by lia)]
  .cases h
 .cases h
theorem aDU:∀ps:List (Int×D),(ps.map (·.1)).zip (ps.map (·.2))=ps
 |[]=>rfl
 |p::ps=>by rw[zAC,zAC,zBY,aDU ps]
def pq(ps:List (Int×D)):jy (ps.map λ p=>.int p.1) (ps.map (·.2))=some ps:=by
 unfold jy;have e:intsOf (ps.map λ p=>D.int p.1)=some (ps.map (·.1)):=by
  rw[show(ps.map λ p=>D.int p.1)=(ps.map (·.1)).map D.int by rw[zA3];rfl];exact dM _
 rw[e];dsimp only;rw[if_pos (by rw[zAF,zAF]),aDU]
def Rp.dctI_inv{K:zAA}(r:Rp K A H v (.dct ks vs))(h:jy ks vs=some ps):
  ∃a kvs,v= .ref a/\H a=some (.dK kvs)/\A a/\Rps K (λ p=>A p/\p≠a) H (kvs.map (·.2)) (ps.map (·.2))/\kvs.map (·.1)=ps.map λ p=>(zB0 p.1:Key):=by
 obtain⟨h1,h2⟩:=aAq h;generalize hd:D.dct ks vs=d at r;cases r with
 |dK hh m r=>
  rename_i kvs ds;injection hd with q1 q2
  subst q2;refine⟨_,kvs,rfl,hh,m,by rw[<-h2];exact r,?_⟩;rw[h1]at q1;clear r h h1 h2 hh;induction kvs generalizing ps with
  |nil=>cases ps with
   |nil=>rfl
   |cons _ _=>cases q1
  |cons p kvs ih=>cases ps with
   |nil=>cases q1
   |cons q ps=>
    obtain⟨p1,p2⟩:=p;rw[zAC,zAC]at q1;injection q1 with q3 q4
    rw[zAC,zAC,ih q4];cases p1 with
    |inl i=>injection q3 with q3;rw[q3]
    |inr x=>cases q3
 |dT hh m r=>
  injection hd with q1 q2
  rw[h1]at q1;cases ps<;>cases q1
 |_=>cases hd
theorem aDY{K:zAA}:∀{kvs:List (Key×V)} {ps:List (Int×D)},Rps K A H (kvs.map (·.2)) (ps.map (·.2))->(kvs.map (·.1)=ps.map λ p=>(zB0 p.1:Key))->∀i:Int,
  (∃d v,ps.lookup i=some d/\mZ kvs (.inl i)=some v/\Rp K A H v d)\/(ps.lookup i=none/\mZ kvs (.inl i)=none)
 |[],[],_,_,_=>.inr ⟨rfl,rfl⟩
 |[],_::_,_,e,_=>by cases e
 |_::_,[],_,e,_=>by cases e
 |p::kvs,q::ps,r,e,i=>by
  obtain⟨p1,p2⟩:=p;obtain⟨q1,q2⟩:=q;rw[zAC,zAC]at e;injection e with e1 e2
  replace e1:p1= .inl q1:=e1;subst e1;rw[zAC,zAC]at r;cases r with
  |cons h r=>
   by_cases c:q1=i
   .subst c
    exact .inl ⟨q2,p2,by simp[zAh],kJ rfl,h⟩
   .have c1:(i==q1)=false:=by simpa using λ z=>c z.symm
    rw[kO (p:=(zB0 q1,p2)) (by simpa using c),zAh,c1];exact aDY r e2 i
def aLd:R2:=λ x y H Q=>∃a v,x= .ref a/\vA H a y (some v)/\Q v H
def aCi(ps:List (Int×D))(i:Int)(d:D):List (Int×D):=if (ps.any λ p=>decide (p.1=i))=true then ps.map (λ p=>if p.1=i then(p.1,d)else p)else ps++[(i,d)]
theorem aF6:∀{kvs:List (Key×V)} {ps:List (Int×D)} {i:Int},(kvs.map (·.1)=ps.map λ p=>(zB0 p.1:Key))->(kvs.any λ kv=>decide (kv.1=(.inl i:Key)))=ps.any λ p=>decide (p.1=i)
 |[],[],_,_=>rfl
 |[],_::_,_,e=>by cases e
 |_::_,[],_,e=>by cases e
 |(p1,p2)::kvs,q::ps,i,e=>by
  rw[zAC,zAC]at e;injection e with e1 e2
  replace e1:p1= .inl q.1:=e1;subst e1;rw[zCL,zCL,aF6 e2];simp
theorem aEB{K:zAA}{i:Int}{v:V}{d:D}(h:Rp K A H v d):∀{kvs:List (Key×V)} {ps:List (Int×D)},Rps K A H (kvs.map (·.2)) (ps.map (·.2))->(kvs.map (·.1)=ps.map λ p=>(zB0 p.1:Key))->
  Rps K A H ((kvs.map λ kv=>if kv.1= .inl i then(kv.1,v)else kv).map (·.2)) ((ps.map λ p=>if p.1=i then(p.1,d)else p).map (·.2))/\((kvs.map λ kv=>if kv.1= .inl i then(kv.1,v)else kv).map (·.1)=(ps.map λ p=>if p.1=i then(p.1,d)else p).map λ p=>(zB0 p.1:Key))
 |[],[],_,_=>⟨.nil,rfl⟩
 |[],_::_,_,e=>by cases e
 |_::_,[],_,e=>by cases e
 |(p1,p2)::kvs,(q1,q2)::ps,r,e=>by
  rw[zAC,zAC]at e;injection e with e1 e2
  replace e1:p1= .inl q1:=e1;subst e1;rw[zAC,zAC]at r;cases r with
  |cons h1 r1=>
   obtain⟨z1,z2⟩:=aEB h r1 e2;rw[zAC,zAC,zAC,zAC,zAC,zAC,z2];by_cases c:q1=i
   .subst c
    rw[if_pos rfl,if_pos rfl];exact⟨.cons h z1,rfl⟩
   .rw[if_neg (show¬((zB0 q1:Key),p2).1=zB0 i by simpa using c),if_neg (show¬(q1,q2).1=i from c)]
    exact⟨.cons h1 z1,rfl⟩
def aIw{K:zAA}{kvs:List (Key×V)}{ps:List (Int×D)}{i:Int}{v:V}{d:D}(r:Rps K A H (kvs.map (·.2)) (ps.map (·.2)))(e:kvs.map (·.1)=ps.map λ p=>(zB0 p.1:Key))(h:Rp K A H v d):
  Rps K A H ((putK kvs (.inl i) v).map (·.2)) ((aCi ps i d).map (·.2))/\(putK kvs (.inl i) v).map (·.1)=(aCi ps i d).map λ p=>(zB0 p.1:Key):=by
 unfold putK aCi;rw[aF6 e];split
 .exact aEB h r e
 .rw[zAZ,zAZ,zAZ,zAZ,e]
  exact⟨r.append (.cons h .nil),rfl⟩
def aCZ{K:zAA}{kvs:List (Key×V)}{ps:List (Int×D)}(h:H a=some (.dK kvs))(m:A a)(r:Rps K (λ p=>A p/\p≠a) H (kvs.map (·.2)) (ps.map (·.2)))(e:kvs.map (·.1)=ps.map λ p=>(zB0 p.1:Key)):Rp K A H (.ref a) (aB2 ps):=by
 have e1:(kvs.map λ p=>kD p.1)=ps.map λ p=>.int p.1:=by
  rw[show(kvs.map λ p=>kD p.1)=(kvs.map (·.1)).map kD by rw[zA3];rfl,e,zA3];rfl
 have:=Rp.dK h m r
 rw[e1]at this;exact this
def v7:D->D->Option (List (Int×D)×Int)
 | .dct ks vs,.int i=>(jy ks vs).map λ ps=>(ps,i)
 |_,_=>none
def pdS(i:Nat)(fk fe:En->Rs D):En->Ou:=λ ρ=>match ρ[i]? with
 |some (.ow c)=>(fe ρ).bo λ d=>(fk ρ).bo λ k=>match v7 c k with
  |some (ps,j)=>if ps.length<zAR then .nx (ρ.set i (.ow (aB2 (aCi ps j d))))else .st
  |none=>.st
 |_=>.st
def aAo(h:v7 c k=some (ps,j)):∃ks vs,c= .dct ks vs/\k= .int j/\jy ks vs=some ps:=by
 unfold v7 at h;split at h
 .rename_i ks vs i
  cases hp:jy ks vs with
  |none=>rw[hp]at h;cases h
  |some ps'=>rw[hp]at h;cases h;exact⟨ks,vs,rfl,rfl,hp⟩
 .cases h
section
variable{C:Ct}{pos tpos p:Pos}{ek e:Expr}{fk fe:En->Rs D}{x:Str}{m m1:Mode}
def aBh(i:Nat)(hk:SE C m1 ek fk)(he:SE C m e fe)(hm:okN m=true:=by rfl)(hN:∀j,(C.X j).N[i]? =some x:=by intro _;rfl)(hv:∀j,Vis (C.X j).env.scope x:=by intro _;first|exact zB1 rfl|exact zBC (zB1 rfl)|exact zBC (zBC rfl))(hd:Nd x:=by decide)
  (hcd:(x==("__classdict__":Str))=false:=by decide)(hs:∀j,zBl e (some (.Subscript (.Name x p) ek tpos)) pos.line (C.X j).env=pure false:=by intro _;rfl):
  SS C (.Assign [.Subscript (.Name x p) ek tpos] e pos) (pdS i fk fe):=by
 obtain⟨tk,k1,k2⟩:=hk;obtain⟨te,e1,e2⟩:=he;refine⟨aHo (m7 i) tk te,λ j=>aGS (by have:=(C.room j).un;lia) (eF (hN j) (hv j) hd hcd) (k1 j) (e1 j) (hs j),λ U σ H ρ lab De R W=>?_⟩;unfold pdS at W;cases es:ρ[i]? with
 |none=>rw[es]at W;exact zAH W
 |some s=>
  rw[es]at W;split at W
  .rename_i c hs
   cases hs;rcases R.sl i _ es with z|⟨v,ev,hv'⟩
   .cases z
   .obtain⟨hv1,htop⟩:=hv'
    refine e2 U σ H ρ lab _ R (W.bo.imp λ d _ w0 y H2 s2 r2=>⟨v,ev,?_⟩);refine k2 U σ H2 ρ lab _ (R.up s2) (w0.bo.imp λ k _ w kv H3 s3 r3=>?_);clear w0;cases hj:v7 c k with
    |none=>rw[hj]at w;exact zAH w
    |some q=>
     obtain⟨ps,j⟩:=q;rw[hj]at w;dsimp only at w;obtain⟨ks,vs,rfl,rfl,hp⟩:=aAo hj;obtain⟨a0,ea0,la0⟩:=htop rfl;subst ea0;have ey:=r3.int_inv;subst ey;obtain⟨a1,kvs,ea,h,mm,r,hk⟩:=hv1.dctI_inv hp;cases ea;by_cases hz:ps.length<zAR
     .rw[if_pos hz]at w
      have hW:kvs.length=ps.length:=by have:=congrArg zEH hk;simpa using this
      have h3:H3 a0=some (.dK kvs):=(s2.trans s3) _ _ h;refine⟨a0,_,rfl,aFf.k (k:=.inl j) (v:=y) h3 (by rw[hW];exact hz),?_⟩;obtain⟨R',r'⟩:=R.fresh (P:=λ k=>k=1) rfl (λ k hk=>beq_iff_eq.mp (jJ hm k hk)) s2 r2;have la:(bQ H 1 lab a0).1=i+2:=by rw[bA h];exact la0
      have B:jE a0 H3 (upd H3 a0 (.dK (putK kvs (.inl j) y))):=λ b' o ne hb=>by rw[aW ne];exact hb
      obtain⟨q1,q2⟩:=aIw (i:=j) (A:=λ p=>((bQ H 1 lab p).1=1\/(bQ H 1 lab p).1=i+2)/\p≠a0) (r.mono (s2.trans s3) λ p o e z=>⟨by rw[bA e];exact z.1,z.2⟩) hk ((r'.up s3).wk λ p o e z=>⟨.inl z,λ q=>by subst q;rw[la]at z;lia⟩);refine w σ _ _ ((R'.up s3).mut ev h3 rfl la B ⟨aCZ ak (.inr la) (q1.but B h3 rfl λ z=>z.2 rfl) q2,λ _=>⟨a0,rfl,la⟩⟩)
     .rw[if_neg hz]at w
      exact zAH w
  .exact zAH W
end
def aAL(l:List D):D->Rs D
 | .int i=>match intsOf l with
  |some is=>.ok (.int (is.countP λ a=>a==i:Nat))
  |none=>.st
 |_=>.st
def isL:D->Option (List D)
 | .lst l=>some l
 |_=>none
def opL(fd:List D->D->Rs D)(fo fe:En->Rs D):En->Rs D:=λ ρ=>(fo ρ).bd λ d=>match isL d with
 |some l=>(fe ρ).bd λ e=>okD (fd l e)
 |none=>.st
theorem v6{H:Hp}:∀is:List Int,L2.jD H (is.map V.int) (is.map L2.D.int)
 |[]=>.nil
 |i::is=>.cons (.int i) (v6 is)
theorem aB1:∀is:List Int,L2.bY (is.map L2.D.int)=0/\L2.aR (is.map L2.D.int)=true
 |[]=>⟨rfl,rfl⟩
 |i::is=>by
  obtain⟨h1,h2⟩:=aB1 is;simp[L2.bY,L2.iB,L2.aR,L2.aQ,h1,h2]
def aEg{K:zAA}(r:Rp K A H x (.lst l))(h:intsOf l=some is):∃a,x= .ref a/\H a=some (.lst (is.map V.int)):=by
 rw[cV h]at r;obtain⟨a,xs,rfl,h1,_,r1⟩:=r.lst_inv;have e:=r1.ints_of;subst e;exact⟨a,rfl,h1⟩
section
variable{C:Ct}{m m1:Mode}{o e:Expr}{fo fe:En->Rs D}{apos cpos:Pos}
def aDp(ho:SE C m o fo)(he:SE C m1 e fe)(hs1:∀j,zAW [e] (C.X j).env=[(false,eval e (C.X j).env)]:=by intro _;rfl)(hbase:∀j,zB7 o "count" (C.X j).env (eval o (C.X j).env)=eval o (C.X j).env:=by intro _;rfl)
  (hfew:∀j,((zBp cpos (zAW [e] (C.X j).env)).all (λ x=>!x.1)&&(zDK cpos (zCF [] (C.X j).env)).all (λ x=>x.1.isSome)&&decide ([e].length+([]:List zB2).length+(if ([]:List zB2).isEmpty then 0 else 1)<30))=true:=by intro _;rfl)
  (hline:(apos.endLine==cpos.line)=true:=by rfl):SE C (some []) (.Call (.Attribute o "count" apos) [e] [] cpos) (opL aAL fo fe):=by
 obtain⟨t,h1,h2⟩:=ho;obtain⟨u,k1,k2⟩:=he;refine⟨tBM C.K "list" aBu t (gm u kY),λ j=>by rw[<-C.hK j];exact uB zBZ zFH PySem.F.type_list_count (aCs (by have:=(C.room j).un;lia)) (h1 j) (cH (k1 j) eN (hs1 j)) (hbase j) (hfew j) hline (hs1 j) rfl,λ U σ H ρ lab Q R W=>?_⟩;refine h2 U σ H ρ lab _ R (W.bd.imp λ d _ w x H1 s1 r1=>?_);cases d with
 |lst l=>
  obtain⟨a,xs,rfl,ha,_⟩:=r1.lst_inv;replace w:WR C.G ((fe ρ).bd λ e=>okD (aAL l e)) (QE C.K (some []) lab H Q):=w;refine⟨.inl ⟨rfl,xs,SqL.of ha⟩,k2 U σ H1 ρ lab _ (R.up s1) (w.bd.imp λ e _ w y H2 s2 r2=>?_)⟩;obtain⟨z,ez,wz⟩:=w.okD;cases e with
  |int i=>
   unfold aAL at ez;dsimp only at ez;cases hi:intsOf l with
   |none=>rw[hi]at ez;cases ez
   |some is=>
    rw[hi]at ez;dsimp only at ez;have ey:=r2.int_inv;subst ey;obtain⟨a',ea,hl⟩:=aEg (r1.up s2) hi;cases ea;cases ez;refine⟨a,.int i,.int i,is.map L2.D.int,rfl,rfl,.lst hl (v6 is),.int i,by rw[(aB1 is).1];decide,rfl,(aB1 is).2,?_⟩;rw[List.countP_map];exact wz _ H2 (s1.trans s2) (.int _)
  |_=>cases ez
 |_=>exact zAH w
end
def aDP{X:Cx}:cR X (.type "int") (λ xs H Q=>∃b,xs=[.bl b]/\Q (.int (if b=true then 1 else 0)) H):=by
 intro hV s σ H xs us Q I r h;obtain⟨b,rfl,q⟩:=h;obtain⟨u,rfl,r1⟩:=vals1 r;cases r1;exact call_int_bool ⟨.int _,H,I.tok _,⟨_,rfl⟩,q⟩
def lR:List D->Rs D
 |[.bl b]=>.ok (.int (if b=true then 1 else 0))
 |_=>.st
def aHZ{K:zAA}:pN K (λ xs H Q=>∃b,xs=[.bl b]/\Q (.int (if b=true then 1 else 0)) H) lR:=by
 intro A xs ds H Q z r ez q;unfold lR at ez;split at ez
 .cases ez
  cases r with
  |cons h' r=>cases h';cases r;exact⟨_,rfl,q _ H (aV.refl H) (.int _)⟩
 .cases ez
def aFD:∀x z,lR x= .ok z->imm z=true:=by
 intro x z e;unfold lR at e;split at e
 .cases e;rfl
 .cases e
section
variable{C:Ct}{pos p:Pos}{m:Mode}{a:Expr}{ga:En->Rs (List D)}
def aGB(hm:C.mg "int"=none)(ha:SA C m [a] ga)(he:∀i,zAW [a] (C.X i).env=[(false,eval a (C.X i).env)]:=by intro _;rfl)(hg:∀i,Gl (C.X i) "int":=by intro _;rfl)(hv:zAq "int"=some (.type "int"):=by decide+kernel):SE C (some []) (.Call (.Name "int" p) [a] [] pos) (opA lR ga):=
 fP (zE (λ i=>aDP) aHZ hg hm hv ha (by decide) (by decide) he) λ _ _ h=>mR aFD h
end
end VL
namespace PySem
open Sem(wp)
section
variable{prog:zAU}{w:World}
inductive yg{K:Type}[DecidableEq K](knd:KeyKind prog w K)(h:Heap):List Value->List (K×Value)->Prop where
 |nil:yg knd h [] []
 |cons {x:Addr} {o:Obj} {n:Nat} {kv v:Value} {k:K} {us:List Value} {ps:List (K×Value)} (ho:h.get? x=some o) (hc:o.cls= .type "tuple") (hd:o.data= .seq #[kv,v] n) (hk:knd.is k kv=true) (r:yg knd h us ps):yg knd h (.ref x::us) ((k,v)::ps)
end
end PySem
namespace VL
open PySem PySem.Spec PyProof.Rows L2
section
variable{K:Type}[DecidableEq K]
end
end VL
namespace L2
open PySem PySem.Spec PyProof.Rows
section
variable{X:Cx}{n0 n1 n2 odd:Str}{c1 c2:V}{k1 k2 k3 k4:List V}{l1 l2:List Str}{a1 a2:Expr}{as1 as2 e1 e2 e3 e4 w1 w2:List Expr}{kw1 kw2:List zB2}{Q:VK}{H:Hp}{vs:List V}
 {p1 p2 p3 p4 p5 p6 p7 p8 p9 p10 p11 p12 p13 p14 p15 p16 p17 p18 p19 p20 p21 p22 p23 p24 p25 p26 p27 p28 p29 p30 p31 p32 p33 p34 p35 p36 p37 p38 p39 p40:Pos}{q1 q2 q3 q4 q5 q6 q7:Pos}{j1 j2 j3 j4 j5:Nat}{E0:XK}{wd:Addr->Option Str}
end
section
variable{P:zAU}{w:World}{K:zAA}{mg:Str->Option Value}{base:Heap}{x q n0 n1 n2 odd:Str}{st:Stmt}{f:Addr}{fd:zAc}{k:Nat}{wd:Addr->Option Str}{c1 c2:V}{k1 k2 k3 k4:List V}{l1 l2:List Str}{a1 a2:Expr}{as1 as2 e1 e2 e3 e4 w1 w2:List Expr}{kw1 kw2:List zB2}
 {p1 p2 p3 p4 p5 p6 p7 p8 p9 p10 p11 p12 p13 p14 p15 p16 p17 p18 p19 p20 p21 p22 p23 p24 p25 p26 p27 p28 p29 p30 p31 p32 p33 p34 p35 p36 p37 p38 p39 p40:Pos}{q1 q2 q3 q4 q5 q6 q7:Pos}{j1 j2 j3 j4 j5:Nat}
end
section
variable{X:Cx}{n0 n1 n2 odd:Str}{c1 c2:V}{k1 k2 k3 k4:List V}{l1 l2:List Str}{a1 a2:Expr}{as1 as2 e1 e2 e3 e4 w1 w2:List Expr}{kw1 kw2:List zB2}{Q:VK}{H:Hp}{vs:List V}
 {p1 p2 p3 p4 p5 p6 p7 p8 p9 p10 p11 p12 p13 p14 p15 p16 p17 p18 p19 p20 p21 p22 p23 p24 p25 p26 p27 p28 p29 p30 p31 p32 p33 p34 p35 p36 p37 p38 p39 p40:Pos}{q1 q2 q3 q4 q5 q6 q7:Pos}{j1 j2 j3 j4 j5:Nat}{E0:XK}{wd:Addr->Option Str}
end
section
variable{P:zAU}{w:World}{K:zAA}{mg:Str->Option Value}{base:Heap}{x q n0 n1 n2 odd:Str}{st:Stmt}{f:Addr}{fd:zAc}{k:Nat}{wd:Addr->Option Str}{c1 c2:V}{k1 k2 k3 k4:List V}{l1 l2:List Str}{a1 a2:Expr}{as1 as2 e1 e2 e3 e4 w1 w2:List Expr}{kw1 kw2:List zB2}
 {p1 p2 p3 p4 p5 p6 p7 p8 p9 p10 p11 p12 p13 p14 p15 p16 p17 p18 p19 p20 p21 p22 p23 p24 p25 p26 p27 p28 p29 p30 p31 p32 p33 p34 p35 p36 p37 p38 p39 p40:Pos}{q1 q2 q3 q4 q5 q6 q7:Pos}{j1 j2 j3 j4 j5:Nat}
end
end L2
namespace VL
open PySem PySem.Spec PyProof.Rows L2
def dnr{K:zAA}{h:Heap}{mg:Str->Option Value}{x:Str}{st:Stmt}(X:K.In h)(G:h.Ns zAa mg)(e:∃f d,Enr K x st f d)(ps:List Str)
  (hb:∀(kV doc pm:Value) (an:Option Addr) (cdv ct:Value) (us:List Value),us.length=ps.length->bindArgs (zBn x x (mV st) (gG st) (aO st) .none kV doc pm an cdv ct) ⟨us,[]⟩=pure (ps.zip us):=by
   intro _ _ _ _ _ _ us hl;repeat' first|rfl|(simp at hl;done)|rcases us with _|⟨_,us⟩):∃f d,Dnr K mg x st ps f d/\zAu K zAa x=some (some (.ref f)):=by
 obtain⟨f,d,F,a⟩:=e;exact⟨f,d,⟨F,zCH X G a,F.binds hb⟩,a⟩
def aBs:D->Rs D
 | .lst l=>.ok (.lst l.reverse)
 |_=>.st
def aHi(K:zAA)(te:TE):TE:=λ σ H Q=>te σ H λ x H1=>∃a xs,x= .ref a/\SqL K H1 a xs/\∀p,H1 p=none->Q (.ref p) (upd H1 p (.lst xs.reverse))
def aGX{X:Cx}(he:PE X e te):PE X (.Subscript e (.Slice none none (some (.UnaryOp .USub (.Constant (.int 1) j p3) p4)) p2) pos) (aHi X.K te):=by
 intro hV s σ H Q I h;refine zHn (thn (he hV s σ H _ I h) λ v s1 ⟨x,H1,I1,r1,q1⟩=>?_);obtain⟨a,xs,rfl,hx,q⟩:=q1;cases r1;have hm:PE X (.UnaryOp .USub (.Constant (.int 1) j p3) p4) (tUn (rU λ i=>.int (-i)) (tC (.int 1))):=aKk aIW aEU;refine wpAny_Slice ?_;rw[evalPart_none];refine zAr (zAr ?_);rw[evalPart_some];refine thn (hm hV s1 σ H1 (λ z H2=>z= .int (-1)/\H2=H1) I1 ⟨1,rfl,rfl,rfl⟩) λ u s2 ⟨z,H2,I2,r2,ez,eH⟩=>?_
 subst ez eH;obtain⟨tk,rfl⟩:=r2;have I4:Inv X hV σ H2 {s2 with heap:=s2.heap.push {cls:=.type "slice",data:=.fields #[.none,.none,.int (-1) tk]}}:=I2.kept (t':=s2.toks) λ b ob q=>zAG _ q
 obtain⟨its,r,ht,hz⟩:=I4.list hx;have hW:its.toArray.size=xs.length:=by rw[zAL];exact r.length.symm
 show wpAny (model X.prog X.w) X.A (zGc e _ (.ref a) (.ref s2.heap.objs.size)) (EP X hV σ Q) X.xe _;refine tail_any (ops:=[.ref a,.ref s2.heap.objs.size]) ht.isList.typeIs zHq.lookup ?_ (by with_unfolding_all rfl);refine wpAny_getItem_list_slice ht.isList (zH9 ..) .none .none (.int _ _) (by decide) ?_ (by rw[hW];exact hz);rw[PySem.W.krv_pick];refine⟨.ref _,_,I4.laid (t':=s2.toks) (o:=.lst xs.reverse) (λ b ob q=>zAG _ q) (zAV _) ?_,rfl,q _ (I4.hok.fresh (zAV _))⟩;exact⟨by rw[List.length_reverse];exact hz,_,0,r.reverse,zA5 _ rfl⟩
section
variable{C:Ct}{pos p2 p3 p4:Pos}{m:Mode}{e:Expr}{fe:En->Rs D}
def aFv(h:SE C m e fe):SE C m (.Subscript e (.Slice none none (some (.UnaryOp .USub (.Constant (.int 1) j p3) p4)) p2) pos) (op1 aBs fe):=by
 obtain⟨t,h1,h2⟩:=h;refine⟨aHi C.K t,λ i=>by rw[<-C.hK i];exact aGX (h1 i),λ U σ H ρ lab Q R W=>h2 U σ H ρ lab _ R (W.bd.imp λ d _ w x H1 s1 r1=>?_)⟩;obtain⟨z,ez,w⟩:=w.okD;cases d with
 |lst l=>
  cases ez;obtain⟨a,xs,rfl,h,mm,r⟩:=r1.lst_inv;exact⟨a,xs,rfl,SqL.of h,λ p hp=>w _ _ (s1.trans (bN hp _)) (.lst ak (.inl (s1.free hp)) ((r.reverse.wk λ q o e z=>⟨z.1,λ e'=>by subst e';rw[hp]at e;cases e⟩).up (bN hp _)))⟩
 |_=>cases ez
end
end VL
namespace L2
open PySem PySem.Spec PyProof.Rows
end L2
namespace VL
open PySem PySem.Spec PyProof.Rows L2
theorem KV.at:∀{kvs:List (Key×V)} {vs:List (Key×Value)},KV kvs vs->vs.map (·.1)=kvs.map (·.1)
 |_,_,.nil=>rfl
 |_,_,.cons e r=>by rw[zAC,zAC,KV.at r,e.1]
def aLm(A:zA8)(s:zAD)(v u:Value)(b:Bool):Prop:=∀(prog:zAU) (w:World) (E:Value->zAD->Prop) (Q:Value->zAD->Prop),Q (.bool b) s->wpAny (model prog w) A (zFy .Gt v u) Q E s
inductive aDT(A:zA8)(s:zAD):List Value->List Value->Bool->Prop
 |nn:aDT A s [] [] false
 |nc:aDT A s [] (v::vs) false
 |cn:aDT A s (v::vs) [] true
 |eq:zBk A s v u true->aDT A s vs us b->aDT A s (v::vs) (u::us) b
 |un:zBk A s v u false->aLm A s v u b->aDT A s (v::vs) (u::us) b
section
open PySem.SeqAt
open PySem.AutoSeq1(wpAny_loadPart')
open PySem.MeetsSeq PySem.MeetsSeq2 PySem.MeetsSeq3
end
section
theorem aIR:∀{l:List D} {d:D},dJ l=true->d∈l->imm d=true
 |_::_,d,h,hm=>by
  simp only[dJ,zAM]at h;rcases zAQ.mp hm with rfl|hm
  .exact h.1
  .exact aIR h.2 hm
structure Cmp(f:D->D->Option Bool)(l:List D):Prop where
 n0:0<l.length
 im:dJ l=true
 nd:aR l=true
 dp:bY l<=40
 cm:∀x∈l,∀y∈l,(f x y).isSome=true
instance:Decidable (Cmp f l):=if h:0<l.length/\dJ l=true/\aR l=true/\bY l<=40/\∀x∈l,∀y∈l,(f x y).isSome=true then .isTrue ⟨h.1,h.2.1,h.2.2.1,h.2.2.2.1,h.2.2.2.2⟩else .isFalse λ z=>h ⟨z.n0,z.im,z.nd,z.dp,z.cm⟩
end
mutual
def lsD:D->D->Option Bool
 | .int a,.int b=>some (decide (a<b))
 | .tup l,.tup m=>aLA l m
 |_,_=>none
def aLA:List D->List D->Option Bool
 |[],[]=>some false
 |[],_::_=>some true
 |_::_,[]=>some false
 |x::xs,y::ys=>if eqD x y=true then aLA xs ys else lsD x y
end
def aLl(A:zA8)(s:zAD)(v u:Value)(b:Bool):Prop:=∀(prog:zAU) (w:World) (E:Value->zAD->Prop) (Q:Value->zAD->Prop),Q (.bool b) s->wpAny (model prog w) A (zFy .Lt v u) Q E s
inductive aDS(A:zA8)(s:zAD):List Value->List Value->Bool->Prop
 |nn:aDS A s [] [] false
 |nc:aDS A s [] (v::vs) true
 |cn:aDS A s (v::vs) [] false
 |eq:zBk A s v u true->aDS A s vs us b->aDS A s (v::vs) (u::us) b
 |un:zBk A s v u false->aLl A s v u b->aDS A s (v::vs) (u::us) b
section
open PySem.SeqAt
open PySem.AutoSeq1(wpAny_loadPart')
open PySem.MeetsSeq PySem.MeetsSeq2 PySem.MeetsSeq3
end
def aHX(i k:Nat):En->Ou:=λ ρ=>match ρ[i]?,ρ[k]? with
 |some (.ow (.lst ds)),some (.ow (.lst es))=>if ds.length+es.length<=zAR/\dJ es=true then .nx (ρ.set i (.ow (.lst (ds++es))))else .st
 |_,_=>.st
section
variable{C:Ct}{pos apos cpos p p':Pos}{i k:Nat}{x y:Str}
def aA9(i k:Nat)(hN:∀j,(C.X j).N[i]? =some x:=by intro _;rfl)(hv:∀j,Vis (C.X j).env.scope x:=by intro _;first|exact zB1 rfl|exact zBC (zB1 rfl)|exact zBC (zBC rfl))(hd:Nd x:=by decide)
  (hcd:(x==("__classdict__":Str))=false:=by decide)(hN':∀j,(C.X j).N[k]? =some y:=by intro _;rfl)(hv':∀j,Vis (C.X j).env.scope y:=by intro _;first|exact zB1 rfl|exact zBC (zB1 rfl)|exact zBC (zBC rfl))(hd':Nd y:=by decide)
  (hcd':(y==("__classdict__":Str))=false:=by decide)(hs1:∀j,zAW [.Name y p'] (C.X j).env=[(false,eval (.Name y p') (C.X j).env)]:=by intro _;rfl)
  (hbase:∀j,zB7 (.Name x p) "extend" (C.X j).env (eval (.Name x p) (C.X j).env)=eval (.Name x p) (C.X j).env:=by intro _;rfl)
  (hfew:∀j,((zBp cpos (zAW [.Name y p'] (C.X j).env)).all (λ x=>!x.1)&&(zDK cpos (zCF [] (C.X j).env)).all (λ x=>x.1.isSome)&&decide ([Expr.Name y p'].length+([]:List zB2).length+(if ([]:List zB2).isEmpty then 0 else 1)<30))=true:=by intro _;rfl)
  (hline:(apos.endLine==cpos.line)=true:=by rfl)
  (hsw:∀j,zBl (.Call (.Attribute (.Name x p) "extend" apos) [.Name y p'] [] cpos) none pos.line (C.X j).env=pure false:=by intro _;rfl):
  SS C (.Expr (.Call (.Attribute (.Name x p) "extend" apos) [.Name y p'] [] cpos) pos) (aHX i k):=by
 refine⟨sY (tBM C.K "list" zQ (m7 i) (gm (m7 k) kY)),λ j=>jk (by rw[<-C.hK j];exact uB zBZ zCb zEq aBA (eF (hN j) (hv j) hd hcd) (cH (eF (hN' j) (hv' j) hd' hcd') eN (hs1 j)) (hbase j) (hfew j) hline (hs1 j) rfl) (hsw j),λ U σ H ρ lab De R W=>?_⟩;unfold aHX at W;split at W
 .rename_i ds es e1 e2
  by_cases hz:ds.length+es.length<=zAR/\dJ es=true
  .rw[if_pos hz]at W
   rcases R.sl i _ e1 with z|⟨v,ev,hv1,htop⟩
   .cases z
   rcases R.sl k _ e2 with z|⟨v2,ev2,hv2,_⟩
   .cases z
   obtain⟨a0,ea0,la0⟩:=htop rfl;subst ea0;obtain⟨a1,xs,ea1,h,mm,r⟩:=hv1.lst_inv;cases ea1;obtain⟨b,zs,eb,hb,mb,rb⟩:=hv2.lst_inv;subst eb;refine⟨.ref a0,ev,.inl ⟨rfl,xs,SqL.of h⟩,.ref b,ev2,a0,b,xs,zs,rfl,rfl,h,hb,by rw[r.length,rb.length];exact hz.1,λ H3 B h3=>?_⟩;refine W σ H3 _ (R.mut ev h rfl la0 B ⟨.lst h3 (.inr la0) ?_,λ _=>⟨a0,rfl,la0⟩⟩);exact(r.append (rb.imm hz.2)).but B h rfl λ z=>z.2 rfl
  .rw[if_neg hz]at W
   exact zAH W
 .exact zAH W
end
mutual
def gH:D->D->Bool
 | .non,.non=>true
 | .bl a,.bl b=>a==b
 | .int a,.int b=>a==b
 | .tup l,.tup m=>fJ l m
 |_,_=>false
def fJ:List D->List D->Bool
 |[],[]=>true
 |x::xs,y::ys=>gH x y&&fJ xs ys
 |_,_=>false
end
mutual
theorem aDt:∀(a b:D),gH a b=true->a=b
 | .non,b,h=>by cases b<;>simp[gH]at h;rfl
 | .bl a,b,h=>by cases b<;>simp[gH]at h;rw[h]
 | .int a,b,h=>by cases b<;>simp[gH]at h;rw[h]
 | .tup l,b,h=>by cases b<;>simp[gH]at h;rw[pW _ _ h]
 | .str _,b,h=>by simp[gH]at h
 | .lst _,b,h=>by simp[gH]at h
 | .dct _ _,b,h=>by simp[gH]at h
 | .set _,b,h=>by simp[gH]at h
 | .scr _,b,h=>by simp[gH]at h
 | .fn _,b,h=>by simp[gH]at h
theorem pW:∀(a b:List D),fJ a b=true->a=b
 |[],b,h=>by cases b<;>simp[fJ]at h;rfl
 |x::xs,b,h=>by
  cases b with
  |nil=>simp[fJ]at h
  |cons y ys=>
   simp only[fJ,zAM]at h;rw[aDt _ _ h.1,pW _ _ h.2]
end
def WK(K:zAA)(G:Gx)(U:List (V×D))(k:Nat)(v0:V)(o:Ou)(De:Ends):Prop:=match o with
 | .nx ρ=>∀σ H lab,RR K G U ρ σ H lab->σ[k]? =some (some v0)->De.nx σ H
 | .bk ρ=>∀σ H lab,RR K G U ρ σ H lab->σ[k]? =some (some v0)->De.bk σ H
 | .ct ρ=>∀σ H lab,RR K G U ρ σ H lab->σ[k]? =some (some v0)->De.ct σ H
 | .rt d=>∀v H,aV G.H0 H->Rp K (λ p=>G.H0 p=none) H v d->De.rt v H
 | .ex c=>∀H',aV G.H0 H'->G.E (.ref (G.cl c)) none H'
 | .st=>False
theorem WK.bo{K:zAA}{G:Gx}{r:Rs α}{g:α->Ou}(h:WK K G U k v0 (r.bo g) De):WR G r (λ a=>WK K G U k v0 (g a) De):=by
 cases r with
 |ok a=>exact h
 |ex c=>exact h
 |st=>exact h
def aLQ(K:zAA)(G:Gx)(k:Nat)(t:TS)(f:En->Ou):Prop:=∀U σ H ρ lab (De:Ends) (v0:V),RR K G U ρ σ H lab->σ[k]? =some (some v0)->WK K G U k v0 (f ρ) De->t De σ H
def SSk(C:Ct)(k:Nat)(s:Stmt)(f:En->Ou):Prop:=∃t,(∀i,PS (C.X i) s t)/\aLQ C.K C.G k t f
def aB7(C:Ct)(k:Nat)(s:List Stmt)(f:En->Ou):Prop:=∃t,(∀i,PSs (C.X i) s t)/\aLQ C.K C.G k t f
section
variable{C:Ct}{pos apos cpos p:Pos}{s:Stmt}{ss:List Stmt}{f g:En->Ou}{e a:Expr}{m:Mode}{fe:En->Rs D}{k i:Nat}{x:Str}
def aDb:aB7 C k [] .nx:=⟨_,λ _=>aBw,λ U σ H ρ lab De v0 R f0 W=>W σ H lab R f0⟩
def yu(h:SSk C k s f):aB7 C k [s] f:=let⟨t,h1,h2⟩:=h;⟨t,λ i=>aBv (h1 i),h2⟩
def mF(h:SSk C k s f)(kk:aB7 C k ss g):aB7 C k (s::ss) (aZ f g):=by
 obtain⟨t,h1,h2⟩:=h;obtain⟨u,k1,k2⟩:=kk;refine⟨_,λ i=>zT (h1 i) (k1 i),λ U σ H ρ lab De v0 R f0 W=>h2 U σ H ρ lab _ v0 R f0 ?_⟩;unfold aZ at W;cases h:f ρ with
 |nx ρ'=>rw[h]at W;exact λ σ' H' lab' R' f'=>k2 U σ' H' ρ' lab' De v0 R' f' W
 |rt d=>rw[h]at W;exact W
 |bk ρ'=>rw[h]at W;exact W
 |ct ρ'=>rw[h]at W;exact W
 |ex c=>rw[h]at W;exact W
 |st=>rw[h]at W;exact W
def aI8{a b:List Stmt}{c:Expr}{fc:En->Rs Bool}(hc:ST C c fc)(ha:aB7 C k a f)(hb:aB7 C k b g):SSk C k (.If c a b pos) (ifS fc f g):=by
 obtain⟨tc,c1,c2⟩:=hc;obtain⟨t,h1,h2⟩:=ha;obtain⟨u,k1,k2⟩:=hb;refine⟨_,λ i=>aIG (c1 i) (h1 i) (k1 i),λ U σ H ρ lab De v0 R f0 W=>c2 U σ H ρ lab _ R (WK.bo W |>.imp λ q _ w H1 s1=>?_)⟩;cases q with
 |true=>rw[if_pos rfl]at w ⊢;exact h2 U σ H1 ρ lab De v0 (R.up s1) f0 w
 |false=>rw[if_neg zA6]at w ⊢;exact k2 U σ H1 ρ lab De v0 (R.up s1) f0 w
def oX(h:SV C i s m fe)(hm:okS m=true:=by rfl)(hk:(k==i)=false:=by rfl):SSk C k s (cT i fe):=by
 obtain⟨t,h1,h2⟩:=h;refine⟨_,h1,λ U σ H ρ lab De v0 R f0 W=>h2 U σ H ρ lab _ R (WK.bo W |>.imp λ d _ w v H' s r=>?_)⟩;obtain⟨R',r'⟩:=R.shared hm s r;exact w _ _ _ (R'.put (s:=.sh d) r') (by rw[zBH (λ e=>by rw[e]at hk;simp at hk)];exact f0)
def aA7(i:Nat)(he:SE C m e fe)(hm:okN m=true:=by rfl)(hN:∀j,(C.X j).N[i]? =some x:=by intro _;rfl)(hv:∀j,Vis (C.X j).env.scope x:=by intro _;first|exact zB1 rfl|exact zBC (zB1 rfl)|exact zBC (zBC rfl))(hd:Nd x:=by decide)
  (hcd:(x==("__classdict__":Str))=false:=by decide)(hs1:∀j,zAW [e] (C.X j).env=[(false,eval e (C.X j).env)]:=by intro _;rfl)
  (hbase:∀j,zB7 (.Name x p) "append" (C.X j).env (eval (.Name x p) (C.X j).env)=eval (.Name x p) (C.X j).env:=by intro _;rfl)
  (hfew:∀j,((zBp cpos (zAW [e] (C.X j).env)).all (λ x=>!x.1)&&(zDK cpos (zCF [] (C.X j).env)).all (λ x=>x.1.isSome)&&decide ([e].length+([]:List zB2).length+(if ([]:List zB2).isEmpty then 0 else 1)<30))=true:=by intro _;rfl)
  (hline:(apos.endLine==cpos.line)=true:=by rfl)
  (hsw:∀j,zBl (.Call (.Attribute (.Name x p) "append" apos) [e] [] cpos) none pos.line (C.X j).env=pure false:=by intro _;rfl):
  SSk C k (.Expr (.Call (.Attribute (.Name x p) "append" apos) [e] [] cpos) pos) (j8 i fe):=by
 obtain⟨t,h1,h2⟩:=he;refine⟨sY (tBM C.K "list" o7 (m7 i) (gm t kY)),λ j=>jk (by rw[<-C.hK j];exact uB zBZ zC0 zDJ oE (eF (hN j) (hv j) hd hcd) (cH (h1 j) eN (hs1 j)) (hbase j) (hfew j) hline (hs1 j) rfl) (hsw j),λ U σ H ρ lab De v0 R f0 W=>?_⟩;unfold j8 at W;cases es:ρ[i]? with
 |none=>rw[es]at W;exact zAH W
 |some s=>
  rw[es]at W;split at W
  .rename_i ds hs
   cases hs;rcases R.sl i _ es with z|⟨v,ev,hv'⟩
   .cases z
   .obtain⟨hv1,htop⟩:=hv'
    obtain⟨a0,ea0,la0⟩:=htop rfl;subst ea0;cases hv1 with
    |lst h mm r=>
     rename_i xs;refine⟨.ref a0,ev,.inl ⟨rfl,xs,SqL.of h⟩,h2 U σ H ρ lab _ R (WK.bo W |>.imp λ d _ w y H2 s2 r2=>?_)⟩;by_cases hz:ds.length<zAR
     .rw[if_pos hz]at w
      refine⟨a0,xs,y,rfl,rfl,s2 _ _ h,by rw[r.length];exact hz,λ H3 B h3=>?_⟩;obtain⟨R',r'⟩:=R.fresh (P:=λ k=>k=1) rfl (λ k hk=>beq_iff_eq.mp (jJ hm k hk)) s2 r2;have la:(bQ H 1 lab a0).1=i+2:=by rw[bA h];exact la0
      refine w σ H3 _ (R'.mut ev (s2 _ _ h) rfl la B ⟨.lst h3 (.inr la) ?_,λ _=>⟨a0,rfl,la⟩⟩) f0;have ra:Rps C.K (λ p=>((bQ H 1 lab p).1=1\/(bQ H 1 lab p).1=i+2)/\p≠a0) H2 (xs++[y]) (ds++[d]):=by
       refine(r.mono s2 λ p o e z=>⟨by rw[bA e];exact z.1,z.2⟩).append (.cons (r'.wk λ p o e z=>⟨.inl z,λ q=>?_⟩) .nil);subst q;rw[la]at z;lia
      exact ra.but B (s2 _ _ h) rfl λ z=>z.2 rfl
     .rw[if_neg hz]at w
      exact zAH w
  .exact zAH W
def qW(k:Nat)(l:List D)(ρ:En):Bool:=match ρ[k]? with
 |some (.ow (.lst m))=>fJ m l
 |_=>false
def lX(k:Nat)(l:List D)(fg:D->En->Rs En)(b:En->Ou):List D->En->Ou
 |[],ρ=>if qW k l ρ=true then .nx ρ else .st
 |d::ds,ρ=>if qW k l ρ=true then(match fg d ρ with
  | .ok ρ1=>match b ρ1 with
   | .nx ρ2=>lX k l fg b ds ρ2
   | .ct ρ2=>lX k l fg b ds ρ2
   | .bk _=>.st
   |o=>o
  |_=>.st)else .st
def aHS(k:Nat)(fg:D->En->Rs En)(b:En->Ou):En->Ou:=λ ρ=>match ρ[k]? with
 |some (.ow (.lst l))=>if dJ l=true then lX k l fg b l ρ else .st
 |_=>.st
def aFq{tg:Expr}{ks:List Nat}{fg:D->En->Rs En}(k:Nat)(hg:SG C tg ks fg)(hb:aB7 C k ss f)(hk:k∉ks:=by decide)(hN:∀j,(C.X j).N[k]? =some x:=by intro _;rfl)(hv:∀j,Vis (C.X j).env.scope x:=by intro _;first|exact zB1 rfl|exact zBC (zB1 rfl)|exact zBC (zBC rfl))(hd:Nd x:=by decide)
  (hcd:(x==("__classdict__":Str))=false:=by decide)(hs:∀i,∀y,zB9 (.Name x p) (C.X i).env y=pure y:=by intro _ _;rfl):SS C (.For tg (.Name x p) ss [] pos) (aHS k fg f):=by
 obtain⟨gg,g1,g2,g3,g4⟩:=hg;obtain⟨tb,b1,b2⟩:=hb;refine⟨aK1 (aJo C.K (m7 k)) gg tb,λ i=>aEO (C.own i) (C.calm i) (by rw[<-C.hK i];exact aER (eF (hN i) (hv i) hd hcd)) (g1 i) (b1 i) (hs i),λ U σ H ρ lab De R W=>?_⟩;unfold aHS at W;split at W
 .rename_i l e1
  by_cases him:dJ l=true
  .rw[if_pos him]at W
   rcases R.sl k _ e1 with z|⟨v,ev,hv1,htop⟩
   .cases z
   obtain⟨a0,xs,rfl,h,mm,r⟩:=hv1.lst_inv;refine⟨.ref a0,ev,a0,rfl,.inl ⟨⟨xs,SqL.of h⟩,?_⟩⟩;refine⟨λ i n σ' H'=>∃ρ' lab',RR C.K C.G U ρ' σ' H' lab'/\σ'[k]? =some (some (.ref a0))/\n=l.length-i/\i<=l.length/\WS C.K C.G U (lX k l fg f (l.drop i) ρ') De,⟨l.length,ρ,lab,R,ev,by lia,by lia,W⟩,?_⟩;rintro i n σ' H' ⟨ρ',lab',R',f',rfl,hi,w'⟩;have own:qW k l ρ'=true->∃(P:Addr->Prop) (xs':List V),H' a0=some (.lst xs')/\Rps C.K P H' xs' l:=λ o=>by
    unfold qW at o;split at o
    .rename_i m e2
     have:=pW m l o
     subst this;rcases R'.sl k _ e2 with z|⟨v,ev',hv',_⟩
     .cases z
     rw[f']at ev';cases ev';obtain⟨a1,xs',ea,h',mm',r'⟩:=hv'.lst_inv;cases ea;exact⟨_,xs',h',r'⟩
    .cases o
   by_cases hlt:i<l.length
   .have ed2:l.drop i=l[i]::l.drop (i+1):=zBg hlt
    rw[ed2]at w';unfold lX at w';by_cases o:qW k l ρ'=true
    .rw[if_pos o]at w'
     obtain⟨P,xs',h',r'⟩:=own o;have hl:=r'.length;refine .inr ⟨⟨xs',xs'[i]'(by lia),SqL.of h',zAI (by lia)⟩,λ σ2 H2=>∃ρ2 lab2,RR C.K C.G U ρ2 σ2 H2 lab2/\σ2[k]? =some (some (.ref a0))/\WS C.K C.G U (lX k l fg f (l.drop (i+1)) ρ2) De,λ σ2 H2 ⟨ρ2,lab2,R2,f2,w2⟩=>⟨l.length-(i+1),by lia,ρ2,lab2,R2,f2,rfl,hlt,w2⟩,λ x H2 hy=>?_⟩;obtain⟨e,y⟩:=hy;subst e;obtain⟨d,ed,rd⟩:=r'.get (y xs' (SqL.of h'));rw[zAI hlt]at ed;cases ed;have rx:Rp C.K (λ p=>(lab' p).1<=1) H2 x l[i]:=rd.imm (aIR him (zCi hlt));cases eg:fg l[i] ρ' with
     |ex c=>rw[eg]at w';exact zAH w'
     |st=>rw[eg]at w';exact zAH w'
     |ok ρ1=>
      rw[eg]at w';have G:=g2 U x l[i] σ' H2 ρ' lab' (λ σ1 H1=>RR C.K C.G U ρ1 σ1 H2 lab'/\H1=H2) ρ1 R' rx eg λ σ1 R1=>⟨R1,rfl⟩
      refine g4 _ _ _ _ _ (λ σ1 H1 z=>?_) (g3 _ _ _ _ G);obtain⟨⟨R1,e⟩,_,fr⟩:=z;subst e;refine b2 U σ1 H1 ρ1 lab' _ (.ref a0) R1 ((fr k hk).trans f') ?_;dsimp only at w';cases eb:f ρ1 with
      |nx ρ2=>rw[eb]at w';exact λ σ2 H3 lab2 R2 f2=>⟨ρ2,lab2,R2,f2,w'⟩
      |ct ρ2=>rw[eb]at w';exact λ σ2 H3 lab2 R2 f2=>⟨ρ2,lab2,R2,f2,w'⟩
      |bk ρ2=>rw[eb]at w';exact zAH w'
      |rt d=>rw[eb]at w';exact w'
      |ex c=>rw[eb]at w';exact w'
      |st=>rw[eb]at w';exact w'
    .rw[if_neg o]at w'
     exact zAH w'
   .have e:i=l.length:=by lia
    subst e;rw[zD0]at w';unfold lX at w';by_cases o:qW k l ρ'=true
    .rw[if_pos o]at w'
     obtain⟨P,xs',h',r'⟩:=own o;exact .inl ⟨⟨xs',SqL.of h',by rw[r'.length];exact zAV _⟩,w' σ' H' lab' R'⟩
    .rw[if_neg o]at w'
     exact zAH w'
  .rw[if_neg him]at W
   exact zAH W
 .exact zAH W
end
def aC9(t:Tok)(a:Addr)(l:List Value)(n:Nat)(dd:Option Addr)(sl:Array (Option Value))(he:l.isEmpty=false):
  Meets (zDm.«tuple.__mul__» ⟨[.ref a,.int 0 t],[]⟩) (λ _ R s=>s.heap.get? a=some {cls:=.type "tuple",dict:=dd,data:=.seq l.toArray n,slots:=sl}/\
   R (.ok (.ret (zBF s.heap.objs.size))) {s with heap:=s.heap.push {cls:=zCV "tuple",data:=zH8 #[]}}):=by
 have c0:¬(decide ((0:Int) < -2^63)||decide ((0:Int) ≥ 2^63))=true:=by decide
 have c1:¬(l.toArray.isEmpty||(0:Int)==1)=true:=by simp only[zDu,he];simp
 have c2:(decide ((0:Int)<=0)||l.toArray.isEmpty)=true:=by simp
 refine .of_wp λ P w A R s h=>?_
 obtain⟨_,_,_,_,_⟩:=s;obtain⟨hl,h⟩:=h;wp_walk
 try rw[if_neg c0]
 wp_walk
 try rw[if_neg c1]
 wp_walk
 try rw[if_pos c2]
 wp_walk;exact⟨_,rfl,h⟩
def aC8(t:Tok)(a:Addr)(l:List Value)(n:Nat)(dd:Option Addr)(sl:Array (Option Value)):
  Meets (zDm.«tuple.__mul__» ⟨[.ref a,.int 1 t],[]⟩) (λ _ R s=>s.heap.get? a=some {cls:=.type "tuple",dict:=dd,data:=.seq l.toArray n,slots:=sl}/\
   R (.ok (.ret (zBF a))) s):=by
 have c0:¬(decide ((1:Int) < -2^63)||decide ((1:Int) ≥ 2^63))=true:=by decide
 have c1:(l.toArray.isEmpty||(1:Int)==1)=true:=by simp
 refine .of_wp λ P w A R s h=>?_
 obtain⟨_,_,_,_,_⟩:=s;obtain⟨hl,h⟩:=h;wp_walk
 try rw[if_neg c0]
 wp_walk
 try rw[if_pos c1]
 wp_walk;exact⟨_,rfl,h⟩
def aHt(K:zAA):R2:=λ x y H Q=>aEF K x y H Q\/∃a xs,x= .ref a/\SqT K H a xs/\xs≠[]/\((y= .int 0/\New H (.tup []) Q)\/(y= .int 1/\Q (.ref a) H))
def aGa:OpR X (zBd .Mult) (aHt X.K):=by
 intro hV s σ H x y v u Q I rx ry h;rcases h with h|⟨a,xs,rfl,ha,hne,h⟩
 .exact aGb hV s σ H x y v u Q I rx ry h
 .cases rx
  obtain⟨its,r,p1,_⟩:=I.tuple ha;obtain⟨⟨cls,dd,data,sl⟩,ho,hc,n,hd⟩:=id p1;simp only at hc hd;subst hc hd;have he:its.isEmpty=false:=by
   cases its with
   |nil=>exact absurd (r.nil_iff.mp rfl) hne
   |cons _ _=>rfl
  rcases h with ⟨rfl,q⟩|⟨rfl,q⟩
  .obtain⟨t,rfl⟩:=ry
   refine zCY (T:="tuple") (U:="int") (by decide) ⟨_,ho,rfl⟩ (λ s'=>zCp s' 0 t) wR zDz zBs sW zDd.lookup
    (zCK zBs (zCp s 0 t) zDc (zDZ _ _) (sX 0 t a its.toArray n dd sl)
     ⟨ho,rfl,⟨_,ho,rfl⟩,zCK zCu ⟨_,ho,rfl⟩ zEf (zE4 _ _) (aC9 t a its n dd sl he) ⟨ho,?_⟩⟩)
   refine⟨.ref s.heap.objs.size,_,I.laid (t':=s.toks) (o:=.tup []) (λ b ob q=>zAG _ q) (zAV _) ?_,rfl,q.at (I.hok.fresh (zAV _))⟩;exact⟨⟨by simp,NoD.push _⟩,_,.nil,zFp _ _⟩
  .obtain⟨t,rfl⟩:=ry
   refine zCY (T:="tuple") (U:="int") (by decide) ⟨_,ho,rfl⟩ (λ s'=>zCp s' 1 t) wR zDz zBs sW zDd.lookup
    (zCK zBs (zCp s 1 t) zDc (zDZ _ _) (sX 1 t a its.toArray n dd sl)
     ⟨ho,rfl,⟨_,ho,rfl⟩,zCK zCu ⟨_,ho,rfl⟩ zEf (zE4 _ _) (aC8 t a its n dd sl) ⟨ho,?_⟩⟩)
   exact⟨.ref a,H,I,rfl,q⟩
def aAy:D->D->Rs D
 | .tup l,.int k=>if k=0/\l.isEmpty=false then .ok (.tup [])else if k=1/\l.isEmpty=false then .ok (.tup l)else aGn (.tup l) (.int k)
 |_,_=>.st
def aG7{K:zAA}:OpS K (aHt K) aAy:=by
 intro A x y d e H Q z rx ry ez q;unfold aAy at ez;split at ez
 .split at ez
  .rename_i hc
   obtain⟨rfl,c⟩:=hc;cases ez;cases ry;cases rx with
   |tup h r=>
    refine .inr ⟨_,_,rfl,h,λ e=>?_,.inl ⟨rfl,λ p H' s hp hn=>q _ H' s (.tup (SqT.of hp) .nil)⟩⟩;subst e;cases r;cases c
  .split at ez
   .rename_i hc
    obtain⟨rfl,c⟩:=hc;cases ez;cases ry;have rx':=rx;cases rx with
    |tup h r=>
     refine .inr ⟨_,_,rfl,h,λ e=>?_,.inr ⟨rfl,q _ H (aV.refl H) (rx'.wk λ _ _ _ z=>.inr z)⟩⟩;subst e;cases r;cases c
   .exact .inl (aG8 _ _ _ _ _ _ _ _ rx ry ez q)
 .cases ez
section
variable{C:Ct}{pos:Pos}{a b:Expr}{fa fb:En->Rs D}{m1 m2:Mode}
def aFw(ha:SE C m1 a fa)(hb:SE C m2 b fb):SE C (jn m1 m2) (.BinOp a .Mult b pos) (op2 aAy fa fb):=tK (λ i=>by rw[<-C.hK i];exact aGa) aG7 ha hb
end
theorem intsAre_of:∀{vs:List Value} {ns:List Int},vs.length=ns.length->(∀(i:Nat) v,vs[i]? =some v->∃t,v= .int (ns.getD i 0) t)->zBK vs ns
 |[],[],_,_=>.nil
 |[],_::_,h,_=>by cases h
 |_::_,[],h,_=>by cases h
 |v::vs,n::ns,h,hv=>by
  obtain⟨t,e⟩:=hv 0 v rfl;have e2:v= .int n t:=e;subst e2;exact .cons _ _ (intsAre_of (by simpa using h) λ i v e=>by
   obtain⟨t,e⟩:=hv (i+1) v (by simpa using e);exact⟨t,by simpa using e⟩)
def fM(l:gX):List (Key×V):=l.map λ p=>(.inl p.1,V.int p.2)
def Inv.froze{X:Cx}{hV:hZ}{σ:L2.St}{H:Hp}{s:zAD}{a:Addr}{kvs:List (Key×V)}{o:Obj}(I:Inv X hV σ H s)(ha:H a=some (.dK kvs))(ho:s.heap.get? a=some o):Inv X hV σ (upd H a (.frz o (.dK kvs))) s:=by
 have nn:∀b,H b=none->upd H a (.frz o (.dK kvs)) b=none:=λ b e=>by rw[aW λ z=>by subst z;rw[ha]at e;cases e];exact e
 have nt:∀b xs,H b=some (.tup xs)->upd H a (.frz o (.dK kvs)) b=some (.tup xs):=λ b xs e=>by rw[aW λ z=>by subst z;rw[ha]at e;cases e];exact e
 have nf:∀b q u,H b=some (.frz q u)->upd H a (.frz o (.dK kvs)) b=some (.frz q u):=λ b q u e=>by rw[aW λ z=>by subst z;rw[ha]at e;cases e];exact e
 have no:∀b x,H b=some (.own x)->upd H a (.frz o (.dK kvs)) b=some (.own x):=λ b x e=>by rw[aW λ z=>by subst z;rw[ha]at e;cases e];exact e
 have nb:∀b ps,H b=some (.tbl ps)->upd H a (.frz o (.dK kvs)) b=some (.tbl ps):=λ b ps e=>by rw[aW λ z=>by subst z;rw[ha]at e;cases e];exact e
 refine⟨I.ok,I.os,I.bare,⟨I.base.keep,I.base.slot,λ b q e n hx=>nn b (I.base.free b q e n hx),I.base.there,λ b xs e=>nt b xs (I.base.tups b xs e),λ b q u e=>nf b q u (I.base.frzs b q u e),λ b ps e=>?_⟩,I.loc,I.cell,nn _ I.free,λ x c e=>nn _ (I.freeC x c e),λ p hp=>?_,λ b u e=>?_,I.len,λ p hp=>?_⟩
 .exact nb _ _ (I.base.tbls b ps e)
 .obtain⟨h1,h2,h3⟩:=I.pin p hp
  exact⟨h1,nn _ h2,h3⟩
 .by_cases hb:b=a
  .subst hb
   rw[ak]at e;cases e;exact⟨ho,(I.hok b _ ha).stay (λ c v _ q=>q) (λ c q=>no c b q) nt nf⟩
  .rw[aW hb]at e
   exact(I.hok b u e).stay (λ c v _ q=>q) (λ c q=>no c b q) nt nf
 .obtain⟨h1,h2,h3,h4,ps,h5,h6⟩:=I.tab p hp
  exact⟨nn _ h1,h2,h3,h4,ps,h5,h6.mono nf⟩
def vm(ks vs:List D):Option gX:=match jy ks vs with
 |some ps=>(intsOf (ps.map (·.2))).map λ js=>(ps.map (·.1)).zip js
 |none=>none
theorem aCK:∀{kvs:List (Key×V)} {is js:List Int},kvs.map (·.1)=is.map (λ i=>(zB0 i:Key))->kvs.map (·.2)=js.map V.int->kvs=fM (is.zip js)
 |[],[],[],_,_=>rfl
 |[],_::_,_,e,_=>by cases e
 |[],[],_::_,_,e=>by cases e
 |_::_,[],_,e,_=>by cases e
 |_::_,_::_,[],_,e=>by cases e
 |(k,v)::kvs,i::is,j::js,e1,e2=>by
  rw[zAC,zAC]at e1 e2;injection e1 with a1 a2
  injection e2 with b1 b2
  replace a1:k= .inl i:=a1;replace b1:v= .int j:=b1;subst a1 b1;rw[aCK a2 b2];rfl
def Rp.itm_dct{K:zAA}(r:Rp K A H v (.dct ks vs))(h:vm ks vs=some l):∃a,v= .ref a/\H a=some (.dK (fM l))/\A a:=by
 unfold vm at h;cases hp:jy ks vs with
 |none=>rw[hp]at h;cases h
 |some ps=>
  rw[hp]at h;dsimp only at h;cases hj:intsOf (ps.map (·.2))with
  |none=>rw[hj]at h;cases h
  |some js=>
   rw[hj]at h;cases h;obtain⟨a,kvs,rfl,g,m,q,hk⟩:=r.dctI_inv hp;refine⟨a,rfl,?_,m⟩;rw[cV hj]at q;have e2:=q.ints_of;have e1:kvs.map (·.1)=(ps.map (·.1)).map (λ i=>(zB0 i:Key)):=by rw[hk,zA3];rfl
   rw[aCK e1 e2]at g;exact g
theorem aIQ:∀{l:gX} {vs:List (Key×Value)} {i:Nat} {q:Int×Int},KV (fM l) vs->l[i]? =some q->∃t,vs[i]? =some ((.inl q.1:Key),zCv q.2 t)
 |[],_,_,_,_,h=>by simp at h
 |p::l,vs,i,q,r,h=>by
  unfold KV fM at r;rw[zAC]at r;cases r with
  |cons e t=>
   rename_i x vs;obtain⟨x1,x2⟩:=x;obtain⟨e1,tk,e2⟩:=e;dsimp only at e1 e2;subst e1 e2;cases i with
   |zero=>
    have:p=q:=by simpa using h
    subst this;exact⟨tk,rfl⟩
   |succ i=>
    obtain⟨t2,e⟩:=aIQ (l:=l) (i:=i) (q:=q) (show KV (fM l) _ from t) (by simpa using h);exact⟨t2,by simpa using e⟩
def Fz(H:Hp)(a:Addr)(ep:Nat)(l:gX):Prop:=∃(o:Obj) (es:Array DictEntry),o.data= .dict es ep/\H a=some (.frz o (.dK (fM l)))
def aKW(a:Addr)(ep:Nat)(l:gX):It:=
 ⟨λ i H=>i<l.length/\Fz H a ep l,λ i H x H'=>∃p q,x= .ref p/\H p=none/\H'=upd H p (.tup [.int q.1,.int q.2])/\l[i]? =some q,λ i H=>l.length<=i/\Fz H a ep l⟩
def zr{X:Cx}{hV:hZ}{σ:L2.St}{H:Hp}{s:zAD}{a:Addr}(I:Inv X hV σ H s)(h:Fz H a ep l):∃vs,KV (fM l) vs/\vs.length=l.length/\s.heap.DictAt (bO X.prog X.w) a vs ep/\(a==zCA)=false:=by
 obtain⟨o,es,hd,ha⟩:=h;obtain⟨ho,_,hsys,vs,rel,o2,es2,ep2,e2,c2,d2,r2⟩:=(show cB X.prog X.w H s.heap a (.frz o (.dK (fM l)))from I.hok a _ ha);rw[ho]at e2;cases e2;rw[hd]at d2;cases d2;exact⟨vs,rel,by have:=rel.length;rw[<-this];simp[fM],⟨o,es,ho,c2,hd,r2⟩,hsys⟩
def aA4{K:zAA}{x1:Nat}{elts:List Expr}{ps:Pos}(a it:Addr)(ep:Nat)(l:gX)(hai:a≠it):Turn P w K (.Tuple elts x1 ps) (aKW a ep l) [it] it (λ i h=>∃ok ov,IsItemIter h it a i l.length ep ok ov) where
 mem:=by simp
 obj:=λ i h st b hb=>by
  obtain⟨ok,ov,he⟩:=st
  have:b=it:=by simpa using hb
  subst this;exact⟨_,he,λ v z=>by cases z⟩
 keep:=λ i h h' st k=>let⟨ok,ov,he⟩:=st;⟨ok,ov,k it (by simp) _ he⟩
 item:=by
  intro X hP hw hK hc i hV s σ H E I hf st hg;subst hP hw hK;obtain⟨hlt,hz⟩:=hg;obtain⟨vs,rel,hW,dd,_⟩:=zr I hz;obtain⟨ok,ov,he⟩:=st;obtain⟨q,hq⟩:∃q,l[i]? =some q:=⟨l[i],by simp[hlt]⟩
  obtain⟨t,hv⟩:=aIQ rel hq;rw[<-hW]at he;refine wpAny_pyNext_items_item he dd hv λ key h' hkey ho hT hsz hk=>⟨_,rfl,?_⟩
  have ek:∃t',key= .int q.1 t':=by
   rcases b8 (k:=.inl q.1) (v:=key) hkey with ⟨j,t,e1,e2⟩|⟨y,t,e1,e2⟩
   .cases e1;exact⟨t,e2⟩
   .cases e1
  obtain⟨t',rfl⟩:=ek;have hel:it<s.heap.objs.size:=zA0 he;refine wpAny_letOwnedTupleGo_items ho λ h2 he2 hs2=>⟨.ref s.heap.objs.size,upd H s.heap.objs.size (.tup [.int q.1,.int q.2]),?_,rfl,⟨_,q,rfl,I.hok.fresh (zAV _),rfl,hq⟩,⟨_,_,by rw[<-hW];exact he2⟩,λ b hb=>?_⟩
  .exact aEx (s:=s) (h':=h2) (t':=s.toks) I hf (λ b u hb q=>(hs2.2 b λ z=>hb (by simp[z])).trans (hk b u (λ z=>hb (by simp[z])) q)) (zAV _) ⟨⟨by simp[zBo],NoD.at ((hs2.2 _ (zDs hel)).trans hT)⟩,[.int q.1 t',.int q.2 t],.cons ⟨_,rfl⟩ (.cons ⟨_,rfl⟩ .nil),_,(hs2.2 _ (zDs hel)).trans hT,rfl,_,rfl⟩
  .have:=(hf b hb).1
   rw[aW]
   .exact this
   .rintro rfl
    have q2:s.heap.objs.size=it:=by simpa using hb
    exact absurd hel (by rw[<-q2];exact zBT _)
 done:=by
  intro X hP hw hK hc i hV s σ H E I hf st hg;subst hP hw hK;obtain⟨hle,hz⟩:=hg;obtain⟨vs,rel,hW,dd,_⟩:=zr I hz;obtain⟨ok,ov,he⟩:=st;rw[<-hW]at he;obtain⟨f0,f1,f2,f3,f4,f5⟩:=hf it (by simp);exact wpAny_pyNext_items_end (I.ok.hd hc) he dd (zCc (by lia)) λ h' he'=>⟨rfl,I.turned (t':=s.toks) (λ b o hb q=>he' b o hb q) f0 f1 f3 f4 f5⟩
 self:=λ _ _ _ _ _ st h=>let⟨_,_,he⟩:=st;PySem.W.kcp_self he h
def aLI(te:TE):TI:=λ σ H R=>te σ H λ x H1=>∃a ep l,x= .ref a/\Fz H1 a ep l/\R (aKW a ep l) H1
def aES{X:Cx}{x1:Nat}{elts:List Expr}{ps apos cpos:Pos}{o:Expr}{te:TE}(ho:PE X o te)(hbase:zB7 o "items" X.env (eval o X.env)=eval o X.env:=by rfl)(hline:(apos.endLine==cpos.line)=true:=by rfl):
  PI X (.Tuple elts x1 ps) (.Call (.Attribute o "items" apos) [] [] cpos) (aLI te):=by
 intro hV s σ H R I h;refine wpAny_Call_method0_late hbase hline (thn (ho hV s σ H _ I h) λ v s1 ⟨x,H1,I1,r1,a,ep,l,ex,hz,q⟩=>?_);subst ex;cases r1;obtain⟨vs,rel,hW,dd,hsys⟩:=zr I1 hz;obtain⟨ob,es,hd,ha⟩:=hz;obtain⟨t1,t2,_⟩:=aEv I1 (.inl ⟨_,.inr ⟨ob,ha⟩⟩);refine⟨"dict","dict.items",zFE,zFG,PySem.F.type_dict_items,t1,t2,zDY rfl (PySem.evalArgs_none ?_)⟩;have dof:s1.heap.DictOf (bO X.prog X.w) a vs:=let⟨o,es,r⟩:=dd;⟨o,es,ep,r⟩
 refine zHF zFG t1 PySem.F.entry_dict_items (PySem.F.args_dict_items_1 _) (meets_dict_items (bO X.prog X.w) a hsys) ⟨⟨vs,dof⟩,?_⟩;have hlt:=dd.lt_size;refine wpAny_pyIter_items (v:=s1.heap.objs.size) (d:=a) ⟨_,zA5 _ rfl,rfl,rfl⟩ (dd.push _) ?_;have hk:∀(o1 o2:Obj) b u,s1.heap.get? b=some u->((s1.heap.push o1).push o2).get? b=some u:=λ o1 o2 b u e=>zAG _ (zAG _ e)
 have hle:∀o1:Obj,s1.heap.objs.size<=(s1.heap.push o1).objs.size:=λ o1=>by rw[zCC];exact zEO _
 refine⟨_,[_],_,aKW a ep l,H1,rfl,I1.kept (t':=s1.toks) (hk _ _),aA4 a _ ep l (zAd (zA2 hlt (hle _))),⟨.none,.none,?_⟩,λ b hb=>?_,q⟩
 .show _=_
  rw[<-hW];exact zA5 _ rfl
 .have e:b=_:=zAK.mp hb
  subst e;exact I1.fpOk (hle _) (I1.hok.fresh (hle _))
def aBQ(fo:En->Rs D):En->Rs (List D):=λ ρ=>(fo ρ).bd λ d=>match d with
 | .itm _ l=>.ok (l.map λ p=>.tup [.int p.1,.int p.2])
 |_=>.st
def Rp.itm_inv{K:zAA}(r:Rp K A H v (.itm oo l)):∃a,v= .ref a/\rD H a oo l:=by cases r with|itm h=>exact⟨_,rfl,h⟩
section
variable{C:Ct}{m:Mode}{o:Expr}{fo:En->Rs D}{elts:List Expr}{x1:Nat}{ps apos cpos:Pos}
def tH(ho:SE C m o fo)(hbase:∀j,zB7 o "items" (C.X j).env (eval o (C.X j).env)=eval o (C.X j).env:=by intro _;rfl)(hline:(apos.endLine==cpos.line)=true:=by rfl):
  SI C (.Tuple elts x1 ps) (.Call (.Attribute o "items" apos) [] [] cpos) (aBQ fo):=by
 obtain⟨t,p1,p2⟩:=ho;refine⟨aLI t,λ i=>aES (p1 i) (hbase i) hline,λ U σ H ρ lab Rr R W=>p2 U σ H ρ lab _ R (W.bd.imp λ d _ w x H1 s r=>?_)⟩;cases d with
 |itm oo l=>
  obtain⟨a,rfl,ob,es,ep,hd,_,ha⟩:=r.itm_inv;have R1:=R.up s;refine⟨a,ep,l,rfl,⟨ob,es,hd,ha⟩,w _ H1 lab [(.ref a,.itm (some ep) l)] s (λ _ _ _=>rfl) ⟨R1.len,R1.sl,R1.old,R1.new,λ z hz=>?_⟩ λ lab' H' hq=>?_⟩
  .rcases zAQ.mp hz with rfl|hz
   .exact .itm ⟨ob,es,ep,hd,.inr rfl,ha⟩
   .exact R1.tm z hz
  .have z:=hq _ (zAE ..)
   obtain⟨a',e',ob',es',ep',hd',hz',ha'⟩:=z.itm_inv;cases e';rcases hz' with hz'|hz'
   .cases hz'
   .cases hz'
    have F:Fz H' a ep l:=⟨ob',es',hd',ha'⟩;refine λ i=>⟨λ hi=>⟨by simpa using hi,F⟩,λ hi=>⟨⟨by simpa using hi,F⟩,λ x H2 y=>?_⟩⟩
    obtain⟨p,q,rfl,hp,rfl,hq2⟩:=y;exact⟨bN hp _,.tup [.int q.1,.int q.2],by rw[zAP,hq2];rfl,.tup (.inl (.inl ak)) (.cons (.int _) (.cons (.int _) .nil))⟩
 |_=>exact zAH w
end
def aB0(fd fk fz:En->Rs D):En->Rs D:=λ ρ=>(fd ρ).bd λ d=>match d with
 | .dct ks vs=>(match jy ks vs with
  |some ps=>(fk ρ).bd λ k=>(fz ρ).bd λ z=>(match k with
   | .int i=>if imm z=true then .ok ((ps.lookup i).getD z)else .st
   |_=>.st)
  |none=>.st)
 |_=>.st
section
variable{C:Ct}{m1 m2 m3:Mode}{a b c:Expr}{fa fb fc:En->Rs D}{apos cpos p:Pos}{x:Str}
def aDo(ha:SE C m1 a fa)(hb:SE C m2 b fb)(hc:SE C m3 c fc)(hm:∀j,M2 (C.X j) a "get" apos b c cpos:=by intro _;exact⟨rfl,rfl,rfl,rfl⟩):SE C m1 (.Call (.Attribute a "get" apos) [b,c] [] cpos) (aB0 fa fb fc):=by
 obtain⟨t,h1,h2⟩:=ha;obtain⟨u,k1,k2⟩:=hb;obtain⟨v,l1,l2⟩:=hc;refine⟨aD4 t u v,λ i=>aEX (by have:=(C.room i).un;lia) (h1 i) (k1 i) (l1 i) (hm i),λ U σ H ρ lab Q R W=>?_⟩;refine h2 U σ H ρ lab _ R (W.bd.imp λ d _ w x H1 s1 r1=>?_);cases d with
 |dct ks vs=>
  dsimp only at w;cases hp:jy ks vs with
  |none=>rw[hp]at w;exact zAH w
  |some ps=>
   rw[hp]at w;dsimp only at w;obtain⟨a,kvs,rfl,g1,m,r,hk⟩:=r1.dctI_inv hp;refine⟨a,rfl,.inl ⟨_,.inl g1⟩,?_⟩;refine k2 U σ H1 ρ lab _ (R.up s1) (w.bd.imp λ e _ w y H2 s2 r2=>?_);refine l2 U σ H2 ρ lab _ ((R.up s1).up s2) (w.bd.imp λ z _ w zv H3 s3 r3=>?_);cases e with
   |int i=>
    dsimp only at w;by_cases hz:imm z=true
    .rw[if_pos hz]at w
     have ey:=r2.int_inv;subst ey;have g3:H3 a=some (.dK kvs):=(s2.trans s3) _ _ g1;rcases aDY (r.up (s2.trans s3)) hk i with ⟨d,v,e1,e2,e3⟩|⟨e1,e2⟩
     .rw[e1]at w
      have g:=vA.k (k:=.inl i) g3;rw[e2]at g;exact⟨some v,g,w v H3 ((s1.trans s2).trans s3) (e3.wk λ p o _ q=>q.1)⟩
     .rw[e1]at w
      have g:=vA.k (k:=.inl i) g3;rw[e2]at g;exact⟨none,g,w zv H3 ((s1.trans s2).trans s3) (r3.imm hz)⟩
    .rw[if_neg hz]at w
     exact zAH w
   |_=>exact zAH w
 |_=>exact zAH w
end
def aBG:List (zGV×zGV)->Option gX
 |[]=>some []
 |(.int a,.int b)::r=>(aBG r).map ((a,b)::·)
 |_=>none
theorem zN{P:zAU}{w:World}:∀{vs:List (Value×Value)} {D:List (zGV×zGV)} {l:gX},ReadAs vs D->aBG D=some l->∃kvs:List (Key×Value),Carries (bO P w) vs kvs/\KV (fM l) kvs
 |_,_,l,.nil,h=>by cases h;exact⟨[],trivial,.nil⟩
 |_,_,l,.cons (dk:=dk) (dv:=dv) fk fv fr,h=>by
  cases dk with
  |int a=>
   cases dv with
   |int b=>
    simp only[aBG,zB3]at h;obtain⟨m,hm,rfl⟩:=h;obtain⟨t,rfl⟩:=fk.int_inv;obtain⟨t',rfl⟩:=fv.int_inv;obtain⟨kvs,c,kv⟩:=zN (P:=P) (w:=w) fr hm;exact⟨(.inl a,.int b t')::kvs,⟨zm (k:=.inl a) ⟨t,rfl⟩,rfl,c⟩,.cons ⟨rfl,t',rfl⟩ kv⟩
   |_=>simp[aBG]at h
  |_=>simp[aBG]at h
def aHk(l:gX):TE:=λ _ H Q=>∀p,H p=none->Q (.ref p) (upd H p (.dK (fM l)))
def aG0{X:Cx}{keys:List (Option Expr)}{values:List Expr}{pos:Pos}{D:List (zGV×zGV)}{l:gX}(hD:litPairs keys values=some D)(hl:aBG D=some l)(hn:(l.map (·.1)).Nodup)(hz:l.length<=15)
  (iX:keys.all (·.isSome)=true)(hkl:keys.length=values.length)(h0:keys≠[])(hW:keys.length<=15):PE X (.Dict keys values pos) (aHk l):=by
 intro hV s σ H Q I h;refine wpAny_Dict_walk (knd:=bO X.prog X.w) iX hkl h0 hW (evalPairs_lits keys values D _ _ hD λ vs tk fr=>?_);obtain⟨kvs,c,kv⟩:=zN (P:=X.prog) (w:=X.w) fr hl;have hk1:kvs.map (·.1)=(fM l).map (·.1):=KV.at kv;have hnd:(kvs.map (·.1)).Nodup:=by
  rw[hk1];unfold fM;rw[zA3]
  show(l.map λ p=>(zB0 p.1:Key)).Nodup
  rw[show(l.map λ p=>(zB0 p.1:Key))=(l.map (·.1)).map zB0 by rw[zA3];rfl];exact zHk _ (λ x y q e=>q (zHX e)) hn
 refine⟨kvs,c,zFn _,λ h' hm hs=>?_⟩;rw[merged_nil_of_nodup _ hnd]at hm;refine⟨.ref s.heap.objs.size,_,I.laid (a:=s.heap.objs.size) (o:=.dK (fM l)) (h':=h') (t':=tk+vs.length) (λ b u e=>(hs.2 b (zAd (zA0 e))).trans (zAG _ e)) (zAV _) ?_,rfl,h _ (I.hok.fresh (zAV _))⟩;exact⟨by rw[fM,zAF];exact zAf hz (by decide),beq_eq_false_iff_ne.mpr (zCX (zAd I.big)),kvs,kv,hm⟩
def iw(l:gX):D:=aB2 (l.map λ p=>(p.1,.int p.2))
def aBr{K:zAA}{A:Addr->Prop}(h:H a=some (.dK (fM l)))(m:A a):Rp K A H (.ref a) (iw l):=by
 refine aCZ h m ?_ ?_
 .unfold fM
  rw[zA3,zA3];clear h m;induction l with
  |nil=>exact .nil
  |cons p l ih=>exact .cons (.int _) ih
 .unfold fM
  rw[zA3,zA3];rfl
section
variable{C:Ct}{pos:Pos}
def aBn{keys:List (Option Expr)}{values:List Expr}(l:gX){D:List (zGV×zGV)}(hD:litPairs keys values=some D:=by rfl)(hl:aBG D=some l:=by rfl)(hn:(l.map (·.1)).Nodup:=by decide)(hz:l.length<=15:=by decide)
  (iX:keys.all (·.isSome)=true:=by rfl)(hkl:keys.length=values.length:=by rfl)(h0:keys≠[]:=by simp)(hW:keys.length<=15:=by decide):SE C (some []) (.Dict keys values pos) (cD (iw l)):=
 ⟨aHk l,λ _=>aG0 hD hl hn hz iX hkl h0 hW,λ U σ H ρ lab Q R W p hp=>W _ _ (bN hp _) (aBr ak (.inl hp))⟩
end
end VL
namespace L2
open PySem PySem.Spec PyProof.Rows
end L2
namespace VL
open PySem PySem.Spec PyProof.Rows L2
structure aLo(ks:List D):Prop where
 nd:aR ks=true
 dp:bY ks<=40
 cm:∀x∈ks,∀y∈ks,(lsD x y).isSome=true
instance:Decidable (aLo ks):=if h:aR ks=true/\bY ks<=40/\∀x∈ks,∀y∈ks,(lsD x y).isSome=true then .isTrue ⟨h.1,h.2.1,h.2.2⟩else .isFalse λ z=>h ⟨z.nd,z.dp,z.cm⟩
structure aLp(f:D->D->Option Bool)(l:List D):Prop where
 im:dJ l=true
 nd:aR l=true
 dp:bY l<=40
 cm:∀x∈l,∀y∈l,(f x y).isSome=true
instance:Decidable (aLp f l):=if h:dJ l=true/\aR l=true/\bY l<=40/\∀x∈l,∀y∈l,(f x y).isSome=true then .isTrue ⟨h.1,h.2.1,h.2.2.1,h.2.2.2⟩else .isFalse λ z=>h ⟨z.im,z.nd,z.dp,z.cm⟩
def gr(f:En->Rs D):En->Rs D:=λ ρ=>(f ρ).bd λ d=>match d with
 | .dct ks vs=>(match vm ks vs with
  |some l=>.ok (.itm none l)
  |none=>.st)
 |_=>.st
section
variable{C:Ct}{e a b:Expr}{f fa fb:En->Rs D}{m1 m2:Mode}{pos p:Pos}
def g8(h:SE C (some []) e f):SE C (some []) e (gr f):=by
 obtain⟨t,h1,h2⟩:=h;refine⟨λ σ H Q=>t σ H λ x H1=>∃a kvs,x= .ref a/\H1 a=some (.dK kvs)/\∀o es ep,o.data= .dict es ep->Q x (upd H1 a (.frz o (.dK kvs))),λ j hV s σ H Q I h=>?_,λ U σ H ρ lab Q R W=>?_⟩
 .refine thn (h1 j hV s σ H _ I h) λ v s1 ⟨x,H1,I1,r1,a,kvs,ex,ha,q⟩=>?_
  obtain⟨_,_,vs,_,ob,es,ep,e,_,hdat,_⟩:=aIT I1.hok ha;exact⟨x,_,Inv.froze I1 ha e,r1,q ob es ep hdat⟩
 .refine h2 U σ H ρ lab _ R (W.bd.imp λ d _ w x H1 s1 r1=>?_)
  cases d with
  |dct ks vs=>
   dsimp only at w;cases hl:vm ks vs with
   |none=>rw[hl]at w;exact zAH w
   |some l=>
    rw[hl]at w;obtain⟨a,rfl,g,ma⟩:=r1.itm_dct hl;have hn:H a=none:=by
     rcases ma with z|z
     .exact z
     .cases z
    refine⟨a,fM l,rfl,g,λ o es ep hd=>w _ _ (λ b q hb=>?_) (.itm ⟨o,es,ep,hd,.inl rfl,ak⟩)⟩;rw[aW λ z=>by rw[z,hn]at hb;cases hb];exact s1 b q hb
  |_=>exact zAH w
def aEs:D->D->Rs D
 | .itm _ l,.int i=>match l.lookup i with
  |some j=>.ok (.int j)
  |none=>.st
 |_,_=>.st
theorem aKX:∀{l:gX} {i j:Int},l.lookup i=some j->mZ (fM l) (.inl i)=some (.int j)
 |[],_,_,h=>by cases h
 |(a,b)::l,i,j,h=>by
  rw[zAh]at h;by_cases c:a=i
  .subst c
   simp at h;subst h;exact kJ rfl
  .have c1:(i==a)=false:=by simpa using λ z=>c z.symm
   rw[c1]at h;show mZ ((zB0 a,V.int b)::fM l) (.inl i)=_;rw[kO (by simpa using c)];exact aKX h
def aIe(ha:SE C m1 a fa)(hb:SE C m2 b fb)(hp:sJ b:=by exact λ _ _=>rfl):SE C (some []) (.Subscript a b pos) (op2 aEs fa fb):=by
 obtain⟨t,h1,h2⟩:=ha;obtain⟨u,k1,k2⟩:=hb;refine⟨tOp aLd t u,λ i=>aG1 (by have:=(C.room i).un;lia) (h1 i) (k1 i) hp,λ U σ H ρ lab Q R W=>?_⟩;refine h2 U σ H ρ lab _ R (W.bd.imp λ d _ w x H1 s1 r1=>?_);refine k2 U σ H1 ρ lab _ (R.up s1) (w.bd.imp λ e _ w y H2 s2 r2=>?_);obtain⟨z,ez,wz⟩:=w.okD;cases d with
 |itm oo l=>
  cases e with
  |int i=>
   unfold aEs at ez;dsimp only at ez;cases hl:l.lookup i with
   |none=>rw[hl]at ez;cases ez
   |some j=>
    rw[hl]at ez;cases ez;have ey:=r2.int_inv;subst ey;obtain⟨p,rfl,o,es,ep,hd,_,ha⟩:=(r1.up s2).itm_inv;have g:vA H2 p (.int i) (mZ (fM l) (.inl i)):=.inl ⟨fM l,.inl i,.inr ⟨o,ha⟩,rfl,rfl⟩;rw[aKX hl]at g;exact⟨p,.int j,rfl,g,wz _ H2 (s1.trans s2) (.int j)⟩
  |_=>cases ez
 |_=>cases ez
def aB3:List D->Rs D
 |[.itm _ l]=>if l.length<=zAR then .ok (aB2 (l.map λ p=>(p.1,.int p.2)))else .st
 |_=>.st
def aKg:List V->Hp->VK->Prop:=λ xs H Q=>∃a ep l,xs=[.ref a]/\Fz H a ep l/\l.length<=zAR/\∀c,H c=none->Q (.ref c) (upd H c (.dK (fM l)))
def aF2{X:Cx}:cR X (.type "dict") aKg:=by
 intro hV s σ H xs us Q I r h;obtain⟨a,ep,l,rfl,hz,hl,q⟩:=h;obtain⟨u,rfl,ru⟩:=vals1 r;cases ru;obtain⟨vs,rel,hW,dd,hsys⟩:=zr I hz;have dof:s.heap.DictOf (bO X.prog X.w) a vs:=let⟨o,es,r⟩:=dd;⟨o,es,ep,r⟩
 have hfr:H s.heap.objs.size=none:=I.hok.fresh (zAV _);exact kt_call_dict hsys dof (by rw[hW];exact hl) λ h' hd hs=>⟨.ref s.heap.objs.size,upd H s.heap.objs.size (.dK (fM l)),I.laid (t':=s.toks) (h':=h') (λ b u e=>(hs.2 b (zAd (zA0 e))).trans (zAG _ e)) (zAV _) ⟨by rw[fM,zAF];exact hl,beq_eq_false_iff_ne.mpr (zCX (zAd I.big)),vs,rel,hd⟩,rfl,q _ hfr⟩
def aKI{K:zAA}:aC5 K aKg aB3:=by
 intro A xs ds H Q z r ez q;unfold aB3 at ez;split at ez
 .split at ez
  .rename_i hl
   cases ez;obtain⟨v,rfl,h⟩:=r.one_inv;obtain⟨a,rfl,o,es,ep,hd,_,ha⟩:=h.itm_inv;exact⟨a,ep,_,rfl,⟨o,es,hd,ha⟩,hl,λ c hc=>q _ _ (bN hc _) (aBr ak hc)⟩
  .cases ez
 .cases ez
end
def aHv:List V->Hp->VK->Prop:=λ xs H Q=>∃(p:Addr) (ep:Nat) (l:gX) (m:Int),xs=[.ref p]/\Fz H p ep l/\(l.map (·.1)).max?=some m/\Q (.int m) H
def aDL{X:Cx}(hc:X.calm=true):cR X (.builtin "max") aHv:=by
 intro hV s σ H xs us Q I r h;obtain⟨p,ep,l,m,rfl,hz,hm,q⟩:=h;obtain⟨u,rfl,ru⟩:=vals1 r;cases ru;obtain⟨vs,rel,hln,hda,hd⟩:=zr I hz;obtain⟨ns,hns⟩:∃ns,ns=l.map (·.1):=⟨_,rfl⟩
 rw[<-hns]at hm;have hk:(fM l).map (·.1)=ns.map (λ n=>(zB0 n:Key)):=by rw[hns,fM,zA3,zA3];rfl
 have hlt:=hda.lt_size;have hvk:vs.map (·.1)=ns.map (λ n=>(zB0 n:Key)):=(KV.at rel).trans hk;have hW:vs.length=ns.length:=by have:=congrArg zEH hvk;simpa using this
 have hsz:0<vs.length:=by
  rw[hW];cases ns with
  |nil=>cases hm
  |cons a b=>simp
 have hat:∀(i:Nat) v,(∃k x,vs[i]? =some (k,x)/\(bO X.prog X.w).is k v=true)->∃t,v= .int (ns.getD i 0) t:=λ i v ⟨k,x,e,hv⟩=>by
  have h1:(vs.map (·.1))[i]? =some k:=by rw[zAP,e];rfl
  rw[hvk,zAP]at h1;cases hn:ns[i]? with
  |none=>rw[hn]at h1;cases h1
  |some n=>
   rw[hn]at h1
   have:k=zB0 n:=(zAg h1).symm
   subst this;rcases b8 (k:=.inl n) (v:=v) hv with ⟨j,t,e1,e2⟩|⟨y,t,e1,e2⟩
   .cases e1;exact⟨t,by rw[e2,zBG,hn];rfl⟩
   .cases e1
 refine call_max_walk (wpAny_pyIter_dict hd hda ?_);refine⟨_,_,_,_,_,_,_,rfl,Walks.dictKeys (knd:=bO X.prog X.w) (A:=X.A.in1) (I.ok.hd hc) _ p (zAd hlt) vs ep,⟨⟨_,zA5 _ rfl,rfl,rfl⟩,hda.push _⟩,λ b hb=>?_,hsz,CmpOf.ints_gt (λ i=>ns.getD i 0) hat,λ v h' tk hv hk=>?_⟩
 .show b<(s.heap.push _).objs.size
  rw[zCC];simp only[zAQ,zD2,or_false]at hb;rcases hb with e|e<;>subst e
  .exact zCm _
  .exact Nat.lt_succ_of_lt hlt
 obtain⟨t,rfl⟩:=hat _ v hv;obtain⟨h1,h2⟩:=argBest_gt (λ i=>ns.getD i 0) (vs.length-1);have hM:ns.max?=some (ns.getD (argBest (λ i j=>decide (ns.getD i 0>ns.getD j 0)) (vs.length-1)) 0):=by
  rw[zBb];refine⟨getD_mem (by lia),λ a ha=>?_⟩;obtain⟨j,hj,rfl⟩:=mem_getD ha;exact h2 j (by lia)
 rw[hm]at hM;injection hM with hM
 refine⟨.int m,H,I.kept λ b o e=>hk b o (λ z=>?_) (zAG _ e),⟨t,by rw[hM]⟩,q⟩;rw[zAK]at z;exact absurd (z▸zA0 e) (zBT _)
def qd:List D->Rs D
 |[.itm _ l]=>match (l.map (·.1)).max? with
  |some m=>.ok (.int m)
  |none=>.st
 |_=>.st
def aH1{K:zAA}:aC5 K aHv qd:=by
 intro A xs ds H Q z r ez q;unfold qd at ez;split at ez
 .rename_i oo l
  cases hm:(l.map (·.1)).max? with
  |none=>rw[hm]at ez;cases ez
  |some m=>
   rw[hm]at ez;cases ez;obtain⟨v,rfl,h⟩:=r.one_inv;obtain⟨a,rfl,o,es,ep,hd,_,ha⟩:=h.itm_inv;exact⟨a,ep,l,m,rfl,⟨o,es,hd,ha⟩,hm,q _ H (aV.refl H) (.int m)⟩
 .cases ez
section
variable{C:Ct}{a:Expr}{m:Mode}{ga:En->Rs (List D)}{pos p:Pos}
def aIf(hm:C.mg "dict"=none)(ha:SA C m [a] ga)(he:∀i,zAW [a] (C.X i).env=[(false,eval a (C.X i).env)]:=by intro _;rfl)(hg:∀i,Gl (C.X i) "dict":=by intro _;rfl)(hv:zAq "dict"=some (.type "dict"):=by decide+kernel):SE C (some []) (.Call (.Name "dict" p) [a] [] pos) (opA aB3 ga):=by
 obtain⟨t,h1,h2⟩:=ha;exact⟨_,λ i=>iD aF2 (hg i) (by rw[(C.cx i).2.2.2.1];exact hm) hv (h1 i) (by decide) (by decide) (he i) rfl,w5 aKI h2⟩
def aFy(hm:C.mg "max"=none)(ha:SA C m [a] ga)(he:∀i,zAW [a] (C.X i).env=[(false,eval a (C.X i).env)]:=by intro _;rfl)(hg:∀i,Gl (C.X i) "max":=by intro _;rfl)(hv:zAq "max"=some (.builtin "max"):=by decide+kernel):SE C (some []) (.Call (.Name "max" p) [a] [] pos) (opA qd ga):=by
 obtain⟨t,h1,h2⟩:=ha;exact⟨_,λ i=>lH (aDL (C.calm i)) (hg i) (by rw[(C.cx i).2.2.2.1];exact hm) hv (h1 i) (by decide) (by decide) (he i) rfl,w5 aH1 h2⟩
end
section
variable{prog:zAU}{w:World}{A:zA8}{E:Value->zAD->Prop}{s:zAD}
theorem wH{it t:Addr}{items:Array Value}(hne:t≠it):∀(n i:Nat) (s:zAD) (Q:List Value->zAD->Prop),s.heap.IsListIter it t i->s.heap.IsList t items->i+n<=items.size->
  (∀h',h'.IsListIter it t (i+n)->zE5 it s.heap h'->Q ((items.toList.drop i).take n) {s with heap:=h'})->wpAny (model prog w) A (draw (.ref it) n) Q E s
 |0,i,s,Q,hit,_,_,hQ=>by
  show wpAny _ _ (pure []) Q E s;exact zAr (by simpa using hQ s.heap hit (Heap.SameBut.refl ..))
 |n+1,i,s,Q,hit,ht,hle,hQ=>by
  have hlt:i<items.size:=by lia
  show wpAny _ _ (pyNext (.ref it)>>=_) Q E s;refine zAY (zGm hit ht (x:=items[i]) (by simp[hlt]) λ zD hit₁ y6=>?_);have ht1:zD.IsList t items:=by
   obtain⟨o,ho,r⟩:=ht;exact⟨o,(y6.2 t hne).trans ho,r⟩
  refine zAY (zBm (wH hne n (i+1) _ _ hit₁ ht1 (by lia) λ y9 hit₂ hs₂=>zAr ?_));have hd:items.toList.drop i=items[i]::items.toList.drop (i+1):=by simp[zBg,hlt]
  have:=hQ y9 (by rw[show i+(n+1)=i+1+n by lia];exact hit₂) (y6.trans hs₂)
  rw[hd,List.take_succ_cons]at this;exact this
def yp{t:Addr}{items:Array Value}{targets:List (Bool×(Value->Sem Unit))}{Q:Unit->zAD->Prop}(hh:A.handled=none)(ht:s.heap.IsList t items)
  (hn:targets.length=items.size)(hstar:targets.findIdx? (·.1)=none)
  (h:∀h',(∀b o,s.heap.get? b=some o->h'.get? b=some o)->wpAny (model prog w) A (assignInOrder (targets.map (·.2)) items.toList) Q E {s with heap:=h'}):
  wpAny (model prog w) A (unpack (.ref t) targets) Q E s:=by
 have hlt:t≠s.heap.objs.size:=by obtain⟨o,ho,_⟩:=ht;exact zAd (zA0 ho)
 unfold unpack;rw[hn,hstar];refine zAY (zBm ?_);unfold unpackItems;refine zAY ?_;unfold notIterableAtAll;refine zAY (wpAny_specialOf ht.typeIs slot_list_iter.lookup ?_);refine zAr ?_;simp only[zCZ,if_false];refine zAY (zBm (zFW ht ?_));have htp:(s.heap.push {cls:=.type "list_iterator",data:=.fields #[.ref t,.int 0 0]}).IsList t items:=by
  obtain⟨o,ho,r⟩:=ht;exact⟨o,zAG _ ho,r⟩
 refine zAY (zBm (wH hlt items.size 0 _ _ ⟨_,zA5 _ rfl,rfl,rfl⟩ htp (by lia) λ zD hit₁ y6=>?_));have iX:List.take items.size (List.drop 0 items.toList)=items.toList:=by
  rw[zHU];exact zD7 (by simp)
 rw[iX];rw[if_neg (by simp)];have ht₁:zD.IsList t items:=by
  obtain⟨o,ho,r⟩:=htp;exact⟨o,(y6.2 t hlt).trans ho,r⟩
 refine zAY (zBm (zHK hh hit₁ ht₁ (by simp) λ y9 he₂=>?_));simp only[Option.isSome_none,zCZ,if_false];refine zAr (h y9 λ b o e=>?_);have hb:b≠s.heap.objs.size:=zAd (zA0 e);exact he₂ b o hb ((y6.2 b hb).trans (zAG _ e))
end
def aLK(K:zAA)(n:Nat)(t:TGs):TG:=λ v σ H Q=>∃a xs,v= .ref a/\SqL K H a xs/\xs.length=n/\t xs σ H Q
def aJE{X:Cx}{es:List Expr}{k:Nat}{t:TGs}{n:Nat}{pos:Pos}(hc:X.calm=true)(h:PGs X es t)
  (hn:(zBV es X.env).length=n:=by rfl)(hst:(zBV es X.env).findIdx? (·.1)=none:=by rfl):PG X (.Tuple es k pos) (aLK X.K n t):=by
 intro hV s σ H v u Q I r hw;obtain⟨a,xs,e1,hq,hl,hw⟩:=hw;subst e1;cases r;obtain⟨its,rv,ht,hz⟩:=I.list hq;rw[assign_Tuple];refine zAY (zEm (yp (I.ok.hd hc) ht.isList (by simp[hn,<-hl,rv.length]) hst λ h' hx=>?_));have I1:Inv X hV σ H {s with heap:=h'}:=I.kept (t':=s.toks) hx;exact h hV _ σ H xs _ Q I1 (by simpa using rv) hw
def aKN(n:Nat)(fe:En->Rs D)(fg:List D->En->Rs En):En->Ou:=λ ρ=>(fe ρ).bo λ d=>match d with
 | .lst ds=>if ds.length=n/\dJ ds=true then(match fg ds ρ with
  | .ok ρ'=>.nx ρ'
  |_=>.st)else .st
 |_=>.st
section
variable{C:Ct}{e:Expr}{tgs:List Expr}{ks:List Nat}{m:Mode}{fe:En->Rs D}{fgs:List D->En->Rs En}{pos pos2:Pos}{k n:Nat}
def aFr(he:SE C m e fe)(h:SGs C tgs ks fgs)(hn:∀i,(zBV tgs (C.X i).env).length=n:=by intro _;rfl)(hst:∀i,(zBV tgs (C.X i).env).findIdx? (·.1)=none:=by intro _;rfl)(hs:∀i,zEj [.Tuple tgs k pos2] e pos.line (C.X i).env=pure false:=by intro _;rfl)(hw:∀i,zEi [.Tuple tgs k pos2] e (C.X i).env=pure none:=by intro _;rfl)
  (h1:∀i,(zBV [.Tuple tgs k pos2] (C.X i).env).map (·.2)=[zDw (.Tuple tgs k pos2) (C.X i).env]:=by intro _;rfl):SS C (.Assign [.Tuple tgs k pos2] e pos) (aKN n fe fgs):=by
 obtain⟨t,p1,p2⟩:=he;obtain⟨u,k1,k2,_,_⟩:=h;refine⟨aA6 t (aLK C.K n u),λ i=>aAp (p1 i) (by rw[<-C.hK i];exact aJE (C.calm i) (k1 i) (hn i) (hst i)) (hs i) (hw i) (h1 i),λ U σ H ρ lab De R W=>p2 U σ H ρ lab _ R (W.bo.imp λ d _ w v H' s r=>?_)⟩;cases d with
 |lst ds=>
  dsimp only at w;by_cases hc:ds.length=n/\dJ ds=true
  .rw[if_pos hc]at w
   obtain⟨a,xs,rfl,g,_,rr⟩:=r.lst_inv;cases hg:fgs ds ρ with
   |ok ρ'=>
    rw[hg]at w;exact⟨a,xs,rfl,SqL.of g,by rw[rr.length];exact hc.1,k2 U xs ds σ H' ρ lab _ ρ' (R.up s) (rr.imm hc.2) hg λ σ' R2=>w σ' H' _ R2⟩
   |ex c=>rw[hg]at w;exact zAH w
   |st=>rw[hg]at w;exact zAH w
  .rw[if_neg hc]at w
   exact zAH w
 |_=>exact zAH w
end
section
variable{ρ:En}{i:Nat}{f g:En->Rs D}{fb gb:En->Rs Bool}{ga:En->Rs (List D)}{u v:En->Ou}{d:D}
@[simp] def varD_ap:dC i ρ=match ρ[i]? with
 |some (.sh d)=>.ok d
 |some (.nw d)=>.ok d
 |some (.ow d)=>.ok d
 |some (.oz d)=>.ok d
 |some (.o2 l)=>.ok (.lst (l.map .lst))
 |_=>.st:=aN rfl
@[simp] def aFj:aD i ρ=match ρ[i]? with
 |some (.sh d)=>.ok d
 |some (.nw d)=>.ok d
 |_=>.st:=aN rfl
@[simp] def varN_ap:kE i ρ=match ρ[i]? with
 |some (.nw d)=>.ok d
 |_=>.st:=aN rfl
@[simp] def varO_ap:rE i ρ=match ρ[i]? with
 |some (.ow d)=>.ok d
 |some (.o2 l)=>.ok (.lst (l.map .lst))
 |_=>.st:=aN rfl
@[simp] def cD_ap:cD d ρ= .ok d:=aN rfl
@[simp] def aCD:aH ρ= .ok []:=aN rfl
@[simp] def bH:aC f ga ρ=(f ρ).bd λ d=>(ga ρ).bd λ ds=>.ok (d::ds):=aN rfl
@[simp] def szl:zAR=16777216:=zBo
@[simp] def aBb:dI ga ρ=(ga ρ).bd λ ds=>if ds.length<=16777216 then .ok (.tup ds)else .st:=by unfold dI;rw[szl]
@[simp] def lstD_ap:gJ ga ρ=(ga ρ).bd λ ds=>if ds.length<=16777216 then .ok (.lst ds)else .st:=by unfold gJ;rw[szl]
@[simp] def uH:okD (.ok d)= .ok d:=aN rfl
@[simp] def lK:op2 fd f g ρ=(f ρ).bd λ x=>(g ρ).bd λ y=>okD (fd x y):=aN rfl
@[simp] def op1_ap:op1 fd f ρ=(f ρ).bd λ x=>okD (fd x):=aN rfl
@[simp] def jm:opA fd ga ρ=(ga ρ).bd λ x=>okD (fd x):=aN rfl
@[simp] def j7:aP F ga ρ=(ga ρ).bd F:=aN rfl
def aKO(d:D)(r:Rs D):Rs D:=match d with
 | .bl true=>r
 | .bl false=>.ok (.bl false)
 |_=>.st
def orR(d:D)(r:Rs D):Rs D:=match d with
 | .bl false=>r
 | .bl true=>.ok (.bl true)
 |_=>.st
@[simp] def aC3:aKO (.bl b) r=if b=true then r else .ok (.bl false):=by cases b<;>rfl
@[simp] def orR_bl:orR (.bl b) r=if b=true then .ok (.bl true)else r:=by cases b<;>rfl
@[simp] def yd:vP f g ρ=(f ρ).bd λ d=>aKO d (g ρ):=aN rfl
@[simp] def orD_ap:orD f g ρ=(f ρ).bd λ d=>orR d (g ρ):=aN rfl
@[simp] def notD_bl:aJ7 (.bl b)= .ok (.bl (!b)):=aN rfl
@[simp] def ifD_ap:ifD fb f g ρ=(fb ρ).bd λ k=>if k=true then f ρ else g ρ:=aN rfl
def chR(d:D)(r:Rs D):Rs D:=match d with
 | .bl true=>r
 | .bl false=>.ok (.bl false)
 |_=>.st
@[simp] def chR_bl:chR (.bl b) r=if b=true then r else .ok (.bl false):=by cases b<;>rfl
@[simp] def chD_ap:chD fd fd' f g h ρ=(f ρ).bd λ x=>(g ρ).bd λ y=>(okD (fd x y)).bd λ z=>chR z ((h ρ).bd λ w=>okD (fd' y w)):=aN rfl
@[simp] def truD_bl:aI2 (.bl b)= .ok b:=aN rfl
@[simp] def blD_bl:blD (.bl b)= .ok b:=aN rfl
@[simp] def tst_ap:tst f ρ=(f ρ).bd aI2:=aN rfl
@[simp] def aD1:tsb f ρ=(f ρ).bd blD:=aN rfl
@[simp] def andT_ap:aH8 fb gb ρ=(fb ρ).bd λ k=>if k=true then gb ρ else .ok false:=aN rfl
@[simp] def orT_ap:orT fb gb ρ=(fb ρ).bd λ k=>if k=true then .ok true else gb ρ:=aN rfl
@[simp] def notT_ap:uI fb ρ=(fb ρ).bd λ k=>.ok (!k):=aN rfl
@[simp] def aK:aZ u v ρ=(u ρ).sq v:=aN rfl
@[simp] def ji:retS f ρ=(f ρ).bo .rt:=aN rfl
@[simp] def dropS_ap:uq f ρ=(f ρ).bo λ _=>.nx ρ:=aN rfl
@[simp] def jq:ifS fb u v ρ=(fb ρ).bo λ k=>if k=true then u ρ else v ρ:=aN rfl
@[simp] def jf:cT i f ρ=(f ρ).bo λ d=>.nx (ρ.set i (.sh d)):=aN rfl
@[simp] def aFu:oY i f ρ=(f ρ).bo λ d=>.nx (ρ.set i (.nw d)):=aN rfl
@[simp] def setO_ap:di i f ρ=(f ρ).bo λ d=>.nx (ρ.set i (.ow d)):=aN rfl
@[simp] def oH:gnm i d ρ= .ok (ρ.set i (.sh d)):=aN rfl
@[simp] def gnil_nil:gP [] ρ= .ok ρ:=aN rfl
@[simp] def gcons_cons:au a b (d::ds) ρ=(a d ρ).bd (b ds):=aN rfl
@[simp] def gtup_tup:gO n b (.tup ds) ρ=if ds.length=n then b ds ρ else .st:=aN rfl
def nxO(r:Rs En):Ou:=match r with
 | .ok ρ=>.nx ρ
 |_=>.st
@[simp] def nxO_ok:nxO (.ok ρ)= .nx ρ:=aN rfl
@[simp] def aH7:aB5 f a ρ=(f ρ).bo λ d=>nxO (a d ρ):=aN rfl
@[simp] def itD_tup:itD (.tup l)= .ok l:=aN rfl
@[simp] def itD_lst:itD (.lst l)= .ok l:=aN rfl
@[simp] def aGz:cM f ρ=(f ρ).bd itD:=aN rfl
@[simp] def cI:gh ga a u ρ=(ga ρ).bo λ ds=>forL a u ds ρ:=aN rfl
@[simp] def forL_nil:forL a u [] ρ= .nx ρ:=aN rfl
noncomputable def Ou.tn(o:Ou)(k:En->Ou):Ou:=match o with
 | .nx ρ2=>k ρ2
 | .ct ρ2=>k ρ2
 | .bk ρ2=>.nx ρ2
 |o=>o
@[simp] def jF:(Ou.nx ρ).tn k=k ρ:=aN rfl
@[simp] def tn_rt:(Ou.rt d).tn k= .rt d:=aN rfl
def okE(r:Rs En)(k:En->Ou):Ou:=match r with
 | .ok ρ=>k ρ
 |_=>.st
@[simp] def fU:okE (.ok ρ) k=k ρ:=aN rfl
def b7:forL a u (d::ds) ρ=okE (a d ρ) λ ρ1=>(u ρ1).tn (forL a u ds):=by
 unfold forL;cases a d ρ with
 |ok ρ1=>simp only[fU];cases u ρ1<;>rfl
 |ex c=>rfl
 |st=>rfl
@[simp] def yF:aq f ρ=(f ρ).bd pA:=aN rfl
@[simp] def rngA_ap:jB r ga ρ=(ga ρ).bd r:=aN rfl
@[simp] def raiseS_ap:tY x ga ρ=(ga ρ).bo λ ds=>if ds.length<=16777216 then .ex x else .st:=by unfold tY;rw[szl]
@[simp] def yesT_ap:fO ρ= .ok true:=aN rfl
end
section
variable{d e:D}{i j:Int}{l m:List D}
def yK(h:imm d=true):pA d= .ok d:=by unfold pA;rw[if_pos h]
@[simp] def gImm_int:pA (.int i)= .ok (.int i):=aN rfl
@[simp] def addD_int:dF (.int i) (.int j)= .ok (.int (i+j)):=aN rfl
@[simp] def aAX:dF (.tup l) (.tup m)=if l.length+m.length<=16777216 then .ok (.tup (l++m))else .st:=by unfold dF;rw[szl]
@[simp] def subD_int:rF (.int i) (.int j)= .ok (.int (i-j)):=aN rfl
def jX(h0:0<j)(h1:j<1073741824):gn (.int i) (.int j)= .ok (.int (i / j)):=by unfold gn i2;dsimp only;rw[if_pos (by simp[h0,h1])]
def lN(h0:0<j):qD (.int i) (.int j)= .ok (.int (i%j)):=by unfold qD i2;dsimp only;rw[if_pos (by simp[h0])]
def aAz(h0: -(2^64)<i)(h1:i<2^64):gq (.int i) (.int j)= .ok (.int (i*j)):=by unfold gq;dsimp only;rw[if_pos (by simp only[zCI,zAM,decide_eq_true_eq];exact .inl ⟨h0,h1⟩)]
def aEb(h0: -(2^64)<j)(h1:j<2^64):gq (.int i) (.int j)= .ok (.int (i*j)):=by unfold gq;dsimp only;rw[if_pos (by simp only[zCI,zAM,decide_eq_true_eq];exact .inr ⟨h0,h1⟩)]
@[simp] def ltD_int:ltD (.int i) (.int j)= .ok (.bl (decide (i<j))):=aN rfl
@[simp] def leD_int:leD (.int i) (.int j)= .ok (.bl (decide (i<=j))):=aN rfl
@[simp] def gtD_int:gtD (.int i) (.int j)= .ok (.bl (decide (j<i))):=aN rfl
@[simp] def geD_int:geD (.int i) (.int j)= .ok (.bl (decide (j<=i))):=aN rfl
def aGs(ns ms:List Int):ltD (.tup (ns.map .int)) (.tup (ms.map .int))= .ok (.bl (HT.lexLt ns ms)):=by
 unfold ltD ltT i2;simp only[dM]
@[simp] def lenD_tup:jP [.tup l]= .ok (.int l.length):=aN rfl
@[simp] def aEj:jP [.lst l]= .ok (.int l.length):=aN rfl
@[simp] def lenD_scr:jP [.scr x]= .ok (.int x.length):=aN rfl
@[simp] def tupleD_lst:jL [.lst l]= .ok (.tup l):=aN rfl
@[simp] def mmD_int:mmD f [.int i,.int j]= .ok (.int (f i j)):=aN rfl
@[simp] def aGx:ixD (.tup l) (.int i)=atD l i:=aN rfl
@[simp] def aGy:ixD (.lst l) (.int i)=atD l i:=aN rfl
@[simp] def ixD_scr:ixD (.scr x) (.int i)=atD (x.map .int) i:=aN rfl
def dq{k:Nat}(h:l[k]? =some d):atD l (k:Int)= .ok d:=by
 have hk:=(zAO.mp h).1;unfold atD atI ixN;rw[if_pos (by omega),if_pos (by omega)];simp[h]
def aF4(h0:0<=i)(h1:i<l.length):∃d,atD l i= .ok d/\d∈l/\l[i.toNat]? =some d:=by
 have hk:i.toNat<l.length:=by omega
 have e:=zAI hk;refine⟨_,?_,zCi hk,e⟩
 have:=dq e
 rwa [zBS h0]at this
@[simp] def atD_0{r:List D}:atD (d::r) 0= .ok d:=dq (k:=0) rfl
@[simp] def atD_1{r:List D}:atD (d::e::r) 1= .ok e:=dq (k:=1) rfl
@[simp] def eqR_int:eqR n (.int i) (.int j)= .ok (.bl (if n then !(i==j)else i==j)):=aN rfl
def knd:D->Bool
 | .set _=>false
 | .scr _=>false
 | .fn _=>false
 | .itm _ _=>false
 |_=>true
def xx(hT:T∈["bool","int","str","list","tuple","dict"])(h:knd d=true):oG T d= .ok (.bl (aHB (tyD d) T)):=by
 have ht:tyD d∈["NoneType","bool","int","str","list","tuple","dict"]:=by cases d<;>simp_all [tyD,knd]
 unfold oG lQ;cases e:aHB (tyD d) T<;>simp[ht,hT]
def aJl:D->Bool
 | .int _=>true
 | .bl _=>true
 |_=>false
def aLD:D->Bool
 | .bl _=>true
 |_=>false
def qJ:D->Bool
 | .tup _=>true
 |_=>false
def aHA(h:knd d=true):oG "int" d= .ok (.bl (aJl d)):=by
 rw[xx (by simp) h];cases d<;>first|rfl|(simp[knd]at h)
def aEu(h:knd d=true):oG "bool" d= .ok (.bl (aLD d)):=by
 rw[xx (by simp) h];cases d<;>first|rfl|(simp[knd]at h)
def qI(h:knd d=true):oG "tuple" d= .ok (.bl (qJ d)):=by
 rw[xx (by simp) h];cases d<;>first|rfl|(simp[knd]at h)
@[simp] def isi_tuple_tup:oG "tuple" (.tup l)= .ok (.bl true):=qI rfl
end
@[simp] def bW:eE n u ds=match u (bC n ds)with
 | .nx _=>.ok .non
 | .rt d=>.ok d
 | .ex c=>.ex c
 |_=>.st:=aN rfl
def jH(h0: -(2^62)<=j)(h1:j<2^62):kI [.int j]= .ok (bL 0 j):=by unfold kI;dsimp only;rw[if_pos ⟨h0,h1⟩]
def xO(h0: -(2^62)<=i)(h1:i<2^62)(h2: -(2^62)<=j)(h3:j<2^62):xP [.int i,.int j]= .ok (bL i j):=by unfold xP;dsimp only;rw[if_pos ⟨⟨h0,h1⟩,h2,h3⟩]
def zb{lo hi:Int}:d∈bL lo hi↔∃k:Int,d= .int k/\lo<=k/\k<hi:=by
 unfold bL;rw[zAS];constructor
 .rintro⟨n,hn,rfl⟩
  have:=zCa.mp hn
  exact⟨lo+n,rfl,by omega,by omega⟩
 .rintro⟨k,rfl,h1,h2⟩
  exact⟨(k-lo).toNat,zCa.mpr (by omega),by congr 1;omega⟩
def lY(I:Nat->En->Prop)(hs:∀(i:Nat) d ρ,ds[i]? =some d->I i ρ->∃ρ2,okE (a d ρ) (λ ρ1=>u ρ1)= .nx ρ2/\I (i+1) ρ2)(h0:I 0 ρ):∃ρ',forL a u ds ρ= .nx ρ'/\I ds.length ρ':=by
 have go:∀(n:Nat) (ρ:En),n<=ds.length->I (ds.length-n) ρ->∃ρ',forL a u (ds.drop (ds.length-n)) ρ= .nx ρ'/\I ds.length ρ':=by
  intro n;induction n with
  |zero=>intro ρ _ h;exact⟨ρ,by rw[Nat.sub_zero,zD0];rfl,h⟩
  |succ n ih=>
   intro ρ hn h;have hlt:ds.length-(n+1)<ds.length:=by omega
   rw[zBg hlt,b7];obtain⟨ρ2,e,h2⟩:=hs _ _ ρ (zAI hlt) h;rw[show ds.length-(n+1)+1=ds.length-n by omega]at h2 ⊢;cases ea:a ds[ds.length-(n+1)] ρ with
   |ok ρ1=>
    rw[ea]at e;simp only[fU]at e ⊢;rw[e,jF];exact ih ρ2 (by omega) h2
   |ex c=>rw[ea]at e;cases e
   |st=>rw[ea]at e;cases e
 have:=go ds.length ρ (zAV _) (by rw[zGN];exact h0)
 rwa [zGN,zHU]at this
end VL
namespace VL.My
open PySem L2
def fX:En->Ou:=
  (retS (vP (op1 (oG "int") (aD 0)) (op1 aJ7 (op1 (oG "bool") (aD 0)))))
def iz:List D->Rs D:=eE 1 fX
def dO:En->Ou:=
  (aZ (gh (jB xP (aC (cD (.int 1)) (aC (opA jP (aC (aD 0) aH)) aH))) (gnm 1)
   (ifS (uI (tsb (op2 ltD (op2 ixD (aD 0) (op2 rF (aD 1) (cD (.int 1)))) (op2 ixD (aD 0) (aD 1)))))
    (retS (cD (.bl false)))
    Ou.nx))
  (retS (cD (.bl true))))
def fC:List D->Rs D:=eE 2 dO
def fu:En->Ou:=
  (aZ (aB5 (aD 0) (gO 2 (au (gnm 1) (au (gnm 2) gP))))
  (aZ (llS 3 (jB kI (aC (aD 1) aH)) [none] (gnm 0))
  (aZ (gh (cM (aD 2)) (gO 2 (au (gnm 4) (au (gnm 5) gP)))
   (aZ (nO 3 (aD 4) (aq (aD 5)))
   (nO 3 (aD 5) (aq (aD 4)))))
  (retS (rE 3)))))
def cj:List D->Rs D:=eE 6 fu
def pwI:En->Ou:=ifS (tsb (op2 (inR true) (aD 5) (dC 2))) (j8 2 (aq (aD 5))) Ou.nx
def pwW:En->Ou:=aZ (oY 4 (aq (op2 ixD (dC 2) (aD 3)))) (aZ (gh (cM (op2 ixD (aD 0) (kE 4))) (gnm 5) pwI) (aH6 (i2 (λ _ _=>true) λ a b=>.int (a+b)) 3 (cD (.int 1))))
def pwT:En->Rs Bool:=tsb (op2 ltD (aD 3) (opA jP (aC (dC 2) aH)))
def eY:En->Ou:=aZ (di 2 (gJ (aC (aq (aD 1)) aH))) (aZ (cT 3 (cD (.int 0))) (aZ (pO pwT pwW) (retS (opA jL (aC (opA nC (aC (dC 2) aH)) aH)))))
def gR:List D->Rs D:=eE 6 eY
def adB:En->Ou:=pdS 2 (aD 3) (op2 dF (aq (aB0 (dC 2) (aD 3) (cD (.int 0)))) (aq (aD 4)))
def adG:D->En->Rs En:=gO 2 (au (gnm 3) (au (gnm 4) gP))
def mX:En->Ou:=aZ (di 2 (opA aB3 (aC (aD 0) aH))) (aZ (gh (aBQ (aD 1)) adG adB) (retS (rE 2)))
def cJ:List D->Rs D:=eE 5 mX
def coB:En->Ou:=aZ (cT 8 (op2 dF (op2 dF (aD 4) (aD 6)) (aD 2))) (pdS 3 (aD 8) (op2 dF (aq (aB0 (dC 3) (aD 8) (cD (.int 0)))) (op2 gq (aq (aD 5)) (aq (aD 7)))))
def coI:D->En->Rs En:=gO 2 (au (gnm 6) (au (gnm 7) gP))
def coO:En->Ou:=gh (aBQ (aD 1)) coI coB
def coG:D->En->Rs En:=gO 2 (au (gnm 4) (au (gnm 5) gP))
def fZ:En->Ou:=aZ (di 3 (cD (.dct [] []))) (aZ (gh (aBQ (aD 0)) coG coO) (retS (rE 3)))
def bw:List D->Rs D:=eE 9 fZ
def cF:En->Ou:=
  (aZ (ifS (tsb (op2 ltD (aD 1) (opA jP (aC (aD 0) aH))))
   (retS (aq (op2 ixD (aD 0) (aD 1))))
   Ou.nx)
  (retS (cD (.int 0))))
def dm:List D->Rs D:=eE 2 cF
def dN:En->Ou:=
  (aZ (ifS (tsb (op2 geD (aD 0) (op2 aJA (cD (.int 10)) (cD (.int 18)))))
   (aZ (cT 3 (aD 0))
   (aZ (gh (jB kI (aC (aD 1) aH)) (gnm 4)
    (aZ (ifS (tsb (op2 (eqR false) (aD 3) (cD (.int 0))))
     (retS (cD (.int 0)))
     Ou.nx)
    (cT 3 (op2 gn (aD 3) (aD 2)))))
   (retS (op2 qD (aD 3) (aD 2)))))
   Ou.nx)
  (aZ (cT 5 (op2 qD (op2 gq (op2 dF (op2 dF (op2 qD (aD 0) (cD (.int 1000000007))) (op2 gq (cD (.int 1009)) (aD 1))) (cD (.int 17))) (cD (.int 69621))) (cD (.int 2147483647))))
  (aZ (cT 5 (op2 qD (op2 dF (op2 dF (op2 gq (aD 5) (aD 5)) (op2 gq (cD (.int 40503)) (aD 1))) (cD (.int 5))) (cD (.int 2147483629))))
  (retS (op2 qD (op2 gn (op2 qD (op2 gq (aD 5) (cD (.int 48271))) (cD (.int 2147483647))) (cD (.int 32))) (aD 2))))))
def aj:List D->Rs D:=eE 6 dN
def roL:En->Rs D:=opA jL (aC (lcD (cM (aD 6)) [none,some 9,some 8] (gnm 0) fO (ifD (tsb (op2 (eqR false) (aD 0) (aD 1))) (aq (aD 2)) (aq (aD 0)))) aH)
def roU:En->Rs D:=opA jL (aC (lcD (jB kI (aC (op2 ixD (aD 0) (cD (.int 0))) aH)) [none,some 7,some 2,some 3] (gnm 0) fO (op2 dF (aq (op2 ixD (aD 1) (aD 0))) (opA lR (aC (orD (op2 (eqR false) (aD 0) (aD 2)) (op2 (eqR false) (aD 0) (aD 3))) aH)))) aH)
def roT:En->Rs Bool:=aH8 (tsb (op2 ltD (op2 ixD (aD 7) (aD 2)) (cD (.int 2)))) (aH8 (tsb (op2 ltD (op2 ixD (aD 7) (aD 3)) (cD (.int 2)))) (tsb (op2 (eqR true) (op2 ixD (aD 6) (aD 2)) (op2 ixD (aD 6) (aD 3)))))
def roA:En->Ou:=j8 4 (dI (aC (op2 dF (aq (aD 5)) (dI (aC (dI (aC (aq (aD 2)) (aC (aq (aD 3)) aH))) aH))) (aC (aq (aD 10)) (aC (aq (aD 11)) aH))))
def roB:En->Ou:=ifS roT (aZ (cT 8 (opA (mmD λ i j=>if j<i then j else i) (aC (op2 ixD (aD 6) (aD 2)) (aC (op2 ixD (aD 6) (aD 3)) aH)))) (aZ (cT 9 (opA (mmD λ i j=>if j>i then j else i) (aC (op2 ixD (aD 6) (aD 2)) (aC (op2 ixD (aD 6) (aD 3)) aH)))) (aZ (cT 10 roL) (aZ (cT 11 roU) roA)))) Ou.nx
abbrev roG:D->En->Rs En:=gO 3 (au (gnm 5) (au (gnm 6) (au (gnm 7) gP)))
def roO:En->Ou:=aZ (di 4 (gJ aH)) (aZ (aHS 1 roG roB) (aHX 1 4))
def roR:En->Rs D:=lcD (cM (aD 1)) [none] (gnm 0) fO (aq (op2 ixD (aD 0) (cD (.int 0))))
def fW:En->Ou:=aZ (di 1 (gJ (aC (dI (aC (dI aH) (aC (trD (op2 ixD (aD 0) (cD (.int 0)))) (aC (op2 aAy (dI (aC (cD (.int 0)) aH)) (aq (op2 ixD (aD 0) (cD (.int 0))))) aH)))) aH))) (aZ (gh (cM (op2 ixD (aD 0) (cD (.int 1)))) (gO 2 (au (gnm 2) (au (gnm 3) gP))) roO) (retS roR))
def iy:List D->Rs D:=eE 12 fW
def iJ:En->Ou:=
  (retS (vP (aP iz (aC (aD 0) aH)) (chD leD leD (cD (.int 0)) (aD 0) (cD (.int 60)))))
def mY:List D->Rs D:=eE 1 iJ
def fY:En->Ou:=
  (retS (vP (aP iz (aC (aD 1) aH)) (chD leD ltD (cD (.int 0)) (aD 1) (aD 0))))
def eU:List D->Rs D:=eE 2 fY
def paF:En->Ou:=aF9 3 (aq (aD 6))
def paB:En->Ou:=ifS (tsb (op2 (inX true) (aD 4) (dC 3))) (aZ (cT 5 (aP gR (aC (aD 0) (aC (aD 4) aH)))) (aZ (j8 2 (aq (aD 5))) (gh (cM (aD 5)) (gnm 6) paF))) Ou.nx
def cz:En->Ou:=aZ (di 2 (gJ aH)) (aZ (di 3 (cD (.set []))) (aZ (gh (cM (aD 1)) (gnm 4) paB) (retS (rE 2))))
def dB:List D->Rs D:=eE 7 cz
def huI:En->Ou:=ifS (tsb (op2 (eqR true) (aD 8) (aD 7))) (aZ (aF9 2 (aq (aD 8))) (j8 3 (dI (aC (aq (aD 8)) (aC (aq (aD 6)) aH))))) Ou.nx
def huW:En->Ou:=aZ (aB5 (aq (op2 ixD (dC 3) (aD 4))) (gO 2 (au (gnm 6) (au (gnm 7) gP)))) (aZ (gh (cM (op2 ixD (aD 1) (aD 6))) (gnm 8) huI) (aH6 (i2 (λ _ _=>true) λ a b=>.int (a+b)) 4 (cD (.int 1))))
def huT:En->Rs Bool:=tsb (op2 ltD (aD 4) (opA jP (aC (dC 3) aH)))
def huB:En->Ou:=aZ (ifS (tsb (op2 (inX true) (aD 5) (dC 2))) (j8 3 (dI (aC (aq (aD 5)) (aC (cD .non) aH)))) Ou.nx) (pO huT huW)
def qO:En->Ou:=aZ (cT 1 (aP cj (aC (aD 0) aH))) (aZ (di 2 (cD (.set []))) (aZ (di 3 (gJ aH)) (aZ (cT 4 (cD (.int 0))) (aZ (gh (jB kI (aC (op2 ixD (aD 0) (cD (.int 0))) aH)) (gnm 5) huB) (retS (rE 3))))))
def uz:List D->Rs D:=eE 9 qO
def hoC:En->Rs D:=gr (aP bw (aC (aD 0) (aC (aD 1) (aC (cD (.int 0)) aH))))
def hoX:En->Rs D:=gr (aP bw (aC (op2 ixD (aD 0) (op2 rF (aD 5) (cD (.int 1)))) (aC (aD 2) (aC (cD (.int 1)) aH))))
def hoA:En->Rs D:=gr (aP cJ (aC (op2 ixD (dC 4) (aD 5)) (aC hoX aH)))
def hoB:En->Ou:=aCh 4 (aD 5) hoA
def iK:En->Ou:=aZ (cT 2 (gr (aP cJ (aC (op2 ixD (aD 1) (cD (.int 0))) (aC (op2 ixD (aD 1) (cD (.int 1))) aH))))) (aZ (cT 3 (gr (aP cJ (aC (aD 2) (aC (op2 ixD (aD 1) (cD (.int 2))) aH))))) (aZ (di 4 (lcD (cM (aD 0)) [none,some 3] (gnm 0) fO hoC)) (aZ (gh (cM (dI (aC (cD (.int 1)) (aC (cD (.int 2)) aH)))) (gnm 5) hoB) (retS (rE 4)))))
def jd:List D->Rs D:=eE 6 iK
def foB:En->Ou:=aZ (oY 7 (op2 ixD (gJ (aC (op2 rF (aD 6) (cD (.int 1))) (aC (op2 gn (aD 6) (cD (.int 2))) (aC (op2 gn (aD 6) (cD (.int 4))) (aC (aP aj (aC (aD 0) (aC (op2 dF (cD (.int 300)) (aD 6)) (aC (aD 6) aH)))) aH))))) (aD 3)))
   (aZ (ifS (tsb (op2 (eqR false) (aP aj (aC (aD 0) (aC (op2 dF (cD (.int 400)) (aD 6)) (aC (cD (.int 3)) aH)))) (cD (.int 0))))
    (oY 7 (aP aj (aC (aD 0) (aC (op2 dF (cD (.int 500)) (aD 6)) (aC (aD 6) aH)))))
    Ou.nx)
   (ifS (tsb (op2 gtD (aP aj (aC (aD 0) (aC (op2 dF (cD (.int 600)) (aD 6)) (aC (cD (.int 9)) aH)))) (cD (.int 0))))
    (j8 5 (dI (aC (opA (mmD λ i j=>if j<i then j else i) (aC (op2 ixD (kE 4) (kE 7)) (aC (op2 ixD (kE 4) (aD 6)) aH))) (aC (opA (mmD λ i j=>if j>i then j else i) (aC (op2 ixD (kE 4) (kE 7)) (aC (op2 ixD (kE 4) (aD 6)) aH))) aH))))
    Ou.nx))
def foO:En->Rs D:=lcD (cM (opA nC (aC (lcD (jB kI (aC (aD 2) aH)) [none,some 0] (gnm 0) fO (dI (aC (aP aj (aC (aD 1) (aC (op2 dF (cD (.int 200)) (aD 0)) (aC (cD (.int 97)) aH)))) (aC (aq (aD 0)) aH)))) aH))) [none] (gnm 0) fO (aq (op2 ixD (aD 0) (cD (.int 1))))
def dh:En->Ou:=aZ (cT 2 (aP aj (aC (aD 0) (aC (cD (.int 0)) (aC (op2 dF (aD 1) (cD (.int 1))) aH))))) (aZ (cT 3 (aP aj (aC (aD 0) (aC (cD (.int 1)) (aC (cD (.int 4)) aH))))) (aZ (oY 4 foO) (aZ (di 5 (gJ aH)) (aZ (gh (jB xP (aC (cD (.int 1)) (aC (aD 2) aH))) (gnm 6) foB) (retS (dI (aC (aq (aD 2)) (aC (opA jL (aC (opA nC (aC (dC 5) aH)) aH)) aH))))))))
def fL:List D->Rs D:=eE 8 dh
def fwE:En->Ou:=aKC 4 (aq (aD 5))
def fwK:En->Rs D:=lcD (cM (aD 1)) [none,some 4] (gnm 0) (tsb (op2 gtD (opL aAL (aD 1) (aD 0)) (cD (.int 1)))) (aq (aD 0))
def fwB:En->Ou:=aZ (di 4 (gJ aH)) (aZ (gh (cM (aD 3)) (gnm 5) fwE) (ifS (tsb (op2 (eqR false) fwK (gJ aH))) (j8 2 (aq (aD 3))) Ou.nx))
def fwM:En->Rs D:=lcD (cM (aD 2)) [none] (gnm 0) fO (opA jP (aC (aD 0) aH))
def fwR:En->Rs D:=lcD (cM (aD 2)) [none,some 6] (gnm 0) (tsb (op2 (eqR false) (opA jP (aC (aD 0) aH)) (aD 1))) (aq (aD 0))
def cO:En->Ou:=aZ (di 2 (gJ aH)) (aZ (gh (cM (aP iy (aC (aD 0) aH))) (gnm 3) fwB) (aZ (cT 6 (opA (q9 zHM) (aC fwM aH))) (retS fwR)))
def dR:List D->Rs D:=eE 7 cO
def ipE:En->Ou:=ifS (orT (uI (tst (op1 (oG "tuple") (aD 1)))) (tsb (op2 (eqR true) (opA jP (aC (aD 1) aH)) (cD (.int 2))))) (retS (cD (.bl false))) Ou.nx
def iI:En->Ou:=aZ ipE (retS (vP (aP eU (aC (aD 0) (aC (op2 ixD (aD 1) (cD (.int 0))) aH))) (vP (aP eU (aC (aD 0) (aC (op2 ixD (aD 1) (cD (.int 1))) aH))) (op2 (eqR true) (op2 ixD (aD 1) (cD (.int 0))) (op2 ixD (aD 1) (cD (.int 1)))))))
def jc:List D->Rs D:=eE 2 iI
def bD:En->Ou:=
  (aZ (ifS (uI (tst (op1 (oG "tuple") (aD 1))))
   (retS (cD (.bl false)))
   Ou.nx)
  (aZ (gh (cM (aD 1)) (gnm 2)
   (ifS (uI (tst (aP jc (aC (aD 0) (aC (aD 2) aH)))))
    (retS (cD (.bl false)))
    Ou.nx))
  (retS (aP fC (aC (aD 1) aH)))))
def bM:List D->Rs D:=eE 3 bD
def fj:En->Ou:=
  (retS (vP (aP bM (aC (aD 0) (aC (aD 1) aH))) (opA (ye λ bs=>bs.all id) (aC (lcD (cM (aD 1)) [none,none] (gO 2 (au (gnm 0) (au (gnm 1) gP))) fO (op2 ltD (aD 0) (aD 1))) aH))))
def ju:List D->Rs D:=eE 2 fj
def jZ:En->Ou:=
  (aZ (ifS (orT (uI (tst (op1 (oG "tuple") (aD 0)))) (tsb (op2 (eqR true) (opA jP (aC (aD 0) aH)) (cD (.int 2)))))
   (retS (cD (.bl false)))
   Ou.nx)
  (retS (vP (aP mY (aC (op2 ixD (aD 0) (cD (.int 0))) aH)) (aP ju (aC (op2 ixD (aD 0) (cD (.int 0))) (aC (op2 ixD (aD 0) (cD (.int 1))) aH))))))
def pM:List D->Rs D:=eE 1 jZ
def fB:En->Ou:=
  (ifS (uI (tst (aP pM (aC (aD 0) aH))))
   (tY "NoWeb" (aC (cD (.str "this is no web")) aH))
   Ou.nx)
def fD:List D->Rs D:=eE 1 fB
def mW:En->Ou:=
  (aZ (uq (aP fD (aC (aD 0) aH)))
  (retS (aP dB (aC (aP cj (aC (aD 0) aH)) (aC (lrD (op2 ixD (aD 0) (cD (.int 0)))) aH)))))
def sO:List D->Rs D:=eE 1 mW
def eZ:En->Ou:=
  (retS (op2 (eqR false) (opA jP (aC (aP sO (aC (aD 0) aH)) aH)) (op2 rF (op2 ixD (aD 0) (cD (.int 0))) (opA jP (aC (op2 ixD (aD 0) (cD (.int 1))) aH)))))
def gU:List D->Rs D:=eE 1 eZ
def cQ:En->Ou:=
  (ifS (uI (tst (aP gU (aC (aD 0) aH))))
   (tY "NoForest" (aC (cD (.str "the web has a ring")) aH))
   Ou.nx)
def dU:List D->Rs D:=eE 1 cQ
def fcT:En->Ou:=oY 2 (gr (aP bw (aC (kE 2) (aC (gr (aP cJ (aC (aD 5) (aC (gr (aP cJ (aC (aD 6) (aC (aD 7) aH)))) aH)))) (aC (cD (.int 0)) aH)))))
def fcH:En->Ou:=aCh 1 (aD 4) (aP jd (aC (op2 ixD (dC 1) (aD 4)) (aC (op2 ixD (dC 1) (aD 3)) aH)))
def fcU:En->Ou:=aKN 3 (op2 ixD (dC 1) (aD 3)) (au (gnm 5) (au (gnm 6) (au (gnm 7) gP)))
def fcB:En->Ou:=aZ fcU (ifS (tsb (op2 (isD false) (aD 4) (cD .non))) fcT fcH)
def fcG:D->En->Rs En:=gO 2 (au (gnm 3) (au (gnm 4) gP))
def fcL:En->Rs D:=lcD (jB kI (aC (op2 ixD (aD 0) (cD (.int 0))) aH)) [none] (gnm 0) fO (gJ (aC (gr (cD (iw [(0,1)]))) (aC (gr (cD (.dct [] []))) (aC (gr (cD (.dct [] []))) aH))))
def fcR:En->Rs D:=op2 aEs (kE 2) (opA qd (aC (kE 2) aH))
def cP:En->Ou:=aZ (uq (aP dU (aC (aD 0) aH))) (aZ (di 1 fcL) (aZ (oY 2 (gr (cD (iw [(0,1)])))) (aZ (gh (cM (op1 aBs (aP uz (aC (aD 0) aH)))) fcG fcB) (retS fcR))))
def aa:List D->Rs D:=eE 8 cP
def lwR:En->Rs (List D):=(jB kI (aC (opA (mmD λ i j=>if j>i then j else i) (aC (cD (.int 1)) (aC (opA (mmD λ i j=>if j<i then j else i) (aC (opA jP (aC (aD 0) aH)) (aC (cD (.int 6)) aH))) aH))) aH))
def lB0:En->Ou:=(cT 2 (aP dm (aC (aD 0) (aC (aD 1) aH))))
def lB1:En->Ou:=(cT 3 (aP fL (aC (aD 2) (aC (cD (.int 9)) aH))))
def lB2:En->Ou:=(cT 4 (aP aa (aC (aD 3) aH)))
def lB3:En->Ou:=(ifS (orT (tst (op1 (oG "bool") (aD 4))) (tsb (op2 (eqR true) (aD 4) (opA jP (aC (aP dR (aC (aD 3) (aC (dI aH) aH))) aH))))) (retS (cD (.bl false))) Ou.nx)
def lB4:En->Ou:=(cT 5 (op2 dF (cD (.int 3)) (aP aj (aC (aD 2) (aC (cD (.int 9000)) (aC (cD (.int 57)) aH))))))
def lB5:En->Ou:=(cT 6 (dI (aC (aD 5) (aC (opA jL (aC (lcD (jB kI (aC (op2 rF (aD 5) (cD (.int 1))) aH)) [none] (gnm 0) fO (dI (aC (aq (aD 0)) (aC (op2 dF (aq (aD 0)) (cD (.int 1))) aH)))) aH)) aH))))
def lB6:En->Ou:=(cT 7 (dI (aC (aD 5) (aC (opA jL (aC (lcD (jB xP (aC (cD (.int 1)) (aC (aD 5) aH))) [none] (gnm 0) fO (dI (aC (cD (.int 0)) (aC (aq (aD 0)) aH)))) aH)) aH))))
def lB7:En->Ou:=(ifS (orT (tsb (op2 (eqR true) (aP aa (aC (aD 6) aH)) (cD (.int 1)))) (tsb (op2 (eqR true) (aP aa (aC (aD 7) aH)) (op2 gn (op2 gq (op2 rF (aD 5) (cD (.int 1))) (op2 rF (aD 5) (cD (.int 2)))) (cD (.int 2)))))) (retS (cD (.bl false))) Ou.nx)
def lwK:En->Ou:=aZ lB0 (aZ lB1 (aZ lB2 (aZ lB3 (aZ lB4 (aZ lB5 (aZ lB6 (lB7)))))))
def lwZ:En->Rs D:=(vP (op2 (eqR false) (aP aa (aC (dI (aC (cD (.int 0)) (aC (dI aH) aH))) aH)) (cD (.int 1))) (op2 (eqR false) (aP aa (aC (dI (aC (cD (.int 60)) (aC (dI aH) aH))) aH)) (cD (.int 1))))
def ur:En->Ou:=aZ (gh lwR (gnm 1) lwK) (retS lwZ)
def aFb:List D->Rs D:=eE 8 ur
theorem wG(hb:0<b)(hb2:b<1073741824):∀(ds:List D) (x:Int) (s:Slot),(∀d∈ds,∃n:Int,d= .int n)->
  (∃y s',forL (gnm 4) (aZ (ifS (tsb (op2 (eqR false) (aD 3) (cD (.int 0)))) (retS (cD (.int 0))) Ou.nx) (cT 3 (op2 gn (aD 3) (aD 2)))) ds [.sh (.int c),.sh (.int k),.sh (.int b),.sh (.int x),s,.no]= .nx [.sh (.int c),.sh (.int k),.sh (.int b),.sh (.int y),s',.no])\/
  forL (gnm 4) (aZ (ifS (tsb (op2 (eqR false) (aD 3) (cD (.int 0)))) (retS (cD (.int 0))) Ou.nx) (cT 3 (op2 gn (aD 3) (aD 2)))) ds [.sh (.int c),.sh (.int k),.sh (.int b),.sh (.int x),s,.no]= .rt (.int 0)
 |[],x,s,_=>.inl ⟨x,s,rfl⟩
 |d::ds,x,s,h=>by
  have ih:=wG hb hb2 (c:=c) (k:=k) ds (x / b) (.sh d) λ e he=>h e (zAB _ he)
  rw[b7];by_cases hx:x=0
  .subst hx
   right;simp
  .simp[hx,jX hb hb2]
   exact ih
def aCY(hk0:0<=k)(hk1:k<2^40)(hb:0<b)(hb2:b<1073741824):∃r:Int,aj [.int c,.int k,.int b]= .ok (.int r)/\0<=r/\r<b:=by
 have hp:aJA (.int 10) (.int 18)= .ok (.int 1000000000000000000):=rfl;by_cases hc:(1000000000000000000:Int)<=c
 .have hr:=jH (j:=k) (by lia) (by lia)
  have hl:=wG hb hb2 (c:=c) (k:=k) (bL 0 k) c .no λ d hd=>let⟨n,e,_⟩:=zb.mp hd;⟨n,e⟩
  rcases hl with ⟨y,s',e⟩|e
  .refine⟨y%b,?_,zDo _ (by lia),zDL _ hb⟩
   simp[aj,dN,bC,hp,hc,hr,e,lN hb]
  .refine⟨0,?_,by lia,hb⟩
   simp[aj,dN,bC,hp,hc,hr,e]
 .have s1:∀z:Int,0<=z%2147483647/\z%2147483647<2147483647:=λ z=>⟨zDo _ (by decide),zDL _ (by decide)⟩
  have s2:∀z:Int,0<=z%2147483629/\z%2147483629<2147483629:=λ z=>⟨zDo _ (by decide),zDL _ (by decide)⟩
  have m1:∀z,gq (.int 1009) (.int z)= .ok (.int (1009*z)):=λ z=>aAz (by decide) (by decide)
  have m2:∀z,gq (.int z) (.int 69621)= .ok (.int (z*69621)):=λ z=>aEb (by decide) (by decide)
  have m3:∀z,gq (.int 40503) (.int z)= .ok (.int (40503*z)):=λ z=>aAz (by decide) (by decide)
  have m4:∀z,gq (.int z) (.int 48271)= .ok (.int (z*48271)):=λ z=>aEb (by decide) (by decide)
  have m5:∀z:Int,gq (.int (z%2147483647)) (.int (z%2147483647))= .ok (.int (z%2147483647*(z%2147483647))):=λ z=>aAz (by have:=s1 z;lia) (by have:=s1 z;lia)
  have d1:∀z,qD (.int z) (.int 1000000007)= .ok (.int (z%1000000007)):=λ z=>lN (by decide)
  have d2:∀z,qD (.int z) (.int 2147483647)= .ok (.int (z%2147483647)):=λ z=>lN (by decide)
  have d3:∀z,qD (.int z) (.int 2147483629)= .ok (.int (z%2147483629)):=λ z=>lN (by decide)
  have d4:∀z,gn (.int z) (.int 32)= .ok (.int (z / 32)):=λ z=>jX (by decide) (by decide)
  have d5:∀z,qD (.int z) (.int b)= .ok (.int (z%b)):=λ z=>lN hb
  simp[aj,dN,bC,hp,hc,m1,m2,m3,m4,m5,d1,d2,d3,d4,d5,-Int.emod_emod_of_dvd];exact⟨zDo _ (by lia),zDL _ hb⟩
def jt(hk0:0<=k)(hk1:k<2^40)(hb:0<b)(hb2:b<1073741824):∃r:Nat,aj [.int c,.int k,.int b]= .ok (.int r)/\(r:Int)<b:=by
 obtain⟨r,e,h0,h1⟩:=aCY (c:=c) hk0 hk1 hb hb2;exact⟨r.toNat,by rw[zBS h0];exact e,by lia⟩
def aH2(h:0<=k):∃c:Int,dm [.scr ns,.int k]= .ok (.int c):=by
 by_cases hk:k<ns.length
 .obtain⟨d,e,hm,_⟩:=aF4 (l:=ns.map .int) (i:=k) h (by simpa using hk)
  obtain⟨c,_,rfl⟩:=zAS.mp hm;exact⟨c,by simp[dm,cF,bC,hk,e]⟩
 .exact⟨0,by simp[dm,cF,bC,hk]⟩
mutual
def pln:D->Bool
 | .tup l=>qC l
 | .lst l=>qC l
 | .set _=>false
 | .scr _=>false
 | .fn _=>false
 | .itm _ _=>false
 |_=>true
def qC:List D->Bool
 |[]=>true
 |d::r=>pln d&&qC r
end
def rn(h:pln d=true):knd d=true:=by cases d<;>first|rfl|(simp[pln]at h)
theorem zW:∀{l:List D} {d:D},qC l=true->d∈l->pln d=true
 |x::r,d,h,hm=>by
  simp only[qC,zAM]at h;rcases zAQ.mp hm with rfl|hm
  .exact h.1
  .exact zW h.2 hm
theorem aCA:∀{l:List D},(∀d∈l,pln d=true)->qC l=true
 |[],_=>rfl
 |x::r,h=>by
  simp only[qC,zAM];exact⟨h x (zAE ..),aCA λ d hd=>h d (zAB _ hd)⟩
def aA1:D->Bool
 | .int _=>true
 |_=>false
def aCE:D->Bool
 | .int i=>decide (0<=i)&&decide (i<=60)
 |_=>false
def fQ(m:Int):D->Bool
 | .int i=>decide (0<=i)&&decide (i<m)
 |_=>false
def qg(h:knd d=true):iz [d]= .ok (.bl (aA1 d)):=by
 simp[iz,fX,bC,aHA h,aEu h];cases d<;>rfl
def aBS(h:knd d=true):mY [d]= .ok (.bl (aCE d)):=by
 simp[mY,iJ,bC,qg h];cases d<;>simp[aA1,aCE]
 rename_i i;by_cases h0:0<=i<;>simp[h0]
def qi(h:knd d=true):eU [.int m,d]= .ok (.bl (fQ m d)):=by
 simp[eU,fY,bC,qg h];cases d<;>simp[aA1,fQ]
 rename_i i;by_cases h0:0<=i<;>simp[h0]
def iW(m:Int):D->Bool
 | .tup [.int a,.int b]=>decide (0<=a)&&decide (a<m)&&decide (0<=b)&&decide (b<m)&& !(a==b)
 |_=>false
def v8(h:fQ m d=true):∃i:Int,d= .int i/\0<=i/\i<m:=by
 cases d with
 |int i=>simp[fQ]at h;exact⟨i,rfl,h.1,h.2⟩
 |_=>simp[fQ]at h
def aDZ(h:qJ d=true):∃l,d= .tup l:=by cases d<;>first|exact⟨_,rfl⟩|(cases h)
def aIZ(h:l.length=2):∃x y,l=[x,y]:=by
 match l,h with
 |[x,y],_=>exact⟨x,y,rfl⟩
def aE1(h:qJ d=false):iW m d=false:=by cases d<;>first|rfl|(cases h)
def aCn(h:l.length≠2):iW m (.tup l)=false:=by
 match l,h with
 |[],_=>rfl
 |[x],_=>cases x<;>rfl
 |[x,y],h=>exact absurd rfl h
 |x::y::z::r,_=>cases x<;>first|rfl|(cases y<;>rfl)
def aG6(h:fQ m x=false):iW m (.tup [x,y])=false:=by
 cases x with
 |int i=>
  cases y with
  |int j=>
   show((((decide (0<=i)&&decide (i<m))&&decide (0<=j))&&decide (j<m))&& !(i==j))=false
   rw[show(decide (0<=i)&&decide (i<m))=false from h];rfl
  |_=>rfl
 |_=>rfl
def aG5(h:fQ m y=false):iW m (.tup [.int i,y])=false:=by
 cases y with
 |int j=>
  show((((decide (0<=i)&&decide (i<m))&&decide (0<=j))&&decide (j<m))&& !(i==j))=false
  rw[zDy (decide (0<=i)&&decide (i<m)),show(decide (0<=j)&&decide (j<m))=false from h,zC9];rfl
 |_=>rfl
def aE0(h1:fQ m (.int i)=true)(h2:fQ m (.int j)=true):iW m (.tup [.int i,.int j])= !(i==j):=by
 show((((decide (0<=i)&&decide (i<m))&&decide (0<=j))&&decide (j<m))&& !(i==j))= !(i==j)
 rw[zDy (decide (0<=i)&&decide (i<m)),show(decide (0<=j)&&decide (j<m))=true from h2,show(decide (0<=i)&&decide (i<m))=true from h1];rfl
def aJm(hk:knd d=true)(h:qJ d=false):ipE [s,.sh d]= .rt (.bl false):=by simp[ipE,qI hk,h]
def aHD(h:l.length≠2):ipE [s,.sh (.tup l)]= .rt (.bl false):=by
 have:¬((l.length:Int)=2):=by omega
 simp[ipE,this]
def aHC:ipE [s,.sh (.tup [x,y])]= .nx [s,.sh (.tup [x,y])]:=by simp[ipE]
def aBR(h:pln d=true):jc [.int m,d]= .ok (.bl (iW m d)):=by
 have st:bC 2 [.int m,d]=[.sh (.int m),.sh d]:=rfl;simp only[jc,iI,bW,st];cases ht:qJ d with
 |false=>rw[aK,aJm (rn h) ht,aE1 ht];rfl
 |true=>
  obtain⟨l,rfl⟩:=aDZ ht;by_cases hl:l.length=2
  .obtain⟨x,y,rfl⟩:=aIZ hl
   simp only[pln,qC,zAM]at h;have hx:=qi (m:=m) (rn h.1);have hy:=qi (m:=m) (rn h.2.1);have ex:aP eU (aC (aD 0) (aC (op2 ixD (aD 1) (cD (.int 0))) aH)) [.sh (.int m),.sh (.tup [x,y])]= .ok (.bl (fQ m x)):=by simp[hx]
   have ey:aP eU (aC (aD 0) (aC (op2 ixD (aD 1) (cD (.int 1))) aH)) [.sh (.int m),.sh (.tup [x,y])]= .ok (.bl (fQ m y)):=by simp[hy]
   rw[aK,aHC,aU,ji,yd,ex,bz,aC3,yd,ey,bz,aC3];cases c1:fQ m x with
   |false=>rw[aG6 c1];rfl
   |true=>
    obtain⟨i,rfl,_,_⟩:=v8 c1;cases c2:fQ m y with
    |false=>rw[aG5 c2];rfl
    |true=>
     obtain⟨j,rfl,_,_⟩:=v8 c2;rw[aE0 c1 c2];rfl
  .rw[aK,aHD hl,aCn hl];rfl
def pD(p:Int×Int):D:=.tup [.int p.1,.int p.2]
def ltP(p q:Int×Int):Bool:=HT.lexLt [p.1,p.2] [q.1,q.2]
def vH:gX->Bool
 |[]=>true
 |[_]=>true
 |p::q::r=>ltP p q&&vH (q::r)
def aJc(p q:Int×Int):ltD (pD p) (pD q)= .ok (.bl (ltP p q)):=aGs [p.1,p.2] [q.1,q.2]
theorem qM:∀(ds:List D) (ok:Nat->Bool) (I:En->Prop) (ρ:En),I ρ->(∀(i:Nat) d ρ,ds[i]? =some d->I ρ->okE (a d ρ) u= .rt r/\ok i=false\/∃ρ',okE (a d ρ) u= .nx ρ'/\I ρ'/\ok i=true)->
  (forL a u ds ρ= .rt r/\∃i,i<ds.length/\ok i=false)\/(∃ρ',forL a u ds ρ= .nx ρ'/\I ρ'/\∀i,i<ds.length->ok i=true)
 |[],ok,I,ρ,h,_=>.inr ⟨ρ,rfl,h,λ i hi=>absurd hi (zFC _)⟩
 |d::ds,ok,I,ρ,h,hs=>by
  rw[b7];rcases hs 0 d ρ rfl h with ⟨e,o⟩|⟨ρ',e,h',o⟩
  .left
   refine⟨?_,0,by simp,o⟩;cases ea:a d ρ with
   |ok ρ1=>rw[ea]at e;simp at e ⊢;rw[e];rfl
   |ex c=>rw[ea]at e;cases e
   |st=>rw[ea]at e;cases e
  .have ih:=qM ds (λ i=>ok (i+1)) I ρ' h' λ i d2 ρ2 e2 h2=>hs (i+1) d2 ρ2 (by simpa using e2) h2
   have e3:okE (a d ρ) (λ ρ1=>(u ρ1).tn (forL a u ds))=forL a u ds ρ':=by
    cases ea:a d ρ with
    |ok ρ1=>rw[ea]at e;simp at e ⊢;rw[e];rfl
    |ex c=>rw[ea]at e;cases e
    |st=>rw[ea]at e;cases e
   rw[e3];rcases ih with ⟨e4,i,hi,o4⟩|⟨ρ4,e4,h4,o4⟩
   .exact .inl ⟨e4,i+1,by simpa using hi,o4⟩
   .refine .inr ⟨ρ4,e4,h4,λ i hi=>?_⟩
    cases i with
    |zero=>exact o
    |succ i=>exact o4 i (by simpa using hi)
def o5{i:Nat}(h:(bL lo hi)[i]? =some d):d= .int (lo+i)/\lo+i<hi:=by
 unfold bL at h;rw[zAP]at h;by_cases hi2:i<(hi-lo).toNat
 .rw[zCU hi2]at h
  cases h;exact⟨rfl,by omega⟩
 .rw[zCc (by simpa using hi2)]at h
  cases h
def jU:(bL lo hi).length=(hi-lo).toNat:=by unfold bL;simp
section
variable{α:Type}{f:α->D}{lt:α->α->Bool}
def tW(lt:α->α->Bool):List α->Bool
 |[]=>true
 |[_]=>true
 |p::q::r=>lt p q&&tW lt (q::r)
theorem o6:∀{ps:List α},tW lt ps=true↔∀(i:Nat) (p q:α),ps[i]? =some p->ps[i+1]? =some q->lt p q=true
 |[]=>by simp[tW]
 |[x]=>by
  simp only[tW,true_iff];intro i p q _ h2;simp at h2
 |x::y::r=>by
  have ih:=o6 (ps:=y::r);unfold tW;rw[zAM,ih];constructor
  .rintro⟨h1,h2⟩ i p q e1 e2
   cases i with
   |zero=>simp at e1 e2;subst e1 e2;exact h1
   |succ i=>exact h2 i p q (by simpa using e1) (by simpa using e2)
  .intro h
   exact⟨h 0 x y rfl rfl,λ i p q e1 e2=>h (i+1) p q (by simpa using e1) (by simpa using e2)⟩
def zp(hlt:∀a b,ltD (f a) (f b)= .ok (.bl (lt a b)))(hl:ps.length<=100000):fC [.tup (ps.map f)]= .ok (.bl (tW lt ps)):=by
 have hr:=xO (i:=1) (j:=(ps.length:Int)) (by decide) (by decide) (by omega) (by omega);have hW:(bL 1 (ps.length:Int)).length=ps.length-1:=by rw[jU];omega
 have L:=qM (a:=gnm 1) (u:=ifS (uI (tsb (op2 ltD (op2 ixD (aD 0) (op2 rF (aD 1) (cD (.int 1)))) (op2 ixD (aD 0) (aD 1))))) (retS (cD (.bl false))) Ou.nx) (r:=.bl false)
  (bL 1 (ps.length:Int)) (λ i=>match ps[i]?,ps[i+1]? with|some p,some q=>lt p q|_,_=>true) (λ ρ=>∃s,ρ=[.sh (.tup (ps.map f)),s]) [.sh (.tup (ps.map f)),.no] ⟨_,rfl⟩ (by
   rintro i d ρ hd ⟨s,rfl⟩;obtain⟨rfl,h2⟩:=o5 hd;have e1:ps[i]? =some ps[i]:=zAI (by omega);have e2:ps[i+1]? =some ps[i+1]:=zAI (by omega);have a1:atD (ps.map f) (1+(i:Int)-1)= .ok (f ps[i]):=by
    rw[show(1+(i:Int)-1)=(i:Int)by omega];exact dq (by rw[zAP,e1];rfl)
   have a2:atD (ps.map f) (1+(i:Int))= .ok (f ps[i+1]):=by
    rw[show(1+(i:Int))=((i+1:Nat):Int)by omega];exact dq (by rw[zAP,e2];rfl)
   simp only[e1,e2];cases c:lt ps[i] ps[i+1]with
   |true=>right;exact⟨_,by simp[a1,a2,hlt,c];rfl,⟨_,rfl⟩,rfl⟩
   |false=>left;exact⟨by simp[a1,a2,hlt,c],rfl⟩)
 have st:bC 2 [.tup (ps.map f)]=[.sh (.tup (ps.map f)),.no]:=rfl;rcases L with ⟨e,i,hi,o⟩|⟨ρ',e,⟨s,rfl⟩,o⟩
 .have:tW lt ps=false:=by
   cases c:tW lt ps with
   |false=>rfl
   |true=>
    rw[hW]at hi;have z:=o6.mp c i ps[i] ps[i+1] (zAI (by omega)) (zAI (by omega));rw[zAI (by omega),zAI (by omega)]at o;simp only at o;rw[z]at o;cases o
  rw[this];simp only[fC,dO,bW,st];simp[hr,e]
 .have:tW lt ps=true:=o6.mpr λ i p q e1 e2=>by
   have h2:=(zAO.mp e2).1
   have:=o i (by rw[hW];omega)
   rw[e1,e2]at this;exact this
  rw[this];simp only[fC,dO,bW,st];simp[hr,e]
end
theorem aAj:∀ps:gX,vH ps=tW ltP ps
 |[]=>rfl
 |[_]=>rfl
 |p::q::r=>by unfold vH tW;rw[aAj (q::r)]
def yC(hl:ps.length<=100000):fC [.tup (ps.map pD)]= .ok (.bl (vH ps)):=by
 rw[aAj];exact zp aJc hl
def xQ:vH ps=true↔∀(i:Nat) (p q:Int×Int),ps[i]? =some p->ps[i+1]? =some q->ltP p q=true:=by rw[aAj];exact o6
def aGT:D->Int×Int
 | .tup [.int a,.int b]=>(a,b)
 |_=>(0,0)
def aAt(h:iW m d=true):∃a b:Int,d= .tup [.int a,.int b]/\0<=a/\a<m/\0<=b/\b<m/\a≠b:=by
 unfold iW at h;split at h
 .rename_i a b
  simp at h;exact⟨a,b,rfl,h.1.1.1.1,h.1.1.1.2,h.1.1.2,h.1.2,h.2⟩
 .cases h
theorem aII:∀{ts:List D},ts.all (iW m)=true->(ts.map aGT).map pD=ts
 |[],_=>rfl
 |t::ts,h=>by
  rw[zCs,zAM]at h;obtain⟨a,b,rfl,_⟩:=aAt h.1;simp only[zAC];rw[aII h.2];rfl
def rpB(m:Int):D->Bool
 | .tup ts=>ts.all (iW m)&&vH (ts.map aGT)
 |_=>false
def aIa:D->Bool
 | .tup l=>decide (l.length<=100000)
 |_=>true
def my(h:pln d=true)(hs:aIa d=true):bM [.int m,d]= .ok (.bl (rpB m d)):=by
 cases d with
 |tup ts=>
  have hp:qC ts=true:=by simpa[pln]using h
  have hl:ts.length<=100000:=by simpa[aIa]using hs
  have L:=qM (a:=gnm 2) (u:=ifS (uI (tst (aP jc (aC (aD 0) (aC (aD 2) aH))))) (retS (cD (.bl false))) Ou.nx) (r:=.bl false)
   ts (λ i=>match ts[i]? with|some t=>iW m t|none=>true) (λ ρ=>∃s,ρ=[.sh (.int m),.sh (.tup ts),s]) [.sh (.int m),.sh (.tup ts),.no] ⟨_,rfl⟩ (by
    rintro i d ρ hd ⟨s,rfl⟩;have e:=aBR (m:=m) (zW hp (zAl hd));simp only[hd];cases c:iW m d with
    |true=>right;exact⟨_,by simp[e,c];rfl,⟨_,rfl⟩,rfl⟩
    |false=>left;exact⟨by simp[e,c],rfl⟩)
  have st:bC 3 [.int m,.tup ts]=[.sh (.int m),.sh (.tup ts),.no]:=rfl;rcases L with ⟨e,i,hi,o⟩|⟨ρ',e,⟨s,rfl⟩,o⟩
  .have:ts.all (iW m)=false:=by
    rw[List.all_eq_false];rw[zAI hi]at o;exact⟨ts[i],zCi hi,by simpa using o⟩
   simp only[bM,bD,bW,st];simp[e,rpB,this]
  .have:ts.all (iW m)=true:=by
    rw[zA7];intro t ht;obtain⟨i,hi,rfl⟩:=zBw ht
    have:=o i hi
    rw[zAI hi]at this;exact this
   have er:=yC (ps:=ts.map aGT) (by rw[zAF];exact hl);rw[aII this]at er;simp only[bM,bD,bW,st];simp[e,rpB,this,er]
 |_=>simp[bM,bD,bC,qI (rn h),qJ,rpB]
structure Ow(n:Int)(ps:gX):Prop where
 n0:0<=n
 n1:n<=60
 len:ps.length<=3600
 pr:∀p∈ps,0<=p.1/\p.1<n/\0<=p.2/\p.2<n/\p.1≠p.2
 ris:vH ps=true
def owD(n:Int)(ps:gX):D:=.tup [.int n,.tup (ps.map pD)]
def Ow.rp(h:Ow n ps):rpB n (.tup (ps.map pD))=true:=by
 have e:(ps.map pD).map aGT=ps:=by rw[zA3];exact(zBL λ p _=>rfl).trans (zEo ps)
 unfold rpB;dsimp only;rw[e,h.ris,zCr,zA7];intro d hd;obtain⟨p,hp,rfl⟩:=zAS.mp hd;obtain⟨a,b,c,d,e⟩:=h.pr p hp;simp[pD,iW,a,b,c,d,e]
theorem aBz:∀ps:gX,qC (ps.map pD)=true
 |[]=>rfl
 |p::ps=>by simp only[zAC,qC,aBz ps,zCr];rfl
theorem aAF:∀ns:List Int,bY (ns.map .int)=0/\aR (ns.map .int)=true
 |[]=>⟨rfl,rfl⟩
 |n::ns=>by
  obtain⟨h1,h2⟩:=aAF ns;simp[bY,iB,aR,aQ,h1,h2]
def aHG(neg:Bool)(y:Int)(ns:List Int):inR neg (.int y) (.lst (ns.map .int))= .ok (.bl (if neg then !decide (y∈ns)else decide (y∈ns))):=by
 obtain⟨h1,h2⟩:=aAF ns;have e:inD (.int y) (ns.map .int)=decide (y∈ns):=by
  unfold inD;rw[zAj];simp[List.any_eq_true,eqD]
 unfold inR;dsimp only;rw[h1,h2,e];rfl
def yZ(f:α->Bool)(l:List α):boolsOf (l.map λ x=>D.bl (f x))=some (l.map f):=by
 have:=rC (l.map f)
 rwa [zA3]at this
def aF8(f:α->Bool)(l:List α):ye (λ bs=>bs.all id) [.lst (l.map λ x=>D.bl (f x))]= .ok (.bl (l.all f)):=by
 unfold ye;dsimp only;rw[yZ];dsimp only;rw[zGD];rfl
theorem sE:∀(l:List α),(∀x∈l,∃ρ1,fg (f x) ρ= .ok ρ1/\ft ρ1= .ok (t x)/\fe ρ1= .ok (g x))->lcL ρ fg ft fe (l.map f)= .ok ((l.filter t).map g)
 |[],_=>rfl
 |x::l,h=>by
  obtain⟨ρ1,e1,e2,e3⟩:=h x zAE;have ih:=sE l λ y hy=>h y (zAB _ hy)
  rw[zAC];unfold lcL;rw[e1,bz,e2,bz,e3,bz,ih,bz,zAn];cases t x<;>rfl
theorem aIP{ρ:En}:∀(ps:gX),lcL [.no,.no] (gO 2 (au (gnm 0) (au (gnm 1) gP))) fO (op2 ltD (aD 0) (aD 1)) (ps.map pD)= .ok (ps.map λ p=>.bl (decide (p.1<p.2)))
 |[]=>rfl
 |p::ps=>by
  unfold lcL;simp[pD,aIP (ρ:=ρ) ps]
def aAT{n:Int}(h:Ow n ps)(low:∀p∈ps,p.1<p.2):ju [.int n,.tup (ps.map pD)]= .ok (.bl true):=by
 have hl:=h.len;have e:=my (m:=n) (d:=.tup (ps.map pD)) (by simpa[pln]using aBz ps) (by simp[aIa];lia);rw[h.rp]at e;have el:=aIP (ρ:=[]) ps;have ei:lcD (cM (aD 1)) [none,none] (gO 2 (au (gnm 0) (au (gnm 1) gP))) fO (op2 ltD (aD 0) (aD 1)) [.sh (.int n),.sh (.tup (ps.map pD))]= .ok (.lst (ps.map λ p=>.bl (decide (p.1<p.2)))):=by
  have hi:cM (aD 1) (shE [.sh (.int n),.sh (.tup (ps.map pD))])= .ok (ps.map pD):=by simp[shE,m6]
  unfold lcD;rw[hi,bz,if_pos (by rw[szl,zAF];lia)]
  show(match lcL [.no,.no] _ fO _ (ps.map pD)with| .ok l=>Rs.ok (D.lst l)|_=>Rs.st)=_
  rw[el]
 have ha:opA (ye λ bs=>bs.all id) (aC (lcD (cM (aD 1)) [none,none] (gO 2 (au (gnm 0) (au (gnm 1) gP))) fO (op2 ltD (aD 0) (aD 1))) aH) [.sh (.int n),.sh (.tup (ps.map pD))]= .ok (.bl true):=by
  rw[jm,bH,ei,bz,aCD,bz,bz,aF8,uH];rw[zA7.mpr λ p hp=>decide_eq_true (low p hp)]
 have st:bC 2 [.int n,.tup (ps.map pD)]=[.sh (.int n),.sh (.tup (ps.map pD))]:=rfl;have ec:aP bM (aC (aD 0) (aC (aD 1) aH)) [.sh (.int n),.sh (.tup (ps.map pD))]= .ok (.bl true):=by rw[j7];exact e
 simp only[ju,fj,bW,st];rw[ji,yd,ec,ha];rfl
def aCy(h:Ow n ps)(low:∀p∈ps,p.1<p.2):pM [owD n ps]= .ok (.bl true):=by
 have e1:=aBS (d:=.int n) rfl;have e2:=aAT h low;have e3:aCE (.int n)=true:=by simp[aCE,h.n0,h.n1]
 rw[e3]at e1;simp[pM,jZ,owD,bC,e1,e2]
def gf(h1:fi (shE ρ)= .ok ds)(h2:ds.length<16777216)(h3:lcL (stE js (shE ρ)) fg ft fe ds= .ok out):lcD fi js fg ft fe ρ= .ok (.lst out):=by
 unfold lcD;rw[h1,bz,if_pos (by rw[szl];exact h2),h3]
def jQ(l:List α)(h:∀x∈l,∃ρ1,fg (f x) ρ= .ok ρ1/\fe ρ1= .ok (g x)):lcL ρ fg fO fe (l.map f)= .ok (l.map g):=by
 have:=sE (ρ:=ρ) (fg:=fg) (ft:=fO) (fe:=fe) (f:=f) (g:=g) (t:=λ _=>true) l λ x hx=>by
  obtain⟨ρ1,h1,h2⟩:=h x hx;exact⟨ρ1,h1,rfl,h2⟩
 rwa [zB4.mpr λ _ _=>rfl]at this
def bx(ll:bS)(p:Int×Int):bS:=ll.set p.1.toNat (ll.getD p.1.toNat []++[.int p.2])
theorem qN:∀(ps:gX) (ll:bS),(ps.foldl bx ll).length=ll.length
 |[],_=>rfl
 |p::ps,ll=>by rw[zCx,qN ps];unfold bx;rw[zBI]
def iZ(ps:gX)(i:Int):List Int:=(ps.filter λ p=>p.1==i).map (·.2)
theorem vq:∀(ps:gX) (ll:bS) (i:Nat),(∀p∈ps,0<=p.1/\p.1<ll.length)->i<ll.length->(ps.foldl bx ll).getD i []=ll.getD i []++(iZ ps i).map .int
 |[],ll,i,_,_=>by simp[iZ]
 |p::ps,ll,i,h,hi=>by
  obtain⟨h0,h1⟩:=h p zAE;rw[zCx,vq ps (bx ll p) i (λ q hq=>by unfold bx;rw[zBI];exact h q (zAB _ hq)) (by unfold bx;rw[zBI];exact hi)];unfold bx iZ;by_cases c:p.1=i
  .have hk:p.1.toNat=i:=by lia
   rw[hk,List.filter_cons_of_pos (by simpa using c)];simp[hi]
  .have hk:p.1.toNat≠i:=by lia
   rw[List.filter_cons_of_neg (by simpa using c)];simp[zBH hk]
def xn:b∈iZ ps a↔(a,b)∈ps:=by
 unfold iZ;simp only[zAS,zAe];constructor
 .rintro⟨p,⟨h1,h2⟩,rfl⟩
  have:p.1=a:=by simpa using h2
  rw[<-this];exact h1
 .intro h
  exact⟨(a,b),⟨h,by simp⟩,rfl⟩
def dbl(ps:gX):gX:=ps.flatMap λ p=>[p,(p.2,p.1)]
def cY:(a,b)∈dbl ps↔(a,b)∈ps\/(b,a)∈ps:=by
 unfold dbl;simp only[List.mem_flatMap,zAQ,zD2,or_false];constructor
 .rintro⟨p,hp,h|h⟩
  .rw[h];exact .inl hp
  .cases h;exact .inr hp
 .rintro(h|h)
  .exact⟨_,h,.inl rfl⟩
  .exact⟨_,h,.inr rfl⟩
def aAI(p:Int×Int)(ps:gX):dbl (p::ps)=p::(p.2,p.1)::dbl ps:=rfl
def aC2(hi:ρ[i]? =some (.o2 ll))(hf:f ρ= .ok (.int a))(hg:g ρ= .ok (.int b))(h0:0<=a)(h1:a<ll.length)(hz:(ll.getD a.toNat []).length<16777216):
  nO i f g ρ= .nx (ρ.set i (.o2 (bx ll (a,b)))):=by
 have hk:a.toNat<ll.length:=by lia
 have ha:at2 ll (.int a)=some (a.toNat,ll.getD a.toNat []):=by
  have hx:ixN ll.length a=some a.toNat:=by
   unfold ixN;rw[if_pos (by lia),if_pos (by lia)]
  simp only[at2,hx,zG6];rw[zAI hk];simp[hk]
 unfold nO;rw[hi];dsimp only;rw[hf,bF,ha];dsimp only;rw[hg,bF,if_pos (by rw[zBo];exact hz)];rfl
def su(ll:bS)(p:Int×Int):(bx ll p).length=ll.length:=by unfold bx;rw[zBI]
def aBd(h:∀l∈ll,l.length<=m):∀l∈bx ll p,l.length<=m+1:=by
 intro l hl;unfold bx at hl;rcases List.mem_or_eq_of_mem_set hl with z|z
 .exact zGx (h l z)
 .subst z
  rw[zAT,zAm]
  have:(ll.getD p.1.toNat []).length<=m:=by
   by_cases hk:p.1.toNat<ll.length
   .exact h _ (by simp[hk])
   .simp[zCc (zD9 hk)]
  lia
def aCT{ll:bS}(h:∀l∈ll,l.length<=m)(k:Nat):(ll.getD k []).length<=m:=by
 by_cases hk:k<ll.length
 .exact h _ (by simp[hk])
 .simp[zCc (zD9 hk)]
def atB:En->Ou:=aZ (nO 3 (aD 4) (aq (aD 5))) (nO 3 (aD 5) (aq (aD 4)))
theorem vV{w s1 s2:Slot}:∀(ps:gX) (ll:bS) (s4 s5:Slot),(∀p∈ps,0<=p.1/\p.1<ll.length/\0<=p.2/\p.2<ll.length)->(∀l∈ll,l.length+2*ps.length<=10000)->
  ∃s4' s5',forL (gO 2 (au (gnm 4) (au (gnm 5) gP))) atB (ps.map pD) [w,s1,s2,.o2 ll,s4,s5]= .nx [w,s1,s2,.o2 ((dbl ps).foldl bx ll),s4',s5']
 |[],ll,s4,s5,_,_=>⟨s4,s5,rfl⟩
 |p::ps,ll,s4,s5,h,hl=>by
  obtain⟨a0,a1,b0,b1⟩:=h p zAE;have hb0:∀l∈ll,l.length<=10000-2*(ps.length+1):=λ l hm=>by
   have:=hl l hm
   rw[zA4]at this;lia
  have hb1:=aBd (p:=p) hb0;have hb2:=aBd (p:=(p.2,p.1)) hb1;by_cases hne:ll=[]
  .subst hne
   simp at a1;lia
  have hbig:2*(ps.length+1)<=10000:=by
   obtain⟨l,hm⟩:=List.exists_mem_of_ne_nil ll hne
   have:=hl l hm
   rw[zA4]at this;lia
  obtain⟨s4',s5',e⟩:=vV (w:=w) (s1:=s1) (s2:=s2) ps (bx (bx ll p) (p.2,p.1)) (.sh (.int p.1)) (.sh (.int p.2)) (λ q hq=>by rw[su,su];exact h q (zAB _ hq)) (λ l hm=>by have:=hb2 l hm;lia);refine⟨s4',s5',?_⟩;rw[zAC,b7,aAI,zCx,zCx];have hg:okE (gO 2 (au (gnm 4) (au (gnm 5) gP)) (pD p) [w,s1,s2,.o2 ll,s4,s5]) (λ ρ1=>(atB ρ1).tn (forL (gO 2 (au (gnm 4) (au (gnm 5) gP))) atB (ps.map pD)))=
    (atB [w,s1,s2,.o2 ll,.sh (.int p.1),.sh (.int p.2)]).tn (forL (gO 2 (au (gnm 4) (au (gnm 5) gP))) atB (ps.map pD)):=by
   simp[pD]
  have c1:nO 3 (aD 4) (aq (aD 5)) [w,s1,s2,.o2 ll,.sh (.int p.1),.sh (.int p.2)]= .nx [w,s1,s2,.o2 (bx ll p),.sh (.int p.1),.sh (.int p.2)]:=
   aC2 (a:=p.1) (b:=p.2) rfl (by simp) (by simp) a0 a1 (by have:=aCT hb0 p.1.toNat;lia)
  have c2:nO 3 (aD 5) (aq (aD 4)) [w,s1,s2,.o2 (bx ll p),.sh (.int p.1),.sh (.int p.2)]= .nx [w,s1,s2,.o2 (bx (bx ll p) (p.2,p.1)),.sh (.int p.1),.sh (.int p.2)]:=
   aC2 (a:=p.2) (b:=p.1) rfl (by simp) (by simp) b0 (by rw[su];exact b1) (by have:=aCT hb1 p.2.toNat;lia)
  have hc:atB [w,s1,s2,.o2 ll,.sh (.int p.1),.sh (.int p.2)]= .nx [w,s1,s2,.o2 (bx (bx ll p) (p.2,p.1)),.sh (.int p.1),.sh (.int p.2)]:=by
   unfold atB;rw[aK,c1,aU,c2]
  rw[hg,hc,jF];exact e
structure aHe(n:Int)(es:gX)(ll:bS):Prop where
 len:ll.length=n.toNat
 item:∀i:Int,0<=i->i<n->∃ws:List Int,atD (ll.map .lst) i= .ok (.lst (ws.map .int))/\∀b,b∈ws↔(i,b)∈es
def pK(h:Ow n ps):∃ll,cj [owD n ps]= .ok (.lst (ll.map .lst))/\aHe n (dbl ps) ll/\∀i:Int,0<=i->i<n->atD (ll.map .lst) i= .ok (.lst ((iZ (dbl ps) i).map .int)):=by
 have hn0:=h.n0;have hn1:=h.n1;have hr:=jH (j:=n) (by lia) (by lia);have hW:(bL 0 n).length=n.toNat:=by rw[jU];lia
 have hps:=h.len;have hin:∀p∈ps,0<=p.1/\p.1<(zAN n.toNat ([]:List D)).length/\0<=p.2/\p.2<(zAN n.toNat ([]:List D)).length:=λ p hp=>by
  obtain⟨a,b,c,d,_⟩:=h.pr p hp;rw[zCJ];lia
 have bP:∀p∈dbl ps,0<=p.1/\p.1<(zAN n.toNat ([]:List D)).length:=λ p hp=>by
  rcases cY.mp (show(p.1,p.2)∈dbl ps from hp)with z|z
  .have:=hin _ z;exact⟨this.1,this.2.1⟩
  .have:=hin _ z;exact⟨this.2.2.1,this.2.2.2⟩
 obtain⟨s4,s5,e⟩:=vV (w:=.sh (owD n ps)) (s1:=.sh (.int n)) (s2:=.sh (.tup (ps.map pD))) ps (zAN n.toNat []) .no .no hin (λ l hl=>by
  rw[(List.mem_replicate.mp hl).2];simp;lia)
 have item:∀i:Int,0<=i->i<n->atD (((dbl ps).foldl bx (zAN n.toNat [])).map .lst) i= .ok (.lst ((iZ (dbl ps) i).map .int)):=by
  intro i h0 h1;have hk:i.toNat<(zAN n.toNat ([]:List D)).length:=by rw[zCJ];lia
  have hg:=vq (dbl ps) (zAN n.toNat []) i.toNat bP hk;have hk2:i.toNat<((dbl ps).foldl bx (zAN n.toNat [])).length:=by rw[qN];exact hk
  have hi:((i.toNat:Nat):Int)=i:=zBS h0;rw[hi]at hg;rw[<-hi];refine dq ?_;rw[hi,zAP,zAI hk2]
  have:((dbl ps).foldl bx (zAN n.toNat []))[i.toNat]=(iZ (dbl ps) i).map .int:=by
   have e1:((dbl ps).foldl bx (zAN n.toNat [])).getD i.toNat []=((dbl ps).foldl bx (zAN n.toNat []))[i.toNat]:=by simp[hk2]
   rw[<-e1,hg];have e2:(zAN n.toNat ([]:List D)).getD i.toNat []=[]:=by
    rw[zBG,zC4];split<;>rfl
   rw[e2,zCy]
  rw[this];rfl
 refine⟨(dbl ps).foldl bx (zAN n.toNat []),?_,⟨by rw[qN,zCJ],λ i h0 h1=>⟨iZ (dbl ps) i,item i h0 h1,λ b=>xn⟩⟩,item⟩
 .have hz:n.toNat<16777216:=by lia
  have a0:aB5 (aD 0) (gO 2 (au (gnm 1) (au (gnm 2) gP))) [.sh (owD n ps),.no,.no,.no,.no,.no]= .nx [.sh (owD n ps),.sh (.int n),.sh (.tup (ps.map pD)),.no,.no,.no]:=by
   simp[owD]
  have a1:llS 3 (jB kI (aC (aD 1) aH)) [none] (gnm 0) [.sh (owD n ps),.sh (.int n),.sh (.tup (ps.map pD)),.no,.no,.no]= .nx [.sh (owD n ps),.sh (.int n),.sh (.tup (ps.map pD)),.o2 (zAN n.toNat []),.no,.no]:=by
   unfold llS;simp[shE,m6,hr,hW,hz]
  have a2:gh (cM (aD 2)) (gO 2 (au (gnm 4) (au (gnm 5) gP))) atB [.sh (owD n ps),.sh (.int n),.sh (.tup (ps.map pD)),.o2 (zAN n.toNat []),.no,.no]= .nx [.sh (owD n ps),.sh (.int n),.sh (.tup (ps.map pD)),.o2 ((dbl ps).foldl bx (zAN n.toNat [])),s4,s5]:=by
   have hi:cM (aD 2) [.sh (owD n ps),.sh (.int n),.sh (.tup (ps.map pD)),.o2 (zAN n.toNat []),.no,.no]= .ok (ps.map pD):=by simp
   rw[cI,hi,bF];exact e
  have a3:retS (rE 3) [.sh (owD n ps),.sh (.int n),.sh (.tup (ps.map pD)),.o2 ((dbl ps).foldl bx (zAN n.toNat [])),s4,s5]= .rt (.lst (((dbl ps).foldl bx (zAN n.toNat [])).map .lst)):=by simp
  have st:bC 6 [owD n ps]=[.sh (owD n ps),.no,.no,.no,.no,.no]:=rfl;have df:fu=aZ (aB5 (aD 0) (gO 2 (au (gnm 1) (au (gnm 2) gP)))) (aZ (llS 3 (jB kI (aC (aD 1) aH)) [none] (gnm 0)) (aZ (gh (cM (aD 2)) (gO 2 (au (gnm 4) (au (gnm 5) gP))) atB) (retS (rE 3)))):=rfl;simp only[cj,df,bW,st];rw[aK,a0,aU,aK,a1,aU,aK,a2,aU,a3]
def aAV(h:Ow n ps):∃ll,cj [owD n ps]= .ok (.lst (ll.map .lst))/\aHe n (dbl ps) ll:=let⟨ll,a,b,_⟩:=pK h;⟨ll,a,b⟩
def aF7(ps:gX):List Int->Bool
 |a::b::r=>decide ((a,b)∈ps)&&aF7 ps (b::r)
 |_=>true
def aLb:D->Bool
 | .tup l=>decide (l.length<4000)
 |_=>true
theorem aCU{a:D->En->Rs En}{u:En->Ou}{I:En->Prop}:∀(ds:List D) (ρ:En),I ρ->(∀d∈ds,∀ρ,I ρ->∃ρ',okE (a d ρ) u= .nx ρ'/\I ρ')->∃ρ',forL a u ds ρ= .nx ρ'/\I ρ'
 |[],ρ,h,_=>⟨ρ,rfl,h⟩
 |d::ds,ρ,h,H=>by
  rw[b7];have tnE:∀(r':Rs En) (k:En->Ou),okE r' (λ ρ1=>(u ρ1).tn k)=(okE r' u).tn k:=λ r' k=>by cases r'<;>rfl
  rw[tnE];obtain⟨ρ',e,hI⟩:=H d zAE ρ h;rw[e,jF];exact aCU ds ρ' hI λ y hy=>H y (zAB _ hy)
theorem aEQ:∀ws:List Int,qC (ws.map .int)=true
 |[]=>rfl
 |_::ws=>by simp only[zAC,qC,aEQ ws,pln];rfl
theorem lU:∀ws:List Int,dJ (ws.map .int)=true
 |[]=>rfl
 |_::ws=>by simp only[zAC,dJ,lU ws,imm];rfl
theorem mO:∀{l:List D},(∀d∈l,imm d=true)->dJ l=true
 |[],_=>rfl
 |x::r,h=>by
  simp only[dJ,zAM];exact⟨h x (zAE ..),mO λ d hd=>h d (zAB _ hd)⟩
theorem aAG:∀{l:List D},(∀d∈l,iB d<=k)->bY l<=k
 |[],_=>zAi _
 |x::r,h=>by
  unfold bY;exact Nat.max_le.mpr ⟨h x zAE,aAG λ d hd=>h d (zAB _ hd)⟩
theorem vd:∀{l:List D},(∀d∈l,aQ d=true)->aR l=true
 |[],_=>rfl
 |x::r,h=>by
  unfold aR;rw[h x zAE,vd λ d hd=>h d (zAB _ hd)];rfl
structure El(k:Nat)(d:D):Prop where
 p:pln d=true
 e:iB d<=k
 n:aQ d=true
 i:imm d=true
theorem El.tup(h:∀d∈l,El k d):El (k+1) (.tup l):=⟨by unfold pln;exact aCA λ d hd=>(h d hd).p,by unfold iB;exact zHO (aAG λ d hd=>(h d hd).e),by unfold aQ;exact vd λ d hd=>(h d hd).n,by unfold imm;exact mO λ d hd=>(h d hd).i⟩
theorem El.int{k:Nat}{i:Int}:El k (.int i):=⟨rfl,zAi _,rfl,rfl⟩
def El.ints{k:Nat}{ws:List Int}:∀d∈ws.map D.int,El k d:=λ d hd=>by obtain⟨w,_,rfl⟩:=zAS.mp hd;exact .int
def El.g(h:El k d):pA d= .ok d:=yK h.i
def aLi(h:l.length+m.length<=16777216):dF (.tup l) (.tup m)= .ok (.tup (l++m)):=by rw[aAX,if_pos h]
structure Fn4(d:D):Prop where
 p:pln d=true
 s:aLb d=true
 e:iB d<=60
 n:aQ d=true
theorem aEt{c:En->Rs Bool}{b:En->Ou}{I:Nat->En->Prop}(st:∀m ρ,I m ρ->c ρ= .ok false\/(c ρ= .ok true/\∃ρ' m',b ρ= .nx ρ'/\m'<m/\I m' ρ')):
  ∀(n m:Nat) (ρ:En),m<n->I m ρ->∃ρ' m',itW c b n ρ= .nx ρ'/\I m' ρ'/\c ρ'= .ok false
 |0,_,_,h,_=>absurd h (zFC _)
 |n+1,m,ρ,h,hI=>by
  rcases st m ρ hI with e|⟨e,ρ',m',e2,hm,hI'⟩
  .exact⟨ρ,m,by unfold itW;rw[e];rfl,hI,e⟩
  .obtain⟨ρ2,m2,e3,r⟩:=aEt st n m' ρ' (by lia) hI'
   refine⟨ρ2,m2,?_,r⟩;unfold itW;rw[e,bF,if_pos rfl,e2];exact e3
def yj{c:En->Rs Bool}{b:En->Ou}(I:Nat->En->Prop)(st:∀m ρ,I m ρ->c ρ= .ok false\/(c ρ= .ok true/\∃ρ' m',b ρ= .nx ρ'/\m'<m/\I m' ρ')){m:Nat}{ρ:En}(hm:m<1000000)(h:I m ρ):
  ∃ρ' m',pO c b ρ= .nx ρ'/\I m' ρ'/\c ρ'= .ok false:=aEt st fuel m ρ hm h
def upI(n:Int):List Int:=(zBE n.toNat).map λ(k:Nat)=>(k:Int)
def tU(n:Int):bL 0 n=(upI n).map .int:=by
 unfold bL upI;rw[zA3,show(n-0).toNat=n.toNat by lia];exact zBL λ k _=>by simp
def iQ(n:Int):(upI n).Nodup:=by
 unfold upI;rw[zAs,zBD];exact List.nodup_range.imp λ h e=>h (by lia)
def bR:x∈upI n↔0<=x/\x<n:=by
 unfold upI;rw[zAS];constructor
 .rintro⟨k,hk,rfl⟩
  have:=zCa.mp hk
  lia
 .rintro⟨h0,h1⟩
  exact⟨x.toNat,zCa.mpr (by lia),by lia⟩
def cA(n:Int):(upI n).length=n.toNat:=by unfold upI;simp
def aCb(h:l.length<64):nC [.lst (l.map .int)]= .ok (.lst ((sortI l).map .int)):=by
 cases l with
 |nil=>rfl
 |cons i r=>
  have e:kW ((i::r).map D.int)=none:=rfl;unfold nC;dsimp only;rw[e];dsimp only;rw[dM];dsimp only;rw[if_pos h]
def aLB(hf:f ρ= .ok (.int n))(h0:0<=n)(h1:n<=60):lrD f ρ= .ok (.lst (bL 0 n)):=by
 unfold lrD;rw[hf,bz];unfold lrR;simp;lia
def yR(h:Ow n ps)(low:∀p∈ps,p.1<p.2):fD [owD n ps]= .ok .non:=by
 have st:bC 1 [owD n ps]=[.sh (owD n ps)]:=rfl;simp only[fD,fB,bW,st];simp[aCy h low]
inductive Cn(es:gX)(a:Int):Int->Prop where
 |refl:Cn es a a
 |step {b c:Int} (h:Cn es a b) (e:(b,c)∈es):Cn es a c
def Cn.trans(h:Cn es a b)(k:Cn es b c):Cn es a c:=by
 induction k with
 |refl=>exact h
 |step _ e ih=>exact ih.step e
def Sym(es:gX):Prop:=∀a b,(a,b)∈es->(b,a)∈es
def pG(ps:gX):Sym (dbl ps):=λ a b h=>cY.mpr (cY.mp h).symm
def Cn.symm(S:Sym es)(h:Cn es a b):Cn es b a:=by
 induction h with
 |refl=>exact .refl
 |step _ e ih=>exact Cn.trans (.step .refl (S _ _ e)) ih
def Cn.inn(hin:∀x y,(x,y)∈es->0<=y/\y<n)(h:Cn es a b)(ha:0<=a/\a<n):0<=b/\b<n:=by
 induction h with
 |refl=>exact ha
 |step _ e _=>exact hin _ _ e
structure Path(es:gX)(a b:Int)(l:List Int):Prop where
 hd:l.head?=some a
 lt:l.getLast?=some b
 al:aF7 es l=true
def prB(p:Prop):Bool:=@decide p (zEe p)
def aBy:prB p=true↔p:=@decide_eq_true_iff p (zEe p)
def bU(n:Int)(es:gX)(a:Int):List Int:=(upI n).filter λ b=>prB (Cn es a b)
def uM:b∈bU n es a↔(0<=b/\b<n)/\Cn es a b:=by
 unfold bU;rw[zAe,bR,aBy]
def bK(es:gX)(a:Int):Bool:=prB (∀b,0<=b->Cn es a b->a<=b)
def cL:bK es a=true↔∀b,0<=b->Cn es a b->a<=b:=aBy
def lJ(n:Int)(es:gX):gV:=((upI n).filter (bK es)).map (bU n es)
def sU(n:Int):(upI n).Pairwise (·< ·):=by
 unfold upI;rw[zBD];exact List.pairwise_lt_range.imp λ h=>by lia
theorem aEA:∀{l m:List Int},l.Pairwise (·< ·)->m.Pairwise (·< ·)->(∀x,x∈l↔x∈m)->l=m
 |[],[],_,_,_=>rfl
 |[],b::m,_,_,h=>by have:=(h b).mpr zAE;cases this
 |a::l,[],_,_,h=>by have:=(h a).mp zAE;cases this
 |a::l,b::m,h1,h2,h=>by
  obtain⟨p1,p2⟩:=zAb.mp h1;obtain⟨q1,q2⟩:=zAb.mp h2;have e:a=b:=by
   rcases zAQ.mp ((h a).mp zAE)with z|z
   .exact z
   .rcases zAQ.mp ((h b).mpr zAE)with y|y
    .exact y.symm
    .have:=q1 a z;have:=p1 b y;lia
  subst e;rw[aEA p2 q2 λ x=>?_];constructor
  .intro hx
   rcases zAQ.mp ((h x).mp (zAB _ hx))with z|z
   .subst z;have:=p1 x hx;lia
   .exact z
  .intro hx
   rcases zAQ.mp ((h x).mpr (zAB _ hx))with z|z
   .subst z;have:=q1 x hx;lia
   .exact z
def wZ(nd:l.Nodup):(sortI l).Pairwise (·< ·):=by
 have h1:=pP l;have h2:(sortI l).Nodup:=(sortI_perm l).nodup_iff.mpr nd;rw[zAs]at h2;exact(h1.and h2).imp λ⟨a,b⟩=>by lia
def aAb(nd:l.Nodup)(h:∀x,x∈l↔(0<=x/\x<n)/\Cn es a x):sortI l=bU n es a:=
 aEA (wZ nd) ((sU n).filter _) λ x=>by rw[(sortI_perm l).mem_iff,h,uM]
abbrev wE(ll:bS)(a:Int)(part:List Int)(k:Int)(s4 s5:Slot):En:=[.sh (.lst (ll.map .lst)),.sh (.int a),.ow (.lst (part.map .int)),.sh (.int k),s4,s5]
structure Pw(n:Int)(es:gX)(a:Int)(part:List Int):Prop where
 nd:part.Nodup
 cn:∀x∈part,Cn es a x
 inn:∀x∈part,0<=x/\x<n
 st:a∈part
section
variable{n:Int}{es:gX}{ll:bS}{a k:Int}{part:List Int}{s4 s5:Slot}
def Pw.len(P:Pw n es a part):part.length<=n.toNat:=by
 have:=sub_len (l':=upI n) P.nd λ x hx=>bR.mpr (P.inn x hx)
 rwa [cA]at this
theorem tZ(hn:n<=60)(hin:∀x y,(x,y)∈es->0<=y/\y<n):∀(us:List Int) (part:List Int) (s5:Slot),(∀u∈us,(p,u)∈es)->p∈part->Pw n es a part->
  ∃part' s5',forL (gnm 5) pwI (us.map .int) (wE ll a part k s4 s5)= .nx (wE ll a part' k s4 s5')/\Pw n es a part'/\(∃m,part'=part++m)/\∀u∈us,u∈part'
 |[],part,s5,_,_,P=>⟨part,s5,rfl,P,⟨[],by simp⟩,λ u hu=>by cases hu⟩
 |u::us,part,s5,h,hp,P=>by
  have hu:=h u zAE;have hl:=P.len;rw[zAC,b7,oH,fU]
  show∃part' s5',(pwI (wE ll a part k s4 (.sh (.int u)))).tn _=_/\_
  have hi:=aHG true u part;by_cases hm:u∈part
  .have e:pwI (wE ll a part k s4 (.sh (.int u)))= .nx (wE ll a part k s4 (.sh (.int u))):=by simp[pwI,hi,hm]
   rw[e,jF];obtain⟨part',s5',e2,P',⟨m,hm'⟩,h2⟩:=tZ hn hin us part (.sh (.int u)) (λ v hv=>h v (zAB _ hv)) hp P;refine⟨part',s5',e2,P',⟨m,hm'⟩,λ v hv=>?_⟩;rcases zAQ.mp hv with rfl|hv
   .rw[hm'];exact zAJ _ hm
   .exact h2 v hv
  .have hz:part.length<16777216:=by lia
   have e:pwI (wE ll a part k s4 (.sh (.int u)))= .nx (wE ll a (part++[u]) k s4 (.sh (.int u))):=by simp[pwI,hi,hm,j8,hz]
   rw[e,jF];have P1:Pw n es a (part++[u]):=by
    refine⟨?_,λ x hx=>?_,λ x hx=>?_,zAJ _ P.st⟩
    .rw[zAk]
     exact⟨P.nd,by simp,λ x hx y hy z=>by rw[zAK.mp hy]at z;subst z;exact hm hx⟩
    .rcases zAX.mp hx with hx|hx
     .exact P.cn x hx
     .rw[zAK.mp hx];exact(P.cn p hp).step hu
    .rcases zAX.mp hx with hx|hx
     .exact P.inn x hx
     .rw[zAK.mp hx];exact hin _ _ hu
   obtain⟨part',s5',e2,P',⟨m,hm'⟩,h2⟩:=tZ hn hin us (part++[u]) (.sh (.int u)) (λ v hv=>h v (zAB _ hv)) (zAJ _ hp) P1;refine⟨part',s5',e2,P',⟨[u]++m,by rw[hm',zAx]⟩,λ v hv=>?_⟩;rcases zAQ.mp hv with rfl|hv
   .rw[hm'];exact zAJ _ (by simp)
   .exact h2 v hv
def xW(hn:n<=60)(N:aHe n es ll)(hin:∀x y,(x,y)∈es->0<=y/\y<n)(h0:0<=a)(h1:a<n):gR [.lst (ll.map .lst),.int a]= .ok (tupI (bU n es a)):=by
 have st:bC 6 [.lst (ll.map .lst),.int a]=[.sh (.lst (ll.map .lst)),.sh (.int a),.no,.no,.no,.no]:=rfl;obtain⟨ρ',m',e,⟨part,k,s4,s5,rfl,P,hk,hcl,_⟩,ht⟩:=yj (c:=pwT) (b:=pwW)
  (λ m ρ=>∃(part:List Int) (k:Nat) (s4 s5:Slot),ρ=wE ll a part k s4 s5/\Pw n es a part/\k<=part.length/\(∀i x,i<k->part[i]? =some x->∀y,(x,y)∈es->y∈part)/\m=n.toNat-k)
  (by
   rintro m ρ ⟨part,k,s4,s5,rfl,P,hk,hcl,rfl⟩;have hl:=P.len;by_cases hlt:k<part.length
   .right
    have hx:=zAI hlt;have ha:atD (part.map .int) (k:Int)= .ok (.int part[k]):=dq (by rw[zAP,hx];rfl);have hp:=P.inn _ (zCi hlt);obtain⟨us,e1,e2⟩:=N.item _ hp.1 hp.2;obtain⟨part',s5',e3,P',⟨m,hm⟩,h2⟩:=tZ (ll:=ll) (k:=(k:Int)) (s4:=.nw (.int part[k])) hn hin us part s5 (λ u hu=>(e2 u).mp hu) (zCi hlt) P;have c0:pwT (wE ll a part k s4 s5)= .ok true:=by simp[pwT,hlt]
    have c1:oY 4 (aq (op2 ixD (dC 2) (aD 3))) (wE ll a part k s4 s5)= .nx (wE ll a part k (.nw (.int part[k])) s5):=by simp[ha]
    have c2:gh (cM (op2 ixD (aD 0) (kE 4))) (gnm 5) pwI (wE ll a part k (.nw (.int part[k])) s5)= .nx (wE ll a part' k (.nw (.int part[k])) s5'):=by
     have hi:cM (op2 ixD (aD 0) (kE 4)) (wE ll a part k (.nw (.int part[k])) s5)= .ok (us.map .int):=by simp[e1]
     rw[cI,hi,bF,e3]
    have c3:aH6 (i2 (λ _ _=>true) λ a b=>.int (a+b)) 3 (cD (.int 1)) (wE ll a part' k (.nw (.int part[k])) s5')= .nx (wE ll a part' ((k:Int)+1) (.nw (.int part[k])) s5'):=rfl;refine⟨c0,wE ll a part' ((k+1:Nat):Int) (.nw (.int part[k])) s5',n.toNat-(k+1),?_,by lia,part',k+1,_,_,rfl,P',?_,λ i x hi hx' y hy=>?_,rfl⟩
    .rw[pwW,aK,c1,aU,aK,c2,aU,c3]
     rfl
    .rw[hm,zAT];lia
    .by_cases hik:i=k
     .subst hik
      rw[hm,zBh hlt,hx]at hx';cases hx';exact h2 y ((e2 y).mpr hy)
     .rw[hm,zBh (by lia)]at hx'
      rw[hm];exact zAJ _ (hcl i x (by lia) hx' y hy)
   .left
    simp[pwT,show¬k<part.length from hlt])
  (m:=n.toNat-0) (ρ:=wE ll a [a] (0:Nat) .no .no) (by lia) ⟨[a],0,.no,.no,rfl,⟨by simp,λ x hx=>by rw[zAK.mp hx];exact .refl,λ x hx=>by rw[zAK.mp hx];exact⟨h0,h1⟩,by simp⟩,by simp,λ i x hi=>absurd hi (zFC _),rfl⟩
 have hlt:¬k<part.length:=λ z=>by
  have:pwT (wE ll a part k s4 s5)= .ok true:=by simp[pwT,z]
  rw[this]at ht;cases ht
 have go:∀x,Cn es a x->x∈part:=λ x hc=>by
  induction hc with
  |refl=>exact P.st
  |step hb he ih=>
   obtain⟨i,hi,hx⟩:=zBw ih;exact hcl i _ (by lia) (by rw[zAI hi,hx]) _ he
 have iX:∀x,x∈part↔(0<=x/\x<n)/\Cn es a x:=λ x=>⟨λ hx=>⟨P.inn x hx,P.cn x hx⟩,λ h=>go x h.2⟩
 have hs:=aCb (l:=part) (by have:=P.len;lia);rw[aAb P.nd iX]at hs;have c0:di 2 (gJ (aC (aq (aD 1)) aH)) [.sh (.lst (ll.map .lst)),.sh (.int a),.no,.no,.no,.no]= .nx [.sh (.lst (ll.map .lst)),.sh (.int a),.ow (.lst [.int a]),.no,.no,.no]:=by simp
 have c1:cT 3 (cD (.int 0)) [.sh (.lst (ll.map .lst)),.sh (.int a),.ow (.lst [.int a]),.no,.no,.no]= .nx (wE ll a [a] (0:Nat) .no .no):=rfl;simp only[gR,eY,bW,st];rw[aK,c0,aU,aK,c1,aU,aK,e,aU];have hd:dC 2 (wE ll a part k s4 s5)= .ok (.lst (part.map .int)):=rfl;rw[ji,jm,bH,jm,bH,hd];simp[hs,tupI]
end
abbrev qE(ll:bS)(w:D)(rws:gV)(seen:List Int)(s4 s5 s6:Slot):En:=[.sh (.lst (ll.map .lst)),.sh w,.ow (.lst (rws.map tupI)),.ow (.set seen),s4,s5,s6]
section
variable{n:Int}{es:gX}{ll:bS}{w:D}{rws:gV}{s4 s5 s6:Slot}
theorem zX:∀(us:List Int) (seen:List Int) (s6:Slot),(∀u∈us,0<=u/\u<n)->seen.Nodup->(∀u∈seen,0<=u/\u<n)->n<=60->
  ∃seen' s6',forL (gnm 6) paF (us.map .int) (qE ll w rws seen s4 s5 s6)= .nx (qE ll w rws seen' s4 s5 s6')/\seen'.Nodup/\(∀x,x∈seen'↔x∈seen\/x∈us)/\(∀u∈seen',0<=u/\u<n)
 |[],seen,s6,_,nd,hin,_=>⟨seen,s6,rfl,nd,λ x=>by simp,hin⟩
 |u::us,seen,s6,h,nd,hin,hn=>by
  have hl:seen.length<=n.toNat:=by
   have:=sub_len (l':=upI n) nd λ x hx=>bR.mpr (hin x hx)
   rwa [cA]at this
  have nd':=aAH (z:=u) nd;have hm':∀x,x∈zBB seen u↔x∈seen\/x=u:=λ x=>by
   have:=wI seen u x
   rw[zAj]at this;simpa using this.symm
  obtain⟨seen',s6',e,q1,q2,q3⟩:=zX us (zBB seen u) (.sh (.int u)) (λ v hv=>h v (zAB _ hv)) nd' (λ x hx=>by
   rcases(hm' x).mp hx with z|z
   .exact hin x z
   .rw[z];exact h u zAE) hn
  refine⟨seen',s6',?_,q1,λ x=>?_,q3⟩
  .rw[zAC,b7,oH,fU]
   show(paF (qE ll w rws seen s4 s5 (.sh (.int u)))).tn _=_
   have e1:paF (qE ll w rws seen s4 s5 (.sh (.int u)))= .nx (qE ll w rws (zBB seen u) s4 s5 (.sh (.int u))):=by
    have hv:aq (aD 6) (qE ll w rws seen s4 s5 (.sh (.int u)))= .ok (.int u):=by simp
    show((aq (aD 6) (qE ll w rws seen s4 s5 (.sh (.int u)))).bo λ d=>aAW (qE ll w rws seen s4 s5 (.sh (.int u))) 3 seen d)=_
    rw[hv,bF];unfold aAW;dsimp only;rw[if_pos (by lia)];rfl
   rw[e1,jF,e]
  .rw[q2,hm',zAQ]
   constructor
   .rintro((z|z)|z)
    .exact .inl z
    .exact .inr (.inl z)
    .exact .inr (.inr z)
   .rintro(z|z|z)
    .exact .inl (.inl z)
    .exact .inl (.inr z)
    .exact .inr z
def rZ(k:Nat):upI ((k+1:Nat):Int)=upI (k:Int)++[(k:Int)]:=by
 unfold upI;rw[zGq,zGq,List.range_succ,zAZ];rfl
def uC(hn0:0<=n)(hn:n<=60)(S:Sym es)(N:aHe n es ll)(hin:∀x y,(x,y)∈es->0<=y/\y<n):dB [.lst (ll.map .lst),.lst (bL 0 n)]= .ok (.lst ((lJ n es).map tupI)):=by
 have st:bC 7 [.lst (ll.map .lst),.lst (bL 0 n)]=[.sh (.lst (ll.map .lst)),.sh (.lst (bL 0 n)),.no,.no,.no,.no,.no]:=rfl;obtain⟨ρ',e,seen,s4,s5,s6,rfl,_⟩:=lY (a:=gnm 4) (u:=paB) (ds:=bL 0 n)
  (λ k ρ=>∃(seen:List Int) (s4 s5 s6:Slot),ρ=qE ll (.lst (bL 0 n)) (((upI (k:Int)).filter (bK es)).map (bU n es)) seen s4 s5 s6/\seen.Nodup/\(∀x,x∈seen↔(0<=x/\x<n)/\∃j,(0<=j/\j<(k:Int))/\Cn es j x))
  (by
   rintro i d ρ hd ⟨seen,s4,s5,s6,rfl,nd,hs⟩;obtain⟨rfl,hlt⟩:=o5 hd;rw[zDM]at hlt ⊢;have hk:0<=(i:Int)/\(i:Int)<n:=⟨by lia,hlt⟩;have hg:okE (gnm 4 (.int (i:Int)) (qE ll (.lst (bL 0 n)) (((upI (i:Int)).filter (bK es)).map (bU n es)) seen s4 s5 s6)) (λ ρ1=>paB ρ1)=paB (qE ll (.lst (bL 0 n)) (((upI (i:Int)).filter (bK es)).map (bU n es)) seen (.sh (.int (i:Int))) s5 s6):=rfl;rw[hg];have hlb:bK es (i:Int)= !decide ((i:Int)∈seen):=by
    rw[zAj,cL];constructor
    .intro h
     simp only[zBQ,decide_eq_false_iff_not];intro hm;obtain⟨_,j,hj,hc⟩:=(hs _).mp hm
     have:=h j hj.1 (hc.symm S)
     lia
    .intro h b hb hc
     simp only[zBQ,decide_eq_false_iff_not]at h
     have:=λ z:b<(i:Int)=>h ((hs _).mpr ⟨hk,b,⟨hb,z⟩,hc.symm S⟩)
     lia
   have hx:inX true (.int (i:Int)) (.set seen)= .ok (.bl (!decide ((i:Int)∈seen))):=rfl;have hrl:(((upI (i:Int)).filter (bK es)).map (bU n es)).length<16777216:=by
    rw[zAF]
    have:=zBU (bK es) (upI (i:Int))
    rw[cA]at this;lia
   by_cases hm:(i:Int)∈seen
   .have hb:paB (qE ll (.lst (bL 0 n)) (((upI (i:Int)).filter (bK es)).map (bU n es)) seen (.sh (.int (i:Int))) s5 s6)= .nx (qE ll (.lst (bL 0 n)) (((upI (i:Int)).filter (bK es)).map (bU n es)) seen (.sh (.int (i:Int))) s5 s6):=by
     simp[paB,hx,hm]
    refine⟨_,hb,seen,.sh (.int (i:Int)),s5,s6,?_,nd,λ x=>?_⟩
    .rw[rZ,zAz,zAn,hlb]
     simp[hm]
    .rw[hs]
     constructor
     .rintro⟨h1,j,h2,h3⟩
      exact⟨h1,j,⟨h2.1,by lia⟩,h3⟩
     .rintro⟨h1,j,h2,h3⟩
      by_cases hj:j<(i:Int)
      .exact⟨h1,j,⟨h2.1,hj⟩,h3⟩
      .have hj':j=(i:Int):=by lia
       subst hj';obtain⟨_,j',h4,h5⟩:=(hs _).mp hm;exact⟨h1,j',h4,h5.trans h3⟩
   .have hp:=xW hn N hin hk.1 hk.2
    have hsin:∀u∈seen,0<=u/\u<n:=λ u hu=>((hs u).mp hu).1
    obtain⟨seen',s6',e,q1,q2,q3⟩:=zX (ll:=ll) (w:=.lst (bL 0 n)) (rws:=((upI (i:Int)).filter (bK es)).map (bU n es)++[bU n es (i:Int)]) (s4:=.sh (.int (i:Int))) (s5:=.sh (tupI (bU n es (i:Int)))) (bU n es (i:Int)) seen s6 (λ u hu=>(uM.mp hu).1) nd hsin hn;have gi:pA (tupI (bU n es (i:Int)))= .ok (tupI (bU n es (i:Int))):=(El.tup (k:=0) El.ints).g;have hb:paB (qE ll (.lst (bL 0 n)) (((upI (i:Int)).filter (bK es)).map (bU n es)) seen (.sh (.int (i:Int))) s5 s6)= .nx (qE ll (.lst (bL 0 n)) (((upI (i:Int)).filter (bK es)).map (bU n es)++[bU n es (i:Int)]) seen' (.sh (.int (i:Int))) (.sh (tupI (bU n es (i:Int)))) s6'):=by
     have t1:tsb (op2 (inX true) (aD 4) (dC 3)) (qE ll (.lst (bL 0 n)) (((upI (i:Int)).filter (bK es)).map (bU n es)) seen (.sh (.int (i:Int))) s5 s6)= .ok true:=by simp[hx,hm]
     have t2:cT 5 (aP gR (aC (aD 0) (aC (aD 4) aH))) (qE ll (.lst (bL 0 n)) (((upI (i:Int)).filter (bK es)).map (bU n es)) seen (.sh (.int (i:Int))) s5 s6)= .nx (qE ll (.lst (bL 0 n)) (((upI (i:Int)).filter (bK es)).map (bU n es)) seen (.sh (.int (i:Int))) (.sh (tupI (bU n es (i:Int)))) s6):=by simp[hp]
     have t3:j8 2 (aq (aD 5)) (qE ll (.lst (bL 0 n)) (((upI (i:Int)).filter (bK es)).map (bU n es)) seen (.sh (.int (i:Int))) (.sh (tupI (bU n es (i:Int)))) s6)= .nx (qE ll (.lst (bL 0 n)) (((upI (i:Int)).filter (bK es)).map (bU n es)++[bU n es (i:Int)]) seen (.sh (.int (i:Int))) (.sh (tupI (bU n es (i:Int)))) s6):=by
      generalize ((upI (i:Int)).filter (bK es)).map (bU n es)=R at hrl ⊢;have hv:aq (aD 5) (qE ll (.lst (bL 0 n)) R seen (.sh (.int (i:Int))) (.sh (tupI (bU n es (i:Int)))) s6)= .ok (tupI (bU n es (i:Int))):=by simp[gi]
      show((aq (aD 5) (qE ll (.lst (bL 0 n)) R seen (.sh (.int (i:Int))) (.sh (tupI (bU n es (i:Int)))) s6)).bo λ d=>if (R.map tupI).length<zAR then .nx [.sh (.lst (ll.map .lst)),.sh (.lst (bL 0 n)),.ow (.lst (R.map tupI++[d])),.ow (.set seen),.sh (.int (i:Int)),.sh (tupI (bU n es (i:Int))),s6]else .st)=_
      rw[hv,bF,if_pos (by rw[szl,zAF];exact hrl)];simp[zAZ]
     have t4:cM (aD 5) (qE ll (.lst (bL 0 n)) (((upI (i:Int)).filter (bK es)).map (bU n es)++[bU n es (i:Int)]) seen (.sh (.int (i:Int))) (.sh (tupI (bU n es (i:Int)))) s6)= .ok ((bU n es (i:Int)).map .int):=by simp[tupI]
     rw[paB,jq,t1,bF,if_pos rfl,aK,t2,aU,aK,t3,aU,cI,t4,bF,e]
    refine⟨_,hb,seen',.sh (.int (i:Int)),.sh (tupI (bU n es (i:Int))),s6',?_,q1,λ x=>?_⟩
    .rw[rZ,zAz,zAn,hlb]
     simp[hm]
    .rw[q2,hs,uM]
     constructor
     .rintro(⟨h1,j,h2,h3⟩|⟨h1,h2⟩)
      .exact⟨h1,j,⟨h2.1,by lia⟩,h3⟩
      .exact⟨h1,(i:Int),⟨by lia,by lia⟩,h2⟩
     .rintro⟨h1,j,h2,h3⟩
      by_cases hj:j<(i:Int)
      .exact .inl ⟨h1,j,⟨h2.1,hj⟩,h3⟩
      .have hj':j=(i:Int):=by lia
       subst hj';exact .inr ⟨h1,h3⟩)
  (ρ:=qE ll (.lst (bL 0 n)) [] [] .no .no .no) ⟨[],.no,.no,.no,rfl,zHV,λ x=>⟨λ h=>(nomatch h),λ⟨_,j,h,_⟩=>absurd h.2 (by have:=h.1;lia)⟩⟩
 have c0:di 2 (gJ aH) [.sh (.lst (ll.map .lst)),.sh (.lst (bL 0 n)),.no,.no,.no,.no,.no]= .nx [.sh (.lst (ll.map .lst)),.sh (.lst (bL 0 n)),.ow (.lst []),.no,.no,.no,.no]:=by simp
 have c1:di 3 (cD (.set [])) [.sh (.lst (ll.map .lst)),.sh (.lst (bL 0 n)),.ow (.lst []),.no,.no,.no,.no]= .nx (qE ll (.lst (bL 0 n)) [] [] .no .no .no):=rfl;have hi:cM (aD 1) (qE ll (.lst (bL 0 n)) [] [] .no .no .no)= .ok (bL 0 n):=by simp
 have hln:(((bL 0 n).length:Nat):Int)=n:=by rw[jU];lia
 rw[hln]at e;simp only[dB,cz,bW,st];rw[aK,c0,aU,aK,c1,aU,aK,cI,hi,bF,e,aU];simp[lJ]
def aEZ(h:Ow n ps)(low:∀p∈ps,p.1<p.2):sO [owD n ps]= .ok (.lst ((lJ n (dbl ps)).map tupI)):=by
 obtain⟨ll,e,N⟩:=aAV h;have st:bC 1 [owD n ps]=[.sh (owD n ps)]:=rfl;have hp:=uC h.n0 h.n1 (pG ps) N (λ x y m=>by
  rcases cY.mp m with z|z
  .have:=h.pr _ z;exact⟨this.2.2.1,this.2.2.2.1⟩
  .have:=h.pr _ z;exact⟨this.1,this.2.1⟩)
 have hlr:=aLB (f:=op2 ixD (aD 0) (cD (.int 0))) (ρ:=[.sh (owD n ps)]) (n:=n) (by simp[owD]) h.n0 h.n1;have c0:uq (aP fD (aC (aD 0) aH)) [.sh (owD n ps)]= .nx [.sh (owD n ps)]:=by simp[yR h low]
 have c1:aP dB (aC (aP cj (aC (aD 0) aH)) (aC (lrD (op2 ixD (aD 0) (cD (.int 0)))) aH)) [.sh (owD n ps)]= .ok (.lst ((lJ n (dbl ps)).map tupI)):=by
  rw[j7,bH,j7,bH,bH,hlr];simp[e,hp]
 have df:mW=aZ (uq (aP fD (aC (aD 0) aH))) (retS (aP dB (aC (aP cj (aC (aD 0) aH)) (aC (lrD (op2 ixD (aD 0) (cD (.int 0)))) aH)))):=rfl;simp only[sO,df,bW,st];rw[aK,c0,aU,ji,c1];rfl
end
def pl(p:Int×Int):List Int:=[p.1,p.2]
def aFk(p:Int×Int):tupI (pl p)=pD p:=rfl
def aJB{p q:Int×Int}(h:pl p=pl q):p=q:=by
 unfold pl at h;injection h with h1 h2
 injection h2 with h2 _
 exact zHc h1 h2
def vD{ps:gX}(nd:ps.Nodup):∃qs:gX,tE (ps.map pl)=qs.map pl/\qs.Perm ps/\vH qs=true:=by
 obtain⟨qs,q1,q2⟩:=oh (f:=pl) (nT (ps.map pl)) rfl;refine⟨qs,q2,q1,xQ.mpr λ i p q e1 e2=>?_⟩;have hr:=kj (ps.map pl);rw[q2]at hr;have hnd:qs.Nodup:=q1.nodup_iff.mpr nd;have h1:=(zAO.mp e1).1;have h2:=(zAO.mp e2).1;have f1:(qs.map pl)[i]'(by simpa using h1)=pl p:=by
  rw[zCh,(zAO.mp e1).2]
 have f2:(qs.map pl)[i+1]'(by simpa using h2)=pl q:=by
  rw[zCh,(zAO.mp e2).2]
 have z:=zBJ.mp hr i (i+1) (by simpa using h1) (by simpa using h2) (by omega);rw[f1,f2]at z;have hne:p≠q:=λ e=>by
  subst e
  have:=(zCN h1 hnd).mp (e1.trans e2.symm)
  omega
 show HT.lexLt (pl p) (pl q)=true;cases c:HT.lexLt (pl p) (pl q)with
 |true=>rfl
 |false=>exact absurd (aJB (uN _ _ c z)) hne
def aC7(ps:gX):kW (ps.map pD)=some (ps.map pl):=by
 have:=sV (nss:=ps.map pl) λ ns h=>by
  obtain⟨p,_,rfl⟩:=zAS.mp h;simp[pl]
 rw[zA3]at this;exact this
def tD{ps:gX}(nd:ps.Nodup)(h:ps.length<64):∃qs:gX,nC [.lst (ps.map pD)]= .ok (.lst (qs.map pD))/\qs.Perm ps/\vH qs=true:=by
 obtain⟨qs,q1,q2,q3⟩:=vD nd;refine⟨qs,?_,q2,q3⟩;unfold nC;dsimp only;rw[aC7];dsimp only;rw[if_pos (by rw[zAF];exact h),q1,zA3];exact congrArg (λ l=>Rs.ok (D.lst l)) (zBL λ p _=>aFk p)
def mnI(a b:Int):Int:=if b<a then b else a
def mxI(a b:Int):Int:=if b>a then b else a
def aLf{a b a' b':Int}(h:mnI a b=mnI a' b')(h':mxI a b=mxI a' b'):b=a'\/b=b':=by
 unfold mnI at h;unfold mxI at h';split at h<;>split at h<;>split at h'<;>split at h'<;>lia
def aKz{a b:Int}(h:a≠b):mnI a b<mxI a b:=by
 unfold mnI mxI;split<;>split<;>lia
def aEc{a b:Int}(P:Int->Prop)(ha:P a)(hb:P b):P (mnI a b)/\P (mxI a b):=by
 unfold mnI mxI;constructor<;>split<;>assumption
abbrev foV(c most n kd:Int)(O:List Int)(ps:gX)(s6 s7:Slot):En:=[.sh (.int c),.sh (.int most),.sh (.int n),.sh (.int kd),.nw (.lst (O.map .int)),.ow (.lst (ps.map pD)),s6,s7]
section
variable{c most n kd:Int}{O:List Int}
def aE4{s4 s5 s6 s7:Slot}(h0:0<=n)(h1:n<=60):∃O:List Int,foO [.sh (.int c),.sh (.int most),.sh (.int n),.sh (.int kd),s4,s5,s6,s7]= .ok (.lst (O.map .int))/\O.Perm (upI n):=by
 have hr:=jH (j:=n) (by lia) (by lia);have hd:∀i:Int,∃r:Int,0<=i->i<n->aj [.int c,.int (200+i),.int 97]= .ok (.int r):=λ i=>by
  by_cases q:0<=i/\i<n
  .obtain⟨r,e,_⟩:=jt (c:=c) (k:=200+i) (b:=97) (by lia) (by lia) (by decide) (by decide)
   exact⟨r,λ _ _=>e⟩
  .exact⟨0,λ a b=>absurd ⟨a,b⟩ q⟩
 obtain⟨f,hf⟩:=Classical.skolem.mp hd;have e1:∀ρ:En,ρ=shE [.sh (.int c),.sh (.int most),.sh (.int n),.sh (.int kd),s4,s5,s6,s7]->lcD (jB kI (aC (aD 2) aH)) [none,some 0] (gnm 0) fO (dI (aC (aP aj (aC (aD 1) (aC (op2 dF (cD (.int 200)) (aD 0)) (aC (cD (.int 97)) aH)))) (aC (aq (aD 0)) aH))) ρ= .ok (.lst (((upI n).map λ i=>(f i,i)).map pD)):=λ ρ e=>by
  subst e;refine gf (ds:=(upI n).map .int) (by rw[<-tU];simp[shE,m6,shS,hr]) (by rw[zAF,cA];lia) ?_;rw[zA3];refine jQ (f:=D.int) (g:=λ i=>pD (f i,i)) (upI n) λ i hi=>⟨[.sh (.int i),.sh (.int c)],rfl,?_⟩
  have hi':=bR.mp hi;simp[hf i hi'.1 hi'.2,pD]
 have nd:((upI n).map λ i=>(f i,i)).Nodup:=by
  rw[zAs,zBD];exact(sU n).imp λ{a b} h e=>by
   have:=congrArg zHd e
   dsimp only at this;lia
 obtain⟨qs,q1,q2,q3⟩:=tD nd (by rw[zAF,cA];lia);have hql:qs.length<=60:=by rw[q2.length_eq,zAF,cA];lia
 refine⟨qs.map (·.2),?_,?_⟩
 .unfold foO
  refine gf (ds:=qs.map pD) ?_ (by rw[zAF];lia) ?_
  .rw[aGz,jm,bH,e1 _ rfl]
   simp[q1,-zA3]
  .rw[zA3]
   refine jQ (f:=pD) (g:=λ p=>.int p.2) qs λ p hp=>⟨[.sh (pD p)],rfl,?_⟩
   simp[pD]
 .have:=q2.map (·.2)
  rw[zA3]at this;simpa[zEF]using this
inductive Fr:gX->Prop where
 |nil:Fr []
 |snoc {ps:gX} {a b:Int} (h:Fr ps) (ne:a≠b) (no:∀p∈ps,p.1≠b/\p.2≠b):Fr (ps++[(mnI a b,mxI a b)])
structure Fo(O:List Int)(v:Nat)(ps:gX):Prop where
 nd:ps.Nodup
 fr:Fr ps
 at_:∀p∈ps,∃(i j:Nat) (a b:Int),i<j/\j<v/\O[i]? =some a/\O[j]? =some b/\p=(mnI a b,mxI a b)
def Fo.up{ps:gX}{v:Nat}(F:Fo O v ps):Fo O (v+1) ps:=⟨F.nd,F.fr,λ p hp=>by
 obtain⟨i,j,a,b,h1,h2,h3⟩:=F.at_ p hp;exact⟨i,j,a,b,h1,by lia,h3⟩⟩
theorem Fo.snoc{ps:gX}{v i:Nat}{a b:Int}(hO:O.Nodup)(F:Fo O v ps)(hi:i<v)(ha:O[i]? =some a)(hb:O[v]? =some b):Fo O (v+1) (ps++[(mnI a b,mxI a b)]):=by
 have hne:∀{k:Nat} {x:Int},k<v->O[k]? =some x->x≠b:=λ{k x} hk hx e=>by
  subst e
  have:=(zCN (zAO.mp hb).1 hO).mp (hb.trans hx.symm)
  lia
 refine⟨?_,.snoc F.fr (hne hi ha) λ p hp=>?_,λ p hp=>?_⟩
 rotate_left
 .obtain⟨i',j',a',b',h1,h2,h3,h4,rfl⟩:=F.at_ p hp
  exact aEc (λ x=>x≠b) (hne (by lia) h3) (hne h2 h4)
 rotate_left
 .rw[zAk]
  refine⟨F.nd,by simp,λ p hp q hq e=>?_⟩;rw[zAK]at hq;subst hq;obtain⟨i',j',a',b',h1,h2,h3,h4,rfl⟩:=F.at_ p hp;have hv:=(zAO.mp hb).1;rcases aLf (congrArg zEg e).symm (congrArg zHd e).symm with z|z
  .subst z
   have:=(zCN hv hO).mp (hb.trans h3.symm)
   lia
  .subst z
   have:=(zCN hv hO).mp (hb.trans h4.symm)
   lia
 .rcases zAX.mp hp with z|z
  .exact F.up.at_ p z
  .rw[zAK]at z
   exact⟨i,v,a,b,hi,by lia,ha,hb,z⟩
def aJx{ps:gX}{v:Nat}{s7:Slot}(hO:O.Nodup)(hv:v<O.length)(hv0:0<v)(hv2:v<60)(hk0:0<=kd)(hk:kd<4)(hl:ps.length<=v)(F:Fo O v ps):
  ∃ps' s7',foB (foV c most n kd O ps (.sh (.int (v:Int))) s7)= .nx (foV c most n kd O ps' (.sh (.int (v:Int))) s7')/\ps'.length<=v+1/\Fo O (v+1) ps':=by
 obtain⟨r3,e3,h3⟩:=jt (c:=c) (k:=300+(v:Int)) (b:=(v:Int)) (by lia) (by lia) (by lia) (by lia);obtain⟨r4,e4,h4⟩:=jt (c:=c) (k:=400+(v:Int)) (b:=3) (by lia) (by lia) (by decide) (by decide);obtain⟨r5,e5,h5⟩:=jt (c:=c) (k:=500+(v:Int)) (b:=(v:Int)) (by lia) (by lia) (by lia) (by lia);obtain⟨r6,e6,h6⟩:=jt (c:=c) (k:=600+(v:Int)) (b:=9) (by lia) (by lia) (by decide) (by decide);have f2:gn (.int (v:Int)) (.int 2)= .ok (.int ((v:Int) / 2)):=jX (by decide) (by decide);have f4:gn (.int (v:Int)) (.int 4)= .ok (.int ((v:Int) / 4)):=jX (by decide) (by decide);obtain⟨d,ed,hd,_⟩:=aF4 (l:=[.int ((v:Int)-1),.int ((v:Int) / 2),.int ((v:Int) / 4),.int (r3:Int)]) (i:=kd) hk0 (by simpa using hk);obtain⟨u,rfl,hu⟩:∃u:Nat,d= .int (u:Int)/\u<v:=by
  simp only[zAQ,zD2,or_false]at hd;rcases hd with rfl|rfl|rfl|rfl
  .exact⟨v-1,by congr 1;lia,by lia⟩
  .exact⟨v / 2,by congr 1,by lia⟩
  .exact⟨v / 4,by congr 1,by lia⟩
  .exact⟨r3,rfl,by lia⟩
 have g1:oY 7 (op2 ixD (gJ (aC (op2 rF (aD 6) (cD (.int 1))) (aC (op2 gn (aD 6) (cD (.int 2))) (aC (op2 gn (aD 6) (cD (.int 4))) (aC (aP aj (aC (aD 0) (aC (op2 dF (cD (.int 300)) (aD 6)) (aC (aD 6) aH)))) aH))))) (aD 3)) (foV c most n kd O ps (.sh (.int (v:Int))) s7)= .nx (foV c most n kd O ps (.sh (.int (v:Int))) (.nw (.int (u:Int)))):=by simp[e3,f2,f4,ed]
 obtain⟨t,ht,g2⟩:∃t:Nat,t<v/\ifS (tsb (op2 (eqR false) (aP aj (aC (aD 0) (aC (op2 dF (cD (.int 400)) (aD 6)) (aC (cD (.int 3)) aH)))) (cD (.int 0)))) (oY 7 (aP aj (aC (aD 0) (aC (op2 dF (cD (.int 500)) (aD 6)) (aC (aD 6) aH))))) Ou.nx (foV c most n kd O ps (.sh (.int (v:Int))) (.nw (.int (u:Int))))= .nx (foV c most n kd O ps (.sh (.int (v:Int))) (.nw (.int (t:Int)))):=by
  by_cases q:r4=0
  .exact⟨r5,by lia,by simp[e4,e5,q]⟩
  .exact⟨u,hu,by simp[e4,q]⟩
 have htl:t<O.length:=by lia
 obtain⟨a,ha⟩:∃a,O[t]? =some a:=⟨_,zAI htl⟩
 obtain⟨b,hb⟩:∃b,O[v]? =some b:=⟨_,zAI hv⟩
 have xa:atD (O.map .int) (t:Int)= .ok (.int a):=dq (by rw[zAP,ha];rfl);have xb:atD (O.map .int) (v:Int)= .ok (.int b):=dq (by rw[zAP,hb];rfl);have hz:ps.length<16777216:=by lia
 by_cases q:0<r6
 .refine⟨ps++[(mnI a b,mxI a b)],.nw (.int (t:Int)),?_,by simp;lia,F.snoc hO ht ha hb⟩
  rw[foB,aK,g1,aU,aK,g2,aU];simp[e6,q,xa,xb,j8,hz,pD,mnI,mxI]
 .refine⟨ps,.nw (.int (t:Int)),?_,by lia,F.up⟩
  rw[foB,aK,g1,aU,aK,g2,aU];simp[e6,q]
def vL{most:Nat}(h1:most<=60):∃n ps,fL [.int c,.int most]= .ok (owD n ps)/\Ow n ps/\(∀p∈ps,p.1<p.2)/\n<=most/\∃rs,ps.Perm rs/\Fr rs:=by
 obtain⟨n,en,hn⟩:=jt (c:=c) (k:=0) (b:=(most:Int)+1) (by decide) (by decide) (by lia) (by lia);obtain⟨kd,ek,hk⟩:=jt (c:=c) (k:=1) (b:=4) (by decide) (by decide) (by decide) (by decide);obtain⟨O,eO,hO⟩:=aE4 (c:=c) (most:=most) (n:=n) (kd:=kd) (s4:=.no) (s5:=.no) (s6:=.no) (s7:=.no) (by lia) (by lia);have hnd:O.Nodup:=hO.nodup_iff.mpr (by
  rw[zAs];exact(sU n).imp λ h=>by lia)
 have hW:O.length=n:=by rw[hO.length_eq,cA];lia
 have aT:∀a∈O,0<=a/\a<(n:Int):=λ a ha=>bR.mp (hO.mem_iff.mp ha)
 have hr:=xO (i:=1) (j:=(n:Int)) (by decide) (by decide) (by lia) (by lia);have hrl:(bL 1 (n:Int)).length<=60:=by rw[jU];lia
 obtain⟨ρ',e,ps,s6,s7,rfl,hl,F⟩:=lY (a:=gnm 6) (u:=foB) (ds:=bL 1 n)
  (λ i ρ=>∃(ps:gX) (s6 s7:Slot),ρ=foV c most n kd O ps s6 s7/\ps.length<=i+1/\Fo O (i+1) ps)
  (by
   rintro i d ρ hd ⟨ps,s6,s7,rfl,hps,F⟩;obtain⟨rfl,hlt⟩:=o5 hd;have hi:((1:Int)+(i:Int))=((i+1:Nat):Int):=by lia
   rw[hi];obtain⟨ps',s7',e,l',F'⟩:=aJx (c:=c) (most:=most) (n:=n) (kd:=kd) (v:=i+1) (s7:=s7) hnd (by lia) (by lia) (by lia) (by lia) hk hps F;exact⟨_,e,ps',_,s7',rfl,l',F'⟩)
  (ρ:=foV c most n kd O [] .no .no) ⟨[],.no,.no,rfl,by simp,⟨by simp,.nil,λ p hp=>(nomatch hp)⟩⟩
 have hps60:ps.length<=61:=by lia
 obtain⟨qs,q1,q2,q3⟩:=tD F.nd (by lia);have hq:∀p∈qs,(0<=p.1/\p.1<(n:Int))/\(0<=p.2/\p.2<(n:Int))/\p.1<p.2:=λ p hp=>by
  obtain⟨i,j,a,b,h1,h2,h3,h4,rfl⟩:=F.at_ p (q2.mem_iff.mp hp);have hne:a≠b:=λ e=>by
   subst e
   have:=(zCN (zAO.mp h3).1 hnd).mp (h3.trans h4.symm)
   lia
  obtain⟨m1,m2⟩:=aEc (λ x=>0<=x/\x<(n:Int)) (aT a (zAl h3)) (aT b (zAl h4));exact⟨m1,m2,aKz hne⟩
 have hpl:ps.length<=n:=by
  rcases Nat.eq_zero_or_pos n with z|z
  .have:ps=[]:=by
    cases ps with
    |nil=>rfl
    |cons p ps=>
     obtain⟨m1,_⟩:=hq p (q2.mem_iff.mpr zAE);lia
   rw[this];exact zAi _
  .rw[jU]at hl
   lia
 refine⟨n,qs,?_,⟨by lia,by lia,by rw[q2.length_eq];lia,λ p hp=>?_,q3⟩,λ p hp=>(hq p hp).2.2,by lia,ps,q2,F.fr⟩
 .have st:bC 8 [.int c,.int most]=[.sh (.int c),.sh (.int most),.no,.no,.no,.no,.no,.no]:=rfl
  have g1:cT 2 (aP aj (aC (aD 0) (aC (cD (.int 0)) (aC (op2 dF (aD 1) (cD (.int 1))) aH)))) [.sh (.int c),.sh (.int most),.no,.no,.no,.no,.no,.no]= .nx [.sh (.int c),.sh (.int most),.sh (.int n),.no,.no,.no,.no,.no]:=by simp[en]
  have g2:cT 3 (aP aj (aC (aD 0) (aC (cD (.int 1)) (aC (cD (.int 4)) aH)))) [.sh (.int c),.sh (.int most),.sh (.int n),.no,.no,.no,.no,.no]= .nx [.sh (.int c),.sh (.int most),.sh (.int n),.sh (.int kd),.no,.no,.no,.no]:=by simp[ek]
  have g3:oY 4 foO [.sh (.int c),.sh (.int most),.sh (.int n),.sh (.int kd),.no,.no,.no,.no]= .nx [.sh (.int c),.sh (.int most),.sh (.int n),.sh (.int kd),.nw (.lst (O.map .int)),.no,.no,.no]:=by rw[aFu,eO];rfl
  have g4:di 5 (gJ aH) [.sh (.int c),.sh (.int most),.sh (.int n),.sh (.int kd),.nw (.lst (O.map .int)),.no,.no,.no]= .nx (foV c most n kd O [] .no .no):=rfl;have g5:jB xP (aC (cD (.int 1)) (aC (aD 2) aH)) (foV c most n kd O [] .no .no)= .ok (bL 1 n):=by simp[hr]
  simp only[fL,dh,bW,st];rw[aK,g1,aU,aK,g2,aU,aK,g3,aU,aK,g4,aU,aK,cI,g5,bF,e,aU];simp[q1,owD]
 .obtain⟨⟨a1,a2⟩,⟨b1,b2⟩,lt⟩:=hq p hp
  exact⟨a1,a2,b1,b2,by lia⟩
end
def aCF:ltP p q=true↔p.1<q.1\/p.1=q.1/\p.2<q.2:=by
 unfold ltP;have e:HT.lexLt [p.1,p.2] [q.1,q.2]=true↔p.1<q.1\/p.1=q.1/\p.2<q.2:=by
  by_cases h1:p.1=q.1
  .by_cases h2:p.2=q.2
   .simp[HT.lexLt,h1,h2]
   .simp[HT.lexLt,h1,h2]
  .simp[HT.lexLt,h1]
 exact e
def tV{ps:gX}:vH ps=true↔ps.Pairwise λ p q=>p.1<q.1\/p.1=q.1/\p.2<q.2:=by
 constructor
 .intro h
  have h':=xQ.mp h;clear h;induction ps with
  |nil=>exact .nil
  |cons p ps ih=>
   have hs:∀(i:Nat) (p q:Int×Int),ps[i]? =some p->ps[i+1]? =some q->ltP p q=true:=λ i a b e1 e2=>h' (i+1) a b e1 e2
   have hp:=ih hs;refine zAb.mpr ⟨λ q hq=>?_,hp⟩;cases ps with
   |nil=>cases hq
   |cons r rs=>
    have h1:=aCF.mp (h' 0 p r rfl rfl);rcases zAQ.mp hq with rfl|hq
    .exact h1
    .have h2:=(zAb.mp hp).1 q hq
     lia
 .intro h
  rw[xQ];intro i p q e1 e2;rw[aCF];obtain⟨h1,rfl⟩:=zAO.mp e1;obtain⟨h2,rfl⟩:=zAO.mp e2;exact zBJ.mp h i (i+1) h1 h2 (zCm i)
def yD{n:Int}{ps:gX}(h:Ow n ps)(low:∀p∈ps,p.1<p.2):gU [owD n ps]= .ok (.bl (((lJ n (dbl ps)).length:Int)==n-(ps.length:Int))):=by
 have e:=aEZ h low;have st:bC 1 [owD n ps]=[.sh (owD n ps)]:=rfl;have h0:ixD (owD n ps) (.int 0)= .ok (.int n):=by simp[owD]
 have h1:ixD (owD n ps) (.int 1)= .ok (.tup (ps.map pD)):=by simp[owD]
 simp only[gU,eZ,bW,st];simp[e,h0,h1]
section
variable{ps qs:gX}{S:List Int}
def inN(S:List Int)(ps:gX):Nat:=(ps.filter λ p=>decide (p.1∈S)&&decide (p.2∈S)).length
def Ac(ps:gX):Prop:=∀S:List Int,S.Nodup->S≠[]->inN S ps+1<=S.length
def aEz(h:ps.Perm qs):inN S ps=inN S qs:=(h.filter _).length_eq
def Ac.perm(h:ps.Perm qs)(A:Ac qs):Ac ps:=λ S nd ne=>by rw[aEz h];exact A S nd ne
def qb(a b:Int):(mnI a b=a/\mxI a b=b)\/(mnI a b=b/\mxI a b=a):=by
 unfold mnI mxI;split<;>split
 .lia
 .exact .inr ⟨rfl,rfl⟩
 .exact .inl ⟨rfl,rfl⟩
 .have:a=b:=by lia
  exact .inl ⟨rfl,this⟩
def aEd{a b:Int}:(decide (mnI a b∈S)&&decide (mxI a b∈S))=(decide (a∈S)&&decide (b∈S)):=by
 rcases qb a b with ⟨h1,h2⟩|⟨h1,h2⟩
 .rw[h1,h2]
 .rw[h1,h2,Bool.and_comm]
def Fr.ac(h:Fr ps):Ac ps:=by
 induction h with
 |nil=>
  intro S _ ne
  have:=List.length_pos_iff.mpr ne
  show 0+1<=S.length;lia
 |@snoc ps a b h ne no ih=>
  intro S nd hS;unfold inN;rw[zAz,zAT,zAn,zDe];dsimp only;rw[aEd];by_cases c:a∈S/\b∈S
  .rw[if_pos (by simp[c])]
   have e:(ps.filter λ p=>decide (p.1∈S)&&decide (p.2∈S))=ps.filter λ p=>decide (p.1∈S.erase b)&&decide (p.2∈S.erase b):=zAv λ p hp=>by
    simp only[zCP (no p hp).1,zCP (no p hp).2]
   have h1:=ih (S.erase b) (nd.erase b) (zDG ((zCP ne).mpr c.1));unfold inN at h1;rw[zDQ c.2]at h1;rw[e];simp only[zA4,zB5];lia
  .rw[if_neg (by simpa using c)]
   have:=ih S nd hS
   unfold inN at this;simpa using this
end
section
variable{n:Int}{ps qs:gX}
def Cn.sub(h:Cn es a b)(s:∀p∈es,p∈es'):Cn es' a b:=by
 induction h with
 |refl=>exact .refl
 |step _ e ih=>exact ih.step (s _ e)
def aBB{a b x y:Int}:(x,y)∈dbl (ps++[(mnI a b,mxI a b)])↔(x,y)∈dbl ps\/(x=a/\y=b)\/(x=b/\y=a):=by
 rw[cY,cY,zAX,zAX,zAK,zAK,zEC,zEC];rcases qb a b with ⟨h1,h2⟩|⟨h1,h2⟩
 .rw[h1,h2]
  constructor
  .rintro((h|h)|(h|h))
   .exact .inl (.inl h)
   .exact .inr (.inl h)
   .exact .inl (.inr h)
   .exact .inr (.inr ⟨h.2,h.1⟩)
  .rintro((h|h)|(h|h))
   .exact .inl (.inl h)
   .exact .inr (.inl h)
   .exact .inl (.inr h)
   .exact .inr (.inr ⟨h.2,h.1⟩)
 .rw[h1,h2]
  constructor
  .rintro((h|h)|(h|h))
   .exact .inl (.inl h)
   .exact .inr (.inr h)
   .exact .inl (.inr h)
   .exact .inr (.inl ⟨h.2,h.1⟩)
  .rintro((h|h)|(h|h))
   .exact .inl (.inl h)
   .exact .inr (.inl h)
   .exact .inr (.inr ⟨h.2,h.1⟩)
   .exact .inl (.inr h)
def alone(no:∀p∈ps,p.1≠b/\p.2≠b)(h:Cn (dbl ps) x y):x=b↔y=b:=by
 induction h with
 |refl=>exact Iff.rfl
 |@step u v _ e ih=>
  have:u≠b/\v≠b:=by
   rcases cY.mp e with z|z
   .exact⟨(no _ z).1,(no _ z).2⟩
   .exact⟨(no _ z).2,(no _ z).1⟩
  rw[ih];exact⟨λ z=>absurd z this.1,λ z=>absurd z this.2⟩
def aH0(no:∀p∈ps,p.1≠b/\p.2≠b)(h:Cn (dbl (ps++[(mnI a b,mxI a b)])) x y):Cn (dbl ps) x y\/(Cn (dbl ps) x a/\y=b)\/(x=b/\Cn (dbl ps) a y):=by
 induction h with
 |refl=>exact .inl .refl
 |@step u v _ e ih=>
  rcases aBB.mp e with e2|⟨rfl,rfl⟩|⟨rfl,rfl⟩
  .rcases ih with h|⟨h,e3⟩|⟨e3,h⟩
   .exact .inl (h.step e2)
   .exact .inr (.inl ⟨h,(alone no (.step .refl e2)).mp e3⟩)
   .exact .inr (.inr ⟨e3,h.step e2⟩)
  .rcases ih with h|⟨h,e1⟩|⟨h,k⟩
   .exact .inr (.inl ⟨h,rfl⟩)
   .exact .inr (.inl ⟨h,rfl⟩)
   .subst h;exact .inl .refl
  .rcases ih with h|⟨h,_⟩|⟨h,k⟩
   .have:=(alone no h).mpr rfl
    subst this;exact .inr (.inr ⟨rfl,.refl⟩)
   .exact .inl h
   .exact .inr (.inr ⟨h,.refl⟩)
def aEk(hin:∀p∈ps,(0<=p.1/\p.1<n)/\(0<=p.2/\p.2<n))(ha:0<=a/\a<n):∃m,(0<=m/\m<n)/\Cn (dbl ps) a m/\bK (dbl ps) m=true:=by
 have bP:∀x y,(x,y)∈dbl ps->0<=y/\y<n:=λ x y h=>by
  rcases cY.mp h with z|z
  .exact(hin _ z).2
  .exact(hin _ z).1
 have:∀k:Nat,∀a:Int,(0<=a/\a<n)->a.toNat<=k->∃m,(0<=m/\m<n)/\Cn (dbl ps) a m/\bK (dbl ps) m=true:=by
  intro k;induction k with
  |zero=>exact λ a ha hk=>⟨a,ha,.refl,cL.mpr λ b hb _=>by lia⟩
  |succ k ih=>
   intro a ha hk;by_cases c:bK (dbl ps) a=true
   .exact⟨a,ha,.refl,c⟩
   .rw[cL]at c
    obtain⟨b,hb⟩:=Classical.not_forall.mp c;obtain⟨hb0,hb⟩:=zFm.mp hb;obtain⟨hb1,hb⟩:=zFm.mp hb;obtain⟨m,h1,h2,h3⟩:=ih b (hb1.inn bP ha) (by lia);exact⟨m,h1,hb1.trans h2,h3⟩
 exact this a.toNat a ha (zAV _)
def aHU{l:List Int}{p:Int->Bool}{M:Int}(nd:l.Nodup)(hm:M∈l)(hp:p M=true):(l.filter λ x=>p x&& !decide (x=M)).length+1=(l.filter p).length:=by
 induction l with
 |nil=>cases hm
 |cons x l ih=>
  obtain⟨h1,h2⟩:=zA9.mp nd;by_cases c:x=M
  .subst c
   have e:(l.filter λ y=>p y&& !decide (y=x))=l.filter p:=zAv λ y hy=>by
    have:y≠x:=λ e=>h1 (e▸hy)
    simp[this]
   simp[hp,e]
  .have hm':M∈l:=(zAQ.mp hm).resolve_left λ e=>c e.symm
   have:=ih h2 hm'
   by_cases d:p x=true
   .simp[d,c];exact this
   .simp[d];exact this
def Fr.parts(h:Fr ps)(hin:∀p∈ps,(0<=p.1/\p.1<n)/\(0<=p.2/\p.2<n)):((upI n).filter (bK (dbl ps))).length+ps.length=n.toNat:=by
 induction h with
 |nil=>
  have e:(upI n).filter (bK (dbl []))=upI n:=zB4.mpr λ x hx=>cL.mpr λ b hb h=>by
   have:∀y,Cn (dbl []) x y->y=x:=λ y h=>by
    induction h with
    |refl=>rfl
    |step _ e _=>cases e
   rw[this b h];exact zBy _
  rw[e,cA];rfl
 |@snoc ps a b h ne no ih=>
  have hin':∀p∈ps,(0<=p.1/\p.1<n)/\(0<=p.2/\p.2<n):=λ p hp=>hin p (zAJ _ hp)
  have hab:(0<=a/\a<n)/\(0<=b/\b<n):=by
   have:=hin (mnI a b,mxI a b) (by simp)
   dsimp only at this;rcases qb a b with ⟨h1,h2⟩|⟨h1,h2⟩
   .rw[h1,h2]at this;exact this
   .rw[h1,h2]at this;exact⟨this.2,this.1⟩
  obtain⟨m,hm1,hm2,hm3⟩:=aEk hin' hab.1;have hmb:m≠b:=λ z=>ne ((alone no hm2).mpr z)
  have S:=pG ps;have S':=pG (ps++[(mnI a b,mxI a b)]);have sub:∀p∈dbl ps,p∈dbl (ps++[(mnI a b,mxI a b)]):=λ p hp=>aBB.mpr (.inl hp)
  have tie:Cn (dbl (ps++[(mnI a b,mxI a b)])) m b:=((hm2.sub sub).symm S').step (aBB.mpr (.inr (.inl ⟨rfl,rfl⟩)));have lb:bK (dbl ps) b=true:=cL.mpr λ y _ h=>by rw[(alone no h).mp rfl];exact zBy _
  have key:∀x∈upI n,bK (dbl (ps++[(mnI a b,mxI a b)])) x=(bK (dbl ps) x&& !decide (x=if m<b then b else m)):=λ x hx=>by
   have hx:=bR.mp hx;rw[zAj,zAM,cL,cL];constructor
   .intro h
    refine⟨λ y hy hc=>h y hy (hc.sub sub),?_⟩;rw[zBQ,decide_eq_false_iff_not];intro e;split at e
    .subst e
     have:=h m hm1.1 (tie.symm S')
     lia
    .subst e
     have:=h b hab.2.1 tie
     lia
   .rintro⟨h,hM⟩ y hy hc
    rw[zBQ,decide_eq_false_iff_not]at hM;rcases aH0 no hc with h1|⟨h1,rfl⟩|⟨rfl,h1⟩
    .exact h y hy h1
    .have e1:=h m hm1.1 (h1.trans hm2)
     have e2:=cL.mp hm3 x hx.1 ((hm2.symm S).trans (h1.symm S));split at hM<;>lia
    .have e1:=cL.mp hm3 y hy ((hm2.symm S).trans h1)
     split at hM<;>lia
  rw[zAv key];have hM:(if m<b then b else m)∈upI n:=by
   split
   .exact bR.mpr hab.2
   .exact bR.mpr hm1
  have hp:bK (dbl ps) (if m<b then b else m)=true:=by
   split
   .exact lb
   .exact hm3
  have:=aHU (iQ n) hM hp
  have:=ih hin'
  rw[zAT,zAm];lia
def aBK(h:∀p,p∈ps↔p∈qs):bK (dbl ps)=bK (dbl qs):=by
 have e:∀p,p∈dbl ps↔p∈dbl qs:=λ⟨x,y⟩=>by rw[cY,cY,h,h]
 funext x;rw[zAj,cL,cL];exact⟨λ k y hy hc=>k y hy (hc.sub λ p hp=>(e p).mpr hp),λ k y hy hc=>k y hy (hc.sub λ p hp=>(e p).mp hp)⟩
def uQ(h:Ow n ps)(low:∀p∈ps,p.1<p.2)(hp:ps.Perm qs)(F:Fr qs):gU [owD n ps]= .ok (.bl true):=by
 rw[yD h low];have e:=F.parts (n:=n) λ p hq=>by
  obtain⟨a,b,c,d,_⟩:=h.pr p (hp.mem_iff.mpr hq);exact⟨⟨a,b⟩,c,d⟩
 have hl:(lJ n (dbl ps)).length=((upI n).filter (bK (dbl qs))).length:=by
  unfold lJ;rw[zAF,aBK λ p=>hp.mem_iff]
 have h0:=h.n0
 have:(((lJ n (dbl ps)).length:Int)==n-(ps.length:Int))=true:=by
  rw[beq_iff_eq,hl,hp.length_eq];lia
 rw[this]
end
theorem oA{α:Type}[DecidableEq α]:∀{l m:List α},l.Nodup->(∀x∈l,x∈m)->l.length<=m.length
 |[],_,_,_=>zAi _
 |x::l,m,h,hs=>by
  obtain⟨h1,h2⟩:=zA9.mp h;have hx:=hs x zAE
  have:=oA (m:=m.erase x) h2 λ y hy=>(zCP (λ e:y=x=>h1 (e▸hy))).mpr (hs y (zAB _ hy))
  have hp:=zD6 hx;rw[zDQ hx]at this;rw[zA4];lia
section
variable{n:Int}{ps:gX}
def uD(h:Ow n ps):ps.Nodup:=by
 refine(tV.mp h.ris).imp λ{a b} q e=>?_
 subst e;lia
end
section
variable{ps:gX}
theorem wJ:∀{ps:gX},ps.Nodup->(∀p∈ps,p.1<p.2)->(dbl ps).Nodup
 |[],_,_=>zHV
 |p::ps,h,low=>by
  obtain⟨h1,h2⟩:=zA9.mp h;have ih:=wJ h2 λ q hq=>low q (zAB _ hq)
  have lp:=low p zAE;have no:∀q∈ps,q≠(p.2,p.1):=λ q hq e=>by
   have:=low q (zAB _ hq)
   rw[e]at this;dsimp only at this;lia
  rw[aAI];refine zA9.mpr ⟨λ z=>?_,zA9.mpr ⟨λ z=>?_,ih⟩⟩
  .rcases zAQ.mp z with e|z
   .have:=congrArg zEg e
    dsimp only at this;lia
   .rcases cY.mp (show(p.1,p.2)∈dbl ps from z)with z|z
    .exact h1 z
    .exact no _ z rfl
  .rcases cY.mp z with z|z
   .exact no _ z rfl
   .exact h1 z
def aCu(h:ps.Nodup)(low:∀p∈ps,p.1<p.2)(a:Int):(iZ (dbl ps) a).Nodup:=by
 unfold iZ List.Nodup;rw[zBD];refine zHj ?_ ((wJ h low).filter _);intro p q hp hq ne e;have e1:p.1=a:=by simpa using(zAe.mp hp).2
 have e2:q.1=a:=by simpa using(zAe.mp hq).2
 exact ne (zHc (e1.trans e2.symm) e)
end
abbrev Hr:=Int×Option Int
def upD:Option Int->D
 |none=>.non
 |some u=>.int u
def hrD(r:Hr):D:=.tup [.int r.1,upD r.2]
structure Hg(n:Int)(ps:gX)(A T:List Hr):Prop where
 nd:((A++T).map (·.1)).Nodup
 inn:∀r∈A++T,0<=r.1/\r.1<n
 tie:∀r∈A++T,∀u,r.2=some u->(r.1,u)∈dbl ps
 ord:∀X r Y,A++T=X++r::Y->∀u,r.2=some u->u∈X.map (·.1)
 cl:∀r∈A,∀q,(r.1,q)∈dbl ps->r.2=some q\/(q,some r.1)∈A
 hd:T=[]\/∃t T',T=(t,none)::T'/\∀r∈T',∃u,r.2=some u/\u∈T.map (·.1)
theorem zR{α:Type}{R:α->α->Prop}:∀{l:List α},(∀X r Y,l=X++r::Y->∀s∈Y,R r s)->l.Pairwise R
 |[],_=>.nil
 |a::l,h=>.cons (h [] a l rfl) (zR λ X r Y e=>h (a::X) r Y (by rw[e];rfl))
section
variable{n:Int}{ps:gX}
def wU(low:∀p∈ps,p.1<p.2){x y:Int}(h:(x,y)∈dbl ps):(mnI x y,mxI x y)∈ps:=by
 unfold mnI mxI;rcases cY.mp h with z|z
 .have:=low _ z
  dsimp only at this;rw[if_neg (by lia),if_pos (by lia)];exact z
 .have:=low _ z
  dsimp only at this;rw[if_pos (by lia),if_neg (by lia)];exact z
def aEe{a b c d:Int}(h:(mnI a b,mxI a b)=(mnI c d,mxI c d)):(a=c/\b=d)\/(a=d/\b=c):=by
 rw[zEC]at h;obtain⟨h1,h2⟩:=h;rcases qb a b with ⟨e1,e2⟩|⟨e1,e2⟩<;>rcases qb c d with ⟨e3,e4⟩|⟨e3,e4⟩<;>rw[e1,e3]at h1<;>rw[e2,e4]at h2
 .exact .inl ⟨h1,h2⟩
 .exact .inr ⟨h1,h2⟩
 .exact .inr ⟨h2,h1⟩
 .exact .inl ⟨h2,h1⟩
def aFm(r:Hr):Int×Int:=(mnI r.1 (r.2.getD 0),mxI r.1 (r.2.getD 0))
def Hg.row(h:Hg n ps A T){r s:Hr}(hr:r∈A++T)(hs:s∈A++T)(e:r.1=s.1):r=s:=by
 have:=h.nd
 rw[zAs,zBD]at this;exact zE3 λ z=>by
  obtain⟨i,hi,rfl⟩:=zBw hr;obtain⟨j,hj,rfl⟩:=zBw hs;rcases zGy i j with k|k|k
  .exact zBJ.mp this i j hi hj k e
  .subst k;exact z rfl
  .exact zBJ.mp this j i hj hi k e.symm
def Hg.apart(h:Hg n ps A T){x:Int}(h1:x∈A.map (·.1))(h2:x∈T.map (·.1)):False:=by
 have:=h.nd
 rw[zAZ,zAk]at this;exact this.2.2 x h1 x h2 rfl
def Hg.fresh(h:Hg n ps A T)(low:∀p∈ps,p.1<p.2)(Ac':Ac ps)(hr:r∈T)(ht:(r.1,q)∈dbl ps)(hu:r.2≠some q)(hn:(q,some r.1)∉T):q∉(A++T).map (·.1):=by
 have hrT:r.1∈T.map (·.1):=zAS.mpr ⟨r,hr,rfl⟩;intro hq;rw[zAZ]at hq;rcases zAX.mp hq with hq|hq
 .obtain⟨s,hs,rfl⟩:=zAS.mp hq
  rcases h.cl s hs r.1 (pG ps _ _ ht)with e|e
  .obtain⟨X,Y,rfl⟩:=zEV hs
   have:=h.ord X s (Y++T) (by simp) r.1 e
   exact h.apart (by rw[zAZ];exact zAJ _ this) hrT
  .exact h.apart (zAS.mpr ⟨_,e,rfl⟩) hrT
 .rcases h.hd with z|⟨t,T',rfl,hT⟩
  .rw[z]at hr;cases hr
  have ndT:(((t,none)::T').map (·.1)).Nodup:=by
   have:=h.nd
   rw[zAZ,zAk]at this;exact this.2.1
  have sub:∀{s:Hr},s∈T'->s∈A++(t,none)::T':=λ hs=>zA1 _ (zAB _ hs)
  have tR:∀{s:Hr} {u:Int},s.2=some u->aFm s=(mnI s.1 u,mxI s.1 u):=λ{s u} e=>by unfold aFm;rw[e];rfl
  have hL:(T'.map aFm++[(mnI r.1 q,mxI r.1 q)]).Nodup:=by
   rw[zAk];refine⟨?_,by simp,λ a ha b hb e=>?_⟩
   .rw[zAs,zBD]
    refine zR λ X s Y e s' hs' z=>?_
    have hs:s∈T':=by rw[e];simp
    have hs2:s'∈T':=by rw[e];simp[hs']
    obtain⟨u,eu,_⟩:=hT s hs;obtain⟨u',eu',_⟩:=hT s' hs2;rw[tR eu,tR eu']at z;have ne:s.1≠s'.1:=λ z2=>by
     rw[e]at ndT;rw[zAC,zAZ,zAC]at ndT
     have:=(zA9.mp (zAk.mp (zA9.mp ndT).2).2.1).1
     exact this (by rw[z2];exact zAS.mpr ⟨s',hs',rfl⟩)
    rcases aEe z with ⟨z1,_⟩|⟨z1,z2⟩
    .exact ne z1
    .have:=h.ord (A++(t,none)::X) s Y (by rw[e];simp) u eu
     rw[z2]at this;have nd:=h.nd;rw[e]at nd;rw[show A++(t,none)::(X++s::Y)=(A++(t,none)::X)++s::Y by simp,zAZ,zAk]at nd;exact nd.2.2 _ this _ (zAS.mpr ⟨s',zAB _ hs',rfl⟩) rfl
   .rw[zAK]at hb
    subst hb;obtain⟨s,hs,rfl⟩:=zAS.mp ha;obtain⟨u,eu,_⟩:=hT s hs;rw[tR eu]at e;rcases aEe e with ⟨z1,z2⟩|⟨z1,z2⟩
    .have:=h.row (sub hs) (zA1 A hr) z1
     subst this;rw[z2]at eu;exact hu eu
    .refine hn (zAB _ ?_)
     have:s=(q,some r.1):=zHc z1 (by rw[eu,z2])
     rw[<-this];exact hs
  have hin:∀p∈T'.map aFm++[(mnI r.1 q,mxI r.1 q)],p∈ps.filter λ p=>decide (p.1∈((t,none)::T').map (·.1))&&decide (p.2∈((t,none)::T').map (·.1)):=λ p hp=>by
   rcases zAX.mp hp with z|z
   .obtain⟨s,hs,rfl⟩:=zAS.mp z
    obtain⟨u,eu,hm⟩:=hT s hs;rw[tR eu];refine zAe.mpr ⟨wU low (h.tie s (sub hs) u eu),?_⟩;dsimp only;rw[aEd,zAM,decide_eq_true_eq,decide_eq_true_eq];exact⟨zAS.mpr ⟨s,zAB _ hs,rfl⟩,hm⟩
   .rw[zAK.mp z]
    refine zAe.mpr ⟨wU low ht,?_⟩;dsimp only;rw[aEd,zAM,decide_eq_true_eq,decide_eq_true_eq];exact⟨hrT,hq⟩
  have h1:=oA hL hin;have h2:=Ac' (((t,none)::T').map (·.1)) ndT (by simp);unfold inN at h2;rw[zAT,zAF,zAm]at h1;rw[zAF,zA4]at h2;lia
def tG{α:Type}{l X Y:List α}{a r:α}(e:l++[a]=X++r::Y):(X=l/\r=a/\Y=[])\/∃Y',Y=Y'++[a]/\l=X++r::Y':=by
 rcases zGF Y with rfl|⟨Y',b,rfl⟩
 .have:=zGr e rfl
  rw[zE0]at this;exact .inl ⟨this.1.symm,this.2.1.symm,rfl⟩
 .have e2:l++[a]=(X++r::Y')++[b]:=by rw[e];simp
  have:=zGr e2 rfl
  rw[zE0]at this;exact .inr ⟨Y',by rw[this.2.1,zGE],this.1⟩
def Hg.snoc(h:Hg n ps A T)(hr:r∈T)(hq:0<=q/\q<n)(ht:(r.1,q)∈dbl ps)(hn:q∉(A++T).map (·.1)):Hg n ps A (T++[(q,some r.1)]):=by
 have hrT:r.1∈T.map (·.1):=zAS.mpr ⟨r,hr,rfl⟩;refine⟨?_,λ s hs=>?_,λ s hs u eu=>?_,λ X s Y e u eu=>?_,h.cl,.inr ?_⟩
 .rw[<-zAx,zAZ,zAk]
  exact⟨h.nd,by simp,λ x hx y hy e=>by rw[zAC,zDF,zAK]at hy;subst hy;subst e;exact hn hx⟩
 .rw[<-zAx]at hs
  rcases zAX.mp hs with z|z
  .exact h.inn s z
  .rw[zAK.mp z];exact hq
 .rw[<-zAx]at hs
  rcases zAX.mp hs with z|z
  .exact h.tie s z u eu
  .rw[zAK.mp z]at eu ⊢
   cases eu;exact pG ps _ _ ht
 .rw[<-zAx]at e
  rcases tG e with ⟨rfl,rfl,_⟩|⟨Y',_,e2⟩
  .cases eu
   rw[zAZ];exact zA1 _ hrT
  .exact h.ord X s Y' e2 u eu
 .rcases h.hd with z|⟨t,T',rfl,hT⟩
  .rw[z]at hr;cases hr
  .refine⟨t,T'++[(q,some r.1)],rfl,λ s hs=>?_⟩
   rcases zAX.mp hs with z|z
   .obtain⟨u,e1,e2⟩:=hT s z
    exact⟨u,e1,by rw[zAZ];exact zAJ _ e2⟩
   .rw[zAK.mp z]
    exact⟨r.1,rfl,by rw[zAZ];exact zAJ _ hrT⟩
def Hg.len(h:Hg n ps A T):(A++T).length<=n.toNat:=by
 have:=oA (m:=upI n) h.nd λ x hx=>by
  obtain⟨r,hr,rfl⟩:=zAS.mp hx;exact bR.mpr (h.inn r hr)
 rwa [zAF,cA]at this
end
section
variable{n:Int}{ps:gX}
abbrev huE(n:Int)(ps:gX)(ll:bS)(seen:List Int)(rows:List Hr)(k:Int)(s5 s6 s7 s8:Slot):En:=[.sh (owD n ps),.sh (.lst (ll.map .lst)),.ow (.set seen),.ow (.lst (rows.map hrD)),.sh (.int k),s5,s6,s7,s8]
structure Sn(seen:List Int)(rows:List Hr):Prop where
 nd:seen.Nodup
 iff:∀x,x∈seen↔∃u,(x,some u)∈rows
def Sn.len(S:Sn seen (A++T))(h:Hg n ps A T):seen.length<=n.toNat:=by
 have:=oA (m:=upI n) S.nd λ x hx=>by
  obtain⟨u,hu⟩:=(S.iff x).mp hx;exact bR.mpr (h.inn _ hu)
 rwa [cA]at this
theorem uV(O:Ow n ps)(low:∀p∈ps,p.1<p.2)(Ac':Ac ps):∀(us:List Int) (T:List Hr) (seen:List Int) (s8:Slot),r∈T->us.Nodup->(∀u∈us,(r.1,u)∈dbl ps)->(∀u∈us,(u,some r.1)∉T)->Hg n ps A T->Sn seen (A++T)->
  ∃M seen' s8',forL (gnm 8) huI (us.map .int) (huE n ps ll seen (A++T) k s5 (.sh (.int r.1)) (.sh (upD r.2)) s8)= .nx (huE n ps ll seen' (A++(T++M)) k s5 (.sh (.int r.1)) (.sh (upD r.2)) s8')/\Hg n ps A (T++M)/\Sn seen' (A++(T++M))/\(∀u∈us,r.2=some u\/(u,some r.1)∈T++M)/\∀s∈M,s.2=some r.1
 |[],T,seen,s8,_,_,_,_,h,S=>⟨[],seen,s8,by simp,by simpa using h,by simpa using S,λ u hu=>(nomatch hu),λ s hs=>(nomatch hs)⟩
 |q::us,T,seen,s8,hr,nd,ht,hn,h,S=>by
  obtain⟨nd1,nd2⟩:=zA9.mp nd;have tq:=ht q zAE;have hq:0<=q/\q<n:=by
   rcases cY.mp tq with z|z
   .have:=O.pr _ z;exact⟨this.2.2.1,this.2.2.2.1⟩
   .have:=O.pr _ z;exact⟨this.1,this.2.1⟩
  have hW:=h.len;have hsl:=S.len h;have hn1:=O.n1;rw[zAC,b7,oH,fU]
  show∃M seen' s8',(huI (huE n ps ll seen (A++T) k s5 (.sh (.int r.1)) (.sh (upD r.2)) (.sh (.int q)))).tn _=_/\_
  by_cases c:r.2=some q
  .have e:huI (huE n ps ll seen (A++T) k s5 (.sh (.int r.1)) (.sh (upD r.2)) (.sh (.int q)))= .nx (huE n ps ll seen (A++T) k s5 (.sh (.int r.1)) (.sh (upD r.2)) (.sh (.int q))):=by
    simp[huI,c,upD]
   rw[e,jF];obtain⟨M,seen',s8',e1,h1,h2,h3,h4⟩:=uV O low Ac' us T seen (.sh (.int q)) hr nd2 (λ u hu=>ht u (zAB _ hu)) (λ u hu=>hn u (zAB _ hu)) h S;refine⟨M,seen',s8',e1,h1,h2,λ u hu=>?_,h4⟩;rcases zAQ.mp hu with rfl|hu
   .exact .inl c
   .exact h3 u hu
  .have fr:=h.fresh low Ac' hr tq c (hn q zAE)
   have hg:=h.snoc hr hq tq fr;have hns:q∉seen:=λ z=>by
    obtain⟨u,hu⟩:=(S.iff q).mp z;exact fr (zAS.mpr ⟨_,hu,rfl⟩)
   have ed:zBB seen q=seen++[q]:=by
    unfold zBB;simp[hns]
   have S':Sn (seen++[q]) (A++(T++[(q,some r.1)])):=by
    refine⟨by rw[zAk];exact⟨S.nd,by simp,λ x hx y hy e=>by rw[zAK.mp hy]at e;subst e;exact hns hx⟩,λ x=>?_⟩;rw[zAX,S.iff,zAK];constructor
    .rintro(⟨u,hu⟩|rfl)
     .exact⟨u,by rw[<-zAx];exact zAJ _ hu⟩
     .exact⟨r.1,by simp⟩
    .rintro⟨u,hu⟩
     rw[<-zAx]at hu;rcases zAX.mp hu with z|z
     .exact .inl ⟨u,z⟩
     .rw[zAK]at z
      cases z;exact .inr rfl
   have a0:tsb (op2 (eqR true) (aD 8) (aD 7)) (huE n ps ll seen (A++T) k s5 (.sh (.int r.1)) (.sh (upD r.2)) (.sh (.int q)))= .ok true:=by
    obtain⟨r1,r2⟩:=r;cases r2 with
    |none=>simp[upD];rfl
    |some u=>
     have:q≠u:=λ z=>c (by rw[z])
     simp[upD,this]
   have a1:aF9 2 (aq (aD 8)) (huE n ps ll seen (A++T) k s5 (.sh (.int r.1)) (.sh (upD r.2)) (.sh (.int q)))= .nx (huE n ps ll (seen++[q]) (A++T) k s5 (.sh (.int r.1)) (.sh (upD r.2)) (.sh (.int q))):=by
    have hv:aq (aD 8) (huE n ps ll seen (A++T) k s5 (.sh (.int r.1)) (.sh (upD r.2)) (.sh (.int q)))= .ok (.int q):=by simp
    show((aq (aD 8) (huE n ps ll seen (A++T) k s5 (.sh (.int r.1)) (.sh (upD r.2)) (.sh (.int q)))).bo λ d=>aAW (huE n ps ll seen (A++T) k s5 (.sh (.int r.1)) (.sh (upD r.2)) (.sh (.int q))) 2 seen d)=_
    rw[hv,bF];unfold aAW;dsimp only;rw[if_pos (by lia),ed];rfl
   have a2:j8 3 (dI (aC (aq (aD 8)) (aC (aq (aD 6)) aH))) (huE n ps ll (seen++[q]) (A++T) k s5 (.sh (.int r.1)) (.sh (upD r.2)) (.sh (.int q)))= .nx (huE n ps ll (seen++[q]) (A++(T++[(q,some r.1)])) k s5 (.sh (.int r.1)) (.sh (upD r.2)) (.sh (.int q))):=by
    have hz:((A++T).map hrD).length<16777216:=by rw[zAF];lia
    have hv:dI (aC (aq (aD 8)) (aC (aq (aD 6)) aH)) (huE n ps ll (seen++[q]) (A++T) k s5 (.sh (.int r.1)) (.sh (upD r.2)) (.sh (.int q)))= .ok (hrD (q,some r.1)):=by simp[hrD,upD]
    show((dI (aC (aq (aD 8)) (aC (aq (aD 6)) aH)) (huE n ps ll (seen++[q]) (A++T) k s5 (.sh (.int r.1)) (.sh (upD r.2)) (.sh (.int q)))).bo λ d=>if ((A++T).map hrD).length<zAR then .nx ((huE n ps ll (seen++[q]) (A++T) k s5 (.sh (.int r.1)) (.sh (upD r.2)) (.sh (.int q))).set 3 (.ow (.lst ((A++T).map hrD++[d]))))else .st)=_
    rw[hv,bF,if_pos (by rw[szl];exact hz)];simp
   have e:huI (huE n ps ll seen (A++T) k s5 (.sh (.int r.1)) (.sh (upD r.2)) (.sh (.int q)))= .nx (huE n ps ll (seen++[q]) (A++(T++[(q,some r.1)])) k s5 (.sh (.int r.1)) (.sh (upD r.2)) (.sh (.int q))):=by
    rw[huI,jq,a0,bF,if_pos rfl,aK,a1,aU,a2]
   rw[e,jF];obtain⟨M,seen',s8',e1,h1,h2,h3,h4⟩:=uV O low Ac' us (T++[(q,some r.1)]) (seen++[q]) (.sh (.int q)) (zAJ _ hr) nd2 (λ u hu=>ht u (zAB _ hu)) (λ u hu z=>by
    rcases zAX.mp z with z|z
    .exact hn u (zAB _ hu) z
    .rw[zAK]at z
     cases z;exact nd1 hu) hg S'
   rw[zAx]at e1 h1 h2 h3;refine⟨[(q,some r.1)]++M,seen',s8',e1,h1,h2,λ u hu=>?_,λ s hs=>?_⟩
   .rcases zAQ.mp hu with rfl|hu
    .exact .inr (by simp)
    .exact h3 u hu
   .rcases zAX.mp hs with z|z
    .rw[zAK.mp z]
    .exact h4 s z
def aDX{c:En->Rs Bool}{b:En->Ou}{ρ:En}(h:c ρ= .ok false):pO c b ρ= .nx ρ:=by
 show itW c b (999999+1) ρ= .nx ρ;unfold itW;rw[h];rfl
structure Hw(n:Int)(ps:gX)(A T1 T2:List Hr):Prop where
 g:Hg n ps A (T1++T2)
 pr:∀r∈T1,∀q,(r.1,q)∈dbl ps->r.2=some q\/(q,some r.1)∈T1++T2
 up:∀r∈T1++T2,∀u,r.2=some u->u∈T1.map (·.1)
def aJp{T1 T2:List Hr}(O:Ow n ps)(low:∀p∈ps,p.1<p.2)(Ac':Ac ps)(L:∀i:Int,0<=i->i<n->atD (ll.map .lst) i= .ok (.lst ((iZ (dbl ps) i).map .int)))(h:Hw n ps A T1 (r::T2))(S:Sn seen (A++(T1++r::T2))):
  ∃M seen' s6' s7' s8',huW (huE n ps ll seen (A++(T1++r::T2)) ((A.length+T1.length:Nat):Int) s5 s6 s7 s8)= .nx (huE n ps ll seen' (A++((T1++[r])++(T2++M))) ((A.length+(T1++[r]).length:Nat):Int) s5 s6' s7' s8')/\Hw n ps A (T1++[r]) (T2++M)/\Sn seen' (A++((T1++[r])++(T2++M))):=by
 have hrT:r∈T1++r::T2:=by simp
 have hri:=h.g.inn r (zA1 _ hrT);have nd:=h.g.nd;rw[show A++(T1++r::T2)=(A++T1)++r::T2 by simp,zAZ,zAk]at nd;have hp:r.1∉T1.map (·.1):=λ z=>nd.2.2 r.1 (by rw[zAZ];exact zA1 _ z) r.1 (by simp) rfl
 obtain⟨M,seen',s8',e,h1,h2,h3,h4⟩:=uV (ll:=ll) (k:=((A.length+T1.length:Nat):Int)) (s5:=s5) (r:=r) O low Ac' (iZ (dbl ps) r.1) (T1++r::T2) seen s8 hrT (aCu (uD O) low r.1) (λ u hu=>xn.mp hu) (λ u hu z=>hp (h.up _ z r.1 rfl)) h.g S;have eq:(T1++r::T2)++M=(T1++[r])++(T2++M):=by simp
 rw[eq]at e h1 h2 h3;have ea:(((A++(T1++r::T2)).map hrD)[A.length+T1.length]?)=some (hrD r):=by
  rw[zAP,show A++(T1++r::T2)=(A++T1)++r::T2 by simp,zDD (by simp)];simp
 have ea':=dq ea;have im:pA (hrD r)= .ok (hrD r):=by
  obtain⟨r1,r2⟩:=r;cases r2<;>rfl
 have c1:aB5 (aq (op2 ixD (dC 3) (aD 4))) (gO 2 (au (gnm 6) (au (gnm 7) gP))) (huE n ps ll seen (A++(T1++r::T2)) ((A.length+T1.length:Nat):Int) s5 s6 s7 s8)= .nx (huE n ps ll seen (A++(T1++r::T2)) ((A.length+T1.length:Nat):Int) s5 (.sh (.int r.1)) (.sh (upD r.2)) s8):=by
  have hv:aq (op2 ixD (dC 3) (aD 4)) (huE n ps ll seen (A++(T1++r::T2)) ((A.length+T1.length:Nat):Int) s5 s6 s7 s8)= .ok (hrD r):=by
   have v1:dC 3 (huE n ps ll seen (A++(T1++r::T2)) ((A.length+T1.length:Nat):Int) s5 s6 s7 s8)= .ok (.lst ((A++(T1++r::T2)).map hrD)):=rfl;have v2:aD 4 (huE n ps ll seen (A++(T1++r::T2)) ((A.length+T1.length:Nat):Int) s5 s6 s7 s8)= .ok (.int ((A.length+T1.length:Nat):Int)):=rfl;rw[yF,lK,v1,bz,v2,bz,aGy,ea',uH,bz,im]
  rw[aH7,hv,bF];simp[hrD]
 have c2:gh (cM (op2 ixD (aD 1) (aD 6))) (gnm 8) huI (huE n ps ll seen (A++(T1++r::T2)) ((A.length+T1.length:Nat):Int) s5 (.sh (.int r.1)) (.sh (upD r.2)) s8)= .nx (huE n ps ll seen' (A++((T1++[r])++(T2++M))) ((A.length+T1.length:Nat):Int) s5 (.sh (.int r.1)) (.sh (upD r.2)) s8'):=by
  have hi:cM (op2 ixD (aD 1) (aD 6)) (huE n ps ll seen (A++(T1++r::T2)) ((A.length+T1.length:Nat):Int) s5 (.sh (.int r.1)) (.sh (upD r.2)) s8)= .ok ((iZ (dbl ps) r.1).map .int):=by simp[L _ hri.1 hri.2,-zAZ]
  rw[cI,hi,bF,e]
 refine⟨M,seen',.sh (.int r.1),.sh (upD r.2),s8',?_,⟨h1,λ s hs q hq=>?_,λ s hs u eu=>?_⟩,h2⟩
 .rw[huW,aK,c1,aU,aK,c2,aU]
  show Ou.nx (huE n ps ll seen' (A++((T1++[r])++(T2++M))) (((A.length+T1.length:Nat):Int)+1) s5 (.sh (.int r.1)) (.sh (upD r.2)) s8')=_;rw[show(((A.length+T1.length:Nat):Int)+1)=((A.length+(T1++[r]).length:Nat):Int)by simp;lia]
 .rcases zAX.mp hs with z|z
  .rcases h.pr s z q hq with e|e
   .exact .inl e
   .exact .inr (by rw[<-eq];exact zAJ _ e)
  .rw[zAK.mp z]at hq ⊢
   exact h3 q (xn.mpr hq)
 .rw[<-eq]at hs
  rw[zAZ];rcases zAX.mp hs with z|z
  .exact zAJ _ (h.up s z u eu)
  .rw[h4 s z]at eu
   cases eu;exact zA1 _ (by simp)
def aFG{T:List Hr}(O:Ow n ps)(low:∀p∈ps,p.1<p.2)(Ac':Ac ps)(L:∀i:Int,0<=i->i<n->atD (ll.map .lst) i= .ok (.lst ((iZ (dbl ps) i).map .int)))(h:Hw n ps A [] T)(S:Sn seen (A++T)):
  ∃T' seen' s6' s7' s8',pO huT huW (huE n ps ll seen (A++T) (A.length:Int) s5 s6 s7 s8)= .nx (huE n ps ll seen' (A++T') ((A++T').length:Int) s5 s6' s7' s8')/\Hw n ps A T' []/\Sn seen' (A++T')/\∃M,T'=T++M:=by
 have hn1:=O.n1;obtain⟨ρ',m',e,⟨T1,T2,seen',s6',s7',s8',rfl,h',S',hm,M,hM⟩,ht⟩:=yj (c:=huT) (b:=huW)
  (λ m ρ=>∃(T1 T2:List Hr) (seen':List Int) (s6 s7 s8:Slot),ρ=huE n ps ll seen' (A++(T1++T2)) ((A.length+T1.length:Nat):Int) s5 s6 s7 s8/\Hw n ps A T1 T2/\Sn seen' (A++(T1++T2))/\m=n.toNat-(A.length+T1.length)/\∃M,T1++T2=T++M)
  (by
   rintro m ρ ⟨T1,T2,seen',s6,s7,s8,rfl,h',S',rfl,M,hM⟩;have hW:=h'.g.len;rw[zAT,zAT]at hW;cases T2 with
   |nil=>
    left;simp[huT]
   |cons r T2=>
    right;rw[zA4]at hW;refine⟨by simp[huT];lia,?_⟩;obtain⟨M',seen2,t6,t7,t8,e,q1,q2⟩:=aJp (s5:=s5) (s6:=s6) (s7:=s7) (s8:=s8) O low Ac' L h' S';refine⟨_,n.toNat-(A.length+(T1++[r]).length),e,by simp;lia,_,_,_,_,_,_,rfl,q1,q2,rfl,M++M',?_⟩;rw[<-zAx T,<-hM];simp)
  (m:=n.toNat-(A.length+([]:List Hr).length)) (ρ:=huE n ps ll seen (A++T) (A.length:Int) s5 s6 s7 s8) (by lia) ⟨[],T,seen,s6,s7,s8,by simp,h,by simpa using S,rfl,[],by simp⟩
 have:T2=[]:=by
  cases T2 with
  |nil=>rfl
  |cons r T2=>
   have:huT (huE n ps ll seen' (A++(T1++r::T2)) ((A.length+T1.length:Nat):Int) s5 s6' s7' s8')= .ok true:=by simp[huT];lia
   rw[this]at ht;cases ht
 subst this;rw[zAo]at e hM S';refine⟨T1,seen',s6',s7',s8',?_,h',S',M,hM⟩;rw[e,zAT]
structure vQ(n:Int)(ps:gX)(rows:List Hr):Prop where
 pm:(rows.map (·.1)).Perm (upI n)
 tie:∀r∈rows,∀u,r.2=some u->(r.1,u)∈dbl ps
 ord:∀X r Y,rows=X++r::Y->∀u,r.2=some u->u∈X.map (·.1)
 cl:∀r∈rows,∀q,(r.1,q)∈dbl ps->r.2=some q\/(q,some r.1)∈rows
def aHJ(O:Ow n ps)(low:∀p∈ps,p.1<p.2)(Ac':Ac ps):∃rows,uz [owD n ps]= .ok (.lst (rows.map hrD))/\vQ n ps rows:=by
 obtain⟨ll,el,_,L⟩:=pK O;have hn0:=O.n0;have hn1:=O.n1;have hx:ixD (owD n ps) (.int 0)= .ok (.int n):=by simp[owD]
 have st:bC 9 [owD n ps]=[.sh (owD n ps),.no,.no,.no,.no,.no,.no,.no,.no]:=rfl;have hr:=jH (j:=n) (by lia) (by lia);have c1:cT 1 (aP cj (aC (aD 0) aH)) [.sh (owD n ps),.no,.no,.no,.no,.no,.no,.no,.no]= .nx [.sh (owD n ps),.sh (.lst (ll.map .lst)),.no,.no,.no,.no,.no,.no,.no]:=by simp[el]
 have c2:di 2 (cD (.set [])) [.sh (owD n ps),.sh (.lst (ll.map .lst)),.no,.no,.no,.no,.no,.no,.no]= .nx [.sh (owD n ps),.sh (.lst (ll.map .lst)),.ow (.set []),.no,.no,.no,.no,.no,.no]:=by simp
 have c3:di 3 (gJ aH) [.sh (owD n ps),.sh (.lst (ll.map .lst)),.ow (.set []),.no,.no,.no,.no,.no,.no]= .nx [.sh (owD n ps),.sh (.lst (ll.map .lst)),.ow (.set []),.ow (.lst []),.no,.no,.no,.no,.no]:=by simp
 have c4:cT 4 (cD (.int 0)) [.sh (owD n ps),.sh (.lst (ll.map .lst)),.ow (.set []),.ow (.lst []),.no,.no,.no,.no,.no]= .nx (huE n ps ll [] [] 0 .no .no .no .no):=by simp
 have hi:jB kI (aC (op2 ixD (aD 0) (cD (.int 0))) aH) (huE n ps ll [] [] 0 .no .no .no .no)= .ok (bL 0 n):=by simp[hx,hr]
 obtain⟨ρ',e,A,seen,s5,s6,s7,s8,rfl,h,S,iX,_⟩:=lY (ds:=bL 0 n) (a:=gnm 5) (u:=huB) (ρ:=huE n ps ll [] [] 0 .no .no .no .no)
  (λ i ρ=>∃(A:List Hr) (seen:List Int) (s5 s6 s7 s8:Slot),ρ=huE n ps ll seen A (A.length:Int) s5 s6 s7 s8/\Hw n ps A [] []/\Sn seen A/\(∀x:Int,0<=x->x<i->x∈A.map (·.1))/\∀r∈A,r.2=none->r.1<i) (by
   rintro i d ρ hd ⟨A,seen,s5,s6,s7,s8,rfl,h,S,iX,hrt⟩;obtain⟨rfl,hlt⟩:=o5 hd;rw[zDM]at hlt;rw[oH,fU,zDM]
   show∃ρ2,huB (huE n ps ll seen A (A.length:Int) (.sh (.int (i:Int))) s6 s7 s8)= .nx ρ2/\_
   have hW:=h.g.len;rw[zAo,zAo]at hW;have t0:tsb (op2 (inX true) (aD 5) (dC 2)) (huE n ps ll seen A (A.length:Int) (.sh (.int (i:Int))) s6 s7 s8)= .ok (!decide ((i:Int)∈seen)):=by
    have hx2:inX true (.int (i:Int)) (.set seen)= .ok (.bl (!decide ((i:Int)∈seen))):=rfl;simp[hx2]
   have Aend:∀(T':List Hr),Hw n ps A T' []->Hw n ps (A++T') [] []:=λ T' h'=>by
    have g:=h'.g;rw[zAo]at g;refine⟨⟨by simpa using g.nd,by simpa using g.inn,by simpa using g.tie,by simpa using g.ord,λ s hs q hq=>?_,.inl rfl⟩,λ s hs=>(nomatch hs),λ s hs=>(nomatch hs)⟩;rcases zAX.mp hs with z|z
    .rcases g.cl s z q hq with e|e
     .exact .inl e
     .exact .inr (zAJ _ e)
    .rcases h'.pr s z q hq with e|e
     .exact .inl e
     .rw[zAo]at e
      exact .inr (zA1 _ e)
   by_cases c:(i:Int)∈seen
   .refine⟨_,?_,A,seen,.sh (.int (i:Int)),s6,s7,s8,rfl,h,S,λ x h0 h1=>?_,λ r hr hn=>by have:=hrt r hr hn;lia⟩
    .have e0:ifS (tsb (op2 (inX true) (aD 5) (dC 2))) (j8 3 (dI (aC (aq (aD 5)) (aC (cD .non) aH)))) Ou.nx (huE n ps ll seen A (A.length:Int) (.sh (.int (i:Int))) s6 s7 s8)= .nx (huE n ps ll seen A (A.length:Int) (.sh (.int (i:Int))) s6 s7 s8):=by
      rw[jq,t0,bF,if_neg (by simp[c])]
     rw[huB,aK,e0,aU];exact aDX (by simp[huT])
    .by_cases z:x<i
     .exact iX x h0 z
     .have:x=(i:Int):=by lia
      subst this;obtain⟨u,hu⟩:=(S.iff _).mp c;exact zAS.mpr ⟨_,hu,rfl⟩
   .have hni:(i:Int)∉A.map (·.1):=λ z=>by
     obtain⟨r,hr,e⟩:=zAS.mp z;cases e2:r.2 with
     |none=>have:=hrt r hr e2;lia
     |some u=>exact c ((S.iff _).mpr ⟨u,by rw[<-e,<-e2];exact hr⟩)
    have gA:=h.g;rw[zAo]at gA;have h1:Hw n ps A [] [((i:Int),none)]:=by
     refine⟨⟨?_,λ r hr=>?_,λ r hr u eu=>?_,λ X r Y e u eu=>?_,gA.cl,.inr ⟨_,[],rfl,λ r hr=>(nomatch hr)⟩⟩,λ r hr=>(nomatch hr),λ r hr u eu=>?_⟩
     .have:=gA.nd
      rw[zAo]at this;rw[zCy,zAZ,zAk];exact⟨this,by simp,λ x hx y hy e=>by rw[zAC,zDF,zAK]at hy;subst hy;subst e;exact hni hx⟩
     .rcases zAX.mp hr with z|z
      .exact gA.inn r (zAJ _ z)
      .rw[zAK.mp z];exact⟨by lia,hlt⟩
     .rcases zAX.mp hr with z|z
      .exact gA.tie r (zAJ _ z) u eu
      .rw[zAK.mp z]at eu;cases eu
     .rcases tG e with ⟨_,rfl,_⟩|⟨Y',_,e2⟩
      .cases eu
      .exact gA.ord X r Y' (by rw[zAo];exact e2) u eu
     .rw[zAK.mp hr]at eu;cases eu
    have S1:Sn seen (A++[((i:Int),none)]):=⟨S.nd,λ x=>by
     rw[S.iff];constructor
     .rintro⟨u,hu⟩
      exact⟨u,zAJ _ hu⟩
     .rintro⟨u,hu⟩
      rcases zAX.mp hu with z|z
      .exact⟨u,z⟩
      .rw[zAK]at z;cases z⟩
    have e0:ifS (tsb (op2 (inX true) (aD 5) (dC 2))) (j8 3 (dI (aC (aq (aD 5)) (aC (cD .non) aH)))) Ou.nx (huE n ps ll seen A (A.length:Int) (.sh (.int (i:Int))) s6 s7 s8)= .nx (huE n ps ll seen (A++[((i:Int),none)]) (A.length:Int) (.sh (.int (i:Int))) s6 s7 s8):=by
     rw[jq,t0,bF,if_pos (by simp[c])];have hz:A.length<16777216:=by lia
     simp[j8,hz,hrD,upD]
    obtain⟨T',seen',t6,t7,t8,e,h',S',M,hM⟩:=aFG (ll:=ll) (T:=[((i:Int),none)]) (s5:=.sh (.int (i:Int))) (s6:=s6) (s7:=s7) (s8:=s8) O low Ac' L h1 S1;refine⟨_,by rw[huB,aK,e0,aU];exact e,A++T',seen',_,t6,t7,t8,rfl,Aend T' h',S',λ x h0 h1=>?_,λ r hr hn=>?_⟩
    .rw[zAZ]
     by_cases z:x<i
     .exact zAJ _ (iX x h0 z)
     .have:x=(i:Int):=by lia
      subst this;rw[hM];exact zA1 _ (by simp)
    .rcases zAX.mp hr with z|z
     .have:=hrt r z hn;lia
     .have hd:=h'.g.hd
      rw[zAo]at hd;rcases hd with q|⟨t,T2,q,qq⟩
      .rw[q]at z;cases z
      .rw[q]at z
       rcases zAQ.mp z with z|z
       .rw[q]at hM
        have:t=(i:Int):=by
         rw[zGs,zE0]at hM;exact congrArg zEg hM.1
        rw[z];dsimp only;lia
       .obtain⟨u,eu,_⟩:=qq r z
        rw[eu]at hn;cases hn) ⟨[],[],.no,.no,.no,.no,rfl,⟨⟨by simp,λ r hr=>(nomatch hr),λ r hr=>(nomatch hr),λ X r Y e=>by simp at e,λ r hr=>(nomatch hr),.inl rfl⟩,λ r hr=>(nomatch hr),λ r hr=>(nomatch hr)⟩,⟨by simp,λ x=>by simp⟩,λ x h0 h1=>by lia,λ r hr=>(nomatch hr)⟩
 have g:=h.g;simp only[zAo]at g;have hl:((bL 0 n).length:Int)=n:=by rw[jU];lia
 have nd:=g.nd;have ord:=g.ord;have tie:=g.tie;rw[zAo]at nd ord tie;refine⟨A,?_,⟨?_,tie,ord,g.cl⟩⟩
 .simp only[uz,qO,bW,st]
  rw[aK,c1,aU,aK,c2,aU,aK,c3,aU,aK,c4,aU,aK,cI,hi,bF,e,aU];rfl
 .refine(zDE nd (iQ n)).mpr λ x=>⟨λ hx=>?_,λ hx=>?_⟩
  .obtain⟨r,hr,rfl⟩:=zAS.mp hx
   exact bR.mpr (g.inn r (zAJ _ hr))
  .have:=bR.mp hx
   exact iX x this.1 (by rw[hl];exact this.2)
end
section
variable{n:Int}{ps:gX}
def dgr(F:gX)(x:Int):Nat:=(F.filter λ t=>decide (t.1=x)||decide (t.2=x)).length
def aFX(t:Int×Int)(F:gX)(x:Int):dgr (t::F) x=dgr F x+(if t.1=x\/t.2=x then 1 else 0):=by
 unfold dgr;rw[zAn];by_cases c:t.1=x\/t.2=x
 .rw[if_pos (by simpa using c),if_pos c,zA4]
 .rw[if_neg (by simpa using c),if_neg c]
  rfl
def vQ.nd(Hu:vQ n ps rows):(rows.map (·.1)).Nodup:=Hu.pm.nodup_iff.mpr (iQ n)
def vQ.row(Hu:vQ n ps rows){r s:Hr}(hr:r∈rows)(hs:s∈rows)(e:r.1=s.1):r=s:=by
 have:=Hu.nd
 rw[zAs,zBD]at this;refine zE3 λ z=>?_
 obtain⟨i,hi,rfl⟩:=zBw hr;obtain⟨j,hj,rfl⟩:=zBw hs;rcases zGy i j with k|k|k
 .exact zBJ.mp this i j hi hj k e
 .subst k;exact z rfl
 .exact zBJ.mp this j i hj hi k e.symm
def vQ.no2(Hu:vQ n ps rows)(h1:(c,some p)∈rows)(h2:(p,some c)∈rows):False:=by
 obtain⟨X,Y,e⟩:=zEV h1;obtain⟨s,hs,es⟩:=zAS.mp (Hu.ord X _ Y e p rfl);have hs2:s∈rows:=by rw[e];exact zAJ _ hs
 have:=Hu.row hs2 h2 es
 subst this;obtain⟨X1,X2,e2⟩:=zEV hs;have e3:rows=X1++(p,some c)::(X2++(c,some p)::Y):=by rw[e,e2];simp
 have hc:=Hu.ord X1 _ _ e3 c rfl;have nd:=Hu.nd;rw[e3,zAZ,zAk]at nd;exact nd.2.2 c hc c (by simp) rfl
end
abbrev Tr:=List (Int×Int)×(Int->Int)×(Int->Int)
def xN(qs:gX)(ls us:List Int):D:=.tup [.tup (qs.map pD),tupI ls,tupI us]
def rwF(n:Int)(t:Tr):D:=xN t.1 ((upI n).map t.2.1) ((upI n).map t.2.2)
def cnd(p:Int×Int)(t:Tr):Bool:=decide (t.2.2 p.1<2)&&(decide (t.2.2 p.2<2)&& !decide (t.2.1 p.1=t.2.1 p.2))
def nwT(p:Int×Int)(t:Tr):Tr:=(t.1++[p],(λ z=>if t.2.1 z=mxI (t.2.1 p.1) (t.2.1 p.2)then mnI (t.2.1 p.1) (t.2.1 p.2)else t.2.1 z),λ z=>t.2.2 z+(if z=p.1\/z=p.2 then 1 else 0))
def bT(ps:gX):List Tr:=ps.foldl (λ L p=>L++(L.filter (cnd p)).map (nwT p)) [([],id,λ _=>0)]
section
variable{n:Int}{ps:gX}
def aAS{f:Int->Int}{x:Int}(h0:0<=x)(h1:x<n):atD (((upI n).map f).map .int) x= .ok (.int (f x)):=by
 have ex:((x.toNat:Nat):Int)=x:=zBS h0
 have:=dq (l:=((upI n).map f).map .int) (k:=x.toNat) (d:=.int (f x)) (by
  rw[zAP,zAP];unfold upI;rw[zAP,zCU (by lia)];simp[ex])
 rwa [ex]at this
def aIp{x y:Int}(h6:ρ[6]? =some (.sh (tupI ((upI n).map lf))))(h8:ρ[8]? =some (.sh (.int x)))(h9:ρ[9]? =some (.sh (.int y)))(hl:n<=60):roL ρ= .ok (tupI ((upI n).map λ z=>if lf z=y then x else lf z)):=by
 have hu:(upI n).length<=60:=by rw[cA];lia
 have e:lcD (cM (aD 6)) [none,some 9,some 8] (gnm 0) fO (ifD (tsb (op2 (eqR false) (aD 0) (aD 1))) (aq (aD 2)) (aq (aD 0))) ρ= .ok (.lst (((upI n).map λ z=>if lf z=y then x else lf z).map .int)):=by
  rw[zA3];refine gf (ds:=(upI n).map λ z=>.int (lf z)) (by simp[shE,m6,tupI,h6]) (by rw[zAF];lia) (jQ (upI n) λ z hz=>⟨[.sh (.int (lf z)),.sh (.int y),.sh (.int x)],by simp[stE,shE,m6,h8,h9],?_⟩);by_cases c:lf z=y<;>simp[c,pA,imm]
 unfold roL;rw[jm,bH,e];simp[tupI]
def aIo(h:Ow n ps)(h0:ρ[0]? =some (.sh (owD n ps)))(h7:ρ[7]? =some (.sh (tupI ((upI n).map uf))))(h2:ρ[2]? =some (.sh (.int a)))(h3:ρ[3]? =some (.sh (.int b))):roU ρ= .ok (tupI ((upI n).map λ z=>uf z+(if z=a\/z=b then 1 else 0))):=by
 have hn1:=h.n1;have hn0:=h.n0;have hr:=jH (j:=n) (by lia) (by lia);have hx:ixD (owD n ps) (.int 0)= .ok (.int n):=by simp[owD]
 have e:lcD (jB kI (aC (op2 ixD (aD 0) (cD (.int 0))) aH)) [none,some 7,some 2,some 3] (gnm 0) fO (op2 dF (aq (op2 ixD (aD 1) (aD 0))) (opA lR (aC (orD (op2 (eqR false) (aD 0) (aD 2)) (op2 (eqR false) (aD 0) (aD 3))) aH))) ρ= .ok (.lst (((upI n).map λ z=>uf z+(if z=a\/z=b then 1 else 0)).map .int)):=by
  rw[zA3];refine gf (ds:=(upI n).map .int) ?_ (by rw[zAF,cA];lia) (jQ (upI n) λ z hz=>⟨[.sh (.int z),.sh (tupI ((upI n).map uf)),.sh (.int a),.sh (.int b)],by simp[stE,shE,m6,h7,h2,h3],?_⟩)
  .simp[shE,m6,h0,hx,hr,tU]
  .obtain⟨z0,z1⟩:=bR.mp hz
   have g:=aAS (f:=uf) z0 z1;have v:aq (op2 ixD (aD 1) (aD 0)) [.sh (.int z),.sh (tupI ((upI n).map uf)),.sh (.int a),.sh (.int b)]= .ok (.int (uf z)):=by
    simp only[yF,lK,aFj,zDV,zDU,bz,tupI,aGx,g,uH];rfl
   rw[lK,v,bz];by_cases c1:z=a
   .subst c1
    by_cases c2:z=b
    .subst c2
     simp[lR]
    .simp[c2,lR]
   .by_cases c2:z=b
    .subst c2
     simp[c1,lR]
    .simp[c1,c2,lR]
 unfold roU;rw[jm,bH,e];simp[tupI]
abbrev roV(n:Int)(ps:gX)(s1:Slot)(a b:Int)(lg:List D)(t:Tr)(s8 s9 s10 s11:Slot):En:=[.sh (owD n ps),s1,.sh (.int a),.sh (.int b),.ow (.lst lg),.sh (.tup (t.1.map pD)),.sh (tupI ((upI n).map t.2.1)),.sh (tupI ((upI n).map t.2.2)),s8,s9,s10,s11]
def aIq{lg:List D}(h:Ow n ps)(ha:0<=a/\a<n)(hb:0<=b/\b<n)(hg:lg.length<100000)(hq:t.1.length<=1000):
  ∃s8' s9' s10' s11',roB (roV n ps s1 a b lg t s8 s9 s10 s11)= .nx (roV n ps s1 a b (lg++(if cnd (a,b) t=true then[rwF n (nwT (a,b) t)]else[])) t s8' s9' s10' s11'):=by
 have hn1:=h.n1;have g1:=aAS (f:=t.2.2) ha.1 ha.2;have g2:=aAS (f:=t.2.2) hb.1 hb.2;have g3:=aAS (f:=t.2.1) ha.1 ha.2;have g4:=aAS (f:=t.2.1) hb.1 hb.2;have x1:ixD (tupI ((upI n).map t.2.2)) (.int a)= .ok (.int (t.2.2 a)):=g1;have x2:ixD (tupI ((upI n).map t.2.2)) (.int b)= .ok (.int (t.2.2 b)):=g2;have x3:ixD (tupI ((upI n).map t.2.1)) (.int a)= .ok (.int (t.2.1 a)):=g3;have x4:ixD (tupI ((upI n).map t.2.1)) (.int b)= .ok (.int (t.2.1 b)):=g4;have ez:roT (roV n ps s1 a b lg t s8 s9 s10 s11)= .ok (cnd (a,b) t):=by
  unfold cnd;by_cases c1:t.2.2 a<2
  .by_cases c2:t.2.2 b<2
   .by_cases c3:t.2.1 a=t.2.1 b<;>simp[roT,x1,x2,x3,x4,c1,c2,c3]
   .simp[roT,x1,x2,x3,x4,c1,c2]
  .simp[roT,x1,x2,x3,x4,c1]
 cases z:cnd (a,b) t with
 |false=>exact⟨s8,s9,s10,s11,by rw[roB,jq,ez,z];simp⟩
 |true=>
  have ex:cT 8 (opA (mmD λ i j=>if j<i then j else i) (aC (op2 ixD (aD 6) (aD 2)) (aC (op2 ixD (aD 6) (aD 3)) aH))) (roV n ps s1 a b lg t s8 s9 s10 s11)= .nx (roV n ps s1 a b lg t (.sh (.int (mnI (t.2.1 a) (t.2.1 b)))) s9 s10 s11):=by simp[x3,x4,mnI]
  have ey:cT 9 (opA (mmD λ i j=>if j>i then j else i) (aC (op2 ixD (aD 6) (aD 2)) (aC (op2 ixD (aD 6) (aD 3)) aH))) (roV n ps s1 a b lg t (.sh (.int (mnI (t.2.1 a) (t.2.1 b)))) s9 s10 s11)= .nx (roV n ps s1 a b lg t (.sh (.int (mnI (t.2.1 a) (t.2.1 b)))) (.sh (.int (mxI (t.2.1 a) (t.2.1 b)))) s10 s11):=by simp[x3,x4,mxI]
  have e1:=aIp (ρ:=roV n ps s1 a b lg t (.sh (.int (mnI (t.2.1 a) (t.2.1 b)))) (.sh (.int (mxI (t.2.1 a) (t.2.1 b)))) s10 s11) (n:=n) (lf:=t.2.1) rfl rfl rfl hn1;have e2:=λ s=>aIo (ρ:=roV n ps s1 a b lg t (.sh (.int (mnI (t.2.1 a) (t.2.1 b)))) (.sh (.int (mxI (t.2.1 a) (t.2.1 b)))) s s11) (uf:=t.2.2) h rfl rfl rfl rfl
  obtain⟨l',hl'⟩:∃l':List Int,l'=(upI n).map λ z=>if t.2.1 z=mxI (t.2.1 a) (t.2.1 b)then mnI (t.2.1 a) (t.2.1 b)else t.2.1 z:=⟨_,rfl⟩
  obtain⟨u',hu'⟩:∃u':List Int,u'=(upI n).map λ z=>t.2.2 z+(if z=a\/z=b then 1 else 0):=⟨_,rfl⟩
  rw[<-hl']at e1;simp only[<-hu']at e2;have er:rwF n (nwT (a,b) t)=xN (t.1++[(a,b)]) l' u':=by rw[hl',hu'];rfl
  have e3:roA (roV n ps s1 a b lg t (.sh (.int (mnI (t.2.1 a) (t.2.1 b)))) (.sh (.int (mxI (t.2.1 a) (t.2.1 b)))) (.sh (tupI l')) (.sh (tupI u')))= .nx (roV n ps s1 a b (lg++[xN (t.1++[(a,b)]) l' u']) t (.sh (.int (mnI (t.2.1 a) (t.2.1 b)))) (.sh (.int (mxI (t.2.1 a) (t.2.1 b)))) (.sh (tupI l')) (.sh (tupI u'))):=by
   have A:dF (.tup (t.1.map pD)) (.tup [.tup [.int a,.int b]])= .ok (.tup ((t.1++[(a,b)]).map pD)):=by
    rw[aLi (by simp;lia),zAZ];rfl
   have i1:dJ (t.1.map pD)=true:=mO λ d hd=>by
    obtain⟨p,_,rfl⟩:=zAS.mp hd;rfl
   have i2:dJ (l'.map D.int)=true:=lU l';have i3:dJ (u'.map D.int)=true:=lU u';have hz:lg.length<16777216:=by lia
   simp[roA,j8,tupI,pA,imm,i1,i2,i3,A,xN,hz,-aAX]
  refine⟨.sh (.int (mnI (t.2.1 a) (t.2.1 b))),.sh (.int (mxI (t.2.1 a) (t.2.1 b))),.sh (tupI l'),.sh (tupI u'),?_⟩
  .rw[roB,jq,ez,z,bF,if_pos rfl,aK,ex,aU,aK,ey,aU,aK,jf,e1,bF]
   simp only[zEY,zEZ,aU];rw[aK,jf,e2,bF];simp only[zEY,zEZ,aU];rw[if_pos trivial,er];exact e3
theorem mJ:∀{l:List D},(∀d∈l,gH d d=true)->fJ l l=true
 |[],_=>rfl
 |x::l,h=>by
  rw[fJ,h x zAE,mJ λ d hd=>h d (zAB _ hd)];rfl
def same_ints(l:List Int):fJ (l.map .int) (l.map .int)=true:=mJ λ d hd=>by
 obtain⟨i,_,rfl⟩:=zAS.mp hd;simp[gH]
def aDs(l:gX):fJ (l.map pD) (l.map pD)=true:=mJ λ d hd=>by
 obtain⟨i,_,rfl⟩:=zAS.mp hd;simp[pD,gH,fJ]
def sG(l:gX):dJ (l.map pD)=true:=mO λ d hd=>by
 obtain⟨p,_,rfl⟩:=zAS.mp hd;rfl
def aDv(t:Tr):gH (rwF n t) (rwF n t)=true:=by
 have h1:=same_ints ((upI n).map t.2.1);have h2:=same_ints ((upI n).map t.2.2);have h3:=aDs t.1;unfold rwF xN tupI;simp only[gH,fJ,h1,h2,h3];rfl
def aBp(t:Tr):VL.imm (rwF n t)=true:=by
 have h1:dJ (((upI n).map t.2.1).map D.int)=true:=lU _;have h2:dJ (((upI n).map t.2.2).map D.int)=true:=lU _;have h3:=sG t.1;unfold rwF xN tupI;simp only[VL.imm,dJ,h1,h2,h3];rfl
abbrev roW(n:Int)(ps:gX)(l:List D)(a b:Int)(lg:List D)(s5 s6 s7 s8 s9 s10 s11:Slot):En:=[.sh (owD n ps),.ow (.lst l),.sh (.int a),.sh (.int b),.ow (.lst lg),s5,s6,s7,s8,s9,s10,s11]
theorem aHp{l:List D}(h:Ow n ps)(ha:0<=a/\a<n)(hb:0<=b/\b<n)(hl:fJ l l=true):∀(L lg:List Tr) (s5 s6 s7 s8 s9 s10 s11:Slot),(∀t∈L,t.1.length<=1000)->lg.length+L.length<100000->
  ∃s5' s6' s7' s8' s9' s10' s11',lX 1 l roG roB (L.map (rwF n)) (roW n ps l a b (lg.map (rwF n)) s5 s6 s7 s8 s9 s10 s11)= .nx (roW n ps l a b ((lg++(L.filter (cnd (a,b))).map (nwT (a,b))).map (rwF n)) s5' s6' s7' s8' s9' s10' s11')
 |[],lg,s5,s6,s7,s8,s9,s10,s11,_,_=>by
  refine⟨s5,s6,s7,s8,s9,s10,s11,?_⟩;have o:qW 1 l (roW n ps l a b (lg.map (rwF n)) s5 s6 s7 s8 s9 s10 s11)=true:=hl;rw[zDF];unfold lX;rw[if_pos o];simp
 |t::L,lg,s5,s6,s7,s8,s9,s10,s11,h1,h3=>by
  rw[zA4]at h3;obtain⟨t8,t9,t10,t11,e⟩:=aIq (t:=t) (s1:=.ow (.lst l)) (lg:=lg.map (rwF n)) (s8:=s8) (s9:=s9) (s10:=s10) (s11:=s11) h ha hb (by rw[zAF];lia) (h1 t zAE);have el:lg.map (rwF n)++(if cnd (a,b) t=true then[rwF n (nwT (a,b) t)]else[])=(lg++(if cnd (a,b) t=true then[nwT (a,b) t]else[])).map (rwF n):=by
   split<;>simp
  rw[el]at e;obtain⟨u5,u6,u7,u8,u9,u10,u11,e2⟩:=aHp h ha hb hl L (lg++(if cnd (a,b) t=true then[nwT (a,b) t]else[])) (.sh (.tup (t.1.map pD))) (.sh (tupI ((upI n).map t.2.1))) (.sh (tupI ((upI n).map t.2.2))) t8 t9 t10 t11 (λ d hd=>h1 d (zAB _ hd)) (by rw[zAT];split<;>simp<;>lia);refine⟨u5,u6,u7,u8,u9,u10,u11,?_⟩;have o:qW 1 l (roW n ps l a b (lg.map (rwF n)) s5 s6 s7 s8 s9 s10 s11)=true:=hl;have g:roG (rwF n t) (roW n ps l a b (lg.map (rwF n)) s5 s6 s7 s8 s9 s10 s11)= .ok (roV n ps (.ow (.lst l)) a b (lg.map (rwF n)) t s8 s9 s10 s11):=by simp[roG,rwF,xN]
  rw[zAC];unfold lX;rw[if_pos o,g];dsimp only;rw[e];dsimp only;have ef:(lg++(if cnd (a,b) t=true then[nwT (a,b) t]else[]))++(L.filter (cnd (a,b))).map (nwT (a,b))=lg++((t::L).filter (cnd (a,b))).map (nwT (a,b)):=by
   rw[zAn];split<;>simp
  rw[e2,ef]
abbrev roE(n:Int)(ps:gX)(L:List Tr)(s2 s3 s4 s5 s6 s7 s8 s9 s10 s11:Slot):En:=[.sh (owD n ps),.ow (.lst (L.map (rwF n))),s2,s3,s4,s5,s6,s7,s8,s9,s10,s11]
def aIn(h:Ow n ps)(ha:0<=a/\a<n)(hb:0<=b/\b<n)(hl:∀t∈L,t.1.length<=1000)(hz:L.length<=40000){s4:Slot}:
  ∃s4' s5' s6' s7' s8' s9' s10' s11',roO (roE n ps L (.sh (.int a)) (.sh (.int b)) s4 s5 s6 s7 s8 s9 s10 s11)= .nx (roE n ps (L++(L.filter (cnd (a,b))).map (nwT (a,b))) (.sh (.int a)) (.sh (.int b)) s4' s5' s6' s7' s8' s9' s10' s11'):=by
 obtain⟨t5,t6,t7,t8,t9,t10,t11,e⟩:=aHp (l:=L.map (rwF n)) h ha hb (mJ λ d hd=>by obtain⟨t,_,rfl⟩:=zAS.mp hd;exact aDv t) L [] s5 s6 s7 s8 s9 s10 s11 hl (by simp;lia);have hf:=zBU (cnd (a,b)) L;have c1:di 4 (gJ aH) (roE n ps L (.sh (.int a)) (.sh (.int b)) s4 s5 s6 s7 s8 s9 s10 s11)= .nx (roW n ps (L.map (rwF n)) a b [] s5 s6 s7 s8 s9 s10 s11):=by simp
 have c2:aHS 1 roG roB (roW n ps (L.map (rwF n)) a b [] s5 s6 s7 s8 s9 s10 s11)= .nx (roW n ps (L.map (rwF n)) a b (((L.filter (cnd (a,b))).map (nwT (a,b))).map (rwF n)) t5 t6 t7 t8 t9 t10 t11):=by
  show(if dJ (L.map (rwF n))=true then lX 1 (L.map (rwF n)) roG roB (L.map (rwF n)) (roW n ps (L.map (rwF n)) a b [] s5 s6 s7 s8 s9 s10 s11)else .st)=_
  rw[if_pos (mO λ d hd=>by obtain⟨t,_,rfl⟩:=zAS.mp hd;exact aBp t)];exact e
 have c3:aHX 1 4 (roW n ps (L.map (rwF n)) a b (((L.filter (cnd (a,b))).map (nwT (a,b))).map (rwF n)) t5 t6 t7 t8 t9 t10 t11)= .nx (roW n ps (L.map (rwF n)++((L.filter (cnd (a,b))).map (nwT (a,b))).map (rwF n)) a b (((L.filter (cnd (a,b))).map (nwT (a,b))).map (rwF n)) t5 t6 t7 t8 t9 t10 t11):=by
  show(if (L.map (rwF n)).length+(((L.filter (cnd (a,b))).map (nwT (a,b))).map (rwF n)).length<=zAR/\dJ (((L.filter (cnd (a,b))).map (nwT (a,b))).map (rwF n))=true then Ou.nx (roW n ps (L.map (rwF n)++((L.filter (cnd (a,b))).map (nwT (a,b))).map (rwF n)) a b (((L.filter (cnd (a,b))).map (nwT (a,b))).map (rwF n)) t5 t6 t7 t8 t9 t10 t11)else .st)=_
  rw[if_pos ⟨by rw[szl,zAF,zAF,zAF];lia,mO λ d hd=>by obtain⟨t,_,rfl⟩:=zAS.mp hd;exact aBp t⟩]
 refine⟨.ow (.lst (((L.filter (cnd (a,b))).map (nwT (a,b))).map (rwF n))),t5,t6,t7,t8,t9,t10,t11,?_⟩;rw[roO,aK,c1,aU,aK,c2,aU,c3,<-zAZ]
def mK(ps:gX)(p:Int×Int):bT (ps++[p])=bT ps++((bT ps).filter (cnd p)).map (nwT p):=by
 unfold bT;rw[zGf];rfl
def snoc_ind{α:Type}{P:List α->Prop}(h0:P [])(h1:∀l a,P l->P (l++[a]))(l:List α):P l:=by
 have:∀k (l:List α),l.length=k->P l:=by
  intro k;induction k with
  |zero=>exact λ l e=>by rw[List.length_eq_zero_iff.mp e];exact h0
  |succ k ih=>
   intro l e;rcases zGF l with rfl|⟨l',a,rfl⟩
   .exact h0
   .rw[zGE]at e ⊢
    rw[zAT,zAm]at e;exact h1 l' a (ih l' (by lia))
 exact this _ l rfl
def tQ(ps:gX):(bT ps).length<=2^ps.length/\∀t∈bT ps,t.1.length<=ps.length:=by
 induction ps using snoc_ind with
 |h0=>exact⟨by simp[bT],λ t ht=>by
  rw[zAK.mp ht];exact zAV _⟩
 |h1 l a ih=>
  rw[mK];have hf:=zBU (cnd a) (bT l);refine⟨by rw[zAT,zAF,zAT,zAm,Nat.pow_succ];have:=ih.1;lia,λ t ht=>?_⟩;rw[zAT,zAm];rcases zAX.mp ht with z|z
  .have:=ih.2 t z;lia
  .obtain⟨s,hs,rfl⟩:=zAS.mp z
   have:=ih.2 s (zAe.mp hs).1
   simp[nwT];lia
def rwD(qs:gX):D:=.tup (qs.map pD)
def zf(h:Ow n ps)(hn:n<=12)(hps:ps.length<=12):iy [owD n ps]= .ok (.lst ((bT ps).map λ t=>rwD t.1)):=by
 have hn0:=h.n0;have st:bC 12 [owD n ps]=[.sh (owD n ps),.no,.no,.no,.no,.no,.no,.no,.no,.no,.no,.no]:=rfl;have hx:ixD (owD n ps) (.int 0)= .ok (.int n):=by simp[owD]
 obtain⟨N,rfl⟩:∃N:Nat,n=N:=⟨n.toNat,(zBS hn0).symm⟩
 have hi0:rwF N ([],id,λ _=>0)= .tup [.tup [],tupI (upI N),tupI (zAN N 0)]:=by
  unfold rwF xN;rw[zEo]
  have:(upI N).map (λ _=>(0:Int))=zAN N 0:=by
   rw[List.map_const',cA];rfl
  rw[this];rfl
 have c1:di 1 (gJ (aC (dI (aC (dI aH) (aC (trD (op2 ixD (aD 0) (cD (.int 0)))) (aC (op2 aAy (dI (aC (cD (.int 0)) aH)) (aq (op2 ixD (aD 0) (cD (.int 0))))) aH)))) aH)) [.sh (owD N ps),.no,.no,.no,.no,.no,.no,.no,.no,.no,.no,.no]= .nx (roE N ps (bT []) .no .no .no .no .no .no .no .no .no .no):=by
  have t1:trD (op2 ixD (aD 0) (cD (.int 0))) [.sh (owD N ps),.no,.no,.no,.no,.no,.no,.no,.no,.no,.no,.no]= .ok (tupI (upI N)):=by
   have v:op2 ixD (aD 0) (cD (.int 0)) [.sh (owD N ps),.no,.no,.no,.no,.no,.no,.no,.no,.no,.no,.no]= .ok (.int N):=by simp[hx]
   unfold trD;rw[v,bz];unfold trR;dsimp only;rw[if_pos (by lia),tU,tupI]
  have t2:aAy (.tup [.int 0]) (.int N)= .ok (tupI (zAN N 0)):=by
   have:N=0\/N=1\/N=2\/N=3\/N=4\/N=5\/N=6\/N=7\/N=8\/N=9\/N=10\/N=11\/N=12:=by lia
   rcases this with rfl|rfl|rfl|rfl|rfl|rfl|rfl|rfl|rfl|rfl|rfl|rfl|rfl<;>simp[aAy,aGn,zBo,tupI,zAN]
  show _=Ou.nx [.sh (owD N ps),.ow (.lst [rwF N ([],id,λ _=>0)]),.no,.no,.no,.no,.no,.no,.no,.no,.no,.no];rw[hi0];simp[t1,t2,hx]
 have hi:cM (op2 ixD (aD 0) (cD (.int 1))) (roE N ps (bT []) .no .no .no .no .no .no .no .no .no .no)= .ok (ps.map pD):=by simp[owD]
 obtain⟨ρ',e,s2,s3,s4,s5,s6,s7,s8,s9,s10,s11,rfl⟩:=lY (ds:=ps.map pD) (a:=gO 2 (au (gnm 2) (au (gnm 3) gP))) (u:=roO) (ρ:=roE N ps (bT []) .no .no .no .no .no .no .no .no .no .no)
  (λ i ρ=>∃(s2 s3 s4 s5 s6 s7 s8 s9 s10 s11:Slot),ρ=roE N ps (bT (ps.take i)) s2 s3 s4 s5 s6 s7 s8 s9 s10 s11) (by
   rintro i d ρ hd ⟨s2,s3,s4,s5,s6,s7,s8,s9,s10,s11,rfl⟩;rw[zAP]at hd;cases ep:ps[i]? with
   |none=>rw[ep]at hd;cases hd
   |some p=>
    rw[ep]at hd;cases hd;obtain⟨a0,a1,b0,b1,_⟩:=h.pr p (zAl ep);obtain⟨r1,r2⟩:=tQ (ps.take i);have hle:2^(ps.take i).length<=2^12:=zEB (by decide) (by rw[zD1];lia);have hlt:(ps.take i).length<=12:=by rw[zD1];lia
    obtain⟨t4,t5,t6,t7,t8,t9,t10,t11,e⟩:=aIn (L:=bT (ps.take i)) (s4:=s4) (s5:=s5) (s6:=s6) (s7:=s7) (s8:=s8) (s9:=s9) (s10:=s10) (s11:=s11) h ⟨a0,a1⟩ ⟨b0,b1⟩ (λ t ht=>by have:=r2 t ht;lia) (by lia);refine⟨_,by simp[pD];exact e,.sh (.int p.1),.sh (.int p.2),t4,t5,t6,t7,t8,t9,t10,t11,?_⟩;rw[zGg,ep];show _=roE N ps (bT (ps.take i++[p])) _ _ _ _ _ _ _ _ _ _;rw[mK]) ⟨_,_,_,_,_,_,_,_,_,_,rfl⟩
 rw[zD7 (by rw[zAF];exact zAV _)]at e;have hle:2^ps.length<=2^12:=zEB (by decide) hps;have hrl:=(tQ ps).1;have eR:roR (roE N ps (bT ps) s2 s3 s4 s5 s6 s7 s8 s9 s10 s11)= .ok (.lst ((bT ps).map λ t=>rwD t.1)):=by
  refine gf (ds:=(bT ps).map (rwF N)) (by simp[shE,m6]) (by rw[zAF];lia) (jQ (bT ps) λ t hm=>⟨[.sh (rwF N t)],rfl,?_⟩);have i1:=sG t.1;simp[rwF,xN,pA,imm,i1,rwD]
 simp only[iy,fW,bW,st];rw[aK,c1,aU,aK,cI,hi,bF,e,aU,ji,eR];rfl
end
section
variable{n:Int}{ps:gX}
theorem aBY{α:Type}{P Q:α->Bool}:∀{l:List α},(∀x∈l,¬(P x=true/\Q x=true))->(l.filter λ x=>P x||Q x).length=(l.filter P).length+(l.filter Q).length
 |[],_=>rfl
 |x::l,h=>by
  have ih:=aBY λ y hy=>h y (zAB _ hy)
  have hx:=h x zAE;cases c1:P x<;>cases c2:Q x<;>simp[c1,c2]at hx ⊢<;>lia
def nq(lf:Int->Int)(qs:gX)(v:Int):Nat:=(qs.filter λ q=>decide (lf q.1=v)).length
def nc(n:Int)(lf:Int->Int)(v:Int):Nat:=((upI n).filter λ z=>decide (lf z=v)).length
structure RI(n:Int)(t:Tr):Prop where
 inn:∀q∈t.1,(0<=q.1/\q.1<n)/\(0<=q.2/\q.2<n)
 u:∀x,t.2.2 x=(dgr t.1 x:Int)
 l:∀q∈t.1,t.2.1 q.1=t.2.1 q.2
 c:∀x,0<=x->x<n->nq t.2.1 t.1 (t.2.1 x)+1=nc n t.2.1 (t.2.1 x)
def iu(F:gX)(p:Int×Int)(x:Int):dgr (F++[p]) x=dgr F x+(if x=p.1\/x=p.2 then 1 else 0):=by
 unfold dgr;rw[zAz,zAT,zAn];by_cases c:x=p.1\/x=p.2
 .rw[if_pos (by rcases c with c|c<;>simp[c]),if_pos c]
  simp
 .rw[if_neg (by rw[not_or]at c;simp[zCX c.1,zCX c.2]),if_neg c]
  simp
def RI.step(R:RI n t)(hp:(0<=p.1/\p.1<n)/\(0<=p.2/\p.2<n))(hc:cnd p t=true):RI n (nwT p t):=by
 obtain⟨qs,lf,uf⟩:=t;simp only[cnd,zAM,decide_eq_true_eq,zBQ,decide_eq_false_iff_not]at hc;obtain⟨h1,h2,h3⟩:=hc;obtain⟨lo,hlo⟩:∃lo,lo=mnI (lf p.1) (lf p.2):=⟨_,rfl⟩
 obtain⟨hi,hhi⟩:∃hi,hi=mxI (lf p.1) (lf p.2):=⟨_,rfl⟩
 have hne:lo≠hi:=by
  rw[hlo,hhi];rcases qb (lf p.1) (lf p.2)with ⟨e1,e2⟩|⟨e1,e2⟩<;>rw[e1,e2]
  .exact h3
  .exact zCX h3
 have hab:(lf p.1=lo/\lf p.2=hi)\/(lf p.1=hi/\lf p.2=lo):=by
  rw[hlo,hhi];rcases qb (lf p.1) (lf p.2)with ⟨e1,e2⟩|⟨e1,e2⟩
  .exact .inl ⟨e1.symm,e2.symm⟩
  .exact .inr ⟨e2.symm,e1.symm⟩
 have ca:=R.c p.1 hp.1.1 hp.1.2;have cb:=R.c p.2 hp.2.1 hp.2.2;dsimp only at ca cb;have clo:nq lf qs lo+1=nc n lf lo:=by
  rcases hab with ⟨e1,e2⟩|⟨e1,e2⟩
  .rw[<-e1];exact ca
  .rw[<-e2];exact cb
 have chi:nq lf qs hi+1=nc n lf hi:=by
  rcases hab with ⟨e1,e2⟩|⟨e1,e2⟩
  .rw[<-e2];exact cb
  .rw[<-e1];exact ca
 have lab:∀z,(if lf z=hi then lo else lf z)=lo↔lf z=lo\/lf z=hi:=λ z=>by
  split
  .rename_i e
   exact⟨λ _=>.inr e,λ _=>rfl⟩
  .rename_i e
   exact⟨.inl,λ q=>q.resolve_right e⟩
 have labv:∀z v,v≠lo->v≠hi->((if lf z=hi then lo else lf z)=v↔lf z=v):=λ z v h1 h2=>by
  split
  .rename_i e
   exact⟨λ q=>absurd q.symm h1,λ q=>absurd (q.symm.trans e) h2⟩
  .exact Iff.rfl
 have nohi:∀z,(if lf z=hi then lo else lf z)≠hi:=λ z=>by
  split
  .exact hne
  .assumption
 have pl:(if lf p.1=hi then lo else lf p.1)=lo:=(lab p.1).mpr (hab.elim (λ z=>.inl z.1) λ z=>.inr z.1);have pl2:(if lf p.2=hi then lo else lf p.2)=lo:=(lab p.2).mpr (hab.elim (λ z=>.inr z.2) λ z=>.inl z.2);refine⟨λ q hq=>?_,λ x=>?_,λ q hq=>?_,λ x x0 x1=>?_⟩
 .rcases zAX.mp hq with z|z
  .exact R.inn q z
  .rw[zAK.mp z];exact hp
 .have:=R.u x
  dsimp only at this;show uf x+(if x=p.1\/x=p.2 then 1 else 0)=(dgr (qs++[p]) x:Int);rw[iu,this];split<;>simp
 .show(if lf q.1=mxI (lf p.1) (lf p.2)then mnI (lf p.1) (lf p.2)else lf q.1)=(if lf q.2=mxI (lf p.1) (lf p.2)then mnI (lf p.1) (lf p.2)else lf q.2)
  rw[<-hlo,<-hhi];rcases zAX.mp hq with z|z
  .have:=R.l q z
   dsimp only at this;rw[this]
  .rw[zAK.mp z,pl,pl2]
 .show nq (λ z=>if lf z=mxI (lf p.1) (lf p.2)then mnI (lf p.1) (lf p.2)else lf z) (qs++[p]) (if lf x=mxI (lf p.1) (lf p.2)then mnI (lf p.1) (lf p.2)else lf x)+1=nc n (λ z=>if lf z=mxI (lf p.1) (lf p.2)then mnI (lf p.1) (lf p.2)else lf z) (if lf x=mxI (lf p.1) (lf p.2)then mnI (lf p.1) (lf p.2)else lf x)
  rw[<-hlo,<-hhi];have hv:=nohi x;have hw:(if lf x=hi then lo else lf x)=lo\/(if lf x=hi then lo else lf x)=lf x:=by
   split
   .exact .inl rfl
   .exact .inr rfl
  have cx:=R.c x x0 x1;dsimp only at cx;generalize (if lf x=hi then lo else lf x)=w at hv hw ⊢;unfold nq nc at*;rw[zAz,zAT];by_cases c:w=lo
  .subst c
   have e1:(qs.filter λ q=>decide ((if lf q.1=hi then w else lf q.1)=w))=qs.filter λ q=>decide (lf q.1=w)||decide (lf q.1=hi):=zAv λ q _=>by
    rw[zAj,decide_eq_true_eq,zCI,decide_eq_true_eq,decide_eq_true_eq];exact lab q.1
   have e2:((upI n).filter λ z=>decide ((if lf z=hi then w else lf z)=w))=(upI n).filter λ z=>decide (lf z=w)||decide (lf z=hi):=zAv λ z _=>by
    rw[zAj,decide_eq_true_eq,zCI,decide_eq_true_eq,decide_eq_true_eq];exact lab z
   have no:∀z:Int,¬(decide (lf z=w)=true/\decide (lf z=hi)=true):=λ z q=>by
    rw[decide_eq_true_eq,decide_eq_true_eq]at q;exact hne (q.1.symm.trans q.2)
   rw[e1,e2,aBY λ q _=>no q.1,aBY λ z _=>no z,zAn,if_pos (decide_eq_true pl)];simp only[zDe,zA4,zB5];lia
  .have hwx:=hw.resolve_left c
   have e1:(qs.filter λ q=>decide ((if lf q.1=hi then lo else lf q.1)=w))=qs.filter λ q=>decide (lf q.1=w):=zAv λ q _=>by
    rw[zAj,decide_eq_true_eq,decide_eq_true_eq];exact labv q.1 w c hv
   have e2:((upI n).filter λ z=>decide ((if lf z=hi then lo else lf z)=w))=(upI n).filter λ z=>decide (lf z=w):=zAv λ z _=>by
    rw[zAj,decide_eq_true_eq,decide_eq_true_eq];exact labv z w c hv
   rw[e1,e2,zAn,if_neg (by rw[decide_eq_true_eq];exact λ e=>c (e.symm.trans pl)),hwx];simp only[zDe,zB5];exact cx
def xM(hp:∀p∈ps,(0<=p.1/\p.1<n)/\(0<=p.2/\p.2<n)):∀t∈bT ps,RI n t/\t.1.Sublist ps/\∀x,dgr t.1 x<=2:=by
 induction ps using snoc_ind with
 |h0=>
  intro t ht;rw[zAK.mp ht];refine⟨⟨λ q hq=>(nomatch hq),λ x=>rfl,λ q hq=>(nomatch hq),λ x x0 x1=>?_⟩,zBW _,λ x=>zAi _⟩;show 0+1=nc n id x;unfold nc;have h1:(upI n).filter (λ z=>decide (id z=x))=[x]:=by
   have nd:=(iQ n).filter λ z=>decide (id z=x)
   have hm:∀z,z∈(upI n).filter (λ z=>decide (id z=x))↔z∈[x]:=λ z=>by
    rw[zAe,zAK,decide_eq_true_eq,bR];exact⟨λ q=>q.2,λ q=>⟨by rw[q];exact⟨x0,x1⟩,q⟩⟩
   exact List.perm_singleton.mp ((zDE nd (by simp)).mpr hm)
  rw[h1];rfl
 |h1 l a ih=>
  intro t ht;have hl:∀p∈l,(0<=p.1/\p.1<n)/\(0<=p.2/\p.2<n):=λ p h=>hp p (zAJ _ h)
  rw[mK]at ht;rcases zAX.mp ht with z|z
  .obtain⟨h1,h2,h3⟩:=ih hl t z
   exact⟨h1,h2.trans (zFf _ _),h3⟩
  .obtain⟨s,hs,rfl⟩:=zAS.mp z
   obtain⟨hs1,hs2⟩:=zAe.mp hs;obtain⟨h1,h2,h3⟩:=ih hl s hs1;refine⟨h1.step (hp a (by simp)) hs2,h2.append (zBW _),λ x=>?_⟩;show dgr (s.1++[a]) x<=2;rw[iu];simp only[cnd,zAM,decide_eq_true_eq]at hs2;obtain⟨c1,c2,_⟩:=hs2;rw[h1.u]at c1 c2;split
   .rename_i e
    rcases e with rfl|rfl<;>lia
   .have:=h3 x;lia
def Ac.pre{l:gX}{a:Int×Int}(A:Ac (l++[a])):Ac l:=λ S nd ne=>by
 have:=A S nd ne
 unfold inN at this ⊢;rw[zAz,zAT]at this;lia
def aKH{l:gX}{a:Int×Int}(hp:∀p∈l++[a],(0<=p.1/\p.1<n)/\(0<=p.2/\p.2<n))(nd:(l++[a]).Nodup)(A:Ac (l++[a])){t:Tr}(ht:t∈bT l)(hd:∀x,dgr (t.1++[a]) x<=2):cnd a t=true:=by
 have hl:∀p∈l,(0<=p.1/\p.1<n)/\(0<=p.2/\p.2<n):=λ p h=>hp p (zAJ _ h)
 obtain⟨R,h1,_⟩:=xM hl t ht;have hs:(t.1++[a]).Sublist (l++[a]):=h1.append (zBW _);have ha:=hp a (by simp);simp only[cnd,zAM,decide_eq_true_eq,zBQ,decide_eq_false_iff_not];have d1:=hd a.1;have d2:=hd a.2;rw[iu,if_pos (.inl rfl)]at d1;rw[iu,if_pos (.inr rfl)]at d2;refine⟨by rw[R.u];lia,by rw[R.u];lia,λ e=>?_⟩;have c:=R.c a.1 ha.1.1 ha.1.2;have hS:=A ((upI n).filter λ z=>decide (t.2.1 z=t.2.1 a.1)) ((iQ n).filter _) (zDG (zAe.mpr ⟨bR.mpr ha.1,by simp⟩));have hN:((t.1.filter λ q=>decide (t.2.1 q.1=t.2.1 a.1))++[a]).Nodup:=((nd.sublist hs).sublist ((List.filter_sublist (p:=λ q:Int×Int=>decide (t.2.1 q.1=t.2.1 a.1))).append (zBW _)));have hm:=oA (m:=(l++[a]).filter λ p=>decide (p.1∈(upI n).filter λ z=>decide (t.2.1 z=t.2.1 a.1))&&decide (p.2∈(upI n).filter λ z=>decide (t.2.1 z=t.2.1 a.1))) hN λ q hq=>by
  rw[zAe,zAM,decide_eq_true_eq,decide_eq_true_eq,zAe,zAe,decide_eq_true_eq,decide_eq_true_eq,bR,bR];rcases zAX.mp hq with z|z
  .obtain⟨z1,z2⟩:=zAe.mp z
   rw[decide_eq_true_eq]at z2
   have:=R.inn q z1
   exact⟨zAJ _ (h1.subset z1),⟨this.1,z2⟩,this.2,by rw[<-R.l q z1];exact z2⟩
  .rw[zAK.mp z]
   exact⟨by simp,⟨ha.1,rfl⟩,ha.2,e.symm⟩
 unfold inN at hS;unfold nq nc at c;rw[zAT,zAm]at hm;lia
end
def bmp(δ:Int->Nat)(e:Int×Int):Int->Nat:=λ z=>δ z+(if z=e.1\/z=e.2 then 1 else 0)
def gs(x:Int)(q:(Int->Nat)->Bool):gX->(Int->Nat)->Int
 |[],δ=>if q δ=true then 1 else 0
 |e::E,δ=>gs x q E δ+x*gs x q E (bmp δ e)
def aAQ(δ:Int->Nat)(a b:Int×Int):bmp (bmp δ a) b=bmp (bmp δ b) a:=funext λ z=>by
 unfold bmp;lia
section
variable{x:Int}{q q1 q2:(Int->Nat)->Bool}
def aCR{E F:gX}(h:E.Perm F):∀δ,gs x q E δ=gs x q F δ:=by
 induction h with
 |nil=>exact λ _=>rfl
 |cons a _ ih=>exact λ δ=>by rw[gs,gs,ih,ih]
 |swap a b l=>
  intro δ;simp only[gs];rw[aAQ δ a b];simp only[zDA];lia
 |trans _ _ i1 i2=>exact λ δ=>(i1 δ).trans (i2 δ)
def aHL(E:gX)(e:Int×Int)(δ:Int->Nat):gs x q (E++[e]) δ=gs x q E δ+x*gs x q E (bmp δ e):=by
 rw[aCR (List.perm_append_comm (l₁:=E) (l₂:=[e])) δ,zDg,gs]
theorem uX(e:Int×Int):∀(E:gX) (δ:Int->Nat),gs x q E (bmp δ e)=gs x (λ d=>q (bmp d e)) E δ
 |[],δ=>rfl
 |a::E,δ=>by rw[gs,gs,uX e E δ,aAQ,uX e E (bmp δ a)]
theorem aBV(h:∀δ,(if q δ=true then(1:Int)else 0)=(if q1 δ=true then 1 else 0)+(if q2 δ=true then 1 else 0)):∀(E:gX) (δ:Int->Nat),gs x q E δ=gs x q1 E δ+gs x q2 E δ
 |[],δ=>h δ
 |a::E,δ=>by
  rw[gs,gs,gs,aBV h E,aBV h E,zDA];lia
theorem yH(h:∀δ,q δ=false):∀(E:gX) (δ:Int->Nat),gs x q E δ=0
 |[],δ=>by rw[gs,h];rfl
 |a::E,δ=>by rw[gs,yH h E,yH h E];lia
def iR(ps:gX):List gX:=ps.foldl (λ L p=>L++L.map λ S=>S++[p]) [[]]
def sub_snoc(ps:gX)(p:Int×Int):iR (ps++[p])=iR ps++(iR ps).map λ S=>S++[p]:=by
 unfold iR;rw[zGf];rfl
def kZ(x:Int)(L:List gX):Int:=(L.map λ S=>x^S.length).sum
def aD8(L M:List gX):kZ x (L++M)=kZ x L+kZ x M:=by
 unfold kZ;rw[zAZ,List.sum_append_int]
theorem vX(p:Int×Int):∀L:List gX,kZ x (L.map λ S=>S++[p])=x*kZ x L
 |[]=>by simp[kZ]
 |S::L=>by
  have ih:=vX p L;unfold kZ at ih ⊢;rw[zAC,zAC,zAC,zBx,zBx,ih,zAT,zAm,zDA,zDp,zGL (x^S.length)]
def dgf(δ:Int->Nat)(S:gX):Int->Nat:=λ z=>δ z+dgr S z
def aFY(δ:Int->Nat)(S:gX)(p:Int×Int):dgf δ (S++[p])=dgf (bmp δ p) S:=funext λ z=>by
 unfold dgf bmp;rw[iu];lia
def aI6(ps:gX):∀δ:Int->Nat,kZ x ((iR ps).filter λ S=>q (dgf δ S))=gs x q ps δ:=by
 induction ps using snoc_ind with
 |h0=>
  intro δ;show kZ x ([[]].filter λ S=>q (dgf δ S))=if q δ=true then 1 else 0
  have e:dgf δ []=δ:=funext λ z=>rfl
  by_cases c:q δ=true
  .rw[zAn,if_pos (by rw[e];exact c),if_pos c]
   simp[kZ]
  .rw[zAn,if_neg (by rw[e];exact c),if_neg c]
   rfl
 |h1 l a ih=>
  intro δ;rw[sub_snoc,zAz,aD8,ih,aHL,zC2,vX,<-ih (bmp δ a)];refine congrArg (λ t=>gs x q l δ+x*t) (congrArg (kZ x) (zAv λ S _=>?_));show q (dgf δ (S++[a]))=_;rw[aFY]
end
def hsm(B:Int):List Int->Int
 |[]=>0
 |a::as=>a+B*hsm B as
theorem aLM{B:Int}(hB:0<B):∀{as bs:List Int},as.length=bs.length->(∀a∈as,0<=a/\a<B)->(∀a∈bs,0<=a/\a<B)->hsm B as=hsm B bs->as=bs
 |[],[],_,_,_,_=>rfl
 |[],b::bs,h,_,_,_=>by simp at h
 |a::as,[],h,_,_,_=>by simp at h
 |a::as,b::bs,h,h1,h2,e=>by
  obtain⟨a0,a1⟩:=h1 a zAE;obtain⟨b0,b1⟩:=h2 b zAE;rw[hsm,hsm]at e;have m1:(a+B*hsm B as)%B=a:=by rw[zFX];exact zGo a0 a1
  have m2:(b+B*hsm B bs)%B=b:=by rw[zFX];exact zGo b0 b1
  have ab:a=b:=by rw[<-m1,e,m2]
  subst ab;have e2:B*hsm B as=B*hsm B bs:=by lia
  have e3:=Int.eq_of_mul_eq_mul_left (Int.ne_of_gt hB) e2;rw[aLM hB (by simpa using h) (λ x hx=>h1 x (zAB _ hx)) (λ x hx=>h2 x (zAB _ hx)) e3]
theorem uW(B:Int):∀m:Nat,hsm B (zAN m 0)=0
 |0=>rfl
 |m+1=>by rw[zBR,hsm,uW B m];lia
def aHK(B:Int):∀(m:Nat) (f g:Nat->Int),hsm B ((zBi 0 m).map λ k=>f k+g k)=hsm B ((zBi 0 m).map f)+hsm B ((zBi 0 m).map g):=by
 have:∀(m s:Nat) (f g:Nat->Int),hsm B ((zBi s m).map λ k=>f k+g k)=hsm B ((zBi s m).map f)+hsm B ((zBi s m).map g):=by
  intro m;induction m with
  |zero=>exact λ s f g=>rfl
  |succ m ih=>
   intro s f g;rw[zGw,zAC,zAC,zAC,hsm,hsm,hsm,ih,zDA];lia
 exact λ m f g=>this m 0 f g
theorem aCQ(B w:Int)(j:Nat):∀(m s:Nat),s<=j->j<s+m->hsm B ((zBi s m).map λ k=>if k=j then w else 0)=w*B^(j-s)
 |0,s,h1,h2=>by lia
 |m+1,s,h1,h2=>by
  rw[zGw,zAC,hsm];by_cases c:s=j
  .subst c
   have z:(zBi (s+1) m).map (λ k=>if k=s then w else 0)=zAN m 0:=by
    refine zGG.mpr ⟨by simp,λ b hb=>?_⟩;obtain⟨k,hk,rfl⟩:=zAS.mp hb
    have:=zHN.mp hk
    rw[if_neg (by obtain⟨i,_,e⟩:=this;lia)]
   rw[z,uW,if_pos rfl,zGN];simp
  .rw[if_neg c,aCQ B w j m (s+1) (by lia) (by lia),show j-s=(j-(s+1))+1 by lia,zDp,zDM,zGp,zGL B]
theorem sZ{α:Type}(B:Int){m:Nat}{g:α->Nat}{w:α->Int}:∀l:List α,(∀p∈l,g p<m)->(l.map λ p=>w p*B^g p).sum=hsm B ((zBi 0 m).map λ k=>((l.filter λ p=>decide (g p=k)).map w).sum)
 |[],_=>by
  have z:((zBi 0 m).map λ k=>((([]:List α).filter λ p=>decide (g p=k)).map w).sum)=zAN m 0:=by
   refine zGG.mpr ⟨by simp,λ b hb=>?_⟩;obtain⟨k,_,rfl⟩:=zAS.mp hb;rfl
  rw[z,uW];rfl
 |p::l,h=>by
  have ih:=sZ B (w:=w) l λ q hq=>h q (zAB _ hq)
  have e:((zBi 0 m).map λ k=>(((p::l).filter λ p=>decide (g p=k)).map w).sum)=(zBi 0 m).map λ k=>(if k=g p then w p else 0)+((l.filter λ p=>decide (g p=k)).map w).sum:=zBL λ k _=>by
   rw[zAn];by_cases c:g p=k
   .rw[if_pos (decide_eq_true c),if_pos c.symm,zAC,zBx]
   .rw[if_neg (by rw[decide_eq_true_eq];exact c),if_neg (zCX c),zDM]
  rw[e,aHK,aCQ B (w p) (g p) m 0 (zAi _) (by have:=h p zAE;lia),zAC,zBx,ih,Nat.sub_zero]
abbrev Tl:=List (Int×Int)
def ev(x:Int)(l:Tl):Int:=(l.map λ p=>p.2*x^p.1.toNat).sum
structure Tz(N:Int)(l:Tl):Prop where
 nd:(l.map (·.1)).Nodup
 ky:∀p∈l,0<=p.1/\p.1<=N
 tm:∀p∈l,1<=p.2
def pu(l:Tl)(k w:Int):Tl:=if (l.any λ p=>decide (p.1=k))=true then l.map (λ p=>if p.1=k then(p.1,(l.lookup k).getD 0+w)else p)else l++[(k,(l.lookup k).getD 0+w)]
def pv(k w:Int):Tl->Tl
 |[]=>[(k,w)]
 |p::l=>if p.1=k then(p.1,p.2+w)::l else p::pv k w l
def gw(x:Int)(p:Int×Int)(l:Tl):ev x (p::l)=p.2*x^p.1.toNat+ev x l:=rfl
theorem aIF(k w:Int):∀{l:Tl},(l.map (·.1)).Nodup->pu l k w=pv k w l
 |[],_=>by simp[pu,pv]
 |p::l,h=>by
  rw[zAC,zA9]at h;have ih:=aIF k w h.2;unfold pu at ih ⊢;rw[zCL,pv];by_cases c:p.1=k
  .have hl:zGT k (p::l)=some p.2:=by
    obtain⟨a,b⟩:=p;dsimp only at c;subst c;simp
   rw[if_pos c,if_pos (by rw[decide_eq_true c];rfl),zAC,if_pos c,hl];refine congrArg ((p.1,p.2+w)::·) ?_;refine(zBL λ q hq=>?_).trans (zEo _);rw[if_neg λ z=>h.1 (zAS.mpr ⟨q,hq,z.trans c.symm⟩)];rfl
  .have hl:zGT k (p::l)=zGT k l:=by
    obtain⟨a,b⟩:=p
    have:(k==a)=false:=by simpa using λ z:k=a=>c z.symm
    rw[zAh,this]
   rw[if_neg c,decide_eq_false c,zH7,hl,<-ih];split
   .rw[zAC,if_neg c]
   .rfl
theorem aIE(x k w:Int):∀l:Tl,ev x (pv k w l)=ev x l+w*x^k.toNat
 |[]=>by simp[pv,ev]
 |p::l=>by
  rw[pv];split
  .rename_i c
   rw[gw,gw,c];simp only[Int.add_mul];lia
  .rw[gw,gw,aIE x k w l]
   lia
theorem xU{k w a:Int}:∀{l:Tl},a∈(pv k w l).map (·.1)->a∈l.map (·.1)\/a=k
 |[],h=>by simp[pv]at h;exact .inr h
 |p::l,h=>by
  rw[pv]at h;split at h
  .exact .inl h
  .rw[zAC]at h ⊢
   rcases zAQ.mp h with e|e
   .exact .inl (by rw[e];exact zAE)
   .rcases xU e with z|z
    .exact .inl (zAB _ z)
    .exact .inr z
theorem aID{k w:Int}:∀{l:Tl},(l.map (·.1)).Nodup->((pv k w l).map (·.1)).Nodup
 |[],_=>by simp[pv]
 |p::l,h=>by
  rw[pv];split
  .exact h
  .rename_i c
   rw[zAC,zA9]at h ⊢;refine⟨λ z=>?_,aID h.2⟩;rcases xU z with y|y
   .exact h.1 y
   .exact c y
theorem aIC{k w:Int}(hw:1<=w):∀{l:Tl},(∀p∈l,1<=p.2)->∀p∈pv k w l,1<=p.2
 |[],_,p,h=>by simp[pv]at h;subst h;exact hw
 |q::l,h1,p,h=>by
  rw[pv]at h;split at h
  .rcases zAQ.mp h with rfl|h
   .have:=h1 q zAE
    show 1<=q.2+w;lia
   .exact h1 p (zAB _ h)
  .rcases zAQ.mp h with rfl|h
   .exact h1 p zAE
   .exact aIC hw (λ q hq=>h1 q (zAB _ hq)) p h
section
variable{N:Int}{l one oth:Tl}{ρ:En}
theorem Tz.pu(T:Tz N l)(hk:0<=k/\k<=N)(hw:1<=w):Tz N (pu l k w)/\∀x,ev x (pu l k w)=ev x l+w*x^k.toNat:=by
 rw[aIF k w T.nd];refine⟨⟨aID T.nd,λ p hp=>?_,aIC hw T.tm⟩,λ x=>aIE x k w l⟩;rcases xU (zAS.mpr ⟨p,hp,rfl⟩)with z|z
 .obtain⟨q,hq,e⟩:=zAS.mp z
  rw[<-e];exact T.ky q hq
 .rw[z];exact hk
def Tz.len(T:Tz N l)(hN:N<=900):l.length<=1000:=by
 have:=oA (m:=upI (N+1)) T.nd λ x hx=>by
  obtain⟨p,hp,rfl⟩:=zAS.mp hx
  have:=T.ky p hp
  exact bR.mpr ⟨this.1,by lia⟩
 rw[cA,zAF]at this;lia
def Tz.up(T:Tz N l)(h:N<=M):Tz M l:=⟨T.nd,λ p hp=>⟨(T.ky p hp).1,zCf (T.ky p hp).2 h⟩,T.tm⟩
def aEh(b:Tl)(x:Int):(((b.map λ p=>(p.1,D.int p.2)).lookup x).getD (.int 0))= .int ((b.lookup x).getD 0):=by
 induction b with
 |nil=>rfl
 |cons q b ih=>
  rw[zAC,zAh,zAh];cases x==q.1
  .exact ih
  .rfl
def aGQ(b:Tl)(x v:Int):aCi (b.map λ p=>(p.1,D.int p.2)) x (.int v)=(if (b.any λ p=>decide (p.1=x))=true then b.map (λ p=>if p.1=x then(p.1,v)else p)else b++[(x,v)]).map λ p=>(p.1,D.int p.2):=by
 unfold aCi;rw[List.any_map]
 show(if (b.any λ p=>decide (p.1=x))=true then(b.map λ p=>(p.1,D.int p.2)).map (λ p=>if p.1=x then(p.1,D.int v)else p)else(b.map λ p=>(p.1,D.int p.2))++[(x,D.int v)])=_
 by_cases c:(b.any λ p=>decide (p.1=x))=true
 .rw[if_pos c,if_pos c,zA3,zA3]
  refine zBL λ q _=>?_
  show(if q.1=x then(q.1,D.int v)else(q.1,D.int q.2))=_
  dsimp only[Function.comp];split<;>rfl
 .rw[if_neg c,if_neg c,zAZ]
  rfl
def aIK{i:Nat}{fk fw:En->Rs D}(h:ρ[i]? =some (.ow (iw l)))(hk:fk ρ= .ok (.int k))(hw:fw ρ= .ok (.int w))(hl:l.length<=1000):pdS i fk (op2 dF (aq (aB0 (dC i) fk (cD (.int 0)))) fw) ρ= .nx (ρ.set i (.ow (iw (pu l k w)))):=by
 have hv:dC i ρ= .ok (iw l):=by
  unfold dC;rw[h]
 have hg:aB0 (dC i) fk (cD (.int 0)) ρ= .ok (.int ((l.lookup k).getD 0)):=by
  rw[<-aEh];unfold aB0;rw[hv,bz];unfold iw aB2;dsimp only;rw[pq,hk];rfl
 have e1:op2 dF (aq (aB0 (dC i) fk (cD (.int 0)))) fw ρ= .ok (.int ((l.lookup k).getD 0+w)):=by
  rw[lK,yF,hg,hw];rfl
 have e2:v7 (iw l) (.int k)=some (l.map λ p=>(p.1,D.int p.2),k):=by
  unfold v7 iw aB2;dsimp only;rw[pq];rfl
 unfold pdS;rw[h];dsimp only;rw[e1,bF,hk,bF,e2];dsimp only;rw[if_pos (by rw[szl,zAF];lia),aGQ];rfl
def lW{f:En->Rs D}(h:f ρ= .ok (iw l)):gr f ρ= .ok (.itm none l):=by
 unfold gr;rw[h,bz];unfold iw aB2;dsimp only
 have:vm ((l.map λ p=>(p.1,D.int p.2)).map λ p=>D.int p.1) ((l.map λ p=>(p.1,D.int p.2)).map (·.2))=some l:=by
  unfold vm;rw[pq];dsimp only;have e:((l.map λ p=>(p.1,D.int p.2)).map (·.2))=(l.map (·.2)).map D.int:=by rw[zA3,zA3];rfl
  rw[e,dM,zA3];show some ((l.map (·.1)).zip (l.map (·.2)))=some l;rw[List.zip_map'];exact congrArg some (zEo _)
 rw[this]
def tlD(p:Int×Int):D:=.tup [.int p.1,.int p.2]
abbrev adE(a b:D)(l:Tl)(s3 s4:Slot):En:=[.sh a,.sh b,.ow (iw l),s3,s4]
theorem aC4(hN:N<=900){a b:D}:∀(m l:Tl) (s3 s4:Slot),(∀p∈m,(0<=p.1/\p.1<=N)/\1<=p.2)->Tz N l->∃l' s3' s4',forL adG adB (m.map tlD) (adE a b l s3 s4)= .nx (adE a b l' s3' s4')/\Tz N l'/\∀x,ev x l'=ev x l+ev x m
 |[],l,s3,s4,_,T=>⟨l,s3,s4,rfl,T,λ x=>(Int.add_zero _).symm⟩
 |p::m,l,s3,s4,h,T=>by
  obtain⟨hk,hw⟩:=h p zAE;obtain⟨T1,e1⟩:=T.pu hk hw;obtain⟨l',s3',s4',e,T',ee⟩:=aC4 hN m (pu l p.1 p.2) (.sh (.int p.1)) (.sh (.int p.2)) (λ q hq=>h q (zAB _ hq)) T1;refine⟨l',s3',s4',?_,T',λ x=>by rw[ee,e1,gw];lia⟩;have g:adG (tlD p) (adE a b l s3 s4)= .ok (adE a b l (.sh (.int p.1)) (.sh (.int p.2))):=by simp[adG,tlD]
  have eb:adB (adE a b l (.sh (.int p.1)) (.sh (.int p.2)))= .nx (adE a b (pu l p.1 p.2) (.sh (.int p.1)) (.sh (.int p.2))):=aIK (w:=p.2) rfl rfl rfl (T.len hN);rw[zAC,b7,g,fU,eb,jF,e]
def j9{o1 o2}(hN:N<=900)(T1:Tz N one)(T2:Tz N oth):∃l,cJ [.itm o1 one,.itm o2 oth]= .ok (iw l)/\Tz N l/\∀x,ev x l=ev x one+ev x oth:=by
 obtain⟨l',s3',s4',e,T',ee⟩:=aC4 hN (a:=.itm o1 one) (b:=.itm o2 oth) oth one .no .no (λ p hp=>⟨T2.ky p hp,T2.tm p hp⟩) T1;refine⟨l',?_,T',ee⟩;have st:bC 5 [.itm o1 one,.itm o2 oth]=[.sh (.itm o1 one),.sh (.itm o2 oth),.no,.no,.no]:=rfl;have hl:=T1.len hN;have hc:aB3 [.itm o1 one]= .ok (iw one):=by
  unfold aB3;dsimp only;rw[if_pos (by rw[szl];lia)];rfl
 have c1:di 2 (opA aB3 (aC (aD 0) aH)) [.sh (.itm o1 one),.sh (.itm o2 oth),.no,.no,.no]= .nx (adE (.itm o1 one) (.itm o2 oth) one .no .no):=by simp[hc]
 have hi:aBQ (aD 1) (adE (.itm o1 one) (.itm o2 oth) one .no .no)= .ok (oth.map tlD):=rfl;rw[cJ,bW,st,mX,aK,c1,aU,aK,cI,hi,bF,e,aU];rfl
abbrev coE(a b:D)(c:Int)(l:Tl)(s4 s5 s6 s7 s8:Slot):En:=[.sh a,.sh b,.sh (.int c),.ow (iw l),s4,s5,s6,s7,s8]
theorem aIV{M c:Int}(hN:N+M+c<=900)(hc:0<=c){a b:D}{t:Int×Int}(ht:(0<=t.1/\t.1<=N)/\1<=t.2)(hb:t.2<2^64):∀(m l:Tl) (s6 s7 s8:Slot),(∀p∈m,(0<=p.1/\p.1<=M)/\1<=p.2)->Tz (N+M+c) l->∃l' s6' s7' s8',forL coI coB (m.map tlD) (coE a b c l (.sh (.int t.1)) (.sh (.int t.2)) s6 s7 s8)= .nx (coE a b c l' (.sh (.int t.1)) (.sh (.int t.2)) s6' s7' s8')/\Tz (N+M+c) l'/\∀x,ev x l'=ev x l+t.2*x^t.1.toNat*ev x m*x^c.toNat
 |[],l,s6,s7,s8,_,T=>⟨l,s6,s7,s8,rfl,T,λ x=>by show _=_+_*0*_;simp⟩
 |p::m,l,s6,s7,s8,h,T=>by
  obtain⟨hk,hw⟩:=h p zAE;have hw2:1<=t.2*p.2:=zEz ht.2 hw;obtain⟨T1,e1⟩:=T.pu (k:=t.1+p.1+c) (w:=t.2*p.2) (by lia) hw2;obtain⟨l',s6',s7',s8',e,T',ee⟩:=aIV hN hc ht hb m (pu l (t.1+p.1+c) (t.2*p.2)) (.sh (.int p.1)) (.sh (.int p.2)) (.sh (.int (t.1+p.1+c))) (λ q hq=>h q (zAB _ hq)) T1;refine⟨l',s6',s7',s8',?_,T',λ x=>?_⟩
  .have g:coI (tlD p) (coE a b c l (.sh (.int t.1)) (.sh (.int t.2)) s6 s7 s8)= .ok (coE a b c l (.sh (.int t.1)) (.sh (.int t.2)) (.sh (.int p.1)) (.sh (.int p.2)) s8):=by simp[coI,tlD]
   have f1:cT 8 (op2 dF (op2 dF (aD 4) (aD 6)) (aD 2)) (coE a b c l (.sh (.int t.1)) (.sh (.int t.2)) (.sh (.int p.1)) (.sh (.int p.2)) s8)= .nx (coE a b c l (.sh (.int t.1)) (.sh (.int t.2)) (.sh (.int p.1)) (.sh (.int p.2)) (.sh (.int (t.1+p.1+c)))):=rfl;have hm:gq (.int t.2) (.int p.2)= .ok (.int (t.2*p.2)):=by
    unfold gq;dsimp only;rw[if_pos (by rw[decide_eq_true (show -(2^64)<t.2 by lia),decide_eq_true hb];rfl)]
   have eb:=aIK (ρ:=coE a b c l (.sh (.int t.1)) (.sh (.int t.2)) (.sh (.int p.1)) (.sh (.int p.2)) (.sh (.int (t.1+p.1+c)))) (i:=3) (fk:=aD 8) (fw:=op2 gq (aq (aD 5)) (aq (aD 7))) (k:=t.1+p.1+c) (w:=t.2*p.2) rfl rfl (by
    rw[lK]
    show((Rs.ok (D.int t.2)).bd λ x=>(Rs.ok (D.int p.2)).bd λ y=>_)=_
    rw[bz,bz,hm];rfl) (T.len hN)
   rw[zAC,b7,g,fU,coB,aK,f1,aU,eb,jF];exact e
  .rw[ee,e1,gw,zHi (by lia) hc,zHi ht.1.1 hk.1,Int.pow_add,Int.pow_add]
   grind
theorem aF0{M c:Int}(hN:N+M+c<=900)(hc:0<=c)(T2:Tz M oth){a:D}{o2}:∀(m l:Tl) (s4 s5 s6 s7 s8:Slot),(∀p∈m,(0<=p.1/\p.1<=N)/\1<=p.2/\p.2<2^64)->Tz (N+M+c) l->∃l' s4' s5' s6' s7' s8',forL coG coO (m.map tlD) (coE a (.itm o2 oth) c l s4 s5 s6 s7 s8)= .nx (coE a (.itm o2 oth) c l' s4' s5' s6' s7' s8')/\Tz (N+M+c) l'/\∀x,ev x l'=ev x l+ev x m*ev x oth*x^c.toNat
 |[],l,s4,s5,s6,s7,s8,_,T=>⟨l,s4,s5,s6,s7,s8,rfl,T,λ x=>by show _=_+0*_*_;simp⟩
 |p::m,l,s4,s5,s6,s7,s8,h,T=>by
  obtain⟨hk,hw,hb⟩:=h p zAE;obtain⟨l1,t6,t7,t8,e1,T1,ee1⟩:=aIV hN hc (a:=a) (b:=.itm o2 oth) ⟨hk,hw⟩ hb oth l s6 s7 s8 (λ q hq=>⟨T2.ky q hq,T2.tm q hq⟩) T;obtain⟨l',s4',s5',s6',s7',s8',e,T',ee⟩:=aF0 hN hc T2 m l1 (.sh (.int p.1)) (.sh (.int p.2)) t6 t7 t8 (λ q hq=>h q (zAB _ hq)) T1;refine⟨l',s4',s5',s6',s7',s8',?_,T',λ x=>by rw[ee,ee1,gw];grind⟩;have g:coG (tlD p) (coE a (.itm o2 oth) c l s4 s5 s6 s7 s8)= .ok (coE a (.itm o2 oth) c l (.sh (.int p.1)) (.sh (.int p.2)) s6 s7 s8):=by simp[coG,tlD]
  have hi:aBQ (aD 1) (coE a (.itm o2 oth) c l (.sh (.int p.1)) (.sh (.int p.2)) s6 s7 s8)= .ok (oth.map tlD):=rfl;rw[zAC,b7,g,fU,coO,cI,hi,bF,e1,jF];exact e
def mC{M c:Int}{o1 o2}(hN:N+M+c<=900)(h0:0<=N+M+c)(hc:0<=c)(T1:Tz N one)(hb:∀p∈one,p.2<2^64)(T2:Tz M oth):∃l,bw [.itm o1 one,.itm o2 oth,.int c]= .ok (iw l)/\Tz (N+M+c) l/\∀x,ev x l=ev x one*ev x oth*x^c.toNat:=by
 obtain⟨l',s4',s5',s6',s7',s8',e,T',ee⟩:=aF0 hN hc T2 (a:=.itm o1 one) (o2:=o2) one [] .no .no .no .no .no (λ p hp=>⟨T1.ky p hp,T1.tm p hp,hb p hp⟩) ⟨.nil,λ p hp=>(nomatch hp),λ p hp=>(nomatch hp)⟩;refine⟨l',?_,T',λ x=>by rw[ee];show 0+_=_;rw[zDM]⟩;have st:bC 9 [.itm o1 one,.itm o2 oth,.int c]=[.sh (.itm o1 one),.sh (.itm o2 oth),.sh (.int c),.no,.no,.no,.no,.no,.no]:=rfl;have c1:di 3 (cD (.dct [] [])) [.sh (.itm o1 one),.sh (.itm o2 oth),.sh (.int c),.no,.no,.no,.no,.no,.no]= .nx (coE (.itm o1 one) (.itm o2 oth) c [] .no .no .no .no .no):=rfl;have hi:aBQ (aD 0) (coE (.itm o1 one) (.itm o2 oth) c [] .no .no .no .no .no)= .ok (one.map tlD):=rfl;rw[bw,bW,st,fZ,aK,c1,aU,aK,cI,hi,bF,e,aU];rfl
end
def pr(f:Int->Int):List Int->Int
 |[]=>1
 |w::l=>f w*pr f l
section
variable{f g:Int->Int}{l Z R:List Int}{u p x:Int}{q q0 q1 q2:(Int->Nat)->Bool}
theorem o9:∀{l:List Int},(∀w∈l,f w=g w)->pr f l=pr g l
 |[],_=>rfl
 |w::l,h=>by rw[pr,pr,h w zAE,o9 λ v hv=>h v (zAB _ hv)]
theorem aBx(f:Int->Int)(p:Int):∀l:List Int,pr f (l++[p])=pr f l*f p
 |[]=>by simp[pr]
 |w::l=>by rw[zGs,pr,pr,aBx f p l,zHh]
theorem aAr:∀{l:List Int},(∀w∈l,1<=f w)->1<=pr f l
 |[],_=>zBy _
 |w::l,h=>zEz (h w zAE) (aAr λ v hv=>h v (zAB _ hv))
theorem aEP:∀{l:List Int},l.Nodup->u∈l->∃K,∀g:Int->Int,(∀w,w≠u->g w=f w)->pr g l=g u*K
 |w::l,nd,h=>by
  rw[zA9]at nd;by_cases c:w=u
  .subst c
   exact⟨pr f l,λ g hg=>by rw[pr,o9 λ v hv=>hg v λ z=>nd.1 (z▸hv)]⟩
  .have hm:u∈l:=by
    rcases zAQ.mp h with z|z
    .exact absurd z.symm c
    .exact z
   obtain⟨K,hK⟩:=aEP nd.2 hm;exact⟨f w*K,λ g hg=>by rw[pr,hK g hg,hg w c];exact zGp _ _ _⟩
def ind(b:Bool):Int:=if b=true then 1 else 0
def aHM(h:∀δ,ind (q δ)=ind (q1 δ)+ind (q2 δ))(E:gX)(δ:Int->Nat):gs x q E δ=gs x q1 E δ+gs x q2 E δ:=aBV h E δ
theorem yI(h:∀δ,ind (q δ)=ind (q0 δ)+ind (q1 δ)+ind (q2 δ)):∀(E:gX) (δ:Int->Nat),gs x q E δ=gs x q0 E δ+gs x q1 E δ+gs x q2 E δ
 |[],δ=>h δ
 |a::E,δ=>by
  rw[gs,gs,gs,gs,yI h E,yI h E,zDA,zDA];lia
theorem aCS(hx:1<=x)(q:(Int->Nat)->Bool):∀(E:gX) (δ:Int->Nat),0<=gs x q E δ/\gs x q E δ<=(2*x)^E.length
 |[],δ=>by
  rw[gs];split<;>simp
 |e::E,δ=>by
  obtain⟨a1,a2⟩:=aCS hx q E δ;obtain⟨b1,b2⟩:=aCS hx q E (bmp δ e);have hp:0<=(2*x)^E.length:=zCf a1 a2;rw[gs,zA4,zDp];have m1:0<=x*gs x q E (bmp δ e):=zFd (by lia) b1;have m2:x*gs x q E (bmp δ e)<=x*(2*x)^E.length:=zCD b2 (by lia);have m3:1*(2*x)^E.length<=x*(2*x)^E.length:=zEa hx hp;have m4:(2*x)^E.length*(2*x)=x*(2*x)^E.length+x*(2*x)^E.length:=by grind
  rw[m4];constructor<;>lia
def qc(Z R:List Int)(c δ:Int->Nat):Bool:=(Z.all λ v=>decide (δ v<=2))&&R.all λ w=>decide (δ w=c w)
def cp(c:Int->Nat)(p:Int)(k:Nat):Int->Nat:=λ w=>if w=p then k else c w
def Cb(Z R:List Int)(E:gX)(vW:Int->Int)(T:Int->Nat->Int->Int):Prop:=∀(x:Int) (c:Int->Nat),(∀w,c w<=2)->gs x (qc Z R c) E (λ _=>0)=vW x*pr (λ w=>T w (c w) x) R
def aKQ{c δ:Int->Nat}{k:Nat}(hp:p∉R):(R.all λ w=>decide (δ w=cp c p k w))=R.all λ w=>decide (δ w=c w):=by
 rw[zAj,zA7,zA7];refine forall_congr' λ w=>forall_congr' λ hw=>?_
 rw[cp,if_neg λ z:w=p=>hp (z▸hw)]
def o8{c δ:Int->Nat}{k:Nat}(hp:p∉R):qc Z (R++[p]) (cp c p k) δ=((Z.all λ v=>decide (δ v<=2))&&((R.all λ w=>decide (δ w=c w))&&decide (δ p=k))):=by
 unfold qc;rw[List.all_append,aKQ hp];simp[cp]
def aEI{c:Int->Nat}(hp:p∉R)(δ:Int->Nat):ind (qc (p::Z) R c δ)=ind (qc Z (R++[p]) (cp c p 0) δ)+ind (qc Z (R++[p]) (cp c p 1) δ)+ind (qc Z (R++[p]) (cp c p 2) δ):=by
 rw[o8 hp,o8 hp,o8 hp];unfold qc;rw[zCs];cases Z.all λ v=>decide (δ v<=2)
 .simp[ind]
 .cases R.all λ w=>decide (δ w=c w)
  .simp[ind]
  .rcases(by lia:δ p=0\/δ p=1\/δ p=2\/3<=δ p)with z|z|z|z
   .simp[ind,z]
   .simp[ind,z]
   .simp[ind,z]
   .have z0:¬δ p<=2:=by lia
    have z1:¬δ p=0:=by lia
    have z2:¬δ p=1:=by lia
    have z3:¬δ p=2:=by lia
    simp[ind,z0,z1,z2,z3]
def ut{c:Int->Nat}{k:Nat}(h:∀w,c w<=2)(hk:k<=2):∀w,cp c p k w<=2:=λ w=>by
 unfold cp;split
 .exact hk
 .exact h w
variable{E:gX}{vW:Int->Int}{T:Int->Nat->Int->Int}
def zV{c:Int->Nat}{k:Nat}(hp:p∉R):pr (λ w=>T w (cp c p k w) x) (R++[p])=pr (λ w=>T w (c w) x) R*T p k x:=by
 rw[aBx];congr 1
 .refine o9 λ w hw=>?_
  rw[cp,if_neg λ z:w=p=>hp (z▸hw)]
 .rw[cp,if_pos rfl]
def Cb.three(C:Cb Z (R++[p]) E vW T)(hp:p∉R){c:Int->Nat}(hc:∀w,c w<=2):gs x (qc (p::Z) R c) E (λ _=>0)=vW x*(pr (λ w=>T w (c w) x) R*(T p 0 x+T p 1 x+T p 2 x)):=by
 rw[yI (aEI hp),C x _ (ut hc (by decide)),C x _ (ut hc (by decide)),C x _ (ut hc (by decide)),zV hp,zV hp,zV hp];simp only[zDA]
def Cb.top(C:Cb Z (R++[p]) E vW T)(hp:p∉R):Cb (p::Z) R E (λ x=>vW x*(T p 0 x+T p 1 x+T p 2 x)) T:=λ x c hc=>by
 rw[C.three hp hc,zGL (pr _ R),<-zHh]
def hgT(T:Int->Nat->Int->Int)(u p:Int):Int->Nat->Int->Int:=λ w k x=>if w=u then T u k x*(T p 0 x+T p 1 x+T p 2 x)+(if k=0 then 0 else T u (k-1) x*(T p 0 x+T p 1 x)*x)else T w k x
def aIt{c:Int->Nat}(hp:p∉R)(hu:u∈R)(hpz:p∉Z)(huz:u∉Z)(hcu:c u≠0)(δ:Int->Nat):ind (qc (p::Z) R c (bmp δ (p,u)))=ind (qc Z (R++[p]) (cp (cp c u (c u-1)) p 0) δ)+ind (qc Z (R++[p]) (cp (cp c u (c u-1)) p 1) δ):=by
 have hne:p≠u:=λ z=>hp (z▸hu)
 rw[o8 hp,o8 hp];unfold qc;rw[zCs];have e1:(Z.all λ v=>decide (bmp δ (p,u) v<=2))=Z.all λ v=>decide (δ v<=2):=by
  rw[zAj,zA7,zA7];refine forall_congr' λ w=>forall_congr' λ hw=>?_
  rw[bmp,if_neg (by rintro(z|z)<;>subst z<;>contradiction),Nat.add_zero]
 have e2:(R.all λ w=>decide (bmp δ (p,u) w=c w))=R.all λ w=>decide (δ w=cp c u (c u-1) w):=by
  rw[zAj,zA7,zA7];refine forall_congr' λ w=>forall_congr' λ hw=>?_
  rw[bmp,cp];by_cases z:w=u
  .rw[if_pos (.inr z),if_pos z,z,decide_eq_true_eq,decide_eq_true_eq]
   lia
  .have hno:¬(w=(p,u).1\/w=(p,u).2):=λ y=>y.elim (λ(y:w=p)=>hp (y▸hw)) z
   rw[if_neg hno,if_neg z,Nat.add_zero]
 have e3:bmp δ (p,u) p=δ p+1:=by rw[bmp,if_pos (.inl rfl)]
 rw[e1,e2,e3];cases Z.all λ v=>decide (δ v<=2)
 .simp[ind]
 .cases R.all λ w=>decide (δ w=cp c u (c u-1) w)
  .simp[ind]
  .rcases(by lia:δ p=0\/δ p=1\/2<=δ p)with z|z|z
   .simp[ind,z]
   .simp[ind,z]
   .have z0:¬δ p+1<=2:=by lia
    have z1:¬δ p=0:=by lia
    have z2:¬δ p=1:=by lia
    simp[ind,z0,z1,z2]
def aKi{c:Int->Nat}(hu:u∈R)(hcu:c u=0)(δ:Int->Nat):qc (p::Z) R c (bmp δ (p,u))=false:=by
 refine zGd.mpr λ z=>?_
 unfold qc at z;rw[zAM,zA7,zA7]at z
 have:=of_decide_eq_true (z.2 u hu)
 rw[bmp,if_pos (.inr rfl)]at this;lia
def Cb.hng(C:Cb Z (R++[p]) E vW T)(nd:R.Nodup)(hp:p∉R)(hu:u∈R)(hpz:p∉Z)(huz:u∉Z):Cb (p::Z) R ((p,u)::E) vW (hgT T u p):=λ x c hc=>by
 have hne:p≠u:=λ z=>hp (z▸hu)
 obtain⟨K,hK⟩:=aEP (f:=λ w=>T w (c w) x) nd hu;have k1:=hK (λ w=>T w (c w) x) λ _ _=>rfl
 have k2:=hK (λ w=>hgT T u p w (c w) x) λ w hw=>by
  show hgT T u p w (c w) x=_;rw[hgT,if_neg hw]
 rw[gs,C.three hp hc,k1,k2,uX];rw[hgT,if_pos rfl];by_cases hcu:c u=0
 .rw[yH (aKi hu hcu),if_pos hcu]
  grind
 .have k3:=hK (λ w=>T w (cp c u (c u-1) w) x) λ w hw=>by
   show T w (cp c u (c u-1) w) x=_;rw[cp,if_neg hw]
  rw[show cp c u (c u-1) u=c u-1 from if_pos rfl]at k3;have hc':=ut (p:=u) (k:=c u-1) hc (by have:=hc u;lia);rw[aHM (aIt hp hu hpz huz hcu),C x _ (ut hc' (by decide)),C x _ (ut hc' (by decide)),zV hp,zV hp,k3,if_neg hcu]
  grind
def Cb.le(C:Cb Z R E vW T)(hx:1<=x)(hw:1<=vW x)(h0:∀w∈R,1<=T w 0 x):vW x<=(2*x)^E.length:=by
 have e:=C x (λ _=>0) λ _=>by decide
 have b:=(aCS hx (qc Z R λ _=>0) E λ _=>0).2;rw[e]at b
 have:=aAr (f:=λ w=>T w 0 x) h0
 have m:vW x*1<=vW x*pr (λ w=>T w 0 x) R:=zCD this (by lia);lia
def Cb.leT(C:Cb Z R E vW T)(nd:R.Nodup)(hx:1<=x)(hw:1<=vW x)(h0:∀w∈R,1<=T w 0 x)(hu:u∈R){k:Nat}(hk:k<=2)(hT:0<=T u k x):T u k x<=(2*x)^E.length:=by
 have e:=C x (cp (λ _=>0) u k) (ut (λ _=>by decide) hk);have b:=(aCS hx (qc Z R (cp (λ _=>0) u k)) E λ _=>0).2;rw[e]at b;obtain⟨K,hK⟩:=aEP (f:=λ w=>T w 0 x) nd hu;have k1:=hK (λ w=>T w (cp (λ _=>0) u k w) x) λ w hw=>by
  show T w (cp (λ _=>0) u k w) x=_;rw[cp,if_neg hw]
 have k2:=hK (λ w=>if w=u then 1 else T w 0 x) λ w hw=>by
  show(if w=u then 1 else T w 0 x)=_
  rw[if_neg hw]
 rw[if_pos rfl,zEN]at k2;rw[show cp (λ _=>0) u k u=k from if_pos rfl]at k1;have hKp:1<=K:=by
  rw[<-k2];refine aAr λ w hw=>?_
  split
  .exact zBy _
  .exact h0 w hw
 rw[k1]at b;have m1:1*1<=vW x*K:=Int.mul_le_mul hw hKp (by decide) (by lia);have m2:T u k x*1<=T u k x*(vW x*K):=zCD (by lia) hT;have m3:T u k x*(vW x*K)=vW x*(T u k x*K):=by grind
 lia
end
section
variable{ρ:En}
def aEJ{i:Nat}{fk fe:En->Rs D}{ds:List D}{k:Int}{d:D}(h:ρ[i]? =some (.ow (.lst ds)))(he:fe ρ= .ok d)(hk:fk ρ= .ok (.int k))(h0:0<=k)(h1:k.toNat<ds.length):aCh i fk fe ρ= .nx (ρ.set i (.ow (.lst (ds.set k.toNat d)))):=by
 have e:putN ds (.int k)=some k.toNat:=by
  show ixN ds.length k=_;unfold ixN;rw[if_pos (by lia),if_pos (by lia)]
 unfold aCh;rw[h];dsimp only;rw[he,bF,hk,bF,e]
def bV(t:Nat->Tl):D:=.lst [.itm none (t 0),.itm none (t 1),.itm none (t 2)]
def aFH{k:Nat}(hk:k=0\/k=1){tu:Nat->Tl}{b a:Tl}{lo s3:D}{f:Nat->Tl}(e1:bw [.itm none (tu k),.itm none b,.int 1]= .ok (iw a))(e2:cJ [.itm none (f (k+1)),.itm none a]= .ok (iw g)):
  hoB [.sh (bV tu),.sh lo,.sh (.itm none b),.sh s3,.ow (bV f),.sh (.int ((k+1:Nat):Int))]= .nx [.sh (bV tu),.sh lo,.sh (.itm none b),.sh s3,.ow (bV λ j=>if j=k+1 then g else f j),.sh (.int ((k+1:Nat):Int))]:=by
 have x1:hoX [.sh (bV tu),.sh lo,.sh (.itm none b),.sh s3,.ow (bV f),.sh (.int ((k+1:Nat):Int))]= .ok (.itm none a):=by
  refine lW ?_;rcases hk with rfl|rfl<;>exact e1
 have x2:hoA [.sh (bV tu),.sh lo,.sh (.itm none b),.sh s3,.ow (bV f),.sh (.int ((k+1:Nat):Int))]= .ok (.itm none g):=by
  refine lW ?_;rw[j7,bH,bH,x1];rcases hk with rfl|rfl
  .exact e2
  .exact e2
 have:=aEJ (i:=4) (fk:=aD 5) (fe:=hoA) (ds:=[.itm none (f 0),.itm none (f 1),.itm none (f 2)]) (k:=((k+1:Nat):Int)) rfl x2 rfl (by lia) (by show _<3;lia)
 unfold hoB;rw[this];rcases hk with rfl|rfl<;>rfl
def aBU{tu tp:Nat->Tl}(hu:∀k,k<=2->Tz 61 (tu k))(hb:∀k,k<=2->∀p∈tu k,p.2<2^64)(hp:∀k,k<=2->Tz 61 (tp k)):
  ∃t':Nat->Tl,jd [bV tu,bV tp]= .ok (bV t')/\(∀k,k<=2->Tz 123 (t' k))/\∀k,k<=2->∀x,ev x (t' k)=ev x (tu k)*(ev x (tp 0)+ev x (tp 1)+ev x (tp 2))+(if k=0 then 0 else ev x (tu (k-1))*(ev x (tp 0)+ev x (tp 1))*x):=by
 obtain⟨b,eb,Tb,vb⟩:=j9 (o1:=none) (o2:=none) (by decide) (hp 0 (by decide)) (hp 1 (by decide));obtain⟨a,ea,Ta,va⟩:=j9 (o1:=none) (o2:=none) (by decide) Tb (hp 2 (by decide));have cm:∀k,k<=2->∃l,bw [.itm none (tu k),.itm none a,.int 0]= .ok (iw l)/\Tz 122 l/\∀x,ev x l=ev x (tu k)*ev x a:=λ k hk=>by
  obtain⟨l,e,T,v⟩:=mC (o1:=none) (o2:=none) (c:=0) (by decide) (by decide) (by decide) (hu k hk) (hb k hk) Ta;exact⟨l,e,T,λ x=>by rw[v];simp⟩
 have cn:∀k,k<=2->∃l,bw [.itm none (tu k),.itm none b,.int 1]= .ok (iw l)/\Tz 123 l/\∀x,ev x l=ev x (tu k)*ev x b*x:=λ k hk=>by
  obtain⟨l,e,T,v⟩:=mC (o1:=none) (o2:=none) (c:=1) (by decide) (by decide) (by decide) (hu k hk) (hb k hk) Tb;exact⟨l,e,T,λ x=>by rw[v];exact congrArg _ (zDp x 0 |>.trans (by simp))⟩
 obtain⟨l0,e0,T0,v0⟩:=cm 0 (by decide);obtain⟨l1,e1,T1,v1⟩:=cm 1 (by decide);obtain⟨l2,e2,T2,v2⟩:=cm 2 (by decide);obtain⟨m0,f0,S0,w0⟩:=cn 0 (by decide);obtain⟨m1,f1,S1,w1⟩:=cn 1 (by decide);obtain⟨g1,y1,R1,z1⟩:=j9 (o1:=none) (o2:=none) (by decide) (T1.up (by decide)) S0;obtain⟨g2,y2,R2,z2⟩:=j9 (o1:=none) (o2:=none) (by decide) (T2.up (by decide)) S1;have st:bC 6 [bV tu,bV tp]=[.sh (bV tu),.sh (bV tp),.no,.no,.no,.no]:=rfl;have c1:cT 2 (gr (aP cJ (aC (op2 ixD (aD 1) (cD (.int 0))) (aC (op2 ixD (aD 1) (cD (.int 1))) aH)))) [.sh (bV tu),.sh (bV tp),.no,.no,.no,.no]= .nx [.sh (bV tu),.sh (bV tp),.sh (.itm none b),.no,.no,.no]:=by
  rw[jf,lW (l:=b) eb,bF];rfl
 have c2:cT 3 (gr (aP cJ (aC (aD 2) (aC (op2 ixD (aD 1) (cD (.int 2))) aH)))) [.sh (bV tu),.sh (bV tp),.sh (.itm none b),.no,.no,.no]= .nx [.sh (bV tu),.sh (bV tp),.sh (.itm none b),.sh (.itm none a),.no,.no]:=by
  rw[jf,lW (l:=a) ea,bF];rfl
 obtain⟨f,hf⟩:∃f:Nat->Tl,f=λ k=>if k=0 then l0 else if k=1 then l1 else l2:=⟨_,rfl⟩
 have c3:di 4 (lcD (cM (aD 0)) [none,some 3] (gnm 0) fO hoC) [.sh (bV tu),.sh (bV tp),.sh (.itm none b),.sh (.itm none a),.no,.no]= .nx [.sh (bV tu),.sh (bV tp),.sh (.itm none b),.sh (.itm none a),.ow (bV f),.no]:=by
  have hc:∀(t l:Tl),bw [.itm none t,.itm none a,.int 0]= .ok (iw l)->hoC [.sh (.itm none t),.sh (.itm none a)]= .ok (.itm none l):=λ t l e=>lW e
  have:=gf (fi:=cM (aD 0)) (js:=[none,some 3]) (fg:=gnm 0) (ft:=fO) (fe:=hoC) (ρ:=[.sh (bV tu),.sh (bV tp),.sh (.itm none b),.sh (.itm none a),.no,.no]) (ds:=[0,1,2].map λ k=>.itm none (tu k)) (out:=[0,1,2].map λ k=>.itm none (f k)) rfl (by show 3<_;decide) (jQ [0,1,2] λ k hk=>⟨[.sh (.itm none (tu k)),.sh (.itm none a)],rfl,by
   simp at hk;rcases hk with rfl|rfl|rfl
   .rw[hc _ _ e0,hf];rfl
   .rw[hc _ _ e1,hf];rfl
   .rw[hc _ _ e2,hf];rfl⟩)
  unfold di;rw[this,bF];rfl
 have hi:cM (dI (aC (cD (.int 1)) (aC (cD (.int 2)) aH))) [.sh (bV tu),.sh (bV tp),.sh (.itm none b),.sh (.itm none a),.ow (bV f),.no]= .ok [.int 1,.int 2]:=rfl;have b1:=aFH (k:=0) (.inl rfl) (lo:=bV tp) (s3:=.itm none a) (f:=f) (g:=g1) f0 (by rw[hf];exact y1);have b2:=aFH (k:=1) (.inr rfl) (lo:=bV tp) (s3:=.itm none a) (f:=λ j=>if j=0+1 then g1 else f j) (g:=g2) f1 (by rw[hf];exact y2);refine⟨λ j=>if j=1+1 then g2 else if j=0+1 then g1 else f j,?_,λ k hk=>?_,λ k hk x=>?_⟩
 .rw[jd,bW,st,iK,aK,c1,aU,aK,c2,aU,aK,c3,aU,aK,cI,hi,bF,b7,oH,fU]
  have r1:∀k,Ou.tn (hoB ([.sh (bV tu),.sh (bV tp),.sh (.itm none b),.sh (.itm none a),.ow (bV f),.no].set 5 (.sh (.int 1)))) k=k [.sh (bV tu),.sh (bV tp),.sh (.itm none b),.sh (.itm none a),.ow (bV λ j=>if j=0+1 then g1 else f j),.sh (.int 1)]:=λ k=>congrArg (λ z=>Ou.tn z k) b1
  have r2:∀k,Ou.tn (hoB ([.sh (bV tu),.sh (bV tp),.sh (.itm none b),.sh (.itm none a),.ow (bV λ j=>if j=0+1 then g1 else f j),.sh (.int 1)].set 5 (.sh (.int 2)))) k=k [.sh (bV tu),.sh (bV tp),.sh (.itm none b),.sh (.itm none a),.ow (bV λ j=>if j=1+1 then g2 else if j=0+1 then g1 else f j),.sh (.int 2)]:=λ k=>congrArg (λ z=>Ou.tn z k) b2
  rw[r1,b7,oH,fU,r2];rfl
 .rcases(by lia:k=0\/k=1\/k=2)with rfl|rfl|rfl
  .rw[hf];exact T0.up (by decide)
  .exact R1
  .exact R2
 .rcases(by lia:k=0\/k=1\/k=2)with rfl|rfl|rfl
  .rw[hf]
   show ev x l0=_;rw[v0,va,vb];simp
  .show ev x g1=ev x (tu 1)*_+ev x (tu 0)*_*x
   rw[z1,v1,w0,va,vb]
  .show ev x g2=ev x (tu 2)*_+ev x (tu 1)*_*x
   rw[z2,v2,w1,va,vb]
end
theorem qK{x:Int}(hx:1<=x){a:Nat}:∀{b:Nat},a<=b->x^a<=x^b
 |0,h=>by rw[Nat.le_zero.mp h];exact zBy _
 |b+1,h=>by
  by_cases c:a=b+1
  .rw[c];exact zBy _
  .have ih:=qK hx (a:=a) (b:=b) (by lia)
   have p:0<=x^b:=zEG (by lia);have m:x^b*1<=x^b*x:=zCD hx p;rw[zDp];lia
theorem qu{x:Int}(hx:1<=x):∀{l:Tl},(∀p∈l,1<=p.2)->0<=ev x l
 |[],_=>zBy _
 |p::l,h=>by
  have a:=qu hx λ q hq=>h q (zAB _ hq)
  have b:=h p zAE;have c:0<=p.2*x^p.1.toNat:=zFd (by lia) (zEG (by lia));rw[gw];lia
theorem aBZ{x:Int}(hx:1<=x):∀{l:Tl} {p:Int×Int},(∀p∈l,1<=p.2)->p∈l->p.2*x^p.1.toNat<=ev x l
 |q::l,p,h,hp=>by
  have a:=qu hx λ q hq=>h q (zAB _ hq)
  rw[gw];rcases zAQ.mp hp with rfl|hp
  .lia
  .have:=aBZ hx (λ q hq=>h q (zAB _ hq)) hp
   have b:=h q zAE;have c:0<=q.2*x^q.1.toNat:=zFd (by lia) (zEG (by lia));lia
section
variable{N n:Int}{l:Tl}{m:Nat}{ps:gX}{R Z:List Int}{E:gX}{t:Int->Nat->Tl}{vW:Tl}{p u:Int}
def Tz.tight(T:Tz N l)(hm:m<=60)(h:∀x,1<=x->ev x l<=(2*x)^m):Tz 61 l/\∀p∈l,p.2<2^64:=by
 have h2:∀x,1<=x->ev x l<=(2*x)^60:=λ x hx=>zCf (h x hx) (qK (by lia) hm)
 refine⟨⟨T.nd,λ p hp=>⟨(T.ky p hp).1,Int.not_lt.mp λ z=>?_⟩,T.tm⟩,λ p hp=>?_⟩
 .have a:=zCf (aBZ (x:=2^60) (by decide) T.tm hp) (h2 _ (by decide))
  have b:(2^60:Int)^62<=(2^60)^p.1.toNat:=qK (by decide) (by lia);have c:1*(2^60:Int)^p.1.toNat<=p.2*(2^60)^p.1.toNat:=zEa (T.tm p hp) (zEG (by decide));have d:¬((2^60:Int)^62<=(2*2^60)^60):=by decide+kernel
  rw[zEN]at c;exact d (zCf b (zCf c a))
 .have a:=zCf (aBZ (x:=1) (by decide) T.tm hp) (h2 1 (by decide))
  rw[Int.one_pow,zEM]at a;have d:((2:Int)*1)^60<2^64:=by decide+kernel
  exact Int.lt_of_le_of_lt a d
structure Iv(R Z:List Int)(E:gX)(t:Int->Nat->Tl)(vW:Tl):Prop where
 cb:Cb Z R E (λ x=>ev x vW) (λ w k x=>ev x (t w k))
 tw:Tz 61 vW
 tt:∀w∈R,∀k,k<=2->Tz 61 (t w k)
 pw:∀x,1<=x->1<=ev x vW
 pt:∀w∈R,∀x,1<=x->1<=ev x (t w 0)
def Cb.congr{vW vW':Int->Int}{T T':Int->Nat->Int->Int}(C:Cb Z R E vW T)(h1:∀x,vW' x=vW x)(h2:∀w k x,k<=2->T' w k x=T w k x):Cb Z R E vW' T':=λ x c hc=>by
 rw[C x c hc,h1];exact congrArg _ (o9 λ w _=>(h2 w (c w) x (hc w)).symm)
def Iv.big(I:Iv R Z E t vW)(hE:E.length<=60):∀p∈vW,p.2<2^64:=(I.tw.tight hE λ x hx=>I.cb.le hx (I.pw x hx) λ w hw=>I.pt w hw x hx).2
def Iv.bigT(I:Iv R Z E t vW)(nd:R.Nodup)(hE:E.length<=60)(hu:u∈R){k:Nat}(hk:k<=2):∀p∈t u k,p.2<2^64:=((I.tt u hu k hk).tight hE λ x hx=>I.cb.leT nd hx (I.pw x hx) (λ w hw=>I.pt w hw x hx) hu hk (qu hx (I.tt u hu k hk).tm)).2
def ttL(n:Int)(t:Int->Nat->Tl):List D:=(upI n).map λ w=>bV (t w)
abbrev fcE(n:Int)(ps:gX)(t:Int->Nat->Tl)(vW:Tl)(s3 s4 s5 s6 s7:Slot):En:=[.sh (owD n ps),.ow (.lst (ttL n t)),.nw (.itm none vW),s3,s4,s5,s6,s7]
def aD0{x:Int}(h0:0<=x)(h1:x<n):atD (ttL n t) x= .ok (bV (t x)):=by
 have ex:((x.toNat:Nat):Int)=x:=zBS h0
 have:=dq (l:=ttL n t) (k:=x.toNat) (d:=bV (t x)) (by
  unfold ttL;rw[zAP];unfold upI;rw[zAP,zCU (by lia)];simp[ex])
 rwa [ex]at this
def aI0{x:Int}(h0:0<=x)(h1:x<n)(f:Nat->Tl):(ttL n t).set x.toNat (bV f)=ttL n (λ w=>if w=x then f else t w):=by
 refine List.ext_getElem? λ i=>?_
 unfold ttL upI;rw[List.getElem?_set];by_cases c:x.toNat=i
 .subst c
  rw[if_pos rfl,if_pos (by simp;lia),zAP,zAP,zCU (by lia)];simp[zBS h0]
 .rw[if_neg c,zAP,zAP,zAP,zAP]
  cases hi:(zBE n.toNat)[i]? with
  |none=>rfl
  |some j=>
   have hj:j=i:=by
    have:=zAO.mp hi
    obtain⟨h,e⟩:=this;rw[zG3]at e;exact e.symm
   show some (bV (t (j:Int)))=some (bV (if (j:Int)=x then f else t (j:Int)));rw[if_neg (by lia)]
def aJz{s4 s5 s6 s7:Slot}(h0:0<=p)(h1:p<n):fcU (fcE n ps t vW (.sh (.int p)) s4 s5 s6 s7)= .nx (fcE n ps t vW (.sh (.int p)) s4 (.sh (.itm none (t p 0))) (.sh (.itm none (t p 1))) (.sh (.itm none (t p 2)))):=by
 have e:op2 ixD (dC 1) (aD 3) (fcE n ps t vW (.sh (.int p)) s4 s5 s6 s7)= .ok (bV (t p)):=by
  have:=aD0 (t:=t) h0 h1
  have hx:ixD (.lst (ttL n t)) (.int p)= .ok (bV (t p)):=this;simp[hx]
 unfold fcU aKN;rw[e,bF];rfl
def aKA(I:Iv (R++[p]) Z E t vW)(hp:p∉R)(hE:E.length<=60){s3 s4:Slot}:∃vW',fcT (fcE n ps t vW s3 s4 (.sh (.itm none (t p 0))) (.sh (.itm none (t p 1))) (.sh (.itm none (t p 2))))= .nx (fcE n ps t vW' s3 s4 (.sh (.itm none (t p 0))) (.sh (.itm none (t p 1))) (.sh (.itm none (t p 2))))/\Iv R (p::Z) E t vW':=by
 have hpm:p∈R++[p]:=by simp
 have T:=I.tt p hpm;obtain⟨a,ea,Ta,va⟩:=j9 (o1:=none) (o2:=none) (by decide) (T 1 (by decide)) (T 2 (by decide));obtain⟨b,eb,Tb,vb⟩:=j9 (o1:=none) (o2:=none) (by decide) (T 0 (by decide)) Ta;obtain⟨vW',e,TW,v⟩:=mC (o1:=none) (o2:=none) (c:=0) (by decide) (by decide) (by decide) I.tw (I.big hE) Tb;have v':∀x,ev x vW'=ev x vW*(ev x (t p 0)+ev x (t p 1)+ev x (t p 2)):=λ x=>by
  rw[v,vb,va,Int.toNat_zero,Int.pow_zero,zEM,Int.add_assoc]
 have pw:∀x,1<=x->1<=ev x vW':=λ x hx=>by
  have a0:=I.pt p hpm x hx;have a1:=qu hx (T 1 (by decide)).tm;have a2:=qu hx (T 2 (by decide)).tm;rw[v'];exact zEz (I.pw x hx) (by lia)
 have cb:Cb (p::Z) R E (λ x=>ev x vW') (λ w k x=>ev x (t w k)):=(I.cb.top hp).congr v' λ _ _ _ _=>rfl
 have pt:∀w∈R,∀x,1<=x->1<=ev x (t w 0):=λ w hw=>I.pt w (zAJ _ hw)
 refine⟨vW',?_,cb,(TW.tight hE λ x hx=>cb.le hx (pw x hx) λ w hw=>pt w hw x hx).1,λ w hw=>I.tt w (zAJ _ hw),pw,pt⟩;have f1:gr (aP cJ (aC (aD 6) (aC (aD 7) aH))) (fcE n ps t vW s3 s4 (.sh (.itm none (t p 0))) (.sh (.itm none (t p 1))) (.sh (.itm none (t p 2))))= .ok (.itm none a):=lW ea;have f2:gr (aP cJ (aC (aD 5) (aC (gr (aP cJ (aC (aD 6) (aC (aD 7) aH)))) aH))) (fcE n ps t vW s3 s4 (.sh (.itm none (t p 0))) (.sh (.itm none (t p 1))) (.sh (.itm none (t p 2))))= .ok (.itm none b):=lW (by
  rw[j7,bH,bH,f1];exact eb)
 have f3:gr (aP bw (aC (kE 2) (aC (gr (aP cJ (aC (aD 5) (aC (gr (aP cJ (aC (aD 6) (aC (aD 7) aH)))) aH)))) (aC (cD (.int 0)) aH)))) (fcE n ps t vW s3 s4 (.sh (.itm none (t p 0))) (.sh (.itm none (t p 1))) (.sh (.itm none (t p 2))))= .ok (.itm none vW'):=lW (by
  rw[j7,bH,bH,f2];exact e)
 unfold fcT oY;rw[f3,bF];rfl
def aKB(I:Iv (R++[p]) Z E t vW)(nd:R.Nodup)(hp:p∉R)(hu:u∈R)(hpz:p∉Z)(huz:u∉Z)(hE:E.length<60)(h0:0<=p/\p<n)(h1:0<=u/\u<n){s5 s6 s7:Slot}:∃t',fcH (fcE n ps t vW (.sh (.int p)) (.sh (.int u)) s5 s6 s7)= .nx (fcE n ps t' vW (.sh (.int p)) (.sh (.int u)) s5 s6 s7)/\Iv R (p::Z) ((p,u)::E) t' vW:=by
 have hpm:p∈R++[p]:=by simp
 have hum:u∈R++[p]:=zAJ _ hu;have nd':(R++[p]).Nodup:=zAk.mpr ⟨nd,by simp,λ a ha b hb z=>by
  rw[zAK]at hb;exact hp (hb▸z▸ha)⟩
 obtain⟨f,ef,Tf,vf⟩:=aBU (tu:=t u) (tp:=t p) (I.tt u hum) (λ k hk=>I.bigT nd' (by lia) hum hk) (I.tt p hpm);have cb:Cb (p::Z) R ((p,u)::E) (λ x=>ev x vW) (λ w k x=>ev x ((if w=u then f else t w) k)):=(I.cb.hng nd hp hu hpz huz).congr (λ _=>rfl) λ w k x hk=>by
  unfold hgT;by_cases c:w=u
  .rw[if_pos c,if_pos c,vf k hk x]
  .rw[if_neg c,if_neg c]
 have pt:∀w∈R,∀x,1<=x->1<=ev x ((if w=u then f else t w) 0):=λ w hw x hx=>by
  by_cases c:w=u
  .rw[if_pos c,vf 0 (by decide),if_pos rfl,Int.add_zero]
   have a0:=I.pt p hpm x hx;have a1:=qu hx (I.tt p hpm 1 (by decide)).tm;have a2:=qu hx (I.tt p hpm 2 (by decide)).tm;exact zEz (I.pt u hum x hx) (by lia)
  .rw[if_neg c]
   exact I.pt w (zAJ _ hw) x hx
 refine⟨λ w=>if w=u then f else t w,?_,cb,I.tw,λ w hw k hk=>?_,I.pw,pt⟩
 .have e:aP jd (aC (op2 ixD (dC 1) (aD 4)) (aC (op2 ixD (dC 1) (aD 3)) aH)) (fcE n ps t vW (.sh (.int p)) (.sh (.int u)) s5 s6 s7)= .ok (bV f):=by
   have a1:ixD (.lst (ttL n t)) (.int u)= .ok (bV (t u)):=aD0 h1.1 h1.2;have a2:ixD (.lst (ttL n t)) (.int p)= .ok (bV (t p)):=aD0 h0.1 h0.2;simp[a1,a2,ef]
  have:=aEJ (i:=1) (fk:=aD 4) (k:=u) rfl e rfl h1.1 (by unfold ttL;rw[zAF,cA];lia)
  unfold fcH;rw[this,aI0 h1.1 h1.2];rfl
 .have T:Tz 123 ((if w=u then f else t w) k):=by
   by_cases c:w=u
   .rw[if_pos c];exact Tf k hk
   .rw[if_neg c];exact(I.tt w (zAJ _ hw) k hk).up (by decide)
  exact(T.tight (by rw[zA4];exact hE) λ x hx=>cb.leT nd hx (I.pw x hx) (λ v hv=>pt v hv x hx) hw hk (qu hx T.tm)).1
def tsR:List Hr->List (Int×Int)
 |[]=>[]
 |(p,some u)::l=>(p,u)::tsR l
 |(_,none)::l=>tsR l
theorem aA5:∀l:List Hr,(tsR l).length<=l.length
 |[]=>zAV _
 |(p,some u)::l=>zHO (aA5 l)
 |(p,none)::l=>zGx (aA5 l)
def yN(x:Int):ev x [(0,1)]=1:=by simp[ev]
def t0:Nat->Tl:=λ k=>if k=0 then[(0,1)]else[]
theorem aIH(x:Int)(c:Int->Nat):∀R:List Int,pr (λ w=>ev x (t0 (c w))) R=if (R.all λ w=>decide (0=c w))=true then 1 else 0
 |[]=>rfl
 |w::R=>by
  rw[pr,aIH x c R,zCs];by_cases h:c w=0
  .rw[show t0 (c w)=[(0,1)]from if_pos h,yN,zEN,decide_eq_true h.symm,Bool.true_and]
  .rw[show t0 (c w)=[]from if_neg h,decide_eq_false λ z=>h z.symm,zHS,if_neg zA6]
   show 0*_=0;exact Int.zero_mul _
def Tz.one:Tz 61 [(0,1)]:=⟨by simp,λ p hp=>by simp at hp;subst hp;decide,λ p hp=>by simp at hp;subst hp;decide⟩
def Iv.start(R:List Int):Iv R [] [] (λ _=>t0) [(0,1)]:=by
 refine⟨λ x c _=>?_,.one,λ w _ k _=>?_,λ x _=>by rw[yN];exact zBy _,λ w _ x _=>by show 1<=ev x [(0,1)];rw[yN];exact zBy _⟩
 .rw[aIH]
  dsimp only;rw[yN,zEN];rfl
 .unfold t0
  split
  .exact .one
  .exact⟨.nil,λ p hp=>(nomatch hp),λ p hp=>(nomatch hp)⟩
end
section
variable{n:Int}{ps rs:gX}{rows:List Hr}
def rT(O:Ow n ps)(low:∀p∈ps,p.1<p.2)(hp:ps.Perm rs)(F:Fr rs):dU [owD n ps]= .ok .non:=by
 have f1:=uQ O low hp F;have st:bC 1 [owD n ps]=[.sh (owD n ps)]:=rfl;simp only[dU,cQ,bW,st];simp[f1]
def aJq{A0 B:List Hr}{r:Hr}(Hu:vQ n ps rows)(e:rows=A0++[r]++B):(A0.map (·.1)).Nodup/\r.1∉A0.map (·.1)/\r.1∉B.map (·.1)/\(∀u,r.2=some u->u∈A0.map (·.1)/\u∉B.map (·.1))/\(0<=r.1/\r.1<n)/\∀u,r.2=some u->0<=u/\u<n:=by
 have nd:=Hu.nd;have e':rows=A0++r::B:=by rw[e];simp
 rw[e',zAZ,zAC,zAk,zA9]at nd;obtain⟨n1,⟨n2,n3⟩,n4⟩:=nd;have hin:∀s∈rows,0<=s.1/\s.1<n:=λ s hs=>bR.mp (Hu.pm.mem_iff.mp (zAS.mpr ⟨s,hs,rfl⟩))
 refine⟨n1,λ z=>n4 _ z _ zAE rfl,n2,λ u hu=>⟨Hu.ord A0 r B e' u hu,λ z=>n4 u (Hu.ord A0 r B e' u hu) u (zAB _ z) rfl⟩,hin r (by rw[e'];simp),λ u hu=>?_⟩;obtain⟨s,hs,es⟩:=zAS.mp (Hu.ord A0 r B e' u hu);rw[<-es];exact hin s (by rw[e'];exact zAJ _ hs)
def aHV(Hu:vQ n ps rows)(hn:n<=60)(A:List Hr):∀(B:List Hr) (t:Int->Nat->Tl) (vW:Tl) (s3 s4 s5 s6 s7:Slot),rows=A++B->Iv (A.map (·.1)) (B.map (·.1)) (tsR B) t vW->
  ∃t' vW' r3 r4 r5 r6 r7,forL fcG fcB (A.reverse.map hrD) (fcE n ps t vW s3 s4 s5 s6 s7)= .nx (fcE n ps t' vW' r3 r4 r5 r6 r7)/\Iv [] (rows.map (·.1)) (tsR rows) t' vW':=by
 have hW:rows.length=n.toNat:=by
  have:=Hu.pm.length_eq
  rwa [zAF,cA]at this
 induction A using snoc_ind with
 |h0=>
  intro B t vW s3 s4 s5 s6 s7 e I;rw[zCy]at e;subst e;exact⟨t,vW,s3,s4,s5,s6,s7,rfl,I⟩
 |h1 A r ih=>
  intro B t vW s3 s4 s5 s6 s7 e I;obtain⟨nd,hA,hB,hu,h0,h1⟩:=aJq Hu e;have hBl:(tsR B).length<60:=by
   have:=aA5 B
   have:=congrArg zEH e
   simp at this;lia
  have e2:rows=A++r::B:=by rw[e];simp
  rw[zAZ,zEX]at I;obtain⟨p,o⟩:=r;have g:fcG (hrD (p,o)) (fcE n ps t vW s3 s4 s5 s6 s7)= .ok (fcE n ps t vW (.sh (.int p)) (.sh (upD o)) s5 s6 s7):=by simp[fcG,hrD]
  have eu:=aJz (ps:=ps) (t:=t) (vW:=vW) (s4:=.sh (upD o)) (s5:=s5) (s6:=s6) (s7:=s7) h0.1 h0.2;rw[List.reverse_append,List.reverse_singleton,zDg,zAC,b7,g,fU,fcB,aK,eu,aU];cases o with
  |none=>
   obtain⟨vW',e3,I'⟩:=aKA (n:=n) (ps:=ps) (s3:=.sh (.int p)) (s4:=.sh .non) I hA (by lia);have ht:tsb (op2 (isD false) (aD 4) (cD .non)) (fcE n ps t vW (.sh (.int p)) (.sh .non) (.sh (.itm none (t p 0))) (.sh (.itm none (t p 1))) (.sh (.itm none (t p 2))))= .ok true:=rfl;obtain⟨t',W2,r3,r4,r5,r6,r7,e4,I4⟩:=ih ((p,none)::B) t vW' (.sh (.int p)) (.sh .non) (.sh (.itm none (t p 0))) (.sh (.itm none (t p 1))) (.sh (.itm none (t p 2))) e2 I';refine⟨t',W2,r3,r4,r5,r6,r7,?_,I4⟩;rw[jq];show Ou.tn ((tsb (op2 (isD false) (aD 4) (cD .non)) (fcE n ps t vW (.sh (.int p)) (.sh .non) (.sh (.itm none (t p 0))) (.sh (.itm none (t p 1))) (.sh (.itm none (t p 2))))).bo _) _=_;rw[ht,bF,if_pos rfl,show upD none=D.non from rfl,e3,jF,<-fcB,e4]
  |some u=>
   obtain⟨t1,e3,I'⟩:=aKB (n:=n) (ps:=ps) (s5:=.sh (.itm none (t p 0))) (s6:=.sh (.itm none (t p 1))) (s7:=.sh (.itm none (t p 2))) I nd hA (hu u rfl).1 hB (hu u rfl).2 hBl h0 (h1 u rfl);have ht:tsb (op2 (isD false) (aD 4) (cD .non)) (fcE n ps t vW (.sh (.int p)) (.sh (.int u)) (.sh (.itm none (t p 0))) (.sh (.itm none (t p 1))) (.sh (.itm none (t p 2))))= .ok false:=rfl;obtain⟨t',W2,r3,r4,r5,r6,r7,e4,I4⟩:=ih ((p,some u)::B) t1 vW (.sh (.int p)) (.sh (.int u)) (.sh (.itm none (t p 0))) (.sh (.itm none (t p 1))) (.sh (.itm none (t p 2))) e2 I';refine⟨t',W2,r3,r4,r5,r6,r7,?_,I4⟩;rw[jq];show Ou.tn ((tsb (op2 (isD false) (aD 4) (cD .non)) (fcE n ps t vW (.sh (.int p)) (.sh (.int u)) (.sh (.itm none (t p 0))) (.sh (.itm none (t p 1))) (.sh (.itm none (t p 2))))).bo _) _=_;rw[ht,bF,if_neg zA6,show upD (some u)=D.int u from rfl,e3,jF,<-fcB,e4]
def mmP(e:Int×Int):Int×Int:=(mnI e.1 e.2,mxI e.1 e.2)
def aKL(δ:Int->Nat)(e:Int×Int):bmp δ (mmP e)=bmp δ e:=funext λ z=>by
 unfold bmp mmP;rcases qb e.1 e.2 with ⟨h1,h2⟩|⟨h1,h2⟩<;>rw[h1,h2]
 by_cases c:z=e.1<;>by_cases d:z=e.2<;>simp[c,d]
theorem aFJ{x:Int}{q:(Int->Nat)->Bool}:∀(E:gX) (δ:Int->Nat),gs x q (E.map mmP) δ=gs x q E δ
 |[],δ=>rfl
 |e::E,δ=>by rw[zAC,gs,gs,aFJ E,aFJ E,aKL]
theorem qF{p u:Int}:∀{l:List Hr},(p,u)∈tsR l↔(p,some u)∈l
 |[]=>by simp[tsR]
 |(a,some b)::l=>by rw[tsR,zAQ,zAQ,qF];simp
 |(a,none)::l=>by rw[tsR,zAQ,qF];simp
theorem aD2{Q:Int×Int->Int×Int->Prop}:∀{l:List Hr},l.Pairwise (λ r s=>∀u v,r.2=some u->s.2=some v->Q (r.1,u) (s.1,v))->(tsR l).Pairwise Q
 |[],_=>.nil
 |(a,some b)::l,h=>by
  rw[zAb]at h;rw[tsR,zAb];exact⟨λ e he=>h.1 (e.1,some e.2) (qF.mp he) b e.2 rfl rfl,aD2 h.2⟩
 |(a,none)::l,h=>by
  rw[zAb]at h
  show(tsR l).Pairwise Q
  exact aD2 h.2
def aFl(O:Ow n ps)(low:∀p∈ps,p.1<p.2)(nd:ps.Nodup)(Hu:vQ n ps rows):((tsR rows).map mmP).Perm ps:=by
 refine(zDE ?_ nd).mpr λ e=>?_
 .rw[zAs,zBD]
  refine aD2 ?_;have h:=Hu.nd;rw[zAs,zBD]at h;refine h.imp_of_mem λ{r s} hr hs ne u v eu ev z=>?_
  rcases aEe z with ⟨z1,_⟩|⟨z1,z2⟩
  .exact ne z1
  .obtain⟨a,_⟩:=r
   obtain⟨b,_⟩:=s;dsimp only at eu ev z1 z2;subst eu ev z1 z2;exact Hu.no2 hr hs
 .rw[zAS]
  constructor
  .rintro⟨⟨p,u⟩,h,rfl⟩
   exact wU low (Hu.tie _ (qF.mp h) u rfl)
  .intro he
   obtain⟨a,b⟩:=e;have hl:=low _ he;dsimp only at hl;obtain⟨h1,h2,_⟩:=O.pr _ he;obtain⟨r,hr,er⟩:=zAS.mp (Hu.pm.mem_iff.mpr (bR.mpr ⟨h1,h2⟩));obtain⟨c,d⟩:=r;dsimp only at er;subst er;have m1:mmP (c,b)=(c,b):=by unfold mmP mnI mxI;rw[if_neg (by lia),if_pos (by lia)]
   have m2:mmP (b,c)=(c,b):=by unfold mmP mnI mxI;rw[if_pos (by lia),if_neg (by lia)]
   rcases Hu.cl _ hr b (cY.mpr (.inl he))with z|z
   .dsimp only at z
    subst z;exact⟨(c,b),qF.mpr hr,m1⟩
   .exact⟨(b,c),qF.mpr z,m2⟩
def gdB(n:Int)(S:gX):Bool:=(upI n).all λ v=>decide (dgr S v<=2)
def aBX(O:Ow n ps)(low:∀p∈ps,p.1<p.2)(nd:ps.Nodup)(hp:ps.Perm rs)(F:Fr rs):∃(vW:Tl) (M j:Int),aa [owD n ps]= .ok (.int j)/\Tz 61 vW/\(vW.map (·.1)).max?=some M/\vW.lookup M=some j/\∀x,ev x vW=kZ x ((iR ps).filter (gdB n)):=by
 have A:Ac ps:=(Fr.ac F).perm hp;obtain⟨rows,eh,Hu⟩:=aHJ O low A;have hn0:=O.n0;have hn1:=O.n1;obtain⟨t,vW,s3,s4,s5,s6,s7,el,I⟩:=aHV Hu (by lia) rows [] (λ _=>t0) [(0,1)] .no .no .no .no .no (zAo _).symm (Iv.start _);have eW:∀x,ev x vW=kZ x ((iR ps).filter (gdB n)):=λ x=>by
  have:=I.cb x (λ _=>0) λ _=>by decide
  rw[pr,zEM]at this;dsimp only at this;rw[<-this,<-aFJ,aCR (aFl O low nd Hu),<-aI6];refine congrArg (kZ x) (zAv λ S _=>?_);unfold qc gdB;rw[List.all_nil,zCr,zAj,zA7,zA7];refine forall_congr' λ v=>?_
  rw[Hu.pm.mem_iff,dgf,Nat.zero_add]
 have hne:vW.map (·.1)≠[]:=λ z=>by
  rw[zGU]at z
  have:=I.pw 1 (by decide)
  rw[z]at this;exact absurd this (by decide)
 obtain⟨M,hM⟩:∃M,(vW.map (·.1)).max?=some M:=by
  cases c:(vW.map (·.1)).max? with
  |some M=>exact⟨M,rfl⟩
  |none=>
   rw[zGH]at c;exact absurd c hne
 have hM2:=zBb.mp hM;obtain⟨j,hj⟩:∃j,vW.lookup M=some j:=by
  cases c:vW.lookup M with
  |some j=>exact⟨j,rfl⟩
  |none=>
   rw[zDW]at c;obtain⟨q,hq,e⟩:=zAS.mp hM2.1
   have:=c q hq
   rw[e]at this;simp at this
 refine⟨vW,M,j,?_,I.tw,hM,hj,eW⟩;have hx:ixD (owD n ps) (.int 0)= .ok (.int n):=by simp[owD]
 have hr:=jH (j:=n) (by lia) (by lia);have st:bC 8 [owD n ps]=[.sh (owD n ps),.no,.no,.no,.no,.no,.no,.no]:=rfl;have ck:=rT O low hp F;have c0:uq (aP dU (aC (aD 0) aH)) [.sh (owD n ps),.no,.no,.no,.no,.no,.no,.no]= .nx [.sh (owD n ps),.no,.no,.no,.no,.no,.no,.no]:=by simp[ck]
 have l1:fcL [.sh (owD n ps),.no,.no,.no,.no,.no,.no,.no]= .ok (.lst (ttL n λ _=>t0)):=by
  refine gf (ds:=(upI n).map .int) (by rw[<-tU];simp[shE,m6,hx,hr]) (by rw[zAF,cA];lia) ?_;exact jQ (upI n) λ k _=>⟨[.sh (.int k)],rfl,rfl⟩
 have c1:di 1 fcL [.sh (owD n ps),.no,.no,.no,.no,.no,.no,.no]= .nx [.sh (owD n ps),.ow (.lst (ttL n λ _=>t0)),.no,.no,.no,.no,.no,.no]:=by
  unfold di;rw[l1,bF];rfl
 have c2:oY 2 (gr (cD (iw [(0,1)]))) [.sh (owD n ps),.ow (.lst (ttL n λ _=>t0)),.no,.no,.no,.no,.no,.no]= .nx (fcE n ps (λ _=>t0) [(0,1)] .no .no .no .no .no):=rfl;have hi:cM (op1 aBs (aP uz (aC (aD 0) aH))) (fcE n ps (λ _=>t0) [(0,1)] .no .no .no .no .no)= .ok (rows.reverse.map hrD):=by
  have rv:aBs (.lst (rows.map hrD))= .ok (.lst (rows.map hrD).reverse):=rfl;simp[eh,rv]
 have fr:fcR (fcE n ps t vW s3 s4 s5 s6 s7)= .ok (.int j):=by
  have m1:opA qd (aC (kE 2) aH) (fcE n ps t vW s3 s4 s5 s6 s7)= .ok (.int M):=by
   have:qd [.itm none vW]= .ok (.int M):=by unfold qd;dsimp only;rw[hM]
   show okD (qd [.itm none vW])=_;rw[this];rfl
  have m2:aEs (.itm none vW) (.int M)= .ok (.int j):=by unfold aEs;dsimp only;rw[hj]
  rw[fcR,lK,m1]
  show((Rs.ok (D.itm none vW)).bd λ a=>(Rs.ok (D.int M)).bd λ b=>_)=_
  rw[bz,bz,m2];rfl
 rw[aa,bW,st,cP,aK,c0,aU,aK,c1,aU,aK,c2,aU,aK,cI,hi,bF,el,aU,ji,fr];rfl
end
section
variable{n:Int}{ps:gX}
def usL(qs:gX):List Int:=qs.flatMap λ q=>[q.1,q.2]
theorem yo(x:Int):∀{qs:gX},(∀q∈qs,q.1<q.2)->(usL qs).countP (λ a=>a==x)=dgr qs x
 |[],_=>rfl
 |q::qs,h=>by
  have ih:=yo x λ p hp=>h p (zAB _ hp)
  have hq:=h q zAE;rw[aFX]
  show([q.1,q.2]++usL qs).countP (λ a=>a==x)=_
  rw[List.countP_append,ih];by_cases c1:q.1=x
  .have c2:¬q.2=x:=by lia
   simp[zCg,c1,c2];lia
  .by_cases c2:q.2=x
   .simp[zCg,c1,c2]
    lia
   .simp[zCg,c1,c2]
abbrev fwV(n:Int)(ps:gX)(es:List Int)(l2:List D)(s3 s4 s5 s6:Slot):En:=[.sh (owD n ps),.sh (tupI es),.ow (.lst l2),s3,s4,s5,s6]
theorem zu:∀(qs:gX) (us:List Int) (s5:Slot),us.length+2*qs.length<=10000->∃s5',forL (gnm 5) fwE (qs.map pD) (fwV n ps es l2 s3 (.ow (.lst (us.map .int))) s5 s6)= .nx (fwV n ps es l2 s3 (.ow (.lst ((us++usL qs).map .int))) s5' s6)
 |[],us,s5,_=>⟨s5,by simp[usL]⟩
 |q::qs,us,s5,h=>by
  rw[zA4]at h;obtain⟨s5',e⟩:=zu qs (us++[q.1,q.2]) (.sh (pD q)) (by simp;lia);refine⟨s5',?_⟩;rw[zAC,b7,oH,fU]
  show(fwE (fwV n ps es l2 s3 (.ow (.lst (us.map .int))) (.sh (pD q)) s6)).tn _=_
  have e1:fwE (fwV n ps es l2 s3 (.ow (.lst (us.map .int))) (.sh (pD q)) s6)= .nx (fwV n ps es l2 s3 (.ow (.lst ((us++[q.1,q.2]).map .int))) (.sh (pD q)) s6):=by
   have hv:aq (aD 5) (fwV n ps es l2 s3 (.ow (.lst (us.map .int))) (.sh (pD q)) s6)= .ok (pD q):=rfl
   show(aq (aD 5) (fwV n ps es l2 s3 (.ow (.lst (us.map .int))) (.sh (pD q)) s6)).bo (aHW (us.map .int) λ l=>.nx ((fwV n ps es l2 s3 (.ow (.lst (us.map .int))) (.sh (pD q)) s6).set 4 (.ow (.lst l))))=_
   rw[hv,bF];unfold aHW pD;dsimp only;rw[if_pos (by rw[szl,zAF];simp;lia)];simp
  rw[e1,jF,e,zAx];rfl
def kpB(es:List Int)(qs:gX):Bool:=es.all λ x=>decide (dgr qs x<=1)
def aJu(low:∀q∈qs,q.1<q.2)(he:es.length<=1000){s3:Slot}:∃ks:List Int,fwK (fwV n ps es l2 s3 (.ow (.lst ((usL qs).map .int))) s5 s6)= .ok (.lst (ks.map .int))/\ks.isEmpty=kpB es qs:=by
 refine⟨es.filter λ x=>decide (1<dgr qs x),?_,?_⟩
 .refine gf (ds:=es.map .int) (by simp[shE,m6,tupI]) (by rw[zAF];lia) (sE es λ x hx=>⟨[.sh (.int x),.sh (.lst ((usL qs).map .int))],rfl,?_,by simp⟩)
  have cn:aAL ((usL qs).map .int) (.int x)= .ok (.int (dgr qs x:Int)):=by
   unfold aAL;dsimp only;rw[dM];dsimp only;rw[yo x low]
  have ov:opL aAL (aD 1) (aD 0) [.sh (.int x),.sh (.lst ((usL qs).map .int))]= .ok (.int (dgr qs x:Int)):=by
   show okD (aAL ((usL qs).map .int) (.int x))=_;rw[cn,uH]
  rw[aD1,lK,ov,bz];simp;exact⟨λ h=>by lia,λ h=>by lia⟩
 .unfold kpB
  rw[zAj,List.isEmpty_iff,zC6,zA7];simp
def aJv(low:∀q∈qs,q.1<q.2)(hq:qs.length<=1000)(he:es.length<=1000)(hl:l2.length<100000){s4:Slot}:∃s4' s5',fwB (fwV n ps es l2 (.sh (rwD qs)) s4 s5 s6)= .nx (fwV n ps es (l2++(if kpB es qs=true then[rwD qs]else[])) (.sh (rwD qs)) s4' s5' s6):=by
 obtain⟨s5',e⟩:=zu (n:=n) (ps:=ps) (es:=es) (l2:=l2) (s3:=.sh (rwD qs)) (s6:=s6) qs [] s5 (by simp;lia);rw[zCy]at e;obtain⟨ks,ek,hk⟩:=aJu (n:=n) (ps:=ps) (l2:=l2) (s3:=.sh (rwD qs)) (s5:=s5') (s6:=s6) low he;have c1:di 4 (gJ aH) (fwV n ps es l2 (.sh (rwD qs)) s4 s5 s6)= .nx (fwV n ps es l2 (.sh (rwD qs)) (.ow (.lst ([].map .int))) s5 s6):=by simp
 have hi:cM (aD 3) (fwV n ps es l2 (.sh (rwD qs)) (.ow (.lst ([].map .int))) s5 s6)= .ok (qs.map pD):=by simp[rwD]
 have t2:tsb (op2 (eqR false) fwK (gJ aH)) (fwV n ps es l2 (.sh (rwD qs)) (.ow (.lst ((usL qs).map .int))) s5' s6)= .ok (kpB es qs):=by
  have hn:gJ aH (fwV n ps es l2 (.sh (rwD qs)) (.ow (.lst ((usL qs).map .int))) s5' s6)= .ok (.lst []):=by simp
  have hq2:eqR false (.lst (ks.map .int)) (.lst [])= .ok (.bl ks.isEmpty):=by
   obtain⟨h1,h2⟩:bY (ks.map .int)=0/\aR (ks.map .int)=true:=by
    clear hk ek;induction ks with
    |nil=>exact⟨rfl,rfl⟩
    |cons k ks ih=>exact⟨by rw[zAC,bY,ih.1];rfl,by rw[zAC,aR,ih.2];rfl⟩
   unfold eqR;rw[if_pos (by simp[iB,aQ,bY,aR,h1,h2])];cases ks<;>rfl
  rw[aD1,lK,ek,bz,hn,bz,hq2,hk];rfl
 refine⟨.ow (.lst ((usL qs).map .int)),s5',?_⟩;rw[fwB,aK,c1,aU,aK,cI,hi,bF,e,aU,jq,t2,bF];cases kpB es qs with
 |false=>simp
 |true=>
  have g:pA (rwD qs)= .ok (rwD qs):=yK (sG qs);have hz:l2.length<16777216:=by lia
  simp[j8,g,hz]
def yM(O:Ow n ps)(low:∀p∈ps,p.1<p.2)(hn:n<=12)(hps:ps.length<=12)(he:es.length<=1000)(hK:K=((bT ps).filter λ t=>kpB es t.1).map (·.1))(hne:K≠[]):∃M:Int,dR [owD n ps,tupI es]= .ok (.lst ((K.filter λ q=>decide ((q.length:Int)=M)).map rwD))/\(K.map λ q=>(q.length:Int)).max?=some M:=by
 have er:=zf O hn hps;have hin:∀p∈ps,(0<=p.1/\p.1<n)/\(0<=p.2/\p.2<n):=λ p hp=>by
  obtain⟨a,b,c,d,_⟩:=O.pr p hp;exact⟨⟨a,b⟩,c,d⟩
 obtain⟨hl1,hl2⟩:=tQ ps;have hle:2^ps.length<=2^12:=zEB (by decide) hps;have lowt:∀t∈bT ps,∀q∈t.1,q.1<q.2:=λ t ht q hq=>low q ((xM hin t ht).2.1.subset hq)
 have st:bC 7 [owD n ps,tupI es]=[.sh (owD n ps),.sh (tupI es),.no,.no,.no,.no,.no]:=rfl;have c1:di 2 (gJ aH) [.sh (owD n ps),.sh (tupI es),.no,.no,.no,.no,.no]= .nx (fwV n ps es [] .no .no .no .no):=by simp
 have hi:cM (aP iy (aC (aD 0) aH)) (fwV n ps es [] .no .no .no .no)= .ok ((bT ps).map λ t=>rwD t.1):=by simp[er]
 obtain⟨ρ',e,s3,s4,s5,rfl⟩:=lY (ds:=(bT ps).map λ t=>rwD t.1) (a:=gnm 3) (u:=fwB) (ρ:=fwV n ps es [] .no .no .no .no)
  (λ i ρ=>∃(s3 s4 s5:Slot),ρ=fwV n ps es ((((bT ps).take i).filter λ t=>kpB es t.1).map λ t=>rwD t.1) s3 s4 s5 .no) (by
   rintro i d ρ hd ⟨s3,s4,s5,rfl⟩;rw[zAP]at hd;cases ep:(bT ps)[i]? with
   |none=>rw[ep]at hd;cases hd
   |some t=>
    rw[ep]at hd;cases hd;have htm:=zAl ep;have hf:=zBU (λ t=>kpB es t.1) ((bT ps).take i);have htl:=hl2 t htm;rw[zD1]at hf;obtain⟨t4,t5,e⟩:=aJv (n:=n) (ps:=ps) (l2:=(((bT ps).take i).filter λ t=>kpB es t.1).map λ t=>rwD t.1) (s4:=s4) (s5:=s5) (s6:=.no) (lowt t htm) (by lia) he (by rw[zAF];lia);refine⟨_,e,.sh (rwD t.1),t4,t5,?_⟩;rw[zGg,ep];simp only[Option.toList_some,zAz,zAZ,zAn,zDe];split<;>simp) ⟨_,_,_,rfl⟩
 rw[zD7 (by rw[zAF];exact zAV _)]at e;have eK:(((bT ps).filter λ t=>kpB es t.1).map λ t=>rwD t.1)=K.map rwD:=by rw[hK,zA3];rfl
 rw[eK]at e;have hKl:K.length<=4096:=by
  have hf:=zBU (λ t=>kpB es t.1) (bT ps);rw[hK,zAF];lia
 have a1:fwM (fwV n ps es (K.map rwD) s3 s4 s5 .no)= .ok (.lst ((K.map λ q=>(q.length:Int)).map .int)):=by
  rw[zA3];refine gf (ds:=K.map rwD) (by simp[shE,m6]) (by rw[zAF];lia) (jQ K λ q hq=>⟨[.sh (rwD q)],rfl,?_⟩);simp[rwD]
 obtain⟨M,hM⟩:∃M,(K.map λ q=>(q.length:Int)).max?=some M:=by
  cases c:(K.map λ q=>(q.length:Int)).max? with
  |some M=>exact⟨M,rfl⟩
  |none=>
   rw[zGH,zGU]at c;exact absurd c hne
 have hM2:=zBb.mp hM;have a2:q9 zHM [.lst ((K.map λ q=>(q.length:Int)).map .int)]= .ok (.int M):=by
  unfold q9;dsimp only;rw[dM];dsimp only;rw[hM]
 have a3:fwR (fwV n ps es (K.map rwD) s3 s4 s5 (.sh (.int M)))= .ok (.lst ((K.filter λ q=>decide ((q.length:Int)=M)).map rwD)):=by
  refine gf (ds:=K.map rwD) (by simp[shE,m6]) (by rw[zAF];lia) (sE K λ q hq=>⟨[.sh (rwD q),.sh (.int M)],rfl,?_,?_⟩)
  .by_cases c:(q.length:Int)=M<;>simp[rwD,c]
  .have g:pA (rwD q)= .ok (rwD q):=yK (sG q)
   simp[g]
 refine⟨M,?_,hM⟩
 .simp only[dR,cO,bW,st]
  rw[aK,c1,aU,aK,cI,hi,bF,e,aU,aK,jf,jm,bH,a1,bz,aCD,bz,bz,a2];simp only[uH,bF,zEY,zEZ,aU];rw[ji,a3];rfl
def rm(l:gX):∀S∈iR l,S.Sublist l:=by
 induction l using snoc_ind with
 |h0=>exact λ S h=>by rw[zAK.mp h];exact zBW _
 |h1 l a ih=>
  intro S h;rw[sub_snoc]at h;rcases zAX.mp h with z|z
  .exact(ih S z).trans (zFf _ _)
  .obtain⟨S',h',rfl⟩:=zAS.mp z
   exact(ih S' h').append (zBW _)
def sub_self(l:gX):l∈iR l:=by
 induction l using snoc_ind with
 |h0=>exact zAK.mpr rfl
 |h1 l a ih=>
  rw[sub_snoc];exact zA1 _ (zAS.mpr ⟨l,ih,rfl⟩)
def yJ{S:gX}(h:∀p∈S,(0<=p.1/\p.1<n)/\(0<=p.2/\p.2<n)):gdB n S=true↔∀x,dgr S x<=2:=by
 unfold gdB;rw[zA7];refine⟨λ g x=>?_,λ g x _=>decide_eq_true (g x)⟩;by_cases c:0<=x/\x<n
 .exact of_decide_eq_true (g x (bR.mpr c))
 .unfold dgr
  rw[zC6.mpr λ p hp z=>by
   have:=h p hp
   rw[zCI,decide_eq_true_eq,decide_eq_true_eq]at z;rcases z with z|z<;>subst z
   .exact c this.1
   .exact c this.2]
  exact zAi _
def aDy(hp:∀p∈ps,(0<=p.1/\p.1<n)/\(0<=p.2/\p.2<n))(nd:ps.Nodup)(A:Ac ps):(bT ps).map (·.1)=(iR ps).filter (gdB n):=by
 induction ps using snoc_ind with
 |h0=>
  have e:gdB n []=true:=by
   unfold gdB;rw[zA7];exact λ x _=>rfl
  show[[]]=[[]].filter (gdB n)
  rw[zAn,if_pos e];rfl
 |h1 l a ih=>
  have hl:∀p∈l,(0<=p.1/\p.1<n)/\(0<=p.2/\p.2<n):=λ p h=>hp p (zAJ _ h)
  have ih:=ih hl (zAk.mp nd).1 A.pre;rw[mK,sub_snoc,zAZ,zAz,ih,zA3,zC2];refine congrArg ((iR l).filter (gdB n)++·) ?_;have e1:(iR l).filter (gdB n∘λ S=>S++[a])=((bT l).map (·.1)).filter (gdB n∘λ S=>S++[a]):=by
   rw[ih,zG2];refine zAv λ S hS=>?_
   rw[zAj,zAM];have hs:=rm l S hS;have r1:∀p∈S++[a],(0<=p.1/\p.1<n)/\(0<=p.2/\p.2<n):=λ p h=>hp p ((hs.append (zBW [a])).subset h)
   refine⟨λ z=>⟨z,(yJ λ p h=>r1 p (zAJ _ h)).mpr λ x=>?_⟩,λ z=>z.1⟩
   have:=(yJ r1).mp z x
   rw[iu]at this;lia
  rw[e1,zC2,zA3]
  show((bT l).filter (cnd a)).map _=((bT l).filter _).map _
  have e2:(bT l).filter (cnd a)=(bT l).filter ((gdB n∘λ S=>S++[a])∘λ t:Tr=>t.1):=by
   refine zAv λ t ht=>?_
   obtain⟨R,h1,h2⟩:=xM hl t ht;have r1:∀p∈t.1++[a],(0<=p.1/\p.1<n)/\(0<=p.2/\p.2<n):=λ p h=>hp p ((h1.append (zBW [a])).subset h)
   rw[zAj];refine⟨λ z=>(yJ r1).mpr λ x=>?_,λ z=>aKH hp nd A ht ((yJ r1).mp z)⟩;simp only[cnd,zAM,decide_eq_true_eq]at z;obtain⟨c1,c2,_⟩:=z;rw[R.u]at c1 c2;rw[iu];split
   .rename_i e
    rcases e with rfl|rfl<;>lia
   .have:=h2 x;lia
  rw[e2];rfl
end
theorem uE{α:Type}:∀l:List α,(l.map λ _=>(1:Int)).sum=(l.length:Int)
 |[]=>rfl
 |a::l=>by rw[zAC,zBx,uE l,zA4];lia
theorem wW{α:Type}{w:α->Int}{q:α->Bool}:∀{l:List α},(∀p∈l,0<=w p)->0<=((l.filter q).map w).sum/\((l.filter q).map w).sum<=(l.map w).sum
 |[],_=>⟨zBy _,zBy _⟩
 |a::l,h=>by
  have ih:=wW (q:=q) λ p hp=>h p (zAB _ hp)
  have h0:=h a zAE;rw[zAn];split
  .rw[zAC,zAC,zBx,zBx]
   lia
  .rw[zAC,zBx]
   lia
theorem wK{M:Int}(hM:0<=M):∀{vW:Tl},(vW.map (·.1)).Nodup->(∀p∈vW,0<=p.1)->((vW.filter λ p=>decide (p.1.toNat=M.toNat)).map (·.2)).sum=(vW.lookup M).getD 0
 |[],_,_=>rfl
 |(a,b)::l,nd,h=>by
  rw[zAC,zA9]at nd;have ih:=wK hM nd.2 λ p hp=>h p (zAB _ hp)
  have h0:=h (a,b) zAE;dsimp only at h0;rw[zAn,zAh];by_cases c:M=a
  .subst c
   have hn:l.lookup M=none:=zDW.mpr λ q hq=>by
    rw[bne_iff_ne];exact λ z=>nd.1 (zAS.mpr ⟨q,hq,z.symm⟩)
   rw[hn]at ih;rw[if_pos (by simp),zAC,zBx,ih];simp
  .rw[if_neg (by rw[decide_eq_true_eq];show¬a.toNat=M.toNat;lia),ih,show(M==a)=false from by simpa using c]
theorem aCG:∀G:List gX,∃m,∀S∈G,S.length<m
 |[]=>⟨0,λ S h=>(nomatch h)⟩
 |S::G=>by
  obtain⟨m,h⟩:=aCG G;refine⟨m+S.length+1,λ T hT=>?_⟩;rcases zAQ.mp hT with rfl|z
  .lia
  .have:=h T z;lia
def aDF{vW:Tl}{G:List gX}{M j:Int}(T:Tz 61 vW)(hM:(vW.map (·.1)).max?=some M)(hj:vW.lookup M=some j)(h:∀x,ev x vW=kZ x G):∃k:Nat,j=((G.filter λ S=>decide (S.length=k)).length:Int)/\(∃S∈G,S.length=k)/\∀S∈G,S.length<=k:=by
 obtain⟨m0,hm0⟩:=aCG G;have hM2:=zBb.mp hM;have w0:∀p∈vW,0<=p.2:=λ p hp=>by have:=T.tm p hp;lia
 obtain⟨B,hB⟩:∃B:Int,B=(vW.map (·.2)).sum+(G.length:Int)+1:=⟨_,rfl⟩
 have t0:=(wW (q:=λ _=>true) w0).1;rw[zB4.mpr λ _ _=>rfl]at t0;have a1:=sZ B (m:=m0+62) (g:=λ p:Int×Int=>p.1.toNat) (w:=λ p=>p.2) vW λ p hp=>by
  have:=T.ky p hp
  show p.1.toNat<_;lia
 have a2:=sZ B (m:=m0+62) (g:=λ S:List (Int×Int)=>S.length) (w:=λ _=>(1:Int)) G λ S hS=>by
  have:=hm0 S hS
  show S.length<_;lia
 have e:(vW.map λ p=>p.2*B^p.1.toNat).sum=(G.map λ S=>1*B^S.length).sum:=by
  have:=h B
  unfold ev kZ at this;rw[this];exact congrArg List.sum (zBL λ S _=>(zEN _).symm)
 rw[a1,a2]at e;have f:=aLM (B:=B) (by lia) (by simp) (λ a ha=>by
  obtain⟨k,_,rfl⟩:=zAS.mp ha
  have:=wW (q:=λ p:Int×Int=>decide (p.1.toNat=k)) w0
  exact⟨this.1,by lia⟩) (λ a ha=>by
  obtain⟨k,_,rfl⟩:=zAS.mp ha;rw[uE]
  have:=zBU (λ S:List (Int×Int)=>decide (S.length=k)) G
  exact⟨by lia,by lia⟩) e
 have g:∀k,k<m0+62->((vW.filter λ p=>decide (p.1.toNat=k)).map (·.2)).sum=((G.filter λ S=>decide (S.length=k)).length:Int):=λ k hk=>by
  have:=List.map_inj_left.mp f k (zHN.mpr ⟨k,hk,by lia⟩)
  rwa [uE]at this
 obtain⟨q,hq,eq⟩:=zAS.mp hM2.1;have kq:=T.ky q hq;rw[eq]at kq;have gM:=g M.toNat (by lia);rw[wK kq.1 T.nd λ p hp=>(T.ky p hp).1,hj,zG7]at gM;have hj1:1<=j:=by
  have:∀{l:Tl},(∀p∈l,1<=p.2)->l.lookup M=some j->1<=j:=by
   intro l;induction l with
   |nil=>exact λ _ z=>by cases z
   |cons p l ih=>
    intro h z;obtain⟨a,b⟩:=p;rw[zAh]at z;split at z
    .cases z
     exact h (a,_) zAE
    .exact ih (λ p hp=>h p (zAB _ hp)) z
  exact this T.tm hj
 refine⟨M.toNat,gM,?_,λ S hS=>zE7.mp λ z=>?_⟩
 .cases hf:G.filter λ S=>decide (S.length=M.toNat)with
  |nil=>rw[hf]at gM;simp at gM;lia
  |cons S r=>
   have:S∈G.filter λ S=>decide (S.length=M.toNat):=by rw[hf];exact zAE
   obtain⟨x1,x2⟩:=zAe.mp this;exact⟨S,x1,of_decide_eq_true x2⟩
 .have gk:=g S.length (by have:=hm0 S hS;lia)
  rw[zC6.mpr λ p hp y=>by
   have y':=of_decide_eq_true y
   have:=hM2.2 p.1 (zAS.mpr ⟨p,hp,rfl⟩)
   have:=(T.ky p hp).1
   lia]at gk
  have:S∈G.filter λ T=>decide (T.length=S.length):=zAe.mpr ⟨hS,by simp⟩
  have hp:=zD6 this;have gk':(0:Int)=((G.filter λ T=>decide (T.length=S.length)).length:Int):=gk;lia
def cS(ps:gX)(k:Nat):Nat:=((iR ps).filter λ S=>decide (S.length=k)).length
def sI(ps:gX)(a:Int×Int)(k:Nat):cS (ps++[a]) (k+1)=cS ps (k+1)+cS ps k:=by
 unfold cS;rw[sub_snoc,zAz,zAT,zC2,zAF];refine congrArg (_+·) (congrArg zEH (zAv λ S _=>?_));show decide ((S++[a]).length=k+1)=_;rw[zAT,zAm,zAj,decide_eq_true_eq,decide_eq_true_eq];lia
def aH4(ps:gX):cS ps 0=1:=by
 induction ps using snoc_ind with
 |h0=>rfl
 |h1 l a ih=>
  unfold cS at ih ⊢;rw[sub_snoc,zAz,zAT,zC2,zAF,ih,zC6.mpr λ S _ z=>by simp at z];rfl
def aKK(ps:gX):cS ps 1=ps.length:=by
 induction ps using snoc_ind with
 |h0=>rfl
 |h1 l a ih=>rw[sI,ih,aH4,zAT];rfl
def aKJ(ps:gX):2*cS ps 2+ps.length=ps.length*ps.length:=by
 induction ps using snoc_ind with
 |h0=>rfl
 |h1 l a ih=>
  rw[sI,aKK,zAT,zAm]
  grind
def aH5(ps:gX):cS ps ps.length=1/\∀k,ps.length<k->cS ps k=0:=by
 induction ps using snoc_ind with
 |h0=>
  refine⟨rfl,λ k hk=>?_⟩;unfold cS
  show([[]].filter _).length=0
  rw[zAn,if_neg (by rw[decide_eq_true_eq];simp at hk ⊢;lia)];rfl
 |h1 l a ih=>
  rw[zAT,zAm];refine⟨by rw[sI,ih.1,ih.2 _ (by lia)],λ k hk=>?_⟩;obtain⟨k,rfl⟩:∃i,k=i+1:=⟨k-1,by lia⟩
  rw[sI,ih.2 _ (by lia),ih.2 _ (by lia)]
section
variable{n:Int}{ps rs:gX}
def uv(O:Ow n ps)(low:∀p∈ps,p.1<p.2)(hp:ps.Perm rs)(F:Fr rs):∃(j:Int) (k:Nat),aa [owD n ps]= .ok (.int j)/\j=((((iR ps).filter (gdB n)).filter λ S=>decide (S.length=k)).length:Int)/\(∃S∈(iR ps).filter (gdB n),S.length=k)/\∀S∈(iR ps).filter (gdB n),S.length<=k:=by
 obtain⟨vW,M,j,e,T,hM,hj,h⟩:=aBX O low (uD O) hp F;obtain⟨k,h1,h2,h3⟩:=aDF T hM hj h;exact⟨j,k,e,h1,h2,h3⟩
def aDG(O:Ow n ps)(low:∀p∈ps,p.1<p.2)(hn:n<=12)(hl:ps.length<=12)(hp:ps.Perm rs)(F:Fr rs):∃(j:Int) (Q:List D),aa [owD n ps]= .ok (.int j)/\dR [owD n ps,.tup []]= .ok (.lst Q)/\(Q.length:Int)=j:=by
 obtain⟨j,k,e,e1,⟨S,hS,eS⟩,e3⟩:=uv O low hp F;have hin:∀p∈ps,(0<=p.1/\p.1<n)/\(0<=p.2/\p.2<n):=λ p hp=>by
  obtain⟨a,b,c,d,_⟩:=O.pr p hp;exact⟨⟨a,b⟩,c,d⟩
 have er:=aDy hin (uD O) ((Fr.ac F).perm hp);have hK:(iR ps).filter (gdB n)=((bT ps).filter λ t=>kpB [] t.1).map (·.1):=by
  have hf:(bT ps).filter (λ t=>kpB [] t.1)=bT ps:=zB4.mpr λ t _=>rfl
  rw[<-er,hf]
 obtain⟨M,f1,f2⟩:=yM (es:=[]) O low hn hl (by decide) hK (zDG hS);have f3:=zBb.mp f2;refine⟨j,_,e,f1,?_⟩;rw[zAF,e1];obtain⟨S',hS',eS'⟩:=zAS.mp f3.1;have a1:=f3.2 (S.length:Int) (zAS.mpr ⟨S,hS,rfl⟩);have a2:=e3 S' hS';have hMk:M=(k:Int):=by lia
 refine congrArg (λ l:List gX=>(l.length:Int)) (zAv λ T _=>?_);rw[hMk,zAj,decide_eq_true_eq,decide_eq_true_eq];lia
end
def jh(m:Nat):gX:=(upI (m:Int)).map λ i=>(i,i+1)
def eV(m:Nat):gX:=(upI (m:Int)).map λ i=>(0,i+1)
section
variable{m:Nat}
theorem aDz:∀m:Nat,Fr (jh m)
 |0=>.nil
 |m+1=>by
  unfold jh;rw[rZ,zAZ,zEX]
  have:=(aDz m).snoc (a:=(m:Int)) (b:=(m:Int)+1) (by lia) λ p hp=>by
   obtain⟨i,hi,rfl⟩:=zAS.mp hp
   have:=bR.mp hi
   dsimp only;lia
  have e:(mnI (m:Int) ((m:Int)+1),mxI (m:Int) ((m:Int)+1))=((m:Int),(m:Int)+1):=by
   unfold mnI mxI;rw[if_neg (by lia),if_pos (by lia)]
  rwa [e]at this
theorem aBe:∀m:Nat,Fr (eV m)
 |0=>.nil
 |m+1=>by
  unfold eV;rw[rZ,zAZ,zEX]
  have:=(aBe m).snoc (a:=0) (b:=(m:Int)+1) (by lia) λ p hp=>by
   obtain⟨i,hi,rfl⟩:=zAS.mp hp
   have:=bR.mp hi
   dsimp only;lia
  have e:(mnI 0 ((m:Int)+1),mxI 0 ((m:Int)+1))=((0:Int),(m:Int)+1):=by
   unfold mnI mxI;rw[if_neg (by lia),if_pos (by lia)]
  rwa [e]at this
def aGI:(jh m).length=m:=by unfold jh;rw[zAF,cA];lia
def yr:(eV m).length=m:=by unfold eV;rw[zAF,cA];lia
def aIm(hm:m<=59):Ow ((m:Int)+1) (jh m):=by
 refine⟨by lia,by lia,by rw[aGI];lia,λ p hp=>?_,tV.mpr ?_⟩
 .obtain⟨i,hi,rfl⟩:=zAS.mp hp
  have:=bR.mp hi
  dsimp only;lia
 .unfold jh
  rw[zBD];exact(sU _).imp λ h=>.inl h
def aFp(hm:m<=59):Ow ((m:Int)+1) (eV m):=by
 refine⟨by lia,by lia,by rw[yr];lia,λ p hp=>?_,tV.mpr ?_⟩
 .obtain⟨i,hi,rfl⟩:=zAS.mp hp
  have:=bR.mp hi
  dsimp only;lia
 .unfold eV
  rw[zBD];exact(sU _).imp λ{a b} h=>.inr ⟨rfl,by show a+1<b+1;lia⟩
def aGH:∀p∈jh m,p.1<p.2:=λ p hp=>by
 obtain⟨i,hi,rfl⟩:=zAS.mp hp;show i<i+1;lia
def aD9:∀p∈eV m,p.1<p.2:=λ p hp=>by
 obtain⟨i,hi,rfl⟩:=zAS.mp hp
 have:=bR.mp hi
 show 0<i+1;lia
def aGJ(v:Int):dgr (jh m) v<=2:=by
 unfold dgr jh;rw[zC2,zAF];refine oA (m:=[v,v-1]) ((iQ _).filter _) λ x hx=>?_
 have h:=(zAe.mp hx).2;simp at h;rw[zAQ,zAK];lia
def zx{n:Int}{ps rs:gX}(O:Ow n ps)(low:∀p∈ps,p.1<p.2)(hp:ps.Perm rs)(F:Fr rs)(h:∀v,dgr ps v<=2):aa [owD n ps]= .ok (.int 1):=by
 obtain⟨j,k,e,e1,⟨S,hS,eS⟩,e3⟩:=uv O low hp F;have eG:(iR ps).filter (gdB n)=iR ps:=zB4.mpr λ S hS=>by
  unfold gdB;rw[zA7];intro v _;refine decide_eq_true (zAf ?_ (h v));exact((rm ps S hS).filter _).length_le
 rw[eG]at e1 hS e3;have a1:=e3 ps (sub_self ps);have a2:=(rm ps S hS).length_le;have hk:k=ps.length:=by lia
 have c:=(aH5 ps).1;unfold cS at c;rw[hk,c]at e1;rw[e,e1];rfl
def aGG(hm:m<=59):aa [owD ((m:Int)+1) (jh m)]= .ok (.int 1):=zx (aIm hm) aGH (zBN _) (aDz m) aGJ
def aCa(hm:m<=59)(h2:2<=m):∃j:Int,aa [owD ((m:Int)+1) (eV m)]= .ok (.int j)/\2*j+m=m*m:=by
 obtain⟨j,k,e,e1,⟨S,hS,eS⟩,e3⟩:=uv (aFp hm) aD9 (zBN _) (aBe m);refine⟨j,e,?_⟩;have hg:∀T∈iR (eV m),(gdB ((m:Int)+1) T=true↔T.length<=2):=λ T hT=>by
  unfold gdB;rw[zA7];constructor
  .intro g
   have:=of_decide_eq_true (g 0 (bR.mpr (by lia)))
   unfold dgr at this;rw[zB4.mpr λ p hp=>by
    obtain⟨i,hi,rfl⟩:=zAS.mp ((rm _ T hT).subset hp);rfl]at this
   exact this
  .exact λ g v _=>decide_eq_true (zAf (zBU _ _) g)
 obtain⟨hS1,hS2⟩:=zAe.mp hS;have k2:k<=2:=by rw[<-eS];exact(hg S hS1).mp hS2
 have c:=aKJ (eV m);rw[yr]at c;have hc:0<cS (eV m) 2:=by
  refine Nat.pos_of_ne_zero λ z=>?_
  rw[z]at c
  have:m*2<=m*m:=Nat.mul_le_mul_left m h2
  lia
 have hk:k=2:=by
  unfold cS at hc;obtain⟨T,hT⟩:=List.exists_mem_of_length_pos hc;obtain⟨t1,t2⟩:=zAe.mp hT;have t3:=of_decide_eq_true t2
  have:=e3 T (zAe.mpr ⟨t1,(hg T t1).mpr (by lia)⟩)
  lia
 have e4:((iR (eV m)).filter (gdB ((m:Int)+1))).filter (λ S=>decide (S.length=k))=(iR (eV m)).filter λ S=>decide (S.length=2):=by
  rw[zG2,hk];refine zAv λ T hT=>?_
  rw[zAj,zAM,decide_eq_true_eq,hg T hT];lia
 rw[e4]at e1;unfold cS at c;rw[e1];have c':((2*((iR (eV m)).filter λ S=>decide (S.length=2)).length+m:Nat):Int)=((m*m:Nat):Int):=by rw[c]
 rw[Int.natCast_add,zFA,zFA]at c';exact c'
def z6{n:Int}(h0:0<=n)(h1:n<=60):aa [.tup [.int n,.tup []]]= .ok (.int 1):=zx (n:=n) (ps:=[]) ⟨h0,h1,by decide,λ p hp=>(nomatch hp),rfl⟩ (λ p hp=>(nomatch hp)) (zBN _) .nil λ v=>zAi _
end
def yL{n:Int}{ps rs:gX}(O:Ow n ps)(hp:ps.Perm rs)(F:Fr rs):(ps.length:Int)<=n:=by
 have A:Ac ps:=(Fr.ac F).perm hp;have hn0:=O.n0;cases hq:ps with
 |nil=>simpa using hn0
 |cons p l=>
  have hm:p∈ps:=by rw[hq];exact zAE
  obtain⟨a,b,_⟩:=O.pr p hm;have h:=A (upI n) (iQ n) (zDG (bR.mpr ⟨a,b⟩));have e:inN (upI n) ps=ps.length:=by
   unfold inN;rw[zB4.mpr λ q hq=>by
    obtain⟨a,b,c,d,_⟩:=O.pr q hq;rw[zAM,decide_eq_true_eq,decide_eq_true_eq,bR,bR];exact⟨⟨a,b⟩,c,d⟩]
  rw[e,cA]at h;rw[<-hq];lia
abbrev lV(ns:List Int)(k:Int)(s2 s3 s4 s5 s6 s7:Slot):En:=[.sh (.scr ns),.sh (.int k),s2,s3,s4,s5,s6,s7]
def aJb{ns:List Int}{k:Int}{s2 s3 s4 s5 s6 s7:Slot}(hk:0<=k):∃t2 t3 t4 t5 t6 t7,lwK (lV ns k s2 s3 s4 s5 s6 s7)= .nx (lV ns k t2 t3 t4 t5 t6 t7):=by
 obtain⟨c,ec⟩:=aH2 (ns:=ns) hk;obtain⟨n,ps,ew,O,low,hn,rs,hp,F⟩:=vL (c:=c) (most:=9) (by decide);have hs:=yL O hp F;obtain⟨j,Q,e1,e2,e3⟩:=aDG O low (by lia) (by lia) hp F;obtain⟨a,ea,a0,a1⟩:=aCY (c:=c) (k:=9000) (b:=57) (by decide) (by decide) (by decide) (by decide);obtain⟨m,hm⟩:∃m:Nat,(m:Int)=a+2:=⟨(a+2).toNat,by lia⟩
 have e5:=aGG (m:=m) (by lia);obtain⟨i,e6,e7⟩:=aCa (m:=m) (by lia) (by lia);have hr1:=jH (j:=(m:Int)) (by lia) (by lia);have hr2:=xO (i:=1) (j:=(m:Int)+1) (by decide) (by decide) (by lia) (by lia);have h3a:(3:Int)+a=(m:Int)+1:=by lia
 have c0:lB0 (lV ns k s2 s3 s4 s5 s6 s7)= .nx (lV ns k (.sh (.int c)) s3 s4 s5 s6 s7):=by simp[lB0,ec]
 have c1:lB1 (lV ns k (.sh (.int c)) s3 s4 s5 s6 s7)= .nx (lV ns k (.sh (.int c)) (.sh (owD n ps)) s4 s5 s6 s7):=by
  have:fL [.int c,.int 9]= .ok (owD n ps):=ew
  simp[lB1,this]
 have c2:lB2 (lV ns k (.sh (.int c)) (.sh (owD n ps)) s4 s5 s6 s7)= .nx (lV ns k (.sh (.int c)) (.sh (owD n ps)) (.sh (.int j)) s5 s6 s7):=by simp[lB2,e1]
 have c3:lB3 (lV ns k (.sh (.int c)) (.sh (owD n ps)) (.sh (.int j)) s5 s6 s7)= .nx (lV ns k (.sh (.int c)) (.sh (owD n ps)) (.sh (.int j)) s5 s6 s7):=by
  have b:oG "bool" (.int j)= .ok (.bl false):=rfl;have l:jP [.lst Q]= .ok (.int j):=by rw[<-e3];simp
  have q:eqR true (.int j) (.int j)= .ok (.bl false):=by
   show Rs.ok (D.bl !(j==j))=_;simp
  simp[lB3,b,e2,l,q,-aEj]
 have c4:lB4 (lV ns k (.sh (.int c)) (.sh (owD n ps)) (.sh (.int j)) s5 s6 s7)= .nx (lV ns k (.sh (.int c)) (.sh (owD n ps)) (.sh (.int j)) (.sh (.int ((m:Int)+1))) s6 s7):=by simp[lB4,ea,h3a]
 have c5:lB5 (lV ns k (.sh (.int c)) (.sh (owD n ps)) (.sh (.int j)) (.sh (.int ((m:Int)+1))) s6 s7)= .nx (lV ns k (.sh (.int c)) (.sh (owD n ps)) (.sh (.int j)) (.sh (.int ((m:Int)+1))) (.sh (owD ((m:Int)+1) (jh m))) s7):=by
  have h1:(m:Int)+1-1=m:=by lia
  have l:lcD (jB kI (aC (op2 rF (aD 5) (cD (.int 1))) aH)) [none] (gnm 0) fO (dI (aC (aq (aD 0)) (aC (op2 dF (aq (aD 0)) (cD (.int 1))) aH))) (lV ns k (.sh (.int c)) (.sh (owD n ps)) (.sh (.int j)) (.sh (.int ((m:Int)+1))) s6 s7)= .ok (.lst ((jh m).map pD)):=by
   unfold jh;rw[zA3];refine gf (ds:=(upI (m:Int)).map .int) (by rw[<-tU];simp[shE,m6,h1,hr1]) (by rw[zAF,cA];lia) (jQ _ λ i _=>⟨[.sh (.int i)],rfl,rfl⟩)
  unfold lB5;rw[jf,aBb,bH,bH,jm,bH,l];rfl
 have c6:lB6 (lV ns k (.sh (.int c)) (.sh (owD n ps)) (.sh (.int j)) (.sh (.int ((m:Int)+1))) (.sh (owD ((m:Int)+1) (jh m))) s7)= .nx (lV ns k (.sh (.int c)) (.sh (owD n ps)) (.sh (.int j)) (.sh (.int ((m:Int)+1))) (.sh (owD ((m:Int)+1) (jh m))) (.sh (owD ((m:Int)+1) (eV m)))):=by
  have hd:bL 1 ((m:Int)+1)=(upI (m:Int)).map λ i=>.int (i+1):=by
   unfold bL upI;rw[zA3,show((m:Int)+1-1).toNat=(m:Int).toNat by lia];refine zBL λ i _=>?_
   show D.int (1+(i:Int))=D.int ((i:Int)+1);rw[Int.add_comm]
  have l:lcD (jB xP (aC (cD (.int 1)) (aC (aD 5) aH))) [none] (gnm 0) fO (dI (aC (cD (.int 0)) (aC (aq (aD 0)) aH))) (lV ns k (.sh (.int c)) (.sh (owD n ps)) (.sh (.int j)) (.sh (.int ((m:Int)+1))) (.sh (owD ((m:Int)+1) (jh m))) s7)= .ok (.lst ((eV m).map pD)):=by
   unfold eV;rw[zA3];refine gf (ds:=(upI (m:Int)).map λ i=>.int (i+1)) (by rw[<-hd];simp[shE,m6,hr2]) (by rw[zAF,cA];lia) (jQ _ λ i _=>⟨[.sh (.int (i+1))],rfl,rfl⟩)
  unfold lB6;rw[jf,aBb,bH,bH,jm,bH,l];rfl
 have c7:lB7 (lV ns k (.sh (.int c)) (.sh (owD n ps)) (.sh (.int j)) (.sh (.int ((m:Int)+1))) (.sh (owD ((m:Int)+1) (jh m))) (.sh (owD ((m:Int)+1) (eV m))))= .nx (lV ns k (.sh (.int c)) (.sh (owD n ps)) (.sh (.int j)) (.sh (.int ((m:Int)+1))) (.sh (owD ((m:Int)+1) (jh m))) (.sh (owD ((m:Int)+1) (eV m)))):=by
  have h1:(m:Int)+1-1=m:=by lia
  have h2:(m:Int)+1-2=m-1:=by lia
  have ml:gq (.int (m:Int)) (.int ((m:Int)-1))= .ok (.int ((m:Int)*((m:Int)-1))):=by
   unfold gq;dsimp only;rw[if_pos (by rw[decide_eq_true (show -(2^64)<(m:Int)by lia),decide_eq_true (show(m:Int)<2^64 by lia)];rfl)]
  have dv:gn (.int ((m:Int)*((m:Int)-1))) (.int 2)= .ok (.int i):=by
   rw[jX (by decide) (by decide)]
   have:(m:Int)*((m:Int)-1)=2*i:=by rw[Int.mul_sub,zEM];lia
   rw[this,Int.mul_ediv_cancel_left _ (by decide)]
  have q0:eqR true (.int 1) (.int 1)= .ok (.bl false):=rfl;have q:eqR true (.int i) (.int i)= .ok (.bl false):=by
   show Rs.ok (D.bl !(i==i))=_;simp
  simp[lB7,e5,e6,h1,h2,ml,dv,q0,q]
 refine⟨.sh (.int c),.sh (owD n ps),.sh (.int j),.sh (.int ((m:Int)+1)),.sh (owD ((m:Int)+1) (jh m)),.sh (owD ((m:Int)+1) (eV m)),?_⟩;rw[lwK,aK,c0,aU,aK,c1,aU,aK,c2,aU,aK,c3,aU,aK,c4,aU,aK,c5,aU,aK,c6,aU,c7]
def aEn(ns:List Int)(hl:ns.length<=63):aFb [.scr ns]= .ok (.bl true):=by
 have st:bC 8 [.scr ns]=[.sh (.scr ns),.no,.no,.no,.no,.no,.no,.no]:=rfl;let m:Int:=if (if (6:Int)<ns.length then(6:Int)else ns.length)>1 then(if (6:Int)<ns.length then(6:Int)else ns.length)else 1
 have hm:1<=m/\m<=6:=by
  show 1<=(if (if (6:Int)<ns.length then(6:Int)else ns.length)>1 then(if (6:Int)<ns.length then(6:Int)else ns.length)else 1)/\(if (if (6:Int)<ns.length then(6:Int)else ns.length)>1 then(if (6:Int)<ns.length then(6:Int)else ns.length)else 1)<=6;split<;>split<;>lia
 have hr:=jH (j:=m) (by lia) (by lia);have hR:lwR [.sh (.scr ns),.no,.no,.no,.no,.no,.no,.no]= .ok (bL 0 m):=by
  rw[<-hr];unfold lwR;simp[m]
 obtain⟨ρ',el,t1,t2,t3,t4,t5,t6,t7,rfl⟩:=aCU (a:=gnm 1) (u:=lwK) (I:=λ ρ=>∃t1 t2 t3 t4 t5 t6 t7,ρ=[.sh (.scr ns),t1,t2,t3,t4,t5,t6,t7]) (bL 0 m) [.sh (.scr ns),.no,.no,.no,.no,.no,.no,.no] ⟨.no,.no,.no,.no,.no,.no,.no,rfl⟩ (by
  rintro d hd ρ ⟨t1,t2,t3,t4,t5,t6,t7,rfl⟩;obtain⟨k,rfl,k0,k1⟩:=zb.mp hd;obtain⟨u2,u3,u4,u5,u6,u7,e⟩:=aJb (ns:=ns) (k:=k) (s2:=t2) (s3:=t3) (s4:=t4) (s5:=t5) (s6:=t6) (s7:=t7) k0;exact⟨_,e,_,_,_,_,_,_,_,rfl⟩)
 have z1:=z6 (n:=0) (by decide) (by decide);have z2:=z6 (n:=60) (by decide) (by decide);simp only[aFb,ur,bW,st];rw[aK,cI,hR,bF,el,aU];unfold lwZ;have z3:eqR false (.int 1) (.int 1)= .ok (.bl true):=rfl;simp[z1,z2,z3,aKO]
local macro_rules|`(tactic|walk_at "sc")=>`(tactic|exact⟨rfl,rfl,rfl,by decide+kernel,rfl,by decide+kernel,by decide+kernel⟩)
def top(i:Nat):Stmt:=PySem.Challenge.pw_fewways_k34_partings_of_forests_counted.main.body.getD i (.Pass ⟨0,0,0,0⟩)
abbrev n6:Stmt:=top 6
abbrev pY:Stmt:=top 7
abbrev n8:Stmt:=top 8
abbrev pX:Stmt:=top 9
abbrev lE:Stmt:=top 10
abbrev dw:Stmt:=top 11
abbrev nj:Stmt:=top 12
abbrev tO:Stmt:=top 13
abbrev lG:Stmt:=top 14
abbrev nu:Stmt:=top 15
abbrev lD:Stmt:=top 16
abbrev jN:Stmt:=top 17
abbrev xJ:Stmt:=top 18
abbrev lF:Stmt:=top 20
abbrev iV:Stmt:=top 21
abbrev aAi:Stmt:=top 22
abbrev xK:Stmt:=top 24
abbrev ni:Stmt:=top 25
abbrev pZ:Stmt:=top 26
abbrev iU:Stmt:=top 27
abbrev jO:Stmt:=top 29
abbrev nZ:Stmt:=top 30
abbrev jg:Stmt:=top 31
abbrev nY:Stmt:=top 32
abbrev iT:Stmt:=top 33
abbrev aDu:Stmt:=top 34
def zH:ao ["thing"] ["thing"] (aO n6):=by walk_at "sc"
def aAg:ao ["thing"] ["thing"] (aO pY):=by walk_at "sc"
def zJ:ao ["many","thing"] ["many","thing"] (aO n8):=by walk_at "sc"
def aAf:ao ["many","thing"] ["many","thing"] (aO pX):=by walk_at "sc"
def xF:ao ["things","at"] ["things"] (aO lE):=by walk_at "sc"
def m8:ao ["many","thing","pair"] ["many","thing"] (aO dw):=by walk_at "sc"
def zL:ao ["many","thing"] ["many","thing"] (aO nj):=by walk_at "sc"
def aCg:ao ["thing"] ["thing"] (aO tO):=by walk_at "sc"
def xH:ao ["thing"] ["thing"] (aO lG):=by walk_at "sc"
def zM:ao ["web","many","ties","near","low","high"] ["web"] (aO nu):=by walk_at "sc"
def wy:ao ["near","start","part","at","place","other"] ["near","start"] (aO lD):=by walk_at "sc"
def tL:ao ["near","places","found","seen","place","part","other"] ["near","places"] (aO jN):=by walk_at "sc"
def aDq:ao ["web"] ["web"] (aO xJ):=by walk_at "sc"
def xG:ao ["web"] ["web"] (aO lF):=by walk_at "sc"
def rM:ao ["web"] ["web"] (aO iV):=by walk_at "sc"
def aGE:ao ["web","near","seen","rows","at","top","place","upper","other"] ["web"] (aO aAi):=by walk_at "sc"
def aDr:ao ["one","other","found","ties","times"] ["one","other"] (aO xK):=by walk_at "sc"
def zK:ao ["one","other","more","found","ties","times","others","often","both"] ["one","other","more"] (aO ni):=by walk_at "sc"
def aAh:ao ["upper","lower","to_be_tied","apart","found","ties"] ["upper","lower"] (aO pZ):=by walk_at "sc"
def rJ:ao ["web","tallies","whole","place","upper","none","one","two"] ["web"] (aO iU):=by walk_at "sc"
def tM:ao ["_law_script","_law_k"] ["_law_script","_law_k"] (aO jO):=by walk_at "sc"
def zG:ao ["_law_cell","_law_k","_law_bound","_law_left","_law_j","_law_stir"] ["_law_cell","_law_k","_law_bound"] (aO nZ):=by walk_at "sc"
def vG:ao ["_law_cell","_law_most","_law_many","_law_kind","_law_order","_law_ties","_law_place","_law_over"] ["_law_cell","_law_most"] (aO jg):=by walk_at "sc"
def zF:ao ["_law_web","_law_found","_law_one","_law_other","_law_longer","_law_some","_law_least","_law_uses","_law_low","_law_high","_law_more","_law_used"] ["_law_web"] (aO nY):=by walk_at "sc"
def rG:ao ["_law_web","_law_ends","_law_some","_law_row","_law_used","_law_tie","_law_most"] ["_law_web","_law_ends"] (aO iT):=by walk_at "sc"
def aIi:ao ["_law_script","_law_k","_law_cell","_law_web","_law_found","_law_many","_law_row","_law_star"] ["_law_script"] (aO aDu):=by walk_at "sc"
set_option genInjectivity false in
set_option genSizeOf false in
structure Adr where
 uc:Addr
 fX:zAc
 vz:Addr
 iJ:zAc
 ud:Addr
 fY:zAc
 vy:Addr
 iI:zAc
 qm:Addr
 dO:zAc
 ig:Addr
 bD:zAc
 ug:Addr
 fj:zAc
 zy:Addr
 jZ:zAc
 qt:Addr
 fB:zAc
 uh:Addr
 fu:zAc
 ql:Addr
 eY:zAc
 nF:Addr
 cz:zAc
 aCV:Addr
 mW:zAc
 qp:Addr
 eZ:zAc
 lr:Addr
 cQ:zAc
 aFT:Addr
 qO:zAc
 aCW:Addr
 mX:zAc
 ue:Addr
 fZ:zAc
 wA:Addr
 iK:zAc
 lq:Addr
 cP:zAc
 nG:Addr
 cF:zAc
 uZ:Addr
 dN:zAc
 pB:Addr
 dh:zAc
 uY:Addr
 fW:zAc
 lZ:Addr
 cO:zAc
 aIS:Addr
 ur:zAc
 nA:Value
 oR:Addr
 yX:Addr
 oO:Addr
structure Txt(K:zAA)(mg:Str->Option Value)(t:Adr):Prop where
 oJ:Dnr K mg "is_whole" n6 ["thing"] t.uc t.fX
 wD:Dnr K mg "is_many" pY ["thing"] t.vz t.iJ
 oK:Dnr K mg "is_place" n8 ["many","thing"] t.ud t.fY
 wC:Dnr K mg "is_pair" pX ["many","thing"] t.vy t.iI
 qx:Dnr K mg "is_rising" lE ["things"] t.qm t.dO
 il:Dnr K mg "are_rising_pairs" dw ["many","thing"] t.ig t.bD
 uo:Dnr K mg "are_ties" nj ["many","thing"] t.ug t.fj
 aAB:Dnr K mg "is_web" tO ["thing"] t.zy t.jZ
 qz:Dnr K mg "check_web" lG ["thing"] t.qt t.fB
 oM:Dnr K mg "all_tied" nu ["web"] t.uh t.fu
 qw:Dnr K mg "part_with" lD ["near","start"] t.ql t.eY
 nH:Dnr K mg "parts_among" jN ["near","places"] t.nF t.cz
 aCX:Dnr K mg "parts" xJ ["web"] t.aCV t.mW
 qy:Dnr K mg "is_forest" lF ["web"] t.qp t.eZ
 lz:Dnr K mg "check_forest" iV ["web"] t.lr t.cQ
 aFW:Dnr K mg "hung" aAi ["web"] t.aFT t.qO
 mU:Dnr K mg "added" xK ["one","other"] t.aCW t.mX
 jr:Dnr K mg "combined" ni ["one","other","more"] t.ue t.fZ
 wF:Dnr K mg "hang_on" pZ ["upper","lower"] t.wA t.iK
 cN:Dnr K mg "forest_count" iU ["web"] t.lq t.cP
 nJ:Dnr K mg "_law_cell_at" jO ["_law_script","_law_k"] t.nG t.cF
 cg:Dnr K mg "_law_draw" nZ ["_law_cell","_law_k","_law_bound"] t.uZ t.dN
 pF:Dnr K mg "_law_forest" jg ["_law_cell","_law_most"] t.pB t.dh
 um:Dnr K mg "_law_rows" nY ["_law_web"] t.uY t.fW
 lw:Dnr K mg "_law_few_rows" iT ["_law_web","_law_ends"] t.lZ t.cO
 aFV:Dnr K mg "law" aDu ["_law_script"] t.aIS t.ur
 gF:mg "MOST_PLACES"=some t.nA
 vI:RelV (.int 60) t.nA
 m_FewError:mg "FewError"=some (.ref t.oR)
 l_FewError:bf mg "FewError"=t.oR
 je:oU K t.oR
 aGq:mg "NoWeb"=some (.ref t.yX)
 aGv:bf mg "NoWeb"=t.yX
 oV:oU K t.yX
 aBE:mg "NoForest"=some (.ref t.oO)
 aBM:bf mg "NoForest"=t.oO
 iM:oU K t.oO
 aKy:mg "all"=none
 aEa:mg "bool"=none
 aJ9:mg "dict"=none
 aIO:mg "int"=none
 dg:mg "isinstance"=none
 jz:mg "len"=none
 aJ8:mg "list"=none
 z8:mg "max"=none
 aE9:mg "min"=none
 dZ:mg "range"=none
 aIN:mg "set"=none
 uL:mg "sorted"=none
 gD:mg "tuple"=none
section
variable{P:zAU}{w:World}{K:zAA}{mg:Str->Option Value}{base:Heap}{t:Adr}
def qX(T:Txt K mg t):cG P w K mg base (CX1 P w) 1 t.uc t.fX ["thing"] (spF K (bf mg) 1 iz):=
 bI (k:=0) (f:=fX) T.oJ zH λ n _ _ _ _ _ _ _=>
  (aL (bG (lC (pU (aA 0) T.dg T.aIO) (lA (aIc (pU (aA 0) T.dg T.aEa))))))
def xf(T:Txt K mg t):cG P w K mg base (CX1 P w) 1 t.qm t.dO ["things"] (spF K (bf mg) 1 fC):=
 bI (k:=0) (f:=dO) T.qx xF λ n _ _ _ _ _ _ _=>
  (aG (cW (wg (aB aJ (aB (gZ T.jz (aB (aA 0) aF)) aF)) T.dZ) (aX (ks:=[1]))
   (aL (eX (nR (vZ (aM (aA 0) (nU (aA 1) aJ)) (aM (aA 0) (aA 1))))
    (aL (bG qU))
    bj)))
  (aL (bG qU)))
def qZ(T:Txt K mg t):cG P w K mg base (CX1 P w) 1 t.uh t.fu ["web"] (spF K (bf mg) 1 cj):=
 bI (k:=0) (f:=fu) T.oM zM λ n _ _ _ _ _ _ _=>
  (aG (aDd (aA 0) (jM (n:=2) (bB (aX (ks:=[1,2])) (bB (aX (ks:=[1,2])) fH))))
  (aG (aK7 (N:=["place"]) (js:=[none]) (ks:=[0]) (jG (aB (aA 1) aF) T.dZ) bu)
  (aG (cW (cX (aA 2)) (jM (n:=2) (bB (aX (ks:=[4,5])) (bB (aX (ks:=[4,5])) fH)))
   (aG (tB 3 (aA 4) (az (aA 5)))
   (aL (tB 3 (aA 5) (az (aA 4))))))
  (aL (bG (mH 3))))))
def xZ(T:Txt K mg t):cG P w K mg base (CX1 P w) 1 t.ql t.eY ["near","start"] (spF K (bf mg) 2 gR):=
 bI (k:=0) (f:=eY) T.qw wy λ n _ _ _ _ _ _ _=>
  (aG (dH (i:=2) (jw (km (aB (az (aA 1)) aF))))
  (aG (bh (i:=3) (fG aJ))
  (aG (yw (vZ (aA 3) (gZ T.jz (aB (du 2) aF)))
   (aG (mG (i:=4) (fG (az (aM (du 2) (aA 3)))))
   (aG (cW (cX (aM (aA 0) (gC 4))) (aX (ks:=[5]))
    (aL (eX (aI7 (aA 5) (du 2))
     (aL (iC 2 (az (aA 5))))
     bj)))
   (aL (aDc (i:=3) aJ (λ _=>aEw))))))
  (aL (bG (jT T.gD (aB (pQ T.uL (aB (du 2) aF)) aF)))))))
def lM(T:Txt K mg t):cG P w K mg base (CX1 P w) 1 t.aCW t.mX ["one","other"] (spF K (bf mg) 2 cJ):=
 bI (k:=0) (f:=mX) T.mU aDr λ n _ _ _ _ _ _ _=>
  (aG (dH (i:=2) (jw (aFt (aIf T.aJ9 (aB (aA 0) aF)))))
  (aG (cW (tH (aA 1)) (jM (n:=2) (bB (aX (ks:=[3,4])) (bB (aX (ks:=[3,4])) fH)))
   (aL (aBh 2 (aA 3) (dD (az (aDo (du 2) (aA 3) aJ)) (az (aA 4))))))
  (aL (bG (mH 2)))))
def lL(T:Txt K mg t):cG P w K mg base (CX1 P w) 1 t.ue t.fZ ["one","other","more"] (spF K (bf mg) 3 bw):=
 bI (k:=0) (f:=fZ) T.jr zK λ n _ _ _ _ _ _ _=>
  (aG (dH (i:=3) (jw (aFt ww)))
  (aG (cW (tH (aA 0)) (jM (n:=2) (bB (aX (ks:=[4,5])) (bB (aX (ks:=[4,5])) fH)))
   (aL (cW (tH (aA 1)) (jM (n:=2) (bB (aX (ks:=[6,7])) (bB (aX (ks:=[6,7])) fH)))
    (aG (bh (i:=8) (fG (dD (dD (aA 4) (aA 6)) (aA 2))))
    (aL (aBh 3 (aA 8) (dD (az (aDo (du 3) (aA 8) aJ)) (nW (az (aA 5)) (az (aA 7))))))))))
  (aL (bG (mH 3)))))
def uG(T:Txt K mg t):cG P w K mg base (CX1 P w) 1 t.nG t.cF ["_law_script","_law_k"] (spF K (bf mg) 2 dm):=
 bI (k:=0) (f:=cF) T.nJ tM λ n _ _ _ _ _ _ _=>
  (aG (eX (vZ (aA 1) (gZ T.jz (aB (aA 0) aF)))
   (aL (bG (az (aM (aA 0) (aA 1)))))
   bj)
  (aL (bG aJ)))
def cU(T:Txt K mg t):cG P w K mg base (CX1 P w) 1 t.uZ t.dN ["_law_cell","_law_k","_law_bound"] (spF K (bf mg) 3 aj):=
 bI (k:=0) (f:=dN) T.cg zG λ n _ _ _ _ _ _ _=>
  (aG (eX (aK6 (aA 0) (aIb aJ aJ))
   (aG (bh (i:=3) (fG (aA 0)))
   (aG (cW (jG (aB (aA 1) aF) T.dZ) (aX (ks:=[4]))
    (aG (eX (yt (aA 3) aJ)
     (aL (bG aJ))
     bj)
    (aL (bh (i:=3) (fG (oZ (aA 3) (aA 2)))))))
   (aL (bG (pR (aA 3) (aA 2))))))
   bj)
  (aG (bh (i:=5) (fG (pR (nW (dD (dD (pR (aA 0) aJ) (nW aJ (aA 1))) aJ) aJ) aJ)))
  (aG (bh (i:=5) (fG (pR (dD (dD (nW (aA 5) (aA 5)) (nW aJ (aA 1))) aJ) aJ)))
  (aL (bG (pR (oZ (pR (nW (aA 5) aJ) aJ) aJ) (aA 2)))))))
def zY(T:Txt K mg t):cG P w K mg base (CX1 P w) 1 t.uY t.fW ["_law_web"] (spF K (bf mg) 1 iy):=
 bI (k:=0) (f:=fW) T.um zF λ n _ _ _ _ _ _ _=>
  (aG (dH (i:=1) (jw (km (aB (cC (aB (cC aF) (aB (aCe T.gD T.dZ (aM (aA 0) aJ)) (aB (aFw (cC (aB aJ aF)) (az (aM (aA 0) aJ))) aF)))) aF))))
  (aG (cW (cX (aM (aA 0) aJ)) (jM (n:=2) (bB (aX (ks:=[2,3])) (bB (aX (ks:=[2,3])) fH)))
   (aG (dH (i:=4) (jw (km aF)))
   (aG (aFq 1 (jM (n:=3) (bB (aX (ks:=[5,6,7])) (bB (aX (ks:=[5,6,7])) (bB (aX (ks:=[5,6,7])) fH))))
    (yu (aI8 (SW.st (aD6 (vZ (aM (aA 7) (aA 2)) aJ) (aD6 (vZ (aM (aA 7) (aA 3)) aJ) (aFn (sy (aM (aA 6) (aA 2)) (aM (aA 6) (aA 3)))))))
     (mF (oX (i:=8) (fG (wj T.aE9 (aB (aM (aA 6) (aA 2)) (aB (aM (aA 6) (aA 3)) aF)))))
     (mF (oX (i:=9) (fG (wu T.z8 (aB (aM (aA 6) (aA 2)) (aB (aM (aA 6) (aA 3)) aF)))))
     (mF (oX (i:=10) (fG (jT T.gD (aB (nD (N:=["_law_here","_law_high","_law_low"]) (js:=[none,some 9,some 8]) (ks:=[0]) (cX (aA 6)) bu gY (aKb (yt (aA 0) (aA 1)) (az (aA 2)) (az (aA 0)))) aF))))
     (mF (oX (i:=11) (fG (jT T.gD (aB (nD (N:=["_law_k","_law_uses","_law_one","_law_other"]) (js:=[none,some 7,some 2,some 3]) (ks:=[0]) (jG (aB (aM (aA 0) aJ) aF) T.dZ) bu gY (dD (az (aM (aA 1) (aA 0))) (aGB T.aIO (aB (aK8 (zA (aA 0) (aA 2)) (lA (zA (aA 0) (aA 3)))) aF)))) aF))))
     (yu (aA7 4 (cC (aB (dD (az (aA 5)) (cC (aB (cC (aB (az (aA 2)) (aB (az (aA 3)) aF))) aF))) (aB (az (aA 10)) (aB (az (aA 11)) aF))))))))))
     aDb)))
   (aL (aA9 1 4)))))
  (aL (bG (nD (N:=["_law_row"]) (js:=[none]) (ks:=[0]) (cX (aA 1)) bu gY (az (aM (aA 0) aJ)))))))
def aAw(T:Txt K mg t):cG P w K mg base (CX1 P w) 2 t.vz t.iJ ["thing"] (spF K (bf mg) 1 mY):=
 bI (k:=1) (f:=iJ) T.wD aAg λ n _ _ _ _ _ _ _=>
  (aL (bG (lC (aY (qX T) T.oJ (aB (aA 0) aF)) (lA (aGA aJ (aA 0) (aGC T.gF T.vI (λ _ _=>.int _)))))))
def qY(T:Txt K mg t):cG P w K mg base (CX1 P w) 2 t.ud t.fY ["many","thing"] (spF K (bf mg) 2 eU):=
 bI (k:=1) (f:=fY) T.oK zJ λ n _ _ _ _ _ _ _=>
  (aL (bG (lC (aY (qX T) T.oJ (aB (aA 1) aF)) (lA (aFz aJ (aA 1) (aA 0))))))
def uF(T:Txt K mg t):cG P w K mg base (CX1 P w) 2 t.nF t.cz ["near","places"] (spF K (bf mg) 2 dB):=
 bI (k:=1) (f:=cz) T.nH tL λ n _ _ _ _ _ _ _=>
  (aG (dH (i:=2) (jw (km aF)))
  (aG (dH (i:=3) (jw (aFt (aBm T.aIN))))
  (aG (cW (cX (aA 1)) (aX (ks:=[4]))
   (aL (eX (aBf (aA 4) (du 3))
    (aG (bh (i:=5) (fG (aY (xZ T) T.qw (aB (aA 0) (aB (aA 4) aF)))))
    (aG (iC 2 (az (aA 5)))
    (aL (cW (cX (aA 5)) (aX (ks:=[6]))
     (aL (aDe 3 (az (aA 6))))))))
    bj)))
  (aL (bG (mH 2))))))
def aGk(T:Txt K mg t):cG P w K mg base (CX1 P w) 2 t.aFT t.qO ["web"] (spF K (bf mg) 1 uz):=
 bI (k:=1) (f:=qO) T.aFW aGE λ n _ _ _ _ _ _ _=>
  (aG (bh (i:=1) (fG (aY (qZ T) T.oM (aB (aA 0) aF))))
  (aG (dH (i:=2) (jw (aFt (aBm T.aIN))))
  (aG (dH (i:=3) (jw (km aF)))
  (aG (bh (i:=4) (fG aJ))
  (aG (cW (jG (aB (aM (aA 0) aJ) aF) T.dZ) (aX (ks:=[5]))
   (aG (eX (aBf (aA 5) (du 2))
    (aL (iC 3 (cC (aB (az (aA 5)) (aB aDn aF)))))
    bj)
   (aL (yw (vZ (aA 4) (gZ T.jz (aB (du 3) aF)))
    (aG (aDd (az (aM (du 3) (aA 4))) (jM (n:=2) (bB (aX (ks:=[6,7])) (bB (aX (ks:=[6,7])) fH))))
    (aG (cW (cX (aM (aA 1) (aA 6))) (aX (ks:=[8]))
     (aL (eX (sy (aA 8) (aA 7))
      (aG (aDe 2 (az (aA 8)))
      (aL (iC 3 (cC (aB (az (aA 8)) (aB (az (aA 6)) aF))))))
      bj)))
    (aL (aDc (i:=4) aJ (λ _=>aEw)))))))))
  (aL (bG (mH 3))))))))
def aAx(T:Txt K mg t):cG P w K mg base (CX1 P w) 2 t.wA t.iK ["upper","lower"] (spF K (bf mg) 2 jd):=
 bI (k:=1) (f:=iK) T.wF aAh λ n _ _ _ _ _ _ _=>
  (aG (bh (i:=2) (fG (g8 (aY (lM T) T.mU (aB (aM (aA 1) aJ) (aB (aM (aA 1) aJ) aF))))))
  (aG (bh (i:=3) (fG (g8 (aY (lM T) T.mU (aB (aA 2) (aB (aM (aA 1) aJ) aF))))))
  (aG (dH (i:=4) (aHm (aD7 (N:=["tally","apart"]) (js:=[none,some 3]) (ks:=[0]) (cX (aA 0)) bu gY (g8 (aY (lL T) T.jr (aB (aA 0) (aB (aA 1) (aB aJ aF))))))))
  (aG (cW (cX (cC (aB aJ (aB aJ aF)))) (aX (ks:=[5]))
   (aL (aBg 4 (aA 5) (g8 (aY (lM T) T.mU (aB (aM (du 4) (aA 5)) (aB (g8 (aY (lL T) T.jr (aB (aM (aA 0) (nU (aA 5) aJ)) (aB (aA 2) (aB aJ aF))))) aF)))))))
  (aL (bG (mH 4)))))))
def vJ(T:Txt K mg t):cG P w K mg base (CX1 P w) 2 t.pB t.dh ["_law_cell","_law_most"] (spF K (bf mg) 2 fL):=
 bI (k:=1) (f:=dh) T.pF vG λ n _ _ _ _ _ _ _=>
  (aG (bh (i:=2) (fG (aY (cU T) T.cg (aB (aA 0) (aB aJ (aB (dD (aA 1) aJ) aF))))))
  (aG (bh (i:=3) (fG (aY (cU T) T.cg (aB (aA 0) (aB aJ (aB aJ aF))))))
  (aG (mG (i:=4) (aD7 (N:=["_law_row"]) (js:=[none]) (ks:=[0]) (cX (pQ T.uL (aB (nD (N:=["_law_place","_law_cell"]) (js:=[none,some 0]) (ks:=[0]) (jG (aB (aA 2) aF) T.dZ) bu gY (cC (aB (aY (cU T) T.cg (aB (aA 1) (aB (dD aJ (aA 0)) (aB aJ aF)))) (aB (az (aA 0)) aF)))) aF))) bu gY (az (aM (aA 0) aJ))))
  (aG (dH (i:=5) (jw (km aF)))
  (aG (cW (wg (aB aJ (aB (aA 2) aF)) T.dZ) (aX (ks:=[6]))
   (aG (mG (i:=7) (fG (aM (aAc (aB (nU (aA 6) aJ) (aB (oZ (aA 6) aJ) (aB (oZ (aA 6) aJ) (aB (aY (cU T) T.cg (aB (aA 0) (aB (dD aJ (aA 6)) (aB (aA 6) aF)))) aF))))) (aA 3))))
   (aG (eX (yt (aY (cU T) T.cg (aB (aA 0) (aB (dD aJ (aA 6)) (aB aJ aF)))) aJ)
    (aL (mG (i:=7) (fG (aY (cU T) T.cg (aB (aA 0) (aB (dD aJ (aA 6)) (aB (aA 6) aF)))))))
    bj)
   (aL (eX (aHn (aY (cU T) T.cg (aB (aA 0) (aB (dD aJ (aA 6)) (aB aJ aF)))) aJ)
    (aL (iC 5 (cC (aB (wj T.aE9 (aB (aM (gC 4) (gC 7)) (aB (aM (gC 4) (aA 6)) aF))) (aB (wu T.z8 (aB (aM (gC 4) (gC 7)) (aB (aM (gC 4) (aA 6)) aF))) aF)))))
    bj)))))
  (aL (bG (cC (aB (az (aA 2)) (aB (jT T.gD (aB (pQ T.uL (aB (du 5) aF)) aF)) aF))))))))))
def rO(T:Txt K mg t):cG P w K mg base (CX1 P w) 2 t.lZ t.cO ["_law_web","_law_ends"] (spF K (bf mg) 2 dR):=
 bI (k:=1) (f:=cO) T.lw rG λ n _ _ _ _ _ _ _=>
  (aG (dH (i:=2) (jw (km aF)))
  (aG (cW (cX (aY (zY T) T.um (aB (aA 0) aF))) (aX (ks:=[3]))
   (aG (dH (i:=4) (jw (km aF)))
   (aG (cW (cX (aA 3)) (aX (ks:=[5]))
    (aL (aA8 4 (az (aA 5)))))
   (aL (eX (yt (nD (N:=["_law_place","_law_used"]) (js:=[none,some 4]) (ks:=[0]) (cX (aA 1)) bu (aDl (aHn (aDp (aA 1) (aA 0)) aJ)) (az (aA 0))) (aAc aF))
    (aL (iC 2 (az (aA 3))))
    bj)))))
  (aG (bh (i:=6) (fG (aFx T.z8 (aB (nD (N:=["_law_row"]) (js:=[none]) (ks:=[0]) (cX (aA 2)) bu gY (gZ T.jz (aB (aA 0) aF))) aF))))
  (aL (bG (nD (N:=["_law_row","_law_most"]) (js:=[none,some 6]) (ks:=[0]) (cX (aA 2)) bu (aDl (yt (gZ T.jz (aB (aA 0) aF)) (aA 1))) (az (aA 0))))))))
def aAv(T:Txt K mg t):cG P w K mg base (CX1 P w) 3 t.vy t.iI ["many","thing"] (spF K (bf mg) 2 jc):=
 bI (k:=2) (f:=iI) T.wC aAf λ n _ _ _ _ _ _ _=>
  (aG (eX (SW.st (aBc (nR (nQ (pU (aA 1) T.dg T.gD))) (wV (sy (gZ T.jz (aB (aA 1) aF)) aJ))))
   (aL (bG qU))
   bj)
  (aL (bG (lC (aY (qY T) T.oK (aB (aA 0) (aB (aM (aA 1) aJ) aF))) (lC (aY (qY T) T.oK (aB (aA 0) (aB (aM (aA 1) aJ) aF))) (lA (aK9 (aM (aA 1) aJ) (aM (aA 1) aJ))))))))
def mj(T:Txt K mg t):cG P w K mg base (CX1 P w) 4 t.ig t.bD ["many","thing"] (spF K (bf mg) 2 bM):=
 bI (k:=3) (f:=bD) T.il m8 λ n _ _ _ _ _ _ _=>
  (aG (eX (nR (nQ (pU (aA 1) T.dg T.gD)))
   (aL (bG qU))
   bj)
  (aG (cW (cX (aA 1)) (aX (ks:=[2]))
   (aL (eX (nR (nQ (aY (aAv T) T.wC (aB (aA 0) (aB (aA 2) aF)))))
    (aL (bG qU))
    bj)))
  (aL (bG (aY (xf T) T.qx (aB (aA 1) aF))))))
def zZ(T:Txt K mg t):cG P w K mg base (CX1 P w) 5 t.ug t.fj ["many","thing"] (spF K (bf mg) 2 ju):=
 bI (k:=4) (f:=fj) T.uo zL λ n _ _ _ _ _ _ _=>
  (aL (bG (lC (aY (mj T) T.il (aB (aA 0) (aB (aA 1) aF))) (lA (aIg T.aKy (aB (nD (N:=["low","high"]) (js:=[none,none]) (ks:=[0,1]) (cX (aA 1)) (jM (n:=2) (bB bu (bB bu fH))) gY (aKa (aA 0) (aA 1))) aF))))))
def aCp(T:Txt K mg t):cG P w K mg base (CX1 P w) 6 t.zy t.jZ ["thing"] (spF K (bf mg) 1 pM):=
 bI (k:=5) (f:=jZ) T.aAB aCg λ n _ _ _ _ _ _ _=>
  (aG (eX (SW.st (aBc (nR (nQ (pU (aA 0) T.dg T.gD))) (wV (sy (gZ T.jz (aB (aA 0) aF)) aJ))))
   (aL (bG qU))
   bj)
  (aL (bG (lC (aY (aAw T) T.wD (aB (aM (aA 0) aJ) aF)) (lA (aY (zZ T) T.uo (aB (aM (aA 0) aJ) (aB (aM (aA 0) aJ) aF))))))))
def xm(T:Txt K mg t):cG P w K mg base (CX1 P w) 7 t.qt t.fB ["thing"] (spF K (bf mg) 1 fD):=
 bI (k:=6) (f:=fB) T.qz xH λ n _ _ _ _ _ _ _=>
  (aL (eX (nR (nQ (aY (aCp T) T.aAB (aB (aA 0) aF))))
   (aL (yx rfl T.aGq T.aGv T.oV (aB aDm aF)))
   bj))
def aE6(T:Txt K mg t):cG P w K mg base (CX1 P w) 8 t.aCV t.mW ["web"] (spF K (bf mg) 1 sO):=
 bI (k:=7) (f:=mW) T.aCX aDq λ n _ _ _ _ _ _ _=>
  (aG (aBi (aY (xm T) T.qz (aB (aA 0) aF)))
  (aL (bG (aY (uF T) T.nH (aB (aY (qZ T) T.oM (aB (aA 0) aF)) (aB (aAd T.aJ8 T.dZ (aM (aA 0) aJ)) aF))))))
def xg(T:Txt K mg t):cG P w K mg base (CX1 P w) 9 t.qp t.eZ ["web"] (spF K (bf mg) 1 gU):=
 bI (k:=8) (f:=eZ) T.qy xG λ n _ _ _ _ _ _ _=>
  (aL (bG (zA (gZ T.jz (aB (aY (aE6 T) T.aCX (aB (aA 0) aF)) aF)) (nU (aM (aA 0) aJ) (gZ T.jz (aB (aM (aA 0) aJ) aF))))))
def rP(T:Txt K mg t):cG P w K mg base (CX1 P w) 10 t.lr t.cQ ["web"] (spF K (bf mg) 1 dU):=
 bI (k:=9) (f:=cQ) T.lz rM λ n _ _ _ _ _ _ _=>
  (aL (eX (nR (nQ (aY (xg T) T.qy (aB (aA 0) aF))))
   (aL (yx rfl T.aBE T.aBM T.iM (aB aDm aF)))
   bj))
def cu(T:Txt K mg t):cG P w K mg base (CX1 P w) 11 t.lq t.cP ["web"] (spF K (bf mg) 1 aa):=
 bI (k:=10) (f:=cP) T.cN rJ λ n _ _ _ _ _ _ _=>
  (aG (aBi (aY (rP T) T.lz (aB (aA 0) aF)))
  (aG (dH (i:=1) (aHm (aD7 (N:=["place"]) (js:=[none]) (ks:=[0]) (jG (aB (aM (aA 0) aJ) aF) T.dZ) bu gY (aAc (aB (g8 (aBn [(0,1)])) (aB (g8 ww) (aB (g8 ww) aF)))))))
  (aG (mG (i:=2) (fG (g8 (aBn [(0,1)]))))
  (aG (cW (cX (aFv (aY (aGk T) T.aFW (aB (aA 0) aF)))) (jM (n:=2) (bB (aX (ks:=[3,4])) (bB (aX (ks:=[3,4])) fH)))
   (aG (aFr (aM (du 1) (aA 3)) (n:=3) (bB (aX (ks:=[5,6,7])) (bB (aX (ks:=[5,6,7])) (bB (aX (ks:=[5,6,7])) fH))))
   (aL (eX (aK5 (aA 4) aDn)
    (aL (mG (i:=2) (fG (g8 (aY (lL T) T.jr (aB (gC 2) (aB (g8 (aY (lM T) T.mU (aB (aA 5) (aB (g8 (aY (lM T) T.mU (aB (aA 6) (aB (aA 7) aF)))) aF)))) (aB aJ aF))))))))
    (aL (aBg 1 (aA 4) (aY (aAx T) T.wF (aB (aM (du 1) (aA 4)) (aB (aM (du 1) (aA 3)) aF)))))))))
  (aL (bG (aIe (gC 2) (aFy T.z8 (aB (gC 2) aF)))))))))
def aJ6(T:Txt K mg t):cG P w K mg base (CX1 P w) 12 t.aIS t.ur ["_law_script"] (spF K (bf mg) 1 aFb):=
 bI (k:=11) (f:=ur) T.aFV aIi λ n _ _ _ _ _ _ _=>
  (aG (cW (jG (aB (wu T.z8 (aB aJ (aB (wj T.aE9 (aB (gZ T.jz (aB (aA 0) aF)) (aB aJ aF))) aF))) aF) T.dZ) (aX (ks:=[1]))
   (aG (bh (i:=2) (fG (aY (uG T) T.nJ (aB (aA 0) (aB (aA 1) aF)))))
   (aG (bh (i:=3) (fG (aY (vJ T) T.pF (aB (aA 2) (aB aJ aF)))))
   (aG (bh (i:=4) (fG (aY (cu T) T.cN (aB (aA 3) aF))))
   (aG (eX (SW.st (aBc (nQ (pU (aA 4) T.dg T.aEa)) (wV (sy (aA 4) (gZ T.jz (aB (aY (rO T) T.lw (aB (aA 3) (aB (cC aF) aF))) aF))))))
    (aL (bG qU))
    bj)
   (aG (bh (i:=5) (fG (dD aJ (aY (cU T) T.cg (aB (aA 2) (aB aJ (aB aJ aF)))))))
   (aG (bh (i:=6) (fG (cC (aB (aA 5) (aB (jT T.gD (aB (nD (N:=["_law_place"]) (js:=[none]) (ks:=[0]) (jG (aB (nU (aA 5) aJ) aF) T.dZ) bu gY (cC (aB (az (aA 0)) (aB (dD (az (aA 0)) aJ) aF)))) aF)) aF)))))
   (aG (bh (i:=7) (fG (cC (aB (aA 5) (aB (jT T.gD (aB (nD (N:=["_law_place"]) (js:=[none]) (ks:=[0]) (wg (aB aJ (aB (aA 5) aF)) T.dZ) bu gY (cC (aB aJ (aB (az (aA 0)) aF)))) aF)) aF)))))
   (aL (eX (SW.st (aBc (sy (aY (cu T) T.cN (aB (aA 6) aF)) aJ) (wV (sy (aY (cu T) T.cN (aB (aA 7) aF)) (oZ (nW (nU (aA 5) aJ) (nU (aA 5) aJ)) aJ)))))
    (aL (bG qU))
    bj))))))))))
  (aL (bG (lC (zA (aY (cu T) T.cN (aB (cC (aB aJ (aB (cC aF) aF))) aF)) aJ) (lA (zA (aY (cu T) T.cN (aB (cC (aB aJ (aB (cC aF) aF))) aF)) aJ))))))
end
def aIY{K:zAA}{h:Heap}{mg:Str->Option Value}{tk_MOST_PLACES:Tok}{q_FewError:Addr}{q_NoWeb:Addr}{q_NoForest:Addr}(X:K.In h)(G:h.Ns zAa mg)
  (h0:∃f d,Enr K "is_whole" n6 f d)
  (h1:∃f d,Enr K "is_many" pY f d)
  (h2:∃f d,Enr K "is_place" n8 f d)
  (h3:∃f d,Enr K "is_pair" pX f d)
  (h4:∃f d,Enr K "is_rising" lE f d)
  (h5:∃f d,Enr K "are_rising_pairs" dw f d)
  (h6:∃f d,Enr K "are_ties" nj f d)
  (h7:∃f d,Enr K "is_web" tO f d)
  (h8:∃f d,Enr K "check_web" lG f d)
  (h9:∃f d,Enr K "all_tied" nu f d)
  (h10:∃f d,Enr K "part_with" lD f d)
  (h11:∃f d,Enr K "parts_among" jN f d)
  (h12:∃f d,Enr K "parts" xJ f d)
  (h13:∃f d,Enr K "is_forest" lF f d)
  (h14:∃f d,Enr K "check_forest" iV f d)
  (h15:∃f d,Enr K "hung" aAi f d)
  (h16:∃f d,Enr K "added" xK f d)
  (h17:∃f d,Enr K "combined" ni f d)
  (h18:∃f d,Enr K "hang_on" pZ f d)
  (h19:∃f d,Enr K "forest_count" iU f d)
  (h20:∃f d,Enr K "_law_cell_at" jO f d)
  (h21:∃f d,Enr K "_law_draw" nZ f d)
  (h22:∃f d,Enr K "_law_forest" jg f d)
  (h23:∃f d,Enr K "_law_rows" nY f d)
  (h24:∃f d,Enr K "_law_few_rows" iT f d)
  (h25:∃f d,Enr K "law" aDu f d)
  (gF:zAu K zAa "MOST_PLACES"=some (some (.int 60 tk_MOST_PLACES)))
  (y_FewError:zAu K zAa "FewError"=some (some (.ref q_FewError)))
  (je:oU K q_FewError)
  (y_NoWeb:zAu K zAa "NoWeb"=some (some (.ref q_NoWeb)))
  (oV:oU K q_NoWeb)
  (y_NoForest:zAu K zAa "NoForest"=some (some (.ref q_NoForest)))
  (iM:oU K q_NoForest)
  (z_all:zAu K zAa "all"=some none)
  (z_bool:zAu K zAa "bool"=some none)
  (z_dict:zAu K zAa "dict"=some none)
  (z_int:zAu K zAa "int"=some none)
  (z_isinstance:zAu K zAa "isinstance"=some none)
  (z_len:zAu K zAa "len"=some none)
  (z_list:zAu K zAa "list"=some none)
  (z_max:zAu K zAa "max"=some none)
  (z_min:zAu K zAa "min"=some none)
  (z_range:zAu K zAa "range"=some none)
  (z_set:zAu K zAa "set"=some none)
  (z_sorted:zAu K zAa "sorted"=some none)
  (z_tuple:zAu K zAa "tuple"=some none):
  ∃t,Txt K mg t:=by
 obtain⟨f0,d0,F0,a0⟩:=dnr X G h0 ["thing"];obtain⟨f1,d1,F1,a1⟩:=dnr X G h1 ["thing"];obtain⟨f2,d2,F2,a2⟩:=dnr X G h2 ["many","thing"];obtain⟨f3,d3,F3,a3⟩:=dnr X G h3 ["many","thing"];obtain⟨f4,d4,F4,a4⟩:=dnr X G h4 ["things"];obtain⟨f5,d5,F5,a5⟩:=dnr X G h5 ["many","thing"];obtain⟨f6,d6,F6,a6⟩:=dnr X G h6 ["many","thing"];obtain⟨f7,d7,F7,a7⟩:=dnr X G h7 ["thing"];obtain⟨f8,d8,F8,a8⟩:=dnr X G h8 ["thing"];obtain⟨f9,d9,F9,a9⟩:=dnr X G h9 ["web"];obtain⟨f10,d10,F10,a10⟩:=dnr X G h10 ["near","start"];obtain⟨f11,d11,F11,a11⟩:=dnr X G h11 ["near","places"];obtain⟨f12,d12,F12,a12⟩:=dnr X G h12 ["web"];obtain⟨f13,d13,F13,a13⟩:=dnr X G h13 ["web"];obtain⟨f14,d14,F14,a14⟩:=dnr X G h14 ["web"];obtain⟨f15,d15,F15,a15⟩:=dnr X G h15 ["web"];obtain⟨f16,d16,F16,a16⟩:=dnr X G h16 ["one","other"];obtain⟨f17,d17,F17,a17⟩:=dnr X G h17 ["one","other","more"];obtain⟨f18,d18,F18,a18⟩:=dnr X G h18 ["upper","lower"];obtain⟨f19,d19,F19,a19⟩:=dnr X G h19 ["web"];obtain⟨f20,d20,F20,a20⟩:=dnr X G h20 ["_law_script","_law_k"];obtain⟨f21,d21,F21,a21⟩:=dnr X G h21 ["_law_cell","_law_k","_law_bound"];obtain⟨f22,d22,F22,a22⟩:=dnr X G h22 ["_law_cell","_law_most"];obtain⟨f23,d23,F23,a23⟩:=dnr X G h23 ["_law_web"];obtain⟨f24,d24,F24,a24⟩:=dnr X G h24 ["_law_web","_law_ends"];obtain⟨f25,d25,F25,a25⟩:=dnr X G h25 ["_law_script"];exact⟨⟨f0,_,f1,_,f2,_,f3,_,f4,_,f5,_,f6,_,f7,_,f8,_,f9,_,f10,_,f11,_,f12,_,f13,_,f14,_,f15,_,f16,_,f17,_,f18,_,f19,_,f20,_,f21,_,f22,_,f23,_,f24,_,f25,_,_,q_FewError,q_NoWeb,q_NoForest⟩,⟨F0,F1,F2,F3,F4,F5,F6,F7,F8,F9,F10,F11,F12,F13,F14,F15,F16,F17,F18,F19,F20,F21,F22,F23,F24,F25,zCH X G gF,⟨_,rfl⟩,zCH X G y_FewError,(by unfold bf;rw[zCH X G y_FewError]),je,zCH X G y_NoWeb,(by unfold bf;rw[zCH X G y_NoWeb]),oV,zCH X G y_NoForest,(by unfold bf;rw[zCH X G y_NoForest]),iM,zAt X G z_all,zAt X G z_bool,zAt X G z_dict,zAt X G z_int,zAt X G z_isinstance,zAt X G z_len,zAt X G z_list,zAt X G z_max,zAt X G z_min,zAt X G z_range,zAt X G z_set,zAt X G z_sorted,zAt X G z_tuple⟩⟩
def aKP{l:zE8}{w:World}{K:zAA}{h:Heap}{mg:Str->Option Value}{fa:Addr}(X:K.In h)(G:h.Ns zAa mg)(hfa:mg "law"=some (.ref fa))(ht:∃t,Txt K mg t):
  ∃fd:zAc,(∀(s:zAD) (v:Value),zEx s fd ⟨[v],[]⟩ [("_law_script",v)])/\∀base:Heap,K.In base->base.Ns zAa mg->cG l.prog w K mg base (CX1 l.prog w) 12 fa fd ["_law_script"] (aBj K):=by
 obtain⟨t,T⟩:=ht;have e:=hfa.symm.trans T.aFV.m;cases e;refine⟨t.ur,λ s v=>?_,λ base _ _=>(aJ6 T).imp (aGu aEn)⟩;obtain⟨oc,od,kV,doc,pm,an,cdv,ct,osl,e,lk,hcd⟩:=T.aFV.F.ex;rw[e];exact .of_eq rfl
def walk{l:zE8}{q:zAU}{loose:List Str}{XP:(Str->Option Value)->Heap->Prop}{YP:World->Heap->Prop}{d:DefRec}{K:Params->zAA}(hn:l.most=some 63)(hdf:d.params.defaults=[])
  (hY:∀(w:World) (h:Heap),YP w h->(K w.params).In h)
  (F:∀(w:World) (mg:Str->Option Value) (fa:Addr) (h:Heap),(K w.params).In h->h.Ns zAa mg->mg d.name=some (.ref fa)->
   ∃fd:zAc,(∀(s:zAD) (u:Value),zEx s fd ⟨[u],[]⟩ [("_law_script",u)])/\∀base:Heap,(K w.params).In base->base.Ns zAa mg->cG l.prog w (K w.params) mg base (CX1 l.prog w) 12 fa fd ["_law_script"] (aBj (K w.params))):
  zHD q loose XP YP l.row.toRowW d [] (λ f vs=>zG8 f vs):=
 L2.aFi (n:=63) (k:=12) (x:="_law_script") (CX:=λ w=>CX1 l.prog w) (sp:=λ w=>aBj (K w.params)) hn (by decide) hdf ⟨rfl,by decide,by decide⟩ hY F (λ _ _ a ns hl hO hS=>⟨a,ns,rfl,aIh hO hS,hl,λ _=>rfl⟩) λ _ _ _ _ _ ⟨_,_,_,_,_,_,_,_,_,_,_,_,_,z⟩=>z
end VL.My
open PySem PySem.W PyProof.Rows
set_option maxRecDepth 100000 in
set_option maxHeartbeats 0 in
theorem PySem.Challenge.cw_fewways_k34_partings_of_forests_counted_holds : PySem.Challenge.rw_fewways_k34_partings_of_forests_counted.Holds := by
 w_on; o_law; k_head; (case hw=>w_witness2)
 k_fill
 refine VL.My.walk (l:=PySem.Challenge.rw_fewways_k34_partings_of_forests_counted) rfl rfl (fun w h Y=>PySem.W.kIn_of Y) ?F
 case F =>
  intro w mg fa h KX G hmg
  refine VL.My.aKP KX G hmg ?T
  case T =>
   refine' VL.My.aIY KX G (VL.enr ?a0 ?l0 ?c0 ?k0) (VL.enr ?a1 ?l1 ?c1 ?k1) (VL.enr ?a2 ?l2 ?c2 ?k2) (VL.enr ?a3 ?l3 ?c3 ?k3) (VL.enr ?a4 ?l4 ?c4 ?k4) (VL.enr ?a5 ?l5 ?c5 ?k5) (VL.enr ?a6 ?l6 ?c6 ?k6) (VL.enr ?a7 ?l7 ?c7 ?k7) (VL.enr ?a8 ?l8 ?c8 ?k8) (VL.enr ?a9 ?l9 ?c9 ?k9) (VL.enr ?a10 ?l10 ?c10 ?k10) (VL.enr ?a11 ?l11 ?c11 ?k11) (VL.enr ?a12 ?l12 ?c12 ?k12) (VL.enr ?a13 ?l13 ?c13 ?k13) (VL.enr ?a14 ?l14 ?c14 ?k14) (VL.enr ?a15 ?l15 ?c15 ?k15) (VL.enr ?a16 ?l16 ?c16 ?k16) (VL.enr ?a17 ?l17 ?c17 ?k17) (VL.enr ?a18 ?l18 ?c18 ?k18) (VL.enr ?a19 ?l19 ?c19 ?k19) (VL.enr ?a20 ?l20 ?c20 ?k20) (VL.enr ?a21 ?l21 ?c21 ?k21) (VL.enr ?a22 ?l22 ?c22 ?k22) (VL.enr ?a23 ?l23 ?c23 ?k23) (VL.enr ?a24 ?l24 ?c24 ?k24) (VL.enr ?a25 ?l25 ?c25 ?k25) ?gF ?y_FewError ?je ?y_NoWeb ?oV ?y_NoForest ?iM ?z_all ?z_bool ?z_dict ?z_int ?z_isinstance ?z_len ?z_list ?z_max ?z_min ?z_range ?z_set ?z_sorted ?z_tuple
   (case y_FewError=>k_is); (case je=>unfold L2.oU; k_exc)
   (case y_NoWeb=>k_is); (case oV=>unfold L2.oU; k_exc)
   (case y_NoForest=>k_is); (case iM=>unfold L2.oU; k_exc)
   any_goals k_is
