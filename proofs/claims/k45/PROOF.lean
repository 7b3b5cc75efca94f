import PyProof.Rows.All
import KE.KDictOf
import PyProof.DictWalks
import Wide.All
import OpenK.AllK
import Wide.FinOn
import Lean
import PyProof.EqAt
import PyProof.EqKinds
import PyProof.TupleCall
import KE.LcSums
import PySem.Challenge.RW_fewways_k45_fewest_ways_of_plans
open Array renaming length_toList->zBp,toList_append->zDi,getD_eq_getD_getElem?->zE7,getElem?_toList->zFY,size_extract->zGC,size_append->zGH,toList->zGn
open Array.Perm renaming refl->zFd
open Bool renaming and_eq_true->zAK,false_ne_true->zAT,not_eq_true'->zBS,eq_iff_iff->zCt,or_eq_true->zCu,false_eq_true->zEE,and_false->zFF,and_true->zFQ,or_eq_false_iff->zFs,and_assoc->zGe,or_true->zGx
open False renaming elim->zAH
open ForInStep renaming yield->zBh
open Int renaming toNat_of_nonneg->zCS,emod_lt_of_pos->zDI,toNat_natCast->zDU,emod_nonneg->zDc
open LawfulBEq renaming eq_of_beq->zCs
open List renaming length_append->zAC,mem_cons_self->zAD,length_map->zAE,mem_cons_of_mem->zAF,size_toArray->zAJ,mem_append->zAM,replicate->zAO,mem_append_left->zAQ,getElem?_eq_getElem->zAR,length_cons->zAS,map_cons->zAU,getElem?_map->zAW,mem_cons->zAX,mem_append_right->zAZ,mem_filter->zA0,getElem?_eq_some_iff->zA3,mem_map->zA4,flatten_cons->zA5,append_nil->zAb,map_append->zAi,range->zAj,append_assoc->zAk,lookup_cons->zAl,mem_singleton->zAo,pairwise_cons->zAp,map_map->zAq,flatMap_cons->zAt,nodup_append->zAu,replicate_succ->zAv,filter_cons->zAw,mem_range->zAx,mem_of_getElem?->zAy,take_of_length_le->zAz,drop_eq_getElem_cons->zBA,nodup_cons->zBB,nodup_nil->zBC,length_singleton->zBD,take_append_drop->zBE,getElem?_set_ne->zBJ,all_eq_true->zBL,mem_flatMap->zBM,map_congr_left->zBT,sum_cons->zBV,length_nil->zBX,filter_append->zB0,zip_cons_cons->zB1,length_take->zB2,filterMap_cons->zBb,getD_eq_getElem?_getD->zBd,mem_filterMap->zBf,filter_congr->zBm,length_drop->zBx,mem_flatten->zBy,getElem?_set_self->zCB,getElem?_cons_succ->zCZ,getElem?_cons_zero->zC0,length_eq_zero_iff->zC1,length_set->zC2,of_mem_zip->zC3,append_eq_nil_iff->zC7,perm_append_comm->zCd,cons_append->zCj,drop_length->zCk,mem_of_mem_take->zCn,filter_nil->zCx,flatten_append->zCy,length->zCz,length_pos_iff->zDA,getElem?_append_right->zDE,ne_nil_of_mem->zDF,drop_zero->zDJ,getElem?_append_left->zDK,length_range->zDR,getElem?_eq_none->zD6,length_replicate->zD7,map_nil->zD8,isEmpty_toArray->zDg,flatMap_append->zDu,getElem?_range->zDv,contains_cons->zEH,lookup_append->zEI,flatten_nil->zEY,getElem_map->zEZ,getElem_mem->zE0,nodup_range->zE1,not_mem_nil->zE2,countP_eq_length_filter->zEa,map_const'->zEn,nil_append->zEo,sublist_flatten_of_mem->zEp,exists_cons_of_ne_nil->zEt,perm_ext_iff_of_nodup->zEu,Nodup->zFK,foldl->zFL,getElem?_replicate->zFS,drop_eq_nil_of_le->zF1,length_pos_of_mem->zF2,sum_replicate_nat->zF3,concat_eq_append->zFi,dropLast_eq_take->zFj,eq_nil_or_concat->zFk,length_filter_le->zFl,max?->zFm,max?_eq_some_iff->zFn,singleton_append->zFo,getElem_toArray->zFu,mem_of_mem_drop->zFv,filter_eq_self->zGD,filter_filter->zGL,set_cons_succ->zGM,set_cons_zero->zGN,take_add_one->zGU,flatMap_nil->zGZ,mem_reverse->zG0,head?_cons->zG7,length_zip->zG8,drop_drop->zGg,any_cons->zGq
open List.Pairwise renaming nil->zEr
open List.Perm renaming refl->zBo,swap->zET,append_left->zEs
open List.Sublist renaming refl->zFG
open Nat renaming le_refl->zAL,lt_of_lt_of_le->zAY,zero_le->zAc,le_trans->zAe,ne_of_lt->zAf,lt_irrefl->zB7,le_of_lt->zB9,le_of_ble_eq_true->zCi,min_eq_left->zDd,ne_of_gt->zDe,pow_le_pow_right->zDm,le_succ->zDy,not_lt->zEU,le_of_eq->zE3,min_self->zE4,mul_comm->zE5,le_max_right->zEb,lt_succ_self->zEc,min_eq_right->zEd,le_max_left->zEv,add_assoc->zF4,sub_self->zFw,sub_zero->zFx,le_add_right->zG9,le_of_not_lt->zGa,not_lt_zero->zGh,mul_le_mul->zGr,max_assoc->zHF
open Nat.succ renaming inj->zFH
open Ne renaming symm->zCf
open Option renaming bind_some->zBK,map_some->zCp,getD_none->zEP,none->zGs
open Option.some renaming inj->zAg,injEq->zCA
open Or renaming inr->zBG,inl->zBj
open Prod renaming ext->zEf,fst->zGO,snd->zGt
open Prod.mk renaming injEq->zEw
open PyProof.Rows renaming slot_tuple_getitem->zBI,IntsAre->zB6,KeyOrd->zBr,seqObj->zBu,envOfC->zCV,callWith_type1->zC9,SortSt->zCl,kindOf->zCm,SortKind->zCq,AllBare->zDw,lt_int->zEq,failedOf->zFV,get?_update_seq->zF9,pendingOf->zFb,sortedHeap->zGF,listUpdate_at->zGR,subscriptTail_builtinR->zGY,entry_tuple_getitem->zGi,seqEpoch_at->zGl,args_tuple_getitem->zGv
open PyProof.Rows.IsTup renaming new->zDx
open PyProof.Rows.KeyOrd renaming kle_refl->zCT,kle_trans->zDV,kle_of_klt->zEG,kle_antisymm->zFh
open PySem renaming Shared->zAB,wpAny_bind->zAI,sizeLine->zAN,Program->zAP,mainGlobals->zA1,starEach->zA2,wpAny_pure->zA6,Around->zA7,mem_of_lookup->zAd,FuncData->zAh,bootBuiltins->zAn,compareOp->zBO,call_meets->zBQ,wpAny_mono->zB5,sliceBounds->zBe,binaryOp->zBg,behindInMarks->zBk,wpAny_Call_Name_kw->zBl,assignEach->zBt,wpAny_loadPart_at->zBv,wpAny_newObj_type->zBw,callerA->zCH,backTo->zCI,Arguments->zCJ,Keyword->zCK,sizeLine_eq->zCL,wpAny_loadPart'->zCM,wpAny_passesOwn->zCN,foldedSetIterable->zCP,wpAny_holding->zCQ,wpAny_truthy_bool->zCR,cellsFrom->zCU,wpAny_binaryOp_repeat_ref->zCW,GenState->zCY,attributeBase->zCb,wpAny_callSpecial?_slot->zCc,typeIs_int->zCo,codeAny->zDC,wpAny_call_entry->zDD,NameKind->zDG,holding->zDL,keywordEach->zDM,swapsWith->zDN,wpAny_execs_nil->zDO,wpAny_field->zDP,wpAny_isSubtype_exc->zDQ,wpAny_newFunctionEnv_cells->zDX,wpAny_typeOf->zDY,Builtin->zDb,excClassObj->zDf,noFill_tuple_add->zDh,codeAny_call_function->zEB,codeAny_mono->zEC,letOwnedTupleGo->zED,typeLookup->zEK,wpAny_Name->zEL,wpAny_loadName_local->zEN,IsPart->zEO,Result->zEQ,recursionLimit->zER,wpAny_loadName_cell->zEX,Paired->zEe,backToKw->zEh,codeAmong->zEi,seq_tuple_add->zEj,swappedStores->zEk,swapsWithSole->zEl,wpAny_sequenceKey->zFE,assign->zFJ,SetTable->zFU,DictEntry->zFZ,codeAny_builtin->zF8,getItem->zFa,relabel->zFc,newFunctionEnv->zGA,wpAny_listPart->zGB,closureFor->zGE,sysModules->zGG,BindsTo->zGI,call->zGP,evalPart_none->zGQ,standAt->zGS,seqSlot_of->zGX,PassesOwn->zG1,codeAny_func->zG4,concat_meets->zG5,wpAny_isTrue_Compare1->zG6,codeAny_call_builtin->zGd,newList->zGj,richCompare->zGk,wpAny_loadName_free->zGm,Within->zGu,bindArgs->zGw,builtinsNs->zHJ,defaultsOf->zHK,slot_list_getitem->zHL,slot_list_setitem->zHM,wpAny_call->zHN,wpAny_pyIter_enum->zHO
open PySem.Around renaming frames_deeper->zFW,under_plainId->zFX
open PySem.Builtin.List renaming listTooLong->zCF,listUpdate->zCv,listSubscript?->zDq,listAllItems->zEF
open PySem.Builtin.Range renaming rangeSize->zBW,small->zC6,rangeFitsLong->zDj
open PySem.Builtin.Slice renaming slicePlaces->zCD,sliceAdjust->zCh,sliceApplied->zDr,sliceFields->zGy,slicePartIndex->zGz
open PySem.Builtin.Tuple renaming tupleExact->zBP,tupleItemsOf->zDs,tupleTooMany->zDt,tupleCompareSizes->zHA,tupleHashOf->zHB,tupleIsExact->zHC
open PySem.Calls renaming Name_function_global->zEm,callWith_builtin->zFR,evalArgs_plain->zFe
open PySem.CmpOp renaming NotIn->zHD
open PySem.Data renaming seq->zGo
open PySem.F renaming plainAttrs_list->zBF,args_tuple_add_2->zBY,entry_tuple_add->zB3,slot_tuple_add->zBa,slot_int_rmul->zBq,slot_list_extend->zCX,slot_tuple_mul->zCr,type_list_extend->zDH,args_int_rmul_2->zDZ,entry_int_rmul->zD4,slot_int_index->zD5,fills_int_mul->zDk,typeOf_object_class->zDl,args_tuple_mul_2->zES,entry_tuple_mul->zE8,plain_list_iadd->zEx,slot_list_count->zEy,slot_list_index->zEz,slot_list_append->zFf,slot_gs_get->zFt,slot_enumerate_next->zGJ,slot_list_pop->zGK,slot_tuple_eq_refl->zGT,slot_tuple_rmul->zGf,sub_tuple_dict->zGp
open PySem.Heap renaming get?_push_of_some->zAG,lt_size->zAV,get?_push_size->zAa,size_push->zCa,get?_update_ne->zCw,get?_update_other->zF0,SameBut->zFg,FlyingW->zHE
open PySem.Heap.IsSliceOf renaming new->zE9
open PySem.IsL renaming isList->zFp
open PySem.NameKind renaming free->zBc,cell->zCe
open PySem.Obj renaming mapSeq->zCC
open PySem.Paired renaming length->zGb
open PySem.SeqAt renaming EqAt->zCG
open PySem.SeqAt.EqAt renaming of_refs->zDa,same->zEJ,bool_bool->zFB,int_int->zFN,int_str->zFO,str_int->zFP
open PySem.SeqAt.RcAt renaming lists_lengths->zEW,tuples->zFT,lists->zF7
open PySem.Str renaming ofString->zE6
open PySem.Value renaming ref->zBH,none->zBZ,type->zBz,bool->zC8,builtin->zDW,int->zD3,notImplemented->zFr,str->zG3,float->zHI
open PySem.W renaming Frag->zAA,mg_of->zA8,nsIn->zA9,mg_none_of->zAm,kia_one->zAr,findIn->zAs,emptyDict->zBN,keepIn->zBR,fnOf->zBU,kitOne->zB4,hideAll->zB8,instObj->zBi,hideAll_get->zBn,tabObj->zBs,kla_obj->zCE,envX->zCO,cellsFrom_some->zC4,codeIn->zC5,looks_findIn->zCg,of_hideAll->zDB,codeHdIn->zDS,kas_rev->zD0,hideAll_none->zD1,hideAll_size->zD2,lookIn->zD9,Looks->zDn,callWith_K->zDo,codeRec_of->zDp,kitx_dict->zDz,methodObj->zEA,plainGet->zEM,OpenLaw->zEV,kla_fn->zEg,excIn->zFA,funFrames_hide->zFI,KasT->zFM,codeHd_of_K->zF5,plainGet_of->zF6,kitx_tuple->zFq,kas_place->zFy,kitx_list->zFz,CodeHd->zGV,InstAt->zGW,WalkO->zG2,isFn->zGc
open PySem.W.Looks renaming ld->zHG,now->zHH
open Sum renaming inl->zFC,inr->zFD
open True renaming intro->zDT
noncomputable section
namespace PySem.W.Fast
def tw7737170970057335869:=0
def tw12016660883754603037:=0
def tw6950959024458768701:=0
def tw13575602686445293949:=0
def tw2973225297311576573:=0
def tw11636452856387403677:=0
def tw17134335746551239293:=0
def tw14438778688334116477:=0
def tw16617289939233266653:=0
def tw7747931261099848861:=0
def tw694367098721687524:=0
def tw3893605913614285796:=0
def tw18001804526727584804:=0
def tw17131398695122706468:=0
def tw16364532260165325284:=0
def tw17618693030383772196:=0
def tw9740827186166556260:=0
def tw10637255186058973252:=0
def tw13955060284072290223:=0
def tw17708396006819632239:=0
def tw7814141766271303759:=0
def tw12368659589691783663:=0
def tw18364628784323521007:=0
def tw3086728509488678447:=0
def tw7208259949416273711:=0
def tw16639611151462898806:=0
def tw344356192891211350:=0
def tw7365855661211238710:=0
def tw4294413120962783958:=0
def tw14382318097949518262:=0
def tw17647098571712800534:=0
def tw6578109386337029014:=0
def tw13748546539391891478:=0
def tw5133048518377077494:=0
def tw2744155857939006198:=0
def tw2212679285288035126:=0
def tw2127137732774572854:=0
def tw896441568915007585:=0
def tw15852211362965858817:=0
def tw11672960732522401185:=0
def tw16700617126479819233:=0
def tw15828988627196154753:=0
def tw14333236873482107553:=0
def tw11215882297703162881:=0
def tw3794719486122750977:=0
def tw677699018981637985:=0
def tw12979438643211047105:=0
def tw1799016474183127224:=0
def tw3571576663083821592:=0
def tw3617075791026608376:=0
def tw13124587590307721880:=0
def tw8266517816723285848:=0
def tw13788954855603429272:=0
def tw6266723411669224056:=0
def tw6173495652042162200:=0
def tw1914411976731582328:=0
def tw5305387112287385587:=0
def tw6244392960600596243:=0
def tw14164137200011857075:=0
def tw14882901615027082259:=0
def tw1575755654501387411:=0
def tw10570117782771807859:=0
def tw972670753448315507:=0
def tw9618725069662820691:=0
def tw5264781810301875891:=0
def tw7683311116670229299:=0
def tw15718604378366741299:=0
def tw17687895279117248650:=0
def tw12509318935839730666:=0
def tw11271489567930362378:=0
def tw6272179113925542474:=0
def tw8890229304357594826:=0
def tw8132309607071784362:=0
def tw14576058716329145226:=0
def tw13744410974087143018:=0
def tw4625964794119168746:=0
def tw6938659469442671690:=0
def tw12853251776229293653:=0
def tw7737752585643866773:=0
def tw12376630907127796501:=0
def tw17878355802336595381:=0
def tw2597986741476153909:=0
def tw9478534979297613493:=0
def tw6407500263324580661:=0
def tw10862536476151407477:=0
def tw10329647562514282012:=0
def tw4634763515460739452:=0
def tw13407017660544261020:=0
def tw11737066346860071900:=0
def tw16693377380765925052:=0
def tw10800608289933700188:=0
def tw12885149030025805756:=0
def tw9907034358703375644:=0
def tw17032231436860870567:=0
def tw8257867213947593095:=0
def tw4795197829862567367:=0
def tw12989920125568176647:=0
def tw1291017463207744071:=0
def tw4495308904230193735:=0
def tw6770471541439282599:=0
def tw667678867639196071:=0
def tw10285823765876622087:=0
def tw4425027667903723271:=0
def tw15222302327496507143:=0
def tw2702498429014696423:=0
def tw1770614735496313863:=0
def tw16451473015052687079:=0
def tw6053293031758173422:=0
def tw7295140972479726894:=0
def tw15107336958436949134:=0
def tw3337724873777191470:=0
def tw1073697334754329326:=0
def tw11742940219444662062:=0
def tw5841099930290228078:=0
def tw5551765446581179417:=0
def tw3327270497844538169:=0
def tw4832581934119953625:=0
def tw5063657583610811609:=0
def tw10041371912626932121:=0
def tw8824094944068185561:=0
def tw8260560906408950969:=0
def tw7335470457802645689:=0
def tw8659833009150719225:=0
def tw5621954293775071481:=0
def tw7973961815412189785:=0
def tw4272412306631764281:=0
def tw11453782525339400368:=0
def tw15806134236778494864:=0
def tw10667368442128844016:=0
def tw6866339412648519984:=0
def tw9471996465652581456:=0
def tw5575680203238669040:=0
def tw7731845183909189328:=0
def tw7512267784913064171:=0
def tw3641988853266134155:=0
def tw13543746213079908683:=0
def tw8363156377955630411:=0
def tw2582825078216567659:=0
def tw13468731264905093163:=0
def tw12678276951666995019:=0
def tw13794854220545936267:=0
def tw13544298111194642658:=0
def tw10123191755827244610:=0
def tw1146263860633946402:=0
def tw727090130800755330:=0
def tw4133061438943520706:=0
def tw13264563548072530946:=0
def tw6739256378375705314:=0
def tw16250165872481498242:=0
def tw13346119750854536386:=0
def tw8956732548673102882:=0
def tw18357231445019666818:=0
def tw9295401397144941954:=0
def tw1223345543753380962:=0
def tw11013080784538918125:=0
def tw8754894021695479821:=0
def tw2576724505355286957:=0
def tw6770342386329073133:=0
def tw6703120346751921709:=0
def tw3015438800718201101:=0
def tw13034275976633710189:=0
def tw994776946501208749:=0
def tw15593599012418267533:=0
def tw15402849339608867565:=0
def tw9489959033587047213:=0
def tw15669225185760985005:=0
def tw15220201824872108685:=0
def tw7057710216766057101:=0
def tw11770671931034852333:=0
def tw16219924229624296493:=0
def tw7347966841850684461:=0
def tw14013443541516729453:=0
def tw4253222227074335853:=0
def tw1160232680044149581:=0
def tw15750190928096969844:=0
def tw12159522062879952724:=0
def tw2399550075570034164:=0
def tw14697657377774627284:=0
def tw10659097904588113492:=0
def tw17020091842702509652:=0
def tw16633808171746769908:=0
def tw14442854847775973343:=0
def tw2004068773455987103:=0
def tw15899672485578545951:=0
def tw11361278467890106943:=0
def tw4559683841279081638:=0
def tw10811129178455752198:=0
def tw1274588842462577286:=0
def tw17302724824798256614:=0
def tw5941501149519553350:=0
def tw675587719522873958:=0
def tw2670412306502320070:=0
def tw4897016589784466438:=0
def tw462506553771826246:=0
def tw14303373746874915974:=0
def tw1888060707534630758:=0
def tw3506370102568345990:=0
def tw12996612506019527089:=0
def tw17518302420477795729:=0
def tw1643207840716992913:=0
def tw8245250172850228209:=0
def tw16059363345770265649:=0
def tw1688563351894240369:=0
def tw12378350959424603985:=0
def tw6333175292324143560:=0
def tw7969618037018820840:=0
def tw9090655054289121640:=0
def tw9018537502385578408:=0
def tw9332076978408344392:=0
def tw9111761948081903144:=0
def tw7673049741609262696:=0
def tw10025249172488511432:=0
def tw10863097986432479912:=0
def tw7198786790151084168:=0
def tw17213806118749433768:=0
def tw10405516607637403976:=0
def tw10184615558619938883:=0
def tw6063851681697567523:=0
def tw4039505394691188995:=0
def tw6866482426606741475:=0
def tw11850124394510559203:=0
def tw15560201428260319555:=0
def tw13854012104154157443:=0
def tw17003053465708591459:=0
def tw10260544698600065443:=0
def tw6335188827966584579:=0
def tw12972366454743478755:=0
def tw3938337316796071747:=0
def tw14345319050647524154:=0
def tw5976207743049320250:=0
def tw9205831010257077306:=0
def tw17054367689429502010:=0
def tw118448309871609018:=0
def tw12921392192013792794:=0
def tw11324981719540324890:=0
def tw14458085020065836634:=0
def tw7441907091300572826:=0
def tw13428650718692961786:=0
def tw15001921032703784506:=0
def tw11658487378755347418:=0
def tw228967686855381690:=0
def tw8753840311868221093:=0
def tw4227245023883113669:=0
def tw16426061644237080485:=0
def tw5434677774776300869:=0
def tw3330321820166040965:=0
def tw10098402808900638885:=0
def tw17403062938999545125:=0
def tw5662686709985507013:=0
def tw2105295158605326021:=0
def tw11343192862757566277:=0
def tw9000743426270138245:=0
def tw13558007909646037548:=0
def tw16674206993398322988:=0
def tw7889521046490675052:=0
def tw10633943955507988172:=0
def tw8769406825800113932:=0
def tw14245866561110669484:=0
def tw13112274521430951820:=0
def tw15207319661431291116:=0
def tw9755539351408376887:=0
def tw4096720314056007063:=0
def tw6317544228015779319:=0
def tw15906642832490971287:=0
def tw6471152967580960919:=0
def tw568755001722705726:=0
def tw9473696650414437502:=0
def tw11746476201816701118:=0
def tw5867950380528785598:=0
def tw5461332410592878110:=0
def tw18366647791603458302:=0
def tw54188482036562718:=0
def tw13343340774090814366:=0
def tw13547148776094085214:=0
def tw8702319097343778761:=0
def tw8850677554030216393:=0
def tw8568955917124585673:=0
def tw3534297304852258857:=0
def tw6264400626579400809:=0
def tw3897189150500469865:=0
def tw17095770480960280809:=0
def tw10048095609230247753:=0
def tw6667278345436965417:=0
def tw2215302626033575808:=0
def tw2013229996337113312:=0
def tw7755336421489060800:=0
def tw12055600407609353280:=0
def tw6271688203642834528:=0
def tw12502695117321618144:=0
def tw4786683663313870752:=0
def tw11032607114720956320:=0
def tw527569275686048512:=0
def tw77952750667081659:=0
def tw14563607549523778555:=0
def tw18445765672077660507:=0
def tw14472058562385128859:=0
def tw13919974158432968219:=0
def tw18324199007991331483:=0
def tw1116744017113418107:=0
def tw17043327736402228603:=0
def tw8341830543420014011:=0
def tw1509553078527161787:=0
def tw8144443307261621819:=0
def tw12528727939918677691:=0
def tw10763527343634013947:=0
def tw13718568305678057211:=0
def tw13382320457956485275:=0
def tw8564012501658240891:=0
def tw16587869772144584242:=0
def tw5998875033524559186:=0
def tw14241389154007888562:=0
def tw7957963749892841874:=0
def tw1618419090499965394:=0
def tw5469125437401473682:=0
def tw13185658838595052242:=0
def tw9460212358055317330:=0
def tw2591050885866217298:=0
def tw4421101843843200914:=0
def tw7427556947075075378:=0
def tw14188686346397789266:=0
def tw3625478634567810482:=0
def tw17207335625529555570:=0
def tw17814438177854369268:=0
end PySem.W.Fast
abbrev gX:=List (Int×Int)
abbrev gV:=List (List Int)
abbrev hV:=List (PySem.Addr×PySem.Obj)
abbrev iX:=List (Option Nat)
set_option bootstrap.genMatcherCode false
set_option compiler.extract_closed false
set_option Elab.async false
set_option linter.all false
set_option maxRecDepth 100000
namespace L2
open PySem PySem.Spec PyProof.Rows
abbrev Key:=Sum Int Str
def aGt:Key->Value->Bool
 | .inl k,v=>Value.isInt k v
 | .inr x,v=>Value.isStrOf x v
def aJz(w:World):Key->Int
 | .inl k=>hashInt k
 | .inr x=>hashStr w x
def cQ:∀{k:Key} {v:Value},aGt k v=true->(∃i t,k=zFC i/\v=zD3 i t)\/(∃x t,k=zFD x/\v=zG3 x t)
 | .inl i,v,h=>by
  obtain⟨t,e⟩:=Value.isInt_shape (k:=i) (v:=v) h;exact .inl ⟨i,t,rfl,e⟩
 | .inr x,v,h=>by
  obtain⟨t,e⟩:=Value.isStrOf_shape (x:=x) (v:=v) h;exact .inr ⟨x,t,rfl,e⟩
def aIO(a b:Int):decide ((zFC a:Key)=zFC b)=(a==b):=by
 by_cases e:a=b
 .subst e;simp
 .have h:¬(zFC a:Key)=zFC b:=λ q=>e (Sum.inl.inj q)
  rw[decide_eq_false h];exact(beq_eq_false_iff_ne.mpr e).symm
def aIL(a b:Str):decide ((zFD a:Key)=zFD b)=decide (a=b):=by
 by_cases e:a=b
 .subst e;simp
 .have h:¬(zFD a:Key)=zFD b:=λ q=>e (Sum.inr.inj q)
  rw[decide_eq_false h,decide_eq_false e]
def aIN(a:Int)(b:Str):decide ((zFC a:Key)=zFD b)=false:=decide_eq_false (λ q=>nomatch q)
def aIM(a:Str)(b:Int):decide ((zFD a:Key)=zFC b)=false:=decide_eq_false (λ q=>nomatch q)
def xH(prog:zAP)(w:World):PySem.KeyKind prog w Key where
 is:=aGt
 hash:=aJz w
 inj:=λ v a b ha hb=>by
  rcases cQ ha with ⟨i,t,rfl,rfl⟩|⟨x,t,rfl,rfl⟩
  .rcases cQ hb with ⟨j,u,rfl,e⟩|⟨y,u,rfl,e⟩
   .injection e with e1 _;rw[e1]
   .exact nomatch e
  .rcases cQ hb with ⟨j,u,rfl,e⟩|⟨y,u,rfl,e⟩
   .exact nomatch e
   .injection e with e1 _;rw[e1]
 byValue:=λ k v h=>by
  rcases cQ h with ⟨i,t,rfl,rfl⟩|⟨x,t,rfl,rfl⟩<;>rfl
 pyHash:=λ hv h=>by
  rcases cQ hv with ⟨i,t,rfl,rfl⟩|⟨x,t,rfl,rfl⟩
  .exact wpAny_pyHash_int h
  .exact wpAny_pyHash_str h
 eqBool:=λ hu hv h=>by
  rcases cQ hu with ⟨i,t,rfl,rfl⟩|⟨x,t,rfl,rfl⟩
  .rcases cQ hv with ⟨j,u,rfl,rfl⟩|⟨y,u,rfl,rfl⟩
   .rw[aIO]at h;exact wpAny_eqBool_int h
   .rw[aIN]at h;exact zFO i t y u _ _ _ _ h
  .rcases cQ hv with ⟨j,u,rfl,rfl⟩|⟨y,u,rfl,rfl⟩
   .rw[aIM]at h;exact zFP x t j u _ _ _ _ h
   .rw[aIL]at h;exact wpAny_eqBool_str h
 «strs»:=λ k x t v h=>by
  rcases cQ h with ⟨i,u,rfl,e⟩|⟨y,u,rfl,e⟩
  .exact nomatch e
  .injection e with e1 _
   subst e1;cases v<;>rfl
inductive V where
 |non|bl (b:Bool)|int (i:Int)|str (x:Str)|byt (b:Array UInt8)|flt (b:UInt64)|ref (a:Addr)|ty (n:String)
 deriving DecidableEq
def RelV:V->Value->Prop
 | .non,u=>u=zBZ
 | .bl b,u=>u=zC8 b
 | .int i,u=>∃t,u=zD3 i t
 | .str x,u=>∃t,u=zG3 x t
 | .byt b,u=>∃t,u=Value.bytes b t
 | .flt b,u=>∃t,u=zHI b t
 | .ref a,u=>u=zBH a
 | .ty n,u=>u=zBz n
abbrev Vals:List V->List Value->Prop:=zEe RelV
theorem Vals.length(r:Vals xs us):xs.length=us.length:=zGb r
theorem Vals.get:∀{xs:List V} {us:List Value} {i:Nat} {x:V},Vals xs us->xs[i]? =some x->∃u,us[i]? =some u/\RelV x u
 |_,_,_,_,.nil,e=>by simp at e
 |_,_,0,_,.cons r _,e=>by simp at e;subst e;exact⟨_,rfl,r⟩
 |_,_,i+1,x,.cons _ t,e=>by
  obtain⟨u,h1,h2⟩:=Vals.get (i:=i) (x:=x) t (by simpa using e);exact⟨u,by simpa using h1,h2⟩
theorem Vals.append:∀{xs ys:List V} {us ws:List Value},Vals xs us->Vals ys ws->Vals (xs++ys) (us++ws)
 |_,_,_,_,.nil,s=>s
 |_,_,_,_,.cons r t,s=>.cons r (Vals.append t s)
theorem Vals.take:∀{xs:List V} {us:List Value} (n:Nat),Vals xs us->Vals (xs.take n) (us.take n)
 |_,_,0,_=>.nil
 |_,_,_+1,.nil=>.nil
 |_,_,n+1,.cons r t=>.cons r (Vals.take n t)
theorem Vals.drop:∀{xs:List V} {us:List Value} (n:Nat),Vals xs us->Vals (xs.drop n) (us.drop n)
 |_,_,0,r=>r
 |_,_,_+1,.nil=>.nil
 |_,_,n+1,.cons _ t=>Vals.drop n t
def aC0:Option V->Option Value->Prop
 |some v,some u=>RelV v u
 |none,none=>True
 |_,_=>False
def KV{κ:Type}:List (κ×V)->List (κ×Value)->Prop:=zEe λ(p:κ×V) (q:κ×Value)=>p.1=q.1/\RelV p.2 q.2
def kV:Key->V
 | .inl i=>.int i
 | .inr x=>.str x
inductive HO where
 |lst (xs:List V)
 |tup (xs:List V)
 |dK (kvs:List (Key×V))|dT (kvs:List (List Key×V))
 |set (S:Int->Bool) (n:Nat)
 |ins (C dx:Addr) (fs:List (Str×V))
 |own (x:Addr)
 |xd (fs:List (Str×V))
 |met (f x:Addr)
 |rng (lo hi:Int)
 |frz (o:Obj) (u:HO)
 |tbl (q:Str)
 |ext (φ:Heap->Prop)
abbrev Hp:=Addr->Option HO
def upd(H:Hp)(a:Addr)(o:HO):Hp:=λ b=>if b=a then some o else H b
def ak:upd H a o a=some o:=by unfold upd;rw[if_pos rfl]
def aU(h:b≠a):upd H a o b=H b:=by unfold upd;rw[if_neg h]
def bD{H:Hp}{a b:Addr}{o:HO}(h:H a=some o)(h':H b=none):a≠b:=by
 intro e;subst e;rw[h]at h';cases h'
def NoD(h:Heap)(a:Addr):Prop:=∀o,h.get? a=some o->o.dict=none
theorem NoD.push(h:Heap){o:Obj}(hl:o.isFreed=false:=by rfl)(hd:o.dict=none:=by rfl):NoD (h.push o) h.objs.size:=λ u e=>by rw[zAa _ hl]at e;cases e;exact hd
def NoD.keep{h h':Heap}{a:Addr}{o:Obj}(n:NoD h a)(e:h.get? a=some o)(e':h'.get? a=some o):NoD h' a:=λ u q=>by rw[e']at q;cases q;exact n o e
section
variable{H H':Hp}
def aHB(q:Str)(oc:Obj):Prop:=∃vs t,oc.data= .fields vs/\vs[1]? =some (.str q t)
def TabOk(q:Str)(H:Hp)(ps:Array Value):Prop:=TriplesOk ps.toList/\∀pos cv,zEi pos ps.toList=some cv->∃c' oc,cv= .ref c'/\H c'=some (.frz oc (.own c'))/\aHB q oc
def TabOk.mono(t:TabOk q H ps)(f:∀b o u,H b=some (.frz o u)->H' b=some (.frz o u)):TabOk q H' ps:=⟨t.1,λ pos cv hc=>let⟨c',oc,z,a,b⟩:=t.2 pos cv hc;⟨c',oc,z,f _ _ _ a,b⟩⟩
end
section
variable(P:zAP)(w:World)
def dC(H:Hp)(h:Heap)(a:Addr):HO->Prop
 | .lst xs=>xs.length<=zAN/\∃(its:List Value) (n:Nat),Vals xs its/\h.get? a=some {cls:=.type "list",data:=.seq its.toArray n}
 | .tup xs=>(xs.length<=zAN/\NoD h a)/\∃its:List Value,Vals xs its/\IsTup h a its.toArray
 | .dK kvs=>kvs.length<=zAN/\(a==zGG)=false/\∃vs,KV kvs vs/\h.DictOf (xH P w) a vs
 | .dT kvs=>kvs.length<=zAN/\(a==zGG)=false/\∃xs:List (List Key×Addr×Value),
   zEe (λ(p:List Key×V) (q:List Key×Addr×Value)=>p.1=q.1/\H q.2.1=some (.tup (p.1.map kV))/\RelV p.2 q.2.2) kvs xs/\
   ∃o es ep,h.get? a=some o/\o.ExactDict/\o.data= .dict es ep/\es.toList=xs.map (entryOfKey (tupleKind (xH P w)))/\(xs.map (·.1)).Nodup
 | .set S n=>h.SetOf (intKind P w) a S n
 | .ins C dx fs=>H dx=some (.own a)/\fs.length<=1000/\dx≠a/\h.get? a=some (zBi C dx)/\
   ∃mA,h.Ns1 dx mA/\(∀f,aC0 (fs.lookup f) (mA f))/\zGu mA (fs.map (·.1))
 | .own _=>∃o,h.get? a=some o
 | .xd fs=>∃mA,h.Ns1 a mA/\∀f,aC0 (fs.lookup f) (mA f)
 | .rng lo hi=>∃t u v,h.get? a=some {cls:=.type "range",data:=.fields #[.int lo t,.int hi u,.int 1 v]}
 | .frz o u=>h.get? a=some o/\dC H h a u
 | .tbl q=>∃ps,h.get? a=some {cls:=.none,data:=.fields ps}/\TabOk q H ps
 | .met f x=>h.get? a=some (zEA (.ref f) (.ref x))
 | .ext φ=>φ h/\(∃o,h.get? a=some o)/\∀h1 h2:Heap,φ h1->(∀o,h1.get? a=some o->h2.get? a=some o)->φ h2
def HOk(H:Hp)(h:Heap):Prop:=∀a o,H a=some o->dC P w H h a o
end
section
variable{P:zAP}{w:World}{H H':Hp}{h h':Heap}{a:Addr}{o:HO}
theorem dC.lt(x:dC P w H h a o):a<h.objs.size:=by
 cases o with
 |lst xs=>obtain⟨_,_,_,_,e⟩:=x;exact zAV e
 |tup xs=>obtain⟨_,_,_,p⟩:=x;exact p.lt
 |dK kvs=>obtain⟨_,_,_,_,o,_,_,e,_⟩:=x;exact zAV e
 |dT kvs=>obtain⟨_,_,_,_,o,_,_,e,_⟩:=x;exact zAV e
 |set S n=>obtain⟨o,_,_,_,e,_⟩:=x;exact zAV e
 |ins C dx fs=>obtain⟨_,_,_,e,_⟩:=x;exact zAV e
 |own y=>obtain⟨_,e⟩:=x;exact zAV e
 |xd fs=>obtain⟨_,⟨_,_,_,e,_⟩,_⟩:=x;exact zAV e
 |rng lo hi=>obtain⟨_,_,_,e⟩:=x;exact zAV e
 |frz ob u=>obtain⟨e,_⟩:=x;exact zAV e
 |tbl q=>obtain⟨ps,e,_⟩:=x;exact zAV e
 |met f y=>exact zAV (show h.get? a=some _ from x)
 |ext φ=>obtain⟨_,⟨_,e⟩,_⟩:=x;exact zAV e
theorem Paired.mapP:∀{l₁:List α} {l₂:List β},zEe F l₁ l₂->(∀a b,F a b->G a b)->zEe G l₁ l₂
 |_,_,.nil,_=>.nil
 |_,_,.cons r t,f=>.cons (f _ _ r) (Paired.mapP t f)
def dC.stay(x:dC P w H h a o)(k:∀b u,(b=a\/H b=some (.own a))->h.get? b=some u->h'.get? b=some u)
  (ho:∀b,H b=some (.own a)->H' b=some (.own a))(ht:∀b xs,H b=some (.tup xs)->H' b=some (.tup xs))(hz:∀b o u,H b=some (.frz o u)->H' b=some (.frz o u):=by exact λ _ _ _ q=>q):dC P w H' h' a o:=by
 induction o with
 |lst xs=>obtain⟨z,its,n,r,e⟩:=x;exact⟨z,its,n,r,k _ _ (.inl rfl) e⟩
 |tup xs=>obtain⟨z,its,r,ob,e,c⟩:=x;exact⟨⟨z.1,z.2.keep e (k _ _ (.inl rfl) e)⟩,its,r,ob,k _ _ (.inl rfl) e,c⟩
 |dK kvs=>obtain⟨z,y,vs,r,ob,es,ep,e,c⟩:=x;exact⟨z,y,vs,r,ob,es,ep,k _ _ (.inl rfl) e,c⟩
 |dT kvs=>
  obtain⟨z,y,xs,r,ob,es,ep,e,c⟩:=x;exact⟨z,y,xs,Paired.mapP r λ p q z=>⟨z.1,ht _ _ z.2.1,z.2.2⟩,ob,es,ep,k _ _ (.inl rfl) e,c⟩
 |set S n=>obtain⟨ob,es,ep,t,e,c⟩:=x;exact⟨ob,es,ep,t,k _ _ (.inl rfl) e,c⟩
 |ins C dx fs=>
  obtain⟨d,z,ne,e,mA,⟨od,es,ep,e2,c⟩,r⟩:=x;exact⟨ho _ d,z,ne,k _ _ (.inl rfl) e,mA,⟨od,es,ep,k _ _ (.inr d) e2,c⟩,r⟩
 |own y=>obtain⟨ob,e⟩:=x;exact⟨ob,k _ _ (.inl rfl) e⟩
 |xd fs=>obtain⟨mA,⟨od,es,ep,e,c⟩,r⟩:=x;exact⟨mA,⟨od,es,ep,k _ _ (.inl rfl) e,c⟩,r⟩
 |rng lo hi=>obtain⟨t,u,v,e⟩:=x;exact⟨t,u,v,k _ _ (.inl rfl) e⟩
 |frz ob u ih=>obtain⟨e,q⟩:=x;exact⟨k _ _ (.inl rfl) e,ih q⟩
 |tbl q=>
  obtain⟨ps,e,t⟩:=x;exact⟨ps,k _ _ (.inl rfl) e,t.mono hz⟩
 |met f y=>
  have e:h.get? a=some (zEA (.ref f) (.ref y)):=x;show h'.get? a=some (zEA (.ref f) (.ref y));exact k a _ (.inl rfl) e
 |ext φ=>obtain⟨p,⟨o,e⟩,st⟩:=x;exact⟨st _ _ p λ o q=>k _ _ (.inl rfl) q,⟨o,k _ _ (.inl rfl) e⟩,st⟩
theorem HOk.lt(x:HOk P w H h)(e:H a=some o):a<h.objs.size:=(x a o e).lt
def HOk.fresh(x:HOk P w H h)(e:h.objs.size<=a):H a=none:=by
 cases q:H a with
 |none=>rfl
 |some u=>exact absurd (zAY (x.lt q) e) (zB7 _)
def HOk.kept(x:HOk P w H h)(k:∀b u,h.get? b=some u->h'.get? b=some u):HOk P w H h':=λ a o e=>
 (x a o e).stay (λ b u _ q=>k b u q) (λ _ q=>q) λ _ _ q=>q
def HOk.laid(x:HOk P w H h)(k:∀b u,h.get? b=some u->h'.get? b=some u)(hp:h.objs.size<=a)(new:dC P w (upd H a o) h' a o):HOk P w (upd H a o) h':=λ b u e=>by
 have hn:=x.fresh hp;by_cases hb:b=a
 .subst hb;rw[ak]at e;cases e;exact new
 .rw[aU hb]at e
  exact(x b u e).stay (λ c v _ q=>k c v q) (λ c q=>by rw[aU (bD q hn)];exact q) (λ c xs q=>by rw[aU (bD q hn)];exact q) λ c o' u' q=>by rw[aU (bD q hn)];exact q
end
def Rd(H:Hp)(a:Addr)(u:HO):Prop:=H a=some u\/∃o,H a=some (.frz o u)
def Rd.ok(r:Rd H a u)(x:HOk P w H h):dC P w H h a u:=by
 rcases r with r|⟨o,r⟩
 .exact x a u r
 .obtain⟨_,q⟩:=x a _ r
  exact q
def Mut:Option HO->Prop
 |some (.lst _)=>True
 |some (.dK _)=>True
 |some (.dT _)=>True
 |some (.set _ _)=>True
 |some (.ins _ _ _)=>True
 |some (.ext _)=>True
 |_=>False
section
variable{P:zAP}{w:World}{H:Hp}{h h':Heap}{x e:Addr}{o':HO}
def HOk.write(ok:HOk P w H h)(mu:Mut (H x))(he:e=x\/H e=some (.own x))(k:∀b u,b≠e->h.get? b=some u->h'.get? b=some u)(heo:∃u,h'.get? e=some u)
  (new:dC P w (upd H x o') h' x o'):HOk P w (upd H x o') h':=λ b u q=>by
 have nown:∀c y,H c=some (.own y)->c≠x:=λ c y r z=>by subst z;rw[r]at mu;exact mu
 have ntup:∀c xs,H c=some (.tup xs)->c≠x:=λ c xs r z=>by subst z;rw[r]at mu;exact mu
 by_cases hb:b=x
 .subst hb;rw[ak]at q;cases q;exact new
 .rw[aU hb]at q
  by_cases hbe:b=e
  .have q':H b=some (.own x):=by
    rcases he with z|z
    .exact absurd (hbe.trans z) hb
    .rw[hbe];exact z
   rw[q]at q';cases q';obtain⟨v,hv⟩:=heo;exact⟨v,by rw[hbe];exact hv⟩
  .refine(ok b u q).stay (λ c v hc r=>k c v ?_ r) (λ c r=>by rw[aU (nown c b r)];exact r) (λ c xs r=>by rw[aU (ntup c xs r)];exact r) λ c o2 u2 r=>by rw[aU λ z=>by subst z;rw[r]at mu;exact mu];exact r
   rcases hc with rfl|hc
   .exact hbe
   .rintro rfl
    rcases he with z|z
    .exact nown c b hc z
    .rw[hc]at z;cases z;exact hb rfl
end
structure Un(fs ex:List Addr)(H H':Hp)(h h':Heap):Prop where
 keep:∀b o,h.get? b=some o->H b=none->b∉fs->b∉ex->h'.get? b=some o
 slot:∀b o,h.get? b=some o->H b=none->b∈fs->b∉ex->∃sl,h'.get? b=some {o with slots:=sl}
 free:∀b o,h.get? b=some o->H b=none->b∉ex->H' b=none
 there:∀b o,h.get? b=some o->b∉ex->∃o',h'.get? b=some o'
 tups:∀b xs,H b=some (.tup xs)->H' b=some (.tup xs)
 frzs:∀b o u,H b=some (.frz o u)->H' b=some (.frz o u)
 tbls:∀b q,H b=some (.tbl q)->H' b=some (.tbl q)
section
variable{fs fs' ex ex':List Addr}{H H1:Hp}{h h1 h':Heap}{a x e:Addr}{o:HO}
def Un.any(u:Un fs ex H H1 h h1)(q:h.get? b=some ob)(n:H b=none)(hx:b∉ex):∃sl,h1.get? b=some {ob with slots:=sl}:=by
 by_cases hb:b∈fs
 .exact u.slot b ob q n hb hx
 .exact⟨ob.slots,u.keep b ob q n hb hx⟩
def Un.kept(k:∀b u,h.get? b=some u->h'.get? b=some u):Un fs ex H H h h':=
 ⟨λ b ob q _ _ _=>k b ob q,λ b ob q _ _ _=>⟨ob.slots,k b ob q⟩,λ _ _ _ n _=>n,λ b ob q _=>⟨ob,k b ob q⟩,λ _ _ q=>q,λ _ _ _ q=>q,λ _ _ q=>q⟩
def Un.refl:Un fs ex H H h h:=Un.kept λ _ _ q=>q
def Un.laid(k:∀b u,h.get? b=some u->h'.get? b=some u)(hp:h.objs.size<=a)(hn:H a=none):Un fs ex H (upd H a o) h h' where
 keep:=λ b u q _ _ _=>k b u q
 slot:=λ b u q _ _ _=>⟨u.slots,k b u q⟩
 free:=λ b u q n _=>by rw[aU (zAf (zAY (zAV q) hp))];exact n
 there:=λ b u q _=>⟨u,k b u q⟩
 tups:=λ b xs q=>by rw[aU (bD q hn)];exact q
 frzs:=λ b u xs q=>by rw[aU (bD q hn)];exact q
 tbls:=λ b r q=>by rw[aU (bD q hn)];exact q
def Un.write(mu:Mut (H x))(he:e=x\/H e=some (.own x))(k:∀b u,b≠e->h.get? b=some u->h'.get? b=some u)(heo:∃u,h'.get? e=some u):Un fs ex H (upd H x o) h h':=by
 have hx:∀b,H b=none->b≠x:=λ b n z=>by subst z;rw[n]at mu;exact mu
 have hb:∀b,H b=none->b≠e:=λ b n z=>by
  subst z;rcases he with r|r
  .exact hx b n r
  .rw[n]at r;cases r
 have hm:∀b u,H b=some u->¬Mut (some u)->b≠x:=λ b u q nm z=>by subst z;rw[q]at mu;exact nm mu
 refine⟨λ b u q n _ _=>k b u (hb b n) q,λ b u q n _ _=>⟨u.slots,k b u (hb b n) q⟩,λ b u q n _=>by rw[aU (hx b n)];exact n,λ b u q _=>?_,
  λ b xs q=>by rw[aU (hm b _ q λ z=>z)];exact q,λ b u xs q=>by rw[aU (hm b _ q λ z=>z)];exact q,λ b r q=>by rw[aU (hm b _ q λ z=>z)];exact q⟩
 by_cases hbe:b=e
 .subst hbe;exact heo
 .exact⟨u,k b u hbe q⟩
def Un.mono(u:Un fs ex H H1 h h1)(hs:∀b∈fs,b∈fs')(hx:∀b∈ex,b∈ex'):Un fs' ex' H H1 h h1:=
 ⟨λ b ob q n hb he=>u.keep b ob q n (λ z=>hb (hs b z)) λ z=>he (hx b z),λ _ _ q n _ he=>u.any q n λ z=>he (hx _ z),λ b ob q n he=>u.free b ob q n λ z=>he (hx b z),λ b ob q he=>u.there b ob q λ z=>he (hx b z),u.tups,u.frzs,u.tbls⟩
end
def trk(h:Heap)(H:Hp):List Addr:=(zAj h.objs.size).filter λ a=>(H a).isSome
def aEJ(h:Heap)(H:Hp):Heap:=zB8 h (trk h H)
def aCO(h:Heap)(H:Hp):(aEJ h H).objs.size=h.objs.size:=zD2 _ _
def aEI(e:h.get? b=some o)(n:H b=none):(aEJ h H).get? b=some o:=
 zBn _ e λ hm=>by
  have q:(H b).isSome=true:=(zA0.mp hm).2;rw[n]at q;simp at q
def aF8(e:(aEJ h H).get? b=some o):h.get? b=some o/\H b=none:=by
 have e':h.get? b=some o:=zDB (trk h H) e;refine⟨e',?_⟩;cases q:H b with
 |none=>rfl
 |some x=>
  have hm:b∈trk h H:=zA0.mpr ⟨zAx.mpr (zAV e'),by simp[q]⟩;have z:(aEJ h H).get? b=none:=zD1 (trk h H) hm;rw[z]at e;cases e
def aGZ(g h:Heap)(L:Addr):hV:=(zAj h.objs.size).filterMap λ a=>if a=L\/(g.get? a).isSome=true then none else(h.get? a).map λ o=>(a,o)
def rest(g h:Heap)(L d:Addr):hV:=(aGZ g h L).filter λ p=>decide (p.1≠d)
structure Mod(K:zAA)(mg:Str->Option Value)(base:Heap):Prop where
 kin:K.In base
 glob:base.Ns zA1 mg
 blt:∃mb,base.Ns zHJ mb/\∀x:Str,x≠"__name__"->mb x=zAn x
 nolimit:base.NoLimit
structure Cx where
 prog:zAP
 w:World
 K:zAA
 mg:Str->Option Value
 base:Heap
 A:zA7
 N:List Str
 z5:zAB
 zI:Hp
 env:Env
 outer:List Env
 stack:List Env
 ex:List Addr
 fn:Str->Bool
 calm:Bool
 pn:hV
 xe:Value->zAB->Prop
 ta:hV:=[]
 tq:Str:=""
def frs(l:List Env):List Addr:=l.filterMap (·.frame)
abbrev Cx.fs(X:Cx):List Addr:=frs X.outer
def Vis(sc:Scope)(x:Str):Prop:=sc.names.lookup x=some .local\/sc.names.lookup x=some .cell\/sc.names.lookup x=some .free
def Loc(sc:Scope)(x:Str):Prop:=sc.names.lookup x=some .local\/sc.names.lookup x=some .cell
def Look(env:Env)(h:Heap)(m:Str->Option Value)(x:Str)(u:Value):Prop:=
 (env.kindOf x=some .local/\m x=some u)\/((env.kindOf x=some .cell\/env.kindOf x=some .free)/\∃c,env.cells.lookup x=some c/\h.IsCell c (some u))
structure Cx.Ok(X:Cx):Prop where
 mod:Mod X.K X.mg X.base
 kind:X.env.scope.kind= .function
 glob:X.env.globals=zA1
 blt:X.env.builtins=zHJ
 above:X.z5.heap.objs.size<=X.env.locals
 inj:∀x y c,X.env.cells.lookup x=some c->X.env.cells.lookup y=some c->x=y
 has:∀x,(X.env.kindOf x=some .cell\/X.env.kindOf x=some .free)->∃c,X.env.cells.lookup x=some c
 cab:∀x c,X.fn x=true->X.env.cells.lookup x=some c->X.z5.heap.objs.size<=c
 hd:X.calm=true->X.A.handled=none
 frames:X.A.frames=some X.stack
 stk:X.stack=X.outer\/(X.stack=X.env::X.outer/\X.env.frame=some X.env.locals)
 exf:∀b∈X.ex,b≠X.env.locals/\∀x c,X.env.cells.lookup x=some c->c≠b
 bs:∀b o,X.base.get? b=some o->X.z5.heap.get? b=some o/\X.zI b=none
 bsz:X.base.objs.size<=X.z5.heap.objs.size
 noex:∀b o,X.base.get? b=some o->b∉X.ex
 exfs:∀b∈X.ex,b∉X.fs
 funs:X.z5.heap.FunFrames X.base X.outer
 frf:∀b∈X.fs,X.zI b=none
structure Inv(X:Cx)(kQ:hV)(σ:List (Option V))(H:Hp)(s:zAB):Prop where
 ok:X.Ok
 os:s.os=X.z5.os
 bare:zDw s.gens
 base:Un X.fs X.ex X.zI H X.z5.heap s.heap
 loc:∃m,s.heap.Ns X.env.locals m/\∀(i:Nat) (x:Str) (v:V),X.N[i]? =some x->σ[i]? =some (some v)->Vis X.env.scope x->∃u,RelV v u/\Look X.env s.heap m x u
 cell:∀x c,X.env.cells.lookup x=some c->∃v,s.heap.IsCell c v
 free:H X.env.locals=none
 freeC:∀x c,X.env.cells.lookup x=some c->H c=none
 pin:∀p∈X.pn++kQ,s.heap.get? p.1=some p.2/\H p.1=none/\p.1≠X.env.locals/\p.1∉X.fs/\∀v,p.2.data≠.cell v
 hok:HOk X.prog X.w H s.heap
 len:σ.length=X.N.length
 tab:∀p∈X.ta,H p.1=none/\p.1≠X.env.locals/\p.1∉X.fs/\(∀q∈X.pn++kQ,q.1≠p.1)/\∃ps,s.heap.get? p.1=some {cls:=.none,data:=.fields ps}/\TabOk X.tq H ps
section
variable{X:Cx}{kQ:hV}{σ:List (Option V)}{H H':Hp}{s:zAB}{h':Heap}
def Cx.Ok.nofr(ok:X.Ok)(e:X.base.get? b=some o):b∉X.fs:=λ hb=>by
 have:=(ok.funs.mem hb).1
 rw[e]at this;cases this
theorem Inv.bs(I:Inv X kQ σ H s):∀b o,X.base.get? b=some o->s.heap.get? b=some o/\H b=none:=λ b o e=>
 ⟨I.base.keep b o (I.ok.bs b o e).1 (I.ok.bs b o e).2 (I.ok.nofr e) (I.ok.noex b o e),I.base.free b o (I.ok.bs b o e).1 (I.ok.bs b o e).2 (I.ok.noex b o e)⟩
def Inv.bk(I:Inv X kQ σ H s):∀b o,X.base.get? b=some o->s.heap.get? b=some o:=λ b o e=>(I.bs b o e).1
theorem Inv.mod(I:Inv X kQ σ H s):Mod X.K X.mg X.base:=I.ok.mod
def Inv.kIn(I:Inv X kQ σ H s):X.K.In s.heap:=I.ok.mod.kin.keeps I.bk
def Inv.fr(I:Inv X kQ σ H s):∃m,Fr X.base X.env.locals s.heap m:=
 let⟨m,hn,_⟩:=I.loc
 ⟨m,hn,I.bk,zAe I.ok.bsz I.ok.above⟩
theorem Inv.lt(I:Inv X kQ σ H s):X.env.locals<s.heap.objs.size:=let⟨_,hn,_⟩:=I.loc;hn.lt
def Inv.sz(I:Inv X kQ σ H s):X.z5.heap.objs.size<=s.heap.objs.size:=zAe I.ok.above (zB9 I.lt)
def Inv.nofs(I:Inv X kQ σ H s)(h:s.heap.objs.size<=a):a∉X.fs:=λ hb=>by
 obtain⟨_,o,ho,_⟩:=I.ok.funs.mem hb;exact absurd (zAY (zAV ho) (zAe I.sz h)) (zB7 _)
def Inv.cne(I:Inv X kQ σ H s):∀x c,X.env.cells.lookup x=some c->c≠X.env.locals:=λ x c e z=>by
 obtain⟨v,o,ho,hd⟩:=I.cell x c e;obtain⟨m,⟨o',es,ep,ho',hd',_⟩,_⟩:=I.loc;rw[z,ho']at ho;cases ho;rw[hd']at hd;cases hd
theorem Inv.funs(I:Inv X kQ σ H s):s.heap.FunFrames X.base X.outer:=by
 have all:∀(l:List Env),(∀b∈frs l,b∈X.fs)->X.z5.heap.FunFrames X.base l->s.heap.FunFrames X.base l:=by
  intro l;induction l with
  |nil=>intro _ _;trivial
  |cons env r ih=>
   intro hs hl;obtain⟨hk,⟨L,o,hf,hn,ho,hd⟩,hr⟩:=hl;have hL:L∈X.fs:=hs L (by unfold frs;rw[zBb,hf];exact zAD);obtain⟨sl,e⟩:=I.base.slot L o ho (I.ok.frf L hL) hL λ z=>I.ok.exfs L z hL
   exact⟨hk,⟨L,_,hf,hn,e,hd⟩,ih (λ b hb=>hs b (by unfold frs;rw[zBb,hf];exact zAF _ hb)) hr⟩
 exact all X.outer (λ _ hb=>hb) I.ok.funs
theorem Inv.stack(I:Inv X kQ σ H s):s.heap.FunFrames X.base X.stack:=by
 rcases I.ok.stk with e|⟨e,hf⟩
 .rw[e];exact I.funs
 .rw[e]
  obtain⟨m,hn,_⟩:=I.loc;refine .cons (by rw[I.ok.kind];decide) hf hn ?_ I.funs;exact Heap.get?_none_of_le (zAe I.ok.bsz I.ok.above)
def Inv.stkSub(I:Inv X kQ σ H s):∀b∈frs X.stack,b∈X.env.locals::X.fs:=λ b hb=>by
 rcases I.ok.stk with e|⟨e,hf⟩
 .rw[e]at hb;exact zAF _ hb
 .rw[e]at hb
  unfold frs at hb;rw[zBb,hf]at hb;exact hb
def Inv.stkFree(I:Inv X kQ σ H s):∀b∈frs X.stack,H b=none:=λ b hb=>by
 rcases zAX.mp (I.stkSub b hb)with e|hb
 .rw[e];exact I.free
 .obtain⟨_,o,ho,_⟩:=I.ok.funs.mem hb
  exact I.base.free b o ho (I.ok.frf b hb) λ z=>I.ok.exfs b z hb
def Inv.step{g':Array zCY}{t':Nat}{d':Drawn}{ch:List Addr}(I:Inv X kQ σ H s)
  (hch:∀b∈ch,(b∈X.ex\/X.z5.heap.objs.size<=b)/\b≠X.env.locals/\(∀x c,X.env.cells.lookup x=some c->c≠b)/\∀p∈X.ta++(X.pn++kQ),p.1≠b)
  (keep:∀b o,b≠X.env.locals->b∉X.fs->b∉ch->s.heap.get? b=some o->H b=none->h'.get? b=some o)
  (slot:∀b o,b≠X.env.locals->b∈X.fs->b∉ch->s.heap.get? b=some o->H b=none->∃sl,h'.get? b=some {o with slots:=sl})(free:∀b o,b∉ch->s.heap.get? b=some o->H b=none->H' b=none)
  (there:∀b o,b∉ch->s.heap.get? b=some o->∃o',h'.get? b=some o')
  (tups:∀b xs,H b=some (.tup xs)->H' b=some (.tup xs))(frzs:∀b o u,H b=some (.frz o u)->H' b=some (.frz o u))(tbls:∀b q,H b=some (.tbl q)->H' b=some (.tbl q))
  (ns:∀m,s.heap.Ns X.env.locals m->h'.Ns X.env.locals m)(hok:HOk X.prog X.w H' h')(hg:zDw g'):
  Inv X kQ σ H' {s with heap:=h',gens:=g',drawn:=d',toks:=t'}:=by
 have neL:∀b o,X.z5.heap.get? b=some o->b≠X.env.locals:=λ b o e=>zAf (zAY (zAV e) I.ok.above)
 have neC:∀b o,X.z5.heap.get? b=some o->b∉X.ex->b∉ch:=λ b o e hx hb=>by
  rcases(hch b hb).1 with z|z
  .exact hx z
  .exact absurd (zAY (zAV e) z) (zB7 _)
 have dE:∀x c,X.env.cells.lookup x=some c->∀v,s.heap.IsCell c v->h'.IsCell c v:=λ x c e v ⟨o,ho,hd⟩=>by
  have nch:c∉ch:=λ z=>(hch c z).2.2.1 x c e rfl
  by_cases hc:c∈X.fs
  .obtain⟨sl,q⟩:=slot c o (I.cne x c e) hc nch ho (I.freeC x c e)
   exact⟨_,q,hd⟩
  .exact⟨o,keep c o (I.cne x c e) hc nch ho (I.freeC x c e),hd⟩
 refine⟨I.ok,I.os,hg,⟨λ b o e n hb hx=>?_,λ b o e n hb hx=>?_,λ b o e n hx=>?_,λ b o e hx=>?_,λ b xs e=>tups b xs (I.base.tups b xs e),λ b o xs e=>frzs b o xs (I.base.frzs b o xs e),λ b q e=>tbls b q (I.base.tbls b q e)⟩,?_,λ x c e=>?_,?_,λ x c e=>?_,λ p hp=>?_,hok,I.len,λ p hp=>?_⟩
 .exact keep b o (neL b o e) hb (neC b o e hx) (I.base.keep b o e n hb hx) (I.base.free b o e n hx)
 .obtain⟨sl,e1⟩:=I.base.slot b o e n hb hx
  obtain⟨sl',e2⟩:=slot b _ (neL b o e) hb (neC b o e hx) e1 (I.base.free b o e n hx);exact⟨sl',e2⟩
 .obtain⟨o',e1⟩:=I.base.there b o e hx
  exact free b o' (neC b o e hx) e1 (I.base.free b o e n hx)
 .obtain⟨o',e1⟩:=I.base.there b o e hx
  exact there b o' (neC b o e hx) e1
 .obtain⟨m,hn,hl⟩:=I.loc
  refine⟨m,ns m hn,λ i x v e1 e2 e3=>?_⟩;obtain⟨u,r,l⟩:=hl i x v e1 e2 e3;refine⟨u,r,?_⟩;rcases l with l|⟨k,c,e,z⟩
  .exact .inl l
  .exact .inr ⟨k,c,e,dE x c e _ z⟩
 .obtain⟨v,z⟩:=I.cell x c e
  exact⟨v,dE x c e v z⟩
 .obtain⟨m,⟨o,_,_,ho,_⟩,_⟩:=I.loc
  exact free _ o (λ z=>(hch _ z).2.1 rfl) ho I.free
 .obtain⟨v,o,ho,hd⟩:=I.cell x c e
  exact free c o (λ z=>(hch c z).2.2.1 x c e rfl) ho (I.freeC x c e)
 .obtain⟨e,n,ne,nf,d⟩:=I.pin p hp
  have nch:p.1∉ch:=λ z=>(hch p.1 z).2.2.2 p (zAZ _ hp) rfl
  exact⟨keep p.1 p.2 ne nf nch e n,free p.1 p.2 nch e n,ne,nf,d⟩
 .obtain⟨n,ne,nf,np,ps,e,t⟩:=I.tab p hp
  have nch:p.1∉ch:=λ z=>(hch p.1 z).2.2.2 p (zAQ _ hp) rfl
  exact⟨free p.1 _ nch e n,ne,nf,np,ps,keep p.1 _ ne nf nch e n,t.mono frzs⟩
def Inv.pinL(I:Inv X kQ σ H s)(hp:p∈X.ta++(X.pn++kQ)):p.1<s.heap.objs.size:=by
 rcases zAM.mp hp with z|z
 .obtain⟨_,_,_,_,_,e,_⟩:=I.tab p z
  exact zAV e
 .exact zAV (I.pin p z).1
def Inv.un{t':Nat}(I:Inv X kQ σ H s)(u:Un X.fs [] H H' s.heap h')(hok:HOk X.prog X.w H' h'):Inv X kQ σ H' {s with heap:=h',toks:=t'}:=by
 obtain⟨m,⟨o,es,ep,ho,r⟩,_⟩:=id I.loc;obtain⟨sl,hL⟩:=u.any ho I.free (by simp);exact I.step (g':=s.gens) (d':=s.drawn) (ch:=[]) (λ _ z=>nomatch z) (λ b o _ hb _ e n=>u.keep b o e n hb (by simp)) (λ b o _ hb _ e n=>u.slot b o e n hb (by simp)) (λ b o _ e n=>u.free b o e n (by simp)) (λ b o _ e=>u.there b o e (by simp)) u.tups u.frzs u.tbls (λ m' hm=>by
  obtain⟨o',es',ep',ho',r'⟩:=hm;rw[ho]at ho';cases ho';exact⟨_,es',ep',hL,r'⟩) hok I.bare
def Inv.call{g':Array zCY}{t':Nat}{d':Drawn}{ch:List Addr}(I:Inv X kQ σ H s)(u:Un (frs X.stack) ch H H' s.heap h')(hok:HOk X.prog X.w H' h')(hg:zDw g')
  (hch:∀b∈ch,(b∈X.ex\/X.z5.heap.objs.size<=b)/\b≠X.env.locals/\(∀x c,X.env.cells.lookup x=some c->c≠b)/\∀p∈X.ta++(X.pn++kQ),p.1≠b):
  Inv X kQ σ H' {s with heap:=h',gens:=g',drawn:=d',toks:=t'}:=by
 obtain⟨m,⟨o,es,ep,ho,r⟩,_⟩:=id I.loc;obtain⟨sl,hL⟩:=u.any ho I.free λ z=>(hch _ z).2.1 rfl
 exact I.step (ch:=ch) hch (λ b o hL hb hc e n=>u.keep b o e n (λ z=>(zAX.mp (I.stkSub b z)).elim hL hb) hc) (λ b o _ _ hc e n=>u.any e n hc) (λ b o hc e n=>u.free b o e n hc) (λ b o hc e=>u.there b o e hc) u.tups u.frzs u.tbls (λ m' hm=>by
  obtain⟨o',es',ep',ho',r'⟩:=hm;rw[ho]at ho';cases ho';exact⟨_,es',ep',hL,r'⟩) hok hg
def Inv.turned{t':Nat}{it:Addr}(I:Inv X kQ σ H s)(k:∀b o,b≠it->s.heap.get? b=some o->h'.get? b=some o)(hn:H it=none)(hL:it≠X.env.locals)
  (h1:it∈X.ex\/X.z5.heap.objs.size<=it)(h2:∀x c,X.env.cells.lookup x=some c->c≠it)(h3:∀p∈X.ta++(X.pn++kQ),p.1≠it):Inv X kQ σ H {s with heap:=h',toks:=t'}:=by
 have nit:∀b u,H b=some u->b≠it:=λ b u e z=>by rw[z,hn]at e;cases e
 refine I.step (g':=s.gens) (d':=s.drawn) (ch:=[it]) (λ b hb=>?_) (λ b o _ _ hc e _=>k b o (λ z=>hc (by simp[z])) e) (λ b o _ _ hc e _=>⟨o.slots,k b o (λ z=>hc (by simp[z])) e⟩) (λ _ _ _ _ n=>n)
  (λ b o hc e=>⟨o,k b o (λ z=>hc (by simp[z])) e⟩) (λ _ _ e=>e) (λ _ _ _ e=>e) (λ _ _ e=>e) (λ m hm=>?_) (λ b u e=>?_) I.bare
 .have e:b=it:=by simpa using hb
  subst e;exact⟨h1,hL,h2,h3⟩
 .obtain⟨o,es,ep,ho,r⟩:=hm
  exact⟨o,es,ep,k _ o (zCf hL) ho,r⟩
 .refine(I.hok b u e).stay (λ c v hc q=>k c v ?_ q) (λ _ q=>q) λ _ _ q=>q
  rcases hc with z|z
  .rw[z];exact nit b u e
  .exact nit c _ z
def Inv.tok(I:Inv X kQ σ H s)(t:Nat):Inv X kQ σ H {s with toks:=t}:=I.un (h':=s.heap) (t':=t) Un.refl I.hok
theorem Inv.kept(I:Inv X kQ σ H s)(k:∀b u,s.heap.get? b=some u->h'.get? b=some u):Inv X kQ σ H {s with heap:=h',toks:=t'}:=I.un (Un.kept k) (I.hok.kept k)
theorem Inv.laid(I:Inv X kQ σ H s)(k:∀b u,s.heap.get? b=some u->h'.get? b=some u)(hp:s.heap.objs.size<=a)(new:dC X.prog X.w (upd H a o) h' a o):
  Inv X kQ σ (upd H a o) {s with heap:=h',toks:=t'}:=I.un (Un.laid k hp (I.hok.fresh hp)) (I.hok.laid k hp new)
theorem Inv.write(I:Inv X kQ σ H s)(mu:Mut (H x))(he:e=x\/H e=some (.own x))(k:∀b u,b≠e->s.heap.get? b=some u->h'.get? b=some u)(heo:∃u,h'.get? e=some u)
  (new:dC X.prog X.w (upd H x o) h' x o):Inv X kQ σ (upd H x o) {s with heap:=h',toks:=t'}:=I.un (Un.write mu he k heo) (I.hok.write mu he k heo new)
def Inv.weak(I:Inv X kQ σ H s)(hl:σ'.length=σ.length)(w:∀(i:Nat) v,σ'[i]? =some (some v)->σ[i]? =some (some v)):Inv X kQ σ' H s:=
 ⟨I.ok,I.os,I.bare,I.base,let⟨m,hn,hl'⟩:=I.loc;⟨m,hn,λ i x v e1 e2 e3=>hl' i x v e1 (w i v e2) e3⟩,I.cell,I.free,I.freeC,I.pin,I.hok,hl.trans I.len,I.tab⟩
def Inv.pins_of(I:Inv X kQ σ H s)(h:∀p∈pins',s.heap.get? p.1=some p.2/\H p.1=none/\p.1≠X.env.locals/\p.1∉X.fs/\∀v,p.2.data≠.cell v)(h2:∀q∈pins',∀p∈X.ta,q.1≠p.1):Inv X pins' σ H s:=
 ⟨I.ok,I.os,I.bare,I.base,I.loc,I.cell,I.free,I.freeC,λ p hp=>(zAM.mp hp).elim (λ z=>I.pin p (zAQ _ z)) (h p),I.hok,I.len,λ p hp=>let⟨a,b,c,d,e⟩:=I.tab p hp;⟨a,b,c,λ q hq=>(zAM.mp hq).elim (λ z=>d q (zAQ _ z)) (λ z=>h2 q z p hp),e⟩⟩
def tU{N:List Str}(hN:N.Nodup){i j:Nat}{x:Str}(a:N[i]? =some x)(b:N[j]? =some x):i=j:=by
 obtain⟨h1,e1⟩:=zA3.mp a;obtain⟨h2,e2⟩:=zA3.mp b;exact(List.getElem_inj hN).mp (e1.trans e2.symm)
def aBi{M:Model}{A:zA7}{E:Value->zAB->Prop}{i:Nat}{x:Str}{v:V}{u:Value}{Q:Unit->zAB->Prop}(I:Inv X kQ σ H s)(hN:X.N.Nodup)(hi:X.N[i]? =some x)(hx:Loc X.env.scope x)(r:RelV v u)
  (h:∀s',Inv X kQ (σ.set i (some v)) H s'->(∃a,zFg a s.heap s'.heap/\(a=X.env.locals\/X.env.cells.lookup x=some a))->Q () s')(hf:X.fn x=true\/X.env.scope.names.lookup x=some .local:=by first|exact .inl rfl|exact .inr rfl|assumption):wpAny M A (storeName X.env x u) Q E s:=by
 obtain⟨m,hn,hl⟩:=id I.loc;have dQ:(X.env.scope.kind== .class||(X.env.scope.kind== .module&&X.env.locals !=X.env.globals))=false:=by rw[I.ok.kind];rfl
 have hiσ:i<σ.length:=by rw[I.len];exact(zA3.mp hi).1
 have cne:=I.cne;have b9:∀{a:Addr} {h':Heap},(∃o,s.heap.get? a=some o/\H a=none)->zFg a s.heap h'->HOk X.prog X.w H h':=λ{a h'} ha hs b ob e=>by
  obtain⟨_,_,hfree⟩:=ha;refine(I.hok b ob e).stay (λ c w' hc q=>(hs.2 c ?_).trans q) (λ _ q=>q) λ _ _ q=>q
  rintro rfl;rcases hc with rfl|hc
  .rw[hfree]at e;cases e
  .rw[hfree]at hc;cases hc
 rcases hx with hk|hk
 .refine wpAny_storeName_local hk hn (λ h' hn' hs=>?_) dQ
  obtain⟨oL,_,_,hoL,_⟩:=id hn;refine h _ ⟨I.ok,I.os,I.bare,⟨λ b o e n hb hx=>?_,λ b o e n hb hx=>?_,I.base.free,λ b o e hx=>?_,I.base.tups,I.base.frzs,I.base.tbls⟩,⟨_,hn',λ j y v' e1 e2 e3=>?_⟩,λ y c e=>?_,I.free,I.freeC,λ p hp=>?_,b9 ⟨oL,hoL,I.free⟩ hs,by simpa using I.len,λ p hp=>?_⟩ ⟨_,hs,.inl rfl⟩
  .exact(hs.2 b (zAf (zAY (zAV e) I.ok.above))).trans (I.base.keep b o e n hb hx)
  .obtain⟨sl,e1⟩:=I.base.slot b o e n hb hx
   exact⟨sl,(hs.2 b (zAf (zAY (zAV e) I.ok.above))).trans e1⟩
  .obtain⟨o',e1⟩:=I.base.there b o e hx
   exact⟨o',(hs.2 b (zAf (zAY (zAV e) I.ok.above))).trans e1⟩
  .by_cases hj:j=i
   .subst hj
    rw[hi]at e1;cases e1;rw[zCB hiσ]at e2;cases e2;exact⟨u,r,.inl ⟨hk,by simp⟩⟩
   .rw[zBJ (zCf hj)]at e2
    obtain⟨u',r',q⟩:=hl j y v' e1 e2 e3;refine⟨u',r',?_⟩;rcases q with ⟨k,e⟩|⟨k,c,e,z⟩
    .refine .inl ⟨k,?_⟩
     have:y≠x:=λ e=>hj (tU hN e1 (e▸hi))
     simp[this,e]
    .exact .inr ⟨k,c,e,z.sameBut hs (cne y c e)⟩
  .obtain⟨w',z⟩:=I.cell y c e
   exact⟨w',z.sameBut hs (cne y c e)⟩
  .obtain⟨e,n,ne,nf,d⟩:=I.pin p hp
   exact⟨(hs.2 p.1 ne).trans e,n,ne,nf,d⟩
  .obtain⟨n,ne,nf,np,ps,e,t⟩:=I.tab p hp
   exact⟨n,ne,nf,np,ps,(hs.2 p.1 ne).trans e,t⟩
 .have hfn:X.fn x=true:=by
   rcases hf with z|z
   .exact z
   .rw[z]at hk;cases hk
  obtain⟨c,hc⟩:=I.ok.has x (.inl hk);obtain⟨w',z⟩:=I.cell x c hc;refine wpAny_storeName_cell I.ok.kind hk hc z (λ h' hc' hs=>?_);obtain⟨oc,hoc,hocd⟩:=id z;refine h {s with heap:=h'} ⟨I.ok,I.os,I.bare,⟨λ b o e n hb hx=>?_,λ b o e n hb hx=>?_,I.base.free,λ b o e hx=>?_,I.base.tups,I.base.frzs,I.base.tbls⟩,⟨m,hn.sameBut hs (zCf (cne x c hc)),λ j y v' e1 e2 e3=>?_⟩,λ y c' e=>?_,I.free,I.freeC,λ p hp=>?_,b9 ⟨oc,hoc,I.freeC x c hc⟩ hs,by simpa using I.len,λ p hp=>?_⟩ ⟨c,hs,.inr hc⟩
  .exact(hs.2 b (zAf (zAY (zAV e) (I.ok.cab x c hfn hc)))).trans (I.base.keep b o e n hb hx)
  .obtain⟨sl,e1⟩:=I.base.slot b o e n hb hx
   exact⟨sl,(hs.2 b (zAf (zAY (zAV e) (I.ok.cab x c hfn hc)))).trans e1⟩
  .obtain⟨o',e1⟩:=I.base.there b o e hx
   exact⟨o',(hs.2 b (zAf (zAY (zAV e) (I.ok.cab x c hfn hc)))).trans e1⟩
  .by_cases hj:j=i
   .subst hj
    rw[hi]at e1;cases e1;rw[zCB hiσ]at e2;cases e2;exact⟨u,r,.inr ⟨.inl hk,c,hc,hc'⟩⟩
   .rw[zBJ (zCf hj)]at e2
    obtain⟨u',r',q⟩:=hl j y v' e1 e2 e3;refine⟨u',r',?_⟩;rcases q with q|⟨k,c',e,z'⟩
    .exact .inl q
    .refine .inr ⟨k,c',e,z'.sameBut hs ?_⟩
     rintro rfl;exact hj (tU hN e1 (I.ok.inj _ _ _ e hc▸hi))
  .by_cases hcc:c'=c
   .subst hcc;exact⟨_,hc'⟩
   .obtain⟨w2,z2⟩:=I.cell y c' e
    exact⟨w2,z2.sameBut hs hcc⟩
  .obtain⟨e,n,ne,nf,d⟩:=I.pin p hp
   refine⟨(hs.2 p.1 ?_).trans e,n,ne,nf,d⟩;intro q;rw[q,hoc]at e;have q':oc=p.2:=zAg e;exact d w' (by rw[<-q'];exact hocd)
  .obtain⟨n,ne,nf,np,ps,e,t⟩:=I.tab p hp
   refine⟨n,ne,nf,np,ps,(hs.2 p.1 ?_).trans e,t⟩;intro q;rw[q,hoc]at e;rw[zAg e]at hocd;cases hocd
def oU(I:Inv X kQ σ H s)(hN:X.N.Nodup)(hi:X.N[i]? =some x)(hx:Loc X.env.scope x)(r:RelV v u)
  (h:∀s',Inv X kQ (σ.set i (some v)) H s'->Q () s')(hf:X.fn x=true\/X.env.scope.names.lookup x=some .local:=by first|exact .inl rfl|exact .inr rfl|assumption):wpAny M A (storeName X.env x u) Q E s:=
 aBi I hN hi hx r (λ s' I' _=>h s' I') hf
def Inv.call'(I:Inv X kQ σ H s)(ho:s'.os=s.os)(u:Un (frs X.stack) ch H H' s.heap s'.heap)(hok:HOk X.prog X.w H' s'.heap)(hg:zDw s'.gens)
  (hch:∀b∈ch,(b∈X.ex\/X.z5.heap.objs.size<=b)/\b≠X.env.locals/\(∀x c,X.env.cells.lookup x=some c->c≠b)/\∀p∈X.ta++(X.pn++kQ),p.1≠b):Inv X kQ σ H' s':=by
 obtain⟨h',g',d',t',o'⟩:=s';have e:o'=s.os:=ho;subst e;exact I.call (g':=g') (t':=t') (d':=d') u hok hg hch
end
abbrev XK:=Value->Option Addr->Hp->Prop
abbrev St:=List (Option V)
abbrev VK:=V->Hp->Prop
abbrev TE:=St->Hp->VK->Prop
abbrev TT:=St->Hp->(Bool->Hp->Prop)->Prop
abbrev TA:=St->Hp->(List V->Hp->Prop)->Prop
structure Ends where
 nx:St->Hp->Prop
 rt:VK
 bk:St->Hp->Prop:=λ _ _=>False
 ct:St->Hp->Prop:=λ _ _=>False
abbrev TS:=Ends->St->Hp->Prop
def EP(X:Cx)(kQ:hV)(σ:St)(Q:VK)(u:Value)(s':zAB):Prop:=∃v H',Inv X kQ σ H' s'/\RelV v u/\Q v H'
def TP(X:Cx)(kQ:hV)(σ:St)(Q:Bool->Hp->Prop)(b:Bool)(s':zAB):Prop:=∃H',Inv X kQ σ H' s'/\Q b H'
def AP(X:Cx)(kQ:hV)(σ:St)(Q:List V->Hp->Prop)(us:List Value)(s':zAB):Prop:=∃vs H',Inv X kQ σ H' s'/\Vals vs us/\Q vs H'
def SP(X:Cx)(kQ:hV)(D:Ends)(f:Flow)(s':zAB):Prop:=
 match f with
 | .next=>∃σ' H',Inv X kQ σ' H' s'/\D.nx σ' H'
 | .brk=>∃σ' H',Inv X kQ σ' H' s'/\D.bk σ' H'
 | .cont=>∃σ' H',Inv X kQ σ' H' s'/\D.ct σ' H'
 | .ret u=>∃v σ' H',Inv X kQ σ' H' s'/\RelV v u/\D.rt v H'
def PE(X:Cx)(e:Expr)(t:TE):Prop:=
 ∀(kQ:hV) (s:zAB) (σ:St) (H:Hp) (Q:VK),Inv X kQ σ H s->t σ H Q->wpAny (model X.prog X.w) X.A (eval e X.env) (EP X kQ σ Q) X.xe s
def PT(X:Cx)(e:Expr)(t:TT):Prop:=
 ∀(kQ:hV) (s:zAB) (σ:St) (H:Hp) (Q:Bool->Hp->Prop),Inv X kQ σ H s->t σ H Q->wpAny (model X.prog X.w) X.A (isTrue e X.env (eval e X.env)) (TP X kQ σ Q) X.xe s
def PW(X:Cx)(e:Expr)(t:TT):Prop:=
 ∀(whole:Sem Value) (kQ:hV) (s:zAB) (σ:St) (H:Hp) (Q:Bool->Hp->Prop),Inv X kQ σ H s->t σ H Q->wpAny (model X.prog X.w) X.A (isTrue e X.env whole) (TP X kQ σ Q) X.xe s
def PW.pt(h:PW X e t):PT X e t:=h _
def PA(X:Cx)(es:List Expr)(t:TA):Prop:=
 ∀(pos:Pos) (kQ:hV) (s:zAB) (σ:St) (H:Hp) (Q:List V->Hp->Prop),Inv X kQ σ H s->t σ H Q->wpAny (model X.prog X.w) X.A (spliced (zCI pos (zA2 es X.env))) (AP X kQ σ Q) X.xe s
def PS(X:Cx)(st:Stmt)(t:TS):Prop:=
 ∀(kQ:hV) (s:zAB) (σ:St) (H:Hp) (D:Ends),Inv X kQ σ H s->t D σ H->wpAny (model X.prog X.w) X.A (exec st X.env) (SP X kQ D) X.xe s
def PSs(X:Cx)(st:List Stmt)(t:TS):Prop:=
 ∀(kQ:hV) (s:zAB) (σ:St) (H:Hp) (D:Ends),Inv X kQ σ H s->t D σ H->wpAny (model X.prog X.w) X.A (execs st X.env) (SP X kQ D) X.xe s
def thn(h:wpAny M A t Q E s)(hQ:∀a s,Q a s->Q' a s):wpAny M A t Q' E s:=zB5 h hQ λ _ _ x=>x
section
variable{X:Cx}
def bin{a b:Expr}{ta tb:TE}(ha:PE X a ta)(hb:PE X b tb){kQ:hV}{s:zAB}{σ:St}{H:Hp}{R:V->V->Hp->Prop}(I:Inv X kQ σ H s)(h:ta σ H λ x H1=>tb σ H1 λ y H2=>R x y H2)
  {α:Type}{Q:α->zAB->Prop}{f:Value->Value->Sem α}
  (hf:∀v u s2 x y H2,Inv X kQ σ H2 s2->RelV x v->RelV y u->R x y H2->wpAny (model X.prog X.w) X.A (f v u) Q X.xe s2):
  wpAny (model X.prog X.w) X.A (eval a X.env) (λ v z4=>wpAny (model X.prog X.w) X.A (eval b X.env) (λ u zS=>wpAny (model X.prog X.w) X.A (f v u) Q X.xe zS) X.xe z4) X.xe s:=by
 refine thn (ha kQ s σ H _ I h) λ v s1 ⟨x,H1,I1,r1,q1⟩=>?_
 refine thn (hb kQ s1 σ H1 _ I1 q1) λ u s2 ⟨y,H2,I2,r2,q2⟩=>?_
 exact hf v u s2 x y H2 I2 r1 r2 q2
def jN(i:Nat):TE:=λ σ H Q=>∃v,σ[i]? =some (some v)/\Q v H
def tC(v:V):TE:=λ _ H Q=>Q v H
abbrev _root_.Nd(x:PySem.Str):Prop:=(x==("__debug__":PySem.Str))=false
def dX(hN:X.N[i]? =some x)(hv:Vis X.env.scope x)(hd:Nd x:=by decide)(hcd:(x==("__classdict__":Str))=false:=by decide):PE X (.Name x pos) (jN i):=by
 intro kQ s σ H Q I h;obtain⟨v,e,h⟩:=h;obtain⟨m,hn,hl⟩:=I.loc;obtain⟨u,r,l⟩:=hl i x v hN e hv;have fin:EP X kQ σ Q u s:=⟨v,H,I,r,h⟩;rcases l with ⟨hk,hm⟩|⟨hk,c,hc,hcell⟩
 .exact zEL (zEN I.ok.kind hk hn hm fin) hd
 .rcases hk with hk|hk
  .exact zEL (zEX I.ok.kind hk hc hcell fin) hd
  .exact zEL (zGm I.ok.kind hk hc hcell fin hcd) hd
def aD0{i j pos}:PE X (.Constant (.int i) j pos) (tC (.int i)):=λ _ _ _ H _ I h=>wpAny_Constant_int ⟨.int i,H,I.tok _,⟨_,rfl⟩,h⟩
def aD3{b j pos}:PE X (.Constant (.bool b) j pos) (tC (.bl b)):=λ _ _ _ H _ I h=>Constant_bool ⟨.bl b,H,I,rfl,h⟩
def aHd{j pos}:PE X (.Constant .none j pos) (tC .non):=λ _ _ _ H _ I h=>Constant_none ⟨.non,H,I,rfl,h⟩
def eE{x j pos}:PE X (.Constant (.str x) j pos) (tC (.str x)):=λ _ _ _ H _ I h=>Calls.Constant_str ⟨.str x,H,I.tok _,⟨_,rfl⟩,h⟩
def Gl(X:Cx)(x:Str):Prop:=X.env.kindOf x=some .globalImplicit
def mU(I:Inv X kQ σ H s)(hg:Gl X x)(hm:X.mg x=some u)(h:Q u s)
  (hd:Nd x:=by decide):wpAny (model X.prog X.w) X.A (eval (.Name x pos) X.env) Q E s:=
 zEm I.ok.kind hg (Calls.loadGlobal_global (by rw[I.ok.glob];exact I.mod.glob.keeps I.bk) hm h) hd
def uC(I:Inv X kQ σ H s)(hg:Gl X x)(hm:X.mg x=none)(hv:zAn x=some u)(h:Q u s)
  (hn:x≠"__name__":=by decide)(hd:Nd x:=by decide):wpAny (model X.prog X.w) X.A (eval (.Name x pos) X.env) Q E s:=by
 obtain⟨mb,h1,h2⟩:=I.mod.blt;exact zEm I.ok.kind hg (Calls.loadGlobal_builtin (by rw[I.ok.glob];exact I.mod.glob.keeps I.bk) hm (by rw[I.ok.blt];exact h1.keeps I.bk) ((h2 x hn).trans hv) h) hd
def dR(hg:Gl X x)(hm:X.mg x=some u)(r:RelV v u)(hd:Nd x:=by decide):PE X (.Name x pos) (tC v):=
 λ _ _ _ H _ I h=>mU I hg hm ⟨v,H,I,r,h⟩ hd
def aBF(hg:Gl X x)(hm:X.mg x=none)(hv:zAn x=some u)(r:RelV v u)(hn:x≠"__name__":=by decide)(hd:Nd x:=by decide):PE X (.Name x pos) (tC v):=
 λ _ _ _ H _ I h=>uC I hg hm hv ⟨v,H,I,r,h⟩ hn hd
def t2I(ta tb:TE)(k:Int->Int->Hp->Prop):St->Hp->Prop:=λ σ H=>ta σ H λ x H1=>tb σ H1 λ y H2=>∃i j,x= .int i/\y= .int j/\k i j H2
variable{a b:Expr}{ta tb:TE}{pos:Pos}
def PC(X:Cx)(op:CmpOp)(a b:Expr)(t:TE):Prop:=
 ∀(kQ:hV) (s:zAB) (σ:St) (H:Hp) (Q:VK),Inv X kQ σ H s->t σ H Q->
  wpAny (model X.prog X.w) X.A (eval a X.env) (λ v z4=>wpAny (model X.prog X.w) X.A (eval b X.env) (λ u zS=>wpAny (model X.prog X.w) X.A (zBO op v u) (EP X kQ σ Q) X.xe zS) X.xe z4) X.xe s
def aD9(b:Expr)(h:op≠.In)(h2:op≠.NotIn):zBk op b=false:=by
 have e1:(op==CmpOp.In)=false:=by cases op<;>first|rfl|exact absurd rfl h
 have e2:(op==zHD)=false:=by cases op<;>first|rfl|exact absurd rfl h2
 cases b<;>simp[zBk,e1,e2]
def aIv(p:Int->Int->Bool)(ta tb:TE):TE:=λ σ H Q=>t2I ta tb (λ i j H2=>Q (.bl (p i j)) H2) σ H
abbrev aJm:TE->TE->TE:=aIv λ i j=>!decide (i=j)
def aHj{op:CmpOp}{p:Int->Int->Bool}(ha:PE X a ta)(hb:PE X b tb)
  (rule:∀(i j:Int) (t u:Tok) (Q:Value->zAB->Prop) (s:zAB),Q (.bool (p i j)) s->wpAny (model X.prog X.w) X.A (zBO op (.int i t) (.int j u)) Q X.xe s):PC X op a b (aIv p ta tb):=by
 intro kQ s σ H Q I h;refine bin ha hb I h λ v u s2 x y H2 I2 rx ry q=>?_
 obtain⟨i,j,rfl,rfl,q⟩:=q;obtain⟨t,rfl⟩:=rx;obtain⟨t',rfl⟩:=ry;exact rule i j t t' _ s2 ⟨.bl _,H2,I2,rfl,q⟩
def aHi(ha:PE X a ta)(hb:PE X b tb):PC X .NotEq a b (aJm ta tb):=aHj ha hb λ _ _ _ _ _ _ h=>ne_int (by rw[bne,Bool.beq_eq_decide_eq];exact h)
def tB(t:TE):TT:=λ σ H Q=>t σ H λ x H1=>∃c,x= .bl c/\Q c H1
def aH5(h:PC X op a b t)(h1:zBk op b=false:=by first|exact aD9 _ (by decide) (by decide)|rfl):PT X (.Compare a [op] [b] pos) (tB t):=by
 intro kQ s σ H Q I hw;refine zG6 (thn (h kQ s σ H _ I hw) λ v s1 h1=>thn h1 λ u s2 h2=>thn h2 λ c s3 ⟨x,H1,I1,r1,q1⟩=>?_) h1;obtain⟨d,rfl,q⟩:=q1;cases r1;exact zCR ⟨H1,I1,q⟩
def aDM(h:PE X e t)(he:∀whole,isTrue e X.env whole=(do let v <-whole;zGS e.pos;zDL [v] (truthy v)):=by intro _;rfl):PT X e (tB t):=by
 intro kQ s σ H Q I hw;refine isTrue_plain (thn (h kQ s σ H _ I hw) λ v s1 ⟨x,H1,I1,r1,q1⟩=>?_) (he _);obtain⟨d,rfl,q⟩:=q1;cases r1;exact zCR ⟨H1,I1,q⟩
variable{tA tB':TT}{rest:List Expr}
def aJr(t u:TT):TT:=λ σ H Q=>t σ H λ c H1=>if c=true then u σ H1 Q else Q false H1
def tOr(t u:TT):TT:=λ σ H Q=>t σ H λ c H1=>if c=true then Q true H1 else u σ H1 Q
def aJl(t:TT):TT:=λ σ H Q=>t σ H λ c H1=>Q (!c) H1
def aFP(ha:PT X a tA):PW X (.BoolOp .And [a] pos) tA:=by
 intro wh kQ s σ H Q I h;refine isTrue_and (thn (ha kQ s σ H Q I h) λ c s1 e=>?_);cases c with
 |true=>exact isTrue_and_nil e
 |false=>exact e
def aDL(ha:PT X a tA):PW X (.BoolOp .Or [a] pos) tA:=by
 intro wh kQ s σ H Q I h;refine isTrue_or (thn (ha kQ s σ H Q I h) λ c s1 e=>?_);cases c with
 |false=>exact isTrue_or_nil e
 |true=>exact e
def aH3(ha:PT X a tA)(hb:PW X (.BoolOp .And (b::rest) pos) tB'):PW X (.BoolOp .And (a::b::rest) pos) (aJr tA tB'):=by
 intro wh kQ s σ H Q I h;refine isTrue_and (thn (ha kQ s σ H _ I h) λ c s1 ⟨H1,I1,q1⟩=>?_);cases c with
 |true=>exact hb wh kQ s1 σ H1 Q I1 q1
 |false=>exact⟨H1,I1,q1⟩
def aGm(ha:PT X a tA)(hb:PW X (.BoolOp .Or (b::rest) pos) tB'):PW X (.BoolOp .Or (a::b::rest) pos) (tOr tA tB'):=by
 intro wh kQ s σ H Q I h;refine isTrue_or (thn (ha kQ s σ H _ I h) λ c s1 ⟨H1,I1,q1⟩=>?_);cases c with
 |true=>exact⟨H1,I1,q1⟩
 |false=>exact hb wh kQ s1 σ H1 Q I1 q1
def aAA(ha:PT X a tA):PT X (.UnaryOp .Not a pos) (aJl tA):=by
 intro kQ s σ H Q I h;exact isTrue_not (ha kQ s σ H (λ c H1=>Q (!c) H1) I h)
def aIx(ta tb:TE):TE:=λ σ H Q=>ta σ H λ x H1=>∃c,x= .bl c/\if c=true then tb σ H1 Q else Q (.bl false) H1
def aJk(ta tb:TE):TE:=λ σ H Q=>ta σ H λ x H1=>∃c,x= .bl c/\if c=true then Q (.bl true) H1 else tb σ H1 Q
def aHc{op}(h:PE X a t):PE X (.BoolOp op [a] pos) t:=λ kQ s σ H Q I hw=>BoolOp_one (h kQ s σ H Q I hw)
def aHh(ha:PE X a ta)(hb:PE X (.BoolOp .And (b::rest) pos) tb):PE X (.BoolOp .And (a::b::rest) pos) (aIx ta tb):=by
 intro kQ s σ H Q I h;refine BoolOp_and (thn (ha kQ s σ H _ I h) λ v s1 ⟨x,H1,I1,r1,q1⟩=>?_);obtain⟨c,rfl,q1⟩:=q1;cases r1;refine zCR ?_;cases c with
 |true=>exact hb kQ s1 σ H1 Q I1 q1
 |false=>exact⟨.bl false,H1,I1,rfl,q1⟩
def aJN(ha:PE X a ta)(hb:PE X (.BoolOp .Or (b::rest) pos) tb):PE X (.BoolOp .Or (a::b::rest) pos) (aJk ta tb):=by
 intro kQ s σ H Q I h;refine BoolOp_or (thn (ha kQ s σ H _ I h) λ v s1 ⟨x,H1,I1,r1,q1⟩=>?_);obtain⟨c,rfl,q1⟩:=q1;cases r1;refine zCR ?_;cases c with
 |false=>exact hb kQ s1 σ H1 Q I1 q1
 |true=>exact⟨.bl true,H1,I1,rfl,q1⟩
def tIf(t:TT)(ta tb:TE):TE:=λ σ H Q=>t σ H λ c H1=>if c=true then ta σ H1 Q else tb σ H1 Q
def aD1(hc:PT X c tA)(ha:PE X a ta)(hb:PE X b tb):PE X (.IfExp c a b pos) (tIf tA ta tb):=by
 intro kQ s σ H Q I h;refine wpAny_IfExp (thn (hc kQ s σ H _ I h) λ d s1 ⟨H1,I1,q1⟩=>?_);cases d with
 |true=>exact ha kQ s1 σ H1 Q I1 q1
 |false=>exact hb kQ s1 σ H1 Q I1 q1
end
def SqL(K:zAA)(H:Hp)(a:Addr)(xs:List V):Prop:=
 Rd H a (.lst xs)\/
  ∃(o:Obj) (its:Array Value) (n:Nat),K.lookup a=some o/\o.cls= .type "list"/\o.dict=none/\o.data= .seq its n/\its.size<=zAN/\Vals xs its.toList
def SqT(K:zAA)(H:Hp)(a:Addr)(xs:List V):Prop:=
 Rd H a (.tup xs)\/
  ∃(o:Obj) (its:Array Value) (n:Nat),K.lookup a=some o/\o.cls= .type "tuple"/\o.dict=none/\o.data= .seq its n/\its.size<=zAN/\Vals xs its.toList
def aKC:Value->Option V
 | .none=>some .non
 | .bool b=>some (.bl b)
 | .int i _=>some (.int i)
 | .str x _=>some (.str x)
 | .bytes b _=>some (.byt b)
 | .float b _=>some (.flt b)
 | .ref a=>some (.ref a)
 | .type n=>some (.ty n)
 |_=>none
def RelV.abs(r:RelV x u):aKC u=some x:=by
 cases x with
 |non=>cases r;rfl
 |bl _=>cases r;rfl
 |int _=>obtain⟨t,rfl⟩:=r;rfl
 |str _=>obtain⟨t,rfl⟩:=r;rfl
 |byt _=>obtain⟨t,rfl⟩:=r;rfl
 |flt _=>obtain⟨t,rfl⟩:=r;rfl
 |ref _=>cases r;rfl
 |ty _=>cases r;rfl
def RelV.inj(r:RelV x u)(q:RelV y u):x=y:=zAg (r.abs.symm.trans q.abs)
theorem Vals.inj:∀{xs ys:List V} {us:List Value},Vals xs us->Vals ys us->xs=ys
 |_,_,_,.nil,.nil=>rfl
 |_,_,_,.cons r t,.cons r' t'=>by rw[r.inj r',Vals.inj t t']
section
variable{X:Cx}{kQ:hV}{σ:St}{H:Hp}{s:zAB}{a:Addr}{xs ys:List V}
def SqL.of{K:zAA}(h:H a=some (.lst xs)):SqL K H a xs:=.inl (.inl h)
def SqT.of{K:zAA}(h:H a=some (.tup xs)):SqT K H a xs:=.inl (.inl h)
def Inv.list(I:Inv X kQ σ H s)(h:SqL X.K H a xs):∃its:List Value,Vals xs its/\PlainL s.heap a its.toArray/\xs.length<=zAN:=by
 rcases h with h|⟨o,its,n,hk,hc,hd,hs,hz,r⟩
 .obtain⟨z,its,n,r,e⟩:=h.ok I.hok
  exact⟨its,r,⟨_,n,e,rfl,rfl,rfl⟩,z⟩
 .refine⟨its.toList,r,⟨o,n,I.kIn a o hk,hc,hd,by simpa using hs⟩,?_⟩
  have e:=r.length;simp only[zBp]at e;lia
def Inv.tuple(I:Inv X kQ σ H s)(h:SqT X.K H a xs):∃its:List Value,Vals xs its/\IsTup s.heap a its.toArray/\xs.length<=zAN:=by
 rcases h with h|⟨o,its,n,hk,hc,hd,hs,hz,r⟩
 .obtain⟨z,its,r,p⟩:=h.ok I.hok
  exact⟨its,r,p,z.1⟩
 .refine⟨its.toList,r,⟨o,I.kIn a o hk,hc,n,by simpa using hs⟩,?_⟩
  have e:=r.length;simp only[zBp]at e;lia
def Inv.list_inj(I:Inv X kQ σ H s)(h:SqL X.K H a xs)(h':SqL X.K H a ys):xs=ys:=by
 obtain⟨its,r,⟨o,n,e,_,_,d⟩,_⟩:=I.list h;obtain⟨its',r',⟨o',n',e',_,_,d'⟩,_⟩:=I.list h';rw[e]at e';cases e';rw[d]at d';injection d' with d1 _
 have:its=its':=by simpa using congrArg zGn d1
 subst this;exact r.inj r'
def Inv.tuple_inj(I:Inv X kQ σ H s)(h:SqT X.K H a xs)(h':SqT X.K H a ys):xs=ys:=by
 obtain⟨its,r,⟨o,e,_,n,d⟩,_⟩:=I.tuple h;obtain⟨its',r',⟨o',e',_,n',d'⟩,_⟩:=I.tuple h';rw[e]at e';cases e';rw[d]at d';injection d' with d1 _
 have:its=its':=by simpa using congrArg zGn d1
 subst this;exact r.inj r'
end
section
variable{X:Cx}{st:Stmt}{rest:List Stmt}{t u:TS}{e:Expr}{te:TE}{pos:Pos}
def aIt:TS:=λ D σ H=>D.nx σ H
def aJj(t u:TS):TS:=λ D σ H=>t {D with nx:=u D} σ H
def rR:PSs X [] aIt:=λ _ _ σ H _ I h=>zDO ⟨σ,H,I,h⟩
def dW(h1:PS X st t)(h2:PSs X rest u):PSs X (st::rest) (aJj t u):=by
 intro kQ s σ H D I h;refine wpAny_execs_cons (thn (h1 kQ s σ H {D with nx:=u D} I h) λ f s1 q=>?_);cases f with
 |next=>
  obtain⟨σ',H',I',q⟩:=q;exact h2 kQ s1 σ' H' D I' q
 |ret v=>exact q
 |brk=>exact q
 |cont=>exact q
def iz(h1:PS X st t):PSs X [st] t:=by
 intro kQ s σ H D I h;refine wpAny_execs_cons (thn (h1 kQ s σ H D I h) λ f s1 q=>?_);cases f with
 |next=>exact zDO q
 |ret v=>exact q
 |brk=>exact q
 |cont=>exact q
def Inv.quiet(I:Inv X kQ σ H s):interactive X.env=false:=by simp[interactive,I.ok.kind]
def sS(te:TE):TS:=λ D σ H=>te σ H λ _ H1=>D.nx σ H1
def mO(he:PE X e te)(hs:zDN e none pos.line X.env=pure false:=by rfl):PS X (.Expr e pos) (sS te):=by
 intro kQ s σ H D I h;exact wpAny_Expr_any (thn (he kQ s σ H _ I h) λ v s1 ⟨x,H1,I1,r1,q1⟩=>⟨σ,H1,I1,q1⟩) I.quiet hs
def aHH(te:TE):TS:=λ D σ H=>te σ H D.rt
def tH(he:PE X e te):PS X (.Return (some e) pos) (aHH te):=by
 intro kQ s σ H D I h;exact wpAny_Return_some (thn (he kQ s σ H _ I h) λ v s1 ⟨x,H1,I1,r1,q1⟩=>⟨x,σ,H1,I1,r1,q1⟩)
def aJp(c:TT)(t u:TS):TS:=λ D σ H=>c σ H λ b H1=>if b=true then t D σ H1 else u D σ H1
def aBC(hc:PT X c tc)(ha:PSs X a t)(hb:PSs X b u):PS X (.If c a b pos) (aJp tc t u):=by
 intro kQ s σ H D I h;refine wpAny_If (thn (hc kQ s σ H _ I h) λ d s1 ⟨H1,I1,q1⟩=>?_);cases d with
 |true=>exact ha kQ s1 σ H1 D I1 q1
 |false=>exact hb kQ s1 σ H1 D I1 q1
end
abbrev TG:=V->St->Hp->(St->Hp->Prop)->Prop
abbrev TGs:=List V->St->Hp->(St->Hp->Prop)->Prop
def PG(X:Cx)(target:Expr)(t:TG):Prop:=
 ∀(kQ:hV) (s:zAB) (σ:St) (H:Hp) (v:V) (u:Value) (Q:St->Hp->Prop),Inv X kQ σ H s->RelV v u->t v σ H Q->
  wpAny (model X.prog X.w) X.A (zFJ target X.env u) (λ _ s'=>∃σ' H',Inv X kQ σ' H' s'/\Q σ' H') X.xe s
def PGs(X:Cx)(ts:List Expr)(t:TGs):Prop:=
 ∀(kQ:hV) (s:zAB) (σ:St) (H:Hp) (vs:List V) (us:List Value) (Q:St->Hp->Prop),Inv X kQ σ H s->Vals vs us->t vs σ H Q->
  wpAny (model X.prog X.w) X.A (assignInOrder ((zBt ts X.env).map (·.2)) us) (λ _ s'=>∃σ' H',Inv X kQ σ' H' s'/\Q σ' H') X.xe s
abbrev TIp:=V->V->Hp->VK->Prop
def PIp(X:Cx)(op:Operator)(t:TIp):Prop:=
 ∀(kQ:hV) (s:zAB) (σ:St) (H:Hp) (x y:V) (v u:Value) (Q:VK),Inv X kQ σ H s->RelV x v->RelV y u->t x y H Q->
  wpAny (model X.prog X.w) X.A (inplaceOp op v u) (EP X kQ σ Q) X.xe s
section
variable{X:Cx}{pos:Pos}
def qi(i:Nat):TG:=λ v σ H Q=>Q (σ.set i (some v)) H
def aFV(hN:X.N.Nodup)(hi:X.N[i]? =some x)(hx:Loc X.env.scope x)(hf:X.fn x=true\/X.env.scope.names.lookup x=some .local:=by first|exact .inl rfl|exact .inr rfl|assumption):PG X (.Name x pos) (qi i):=by
 intro kQ s σ H v u Q I r h;exact wpAny_assign_Name (oU I hN hi hx r (λ s' I'=>⟨_,H,I',h⟩) hf)
def aIZ:TGs:=λ vs σ H Q=>vs=[]/\Q σ H
def aEO(t:TG)(u:TGs):TGs:=λ vs σ H Q=>∃v r,vs=v::r/\t v σ H λ σ' H'=>u r σ' H' Q
def aFU:PGs X [] aIZ:=by
 intro kQ s σ H vs us Q I r h;obtain⟨e,h⟩:=h;subst e;cases r;exact assignInOrder_nil ⟨σ,H,I,h⟩
def aDW(h1:PG X e t)(h2:PGs X es u)
  (hs:(zBt (e::es) X.env).map (·.2)=zFJ e X.env::(zBt es X.env).map (·.2):=by rfl):PGs X (e::es) (aEO t u):=by
 intro kQ s σ H vs us Q I r h;obtain⟨v,vr,e1,h⟩:=h;subst e1;cases r with
 |cons r rr=>
  rw[hs];refine assignInOrder_cons (thn (h1 kQ s σ H _ _ _ I r h) λ _ s1 ⟨σ1,H1,I1,q1⟩=>?_);exact h2 kQ s1 σ1 H1 _ _ Q I1 rr q1
def aGF(K:zAA)(n:Nat)(t:TGs):TG:=λ v σ H Q=>∃a xs,v= .ref a/\SqT K H a xs/\xs.length=n/\t xs σ H Q
def aH9(hc:X.calm=true)(h:PGs X es t)
  (hn:(zBt es X.env).length=n:=by rfl)(hst:(zBt es X.env).findIdx? (·.1)=none:=by rfl):PG X (.Tuple es k pos) (aGF X.K n t):=by
 intro kQ s σ H v u Q I r hw;obtain⟨a,xs,e1,hq,hl,hw⟩:=hw;subst e1;cases r;obtain⟨its,rv,ht,hz⟩:=I.tuple hq;refine assign_Tuple_tuple (I.ok.hd hc) ht (by simp[hn,<-hl,rv.length]) hst λ h' hx=>?_
 have I1:Inv X kQ σ H {s with heap:=h'}:=I.kept (t':=s.toks) λ b o e=>hx b o (zAf (zAV e)) e
 exact h kQ _ σ H xs _ Q I1 (by simpa using rv) hw
def yF(te:TE)(g:TG):TS:=λ D σ H=>te σ H λ x H1=>g x σ H1 D.nx
def aAB(he:PE X e te)(hg:PG X tg g)(hs:zEl [tg] e pos.line X.env=pure false:=by rfl)(hw:zEk [tg] e X.env=pure none:=by rfl)
  (h1:(zBt [tg] X.env).map (·.2)=[zFJ tg X.env]:=by rfl):PS X (.Assign [tg] e pos) (yF te g):=by
 intro kQ s σ H D I h;refine wpAny_Assign_stores (thn (he kQ s σ H _ I h) λ v s1 ⟨x,H1,I1,r1,q1⟩=>?_) hs hw;rw[h1];exact thn (hg kQ s1 σ H1 x v _ I1 r1 q1) λ _ s2 q=>q
def jm(hN:X.N.Nodup)(hi:X.N[i]? =some x)(hx:Loc X.env.scope x)(he:PE X e te)(hs:zDN e (some (.Name x pos')) pos.line X.env=pure false:=by rfl)(hf:X.fn x=true\/X.env.scope.names.lookup x=some .local:=by first|exact .inl rfl|exact .inr rfl|assumption):
  PS X (.Assign [.Name x pos'] e pos) (yF te (qi i)):=by
 intro kQ s σ H D I h;refine wpAny_Assign_Name (thn (he kQ s σ H _ I h) λ v s1 ⟨y,H1,I1,r1,q1⟩=>?_) hs;exact oU I1 hN hi hx r1 (λ s2 I2=>⟨_,H1,I2,q1⟩) hf
def aJq(i:Nat)(te:TE)(ti:TIp):TS:=λ D σ H=>∃x,σ[i]? =some (some x)/\te σ H λ y H1=>ti x y H1 λ z H2=>D.nx (σ.set i (some z)) H2
def aDS(hN:X.N.Nodup)(hi:X.N[i]? =some x)(hx:Loc X.env.scope x)(he:PE X e te)(ho:PIp X op ti)(hf:X.fn x=true\/X.env.scope.names.lookup x=some .local:=by first|exact .inl rfl|exact .inr rfl|assumption):
  PS X (.AugAssign (.Name x pos') op e pos) (aJq i te ti):=by
 intro kQ s σ H D I h;obtain⟨v,e1,h⟩:=h;obtain⟨m,hn,hl⟩:=I.loc;have vis:Vis X.env.scope x:=by rcases hx with k|k;exact .inl k;exact .inr (.inl k)
 obtain⟨u,r,l⟩:=hl i x v hi e1 vis;refine wpAny_AugAssign_Name ?_;have go:wpAny (model X.prog X.w) X.A (eval e X.env) (λ w zS=>wpAny (model X.prog X.w) X.A (inplaceOp op u w) (λ r zC=>wpAny (model X.prog X.w) X.A (storeName X.env x r) (λ _=>SP X kQ D .next) X.xe zC) X.xe zS) X.xe s:=by
  refine thn (he kQ s σ H _ I h) λ w s1 ⟨y,H1,I1,r1,q1⟩=>?_
  refine thn (ho kQ s1 σ H1 v y u w _ I1 r r1 q1) λ z s2 ⟨zv,H2,I2,r2,q2⟩=>?_
  exact oU I2 hN hi hx r2 (λ s3 I3=>⟨_,H2,I3,q2⟩) hf
 rcases l with ⟨hk,hm⟩|⟨hk,c,hc,hcell⟩
 .exact zEN I.ok.kind hk hn hm go
 .rcases hk with hk|hk
  .exact zEX I.ok.kind hk hc hcell go
  .rcases hx with k|k
   .have:X.env.scope.names.lookup x=some .free:=hk
    rw[k]at this;cases this
   .have:X.env.scope.names.lookup x=some .free:=hk
    rw[k]at this;cases this
def ipI(f:Int->Int->Int):TIp:=λ x y H Q=>∃i j,x= .int i/\y= .int j/\Q (.int (f i j)) H
def aEA:PIp X .Add (ipI λ i j=>i+j):=by
 intro kQ s σ H x y v u Q I r1 r2 h;obtain⟨i,j,e1,e2,q⟩:=h;subst e1;subst e2;obtain⟨t,rfl⟩:=r1;obtain⟨t',rfl⟩:=r2;exact iadd_int ⟨.int _,H,I.tok _,⟨_,rfl⟩,q⟩
end
section
variable{X:Cx}{pos:Pos}
def aHG(c:TT)(tb:TS):TS:=λ D σ H=>∃W:Nat->St->Hp->Prop,(∃m,W m σ H)/\∀m σ H,W m σ H->
 c σ H λ b H1=>if b=true then∃N:St->Hp->Prop,(∀σ' H',N σ' H'->∃m',m'<m/\W m' σ' H')/\tb {D with nx:=N,ct:=N,bk:=D.nx} σ H1 else D.nx σ H1
def aDO(hp:zG1 (model X.prog X.w) X.A X.env X.xe)(hc:PT X c tc)(hb:PSs X body tb):PS X (.While c body [] pos) (aHG tc tb):=by
 intro kQ s σ H D I h;obtain⟨W,⟨m0,w0⟩,turn⟩:=h;refine wpAny_While (codeAny_whileLoop (λ n s'=>∃σ' H',Inv X kQ σ' H' s'/\W n σ' H') ?_ m0 ⟨σ,H,I,w0⟩);rintro n s1 ⟨σ1,H1,I1,w1⟩;refine zCN hp (thn (hc kQ s1 σ1 H1 _ I1 (turn n σ1 H1 w1)) λ b s2 ⟨H2,I2,q2⟩=>?_);cases b with
 |true=>
  obtain⟨N,hN,q2⟩:=q2;rw[if_pos rfl];refine zCN hp (thn (hb kQ s2 σ1 H2 _ I2 q2) λ f s3 q3=>?_);cases f with
  |next=>
   obtain⟨σ3,H3,I3,n3⟩:=q3;obtain⟨m',hm,w3⟩:=hN σ3 H3 n3;exact⟨m',hm,σ3,H3,I3,w3⟩
  |cont=>
   obtain⟨σ3,H3,I3,n3⟩:=q3;obtain⟨m',hm,w3⟩:=hN σ3 H3 n3;exact⟨m',hm,σ3,H3,I3,w3⟩
  |brk=>exact q3
  |ret v=>exact q3
 |false=>
  rw[if_neg zAT];exact zDO ⟨σ1,H2,I2,q2⟩
end
structure It where
 go:Nat->Hp->Prop
 yld:Nat->Hp->V->Hp->Prop
 stop:Nat->Hp->Prop
def rE(X:Cx)(kQ:hV)(H:Hp)(b:Addr):Prop:=
 H b=none/\b≠X.env.locals/\b∉X.fs/\(b∈X.ex\/X.z5.heap.objs.size<=b)/\(∀x c,X.env.cells.lookup x=some c->c≠b)/\∀p∈X.ta++(X.pn++kQ),p.1≠b
def Inv.fpOk(I:Inv X kQ σ H s)(hb:s.heap.objs.size<=b)(hn:H' b=none):rE X kQ H' b:=by
 refine⟨hn,zDe (zAY I.lt hb),I.nofs hb,.inr (zAe I.sz hb),λ x c e z=>?_,λ p hp z=>?_⟩
 .obtain⟨v,q⟩:=I.cell x c e
  exact absurd (zAY q.lt (by rw[z];exact hb)) (zB7 _)
 .exact absurd (zAY (I.pinL hp) (by rw[z];exact hb)) (zB7 _)
structure Turn(P:zAP)(w:World)(K:zAA)(tg:Expr)(J:It)(fp:List Addr)(it:Addr)(tn:Nat->Heap->Prop):Prop where
 mem:it∈fp
 obj:∀i h,tn i h->∀b∈fp,∃o,h.get? b=some o/\∀v,o.data≠.cell v
 keep:∀i h h',tn i h->(∀b∈fp,∀o,h.get? b=some o->h'.get? b=some o)->tn i h'
 item:∀(X:Cx),X.prog=P->X.w=w->X.K=K->X.calm=true->∀(i:Nat) (kQ:hV) (s:zAB) (σ:St) (H:Hp) (E:Value->zAB->Prop),Inv X kQ σ H s->(∀b∈fp,rE X kQ H b)->tn i s.heap->J.go i H->
  wpAny (model P w) X.A (pyNext (.ref it)) (λ r s1=>∃u,r=some u/\
   wpAny (model P w) X.A (zED tg (.ref it) u) (λ _ s2=>∃x H',Inv X kQ σ H' s2/\RelV x u/\J.yld i H x H'/\tn (i+1) s2.heap/\∀b∈fp,H' b=none) E s1) E s
 done:∀(X:Cx),X.prog=P->X.w=w->X.K=K->X.calm=true->∀(i:Nat) (kQ:hV) (s:zAB) (σ:St) (H:Hp) (E:Value->zAB->Prop),Inv X kQ σ H s->(∀b∈fp,rE X kQ H b)->tn i s.heap->J.stop i H->
  wpAny (model P w) X.A (pyNext (.ref it)) (λ r s1=>r=none/\Inv X kQ σ H s1) E s
 self:∀(A:zA7) (i:Nat) (s:zAB) (Q:Value->zAB->Prop) (E:Value->zAB->Prop),tn i s.heap->Q (.ref it) s->wpAny (model P w) A (pyIter (.ref it)) Q E s
abbrev TI:=St->Hp->(It->Hp->Prop)->Prop
def PIE(X:Cx)(kQ:hV)(σ:St)(tg:Expr)(R:It->Hp->Prop)(itv:Value)(s2:zAB):Prop:=
 ∃(it:Addr) (fp:List Addr) (tn:Nat->Heap->Prop) (J:It) (H':Hp),itv= .ref it/\Inv X kQ σ H' s2/\Turn X.prog X.w X.K tg J fp it tn/\tn 0 s2.heap/\(∀b∈fp,rE X kQ H' b)/\R J H'
def PI(X:Cx)(tg iter:Expr)(wi:TI):Prop:=
 ∀(kQ:hV) (s:zAB) (σ:St) (H:Hp) (R:It->Hp->Prop),Inv X kQ σ H s->wi σ H R->
  wpAny (model X.prog X.w) X.A (eval iter X.env) (λ v s1=>wpAny (model X.prog X.w) X.A (pyIter v) (PIE X kQ σ tg R) X.xe s1) X.xe s
def aEL(ho:s.heap.get? it=some o)(hc:o.cls= .type n)(hd:o.data= .fields vs)
    (hn:["enumerate","zip","dict_itemiterator","dict_reverseitemiterator","odict_iterator","itertools.zip_longest","itertools.pairwise"].contains n=false)(hQ:Q () s):wpAny M A (zED tg (.ref it) u) Q E s:=by
  unfold zED;cases tg<;>first
    |exact zA6 hQ
    | (cases u <;> first
        |exact zA6 hQ
        | (refine zAI (wpAny_load ho ?_)
           rw[hc,hd];show wpAny M A (if (["enumerate","zip","dict_itemiterator","dict_reverseitemiterator","odict_iterator","itertools.zip_longest","itertools.pairwise"].contains n&&vs[0]? ==some (rawInt _))=true then _ else _) Q E s;rw[if_neg (by intro h;rw[hn,Bool.false_and]at h;cases h)];exact zA6 hQ))
def Itl(K:zAA)(a:Addr):It:=
 ⟨λ i H=>∃xs x,SqL K H a xs/\xs[i]? =some x,λ i H x H'=>H'=H/\∀xs,SqL K H a xs->xs[i]? =some x,λ i H=>∃xs,SqL K H a xs/\xs.length<=i⟩
def Itt(K:zAA)(a:Addr):It:=
 ⟨λ i H=>∃xs x,SqT K H a xs/\xs[i]? =some x,λ i H x H'=>H'=H/\∀xs,SqT K H a xs->xs[i]? =some x,λ i H=>∃xs,SqT K H a xs/\xs.length<=i⟩
def Itr(lo:Int)(n:Nat):It:=⟨λ i _=>i<n,λ i H x H'=>H'=H/\x= .int (lo+i),λ i _=>n<=i⟩
def aBd{P:zAP}{w:World}{K:zAA}{tg:Expr}(a it:Addr):Turn P w K tg (Itl K a) [it] it (λ i h=>h.IsListIter it a i) where
 mem:=by simp
 obj:=λ i h st b hb=>by
  have e:b=it:=by simpa using hb
  subst e;obtain⟨o,e,c,d⟩:=st;exact⟨o,e,λ v z=>by rw[d]at z;cases z⟩
 keep:=λ i h h' st k=>st.at λ o e=>k it (by simp) o e
 item:=by
  intro X hP hw hK hc i kQ s σ H E I hf st hg;subst hP hw hK;obtain⟨xs,x,hq,hx⟩:=hg;obtain⟨its,rv,p,hz⟩:=I.list hq;obtain⟨u,hu,ru⟩:=rv.get hx;obtain⟨f0,f1,f2,f3,f4,f5⟩:=hf it (by simp);refine wpAny_pyNext_list_item st p.isList (x:=u) (by simpa using hu) λ h' st' sb=>?_
  have I1:Inv X kQ σ H {s with heap:=h'}:=I.turned (t':=s.toks) (λ b o hb e=>(sb.2 b hb).trans e) f0 f1 f3 f4 f5;obtain⟨o,e,c,d⟩:=id st';exact⟨u,rfl,aEL (s:={s with heap:=h'}) e c d (by decide) ⟨x,H,I1,ru,⟨rfl,λ ys hy=>by rw[I.list_inj hy hq];exact hx⟩,st',λ b hb=>(hf b hb).1⟩⟩
 done:=by
  intro X hP hw hK hc i kQ s σ H E I hf st hg;subst hP hw hK;obtain⟨xs,hq,hx⟩:=hg;obtain⟨its,rv,p,hz⟩:=I.list hq;obtain⟨f0,f1,f2,f3,f4,f5⟩:=hf it (by simp);have hl:=rv.length;exact wpAny_pyNext_list_end (I.ok.hd hc) st p.isList (by simp;lia) λ h' eb=>⟨rfl,I.turned (t':=s.toks) (λ b o hb e=>eb b o hb e) f0 f1 f3 f4 f5⟩
 self:=λ _ _ _ _ _ st h=>wpAny_pyIter_listiter st h
def z6{P:zAP}{w:World}{K:zAA}{tg:Expr}(a it:Addr):Turn P w K tg (Itt K a) [it] it (λ i h=>h.IsTupleIter it a i) where
 mem:=by simp
 obj:=λ i h st b hb=>by
  have e:b=it:=by simpa using hb
  subst e;obtain⟨o,e,c,d⟩:=st;exact⟨o,e,λ v z=>by rw[d]at z;cases z⟩
 keep:=λ i h h' st k=>st.at λ o e=>k it (by simp) o e
 item:=by
  intro X hP hw hK hc i kQ s σ H E I hf st hg;subst hP hw hK;obtain⟨xs,x,hq,hx⟩:=hg;obtain⟨its,rv,p,hz⟩:=I.tuple hq;obtain⟨u,hu,ru⟩:=rv.get hx;obtain⟨f0,f1,f2,f3,f4,f5⟩:=hf it (by simp);refine wpAny_pyNext_tuple_item st (show s.heap.IsTuple a its.toArray from p) (x:=u) (by simpa using hu) λ h' st' sb=>?_
  have I1:Inv X kQ σ H {s with heap:=h'}:=I.turned (t':=s.toks) (λ b o hb e=>(sb.2 b hb).trans e) f0 f1 f3 f4 f5;obtain⟨o,e,c,d⟩:=id st';exact⟨u,rfl,aEL (s:={s with heap:=h'}) e c d (by decide) ⟨x,H,I1,ru,⟨rfl,λ ys hy=>by rw[I.tuple_inj hy hq];exact hx⟩,st',λ b hb=>(hf b hb).1⟩⟩
 done:=by
  intro X hP hw hK hc i kQ s σ H E I hf st hg;subst hP hw hK;obtain⟨xs,hq,hx⟩:=hg;obtain⟨its,rv,p,hz⟩:=I.tuple hq;obtain⟨f0,f1,f2,f3,f4,f5⟩:=hf it (by simp);have hl:=rv.length;exact wpAny_pyNext_tuple_end (I.ok.hd hc) st (show s.heap.IsTuple a its.toArray from p) (by simp;lia) λ h' eb=>⟨rfl,I.turned (t':=s.toks) (λ b o hb e=>eb b o hb e) f0 f1 f3 f4 f5⟩
 self:=λ _ _ _ _ _ st h=>wpAny_pyIter_tupleiter st h
def z7{P:zAP}{w:World}{K:zAA}{tg:Expr}(it:Addr)(lo:Int)(n:Nat):Turn P w K tg (Itr lo n) [it] it (λ i h=>IsRangeIter h it (lo+(i:Nat)*1) ((n:Int)-(i:Nat)) 1) where
 mem:=by simp
 obj:=λ i h st b hb=>by
  have e:b=it:=by simpa using hb
  subst e;exact⟨_,st,λ v z=>by
   have z':Data.fields _=Data.cell v:=z;cases z'⟩
 keep:=λ i h h' st k=>k it (by simp) _ st
 item:=by
  intro X hP hw hK hc i kQ s σ H E I hf st hg;subst hP hw hK;obtain⟨f0,f1,f2,f3,f4,f5⟩:=hf it (by simp);have W:=Walks.range (prog:=X.prog) (w:=X.w) (I.ok.hd hc) it lo 1 n;refine W.item i s _ _ hg st λ v h' tk hv st' kk=>?_
  obtain⟨t,rfl⟩:=hv;have I1:Inv X kQ σ H {s with heap:=h',toks:=tk}:=I.turned (λ b o hb e=>kk b o (by simpa using hb) e) f0 f1 f3 f4 f5;refine⟨_,rfl,aEL (s:={s with heap:=h',toks:=tk}) (n:="range_iterator") st' rfl rfl (by decide) ⟨.int (lo+i),H,I1,⟨t,?_⟩,⟨rfl,rfl⟩,st',λ b hb=>(hf b hb).1⟩⟩;rw[Int.mul_one]
 done:=by
  intro X hP hw hK hc i kQ s σ H E I hf st hg;subst hP hw hK;obtain⟨f0,f1,f2,f3,f4,f5⟩:=hf it (by simp);exact wpAny_pyNext_range_end (I.ok.hd hc) st (by have:n<=i:=hg;lia) λ h' eb=>⟨rfl,I.turned (t':=s.toks) (λ b o hb e=>eb b o hb e) f0 f1 f3 f4 f5⟩
 self:=λ _ _ _ _ _ st h=>wpAny_pyIter_rangeiter st h
section
variable{X:Cx}{tg:Expr}
def aDG{kQ:hV}{σ:St}{H:Hp}{s:zAB}{R:It->Hp->Prop}{E:Value->zAB->Prop}{lo hi:Int}{t u v:Tok}{tk:Nat}(I:Inv X kQ σ H s)(h1: -(2^62)<=lo)(h2:lo<2^62)(h3: -(2^62)<=hi)(h4:hi<2^62)
  (q:R (Itr lo (hi-lo).toNat) H):wpAny (model X.prog X.w) X.A (pyIter (.ref s.heap.objs.size)) (PIE X kQ σ tg R) E {s with heap:=s.heap.push {cls:=.type "range",data:=.fields #[.int lo t,.int hi u,.int 1 v]},toks:=tk}:=by
 refine wpAny_pyIter_range (IsRange.new ..) (small_one h1 h2 h3 h4) ?_;have I1:Inv X kQ σ H {s with heap:=s.heap.push {cls:=.type "range",data:=.fields #[.int lo t,.int hi u,.int 1 v]},toks:=tk}:=I.kept λ b o e=>zAG _ e
 refine⟨(s.heap.push {cls:=.type "range",data:=.fields #[.int lo t,.int hi u,.int 1 v]}).objs.size,[(s.heap.push {cls:=.type "range",data:=.fields #[.int lo t,.int hi u,.int 1 v]}).objs.size],_,_,H,rfl,
  I1.kept (t':=tk) λ b o e=>zAG _ e,z7 _ lo (hi-lo).toNat,?_,λ b hb=>?_,q⟩
 .have e1:lo+((0:Nat):Int)*1=lo:=by simp
  have e2:(((hi-lo).toNat:Nat):Int)-((0:Nat):Int)=zBW lo hi 1:=by rw[rangeSize_one];split<;>lia
  show IsRangeIter _ _ (lo+((0:Nat):Int)*1) ((((hi-lo).toNat:Nat):Int)-((0:Nat):Int)) 1;rw[e1,e2];exact zAa _ rfl
 .have e:b=(s.heap.push {cls:=.type "range",data:=.fields #[.int lo t,.int hi u,.int 1 v]}).objs.size:=by simpa using hb
  subst e;exact I1.fpOk (zAL _) (I1.hok.fresh (zAL _))
def aJ2(ta:TA):TI:=λ σ H R=>ta σ H λ vs H1=>∃j:Int,vs=[.int j]/\-(2^62)<=j/\j<2^62/\R (Itr 0 j.toNat) H1
def aBu{a:Expr}{ta:TA}{p pos:Pos}(hg:Gl X "range")(hm:X.mg "range"=none)(ha:PA X [a] ta)(hs:zA2 [a] X.env=[(false,eval a X.env)]:=by rfl):PI X tg (.Call (.Name "range" p) [a] [] pos) (aJ2 ta):=by
 intro kQ s σ H R I h;refine Call_ (uC I hg hm boot_range (zC9 (thn (ha pos kQ s σ H _ I h) λ us s1 ⟨vs,H1,I1,r1,q1⟩=>?_) hs rfl));obtain⟨j,e,q1,q2,q⟩:=q1;subst e;cases r1 with
 |cons r rr=>
  cases rr;obtain⟨t,rfl⟩:=r;exact call_range_1 (aDG I1 (by lia) (by lia) q1 q2 (by simpa using q))
def aIu(wi:TI)(g:TG)(tb:TS):TS:=λ D σ H=>wi σ H λ J H1=>∃W:Nat->Nat->St->Hp->Prop,(∃m,W 0 m σ H1)/\∀i m σ H,W i m σ H->
 (J.stop i H/\D.nx σ H)\/(J.go i H/\∃N:St->Hp->Prop,(∀σ' H',N σ' H'->∃m',m'<m/\W (i+1) m' σ' H')/\∀x H',J.yld i H x H'->g x σ H' λ σ2 H2=>tb {D with nx:=N,ct:=N,bk:=D.nx} σ2 H2)
def tK(fp:List Addr)(h:Heap):hV:=fp.filterMap λ b=>(h.get? b).map λ o=>(b,o)
def n8(hb:b∈fp)(e:h.get? b=some o):(b,o)∈tK fp h:=zBf.mpr ⟨b,hb,by rw[e];rfl⟩
def vV(hp:p∈tK fp h):p.1∈fp/\h.get? p.1=some p.2:=by
 obtain⟨b,hb,e⟩:=zBf.mp hp;cases q:h.get? b with
 |none=>rw[q]at e;cases e
 |some o=>
  rw[q]at e;have e':(b,o)=p:=zAg e;subst e';exact⟨hb,q⟩
def Inv.pinned(I:Inv X kQ σ H s)(hf:∀b∈fp,rE X kQ H b)(ho:∀b∈fp,∃o,s.heap.get? b=some o/\∀v,o.data≠.cell v):Inv X (kQ++tK fp s.heap) σ H s:=
 I.pins_of (λ p hp=>(zAM.mp hp).elim (λ z=>I.pin p (zAZ _ z)) λ z=>by
  obtain⟨hb,e⟩:=vV z;obtain⟨f0,f1,f2,_⟩:=hf p.1 hb;obtain⟨o,e',d⟩:=ho p.1 hb;rw[e]at e';cases e';exact⟨e,f0,f1,f2,d⟩) λ q hq p hp=>(zAM.mp hq).elim (λ z=>(I.tab p hp).2.2.2.1 q (zAZ _ z)) λ z=>((hf q.1 (vV z).1).2.2.2.2.2 p (zAQ _ hp)).symm
def Inv.unpinned(I:Inv X (kQ++pl) σ H s):Inv X kQ σ H s:=I.pins_of (λ p hp=>I.pin p (zAZ _ (zAQ _ hp))) λ q hq p hp=>(I.tab p hp).2.2.2.1 q (zAZ _ (zAQ _ hq))
def aDR(hp:zG1 (model X.prog X.w) X.A X.env X.xe)(hc:X.calm=true)(hi:PI X tg iter wi)(hg:PG X tg g)(hb:PSs X body tb)
  (hs:∀x,zCP iter X.env x=pure x:=by intro _;rfl):PS X (.For tg iter body [] pos) (aIu wi g tb):=by
 intro kQ s σ H D I h;refine wpAny_For (thn (hi kQ s σ H _ I h) λ v s1 h1=>thn h1 λ itv s2 h2=>?_) hs;obtain⟨it,fp,tn,J,H2,e,I2,T,st2,f2,W,⟨m0,w0⟩,turn⟩:=h2;subst e;have aS:∀{H':Hp},(∀b∈fp,H' b=none)->∀b∈fp,rE X kQ H' b:=λ hn b hb=>⟨hn b hb,(f2 b hb).2⟩
 refine codeAny_forLoop_any (λ n s'=>∃i σ' H',Inv X kQ σ' H' s'/\tn i s'.heap/\(∀b∈fp,H' b=none)/\W i n σ' H') ?_ m0 ⟨0,σ,H2,I2,st2,λ b hb=>(f2 b hb).1,w0⟩;rintro n s3 ⟨i,σ3,H3,I3,st3,fr3,w3⟩;rcases turn i n σ3 H3 w3 with ⟨stop,qn⟩|⟨go,N,hN,step⟩
 .refine zCN hp (thn (T.done X rfl rfl rfl hc i kQ s3 σ3 H3 X.xe I3 (aS fr3) st3 stop) λ r s4 ⟨hr,I4⟩=>?_)
  subst hr;exact zDO ⟨σ3,H3,I4,qn⟩
 .refine zCN hp (thn (T.item X rfl rfl rfl hc i kQ s3 σ3 H3 X.xe I3 (aS fr3) st3 go) λ r s4 ⟨u,hr,h4⟩=>?_)
  subst hr;refine zCN hp (thn h4 λ _ s5 ⟨x,H5,I5,r5,y5,st5,fr5⟩=>?_);have I5':=I5.pinned (aS fr5) (T.obj _ _ st5);refine zCN hp (thn (hg _ s5 σ3 H5 x u _ I5' r5 (step x H5 y5)) λ _ s6 ⟨σ6,H6,I6,q6⟩=>?_);refine zCN hp (thn (hb _ s6 σ6 H6 _ I6 q6) λ f s7 q7=>?_);have again:∀{σ7:St} {H7:Hp},Inv X (kQ++tK fp s5.heap) σ7 H7 s7->N σ7 H7->∃m,m<n/\∃i σ' H',Inv X kQ σ' H' s7/\tn i s7.heap/\(∀b∈fp,H' b=none)/\W i m σ' H':=λ{σ7 H7} I7 n7=>by
   obtain⟨m',hm,w7⟩:=hN σ7 H7 n7;refine⟨m',hm,i+1,σ7,H7,I7.unpinned,T.keep _ _ _ st5 λ b hb o e=>(I7.pin (b,o) (zAZ _ (zAZ _ (n8 hb e)))).1,λ b hb=>?_,w7⟩;obtain⟨o,e,d⟩:=T.obj _ _ st5 b hb;exact(I7.pin (b,o) (zAZ _ (zAZ _ (n8 hb e)))).2.1
  cases f with
  |next=>obtain⟨σ7,H7,I7,n7⟩:=q7;exact again I7 n7
  |cont=>obtain⟨σ7,H7,I7,n7⟩:=q7;exact again I7 n7
  |brk=>obtain⟨σ7,H7,I7,q7⟩:=q7;exact⟨σ7,H7,I7.unpinned,q7⟩
  |ret v=>obtain⟨x7,σ7,H7,I7,r7,q7⟩:=q7;exact⟨x7,σ7,H7,I7.unpinned,r7,q7⟩
end
abbrev R2:=V->V->Hp->VK->Prop
def OpR(X:Cx)(f:Value->Value->Sem Value)(r:R2):Prop:=
 ∀(kQ:hV) (s:zAB) (σ:St) (H:Hp) (x y:V) (v u:Value) (Q:VK),Inv X kQ σ H s->RelV x v->RelV y u->r x y H Q->
  wpAny (model X.prog X.w) X.A (f v u) (EP X kQ σ Q) X.xe s
def dw(X:Cx)(f:Value)(r:List V->Hp->VK->Prop):Prop:=
 ∀(kQ:hV) (s:zAB) (σ:St) (H:Hp) (xs:List V) (us:List Value) (Q:VK),Inv X kQ σ H s->Vals xs us->r xs H Q->
  wpAny (model X.prog X.w) X.A (call f us) (EP X kQ σ Q) X.xe s
def aKD(X:Cx)(r:V->Hp->(Bool->Hp->Prop)->Prop):Prop:=
 ∀(kQ:hV) (s:zAB) (σ:St) (H:Hp) (x:V) (v:Value) (Q:Bool->Hp->Prop),Inv X kQ σ H s->RelV x v->r x H Q->
  wpAny (model X.prog X.w) X.A (truthy v) (TP X kQ σ Q) X.xe s
def tOp(r:R2)(ta tb:TE):TE:=λ σ H Q=>ta σ H λ x H1=>tb σ H1 λ y H2=>r x y H2 Q
def rI(C:Int->Int->Prop)(g:Int->Int->V):R2:=λ x y H Q=>∃i j,x= .int i/\y= .int j/\C i j/\Q (g i j) H
def rI0(g:Int->Int->V):R2:=λ x y H Q=>∃i j,x= .int i/\y= .int j/\Q (g i j) H
section
variable{X:Cx}{a b:Expr}{ta tb:TE}{pos:Pos}
def aI9(ha:PE X a ta)(hb:PE X b tb){kQ:hV}{s:zAB}{σ:St}{H:Hp}{R:V->V->Hp->Prop}(I:Inv X kQ σ H s)
  (h:ta σ H λ x H1=>tb σ H1 λ y H2=>R x y H2){Q:Value->zAB->Prop}{f:Value->Value->Sem Value}
  (hf:∀v u s2 x y H2,Inv X kQ σ H2 s2->RelV x v->RelV y u->R x y H2->wpAny (model X.prog X.w) X.A (f v u) Q X.xe s2):
  wpAny (model X.prog X.w) X.A (eval a X.env) (λ v z4=>wpAny (model X.prog X.w) X.A (eval b X.env) (λ u zS=>wpAny (model X.prog X.w) X.A (f v u) Q X.xe zS) X.xe z4) X.xe s:=by
 refine thn (ha kQ s σ H _ I h) λ v s1 ⟨x,H1,I1,r1,q1⟩=>?_
 refine thn (hb kQ s1 σ H1 _ I1 q1) λ u s2 ⟨y,H2,I2,r2,q2⟩=>?_
 exact hf v u s2 x y H2 I2 r1 r2 q2
def aBE{op:Operator}{r:R2}(ho:OpR X (zBg op) r)(ha:PE X a ta)(hb:PE X b tb):PE X (.BinOp a op b pos) (tOp r ta tb):=by
 intro kQ s σ H Q I h;exact wpAny_BinOp (aI9 ha hb I h λ v u s2 x y H2 I2 rx ry q=>ho kQ s2 σ H2 x y v u Q I2 rx ry q)
def opI{f:Value->Value->Sem Value}{C:Int->Int->Prop}{g:Int->Int->Int}
  (rule:∀(i j:Int) (t u:Tok) (s:zAB) (Q:Value->zAB->Prop) (E:Value->zAB->Prop),C i j->Q (.int (g i j) s.toks) {s with toks:=s.toks+1}->wpAny (model X.prog X.w) X.A (f (.int i t) (.int j u)) Q E s):
  OpR X f (rI C λ i j=>.int (g i j)):=by
 intro kQ s σ H x y v u Q I rx ry h;obtain⟨i,j,rfl,rfl,hc,q⟩:=h;obtain⟨t,rfl⟩:=rx;obtain⟨t',rfl⟩:=ry;exact rule i j t t' s _ _ hc ⟨.int (g i j),H,I.tok _,⟨_,rfl⟩,q⟩
def aJT{f:Value->Value->Sem Value}{g:Int->Int->Int}
  (rule:∀(i j:Int) (t u:Tok) (s:zAB) (Q:Value->zAB->Prop) (E:Value->zAB->Prop),Q (.int (g i j) s.toks) {s with toks:=s.toks+1}->wpAny (model X.prog X.w) X.A (f (.int i t) (.int j u)) Q E s):
  OpR X f (rI0 λ i j=>.int (g i j)):=by
 intro kQ s σ H x y v u Q I rx ry h;obtain⟨i,j,rfl,rfl,q⟩:=h;obtain⟨t,rfl⟩:=rx;obtain⟨t',rfl⟩:=ry;exact rule i j t t' s _ _ ⟨.int (g i j),H,I.tok _,⟨_,rfl⟩,q⟩
def aHy{f:Value->Value->Sem Value}{g:Int->Int->Bool}
  (rule:∀(i j:Int) (t u:Tok) (s:zAB) (Q:Value->zAB->Prop) (E:Value->zAB->Prop),Q (.bool (g i j)) s->wpAny (model X.prog X.w) X.A (f (.int i t) (.int j u)) Q E s):
  OpR X f (rI0 λ i j=>.bl (g i j)):=by
 intro kQ s σ H x y v u Q I rx ry h;obtain⟨i,j,rfl,rfl,q⟩:=h;obtain⟨t,rfl⟩:=rx;obtain⟨t',rfl⟩:=ry;exact rule i j t t' s _ _ ⟨.bl (g i j),H,I,rfl,q⟩
def aJf(i j:Int):Prop:=0<j/\j<1073741824
def aKJ(i j:Int):Prop:=0<=j/\j<=1000000/\i.natAbs<2^64
def aG6(i j:Int):Prop:=(-(2^64)<i/\i<2^64)\/(-(2^64)<j/\j<2^64)
def aG6.ok(h:aG6 i j):IntMulOk i j:=by
 rcases h with ⟨h1,h2⟩|⟨h1,h2⟩
 .exact .of_left (intBits_le_64 h1 h2)
 .exact .of_right (intBits_le_64 h1 h2)
def aHx:OpR X (zBg .Add) (rI0 λ i j=>.int (i+j)):=aJT λ _ _ _ _ _ _ _ q=>add_int q
def aHn:OpR X (zBg .Sub) (rI0 λ i j=>.int (i-j)):=aJT λ _ _ _ _ _ _ _ q=>sub_int q
def aHr:OpR X (zBg .Mult) (rI aG6 λ i j=>.int (i*j)):=opI λ _ _ _ _ _ _ _ hc q=>mul_int q hc.ok
def aF4:OpR X (zBg .FloorDiv) (rI aJf λ i j=>.int (i / j)):=opI λ i j _ _ _ _ _ hc q=>by
 have h1:(0:Int)<j:=hc.1;have h2:j<1073741824:=hc.2;exact floordiv_int (by lia) (by rw[Int.fdiv_eq_ediv_of_nonneg i (by lia)];exact q) (.inl (PyProof.noPylong_small (by lia)))
def aHs:OpR X (zBg .Mod) (rI (λ _ j=>0<j) λ i j=>.int (i%j)):=opI λ i j _ _ _ _ _ hc q=>by
 have h1:(0:Int)<j:=hc;exact mod_int' (by lia) (by rw[Int.fmod_eq_emod_of_nonneg i (by lia)];exact q)
def aHp:OpR X (zBg .Pow) (rI aKJ λ i j=>.int (i^j.toNat)):=opI λ _ _ _ _ _ _ _ hc q=>pow_int_small hc.1 hc.2.1 hc.2.2 q
end
section
variable{X:Cx}{a b c:Expr}{ta tb:TE}{pos:Pos}
def aJR:OpR X (zBO .Lt) (rI0 λ i j=>.bl (decide (i<j))):=aHy λ _ _ _ _ _ _ _ q=>lt_int q
def aJS:OpR X (zBO .Gt) (rI0 λ i j=>.bl (decide (j<i))):=aHy λ _ _ _ _ _ _ _ q=>gt_int q
def aGr:OpR X (zBO .GtE) (rI0 λ i j=>.bl (decide (j<=i))):=aHy λ _ _ _ _ _ _ _ q=>ge_int q
def isObj:HO->Bool
 | .lst _=>true
 | .ins _ _ _=>true
 |_=>false
def aD8(b:Expr)(h:op≠.In:=by decide)(h2:op≠.NotIn:=by decide):zBk op b=false:=by
 have e1:(op==CmpOp.In)=false:=by cases op<;>first|rfl|exact absurd rfl h
 have e2:(op==zHD)=false:=by cases op<;>first|rfl|exact absurd rfl h2
 cases b<;>simp[zBk,e1,e2]
def aFX{op:CmpOp}{r:R2}(ho:OpR X (zBO op) r)(ha:PE X a ta)(hb:PE X b tb)(hm:zBk op b=false):PE X (.Compare a [op] [b] pos) (tOp r ta tb):=by
 intro kQ s σ H Q I h;exact wpAny_Compare1 (aI9 ha hb I h λ v u s2 x y H2 I2 rx ry q=>ho kQ s2 σ H2 x y v u Q I2 rx ry q) hm
def aGa(t:TE):TT:=λ σ H Q=>t σ H λ x H'=>∃k,x= .bl k/\Q k H'
def aFQ(ho:OpR X (zBO op) r)(ha:PE X a ta)(hb:PE X b tb)(hm:zBk op b=false):PT X (.Compare a [op] [b] pos) (aGa (tOp r ta tb)):=by
 intro kQ s σ H Q I h;refine zG6 (thn (ha kQ s σ H _ I h) λ v s1 ⟨x,H1,I1,r1,q1⟩=>thn (hb kQ s1 σ H1 _ I1 q1) λ u s2 ⟨y,H2,I2,r2,q2⟩=>
  thn (ho kQ s2 σ H2 x y v u _ I2 r1 r2 q2) λ c s3 ⟨z,H3,I3,r3,k,e,q3⟩=>?_) hm
 subst e;cases r3;exact zCR ⟨H3,I3,q3⟩
def aIe(K:zAA)(x:V)(H:Hp)(k:Bool):Prop:=
 match x with
 | .non=>k=false
 | .bl b=>k=b
 | .int i=>k=(i !=0)
 | .str y=>y.length<=zAN/\k=((y.length:Int)!=0)
 | .byt y=>y.size<=zAN/\k=((y.size:Int)!=0)
 | .ref p=>(∃xs,SqL K H p xs/\k= !xs.isEmpty)\/(∃xs,SqT K H p xs/\k= !xs.isEmpty)\/∃kvs,H p=some (.dK kvs)/\k= !kvs.isEmpty
 |_=>False
def aAW(r:KV kvs vs):(!vs.isEmpty)= !kvs.isEmpty:=by
 cases r<;>rfl
def uI(r:Vals xs its):(!its.toArray.isEmpty)= !xs.isEmpty:=by
 cases r<;>simp
def tZ:(zAN:Nat)<2^63:=by rw[zCL];decide
def aHF:aKD X (λ x H Q=>∃k,aIe X.K x H k/\Q k H):=by
 intro kQ s σ H x v Q I rx h;obtain⟨k,e,q⟩:=h;have hl:=tZ;have hs:zAN=16777216:=zCL;cases x with
 |non=>
  cases rx;have e':k=false:=e;subst e';exact truthy_none ⟨H,I,q⟩
 |bl b=>
  cases rx;have e':k=b:=e;subst e';exact zCR ⟨H,I,q⟩
 |int i=>
  obtain⟨t,rfl⟩:=rx;have e':k=(i !=0):=e;subst e';exact PySem.P.truthy_int ⟨H,I,q⟩
 |str y=>
  obtain⟨t,rfl⟩:=rx;obtain⟨hy,e'⟩:y.length<=zAN/\k=((y.length:Int)!=0):=e;subst e';exact PySem.P.truthy_str (by lia) ⟨H,I.tok _,q⟩
 |byt y=>
  obtain⟨t,rfl⟩:=rx;obtain⟨hy,e'⟩:y.size<=zAN/\k=((y.size:Int)!=0):=e;subst e';exact PySem.W.truthy_bytes (by lia) ⟨H,I.tok _,q⟩
 |ref p=>
  cases rx;have e':(∃xs,SqL X.K H p xs/\k= !xs.isEmpty)\/(∃xs,SqT X.K H p xs/\k= !xs.isEmpty)\/∃kvs,H p=some (.dK kvs)/\k= !kvs.isEmpty:=e
  rcases e' with ⟨xs,hx,e'⟩|⟨xs,hx,e'⟩|⟨kvs,hx,e'⟩
  .subst e'
   obtain⟨its,r,pl,hz⟩:=I.list hx;have kX:=r.length;exact wpAny_truthy_list pl.isList (by simp only[zAJ];lia) ⟨H,I.tok _,by rw[uI r];exact q⟩
  .subst e'
   obtain⟨its,r,pl,hz⟩:=I.tuple hx;have kX:=r.length;exact truthy_tuple pl (by simp only[zAJ];lia) ⟨H,I.tok _,by rw[uI r];exact q⟩
  .subst e'
   obtain⟨hz,hS,vs,r,m⟩:kvs.length<=zAN/\(p==zGG)=false/\∃vs,KV kvs vs/\s.heap.DictOf (xH X.prog X.w) p vs:=I.hok p _ hx
   have kX:kvs.length=vs.length:=zGb r;exact wpAny_truthy_dict hS m (by lia) ⟨H,I.tok _,by rw[aAW r];exact q⟩
 |_=>exact(show False from e).elim
def aDN(ha:PE X a ta)(he:∀whole,isTrue a X.env whole=(do let v <-whole;zGS a.pos;zDL [v] (truthy v))):
  PT X a (λ σ H Q=>ta σ H λ x H'=>∃k,aIe X.K x H' k/\Q k H'):=by
 intro kQ s σ H Q I h;exact isTrue_plain (thn (ha kQ s σ H _ I h) λ v s1 ⟨x,H1,I1,r1,q1⟩=>aHF kQ s1 σ H1 x v Q I1 r1 q1) (he _)
def vals1(r:Vals [x] us):∃u,us=[u]/\RelV x u:=by
 cases r with
 |cons r1 r2=>cases r2;exact⟨_,rfl,r1⟩
def vals2(r:Vals [x,y] us):∃u w',us=[u,w']/\RelV x u/\RelV y w':=by
 cases r with
 |cons r1 r2=>
  cases r2 with
  |cons r3 r4=>cases r4;exact⟨_,_,rfl,r1,r3⟩
def aCV(hc:X.calm=true):dw X (.builtin "max") (λ xs H Q=>∃i j,xs=[.int i,.int j]/\Q (.int (if j>i then j else i)) H):=by
 intro kQ s σ H xs us Q I r h;obtain⟨i,j,rfl,q⟩:=h;obtain⟨u,w',rfl,⟨t,rfl⟩,⟨t',rfl⟩⟩:=vals2 r;refine max_two_ints (I.ok.hd hc) λ h' tk k=>⟨_,H,I.kept k,?_,q⟩
 by_cases hj:j>i
 .rw[if_pos hj,if_pos hj];exact⟨_,rfl⟩
 .rw[if_neg hj,if_neg hj];exact⟨_,rfl⟩
def aCT(hc:X.calm=true):dw X (.builtin "min") (λ xs H Q=>∃i j,xs=[.int i,.int j]/\Q (.int (if j<i then j else i)) H):=by
 intro kQ s σ H xs us Q I r h;obtain⟨i,j,rfl,q⟩:=h;obtain⟨u,w',rfl,⟨t,rfl⟩,⟨t',rfl⟩⟩:=vals2 r;refine min_two_ints (I.ok.hd hc) λ h' tk k=>⟨_,H,I.kept k,?_,q⟩
 by_cases hj:j<i
 .rw[if_pos hj,if_pos hj];exact⟨_,rfl⟩
 .rw[if_neg hj,if_neg hj];exact⟨_,rfl⟩
end
structure aG3(h:Heap)(x dx C:Addr)(mA:Str->Option Value):Prop where
 obj:h.get? x=some (zBi C dx)
 ns:h.Ns1 dx mA
 ne:dx≠x
def aCE{h:Heap}{dx:Addr}{mA:Str->Option Value}(n:h.Ns1 dx mA):∃od,h.get? dx=some od/\∀name,zD9 name od=some (mA name):=by
 obtain⟨o,es,ep,ho,hd,hk,_,hm⟩:=n;refine⟨o,ho,λ name=>?_⟩;have e:=hm name;unfold nsFind findBy at e;rw[<-Array.find?_toList]at e;unfold zD9;rw[hd];dsimp only;split
 .rename_i y q
  rw[q]at e;exact congrArg some e
 .rename_i q
  rw[q]at e;have a:es.toList.any (·.refKey)=false:=by
   rw[List.any_eq_false];intro y hy;obtain⟨z,t,hkey⟩:=hk y (Array.mem_toList_iff.mp hy);simp[DictEntry.refKey,hkey]
  have a':¬es.toList.any (·.refKey)=true:=by rw[a];exact zAT
  rw[if_neg a'];exact congrArg some e
def aG3.look(I:aG3 h x dx C mA):∃od,zGW h x (zBi C dx) C (some od)/\∀name,zD9 name od=some (mA name):=
 let⟨od,ho,hl⟩:=aCE I.ns
 ⟨od,⟨I.obj,rfl,rfl,ho⟩,hl⟩
section
variable{prog:zAP}{w:World}{A:zA7}{E:Value->zAB->Prop}{s:zAB}{K:zAA}{x dx C f:Addr}{mA:Str->Option Value}{name:Str}
def aEN(X:K.In s.heap)(I:aG3 s.heap x dx C mA)(hg:zEM K C name=true)
  (hf:zAs K (.ref C) name=some (some (.ref f)))(ht:zGc K (.ref f)=true)(hv:mA name=none)(h:Q (.ref f,[.ref x]) s):
  wpAny (model prog w) A (getMethod (.ref x) name pl) Q E s:=by
 obtain⟨od,J,hl⟩:=I.look;exact PySem.W.method_fn X J (zF6 hg).1 (zF6 hg).2 hf (beq_iff_eq.mp ht) (by show(zD9 name od).map (·.isSome)=some false;rw[hl,hv];rfl) h
def make_map(X:K.In s.heap)(hm:PySem.W.makesIn K C=true)
  (hi:zAs K (.ref C) "__init__"=some (some (.ref f)))(hf:PySem.W.typeIn K (.ref f)=some (.type "function"))
  (h:zDC (model prog w) (A.under (.builtin "type.__call__" ⟨.ref C::vs,kw⟩)) (.call (.ref f) ⟨.ref (s.heap.objs.size+1)::vs,kw⟩) (PySem.W.InitBack (s.heap.objs.size+1) R)
   {s with heap:=(s.heap.push zBN).push (zBi C s.heap.objs.size)}):
  zDC (model prog w) A (.call (.ref C) ⟨vs,kw⟩) R s:=by
 obtain⟨hh,g,d,t,os⟩:=s;exact PySem.W.make_core (PySem.W.makes_of X hm) (zCg X hi) (λ self=>PySem.W.bind_fn X self hf) (.inl rfl) h
end
def aC0.none_of(r:aC0 none o):o=none:=by
 cases o with
 |none=>rfl
 |some u=>exact(show False from r).elim
section
variable{P:zAP}{w:World}{H:Hp}{h:Heap}{a C dx:Addr}{fs:List (Str×V)}
def aBT(hok:HOk P w H h)(e:H a=some (.ins C dx fs)):∃mA,aG3 h a dx C mA/\(∀f,aC0 (fs.lookup f) (mA f))/\zGu mA (fs.map (·.1))/\fs.length<=1000/\H dx=some (.own a):=by
 obtain⟨d,z,ne,ob,mA,n,r,q⟩:=(show dC P w H h a (.ins C dx fs)from hok a _ e);exact⟨mA,⟨ob,n,ne⟩,r,q,z,d⟩
end
structure Cls(K:zAA)(C:Addr):Prop where
 pg:zEM K C Str.empty=true
 hd:PySem.W.hasDictIn K C=true
 po:PySem.W.plainOver K C=true
 sa:zAs K (.ref C) "__setattr__"=some (some (.builtin "object.__setattr__"))
def Cls.get{K:zAA}{C:Addr}(c:Cls K C)(f:Str):zEM K C f=true:=c.pg
def aIj(K:zAA)(C:Addr)(f:Str):Prop:=zAs K (.ref C) f=some none
structure Meth(K:zAA)(C:Addr)(m:Str)(f:Addr):Prop where
 at_:zAs K (.ref C) m=some (some (.ref f))
 fn:zGc K (.ref f)=true
 kp:zBR K (.ref f)=true
section
variable{X:Cx}{kQ:hV}{σ:St}{H:Hp}{s:zAB}{a C dx:Addr}{fs:List (Str×V)}{A:zA7}{E:Value->zAB->Prop}
def aAY(I:Inv X kQ σ H s)(e:H a=some (.ins C dx fs))(c:Cls X.K C)(k:Meth X.K C m g)(l:fs.lookup m=none)
  (h:Q (.ref g,[.ref a]) s):wpAny (model X.prog X.w) A (getMethod (.ref a) m pl) Q E s:=by
 obtain⟨mA,O,r,_,_,_⟩:=aBT I.hok e;have hn:mA m=none:=aC0.none_of (by rw[<-l];exact r m);exact aEN I.kIn O (c.get m) k.at_ k.fn hn h
def Inv.made(I:Inv X kQ σ H s):Inv X kQ σ (upd (upd H s.heap.objs.size (.own (s.heap.objs.size+1))) (s.heap.objs.size+1) (.ins C s.heap.objs.size []))
  {s with heap:=(s.heap.push zBN).push (zBi C s.heap.objs.size)}:=by
 have e1:(s.heap.push zBN).get? s.heap.objs.size=some zBN:=zAa s.heap rfl;have e2:((s.heap.push zBN).push (zBi C s.heap.objs.size)).get? (s.heap.objs.size+1)=some (zBi C s.heap.objs.size):=by
  have:=zAa (s.heap.push zBN) (o:=zBi C s.heap.objs.size) rfl
  rwa [zCa]at this
 have e3:(s.heap.push zBN).Ns s.heap.objs.size (λ _=>none):=⟨zBN,#[],_,e1,rfl,(λ e he=>absurd he (by simp)),λ _=>rfl⟩;have I1:=I.laid (a:=s.heap.objs.size) (o:=.own (s.heap.objs.size+1)) (h':=s.heap.push zBN) (t':=s.toks) (λ b u q=>zAG _ q) (zAL _) ⟨_,e1⟩;refine I1.laid (a:=s.heap.objs.size+1) (o:=.ins C s.heap.objs.size []) (t':=s.toks) (λ b u q=>zAG _ q) (zE3 (zCa _ _)) ?_;have ne:s.heap.objs.size≠s.heap.objs.size+1:=zAf (zEc _);refine⟨by rw[aU ne,ak],zAc _,ne,e2,λ _=>none,(Heap.Ns1.of_empty e3).at λ o q=>zAG _ q,λ _=>zDT,λ y hy=>absurd rfl hy⟩
end
def tFld(K:zAA)(ta:TE)(f:Str):TE:=λ σ H Q=>ta σ H λ x H1=>∃a C dx fs v,x= .ref a/\H1 a=some (.ins C dx fs)/\Cls K C/\aIj K C f/\fs.lookup f=some v/\Q v H1
section
variable{X:Cx}{e:Expr}{f:Str}{pos:Pos}
def methcall_of(he:PE X e te)(I:Inv X kQ σ H s)
  (h:te σ H λ x H1=>∃a C dx fs g,x= .ref a/\H1 a=some (.ins C dx fs)/\Cls X.K C/\Meth X.K C m g/\fs.lookup m=none/\
   ∀s1,Inv X kQ σ H1 s1->wpAny (model X.prog X.w) X.A (callWith pos (.ref g) [.ref a] (zCI pos (zA2 args X.env)) (zEh pos (zDM [] X.env))) Q X.xe s1)
  (ht:eval (.Call (.Attribute e m apos) args [] pos) X.env=(do
   let ov <-eval e X.env
   zGS apos.atName
   let(f,first) <-zDL [ov] (getMethod ov m pl)
   callWith pos f first (zCI pos (zA2 args X.env)) (zEh pos (zDM [] X.env)))):
  wpAny (model X.prog X.w) X.A (eval (.Call (.Attribute e m apos) args [] pos) X.env) Q X.xe s:=by
 refine PySem.W.methodCall_KW (pl:=pl) (thn (he kQ s σ H _ I h) λ u s1 ⟨x,H1,I1,rx,a,C,dx,fs,g,ex,ea,c,k,l,q⟩=>?_) ht;subst ex;obtain rfl:u=zBH a:=rx;exact aAY I1 ea c k l (q s1 I1)
end
section
variable{X:Cx}{kQ:hV}{σ:St}{H:Hp}{s:zAB}{A:zA7}{E:Value->zAB->Prop}{Q:Value->zAB->Prop}{c:Value}{b:Bool}
inductive qQ(K:zAA)(H:Hp):V->Value->Prop where
 |non:qQ K H .non (.type "NoneType")
 |bl (x:Bool):qQ K H (.bl x) (.type "bool")
 |int (i:Int):qQ K H (.int i) (.type "int")
 |str (x:Str):qQ K H (.str x) (.type "str")
 |flt (x:UInt64):qQ K H (.flt x) (.type "float")
 |lst {a:Addr} {xs:List V} (e:H a=some (.lst xs)):qQ K H (.ref a) (.type "list")
 |frz {a:Addr} {o:Obj} {xs:List V} (e:H a=some (.frz o (.lst xs))):qQ K H (.ref a) (.type "list")
 |tup {a:Addr} {xs:List V} (e:H a=some (.tup xs)):qQ K H (.ref a) (.type "tuple")
 |dK {a:Addr} {kvs:List (Key×V)} (e:H a=some (.dK kvs)):qQ K H (.ref a) (.type "dict")
 |dT {a:Addr} {kvs:List (List Key×V)} (e:H a=some (.dT kvs)):qQ K H (.ref a) (.type "dict")
 |ins {a C dx:Addr} {fs:List (Str×V)} (e:H a=some (.ins C dx fs)) (cl:Cls K C) (ha:zAs K (.ref C) "__class__"=some (some (.builtin "object.__class__")))
   (hn:PySem.W.specialIn K (.builtin "object.__class__") "__get__"=some (some (.builtin "getset_descriptor.__get__"))) (htk:PySem.W.takesIn K (.builtin "object.__class__")=some true)
   (hm:PySem.W.mroIn K C (.type "object")=some true):qQ K H (.ref a) (.ref C)
def aCM(I:Inv X kQ σ H s)(rx:RelV x u)(ty:qQ X.K H x t)(e:zB4 X.K t c=some b)(h:∀tk,Q (.bool b) {s with toks:=tk}):
  wpAny (model X.prog X.w) A (call (.builtin "isinstance") [u,c]) Q E s:=by
 cases ty with
 |non=>cases (show u=zBZ from rx);exact zAr PySem.W.kitx_none I.kIn zDT e (λ z=>nomatch z) h
 |bl y=>cases (show u=zC8 y from rx);exact zAr PySem.W.kitx_bool I.kIn zDT e (λ z=>nomatch z) h
 |int i=>obtain⟨t,q⟩:=(show∃t,u=zD3 i t from rx);cases q;exact zAr PySem.W.kitx_int I.kIn zDT e (λ z=>nomatch z) h
 |str y=>obtain⟨t,q⟩:=(show∃t,u=zG3 y t from rx);cases q;exact zAr PySem.W.kitx_str I.kIn zDT e (λ z=>nomatch z) h
 |flt y=>obtain⟨t,q⟩:=(show∃t,u=zHI y t from rx);cases q;exact zAr PySem.W.kitx_float I.kIn zDT e (λ z=>nomatch z) h
 |@lst a xs ea=>
  cases (show u=zBH a from rx);obtain⟨_,_,n,_,h1⟩:=(show dC X.prog X.w H s.heap a (.lst xs)from I.hok a _ ea);exact zAr zFz I.kIn ⟨_,h1,rfl⟩ e (λ z=>nomatch z) h
 |@frz a ob xs ea=>
  cases (show u=zBH a from rx);obtain⟨_,_,_,n,_,h1⟩:=(show dC X.prog X.w H s.heap a (.frz ob (.lst xs))from I.hok a _ ea);exact zAr zFz I.kIn ⟨_,h1,rfl⟩ e (λ z=>nomatch z) h
 |@tup a xs ea=>
  cases (show u=zBH a from rx);obtain⟨_,_,_,p⟩:=(show dC X.prog X.w H s.heap a (.tup xs)from I.hok a _ ea);obtain⟨o,h1,h2,_⟩:=p;exact zAr zFq I.kIn ⟨o,h1,h2⟩ e (λ z=>nomatch z) h
 |@dK a kvs ea=>
  cases (show u=zBH a from rx);obtain⟨_,_,vs,_,p⟩:=(show dC X.prog X.w H s.heap a (.dK kvs)from I.hok a _ ea);obtain⟨o,es,ep,h1,h2,_⟩:=p;exact zAr zDz I.kIn ⟨o,h1,h2.1⟩ e (λ z=>nomatch z) h
 |@dT a kvs ea=>
  cases (show u=zBH a from rx);obtain⟨_,_,xs,_,o,es,ep,h1,h2,_⟩:=(show dC X.prog X.w H s.heap a (.dT kvs)from I.hok a _ ea);exact zAr zDz I.kIn ⟨o,h1,h2.1⟩ e (λ z=>nomatch z) h
 |@ins a C dx fs ea cl ha hn htk hm=>
  cases (show u=zBH a from rx);obtain⟨mA,O,_⟩:=aBT I.hok ea;obtain⟨od,J,_⟩:=O.look;exact zAr (PySem.W.kitx_own (cl.get _) cl.hd ha hn htk hm) I.kIn J e (λ z=>nomatch z) h
end
structure dq(k:Nat)(A:zA7):Prop where
 hd:A.handled=none
 dp:A.depth+3*k+5<zER
 un:A.units+16*k+200<cLine
def dq.mono(r:dq k A)(h:j<=k):dq j A:=⟨r.hd,by have:=r.dp;lia,by have:=r.un;lia⟩
theorem dq.deeper(r:dq (k+1) A)(env:Env):dq k (A.deeper env):=
 ⟨r.hd,by have:=r.dp;show A.depth+1+3*k+5<_;lia,by have:=r.un;show A.units+3+16*k+200<_;lia⟩
theorem dq.depth(r:dq k A):A.depth<zER:=by have:=r.dp;lia
theorem dq.units(r:dq k A):A.units+64<cLine:=by have:=r.un;lia
def dq.units0(r:dq k A):A.units<cLine:=by have:=r.un;lia
def pX:TA:=λ _ H Q=>Q [] H
def iG(ta:TE)(tr:TA):TA:=λ σ H Q=>ta σ H λ x H1=>tr σ H1 λ xs H2=>Q (x::xs) H2
section
variable{X:Cx}{e:Expr}{es:List Expr}{te:TE}{t:TA}{pos:Pos}
def dF:PA X [] pX:=λ _ _ _ _ H Q I h=>Calls.spliced_nil ⟨[],H,I,.nil,h⟩
def aX(ha:PE X e te)(hr:PA X es t)(hs:zA2 (e::es) X.env=(false,eval e X.env)::zA2 es X.env:=by rfl):PA X (e::es) (iG te t):=by
 intro pos kQ s σ H Q I h;rw[hs];show wpAny _ _ (spliced ((false,eval e X.env)::zCI pos (zA2 es X.env))) _ _ s;refine Calls.spliced_cons (thn (ha kQ s σ H _ I h) λ u s1 ⟨x,H1,I1,r1,q1⟩=>?_);exact thn (hr pos kQ s1 σ H1 _ I1 q1) λ us s2 ⟨xs,H2,I2,r2,q2⟩=>⟨x::xs,H2,I2,.cons r1 r2,q2⟩
def aJi(t:TA):TE:=λ σ H Q=>t σ H λ xs H1=>xs.length<=zAN/\∀p,H1 p=none->Q (.ref p) (upd H1 p (.tup xs))
def aJn(t:TA):TE:=λ σ H Q=>t σ H λ xs H1=>xs.length<=zAN/\∀p,H1 p=none->Q (.ref p) (upd H1 p (.lst xs))
def aHb{x1}(h:PA X es t):PE X (.Tuple es x1 pos) (aJi t):=by
 intro kQ s σ H Q I hq;refine wpAny_Tuple_spliced (thn (h pos kQ s σ H _ I hq) λ us s1 ⟨xs,H1,I1,r,z,q⟩=>⟨by rw[<-r.length];exact z,?_⟩);have hf:H1 s1.heap.objs.size=none:=I1.hok.fresh (zAL _);refine⟨.ref s1.heap.objs.size,upd H1 s1.heap.objs.size (.tup xs),I1.laid (t':=s1.toks) (λ b u e=>zAG _ e) (zAL _) ?_,rfl,q _ hf⟩;exact⟨⟨z,NoD.push _⟩,us,r,⟨_,zAa _ rfl,rfl,_,rfl⟩⟩
def aHe(h:PA X es t):PE X (.List es pos) (aJn t):=by
 intro kQ s σ H Q I hq;refine wpAny_List_spliced (thn (h pos kQ s σ H _ I hq) λ us s1 ⟨xs,H1,I1,r,z,q⟩=>⟨by rw[<-r.length];exact z,?_⟩);have hf:H1 s1.heap.objs.size=none:=I1.hok.fresh (zAL _);refine⟨.ref s1.heap.objs.size,upd H1 s1.heap.objs.size (.lst xs),I1.laid (t':=s1.toks) (λ b u e=>zAG _ e) (zAL _) ?_,rfl,q _ hf⟩;exact⟨z,us,0,r,zAa _ rfl⟩
end
abbrev Sp:=List V->Hp->VK->XK->Prop
abbrev CXT:=List Env->Hp->zAB->XK->Value->zAB->Prop
structure zX(P:zAP)(w:World)(K:zAA)(mg:Str->Option Value)(base:Heap)(A:zA7)(outer:List Env)(s:zAB)(H:Hp):Prop where
 frames:A.frames=some outer
 mod:Mod K mg base
 bs:∀b o,base.get? b=some o->s.heap.get? b=some o/\H b=none
 bsz:base.objs.size<=s.heap.objs.size
 funs:s.heap.FunFrames base outer
 frf:∀b∈frs outer,H b=none
 hok:HOk P w H s.heap
 bare:zDw s.gens
def CE(outer:List Env)(P:zAP)(w:World)(H:Hp)(s:zAB)(Q:VK)(u:Value)(s':zAB):Prop:=
 ∃v H',s'.os=s.os/\zDw s'.gens/\Un (frs outer) [] H H' s.heap s'.heap/\HOk P w H' s'.heap/\RelV v u/\Q v H'
def CR(CX:CXT)(outer:List Env)(P:zAP)(w:World)(H:Hp)(s:zAB)(Q:VK)(E:XK)(r:zEQ)(s':zAB):Prop:=
 match r with
 | .ok (.ret u)=>CE outer P w H s Q u s'
 | .ok _=>False
 | .error e=>CX outer H s E e s'
structure dH(P:zAP)(w:World)(K:zAA)(mg:Str->Option Value)(base:Heap)(CX:CXT)(k:Nat)(f:Addr)(fd:zAh)(ps:List Str)(sp:Sp):Prop where
 len:∀vs H Q E,sp vs H Q E->vs.length=ps.length
 run:∀(A:zA7) (outer:List Env) (s:zAB) (H:Hp) (args:Args) (us:List Value) (vs:List V) (Q:VK) (E:XK),dq k A->zX P w K mg base A outer s H->zGI s fd args (ps.zip us)->Vals vs us->sp vs H Q E->
  zDC (model P w) A (.call (.ref f) args) (CR CX outer P w H s Q E) s
section
variable{X:Cx}{kQ:hV}{σ:St}{H:Hp}{s s':zAB}
def Inv.env0(I:Inv X kQ σ H s):zX X.prog X.w X.K X.mg X.base X.A X.stack s H:=
 ⟨I.ok.frames,I.ok.mod,I.bs,zAe I.ok.bsz I.sz,I.stack,I.stkFree,I.hok,I.bare⟩
def Inv.after(I:Inv X kQ σ H s)(h:CE X.stack X.prog X.w H s Q u s'):EP X kQ σ Q u s':=by
 obtain⟨v,H',os,bare,un,hok,r,q⟩:=h;obtain⟨hh,g,d,t,os'⟩:=s';obtain rfl:os'=s.os:=os;exact⟨v,H',I.call (h':=hh) (g':=g) (d':=d) (t':=t) (ch:=[]) un hok bare (λ b z=>absurd z (by simp)),r,q⟩
end
def yE(sp:Sp)(dvs:List V)(E:XK)(t:TA):TE:=λ σ H Q=>t σ H λ vs H1=>sp (vs++dvs) H1 Q E
def tMeth(C:Addr)(m:Str)(sp:Sp)(dvs:List V)(E:XK)(ta:TE)(t:TA):TE:=λ σ H Q=>ta σ H λ x H1=>∃a dx fs,x= .ref a/\H1 a=some (.ins C dx fs)/\fs.lookup m=none/\
 t σ H1 λ vs H2=>sp (x::(vs++dvs)) H2 Q E
def tMake(C:Addr)(sp:Sp)(dvs:List V)(E:XK)(t:TA):TE:=λ σ H Q=>t σ H λ vs H1=>∀x dx,H1 x=none->H1 dx=none->dx≠x->
 sp (.ref x::(vs++dvs)) (upd (upd H1 dx (.own x)) x (.ins C dx [])) (λ v H2=>v= .non/\Q (.ref x) H2) E
def Binds(K:zAA)(fd:zAh)(ps:List Str)(ds:List Value):Prop:=
 ∀(s:zAB) (us:List Value),K.In s.heap->(us++ds).length=ps.length->zGI s fd ⟨us,[]⟩ (ps.zip (us++ds))
def Binds.all{K:zAA}{fd:zAh}{ps:List Str}(h:∀us:List Value,us.length=ps.length->zGw fd ⟨us,[]⟩=pure (ps.zip us)):Binds K fd ps []:=λ s us _ hl=>by
 rw[zAb]at hl ⊢;exact .of_eq (h us hl)
def oJ(CX:CXT)(X:Cx)(E:XK):Prop:=∀(kQ:hV) (σ:St) (H:Hp) (s:zAB) (e:Value) (s':zAB),Inv X kQ σ H s->CX X.stack H s E e s'->X.xe e s'
section
variable{X:Cx}{CX:CXT}{k:Nat}{f:Addr}{fd:zAh}{ps:List Str}{sp:Sp}{dvs:List V}{ds:List Value}{E:XK}{x:Str}{p pos:Pos}{e:Expr}{es:List Expr}{t:TA}
def aCy(F:dH X.prog X.w X.K X.mg X.base CX k f fd ps sp)(hr:dq k X.A)(hb:Binds X.K fd ps ds)(hd:Vals dvs ds)(hx:oJ CX X E)
  (I:Inv X kQ σ H s)(r:Vals vs us)(h:sp (vs++dvs) H Q E):wpAny (model X.prog X.w) X.A (call (.ref f) us) (EP X kQ σ Q) X.xe s:=by
 have r2:Vals (vs++dvs) (us++ds):=r.append hd;have hl:(us++ds).length=ps.length:=by rw[<-r2.length];exact F.len _ _ _ _ h
 refine zHN (zEC (F.run X.A X.stack s H ⟨us,[]⟩ (us++ds) (vs++dvs) Q E hr I.env0 (hb s us I.kIn hl) r2 h) λ r s' hq=>?_);cases r with
 |error e=>exact hx kQ σ H s e s' I hq
 |ok fl=>
  cases fl with
  |ret u=>exact I.after hq
  |next=>exact zAH hq
  |brk=>exact zAH hq
  |cont=>exact zAH hq
def aFY(F:dH X.prog X.w X.K X.mg X.base CX k f fd ps sp)(hr:dq k X.A)(hg:Gl X x)(hm:X.mg x=some (.ref f))(hk:zBR X.K (.ref f)=true)(hb:Binds X.K fd ps ds)(hd:Vals dvs ds)(hx:oJ CX X E)
  (ha:PA X (e::es) t)(hdb:Nd x:=by decide)(he:zA2 (e::es) X.env=(false,eval e X.env)::zA2 es X.env:=by rfl)(hpl:(zCI pos (zA2 es X.env)).any (·.1)=false:=by rfl):
  PE X (.Call (.Name x p) (e::es) [] pos) (yE sp dvs E t):=by
 intro kQ s σ H Q I h;refine zBl (mU I hg hm ?_ hdb);refine zDo (h₀:=X.base) I.ok.mod.kin hk (thn (ha pos kQ s σ H _ I h) λ us s1 ⟨vs,H1,I1,r,q⟩=>⟨I1.kIn,?_⟩) he hpl;exact aCy F hr hb hd hx I1 r q
end
structure bA(N P:List Str)(sc:Scope):Prop where
 kind:sc.kind= .function
 co:sc.isCoroutine=false
 gen:sc.isGenerator=false
 nd:N.Nodup
 pre:N.take P.length=P
 par:∀x∈P,sc.names.lookup x=some .local\/sc.names.lookup x=some .cell
 nofree:∀y∈sc.names,y.2≠.free
theorem vp{zCm:Str->Option zDG}{x:Str}:∀{binds:List (Str×Value)} {m:Str->Option Value},(∀v,(x,v)∉binds)->bindL zCm binds m x=m x
 |[],_,_=>rfl
 |(n,v)::r,m,h=>by
  unfold bindL;rw[vp λ w hw=>h w (zAF _ hw)];split
  .have:x≠n:=by rintro rfl;exact h v zAD
   simp[this]
  .rfl
theorem vy{zCm:Str->Option zDG}{x:Str}:∀{binds:List (Str×Value)} {m:Str->Option Value},(∀v,(x,v)∉binds)->bindC zCm binds m x=m x
 |[],_,_=>rfl
 |(n,v)::r,m,h=>by
  unfold bindC;rw[vy λ w hw=>h w (zAF _ hw)];split
  .rfl
  .have:x≠n:=by rintro rfl;exact h v zAD
   simp[this]
theorem vq{zCm:Str->Option zDG}{x:Str}{v:Value}:∀{P:List Str} {vs:List Value} {i:Nat} {m:Str->Option Value},P.Nodup->P[i]? =some x->vs[i]? =some v->zCm x=some .local->
  bindL zCm (P.zip vs) m x=some v
 |[],_,_,_,_,h,_,_=>by simp at h
 |_::_,[],_,_,_,_,h,_=>by simp at h
 |p::P,w::vs,0,m,nd,h1,h2,hk=>by
  simp at h1 h2;subst h1;subst h2;show bindL zCm ((p,w)::P.zip vs) m p=_;unfold bindL;rw[vp λ v hv=>(zBB.mp nd).1 (zC3 hv).1,if_pos hk];simp
 |p::P,w::vs,i+1,m,nd,h1,h2,hk=>by
  show bindL zCm ((p,w)::P.zip vs) m x=_;unfold bindL;exact vq (i:=i) (zBB.mp nd).2 (by simpa using h1) (by simpa using h2) hk
theorem vz{zCm:Str->Option zDG}{x:Str}{v:Value}:∀{P:List Str} {vs:List Value} {i:Nat} {m:Str->Option Value},P.Nodup->P[i]? =some x->vs[i]? =some v->zCm x≠some .local->
  bindC zCm (P.zip vs) m x=some v
 |[],_,_,_,_,h,_,_=>by simp at h
 |_::_,[],_,_,_,_,h,_=>by simp at h
 |p::P,w::vs,0,m,nd,h1,h2,hk=>by
  simp at h1 h2;subst h1;subst h2;show bindC zCm ((p,w)::P.zip vs) m p=_;unfold bindC;rw[vy λ v hv=>(zBB.mp nd).1 (zC3 hv).1,if_neg hk];simp
 |p::P,w::vs,i+1,m,nd,h1,h2,hk=>by
  show bindC zCm ((p,w)::P.zip vs) m x=_;unfold bindC;exact vz (i:=i) (zBB.mp nd).2 (by simpa using h1) (by simpa using h2) hk
def start(N:List Str)(vs:List V):St:=vs.map some++zAO (N.length-vs.length) none
def rC(CX:CXT)(P:zAP)(w:World)(K:zAA)(mg:Str->Option Value)(base:Heap)(N:List Str)(qual:Str)(scope:Scope)(f:Addr)(cd:Value)(A:zA7)(outer:List Env)(s:zAB)(H:Hp)(E:XK):Cx where
 prog:=P
 w:=w
 K:=K
 mg:=mg
 base:=base
 A:=A.deeper (zCV qual scope s.heap.objs.size f cd)
 N:=N
 z5:=s
 zI:=H
 env:=zCV qual scope s.heap.objs.size f cd
 outer:=outer
 stack:=zCV qual scope s.heap.objs.size f cd::outer
 ex:=[]
 calm:=true
 fn:=λ _=>true
 pn:=[]
 xe:=λ e s'=>wpAny (model P w) (A.deeper (zCV qual scope s.heap.objs.size f cd)) (leaving (zCV qual scope s.heap.objs.size f cd) e) (λ _ s''=>CX outer H s E e s'') (λ e' s''=>CX outer H s E e' s'') s'
def pR{sc:Scope}{n:Nat}{x:Str}(h:sc.names.lookup x=some .cell):∃c,(zCU n sc.names []).lookup x=some c:=by
 have q:=zC4 sc.names n [] (.inl h);exact Option.isSome_iff_exists.mp q
def qK{CX:CXT}{P:zAP}{w:World}{K:zAA}{mg:Str->Option Value}{base:Heap}{N ps:List Str}{qual:Str}{scope:Scope}{f:Addr}{cd:Value}{A:zA7}{outer:List Env}{s s1:zAB}{H:Hp}{E:XK}{us:List Value}{vs:List V}
  (S:bA N ps scope)(hd:A.handled=none)(e0:zX P w K mg base A outer s H)(hl:vs.length=ps.length)(r:Vals vs us)
  (x:InCallC s s.heap.objs.size (bindL (zCV qual scope s.heap.objs.size f cd).kindOf (ps.zip us) λ _=>none) (zCU (s.heap.objs.size+1) scope.names []) (bindC (zCV qual scope s.heap.objs.size f cd).kindOf (ps.zip us) λ _=>none) s1):
  Inv (rC CX P w K mg base N qual scope f cd A outer s H E) [] (start N vs) H s1:=by
 have hpl:ps.length<=N.length:=by have:=congrArg zCz S.pre;rw[zB2]at this;lia
 obtain⟨h1,tk,rfl,hk⟩:=x.done;have noA:∀b:Addr,b∉(rC CX P w K mg base N qual scope f cd A outer s H E).ex:=λ b z=>absurd (show b∈([]:List Addr)from z) (by simp)
 refine⟨⟨e0.mod,S.kind,rfl,rfl,zAL _,λ y z c h1 h2=>?_,λ y hy=>?_,λ y c _ h=>?_,λ _=>hd,zFW e0.frames,.inr ⟨rfl,rfl⟩,λ b z=>absurd z (noA b),e0.bs,e0.bsz,λ b _ _=>noA b,λ b z=>absurd z (noA b),e0.funs,e0.frf⟩,
  rfl,e0.bare,Un.kept hk,⟨_,x.toInCall.ns,λ i y v h1 h2 h3=>?_⟩,λ y c h=>⟨_,x.cell y c h⟩,e0.hok.fresh (zAL _),λ y c h=>?_,λ p hp=>absurd (show p∈([]:hV)from hp) (by simp),e0.hok.kept hk,?_,λ p hp=>absurd (show p∈([]:hV)from hp) (by simp)⟩
 .exact name_of_addr x.apart (zAd h1) (zAd h2)
 .have hy:scope.names.lookup y=some .cell\/scope.names.lookup y=some .free:=hy
  rcases hy with hy|hy
  .exact pR hy
  .exact absurd rfl (S.nofree _ (zAd hy))
 .exact zB9 (x.above y c (zAd h))
 .have hi:i<vs.length:=by
   unfold start at h2;by_cases hi:i<vs.length
   .exact hi
   .rw[zDE (by simpa using hi)]at h2
    rw[zFS]at h2;split at h2<;>cases h2
  have ha:vs[i]? =some v:=by
   unfold start at h2;rw[zDK (by simpa using hi),zAW]at h2;cases e:vs[i]? with
   |none=>rw[e]at h2;cases h2
   |some a=>rw[e]at h2;cases h2;rfl
  obtain⟨u,hu,rv⟩:=r.get ha;have hp:ps[i]? =some y:=by
   rw[<-S.pre,List.getElem?_take_of_lt (by lia)];exact h1
  have ndP:ps.Nodup:=by rw[<-S.pre];exact S.nd.sublist (List.take_sublist _ _)
  refine⟨u,rv,?_⟩;rcases S.par y (zAy hp)with k|k
  .exact .inl ⟨k,vq ndP hp hu k⟩
  .obtain⟨c,e⟩:=pR (n:=s.heap.objs.size+1) k
   refine .inr ⟨.inl k,c,e,?_⟩;have q:=x.cell y c e;rw[vz ndP hp hu (by show scope.names.lookup y≠_;rw[k];decide)]at q;exact q
 .exact e0.hok.fresh (zB9 (x.above y c (zAd h)))
 .unfold start
  show _=N.length;rw[zAC,zAE,zD7];lia
def aJ4{CX:CXT}{P:zAP}{w:World}{K:zAA}{mg:Str->Option Value}{base:Heap}{k:Nat}{f:Addr}{name qual:Str}{params:zCJ}{body:List Stmt}{scope:Scope}{dV kV doc pm cdv ct oc:Value}{an od:Option Addr}
  {osl:Array (Option Value)}{N ps:List Str}{sp:Sp}(lk:K.lookup f=some ⟨oc,od,.func (zBU name qual params body scope dV kV doc pm an cdv ct),osl⟩)(hcd:zC5 K cdv qual=true)(S:bA N ps scope)
  (len:∀vs H Q E,sp vs H Q E->vs.length=ps.length)
  (hbody:∀(A:zA7) (outer:List Env) (s:zAB) (H:Hp) (vs:List V) (Q:VK) (E:XK),dq k (A.deeper (zCV qual scope s.heap.objs.size f cdv))->sp vs H Q E->
   ∃t,PSs (rC CX P w K mg base N qual scope f cdv A outer s H E) body t/\t {nx:=λ _ H'=>Q .non H',rt:=Q} (start N vs) H):
  dH P w K mg base CX (k+1) f (zBU name qual params body scope dV kV doc pm an cdv ct) ps sp:=by
 refine⟨len,λ A outer s H args us vs Q E hr e0 hb r hsp=>?_⟩;have hl:=len _ _ _ _ hsp;have KX:K.In s.heap:=e0.mod.kin.keeps λ b o e=>(e0.bs b o e).1
 have lim:s.heap.NoLimit:=e0.mod.nolimit.keeps λ b o e=>(e0.bs b o e).1
 have bX:∀y∈ps.zip us,scope.names.lookup y.1=some .local\/(scope.names.lookup y.1=some .cell/\((zCU (s.heap.objs.size+1) scope.names []).lookup y.1).isSome=true):=λ⟨n,v⟩ hy=>by
  rcases S.par n (zC3 hy).1 with q|q
  .exact .inl q
  .exact .inr ⟨q,zC4 _ _ _ (.inl q)⟩
 refine zEB hr.depth (KX _ _ lk) rfl S.co S.gen rfl (zDp KX hcd) (hb _ _ _ _ ?_);refine zDX S.kind bX λ env he s1 x=>?_
 subst he;refine⟨lim.keeps x.toInCall.keep,zG4 ?_⟩;obtain⟨t,ht,hq⟩:=hbody A outer s H vs Q E (hr.deeper _) hsp;have I:Inv (rC CX P w K mg base N qual scope f cdv A outer s H E) [] (start N vs) H s1:=qK S hr.hd e0 hl r x;refine zB5 (ht [] s1 (start N vs) H _ I hq) (λ fl s' hs=>?_) λ e s' hs=>hs
 have fin:∀{σ':St} {H':Hp} {v:V} {u:Value},Inv (rC CX P w K mg base N qual scope f cdv A outer s H E) [] σ' H' s'->RelV v u->Q v H'->CE outer P w H s Q u s':=
  λ{σ' H' v u} J rv q=>⟨v,H',J.os,J.bare,J.base,J.hok,rv,q⟩
 cases fl with
 |ret u=>
  obtain⟨v,σ',H',J,rv,q⟩:=hs;exact fin J rv q
 |next=>
  obtain⟨σ',H',J,q⟩:=hs;exact fin (v:=V.non) (u:=zBZ) J rfl q
 |brk=>
  obtain⟨_,_,_,q⟩:=hs;exact zAH q
 |cont=>
  obtain⟨_,_,_,q⟩:=hs;exact zAH q
section
variable{X:Cx}{x:Str}{p pos:Pos}{e:Expr}{es:List Expr}{t:TA}{id T:String}{r:List V->Hp->VK->Prop}
def tCB(r:List V->Hp->VK->Prop)(t:TA):TE:=λ σ H Q=>t σ H λ vs H1=>r vs H1 Q
def o5(hc:dw X (.builtin id) r)(hg:Gl X x)(hm:X.mg x=none)(hv:zAn x=some (.builtin id))(ha:PA X (e::es) t)(hn:x≠"__name__":=by decide)(hdb:Nd x:=by decide)
  (he:zA2 (e::es) X.env=(false,eval e X.env)::zA2 es X.env:=by rfl)(hpl:(zCI pos (zA2 es X.env)).any (·.1)=false:=by rfl):PE X (.Call (.Name x p) (e::es) [] pos) (tCB r t):=by
 intro kQ s σ H Q I h;refine zBl (uC I hg hm hv ?_ hn hdb);exact PyProof.Rows.callWith_builtin1 (thn (ha pos kQ s σ H _ I h) λ us s1 ⟨vs,H1,I1,r1,q1⟩=>hc kQ s1 σ H1 vs us Q I1 r1 q1) he hpl
def mR(hc:dw X (.type T) r)(hg:Gl X x)(hm:X.mg x=none)(hv:zAn x=some (.type T))(ha:PA X (e::es) t)(hn:x≠"__name__":=by decide)(hdb:Nd x:=by decide)
  (he:zA2 (e::es) X.env=(false,eval e X.env)::zA2 es X.env:=by rfl)(hpl:(zCI pos (zA2 es X.env)).any (·.1)=false:=by rfl):PE X (.Call (.Name x p) (e::es) [] pos) (tCB r t):=by
 intro kQ s σ H Q I h;refine zBl (uC I hg hm hv ?_ hn hdb);exact zC9 (thn (ha pos kQ s σ H _ I h) λ us s1 ⟨vs,H1,I1,r1,q1⟩=>hc kQ s1 σ H1 vs us Q I1 r1 q1) he hpl
end
end L2
namespace HT
open PySem PyProof.Rows
def lexLt:List Int->List Int->Bool
 |[],[]=>false
 |[],_::_=>true
 |_::_,[]=>false
 |x::xs,y::ys=>if x=y then lexLt xs ys else decide (x<y)
def iR(x y:Int)(xs ys:List Int):lexLt (x::xs) (y::ys)=if x=y then lexLt xs ys else decide (x<y):=rfl
def uy:lexLt [] []=false:=rfl
def uA(y:Int)(ys:List Int):lexLt [] (y::ys)=true:=rfl
def uB(x:Int)(xs:List Int):lexLt (x::xs) []=false:=rfl
def aEX(A:zA7)(s:zAB)(a:Int)(t:Tok)(c:Int)(u:Tok):∃e,zCG A s (.int a t) (.int c u) e/\(e=true↔a=c):=
 ⟨(a==c),zFN a t c u,by simp⟩
def aDE(A:zA7)(s:zAB)(a:Int)(t:Tok)(c:Int)(u:Tok)(prog:zAP)(w:World)(E:Value->zAB->Prop)(Q:Value->zAB->Prop)(h:Q (.bool (decide (a<c))) s):
  wpAny (model prog w) A (zGk .Lt (.int a t) (.int c u)) Q E s:=
 (zEq h:wpAny (model prog w) A (zBO .Lt (.int a t) (.int c u)) Q E s)
section
open PySem.SeqAt
open PySem.AutoSeq1(wpAny_loadPart')
open PySem.MeetsSeq PySem.MeetsSeq2 PySem.MeetsSeq3
def um(l b:Addr)(items items2:Array Value)(n n2:Nat)(dd dd2:Option Addr)(sl sl2:Array (Option Value))(ns ms:List Int)(hi:zB6 items.toList ns)(hj:zB6 items2.toList ms):
  Meets (zDb.«tuple.__lt__» ⟨[.ref l,.ref b],[]⟩)
   (λ _ R s=>s.heap.get? l=some {cls:=.type "tuple",dict:=dd,data:=.seq items n,slots:=sl}/\s.heap.get? b=some {cls:=.type "tuple",dict:=dd2,data:=.seq items2 n2,slots:=sl2}/\
    R (.ok (.ret (.bool (lexLt ns ms)))) s):=
 .of_wp λ prog w A R s h=>by
  obtain⟨hp,g,d,tk,os⟩:=s;obtain⟨hl,hb,h⟩:=h;have f2:=AutoSeq1.sub_tuple_tuple;have z1:items.size=ns.length:=by rw[<-hi.length];simp
  have z2:items2.size=ms.length:=by rw[<-hj.length];simp
  wp_walk using zCM hl,zCM hb,wpAny_forIn_list _ (λ rest b s'=>b.1=none/\s'=⟨hp,g,d,tk,os⟩/\∃(vs ws:List Value) (ns' ms':List Int),rest=vs.zip ws/\
   zB6 vs ns'/\zB6 ws ms'/\ns'.length+items2.size=ms'.length+items.size/\R (.ok (.ret (.bool (lexLt ns' ms')))) ⟨hp,g,d,tk,os⟩) _
  case turn=>
   rintro⟨y,x⟩ rest b s' ⟨hb',rfl,vs,ws,ns',ms',hz,hvi,hwi,kX,hR⟩;cases hvi with
   |nil=>rw[List.zip_nil_left]at hz;cases hz
   |cons a t hvi'=>
    cases hwi with
    |nil=>rw[List.zip_nil_right]at hz;cases hz
    |cons c u hwi'=>
     rw[zB1]at hz;injection hz with hyx hrest
     injection hyx with hy hx
     subst hy hx;rw[iR]at hR;simp only[zAS]at kX;obtain⟨e,he,aE⟩:=aEX A.in1 ⟨hp,g,d,tk,os⟩ a t c u;refine zAI (he prog w _ _ ?_);cases e with
     |true=>
      rw[if_pos (aE.mp rfl)]at hR;wp_walk;exact⟨rfl,rfl,_,_,_,_,hrest,hvi',hwi',by lia,hR⟩
     |false=>
      rw[if_neg (λ q=>absurd (aE.mpr q) zAT)]at hR;have hri:=aDE A.in1 ⟨hp,g,d,tk,os⟩ a t c u prog w;wp_walk using hri;exact⟨_,rfl,by simpa using hR⟩
  case fin=>
   rintro⟨b1,b2⟩ s' ⟨hb',rfl,vs,ws,ns',ms',hz,hvi,hwi,kX,hR⟩;simp only at hb';subst hb';have hv:lexLt ns' ms'=decide (items.size<items2.size):=by
    cases hvi with
    |nil=>
     cases hwi with
     |nil=>
      simp only[zBX]at kX;rw[uy];exact(decide_eq_false (by lia)).symm
     |cons c u hw=>
      simp only[zBX,zAS]at kX;rw[uA];exact(decide_eq_true (by lia)).symm
    |cons a t hv=>
     cases hwi with
     |nil=>
      simp only[zBX,zAS]at kX;rw[uB];exact(decide_eq_false (by lia)).symm
     |cons c u hw=>
      rw[zB1]at hz;cases hz
   rw[hv]at hR;wp_walk;exact⟨_,rfl,by simpa[zHA]using hR⟩
  case h=>
   exact⟨rfl,rfl,items.toList,items2.toList,ns,ms,rfl,hi,hj,by lia,h⟩
end
section
variable{prog:zAP}{w:World}{A:zA7}{E:Value->zAB->Prop}{s:zAB}
def aAN(hl:IsTup s.heap l items)(hb:IsTup s.heap b items2)(hi:zB6 items.toList ns)(hj:zB6 items2.toList ms)
  (hu:A.units<cLine)(h:Q (.bool (lexLt ns ms)) s):wpAny (model prog w) A (zBO .Lt (.ref l) (.ref b)) Q E s:=by
 obtain⟨⟨cls,dd,data,sl⟩,ho,hc,n,hd⟩:=id hl;obtain⟨⟨cls2,dd2,data2,sl2⟩,ho2,hc2,n2,hd2⟩:=id hb;simp only at hc hd hc2 hd2;subst hc hd hc2 hd2;exact richCompare_meets_room (op:=.Lt) ⟨_,ho,rfl⟩ ⟨_,ho2,rfl⟩ PySem.F.slot_tuple_lt PySem.F.entry_tuple_lt (PySem.F.args_tuple_lt_2 _ _) (um l b items items2 n n2 dd dd2 sl sl2 ns ms hi hj)
  ⟨ho,ho2,show zC8 (lexLt ns ms)≠zFr/\Q (.bool (lexLt ns ms)) s from⟨(λ x=>nomatch x),h⟩⟩ hu
def aGS(ht:IsTup s.heap t vs.toArray)(hb:IsTup s.heap b ws.toArray)(hv:vs≠[])
  (h1:ws=[]->Q (.ref t) s)(h2:ws≠[]->Q (.ref s.heap.objs.size) {s with heap:=s.heap.push {cls:=.type "tuple",data:=.seq (vs++ws).toArray}})
  (hsz:vs.length+ws.length<=zAN):wpAny (model prog w) A (zBg .Add (.ref t) (.ref b)) Q E s:=by
 obtain⟨⟨cls,dd,data,sl⟩,ho,hc,n,hd⟩:=id ht;obtain⟨⟨cls2,dd2,data2,sl2⟩,ho2,hc2,n2,hd2⟩:=id hb;simp only at hc hd hc2 hd2;subst hc hd hc2 hd2;have e:vs.toArray++ws.toArray=(vs++ws).toArray:=by simp
 by_cases hw:ws=[]
 .exact zG5 ⟨_,ho,rfl⟩ ⟨_,ho2,rfl⟩ zDh zEj zBa zB3 (zBY _ _)
   (tuple_addW1 t b vs.toArray ws.toArray n n2 dd dd2 sl sl2 (by simpa using hv) (by simp[hw])) ⟨ho,ho2,h1 hw⟩
 .refine zG5 ⟨_,ho,rfl⟩ ⟨_,ho2,rfl⟩ zDh zEj zBa zB3 (zBY _ _)
   (tuple_addW2 t b vs.toArray ws.toArray n n2 dd dd2 sl sl2 (by simpa using hv) (by simpa using hw) (by rw[zAJ,zAJ];exact hsz)) ⟨ho,ho2,?_⟩
  rw[e];exact h2 hw
def sIx(n d:Nat):Option Int->Nat
 |none=>d
 |some v=>if v<0 then(v+(n:Int)).toNat else min v.toNat n
def yR(n d:Nat):sIx n d none=d:=rfl
def rQ(n d k:Nat):sIx n d (some (k:Int))=min k n:=by
 show(if (k:Int)<0 then((k:Int)+(n:Int)).toNat else min (k:Int).toNat n)=min k n
 rw[if_neg (by lia),zDU]
def aHV(n d:Nat)(hd:d<=n)(o:Option Int):sIx n d o<=n:=by
 cases o with
 |none=>exact hd
 |some v=>
  show(if v<0 then(v+(n:Int)).toNat else min v.toNat n)<=n
  by_cases hv:v<0
  .rw[if_pos hv];lia
  .rw[if_neg hv];exact Nat.min_le_right _ _
def aB8(v:Int)(n d:Nat):(if v<0 then max (v+(n:Int)) 0 else min v (n:Int))=((sIx n d (some v):Nat):Int):=by
 show(if v<0 then max (v+(n:Int)) 0 else min v (n:Int))=(((if v<0 then(v+(n:Int)).toNat else min v.toNat n):Nat):Int)
 by_cases hv:v<0
 .simp only[if_pos hv];lia
 .simp only[if_neg hv];lia
def aA8(lo hi:Option Int)(n:Nat):zCh lo hi 1 (n:Int)=(((sIx n 0 lo:Nat):Int),((sIx n n hi:Nat):Int)):=by
 have h1:¬((1:Int)<0):=by lia
 unfold zCh;simp only[h1,if_false];refine zEf ?_ ?_
 .cases lo with
  |none=>rfl
  |some v=>exact aB8 v n 0
 .cases hi with
  |none=>rfl
  |some v=>exact aB8 v n n
def aAD(i j:Nat):zCD (i:Int) (j:Int) 1=j-i:=by
 unfold zCD;have h1:(1:Int)>0:=by lia
 simp only[h1,if_true,Int.ediv_one];split<;>lia
def sV(p:zEO v o)(h:Q o s):wpAny (model prog w) A (zGz v) Q E s:=by
 cases p with
 |none=>exact slicePart_none h
 |int i t=>exact slicePart_int h
def jO{sl:Addr}{vl vu:Value}{lo hi:Option Int}{n:Nat}{Q:Int×Int×Nat->zAB->Prop}(hs:s.heap.IsSliceOf sl vl vu .none)(pl:zEO vl lo)(pu:zEO vu hi)
  (h:Q (((sIx n 0 lo:Nat):Int),1,sIx n n hi-sIx n 0 lo) s):wpAny (model prog w) A (zDr (.ref sl) (pure (n:Int))) Q E s:=by
 obtain⟨os,hos,hcs,hds⟩:=id hs;unfold zDr zGy;refine zAI (zAI (zDP hos hds (x:=vl) rfl (zAI (zDP hos hds (x:=vu) rfl (zAI (zDP hos hds (x:=.none) rfl (zA6 ?_)))))));refine zAI (slicePart_none ?_);show wpAny _ _ (if ((1:Int)==0)=true then _ else _) _ _ s;rw[if_neg (by decide)];refine zAI (sV pl (zAI (sV pu (zAI (zA6 ?_)))));show wpAny _ _ (match zCh lo hi 1 (n:Int)with|(lo,hi)=>pure (lo,(1:Int),zCD lo hi 1)) _ _ s;rw[aA8 lo hi n];show wpAny _ _ (pure (((sIx n 0 lo:Nat):Int),(1:Int),zCD ((sIx n 0 lo:Nat):Int) ((sIx n n hi:Nat):Int) 1)) _ _ s;rw[aAD];exact zA6 h
def aDT(xs:Array Value)(i k:Nat):((zAj k).filterMap λ(m:Nat)=>xs[((i:Int)+(m:Int)*1).toNat]?).toArray=((xs.toList.drop i).take k).toArray:=by
 have e:(λ(m:Nat)=>xs[((i:Int)+(m:Int)*1).toNat]?)=λ m=>xs[i+m]?:=by
  funext m
  have:((i:Int)+(m:Int)*1).toNat=i+m:=by lia
  rw[this]
 rw[e]
 have:=pick_run xs i k
 rw[List.filterMap_map]at this;have e2:((λ x=>xs[x]?)∘λ x=>i+x)=λ m=>xs[i+m]?:=rfl
 rw[e2]at this;rw[this]
def pI{t sl:Addr}{items:Array Value}{vl vu:Value}{lo hi:Option Int}{Q:Value->zAB->Prop}(ht:IsTup s.heap t items)(hs:s.heap.IsSliceOf sl vl vu .none)(pl:zEO vl lo)(pu:zEO vu hi)
  (hw:¬(sIx items.size 0 lo=0/\sIx items.size items.size hi=items.size))
  (h:Q (.ref s.heap.objs.size) {s with heap:=s.heap.push {cls:=.type "tuple",data:=.seq ((items.toList.drop (sIx items.size 0 lo)).take (sIx items.size items.size hi-sIx items.size 0 lo)).toArray}})
  (hsz:items.size<=zAN):wpAny (model prog w) A (zFa (.ref t) (.ref sl)) Q E s:=by
 have aT:sizeOk (.seq ((items.toList.drop (sIx items.size 0 lo)).take (sIx items.size items.size hi-sIx items.size 0 lo)).toArray):=by
  show((items.toList.drop (sIx items.size 0 lo)).take (sIx items.size items.size hi-sIx items.size 0 lo)).toArray.size<=zAN
  rw[zAJ,zB2,zBx,zBp];lia
 have hj:sIx items.size items.size hi<=items.size:=aHV _ _ (zAL _) hi;obtain⟨os,hos,hcs,hds⟩:=id hs;have hTs:s.TypeIs (.ref sl) "slice":=⟨os,hos,hcs⟩;unfold zFa
 try with_reducible refine zCQ ?_
 first|refine zAI (zA6 ?_)|skip
 refine zAI (zFE ht.typeIs (by decide) ?_);refine zAI (zCc (name:=zE6 "__getitem__") ht.typeIs zBI
  (zDD zBI ht.typeIs zGi ?_ (zGv _ _)))
 show wpAny _ _ (zDs (.ref t)>>=_) _ _ s;refine zAI (tupleItemsOf_ ht ?_);refine zAI (zDY hTs ?_);rw[if_pos (by decide)];refine zAI (jO hs pl pu ?_);have hno:¬((((sIx items.size 0 lo:Nat):Int)==0&&(1:Int)==1&&(sIx items.size items.size hi-sIx items.size 0 lo)==items.size)=true):=by
  intro q;rw[zAK,zAK]at q;have q1:((sIx items.size 0 lo:Nat):Int)=0:=zCs q.1.1;have q2:sIx items.size items.size hi-sIx items.size 0 lo=items.size:=zCs q.2;exact hw ⟨by lia,by lia⟩
 show wpAny _ _ (if (((sIx items.size 0 lo:Nat):Int)==0&&(1:Int)==1&&(sIx items.size items.size hi-sIx items.size 0 lo)==items.size)=true then _ else _) _ _ s;rw[if_neg hno,aDT]
 first
  |exact zAI (m:=zBP _) (zBw (zA6 ⟨_,rfl,zA6 h⟩) aT)
  |exact zAI (m:=zBP _) (zBw (zAI (zA6 (zA6 ⟨_,rfl,zA6 h⟩))) aT)
  |exact zAI (zAI (m:=zBP _) (zBw (zA6 (zA6 ⟨_,rfl,zA6 h⟩)) aT))
  |exact zAI (zAI (m:=zBP _) (zBw (zA6 ⟨_,rfl,zA6 h⟩) aT))
end
end HT
namespace L2
open PySem PySem.Spec PyProof.Rows
abbrev TO:=St->Hp->(Option Int->Hp->Prop)->Prop
def PO(X:Cx)(e:Option Expr)(t:TO):Prop:=
 ∀(kQ:hV) (s:zAB) (σ:St) (H:Hp) (Q:Option Int->Hp->Prop),Inv X kQ σ H s->t σ H Q->
  wpAny (model X.prog X.w) X.A (evalPart e X.env) (λ u s'=>∃o H',Inv X kQ σ H' s'/\zEO u o/\Q o H') X.xe s
def aEp:TO:=λ _ H Q=>Q none H
def aIs(t:TE):TO:=λ σ H Q=>t σ H λ x H1=>∃i,x= .int i/\Q (some i) H1
def intsAre_of:∀{us:List Value},Vals (ns.map V.int) us->zB6 us ns:=by
 induction ns with
 |nil=>intro us r;rw[zD8]at r;cases r;exact .nil
 |cons n ns ih=>
  intro us r;rw[zAU]at r;cases r with
  |cons r1 r2=>
   obtain⟨t,e⟩:=r1;subst e;exact .cons n t (ih r2)
section
variable{X:Cx}{e:Expr}{te:TE}{lo hi:Option Expr}{tl th:TO}{pos p2:Pos}
def aFS:PO X none aEp:=by
 intro kQ s σ H Q I h;rw[zGQ];exact zA6 ⟨none,H,I,.none,h⟩
def aFR(h:PE X e te):PO X (some e) (aIs te):=by
 intro kQ s σ H Q I hw;rw[evalPart_some];refine thn (h kQ s σ H _ I hw) λ u s1 ⟨x,H1,I1,r1,q1⟩=>?_
 obtain⟨i,rfl,q⟩:=q1;obtain⟨t,rfl⟩:=r1;exact⟨some i,H1,I1,.int i t,q⟩
def SlR(X:Cx)(r:V->Option Int->Option Int->Hp->VK->Prop):Prop:=
 ∀(kQ:hV) (s:zAB) (σ:St) (H:Hp) (x:V) (v vl vu:Value) (lo hi:Option Int) (sl:Addr) (Q:VK),Inv X kQ σ H s->RelV x v->s.heap.IsSliceOf sl vl vu .none->zEO vl lo->zEO vu hi->r x lo hi H Q->
  ∃T id,zEK (.type T) "__getitem__"=pure (some (.builtin id))/\s.TypeIs v T/\wpAny (model X.prog X.w) X.A (zFa v (.ref sl)) (EP X kQ σ Q) X.xe s
def SlR.or(h:SlR X r)(h':SlR X r'):SlR X (λ x lo hi H Q=>r x lo hi H Q\/r' x lo hi H Q):=by
 intro kQ s σ H x v vl vu lo hi sl Q I rx hs pl pu q;rcases q with q|q
 .exact h kQ s σ H x v vl vu lo hi sl Q I rx hs pl pu q
 .exact h' kQ s σ H x v vl vu lo hi sl Q I rx hs pl pu q
def tSl(r:V->Option Int->Option Int->Hp->VK->Prop)(te:TE)(tl th:TO):TE:=λ σ H Q=>te σ H λ x H1=>tl σ H1 λ l H2=>th σ H2 λ u H3=>r x l u H3 Q
def aDZ(hr:SlR X r)(he:PE X e te)(hl:PO X lo tl)(hu:PO X hi th):PE X (.Subscript e (.Slice lo hi none p2) pos) (tSl r te tl th):=by
 intro kQ s σ H Q I h;refine Subscript_ (thn (he kQ s σ H _ I h) λ v s1 ⟨x,H1,I1,r1,q1⟩=>?_);refine wpAny_Slice (thn (hl kQ s1 σ H1 _ I1 q1) λ vl s2 ⟨l,H2,I2,pl,q2⟩=>thn (hu kQ s2 σ H2 _ I2 q2) λ vu s3 ⟨u,H3,I3,pu,q3⟩=>?_);rw[zGQ];refine zA6 ?_;have I4:Inv X kQ σ H3 {s3 with heap:=s3.heap.push {cls:=.type "slice",data:=.fields #[vl,vu,.none]}}:=I3.kept (t':=s3.toks) λ b ob q=>zAG _ q
 obtain⟨T,id,hT,ht,hg⟩:=hr kQ {s3 with heap:=s3.heap.push {cls:=.type "slice",data:=.fields #[vl,vu,.none]}} σ H3 x v vl vu l u s3.heap.objs.size Q I4 r1 (zE9 ..) pl pu q3;show wpAny (model X.prog X.w) X.A (subscriptTail e (.Slice lo hi none p2) v (.ref s3.heap.objs.size)) (EP X kQ σ Q) X.xe {s3 with heap:=s3.heap.push {cls:=.type "slice",data:=.fields #[vl,vu,.none]}};exact tail_any (ops:=[.ref s3.heap.objs.size,v]) ht hT hg (by with_unfolding_all rfl)
def uc(xs:List V)(lo hi:Option Int):List V:=(xs.drop (HT.sIx xs.length 0 lo)).take (HT.sIx xs.length xs.length hi-HT.sIx xs.length 0 lo)
def qp(xs:List V)(lo hi:Option Int):(uc xs lo hi).length<=xs.length:=by
 unfold uc;rw[zB2,zBx];lia
def aFK(K:zAA):R2:=λ x y H Q=>∃a b ns ms,x= .ref a/\y= .ref b/\SqT K H a (ns.map V.int)/\SqT K H b (ms.map V.int)/\Q (.bl (HT.lexLt ns ms)) H
def aHu(hu:X.A.units<cLine):OpR X (zBO .Lt) (aFK X.K):=by
 intro kQ s σ H x y v u Q I rx ry h;obtain⟨a,b,ns,ms,rfl,rfl,ha,hb,q⟩:=h;cases rx;cases ry;obtain⟨its,r1,p1,_⟩:=I.tuple ha;obtain⟨its2,r2,p2,_⟩:=I.tuple hb;have i1:zB6 its.toArray.toList ns:=intsAre_of r1;have i2:zB6 its2.toArray.toList ms:=intsAre_of r2;exact HT.aAN p1 p2 i1 i2 hu ⟨.bl (HT.lexLt ns ms),H,I,rfl,q⟩
def aJM(K:zAA):R2:=λ x y H Q=>∃a b xs ys,x= .ref a/\y= .ref b/\SqT K H a xs/\SqT K H b ys/\xs≠[]/\xs.length+ys.length<=zAN/\
 (ys=[]->Q (.ref a) H)/\(ys≠[]->∀p,H p=none->Q (.ref p) (upd H p (.tup (xs++ys))))
def Vals.nil_iff(r:Vals xs us):us=[]↔xs=[]:=by
 cases r with
 |nil=>simp
 |cons _ _=>simp
def aF6:OpR X (zBg .Add) (aJM X.K):=by
 intro kQ s σ H x y v u Q I rx ry h;obtain⟨a,b,xs,ys,rfl,rfl,ha,hb,hx,hz,q1,q2⟩:=h;cases rx;cases ry;obtain⟨its,r1,p1,_⟩:=I.tuple ha;obtain⟨its2,r2,p2,_⟩:=I.tuple hb;refine HT.aGS p1 p2 (λ z=>hx (r1.nil_iff.mp z)) (λ z=>⟨.ref a,H,I,rfl,q1 (r2.nil_iff.mp z)⟩) (λ z=>?_) (by rw[<-r1.length,<-r2.length];exact hz);refine⟨.ref s.heap.objs.size,_,I.laid (t':=s.toks) (o:=.tup (xs++ys)) (λ b ob q=>zAG _ q) (zAL _) ?_,rfl,q2 (λ w=>z (r2.nil_iff.mpr w)) _ (I.hok.fresh (zAL _))⟩;exact⟨⟨by rw[zAC];exact hz,NoD.push _⟩,_,r1.append r2,zDx _ _⟩
end
def ixN(n:Nat)(i:Int):Option Nat:=if 0<=i then(if i<n then some i.toNat else none)else if -(n:Int)<=i then some (i+n).toNat else none
def atI{α:Type}(xs:List α)(i:Int):Option α:=(ixN xs.length i).bind λ j=>xs[j]?
def aFp(h:ixN n i=some j):seqIndex? i n=some j/\j<n/\-(n:Int)<=i/\i<n:=by
 unfold ixN at h;by_cases h0:0<=i
 .rw[if_pos h0]at h
  by_cases h1:i<n
  .rw[if_pos h1]at h
   have e:i.toNat=j:=zAg h;exact⟨by rw[seqIndex_of h0 h1,e],by lia,by lia,h1⟩
  .rw[if_neg h1]at h;cases h
 .rw[if_neg h0]at h
  by_cases h1: -(n:Int)<=i
  .rw[if_pos h1]at h
   have e:(i+n).toNat=j:=zAg h;exact⟨by rw[seqIndex_neg (by lia) h1,e],by lia,h1,by lia⟩
  .rw[if_neg h1]at h;cases h
def xg(h:atI xs i=some v):∃j,seqIndex? i xs.length=some j/\xs[j]? =some v/\j<xs.length/\-(xs.length:Int)<=i/\i<xs.length:=by
 unfold atI at h;cases e:ixN xs.length i with
 |none=>rw[e]at h;cases h
 |some j=>
  rw[e]at h;obtain⟨h1,h2,h3,h4⟩:=aFp e;exact⟨j,h1,h,h2,h3,h4⟩
def aBb(b:Expr):Prop:=∀o i,subscripted b false o i=operate [o,i] (zFa o i)
def IxR(X:Cx)(r:R2):Prop:=
 ∀(value slice:Expr) (kQ:hV) (s:zAB) (σ:St) (H:Hp) (x y:V) (v u:Value) (Q:VK),Inv X kQ σ H s->RelV x v->RelV y u->r x y H Q->
  subscripted slice false v u=operate [v,u] (zFa v u)->wpAny (model X.prog X.w) X.A (subscriptTail value slice v u) (EP X kQ σ Q) X.xe s
def MtR(X:Cx)(id:String)(r:V->List V->Hp->VK->Prop):Prop:=
 ∀(kQ:hV) (s:zAB) (σ:St) (H:Hp) (x:V) (xs:List V) (v:Value) (us:List Value) (Q:VK),Inv X kQ σ H s->RelV x v->Vals xs us->r x xs H Q->
  wpAny (model X.prog X.w) X.A (call (.builtin id) (v::us)) (EP X kQ σ Q) X.xe s
section
variable{X:Cx}{a b:Expr}{ta tb:TE}{pos:Pos}
def IxR.or(h:IxR X r)(h':IxR X r'):IxR X (λ x y H Q=>r x y H Q\/r' x y H Q):=by
 intro value slice kQ s σ H x y v u Q I rx ry q hs;rcases q with q|q
 .exact h value slice kQ s σ H x y v u Q I rx ry q hs
 .exact h' value slice kQ s σ H x y v u Q I rx ry q hs
def aGp{r:R2}(hr:IxR X r)(ha:PE X a ta)(hb:PE X b tb)(hs:aBb b):PE X (.Subscript a b pos) (tOp r ta tb):=by
 intro kQ s σ H Q I h;exact Subscript_ (aI9 ha hb I h λ v u s2 x y H2 I2 rx ry q=>hr a b kQ s2 σ H2 x y v u Q I2 rx ry q (hs _ _))
def aJK(K:zAA):R2:=λ x y H Q=>∃p xs i v,x= .ref p/\y= .int i/\SqL K H p xs/\atI xs i=some v/\Q v H
def aJI(K:zAA):R2:=λ x y H Q=>∃p xs i v,x= .ref p/\y= .int i/\SqT K H p xs/\atI xs i=some v/\Q v H
def aJJ:R2:=λ x y H Q=>∃z i c,x= .str z/\y= .int i/\z.length<=zAN/\atI z.cps.toList i=some c/\Q (.str ⟨#[c]⟩) H
def aBR:IxR X (aJK X.K):=by
 intro value slice kQ s σ H x y v u Q I rx ry h hs;obtain⟨p,xs,i,z,rfl,rfl,hq,he,q⟩:=h;cases rx;obtain⟨t,rfl⟩:=ry;obtain⟨its,r,pl,hz⟩:=I.list hq;obtain⟨j,h1,h2,h3,h4,h5⟩:=xg he;obtain⟨w,ew,rw'⟩:=r.get h2;have hl:=r.length;have hn:=tZ;have fin:EP X kQ σ Q w s:=⟨z,H,I,rw',q⟩;by_cases h0:0<=i
 .have hj:i.toNat=j:=by
   rw[seqIndex_of h0 h5]at h1;exact zAg h1
  exact item_listR pl.isList h0 (by lia) (by rw[hj];simpa using ew) fin hs
 .have hj:(i+(its.toArray.size:Int)).toNat=j:=by
   rw[seqIndex_neg (by lia) h4]at h1;rw[zAJ,<-hl];exact zAg h1
  exact zGY (x:=w) pl.isList.typeIs zHL.lookup
   (wpAny_getItem_list_neg (Q:=λ r s'=>r=w/\EP X kQ σ Q r s') pl.isList (by lia) (by rw[zAJ]<;>lia) (by lia) (by rw[hj];simpa using ew) ⟨rfl,fin⟩) hs
def aIR:IxR X (aJI X.K):=by
 intro value slice kQ s σ H x y v u Q I rx ry h hs;obtain⟨p,xs,i,z,rfl,rfl,hq,he,q⟩:=h;cases rx;obtain⟨t,rfl⟩:=ry;obtain⟨its,r,pl,hz⟩:=I.tuple hq;obtain⟨j,h1,h2,h3,h4,h5⟩:=xg he;obtain⟨w,ew,rw'⟩:=r.get h2;have hl:=r.length;have hn:=tZ;have fin:EP X kQ σ Q w s:=⟨z,H,I,rw',q⟩;exact zGY (x:=w) pl.typeIs slot_tuple_getitem.lookup
  (getItem_tuple (j:=j) (Q:=λ r s'=>r=w/\EP X kQ σ Q r s') pl (by lia) (by lia) (by rw[zAJ,<-hl];exact h1) (by simpa using ew) ⟨rfl,fin⟩) hs
def aIS:IxR X aJJ:=by
 intro value slice kQ s σ H x y v u Q I rx ry h hs;obtain⟨z,i,c,rfl,rfl,hz,he,q⟩:=h;obtain⟨t,rfl⟩:=rx;obtain⟨t',rfl⟩:=ry;obtain⟨j,h1,h2,h3,h4,h5⟩:=xg he;have hl:z.cps.toList.length=z.length:=by simp[Str.length]
 rw[hl]at h1 h4 h5;have hn:=tZ;exact tail_any (typeIs_str s z t) slot_str_getitem.lookup (getItem_str (c:=c) (by
  have e1:decide (i < -(2^63:Int))=false:=decide_eq_false (by lia);have e2:decide (i ≥ 2^63)=false:=decide_eq_false (by lia);rw[e1,e2,Bool.or_false]) (by rw[h1];simpa using h2) ⟨.str ⟨#[c]⟩,H,I.tok _,⟨_,rfl⟩,q⟩) hs
def rIx(K:zAA):R2:=λ x y H Q=>aJK K x y H Q\/aJI K x y H Q\/aJJ x y H Q
def aIT:IxR X (rIx X.K):=aBR.or (aIR.or aIS)
theorem Inv.lst(I:Inv X kQ σ H s)(h:H p=some (.lst xs)):
  ∃(its:List Value) (n:Nat),Vals xs its/\s.heap.get? p=some {cls:=.type "list",data:=.seq its.toArray n}/\xs.length<=zAN:=by
 obtain⟨z,its,n,r,e⟩:=I.hok p _ h;exact⟨its,n,r,e,z⟩
def Inv.lstUpd{kQ:hV}{σ:St}{H:Hp}{s:zAB}{p:Addr}{xs ys:List V}{its its':List Value}{n n':Nat}{f:Obj->Obj}(I:Inv X kQ σ H s)(h:H p=some (.lst xs))
  (ho:s.heap.get? p=some {cls:=.type "list",data:=.seq its.toArray n})(hf:f {cls:=.type "list",data:=.seq its.toArray n}={cls:=.type "list",data:=.seq its'.toArray n'})(r:Vals ys its')(hz:ys.length<=zAN)(t:Nat):
  Inv X kQ σ (upd H p (.lst ys)) {s with heap:=s.heap.update p f,toks:=t}:=by
 have e:(s.heap.update p f).get? p=some {cls:=.type "list",data:=.seq its'.toArray n'}:=by
  rw[Heap.get?_update_self f ho (by rw[hf]<;>rfl),hf]
 refine I.write (x:=p) (e:=p) (by rw[h];trivial) (.inl rfl) (λ b u hb q=>(zF0 _ _ (zCf hb)).trans q) ⟨_,e⟩ ?_;exact⟨hz,its',n',r,e⟩
def jd(lo hi:Option Int)(n:Nat):(zBe lo hi none n).1=((HT.sIx n 0 lo:Nat):Int)/\(zBe lo hi none n).2.1=((HT.sIx n n hi:Nat):Int)/\(zBe lo hi none n).2.2=1:=by
 refine⟨?_,?_,rfl⟩
 .cases lo with
  |none=>simp[zBe,HT.sIx]
  |some i=>
   simp only[zBe,HT.sIx,zEP,show(1:Int)>0 by decide,if_true];by_cases h:i<0
   .simp only[h,if_true]<;>lia
   .simp only[h,if_false]<;>lia
 .cases hi with
  |none=>simp[zBe,HT.sIx]
  |some i=>
   simp only[zBe,HT.sIx,zEP,show(1:Int)>0 by decide,if_true];by_cases h:i<0
   .simp only[h,if_true]<;>lia
   .simp only[h,if_false]<;>lia
def uo(its:List Value)(lo hi:Option Int):slicePick its.toArray lo hi none=((its.drop (HT.sIx its.length 0 lo)).take (HT.sIx its.length its.length hi-HT.sIx its.length 0 lo)).toArray:=by
 obtain⟨h1,h2,h3⟩:=jd lo hi its.toArray.size;unfold slicePick;rw[h1,h2,h3];simp only[sliceRange_one,pick_run,zAJ]<;>rfl
def aJF(K:zAA):V->Option Int->Option Int->Hp->VK->Prop:=λ x lo hi H Q=>∃a xs,x= .ref a/\SqL K H a xs/\∀p,H p=none->Q (.ref p) (upd H p (.lst (uc xs lo hi)))
def aEx:SlR X (aJF X.K):=by
 intro kQ s σ H x v vl vu lo hi sl Q I rx hs pl pu h;obtain⟨a,xs,rfl,hx,q⟩:=h;cases rx;obtain⟨its,r,ht,hz⟩:=I.list hx;have kX:=r.length;refine⟨"list",_,zHL.lookup,ht.isList.typeIs,?_⟩;refine wpAny_getItem_list_slice ht.isList hs pl pu .none (by simp) ?_ (by rw[zAJ]<;>lia);rw[uo,<-kX];refine⟨.ref s.heap.objs.size,_,I.laid (t':=s.toks) (o:=.lst (uc xs lo hi)) (λ b ob q=>zAG _ q) (zAL _) ?_,rfl,q _ (I.hok.fresh (zAL _))⟩;exact⟨zAe (qp xs lo hi) hz,_,0,(r.drop (HT.sIx xs.length 0 lo)).take (HT.sIx xs.length xs.length hi-HT.sIx xs.length 0 lo),zAa _ rfl⟩
def xZ:dw X (.builtin "len") (λ xs H Q=>∃p ys,xs=[.ref p]/\(SqL X.K H p ys\/SqT X.K H p ys)/\Q (.int ys.length) H):=by
 intro kQ s σ H xs us Q I r h;obtain⟨p,ys,rfl,hq,q⟩:=h;obtain⟨u,rfl,rx⟩:=vals1 r;cases rx;have hn:=tZ;rcases hq with hq|hq
 .obtain⟨its,r',pl,hz⟩:=I.list hq
  have kX:=r'.length;exact Calls.call_len_list pl.isList (by simp only[zAJ]<;>lia) ⟨.int ys.length,H,I.tok _,⟨s.toks+1,by rw[zAJ,kX]⟩,q⟩
 .obtain⟨its,r',pl,hz⟩:=I.tuple hq
  have kX:=r'.length;exact len_tuple pl (by simp only[zAJ]<;>lia) ⟨.int ys.length,H,I.tok _,⟨s.toks+1,by rw[zAJ,kX]⟩,q⟩
def dw.or(h:dw X f r)(h':dw X f r'):dw X f (λ xs H Q=>r xs H Q\/r' xs H Q):=by
 intro kQ s σ H xs us Q I rs q;rcases q with q|q
 .exact h kQ s σ H xs us Q I rs q
 .exact h' kQ s σ H xs us Q I rs q
def xY:dw X (.type "list") (λ xs H Q=>∃p ys,xs=[.ref p]/\(SqL X.K H p ys\/SqT X.K H p ys)/\∀l,H l=none->Q (.ref l) (upd H l (.lst ys))):=by
 intro kQ s σ H xs us Q I r h;obtain⟨p,ys,rfl,hq,q⟩:=h;obtain⟨u,rfl,rx⟩:=vals1 r;cases rx;have fin:∀(its:List Value),Vals ys its->ys.length<=zAN->∀(h':Heap) (c':Nat),(∀b o',s.heap.get? b=some o'->h'.get? b=some o')->
   h'.get? s.heap.objs.size=some {cls:=.type "list",dict:=none,data:=.seq its.toArray c',slots:=#[]}->EP X kQ σ Q (.ref s.heap.objs.size) {s with heap:=h'}:=λ its r' hz h' c' kp e=>
  ⟨.ref s.heap.objs.size,_,I.laid (t':=s.toks) kp (zAL _) (show dC X.prog X.w _ h' _ (.lst ys)from⟨hz,its,c',r',e⟩),rfl,q _ (I.hok.fresh (zAL _))⟩
 rcases hq with hq|hq
 .obtain⟨its,r',pl,hz⟩:=I.list hq
  have kX:=r'.length;obtain⟨o,ho,hc,n,hd⟩:=pl.isList;exact call_list_seq p (.inl rfl) ho hc hd (λ h' c' kp e=>fin its r' hz h' c' kp e) (by simp only[zAJ]<;>lia)
 .obtain⟨its,r',pl,hz⟩:=I.tuple hq
  have kX:=r'.length;obtain⟨o,ho,hc,n,hd⟩:=pl;exact call_list_seq p (.inr rfl) ho hc hd (λ h' c' kp e=>fin its r' hz h' c' kp e) (by simp only[zAJ]<;>lia)
def vC:dw X (.type "tuple") (λ xs H Q=>∃p ys,xs=[.ref p]/\((SqL X.K H p ys/\∀l,H l=none->Q (.ref l) (upd H l (.tup ys)))\/(SqT X.K H p ys/\Q (.ref p) H))):=by
 intro kQ s σ H xs us Q I r h;obtain⟨p,ys,rfl,h⟩:=h;obtain⟨u,rfl,rx⟩:=vals1 r;cases rx;rcases h with ⟨hq,q⟩|⟨hq,q⟩
 .obtain⟨its,r',pl,hz⟩:=I.list hq
  have kX:=r'.length;refine call_tuple_list pl.isList (λ h' kp=>?_) (by simp only[zAJ]<;>lia);have I1:Inv X kQ σ H {s with heap:=h'}:=I.kept (t':=s.toks) kp;have I2:Inv X kQ σ (upd H h'.objs.size (.tup ys)) {s with heap:=h'.push {cls:=.type "tuple",data:=.seq its.toArray}}:=
   I1.laid (t':=s.toks) (λ b o e=>zAG _ e) (zAL _) (show dC X.prog X.w _ _ _ (.tup ys)from⟨⟨hz,NoD.push _⟩,its,r',zDx _ _⟩)
  exact⟨.ref h'.objs.size,_,I2,rfl,q _ (I1.hok.fresh (zAL _))⟩
 .obtain⟨its,r',pl,hz⟩:=I.tuple hq
  exact call_tuple_same pl ⟨.ref p,H,I,rfl,q⟩
def tyV(K:zAA)(T:String)(x:V)(H:Hp):Prop:=match x with
 | .str _=>T="str"
 | .int _=>T="int"
 | .ref p=>(T="list"/\∃xs,SqL K H p xs)\/(T="tuple"/\∃o,K.lookup p=some o/\o.cls= .type "tuple"/\o.dict=none)\/
   (T="dict"/\((∃kvs,H p=some (.dK kvs))\/∃kvs,H p=some (.dT kvs)))\/(T="set"/\∃S n,H p=some (.set S n))
 |_=>False
def aC8(I:Inv X kQ σ H s)(r:RelV x v)(ty:tyV X.K T x H):
  s.TypeIs v T/\∀a,v= .ref a->∃ob,s.heap.get? a=some ob/\ob.dict=none:=by
 cases x with
 |str z=>
  obtain⟨t,rfl⟩:=r;cases (show T="str" from ty);exact⟨typeIs_str s z t,λ _ e=>nomatch e⟩
 |int i=>
  obtain⟨t,rfl⟩:=r;cases (show T="int" from ty);exact⟨zCo s i t,λ _ e=>nomatch e⟩
 |ref p=>
  cases r;rcases ty with ⟨rfl,xs,hq⟩|⟨rfl,o,hk,hc,hd⟩|⟨rfl,hk⟩|⟨rfl,S,n,hk⟩
  .obtain⟨its,_,pl,_⟩:=I.list hq
   refine⟨pl.isList.typeIs,λ a e=>?_⟩;cases e;obtain⟨o,n,e,c,hd,_⟩:=pl;exact⟨o,e,hd⟩
  .refine⟨⟨o,I.kIn p o hk,hc⟩,λ a e=>?_⟩
   cases e;exact⟨o,I.kIn _ o hk,hd⟩
  .have z:∃o,s.heap.get? p=some o/\o.ExactDict:=by
    rcases hk with ⟨kvs,hk⟩|⟨kvs,hk⟩
    .obtain⟨_,_,_,_,o,_,_,e,ex,_⟩:=I.hok p _ hk
     exact⟨o,e,ex⟩
    .obtain⟨_,_,_,_,o,_,_,e,ex,_⟩:=I.hok p _ hk
     exact⟨o,e,ex⟩
   obtain⟨o,e,ex⟩:=z;refine⟨⟨o,e,ex.1⟩,λ a e2=>?_⟩;cases e2;exact⟨o,e,ex.2.1⟩
  .obtain⟨o,_,_,_,e,ex,_⟩:=I.hok p _ hk
   refine⟨⟨o,e,ex.1⟩,λ a e2=>?_⟩;cases e2;exact⟨o,e,ex.2.1⟩
 |_=>exact zAH ty
def aIw(K:zAA)(T:String)(r:V->List V->Hp->VK->Prop)(to:TE):TE:=λ σ H Q=>to σ H λ x H1=>tyV K T x H1/\r x [] H1 Q
def tBM(K:zAA)(T:String)(r:V->List V->Hp->VK->Prop)(to:TE)(t:TA):TE:=λ σ H Q=>to σ H λ x H1=>tyV K T x H1/\t σ H1 λ xs H2=>r x xs H2 Q
variable{o e:Expr}{es:List Expr}{to:TE}{t:TA}{name:Str}{apos cpos:Pos}{T id:String}{r:V->List V->Hp->VK->Prop}
def aHg(pa:PlainAttrs T)(slot:Slot T name id)(hty:typeOf (.builtin id)=pure (.type "method_descriptor"))(hm:MtR X id r)(ho:PE X o to)
  (hbase:zCb o name X.env (eval o X.env)=eval o X.env:=by rfl)(hline:(apos.endLine==cpos.line)=true:=by rfl):PE X (.Call (.Attribute o name apos) [] [] cpos) (aIw X.K T r to):=by
 intro kQ s σ H Q I h;refine wpAny_Call_method0_late hbase hline (thn (ho kQ s σ H _ I h) λ v s1 ⟨x,H1,I1,r1,ty,q1⟩=>?_);obtain⟨h1,h2⟩:=aC8 I1 r1 ty;exact⟨T,id,pa,slot,hty,h1,h2,zFR rfl (PySem.evalArgs_none (hm kQ s1 σ H1 x [] v [] Q I1 r1 .nil q1))⟩
def vR(pa:PlainAttrs T)(slot:Slot T name id)(hty:typeOf (.builtin id)=pure (.type "method_descriptor"))(hm:MtR X id r)(ho:PE X o to)(ha:PA X (e::es) t)
  (hbase:zCb o name X.env (eval o X.env)=eval o X.env:=by rfl)
  (hfew:((zCI cpos (zA2 (e::es) X.env)).all (λ x=>!x.1)&&(zEh cpos (zDM [] X.env)).all (λ x=>x.1.isSome)
   &&decide ((e::es).length+([]:List zCK).length+(if ([]:List zCK).isEmpty then 0 else 1)<30))=true:=by rfl)
  (hline:(apos.endLine==cpos.line)=true:=by rfl)(hs:zA2 (e::es) X.env=(false,eval e X.env)::zA2 es X.env:=by rfl)(hplain:(zCI cpos (zA2 es X.env)).any (·.1)=false:=by rfl):
  PE X (.Call (.Attribute o name apos) (e::es) [] cpos) (tBM X.K T r to t):=by
 intro kQ s σ H Q I h;refine wpAny_Call_method_late hbase hfew hline rfl (thn (ho kQ s σ H _ I h) λ v s1 ⟨x,H1,I1,r1,ty,q1⟩=>?_);obtain⟨h1,h2⟩:=aC8 I1 r1 ty;refine⟨T,id,pa,slot,hty,h1,h2,?_⟩;have hA:=ha cpos kQ s1 σ H1 _ I1 q1;rw[hs]at hA ⊢;refine zFR (by show(false||(zCI cpos (zA2 es X.env)).any (·.1))=false;rw[hplain]<;>rfl) (zFe ?_);exact thn hA λ us s2 ⟨vs,H2,I2,r2,q2⟩=>hm kQ s2 σ H2 x vs v us Q I2 r1 r2 q2
end
def MtM(X:Cx)(id:String)(r:V->List V->Hp->VK->Prop):Prop:=
 ∀(kQ:hV) (s:zAB) (σ:St) (H:Hp) (x:V) (xs:List V) (v:Value) (us:List Value) (Q:VK),Inv X kQ σ H s->RelV x v->Vals xs us->r x xs H Q->
  wpAny (model X.prog X.w) X.A (call (.builtin id) (v::us)) (EP X kQ σ Q) X.xe s
def Vals.one:∀{x:V} {us:List Value},Vals [x] us->∃u,us=[u]/\RelV x u
 |_,_,.cons r .nil=>⟨_,rfl,r⟩
def Vals.zero:∀{us:List Value},Vals [] us->us=[]
 |_,.nil=>rfl
theorem Vals.dropLast(h:Vals xs us):Vals xs.dropLast us.dropLast:=by
 induction h with
 |nil=>exact .nil
 |cons r t ih=>
  cases t with
  |nil=>exact .nil
  |cons q t'=>exact .cons r ih
theorem Vals.rep(h:Vals xs us):∀k:Nat,Vals (zAO k xs).flatten (zAO k us).flatten
 |0=>.nil
 |k+1=>by
  rw[zAv,zAv,zA5,zA5];exact Vals.append h (Vals.rep h k)
def aA1(l:List α):l.eraseIdx (l.length-1)=l.dropLast:=by
 induction l with
 |nil=>rfl
 |cons a r ih=>
  cases r with
  |nil=>rfl
  |cons b r=>
   have e:(a::b::r).length-1=((b::r).length-1)+1:=by
    have h1:(a::b::r).length=r.length+2:=rfl;have h2:(b::r).length=r.length+1:=rfl;lia
   rw[e,List.eraseIdx_cons_succ,ih]
   all_goals rfl
theorem foldl_rep(its:List Value):∀(k:Nat) (acc:List Value),
  zFL (λ x1 x2=>x1++x2) acc.toArray (zAO k its.toArray)=(acc++(zAO k its).flatten).toArray
 |0,acc=>by simp
 |k+1,acc=>by
  have e:acc.toArray++its.toArray=(acc++its).toArray:=by simp
  have e2:(acc++its)++(zAO k its).flatten=acc++(zAO (k+1) its).flatten:=by
   rw[zAv,zA5,zAk]
  rw[<-e2,<-foldl_rep its k (acc++its),<-e,zAv,List.foldl_cons]
section
variable{X:Cx}{kQ:hV}{σ:St}{H:Hp}{s:zAB}{l:Addr}{xs ys:List V}
def Inv.lset{its its':List Value}{n:Nat}{f:Array Value->Array Value}{t':Nat}(I:Inv X kQ σ H s)(hH:H l=some (.lst xs))
  (e:s.heap.get? l=some {cls:=.type "list",data:=.seq its.toArray n})(hf:f its.toArray=its'.toArray)(hv:Vals ys its')(hz:ys.length<=zAN):
  Inv X kQ σ (upd H l (.lst ys)) {s with heap:=s.heap.update l (zCC f),toks:=t'}:=by
 have q:=PySem.IsL.update e f;rw[hf]at q;refine I.write (x:=l) (e:=l) (by rw[hH];exact trivial) (.inl rfl) (λ b' u hb hu=>(zF0 s.heap (zCC f) (zCf hb)).trans hu) ⟨_,q⟩ ?_;exact⟨hz,its',_,hv,q⟩
def Inv.lnew(I:Inv X kQ σ H s)(hv:Vals ys its)(hz:ys.length<=zAN):
  Inv X kQ σ (upd H s.heap.objs.size (.lst ys)) {s with heap:=s.heap.push {cls:=.type "list",data:=.seq its.toArray},toks:=t'}:=
 I.laid (λ _ _ q=>zAG _ q) (zAL _) ⟨hz,its,0,hv,zAa _ rfl⟩
theorem Inv.fresh(I:Inv X kQ σ H s):H s.heap.objs.size=none:=I.hok.fresh (zAL _)
def Inv.lstM(I:Inv X kQ σ H s)(hH:H l=some (.lst xs)):xs.length<=zAN/\∃(its:List Value) (n:Nat),Vals xs its/\xs.length=its.length/\s.heap.get? l=some {cls:=.type "list",data:=.seq its.toArray n}:=by
 obtain⟨z,its,n,r,e⟩:=I.hok l _ hH;exact⟨z,its,n,r,r.length,e⟩
def tR(h:n<=zAN):zCF n=false:=by
 unfold zCF;exact decide_eq_false (by lia)
end
section
variable{X:Cx}
def aFO:V->List V->Hp->VK->Prop:=λ x vs H Q=>∃l xs y,x= .ref l/\vs=[y]/\H l=some (.lst xs)/\xs.length<zAN/\Q .non (upd H l (.lst (xs++[y])))
def vW:MtM X "list.append" aFO:=by
 intro kQ s σ H x vs v us Q I rx rv h;obtain⟨l,xs,y,rfl,rfl,hH,hz,q⟩:=h;cases rx;obtain⟨u,rfl,ru⟩:=rv.one;obtain⟨z,its,n,r,hl,e⟩:=I.lstM hH;refine zBQ zFf ⟨_,e,rfl⟩ F.entry_list_append (F.args_list_append_2 _ _) (PySem.list_append l its.toArray n u (by rw[zAJ];lia)) ⟨e,?_⟩;refine⟨.non,_,I.lset (its':=its++[u]) hH e (by simp) (r.append (.cons ru .nil)) ?_,rfl,q⟩;rw[zAC,zBD];lia
def aFM:V->List V->Hp->VK->Prop:=λ x vs H Q=>∃l b xs zs,x= .ref l/\vs=[.ref b]/\H l=some (.lst xs)/\H b=some (.lst zs)/\xs.length+zs.length<=zAN/\Q .non (upd H l (.lst (xs++zs)))
def aBz:MtM X "list.extend" aFM:=by
 intro kQ s σ H x vs v us Q I rx rv h;obtain⟨l,b,xs,zs,rfl,rfl,hH,hB,hz,q⟩:=h;cases rx;obtain⟨u,rfl,ru⟩:=rv.one;cases ru;obtain⟨z,its,n,r,hl,e⟩:=I.lstM hH;obtain⟨z2,its2,n2,r2,hl2,e2⟩:=I.lstM hB;have hsz:its.toArray.size+its2.toArray.size<=zAN:=by rw[zAJ,zAJ];lia
 have cE:¬(!its.toArray.isEmpty&&zCF (its.toArray.size+its2.toArray.size))=true:=by
  rw[tR hsz,zFF];exact zAT
 refine zBQ zCX ⟨_,e,rfl⟩ F.entry_list_extend (F.args_list_extend_2 _ _)
  (AutoSeq1.list_extend_list_list_0 l its.toArray n b its2.toArray n2 cE (by rw[zAJ];lia) (by lia)) ⟨e,e2,?_⟩
 refine⟨.non,_,I.lset (its':=its++its2) hH e (by simp) (r.append r2) ?_,rfl,q⟩;rw[zAC];lia
def aJw:V->List V->Hp->VK->Prop:=λ x vs H Q=>∃l xs y,x= .ref l/\vs=[]/\H l=some (.lst xs)/\xs[xs.length-1]? =some y/\Q y (upd H l (.lst xs.dropLast))
def aIC:MtM X "list.pop" aJw:=by
 intro kQ s σ H x vs v us Q I rx rv h;obtain⟨l,xs,y,rfl,rfl,hH,hy,q⟩:=h;cases rx;have hus:=rv.zero;subst hus;obtain⟨z,its,n,r,hl,e⟩:=I.lstM hH;obtain⟨u,hu,ru⟩:=r.get hy;have hy':its.toArray[its.toArray.size-1]? =some u:=by
  show its.toArray[its.length-1]? =some u;rw[<-zFY,<-hl];exact hu
 refine zBQ zGK ⟨_,e,rfl⟩ F.entry_list_pop (F.args_list_pop_1 _) (MeetsSeq.list_pop_last l its.toArray n u hy' (by rw[zAJ];lia)) ⟨e,?_⟩;refine⟨y,_,I.lset (its':=its.dropLast) hH e ?_ r.dropLast ?_,ru,q⟩
 .show its.toArray.eraseIdxIfInBounds (its.toArray.size-1)=its.dropLast.toArray
  rw[zAJ,List.eraseIdxIfInBounds_toArray,aA1]
 .rw[List.length_dropLast]
  lia
def aJy:R2:=λ x y H Q=>∃l b xs zs,x= .ref l/\y= .ref b/\H l=some (.lst xs)/\H b=some (.lst zs)/\xs.length+zs.length<=zAN/\∀p,H p=none->Q (.ref p) (upd H p (.lst (xs++zs)))
def aHw:OpR X (zBg .Add) aJy:=by
 intro kQ s σ H x y v u Q I rx ry h;obtain⟨l,b,xs,zs,rfl,rfl,hH,hB,hz,q⟩:=h;cases rx;cases ry;obtain⟨z,its,n,r,hl,e⟩:=I.lstM hH;obtain⟨z2,its2,n2,r2,hl2,e2⟩:=I.lstM hB;refine PySem.P.add_list e e2 ?_ (by rw[zAJ,zAJ];lia);have ea:its.toArray++its2.toArray=(its++its2).toArray:=by simp
 rw[ea];exact⟨.ref _,_,I.lnew (t':=s.toks) (r.append r2) (by rw[zAC];lia),rfl,q _ I.fresh⟩
def aJH:R2:=λ x y H Q=>∃l k xs,x= .ref l/\y= .int k/\H l=some (.lst xs)/\-(2^63)<=k/\k<2^63/\xs.length*k.toNat<=zAN/\
 ∀p,H p=none->Q (.ref p) (upd H p (.lst (zAO k.toNat xs).flatten))
def len_rep(xs:List α)(k:Nat):(zAO k xs).flatten.length=k*xs.length:=by
 induction k with
 |zero=>simp
 |succ k ih=>rw[zAv,zA5,zAC,ih,Nat.succ_mul,Nat.add_comm]
def aHo:OpR X (zBg .Mult) aJH:=by
 intro kQ s σ H x y v u Q I rx ry h;obtain⟨l,k,xs,rfl,rfl,hH,h1,h2,hz,q⟩:=h;cases rx;obtain⟨t,rfl⟩:=ry;obtain⟨z,its,n,r,hl,e⟩:=I.lstM hH;have kX:its.toArray.size*k.toNat<=zAN:=by rw[zAJ,<-hl];exact hz
 have hcap:¬its.toArray.size*k.toNat>(2^63-1) / 8:=by
  have:(zAN:Nat)<=(2^63-1) / 8:=by decide
  lia
 have hfit:¬(!Builtin.List.listFitsIndex k)=true:=by
  rw[fitsIndex_both h1 h2];exact zAT
 have cE:¬zCF (its.toArray.size*k.toNat)=true:=by
  rw[tR kX];exact zAT
 have hnew:zFL (λ x1 x2=>x1++x2) #[] (zAO (if its.toArray.isEmpty=true then 0 else k.toNat) its.toArray)=(zAO k.toNat its).flatten.toArray:=by
  have f0:∀m:Nat,zFL (λ x1 x2=>x1++x2) #[] (zAO m its.toArray)=(zAO m its).flatten.toArray:=λ m=>by
   have:=foldl_rep its m []
   rw[zEo]at this;exact this
  rw[f0];cases its with
  |nil=>simp
  |cons a r'=>rw[if_neg (by simp)]
 refine zCW (T:="list") (U:="int") (by decide) ⟨_,e,rfl⟩ (λ s'=>zCo s' k t) noFill_list_mul zDk zBq repeat_list zD5.lookup
  (zBQ zBq (zCo s k t) zD4 (zDZ _ _) (int___rmul___int_list k t l its.toArray n)
   ⟨e,rfl,⟨_,e,rfl⟩,zBQ F.slot_list_mul ⟨_,e,rfl⟩ F.entry_list_mul (F.args_list_mul_2 _ _) (AutoListH.list___mul___list_int_3 l its.toArray n k t hfit hcap cE) ⟨e,?_⟩⟩)
 rw[hnew];exact⟨.ref _,_,I.lnew (t':=s.toks) (r.rep k.toNat) (by rw[len_rep,zE5];exact hz),rfl,q _ I.fresh⟩
end
end L2
namespace Att
open PySem PySem.W PySem.Calls PyProof.Rows
def rB:∀(ns:List Int) (vs:List Value),WellAll P h vs (ns.map WData.int)->zB6 vs ns:=by
 intro ns;induction ns with
 |nil=>
  intro vs w;rw[zD8]at w;cases w;exact .nil
 |cons n ns ih=>
  intro vs w;rw[zAU]at w;cases w with
  |cons a b=>
   cases a;exact .cons _ _ (ih _ b)
def aBm{l:OpenLaw}{n:Nat}(hn:l.most=some n){P:Params}{h:Heap}{args:List WData}{vals:List Value}
  (hpre:l.row.toRowW.claim.pre args=true)(hwl:WellAll P h vals args):
  ∃a vs ns,vals=[zBH a]/\args=[WData.list (ns.map WData.int)]/\h.get? a=some {cls:=.type "list",data:=.seq vs.toArray}/\zB6 vs ns/\ns.length<=n:=by
 have hsh:WShape.hasAll [] args [.list .int]=true:=(pre_splitW hpre).1;have hc:l.pre.holds [] {args:=args}=true:=(pre_splitW hpre).2;obtain⟨d,r,rfl,h1,h2⟩:=hasAllW_cons hsh;obtain rfl:=hasAllW_nil h2;obtain⟨xs,rfl,h3⟩:=hasW_list h1;obtain⟨ns,rfl⟩:=items_int h3;have kX:ns.length<=n:=by
  unfold OpenLaw.pre at hc;have h4:(WTm.not (.lt (.lit (.int (n:Int))) (.len (.arg 0)))).holds [] {args:=[.list (ns.map .int)]}=true:=by
   have h4:=(holds_andW hc).1;rw[hn]at h4;exact h4
  have h5:=condW_of h4 (w_not (w_lt w_lit (w_len_list (w_arg rfl))));rw[zAE]at h5;refine zGa λ q=>?_
  have q':(n:Int)<((ns.length:Nat):Int):=by lia
  first
   |(rw[decide_eq_true q']at h5;exact absurd h5 (by decide))
   |(simp at h5;lia)
 cases hwl with
 |cons w1 w2=>
  cases w2;cases w1 with
  |list ho yY=>exact⟨_,_,ns,rfl,rfl,ho,rB ns _ yY,kX⟩
def aBr(l:OpenLaw)(args:List WData):l.row.toRowW.claim.post args (.bool true) args=true:=
 postW_of (r:=l.row.toRowW) (X:=(true==true))
  (show WShape.has [] (.bool true) .bool=true by first|rfl|decide|simp[WShape.has,WShape.arms,WShape.armsAll])
  (show(WTm.eq .res (.lit (.bool true))).value [] {args:=args,res:=some (.bool true),after:=args}=some (.bool (true==true))from w_eq_bool (w_res rfl) w_lit) rfl
def zO{l:OpenLaw}{n:Nat}{q:zAP}{loose:List Str}{XP:(Str->Option Value)->Heap->Prop}{YP:World->Heap->Prop}{d:DefRec}
  (hn:l.most=some n)(hdf:d.params.defaults=[])
  (call:∀(w:World) (z5 z4:zAB) (mg mb:Str->Option Value) (fa:Addr) (o:Obj) (pm cd doc:Value) (a:Addr) (vs:List Value) (ns:List Int),
   Ground q loose [] XP w z5 mg mb z4.heap->YP w z4.heap->
   z4.heap.get? fa=some o->o.data= .func (docDef d.name d.params d.body d.scope pm cd doc)->z4.heap.CodeRec cd d.name->mg d.name=some (.ref fa)->
   z4.heap.get? a=some {cls:=.type "list",data:=.seq vs.toArray}->zB6 vs ns->ns.length<=n->z4.gens=#[]->
   zDC (model l.prog w) zCH (.call (.ref fa) ⟨[.ref a],[]⟩) (λ r s'=>r= .ok (.ret (.bool true))/\OldK z4.heap s'.heap/\s'.os=z4.os/\zDw s'.gens) z4):
  WalkO q loose XP YP l.row.toRowW d [] (λ f vs=>zGP f vs):=by
 intro w z5 z4 mg mb G Y fa o pm cd doc dV kV ho hd hcd hD hmg hg args vals as hpre hlay hrd hwl hlo;obtain rfl:dV= .none:=Dflts.none hD hdf;obtain rfl:kV= .none:=Dflts.noKw hD;obtain⟨a,vs,ns,rfl,rfl,hobj,hints,kX⟩:=aBm hn hpre hwl;refine enter_call (zEC (call w z5 z4 mg mb fa o pm cd doc a vs ns G Y ho (fd_plain hd) hcd hmg hobj hints kX hg) λ r s' hq=>?_);obtain⟨rfl,h2,h3,h4⟩:=hq;exact⟨.inl ⟨.bool true,.bool true,[],rfl,λ _=>rfl,.bool true,aBr l _,λ _=>⟨zEr,λ _ hm=>(nomatch hm)⟩⟩,h2,h3,h4⟩
section
variable{prog:zAP}{w:World}{A:zA7}{E:Value->zAB->Prop}{s:zAB}{K:Frag}
def make_obj(X:K.In s.heap)(hm:makesIn K C=true)(hi:findIn K (.ref C) "__init__"=some (some (.ref fI)))(hf:isFn K (.ref fI)=true)
  (h:zDC (model prog w) (A.under (.builtin "type.__call__" ⟨.ref C::rest,kw⟩)) (.call (.ref fI) ⟨.ref (s.heap.objs.size+1)::rest,kw⟩) (InitBack (s.heap.objs.size+1) R)
   {s with heap:=(s.heap.push emptyDict).push (instObj C s.heap.objs.size)}):zDC (model prog w) A (.call (.ref C) ⟨rest,kw⟩) R s:=by
 obtain⟨hh,g,d,t,os⟩:=s;exact make_core (makes_of X hm) (looks_findIn X hi) (λ self=>bind_fn X self (beq_iff_eq.mp hf)) (.inl rfl) h
def get_field(X:K.In s.heap)(I:zGW s.heap x ox C (some (dictOf es n)))(hg:plainGet K C name=true)(hh:hasDictIn K C=true)(ha:findIn K (.ref C) name=some none)
  (hl:getL name es=some (some v))(hv:handedIn v=true)(h:Q v {s with toks:=s.toks+1}):wpAny (model prog w) A (getAttr (.ref x) name expr) Q E s:=
 get_value X I (plainGet_of hg).1 (findObj_own hh ha rfl hl) hv h
def ledger(h:Heap)(L d:Addr):hV:=(zAj h.objs.size).filterMap λ a=>if a=L\/a=d then none else(h.get? a).map λ o=>(a,o)
end
end Att
namespace L2
open PySem PySem.Spec PyProof.Rows
theorem vH:∀{vs:List Value} {ns:List Int},zB6 vs ns->Vals (ns.map V.int) vs
 |_,_,.nil=>.nil
 |_,_,.cons n t h=>.cons ⟨t,rfl⟩ (vH h)
def Only(H:Hp):Prop:=∀b,H b=none\/∃o xs,H b=some (.frz o (.lst xs))
def jy(s:Stmt):zCJ:=match s with
 | .FunctionDef _ a _ _ _ _ _ _ _ _=>a
 |_=>{posonlyargs:=[],args:=[],vararg:=none,kwonlyargs:=[],kw_defaults:=[],kwarg:=none,defaults:=[]}
def cI(s:Stmt):List Stmt:=match s with
 | .FunctionDef _ _ b _ _ _ _ _ _ _=>b
 |_=>[]
def aH(s:Stmt):Scope:=match s with
 | .FunctionDef _ _ _ _ _ _ sc _ _ _=>sc
 |_=>{kind:=.function,names:=[],isGenerator:=false,isCoroutine:=false}
abbrev CX0:CXT:=λ _ _ _ _ _ _=>False
abbrev E0:XK:=λ _ _ _=>False
structure Fun(K:zAA)(x qual:Str)(st:Stmt)(f:Addr)(fd:zAh):Prop where
 ex:∃(oc:Value) (od:Option Addr) (kV doc pm:Value) (an:Option Addr) (cdv ct:Value) (osl:Array (Option Value)),
  fd=zBU x qual (jy st) (cI st) (aH st) .none kV doc pm an cdv ct/\K.lookup f=some ⟨oc,od,.func fd,osl⟩/\zC5 K cdv qual=true
 kp:zBR K (.ref f)=true
section
variable{K:zAA}
def Fun.binds{x qual:Str}{st:Stmt}{f:Addr}{fd:zAh}{ps:List Str}(F:Fun K x qual st f fd)
  (h:∀(kV doc pm:Value) (an:Option Addr) (cdv ct:Value) (us:List Value),us.length=ps.length->zGw (zBU x qual (jy st) (cI st) (aH st) .none kV doc pm an cdv ct) ⟨us,[]⟩=pure (ps.zip us)):Binds K fd ps []:=by
 obtain⟨oc,od,kV,doc,pm,an,cdv,ct,osl,rfl,lk,hcd⟩:=F.ex;exact .all (h kV doc pm an cdv ct)
def aI0{x qual:Str}{st:Stmt}{f:Addr}{oc:Value}{od an:Option Addr}{osl:Array (Option Value)}{kV doc pm cdv ct:Value}(l:K.lookup f=some ⟨oc,od,.func (zBU x qual (jy st) (cI st) (aH st) .none kV doc pm an cdv ct),osl⟩)
  (c:zC5 K cdv qual=true)(k:zBR K (.ref f)=true):Fun K x qual st f (zBU x qual (jy st) (cI st) (aH st) .none kV doc pm an cdv ct):=⟨⟨oc,od,kV,doc,pm,an,cdv,ct,osl,rfl,l,c⟩,k⟩
end
def aR(H H':Hp):Prop:=∀b o,H b=some o->H' b=some o
def aR.refl(H:Hp):aR H H:=λ _ _ h=>h
def aR.trans(a:aR H H1)(b:aR H1 H2):aR H H2:=λ c o h=>b c o (a c o h)
def aR.free(e:aR H H')(h:H' l=zGs):H l=zGs:=by
 cases q:H l with
 |none=>rfl
 |some o=>
  rw[e l o q]at h;cases h
end L2
set_option maxHeartbeats 4000000
namespace HT
open PySem PyProof.Rows
section
open PySem.SeqAt
open PySem.AutoSeq1(wpAny_loadPart')
open PySem.MeetsSeq PySem.MeetsSeq2 PySem.MeetsSeq3
end
section
variable{prog:zAP}{w:World}{A:zA7}{E:Value->zAB->Prop}{s:zAB}
def aE4{ws:List Value}(ht:IsTup s.heap t #[])(hb:IsTup s.heap b ws.toArray)(h1:Q (.ref b) s):wpAny (model prog w) A (zBg .Add (.ref t) (.ref b)) Q E s:=by
 obtain⟨⟨cls,dd,data,sl⟩,ho,hc,n,hd⟩:=id ht;obtain⟨⟨cls2,dd2,data2,sl2⟩,ho2,hc2,n2,hd2⟩:=id hb;simp only at hc hd hc2 hd2;subst hc hd hc2 hd2;exact zG5 ⟨_,ho,rfl⟩ ⟨_,ho2,rfl⟩ zDh zEj zBa zB3 (zBY _ _)
   (tuple_addW0 t b #[] ws.toArray n n2 dd dd2 sl sl2 (by simp)) ⟨ho,ho2,h1⟩
def pJ{lo hi:Option Int}(ht:IsTup s.heap t items)(hs:s.heap.IsSliceOf sl vl vu .none)(pl:zEO vl lo)(pu:zEO vu hi)
  (h1:sIx items.size 0 lo=0)(h2:sIx items.size items.size hi=items.size)
  (h:Q (.ref t) s):wpAny (model prog w) A (zFa (.ref t) (.ref sl)) Q E s:=by
 obtain⟨os,hos,hcs,hds⟩:=id hs;have hTs:s.TypeIs (.ref sl) "slice":=⟨os,hos,hcs⟩;obtain⟨ot,hot,hct,hdt⟩:=id ht;unfold zFa
 try with_reducible refine zCQ ?_
 first|refine zAI (zA6 ?_)|skip
 refine zAI (zFE ht.typeIs (by decide) ?_);refine zAI (zCc (name:=zE6 "__getitem__") ht.typeIs zBI
  (zDD zBI ht.typeIs zGi ?_ (zGv _ _)))
 show wpAny _ _ (zDs (.ref t)>>=_) _ _ s;refine zAI (tupleItemsOf_ ht ?_);refine zAI (zDY hTs ?_);rw[if_pos (by decide)];refine zAI (jO hs pl pu ?_);have hyes:(((sIx items.size 0 lo:Nat):Int)==0&&(1:Int)==1&&(sIx items.size items.size hi-sIx items.size 0 lo)==items.size)=true:=by
  rw[h1,h2];simp
 show wpAny _ _ (if (((sIx items.size 0 lo:Nat):Int)==0&&(1:Int)==1&&(sIx items.size items.size hi-sIx items.size 0 lo)==items.size)=true then _ else _) _ _ s;rw[if_pos hyes];unfold zHC;refine zAI (zAI (zDY ht.typeIs (zA6 ?_)));rw[if_pos (by decide)];exact zAI (wpAny_rule (zA6 ⟨_,rfl,zA6 h⟩))
end
end HT
namespace L2
open PySem PySem.Spec PyProof.Rows
def aFs(t T:String):Bool:=decide (t=T)||(decide (t="bool")&&decide (T="int"))
def aFo{K:zAA}(ht:t∈["NoneType","bool","int","str","list","tuple","dict"])(hT:T∈["bool","int","str","list","tuple","dict"]):
  zB4 K (.type t) (.type T)=some (aFs t T):=by
 simp only[zAX,zE2,or_false]at ht hT;rcases ht with rfl|rfl|rfl|rfl|rfl|rfl|rfl<;>rcases hT with rfl|rfl|rfl|rfl|rfl|rfl<;>kernel_rfl
def lQ(t T:String)(b:Bool):Bool:=decide (t∈["NoneType","bool","int","str","list","tuple","dict"])&&decide (T∈["bool","int","str","list","tuple","dict"])&&(aFs t T==b)
def aAU{K:zAA}(h:lQ t T b=true):zB4 K (.type t) (.type T)=some b:=by
 unfold lQ at h;rw[zAK,zAK]at h;rw[aFo (of_decide_eq_true h.1.1) (of_decide_eq_true h.1.2),zCs h.2]
def bT(h:H p=none)(o:HO):aR H (upd H p o):=λ b u q=>by rw[aU (bD q h)];exact q
section
variable{X:Cx}
def aJx(K:zAA):List V->Hp->VK->Prop:=λ xs H Q=>∃x T t b,xs=[x,.ty T]/\qQ K H x (.type t)/\lQ t T b=true/\Q (.bl b) H
def jW:dw X (.builtin "isinstance") (aJx X.K):=by
 intro kQ s σ H xs us Q I r h;obtain⟨x,T,t,b,rfl,ty,ok,q⟩:=h;obtain⟨u,w',rfl,r1,r2⟩:=vals2 r;obtain rfl:w'=zBz T:=r2;exact aCM I r1 ty (aAU ok) λ tk=>⟨.bl b,H,I.tok tk,rfl,q⟩
end
def jZ(l:Addr)(H H':Hp):Prop:=∀b o,b≠l->H b=some o->H' b=some o
def aR.sqt{K:zAA}(e:aR H H')(h:SqT K H a xs):SqT K H' a xs:=by
 rcases h with (h|⟨o,h⟩)|h
 .exact .inl (.inl (e _ _ h))
 .exact .inl (.inr ⟨o,e _ _ h⟩)
 .exact .inr h
inductive D where
 |non|bl (b:Bool)|int (i:Int)|str (x:Str)|tup (l:List D)|lst (l:List D)|dct
mutual
inductive Rep(H:Hp):V->D->Prop where
 |non:Rep H .non .non
 |bl (b:Bool):Rep H (.bl b) (.bl b)
 |int (i:Int):Rep H (.int i) (.int i)
 |str (x:Str):Rep H (.str x) (.str x)
 |tup {a:Addr} {xs:List V} {ds:List D} (h:H a=some (.tup xs)) (r:aEb H xs ds):Rep H (.ref a) (.tup ds)
 |lst {a:Addr} {xs:List V} {ds:List D} (h:H a=some (.lst xs)) (r:aEb H xs ds):Rep H (.ref a) (.lst ds)
 |dct {a:Addr} (h:H a=some (.dK [])):Rep H (.ref a) .dct
inductive aEb(H:Hp):List V->List D->Prop where
 |nil:aEb H [] []
 |cons {x:V} {d:D} {xs:List V} {ds:List D} (h:Rep H x d) (r:aEb H xs ds):aEb H (x::xs) (d::ds)
end
def PE.weaken(h:PE X e t)(imp:∀σ H Q,t' σ H Q->t σ H Q):PE X e t':=λ kQ s σ H Q I q=>h kQ s σ H Q I (imp σ H Q q)
def OpR.weaken(h:OpR X f r)(imp:∀x y H Q,r' x y H Q->r x y H Q):OpR X f r':=λ kQ s σ H x y v u Q I rx ry q=>h kQ s σ H x y v u Q I rx ry (imp x y H Q q)
def New(H:Hp)(o:HO)(Q:VK):Prop:=∀p H',aR H H'->H' p=some o->H p=none->Q (.ref p) H'
def New.at(n:New H o Q)(hp:H p=none):Q (.ref p) (upd H p o):=n p _ (bT hp o) ak hp
section
variable{X:Cx}{es:List Expr}{t:TA}{pos:Pos}
def aIq(t:TA):TE:=λ σ H Q=>t σ H λ xs H1=>xs.length<=zAN/\New H1 (.tup xs) Q
def aGb(t:TA):TE:=λ σ H Q=>t σ H λ xs H1=>xs.length<=zAN/\New H1 (.lst xs) Q
def aFW{x1}(h:PA X es t):PE X (.Tuple es x1 pos) (aIq t):=by
 have h':PA X es (λ σ H Q=>∃R:List V->Hp->Prop,t σ H R/\∀xs H',R xs H'->Q xs H'):=by
  intro pos kQ s σ H Q I ⟨R,q,imp⟩;exact thn (h pos kQ s σ H R I q) λ us s' ⟨vs,H',I',r,q'⟩=>⟨vs,H',I',r,imp _ _ q'⟩
 exact(aHb h').weaken λ σ H Q q=>⟨_,q,λ xs H' ⟨z,n⟩=>⟨z,λ p hp=>n.at hp⟩⟩
def mQ(h:PA X es t):PE X (.List es pos) (aGb t):=by
 have h':PA X es (λ σ H Q=>∃R:List V->Hp->Prop,t σ H R/\∀xs H',R xs H'->Q xs H'):=by
  intro pos kQ s σ H Q I ⟨R,q,imp⟩;exact thn (h pos kQ s σ H R I q) λ us s' ⟨vs,H',I',r,q'⟩=>⟨vs,H',I',r,imp _ _ q'⟩
 exact(aHe h').weaken λ σ H Q q=>⟨_,q,λ xs H' ⟨z,n⟩=>⟨z,λ p hp=>n.at hp⟩⟩
def aDJ:R2:=λ x y H Q=>∃l b xs zs,x= .ref l/\y= .ref b/\H l=some (.lst xs)/\H b=some (.lst zs)/\xs.length+zs.length<=zAN/\New H (.lst (xs++zs)) Q
def wu:OpR X (zBg .Add) aDJ:=aHw.weaken λ x y H Q ⟨l,b,xs,zs,e1,e2,h1,h2,z,n⟩=>⟨l,b,xs,zs,e1,e2,h1,h2,z,λ p hp=>n.at hp⟩
def yZ:V->List V->Hp->VK->Prop:=λ x vs H Q=>∃l xs y,x= .ref l/\vs=[y]/\H l=some (.lst xs)/\xs.length<zAN/\∀H',jZ l H H'->H' l=some (.lst (xs++[y]))->Q .non H'
def aAK:MtM X "list.append" yZ:=λ kQ s σ H x xs v us Q I rx rv ⟨l,ys,y,e1,e2,h,z,n⟩=>
 vW kQ s σ H x xs v us Q I rx rv ⟨l,ys,y,e1,e2,h,z,n _ (λ b o ne hb=>by rw[aU ne];exact hb) ak⟩
end
def az(scope:Scope)(env:Env):List (Str×Addr):=(scope.names.filterMap λ y=>if y.2== .free then(env.cells.lookup y.1).map λ c=>(y.1,c)else none).reverse
theorem ud(env:Env):∀(names:List (Str×zDG)) (acc:List (Str×Addr)),(∀y∈names,y.2= .free->∃c,env.cells.lookup y.1=some c)->
  (forIn names acc λ(x:Str×zDG) r=>if (x.2== .free)=true then do let c <-cellOf env x.1;pure (zBh ((x.1,c)::r))else pure (zBh r):Sem (List (Str×Addr)))=
   pure ((names.filterMap λ y=>if y.2== .free then(env.cells.lookup y.1).map λ c=>(y.1,c)else none).reverse++acc)
 |[],acc,_=>rfl
 |(n,k)::r,acc,h=>by
  rw[List.forIn_cons];have ih:=λ acc'=>ud env r acc' λ y hy=>h y (zAF _ hy)
  by_cases hk:k= .free
  .subst hk
   obtain⟨c,hc⟩:=h (n,.free) zAD rfl;have hc':env.cells.lookup n=some c:=hc;simp only[beq_self_eq_true,if_true,cellOf,hc',zBb,zCp,List.reverse_cons,zAk,zFo];exact ih _
  .have hb:(k==zBc)=false:=by simpa using hk
   simp only[hb,zEE,if_false,zBb];exact ih _
def nH(h:∀y∈scope.names,y.2= .free->∃c,env.cells.lookup y.1=some c):zGE scope env=pure (az scope env):=by
 have e:=ud env scope.names [] h;rw[zAb]at e;have e2:zGE scope env=((forIn scope.names ([]:List (Str×Addr)) λ(x:Str×zDG) r=>if (x.2== .free)=true then do let c <-cellOf env x.1;pure (zBh ((x.1,c)::r))else pure (zBh r):Sem (List (Str×Addr)))>>=λ r=>pure r):=rfl;rw[e2,e];rfl
def fC(h:(az scope env).lookup x=some c):env.cells.lookup x=some c:=by
 have hm:=zAd h;unfold az at hm;rw[zG0,zBf]at hm;obtain⟨y,hy,e⟩:=hm;split at e
 .cases q:env.cells.lookup y.1 with
  |none=>rw[q]at e;cases e
  |some c'=>
   rw[q]at e;have e':=zAg e;injection e' with e1 e2
   subst e1 e2;exact q
 .cases e
def pQ(hx:scope.names.lookup x=some .free)(h:env.cells.lookup x=some c):(az scope env).lookup x=some c:=by
 have hm:(x,zBc)∈scope.names:=zAd hx
 have:(x,c)∈az scope env:=by
  unfold az;rw[zG0,zBf];exact⟨_,hm,by simp[h]⟩
 cases q:(az scope env).lookup x with
 |none=>
  exact absurd this (by
   intro hm'
   have:=List.lookup_eq_none_iff.mp q _ hm'
   simp at this)
 |some c'=>
  have:=fC q
  rw[h]at this;exact this.symm▸rfl
def qx(scope:Scope)(C:Addr):List (Str×Addr):=zCU (C+1) scope.names []
theorem jV:∀(names:List (Str×zDG)) (n:Nat) (acc:List (Str×Addr)),zCU n names acc=zCU n names []++acc
 |[],_,_=>rfl
 |(x,k)::r,n,acc=>by
  unfold zCU;split
  .rw[jV r (n+1) ((x,n)::acc),jV r (n+1) [(x,n)],zAk];rfl
  .exact jV r n acc
theorem oG:∀{names:List (Str×zDG)} {n:Nat} {x:Str} {c:Addr},(x,c)∈zCU n names []->(x,zCe)∈names
 |(y,k)::r,n,x,c,h=>by
  unfold zCU at h;split at h
  .rename_i hk
   rw[jV,zAM]at h;rcases h with h|h
   .exact zAF _ (oG h)
   .have e:=zAo.mp h
    cases e;rw[zCs hk];exact zAD
  .exact zAF _ (oG h)
 |[],_,_,_,h=>by cases h
def jQ{l m:List (Str×Addr)}(h:(l++m).lookup x=some c):l.lookup x=some c\/(l.lookup x=none/\m.lookup x=some c):=by
 rw[zEI]at h;cases e:l.lookup x with
 |some c'=>rw[e]at h;exact .inl h
 |none=>rw[e]at h;exact .inr ⟨rfl,h⟩
def aFa{M:Model}{A:zA7}{E:Value->zAB->Prop}{s:zAB}{scope:Scope}{globals:Addr}{cl:List (Str×Addr)}{qual:Str}{env:Env}{Q:Env->zAB->Prop}
  (h:∀h':Heap,h'.Ns s.heap.objs.size (λ _=>none)->(∀b o,s.heap.get? b=some o->h'.get? b=some o)->CellsOk h' (s.heap.objs.size+1) (qx scope s.heap.objs.size)->
   Q {scope:=scope,locals:=s.heap.objs.size,globals:=globals,cells:=qx scope s.heap.objs.size++cl,qual:=qual,func:=none,code:=env.code,frame:=env.frame,builtins:=env.builtins} {s with heap:=h'}):
  wpAny M A (zGA scope globals cl [] qual none .none (some env)) Q E s:=by
 simp only[zGA,Option.isSome_some,if_true];refine zAI (wpAny_alloc ?_);refine zAI (wpAny_layCells _ (λ name kind cells=>by cases hkc:kind==zCe<;>simp[hkc]) _ _ _ _ ?_);have ok:=cellsFrom_ok scope.names (s.heap.push {cls:=.type "dict",data:=.dict #[]}) (s.heap.objs.size+1) [] ⟨λ _ _ hm=>(nomatch hm),zEr⟩ (by rw[zCa];exact zAL _);rw[zCa]at ok;rw[show({s with heap:=s.heap.push {cls:=.type "dict",data:=.dict #[]}}:zAB).heap.objs.size=s.heap.objs.size+1 from zCa ..,jV];refine zA6 ?_;exact h _ ((Heap.Ns.new s.heap (.type "dict")).keeps (pushCells_keeps _ _)) (λ b o e=>pushCells_keeps _ _ b o (zAG _ e)) ok
def Cx.block(X:Cx)(scope:Scope)(C:Addr)(N:List Str)(fp:List Addr)(z5:zAB)(zI:Hp):Cx:=
  {prog:=X.prog,w:=X.w,K:=X.K,mg:=X.mg,base:=X.base,A:=X.A,N:=N,z5:=z5,zI:=zI,env:=compEnvC scope (qx scope C++az scope X.env) C X.env,outer:=X.stack,stack:=X.stack,ex:=fp,
    fn:=λ x=>scope.names.lookup x==some .cell,calm:=X.calm,pn:=[],xe:=λ _ _=>False}
structure j0(X:Cx)(scope:Scope)(N:List Str)(st:St->St)(ks:List Nat):Prop where
 kind:scope.kind= .function
 sep:∀y∈scope.names,y.2= .cell->scope.names.lookup y.1=some .cell
 loc:∀y∈scope.names,y.2= .local->scope.names.lookup y.1=some .local
 free:∀y∈scope.names,y.2= .free->X.env.kindOf y.1=some .cell\/X.env.kindOf y.1=some .free
 len:∀σ,(st σ).length=N.length
 val:∀σ (i:Nat) x v,N[i]? =some x->(st σ)[i]? =some (some v)->scope.names.lookup x=some .free/\i∉ks/\∃j:Nat,X.N[j]? =some x/\σ[j]? =some (some v)
def wX(h:(zFc scope env).names.lookup x=some .cell\/(zFc scope env).names.lookup x=some .free):scope.names.lookup x=some .free\/scope.names.lookup x=some .cell:=by
 have go:∀names:List (Str×zDG),((names.map λ(n,k)=>if (k==zBc&&env.scope.kind== .function&&env.kindOf n==some .cell)then(n,zCe)else(n,k)).lookup x=some .cell\/
   (names.map λ(n,k)=>if (k==zBc&&env.scope.kind== .function&&env.kindOf n==some .cell)then(n,zCe)else(n,k)).lookup x=some .free)->names.lookup x=some .free\/names.lookup x=some .cell:=by
  intro names;induction names with
  |nil=>intro h;simp at h
  |cons y r ih=>
   obtain⟨n,k⟩:=y;intro h;rw[zAU]at h;by_cases hx:x==n
   .rw[zAl,hx]
    show some k=some .free\/some k=some .cell;by_cases hcc:(k==zBc&&env.scope.kind== .function&&env.kindOf n==some .cell)=true
    .rw[zAK,zAK]at hcc
     rw[zCs hcc.1.1];exact .inl rfl
    .simp only[if_neg hcc,zAl,hx]at h
     exact h.elim .inr .inl
   .have hx':(x==n)=false:=by simpa using hx
    rw[zAl,hx'];refine ih ?_;by_cases hcc:(k==zBc&&env.scope.kind== .function&&env.kindOf n==some .cell)=true
    .simp only[if_pos hcc,zAl,hx']at h
     exact h
    .simp only[if_neg hcc,zAl,hx']at h
     exact h
 exact go scope.names h
def wY(h:scope.names.lookup x=some .free):(zFc scope env).names.lookup x=some .cell\/(zFc scope env).names.lookup x=some .free:=by
 have go:∀names:List (Str×zDG),names.lookup x=some .free->((names.map λ(n,k)=>if (k==zBc&&env.scope.kind== .function&&env.kindOf n==some .cell)then(n,zCe)else(n,k)).lookup x=some .cell\/
   (names.map λ(n,k)=>if (k==zBc&&env.scope.kind== .function&&env.kindOf n==some .cell)then(n,zCe)else(n,k)).lookup x=some .free):=by
  intro names;induction names with
  |nil=>intro h;simp at h
  |cons y r ih=>
   obtain⟨n,k⟩:=y;intro h;rw[zAU];by_cases hx:x==n
   .rw[zAl,hx]at h
    have hk:k= .free:=zAg h;by_cases hcc:(k==zBc&&env.scope.kind== .function&&env.kindOf n==some .cell)=true
    .simp only[if_pos hcc,zAl,hx]
     exact .inl trivial
    .simp only[if_neg hcc,zAl,hx]
     exact .inr (by rw[hk])
   .have hx':(x==n)=false:=by simpa using hx
    rw[zAl,hx']at h;by_cases hcc:(k==zBc&&env.scope.kind== .function&&env.kindOf n==some .cell)=true
    .simp only[if_pos hcc,zAl,hx']
     exact ih h
    .simp only[if_neg hcc,zAl,hx']
     exact ih h
 exact go scope.names h
section
variable{X:Cx}{kQ:hV}{σ:St}{H:Hp}{s:zAB}
theorem Inv.block{st:St->St}{D C:Addr}(I:Inv X kQ σ H s)(B:j0 X scope N st ks)
  (hfp:∀b∈fp,rE X kQ H b)(hob:∀b∈fp,∃ob,s.heap.get? b=some ob)
  (hD:s.heap.objs.size<=D)(hC:s.heap.objs.size<=C)(hDC:D≠C)(keep:∀b u,s.heap.get? b=some u->h'.get? b=some u)(hns:h'.Ns C λ _=>none)(hcs:CellsOk h' (C+1) (qx scope C))(hDo:∀c,C<c->D≠c)(oQ:dC X.prog X.w (upd H D o) h' D o):
  Inv (X.block scope C N fp s H) [] (st σ) (upd H D o) {s with heap:=h',toks:=tk}:=by
 have hHD:H D=none:=I.hok.fresh hD;have hcl:∀x c,(az scope X.env).lookup x=some c->X.env.cells.lookup x=some c:=λ x c e=>fC e
 have hol:∀x c,(qx scope C).lookup x=some c->C<c/\h'.IsCell c none:=λ x c e=>let⟨q1,q2⟩:=hcs.empty x c (zAd e);⟨q2,q1⟩
 have hlt:∀x c,(az scope X.env).lookup x=some c->c<s.heap.objs.size:=λ x c e=>let⟨v,ic⟩:=I.cell x c (hcl x c e);ic.lt
 have bS:∀b∈fp,b<s.heap.objs.size:=λ b hb=>by
  obtain⟨ob,e⟩:=hob b hb;exact zAV e
 refine⟨⟨I.mod,?_,I.ok.glob,I.ok.blt,hC,λ x y c e1 e2=>?_,λ x hx=>?_,λ x c hf e=>?_,I.ok.hd,I.ok.frames,.inl rfl,λ b hb=>⟨?_,λ x c e z=>?_⟩,
  I.bs,?_,λ b ob e hb=>?_,λ b hb hs=>?_,I.stack,I.stkFree⟩,rfl,I.bare,Un.laid keep hD hHD,⟨_,hns,λ i x v e1 e2 hv=>?_⟩,λ x c e=>?_,?_,λ x c e=>?_,λ p hp=>absurd (show p∈([]:hV)from hp) (by simp),I.hok.laid keep hD oQ,B.len σ,λ p hp=>absurd (show p∈([]:hV)from hp) (by simp)⟩
 .show(zFc scope X.env).kind= .function
  exact B.kind
 .rcases jQ e1 with a1|⟨_,a1⟩<;>rcases jQ e2 with a2|⟨_,a2⟩
  .exact PySem.name_of_addr hcs.apart (zAd a1) (zAd a2)
  .exact absurd (hlt y c a2) (zEU.mpr (zAe hC (zB9 (hol x c a1).1)))
  .exact absurd (hlt x c a1) (zEU.mpr (zAe hC (zB9 (hol y c a2).1)))
  .exact I.ok.inj x y c (hcl x c a1) (hcl y c a2)
 .show∃c,(qx scope C++az scope X.env).lookup x=some c
  rw[zEI];cases e:(qx scope C).lookup x with
  |some c=>exact⟨c,rfl⟩
  |none=>
   rcases wX hx with hfree|hcell
   .obtain⟨c,hc⟩:=I.ok.has x (B.free (x,.free) (zAd hfree) rfl)
    exact⟨c,pQ hfree hc⟩
   .obtain⟨c,hc⟩:=pR (n:=C+1) hcell
    rw[show(qx scope C).lookup x=some c from hc]at e;cases e
 .rcases jQ e with a1|⟨a0,_⟩
  .exact zAe hC (zB9 (hol x c a1).1)
  .obtain⟨c',hc'⟩:=pR (n:=C+1) (zCs hf)
   rw[show(qx scope C).lookup x=some c' from hc']at a0;cases a0
 .exact zAf (zAY (bS b hb) hC)
 .rcases jQ e with a1|⟨_,a1⟩
  .exact absurd (bS b hb) (zEU.mpr (by rw[<-z];exact zAe hC (zB9 (hol x c a1).1)))
  .exact(hfp b hb).2.2.2.2.1 x c (hcl x c a1) z
 .exact zAe I.ok.bsz I.sz
 .rcases(hfp b hb).2.2.2.1 with z|z
  .exact I.ok.noex b ob e z
  .exact absurd (zAY (zAV (I.ok.bs b ob e).1) z) (zB7 _)
 .rcases zAX.mp (I.stkSub b hs)with z|z
  .exact(hfp b hb).2.1 z
  .exact(hfp b hb).2.2.1 z
 .obtain⟨hfree,_,j,f1,f2⟩:=B.val σ i x v e1 e2
  obtain⟨m,hn,hl⟩:=I.loc;have hk:=B.free (x,.free) (zAd hfree) rfl;obtain⟨u,ru,hu⟩:=hl j x v f1 f2 (hk.elim (λ z=>.inr (.inl z)) λ z=>.inr (.inr z));rcases hu with ⟨k,_⟩|⟨_,c,ec,ic⟩
  .rcases hk with z|z
   .exact absurd (k.symm.trans z) (by decide)
   .exact absurd (k.symm.trans z) (by decide)
  .have hno:(qx scope C).lookup x=none:=by
    cases e:(qx scope C).lookup x with
    |none=>rfl
    |some c'=>
     have:=B.sep _ (oG (zAd e)) rfl
     rw[hfree]at this;cases this
   refine⟨u,ru,.inr ⟨?_,c,by show(qx scope C++az scope X.env).lookup x=some c;rw[zEI,hno];exact pQ hfree ec,ic.keeps keep⟩⟩;rcases hv with z|z|z
   .have z':(zFc scope X.env).names.lookup x=some .local:=z
    rcases wY (env:=X.env) hfree with y|y
    .exact absurd (z'.symm.trans y) (by decide)
    .exact absurd (z'.symm.trans y) (by decide)
   .exact .inl z
   .exact .inr z
 .rcases jQ e with a1|⟨_,a1⟩
  .exact⟨_,(hol x c a1).2⟩
  .obtain⟨v,ic⟩:=I.cell x c (hcl x c a1)
   exact⟨v,ic.keeps keep⟩
 .show upd H D o C=none
  rw[aU (zCf hDC)];exact I.hok.fresh hC
 .show upd H D o c=none
  rcases jQ e with a1|⟨_,a1⟩
  .rw[aU (zCf (hDo c (hol x c a1).1))]
   exact I.hok.fresh (zAe hC (zB9 (hol x c a1).1))
  .obtain⟨v,ic⟩:=I.cell x c (hcl x c a1)
   rw[aU (zAf (zAY ic.lt hD))];exact I.freeC x c (hcl x c a1)
end
section
variable{prog:zAP}{w:World}{A:zA7}{R:zEQ->zAB->Prop}{s:zAB}
def xU(I:Nat->zAB->Prop)
  (turn:∀n s,I n s->wpAny (model prog w) A (pyNext it) (λ r z4=>match r with
   |none=>R (.ok .next) z4
   |some v=>wpAny (model prog w) A (zED target it v) (λ _ z4=>wpAny (model prog w) A (zFJ target env v) (λ _ zS=>
     wpAny (model prog w) A (forIn ifs true λ c r=>if r=true then do let ok <-isTrue c env (eval c env);pure (zBh ok)else pure (zBh r)) (λ ok zC=>
      if ok=true then wpAny (model prog w) A (eval elt env) (λ x s₄=>
       wpAny (model prog w) A (call (.builtin "list.append") [acc,x]) (λ _ s₅=>∃m,m<n/\I m s₅) (λ _ _=>False) s₄) (λ _ _=>False) zC
      else∃m,m<n/\I m zC) (λ _ _=>False) zS) (λ _ _=>False) z4) (λ _ _=>False) z4) (λ _ _=>False) s)
  (n:Nat)(h:I n s):zDC (model prog w) A (.compLoop (.ListComp elt [⟨target,iter,ifs,0⟩] scope pos) 0 it acc env) R s:=by
 refine codeAny_loop rfl I (λ n s hI=>?_) n h;show wpAny _ A ((compTurn (.ListComp elt [⟨target,iter,ifs,0⟩] scope pos) 0 it acc env).onRaise (λ x=>do noteFrame x env;theTreesLotGoes x)) _ _ s;refine wpAny_noted ?_;rw[compTurn_list];refine zAI (wpAny_standAt (zAI (zB5 (turn n s hI) (λ r z4 zD=>?_) λ _ _ h'=>h'.elim)));cases r with
 |none=>exact zA6 zD
 |some v=>
  refine zAI (zB5 zD (λ _ z4 zD=>?_) λ _ _ h'=>h'.elim);refine zAI (zB5 zD (λ _ zS h₂=>zAI (zB5 h₂ (λ ok zC h₃=>?_) λ _ _ h'=>h'.elim)) λ _ _ h'=>h'.elim);cases ok with
  |false=>exact zA6 ⟨rfl,h₃⟩
  |true=>
   exact zAI (zAI (zB5 h₃ (λ x s₄ h₄=>zAI (zB5 h₄ (λ _ s₅ h₅=>zA6 (zA6 ⟨rfl,h₅⟩)) λ _ _ h'=>h'.elim)) λ _ _ h'=>h'.elim))
end
def wA(g:TG)(ks:List Nat):Prop:=∀v σ H (Q:St->Hp->Prop),g v σ H Q->g v σ H (λ σ' H'=>Q σ' H'/\σ'.length=σ.length/\∀k,k∉ks->σ'[k]? =σ[k]?)
def ul(g:TGs)(ks:List Nat):Prop:=∀vs σ H (Q:St->Hp->Prop),g vs σ H Q->g vs σ H (λ σ' H'=>Q σ' H'/\σ'.length=σ.length/\∀k,k∉ks->σ'[k]? =σ[k]?)
def aGC(h:i∈ks):wA (qi i) ks:=λ v σ H Q q=>⟨q,zC2,λ k hk=>zBJ (λ(e:i=k)=>hk (e▸h))⟩
def aGB:ul aIZ ks:=λ vs σ H Q ⟨e,q⟩=>⟨e,q,rfl,λ _ _=>rfl⟩
def zW(g:TG):Prop:=∀v σ H (Q Q':St->Hp->Prop),(∀σ' H',Q σ' H'->Q' σ' H')->g v σ H Q->g v σ H Q'
def qR(g:TGs):Prop:=∀v σ H (Q Q':St->Hp->Prop),(∀σ' H',Q σ' H'->Q' σ' H')->g v σ H Q->g v σ H Q'
def aGE:zW (qi i):=λ v σ H Q Q' imp q=>imp _ _ q
def aGD:qR aIZ:=λ v σ H Q Q' imp ⟨e,q⟩=>⟨e,imp _ _ q⟩
def aEM(h1:zW t)(h2:qR u):qR (aEO t u):=λ vs σ H Q Q' imp ⟨v,r,e,q⟩=>⟨v,r,e,h1 _ _ _ _ _ (λ σ' H' q'=>h2 _ _ _ _ _ imp q') q⟩
def aEK(h1:wA t ks)(m1:zW t)(h2:ul u ks)(m2:qR u):ul (aEO t u) ks:=λ vs σ H Q ⟨v,r,e,q⟩=>
 ⟨v,r,e,m1 _ _ _ _ _ (λ σ' H' ⟨q',l',k'⟩=>m2 _ _ _ _ _ (λ σ2 H2 ⟨q2,l2,k2⟩=>⟨q2,l2.trans l',λ k hk=>(k2 k hk).trans (k' k hk)⟩) (h2 _ _ _ _ q')) (h1 _ _ _ _ q)⟩
def aIX{K:zAA}(h:ul t ks):wA (aGF K n t) ks:=λ v σ H Q ⟨a,xs,e1,e2,e3,q⟩=>⟨a,xs,e1,e2,e3,h _ _ _ _ q⟩
def aIY{K:zAA}(h:qR t):zW (aGF K n t):=λ v σ H Q Q' imp ⟨a,xs,e1,e2,e3,q⟩=>⟨a,xs,e1,e2,e3,h _ _ _ _ _ imp q⟩
def aG1(X:Cx)(ifs:List Expr)(t:TT):Prop:=
 ∀(kQ:hV) (s:zAB) (σ:St) (H:Hp) (Q:Bool->Hp->Prop),Inv X kQ σ H s->t σ H Q->
  wpAny (model X.prog X.w) X.A (forIn ifs true λ c r=>if r=true then do let ok <-isTrue c X.env (eval c X.env);pure (zBh ok)else pure (zBh r)) (TP X kQ σ Q) X.xe s
def aJh:TT:=λ _ H Q=>Q true H
def aHa:aG1 X [] aJh:=λ _ _ _ H _ I h=>wpAny_tests_nil ⟨H,I,h⟩
def tLC(wi:TI)(st:St->St)(g:TG)(tt:TT)(te:TE):TE:=λ σ H Q=>wi σ H λ J H1=>∀l,H1 l=none->∃W:Nat->Nat->List V->Hp->Prop,(∃m,W 0 m [] (upd H1 l (.lst [])))/\
 ∀i m acc H2,W i m acc H2->H2 l=some (.lst acc)/\acc.length<zAN/\((J.stop i H2/\Q (.ref l) H2)\/(J.go i H2/\∀x H3,J.yld i H2 x H3->g x (st σ) H3 λ σ4 H4=>tt σ4 H4 λ ok H5=>
  if ok=true then te σ4 H5 λ y H6=>H6 l=some (.lst acc)/\∃m',m'<m/\W (i+1) m' (acc++[y]) (upd H6 l (.lst (acc++[y])))else∃m',m'<m/\W (i+1) m' acc H5))
section
variable{X:Cx}{elt tg iter:Expr}{ifs:List Expr}{scope:Scope}{pos:Pos}{N:List Str}{st:St->St}{ks:List Nat}{wi:TI}{g:TG}{tt:TT}{te:TE}
def aDm(B:j0 X scope N st ks)(hc:X.calm=true)(hg:∀C fp z5 zI,PG (X.block scope C N fp z5 zI) tg g)(hgo:wA g ks)(ht:∀C fp z5 zI,aG1 (X.block scope C N fp z5 zI) ifs tt)
  (he:∀C fp z5 zI,PE (X.block scope C N fp z5 zI) elt te){H1:Hp}{Q:VK}{RR:Value->Addr->zEQ->zAB->Prop}
  (I:Inv X kQ σ H1 zS)(T:Turn X.prog X.w X.K tg J fp it tn)(h0:tn 0 zS.heap)(hfp:∀b∈fp,rE X kQ H1 b)
  (h:∀l,H1 l=none->∃W:Nat->Nat->List V->Hp->Prop,(∃m,W 0 m [] (upd H1 l (.lst [])))/\
   ∀i m acc H2,W i m acc H2->H2 l=some (.lst acc)/\acc.length<zAN/\((J.stop i H2/\Q (.ref l) H2)\/(J.go i H2/\∀x H3,J.yld i H2 x H3->g x (st σ) H3 λ σ4 H4=>tt σ4 H4 λ ok H5=>
    if ok=true then te σ4 H5 λ y H6=>H6 l=some (.lst acc)/\∃m',m'<m/\W (i+1) m' (acc++[y]) (upd H6 l (.lst (acc++[y])))else∃m',m'<m/\W (i+1) m' acc H5)))
  (hRR:∀D C H' s',(∃σ',Inv (X.block scope C N fp zS H1) [] σ' H' s')->zS.heap.objs.size<=C->Q (.ref D) H'->RR (.ref D) C (.ok .next) s'):
  wpAny (model X.prog X.w) X.A (zGj []) (λ acc zC=>wpAny (model X.prog X.w) X.A (zGA scope X.env.globals (az scope X.env) [] X.env.qual none .none (some X.env)) (λ cenv s₄=>
   zDC (model X.prog X.w) X.A (.compStart (.ListComp elt [⟨tg,iter,ifs,0⟩] scope pos) 0 (.ref it) acc {cenv with scope:=zFc scope X.env}) (RR acc cenv.locals) s₄) E zC) E zS:=by
 refine zBw (aFa λ zD hns₁ y8 hcs₁=>?_);dsimp only at hns₁ y8 hcs₁ ⊢;generalize hH2:zS.heap.push {cls:=.type "list",dict:=none,data:=.seq ([]:List Value).toArray}=P2 at hns₁ y8 hcs₁ ⊢;have hC:P2.objs.size=zS.heap.objs.size+1:=by rw[<-hH2,zCa]
 have hDC:zS.heap.objs.size≠P2.objs.size:=by rw[hC];exact zAf (zEc _)
 have qV:zS.heap.objs.size<=P2.objs.size:=by rw[hC];exact zDy _
 have old:∀b o,zS.heap.get? b=some o->zD.get? b=some o:=λ b o e=>y8 b o (hH2▸zAG _ e)
 have oQ:zD.get? zS.heap.objs.size=some {cls:=.type "list",dict:=none,data:=.seq ([]:List Value).toArray}:=y8 _ _ (hH2▸zAa _ rfl);generalize hCe:P2.objs.size=C at hns₁ y8 hcs₁ hDC qV hC ⊢;have hHD:H1 zS.heap.objs.size=none:=I.hok.fresh (zAL _);have I0:Inv (X.block scope C N fp zS H1) [] (st σ) (upd H1 zS.heap.objs.size (.lst [])) {zS with heap:=zD,toks:=zS.toks}:=
  I.block B hfp (λ b hb=>by obtain⟨o,e,_⟩:=T.obj 0 _ h0 b hb;exact⟨o,e⟩) (zAL _) qV hDC old hns₁ hcs₁ (λ c hc=>zAf (Nat.lt_of_le_of_lt qV hc)) ⟨zAc _,[],0,.nil,oQ⟩
 obtain⟨W,⟨m0,w0⟩,step⟩:=h _ hHD;have h01:tn 0 zD:=T.keep 0 _ _ h0 λ b _ o e=>old b o e
 have aS:∀{H':Hp},(∀b∈fp,H' b=none)->∀b∈fp,rE (X.block scope C N fp zS H1) [] H' b:=λ{H'} hn b hb=>
  ⟨hn b hb,(I0.ok.exf b hb).1,I0.ok.exfs b hb,.inl hb,λ x c e=>(I0.ok.exf b hb).2 x c e,λ p hp=>absurd (show p∈([]:hV)from hp) (by simp)⟩
 have fr0:∀b∈fp,upd H1 zS.heap.objs.size (.lst []) b=none:=λ b hb=>by
  obtain⟨o,e,_⟩:=T.obj 0 _ h0 b hb;rw[aU (zAf (zAV e))];exact(hfp b hb).1
 have loop:∀zC:zAB,zC={zS with heap:=zD,toks:=zS.toks}->
   zDC (model X.prog X.w) X.A (.compLoop (.ListComp elt [⟨tg,iter,ifs,0⟩] scope pos) 0 (.ref it) (.ref zS.heap.objs.size) (X.block scope C N fp zS H1).env) (RR (.ref zS.heap.objs.size) C) zC:=by
  rintro zC rfl;refine xU (λ n s'=>∃i acc H2,Inv (X.block scope C N fp zS H1) [] (st σ) H2 s'/\tn i s'.heap/\(∀b∈fp,H2 b=none)/\W i n acc H2) ?_ m0 ⟨0,[],_,I0,h01,fr0,w0⟩;rintro n s3 ⟨i,acc,H2,I2,st2,fr2,w2⟩;obtain⟨hl,hz,alt⟩:=step i n acc H2 w2;rcases alt with ⟨stop,q⟩|⟨go,nxt⟩
  .refine thn (T.done (X.block scope C N fp zS H1) rfl rfl rfl hc i [] s3 (st σ) H2 _ I2 (aS fr2) st2 stop) λ r s4 ⟨hr,I4⟩=>?_
   subst hr;exact hRR _ C H2 s4 ⟨_,I4⟩ qV q
  .refine thn (T.item (X.block scope C N fp zS H1) rfl rfl rfl hc i [] s3 (st σ) H2 _ I2 (aS fr2) st2 go) λ r s4 ⟨u,hr,h4⟩=>?_
   subst hr;refine thn h4 λ _ s5 ⟨x,H5,I5,r5,y5,st5,fr5⟩=>?_
   have I5':=I5.pinned (aS fr5) (T.obj _ _ st5);refine thn (hg C fp zS H1 _ s5 (st σ) H5 x u _ I5' r5 (hgo _ _ _ _ (nxt x H5 y5))) λ _ s6 ⟨σ6,H6,I6,q6,aJX,ag6⟩=>?_
   refine thn (ht C fp zS H1 _ s6 σ6 H6 _ I6 q6) λ ok s7 ⟨H7,I7,q7⟩=>?_
   have again:∀{H9:Hp} {s9:zAB} {acc':List V},Inv (X.block scope C N fp zS H1) ([]++tK fp s5.heap) σ6 H9 s9->(∃m',m'<n/\W (i+1) m' acc' H9)->
     ∃m,m<n/\∃i acc H2,Inv (X.block scope C N fp zS H1) [] (st σ) H2 s9/\tn i s9.heap/\(∀b∈fp,H2 b=none)/\W i m acc H2:=λ{H9 s9 acc'} I9 ⟨m',hm,w9⟩=>by
    have pin9:∀b∈fp,∀o,s5.heap.get? b=some o->s9.heap.get? b=some o/\H9 b=none:=λ b hb o e=>by
     have z:=I9.pin (b,o) (zAZ _ (zAZ _ (n8 hb e)));exact⟨z.1,z.2.1⟩
    refine⟨m',hm,i+1,acc',H9,I9.unpinned.weak (by rw[aJX]) (λ k v e=>?_),T.keep _ _ _ st5 λ b hb o e=>(pin9 b hb o e).1,λ b hb=>?_,w9⟩
    .have hk:k<(st σ).length:=(zA3.mp e).1
     have hkN:k<N.length:=by rw[<-B.len σ];exact hk
     obtain⟨_,hks,_⟩:=B.val σ k _ v (zAR hkN) e;rw[ag6 k hks];exact e
    .obtain⟨o,e,_⟩:=T.obj _ _ st5 b hb
     exact(pin9 b hb o e).2
   cases ok with
   |false=>
    rw[if_neg zAT]at q7 ⊢;exact again I7 q7
   |true=>
    rw[if_pos rfl]at q7 ⊢;refine thn (he C fp zS H1 _ s7 σ6 H7 _ I7 q7) λ u8 s8 ⟨y,H8,I8,r8,hl8,q8⟩=>?_
    refine thn (vW _ s8 σ6 H8 (.ref zS.heap.objs.size) [y] (.ref zS.heap.objs.size) [u8] (λ _ H9=>H9=upd H8 zS.heap.objs.size (.lst (acc++[y]))) I8 rfl (.cons r8 .nil) ⟨_,acc,y,rfl,rfl,hl8,hz,rfl⟩) λ _ s9 ⟨_,H9,I9,_,e9⟩=>?_
    subst e9;exact again I9 q8
 exact codeAny_compStart_list (loop _ rfl) (T.self X.A 0 _ _ _ h01 (loop _ rfl))
def aGU(I:Inv X kQ σ H1 zS)(hfp:∀b∈fp,rE X kQ H1 b)(h:∃σ',Inv (X.block scope C N fp zS H1) [] σ' H' s'):Inv X kQ σ H' s':=by
 obtain⟨σ',J⟩:=h;exact I.call' (ch:=fp) J.os J.base J.hok J.bare λ b hb=>⟨(hfp b hb).2.2.2.1,(hfp b hb).2.1,(hfp b hb).2.2.2.2.1,(hfp b hb).2.2.2.2.2⟩
def aGo(B:j0 X scope N st ks)(hc:X.calm=true)(hi:PI X tg iter wi)(hg:∀C fp z5 zI,PG (X.block scope C N fp z5 zI) tg g)(hgo:wA g ks)(ht:∀C fp z5 zI,aG1 (X.block scope C N fp z5 zI) ifs tt)
  (he:∀C fp z5 zI,PE (X.block scope C N fp z5 zI) elt te)(hs:∀x,zCP iter X.env x=pure x:=by intro _;rfl):PE X (.ListComp elt [⟨tg,iter,ifs,0⟩] scope pos) (tLC wi st g tt te):=by
 intro kQ s σ H Q I h;have hcl:zGE scope X.env=pure (az scope X.env):=nH λ y hy hk=>I.ok.has _ (B.free y hy hk)
 rw[eval_ListComp];refine wpAny_comprehension_free (use:=none) rfl hs hcl B.kind B.loc (thn (hi kQ s σ H _ I h) λ v s1 h1=>thn h1 λ itv s2 h2=>?_);obtain⟨it,fp,tn,J,H2,e,I2,T,st2,f2,hq⟩:=h2;subst e;refine aDm (RR:=λ acc C=>compPost (model X.prog X.w) X.A X.xe none (EP X kQ σ Q) acc C) B hc hg hgo ht he I2 T st2 f2 hq ?_;intro D C H' s' hJ qV q;have I3:=aGU I2 f2 hJ;obtain⟨σ',J'⟩:=hJ;obtain⟨m,hn,_⟩:=id J'.loc;have hHC:H' C=none:=J'.free;refine⟨m,hn,λ h'' hs''=>⟨.ref D,H',?_,rfl,q⟩⟩;exact I3.turned (t':=s'.toks) (λ b o ne e=>(hs''.2 b ne).trans e) hHC (zDe (zAY I2.lt qV)) (.inr (zAe I2.sz qV))
  (λ x c e z=>by obtain⟨v,ic⟩:=I2.cell x c e;exact absurd (zAY ic.lt (by rw[z];exact qV)) (zB7 _))
  (λ p hp z=>absurd (zAY (I2.pinL hp) (by rw[z];exact qV)) (zB7 _))
end
def CX1(P:zAP)(w:World):CXT:=λ outer H s E e s'=>∃(ea:Addr) (cls a0:Value) (B:Heap) (H':Hp),e= .ref ea/\s'.os=s.os/\zDw s'.gens/\Un (frs outer) [] H H' s.heap s'.heap/\HOk P w H' B/\zHE B outer ea cls a0 s'.heap/\
 (∀b o,s.heap.get? b=some o->H b=none->b∉frs outer->B.get? b=some o)/\(∀b o,s.heap.get? b=some o->b∉frs outer->∃o',B.get? b=some o')/\E cls none H'
structure dJ(X:Cx)(E:XK):Prop where
 stk:X.stack=X.env::X.outer
 fr:X.env.frame=some X.env.locals
 ex:X.ex=[]
 xe:X.xe=λ e s'=>wpAny (model X.prog X.w) X.A (leaving X.env e) (λ _ s''=>CX1 X.prog X.w X.outer X.zI X.z5 E e s'') (λ e' s''=>CX1 X.prog X.w X.outer X.zI X.z5 E e' s'') s'
def dJ.of{K:zAA}:
  dJ (rC (CX1 P w) P w K mg base N qual scope f cd A outer z5 zI E) E:=⟨rfl,rfl,rfl,rfl⟩
section
variable{X:Cx}{E:XK}
def aER{B h':Heap}(hX:X.ex=[])(I:Inv X kQ σ H s)
  (a1:∀b o,s.heap.get? b=some o->H b=none->b∉frs X.stack->B.get? b=some o)(a2:∀b o,s.heap.get? b=some o->b∉frs X.stack->∃o',B.get? b=some o')
  (a3:B.StaysIn h')(a4:∀b o,b∈frs X.outer->s.heap.get? b=some o->H b=none->(∀vs,o.data≠.fields vs)->∃sl,h'.get? b=some {o with slots:=sl})
  (a5:∀b o,s.heap.get? b=some o->H b=none->H' b=none)(a6:∀b xs,H b=some (.tup xs)->H' b=some (.tup xs))(a7:∀b o u,H b=some (.frz o u)->H' b=some (.frz o u))(a8:∀b q,H b=some (.tbl q)->H' b=some (.tbl q)):
  Un (frs X.outer) [] X.zI H' X.z5.heap h'/\(∀b o,X.z5.heap.get? b=some o->X.zI b=none->b∉frs X.outer->B.get? b=some o)/\(∀b o,X.z5.heap.get? b=some o->b∉frs X.outer->∃o',B.get? b=some o'):=by
 have nx:∀b,b∉X.ex:=λ b z=>by rw[hX]at z;cases z
 have noS:∀b o,X.z5.heap.get? b=some o->b∉frs X.outer->b∉frs X.stack:=λ b o e nf hb=>by
  rcases zAX.mp (I.stkSub b hb)with z|z
  .exact absurd z (zAf (zAY (zAV e) I.ok.above))
  .exact nf z
 have bk:∀b o,X.z5.heap.get? b=some o->X.zI b=none->b∉frs X.outer->B.get? b=some o:=λ b o e n nf=>
  a1 b o (I.base.keep b o e n nf (nx b)) (I.base.free b o e n (nx b)) (noS b o e nf)
 have ba:∀b o,X.z5.heap.get? b=some o->b∉frs X.outer->∃o',B.get? b=some o':=λ b o e nf=>by
  obtain⟨o1,e1⟩:=I.base.there b o e (nx b);exact a2 b o1 e1 (noS b o e nf)
 have sl:∀b o,X.z5.heap.get? b=some o->X.zI b=none->b∈frs X.outer->∃sl,h'.get? b=some {o with slots:=sl}:=λ b o e n hb=>by
  obtain⟨sl1,e1⟩:=I.base.slot b o e n hb (nx b);obtain⟨_,o2,ho2,hnf⟩:=I.ok.funs.mem hb;rw[e]at ho2;cases ho2;obtain⟨sl2,e2⟩:=a4 b _ hb e1 (I.base.free b o e n (nx b)) hnf;exact⟨sl2,e2⟩
 refine⟨⟨λ b o e n nf _=>a3 b o (bk b o e n nf),λ b o e n hb _=>sl b o e n hb,λ b o e n _=>?_,λ b o e _=>?_,λ b xs e=>a6 b xs (I.base.tups b xs e),λ b o u e=>a7 b o u (I.base.frzs b o u e),λ b q e=>a8 b q (I.base.tbls b q e)⟩,bk,ba⟩
 .obtain⟨o1,e1⟩:=I.base.there b o e (nx b)
  exact a5 b o1 e1 (I.base.free b o e n (nx b))
 .by_cases hb:b∈frs X.outer
  .obtain⟨s2,e2⟩:=sl b o e (I.ok.frf b hb) hb
   exact⟨_,e2⟩
  .obtain⟨o',e'⟩:=ba b o e hb
   exact⟨o',a3 b o' e'⟩
def dJ.pass(D:dJ X E):oJ (CX1 X.prog X.w) X E:=by
 intro kQ σ H s e s' I h;obtain⟨ea,cls,a0,B,H',rfl,os,bare,un,hok,fly,bk,ba,hE⟩:=h;rw[D.xe];have fly':=fly;rw[D.stk]at fly';have hfr:=I.ok.frames;rw[D.stk]at hfr;refine wpAny_leaves_onW (L:=X.env.locals) hfr D.fr fly' λ h' fl up=>?_
 have a4:∀b o,b∈frs X.outer->s.heap.get? b=some o->H b=none->(∀vs,o.data≠.fields vs)->∃sl,h'.get? b=some {o with slots:=sl}:=λ b o hb e n nf=>by
  have hb':b∈frs X.stack:=by
   rw[D.stk];unfold frs;rw[zBb,D.fr];exact zAF _ hb
  obtain⟨s1,e1⟩:=un.slot b o e n hb' (λ z=>nomatch z);obtain⟨s2,e2⟩:=up b _ e1 nf;exact⟨s2,e2⟩
 obtain⟨u1,u2,u3⟩:=aER (B:=B) (h':=h') (H':=H') D.ex I bk ba fl.1 a4 (λ b o e n=>un.free b o e n (λ z=>nomatch z)) un.tups un.frzs un.tbls;exact⟨ea,cls,a0,B,H',rfl,os.trans I.os,bare,u1,hok,fl,u2,u3,hE⟩
def dJ.raise(D:dJ X E){ea:Addr}(I:Inv X kQ σ H s)
  (hx:Heap.MadeExcOf s.heap h1 ea cls vs)(hE:E cls none H):X.xe (.ref ea) {s with heap:=h1}:=by
 rw[D.xe];have stk:s.heap.FunFrames X.base X.stack:=I.stack;have hin:∀env∈X.stack,∀a,env.frame=some a->a∈frs X.stack:=λ env he a ha=>zBf.mpr ⟨env,he,ha⟩
 have stk2:=zFI stk hin;have hfr:=I.ok.frames;rw[D.stk]at hfr;have stk3:s.heap.FunFrames (zB8 s.heap (frs X.stack)) (X.env::X.outer):=by rw[<-D.stk];exact stk2
 refine wpAny_leaves_madeW (L:=X.env.locals) (base:=zB8 s.heap (frs X.stack)) hfr D.fr (λ b o q=>zDB _ q) stk3 hx λ h' t fl tup bn up=>?_
 have hok:HOk X.prog X.w H (zB8 s.heap (frs X.stack)):=λ a o e=>by
  refine(I.hok a o e).stay (λ b u hb q=>zBn _ q λ hm=>?_) (λ _ z=>z) λ _ _ z=>z
  have hn:=I.stkFree b hm;rcases hb with z|z
  .rw[z,e]at hn;cases hn
  .rw[z]at hn;cases hn
 obtain⟨u1,u2,u3⟩:=aER (B:=zB8 s.heap (frs X.stack)) (h':=h') (H':=H) D.ex I (λ b o e n nf=>zBn _ e nf) (λ b o e nf=>⟨o,zBn _ e nf⟩) fl.1
  (λ b o hb e n nf=>up b o (hx.keeps b o e) nf) (λ b o e n=>n) (λ _ _ e=>e) (λ _ _ _ e=>e) (λ _ _ e=>e)
 exact⟨ea,cls,.ref t,_,H,rfl,I.os,I.bare,u1,hok,fl,u2,u3,hE⟩
def dJ.own(D:dJ X E):zG1 (model X.prog X.w) X.A X.env X.xe:=λ e s' h=>by
 rw[D.xe]at h ⊢;exact wpAny_leaving_again (SameStack.refl _) h
end
section
variable{P:zAP}{w:World}{K:zAA}{mg:Str->Option Value}{base:Heap}
def Fun.okX{st:Stmt}(F:Fun K x q st f fd)(S:bA N ps (aH st))(len:∀vs H Q E,sp vs H Q E->vs.length=ps.length)
  (hbody:∀(cdv:Value) (A:zA7) (outer:List Env) (s:zAB) (H:Hp) (vs:List V) (Q:VK) (E:XK),dq k (A.deeper (zCV q (aH st) s.heap.objs.size f cdv))->sp vs H Q E->
   ∃t,PSs (rC (CX1 P w) P w K mg base N q (aH st) f cdv A outer s H E) (cI st) t/\t {nx:=λ _ H'=>Q .non H',rt:=Q} (start N vs) H):dH P w K mg base (CX1 P w) (k+1) f fd ps sp:=by
 obtain⟨oc,od,kV,doc,pm,an,cdv,ct,osl,rfl,lk,hcd⟩:=F.ex;exact aJ4 lk hcd S len λ A outer s H vs Q E hr hsp=>hbody cdv A outer s H vs Q E hr hsp
end
def bx(K:zAA)(C:Addr):Prop:=zFA K C [.type "ValueError",.type "Exception",.type "BaseException",.type "object"] "ValueError.__new__"=true
def qF{K:zAA}(X:K.In h)(hm:mg x=some (.ref C))(q:bx K C):OwnCls x C [.type "ValueError",.type "Exception",.type "BaseException",.type "object"] "ValueError.__new__" mg h:=by
 refine⟨hm,?_⟩;unfold bx zFA at q;split at q
 .rename_i dd cd sl ho
  split at q
  .rename_i C' bm k0 k1 k2 k3 n k5 hm' hs
   simp only[zAK,beq_iff_eq,zBS]at q;obtain⟨⟨⟨⟨⟨rfl,rfl⟩,hdel⟩,ht⟩,hok⟩,hni⟩:=q;obtain⟨nm,bs,mro,ns,qn,hd,sn,sub,ab,col,del⟩:=cd;dsimp only at hm' hdel hok hni;subst hm' hdel;have hsl:sl=#[k0,k1,k2,k3,some (.builtin "ValueError.__new__"),k5]:=by
    obtain⟨l⟩:=sl;simp only at hs;rw[hs]
   subst hsl;exact⟨bm,ns,nm,qn,bs,hd,sn,sub,ab,col,dd,k0,k1,k2,k3,k5,_,X _ _ ho,.of_isNs (PySem.W.isNs_of_in X hok),PySem.W.nsMap_none_of_in X hok hni,PySem.W.tail_of_in X ht⟩
  .cases q
 .cases q
def aHI(C:Addr)(E:XK)(ta:TA):TS:=λ _ σ H=>ta σ H λ vs H1=>vs.length<=zAN/\E (.ref C) none H1
section
variable{X:Cx}{E:XK}
def aDQ(D:dJ X E)(hc:X.calm=true){rest:List Expr}(hm:X.mg x=some (.ref C))(hC:bx X.K C)(hg:Gl X x)
  (ha:PA X (y9::rest) ta)(he:zA2 (y9::rest) X.env=(false,eval y9 X.env)::zA2 rest X.env:=by rfl)
  (hplain:(zCI cpos (zA2 rest X.env)).any (·.1)=false:=by rfl)(hd:Nd x:=by decide):
  PS X (.Raise (some (.Call (.Name x np) (y9::rest) [] cpos)) none pos) (aHI C E ta):=by
 intro kQ s σ H DD I h;obtain⟨tl,NN,nm,q,bs,hdct,sn,sub,ab,col,dd,k0,k1,k2,k3,k5,mN,hCo,hN,hni,T⟩:=(qF (h:=X.base) I.mod.kin hm hC).obj;have FB:=PySem.F.excBase_ValueError;refine wpAny_Raise_call_subU (C:=C) (nm:=nm) (q:=q) (N:=NN) (bs:=bs) (bm:=tl) (hdct:=hdct) (sn:=sn) (sub:=sub) (ab:=ab) (col:=col) (dd:=dd) (k0:=k0) (k1:=k1) (k2:=k2) (k3:=k3) (k5:=k5)
  FB FB.hasB FB (mN:=mN) (T.hasType FB.hasBase) (I.ok.hd hc) (by rw[he];show(false||(zCI cpos (zA2 rest X.env)).any (·.1))=false;rw[hplain];rfl) hni
  (mU I hg hm ⟨rfl,?_⟩ hd)
 have harg:=ha cpos kQ s σ H _ I h;rw[he]at harg ⊢;refine zFe (zB5 harg (λ vs zS h₂=>?_) λ _ _ y=>y);obtain⟨xs,H2,I2,rv,hz,hE⟩:=h₂;refine⟨rfl,by show vs.length<=zAN;rw[<-rv.length];exact hz,I2.bk _ _ hCo,hN.keeps I2.bk,T.keeps I2.bk,λ h' ea hx=>D.raise I2 hx hE⟩
end
section
variable{κ:Type}[DecidableEq κ]
end
end L2
namespace Att
open PySem PySem.W PySem.Calls PyProof.Rows
end Att
namespace L2
open PySem PySem.Spec PyProof.Rows
section
variable{κ:Type}[DecidableEq κ]
end
section
variable{κ:Type}[DecidableEq κ]
end
end L2
namespace Att
open PySem PySem.W PySem.Calls PyProof.Rows
end Att
namespace L2
open PySem PySem.Spec PyProof.Rows
section
variable{κ:Type}[DecidableEq κ]
end
def vA{pos:Pos}{a b:Int}{c cv:Value}(l:List Value)(h:TriplesOk l)(e:zEi pos (l++[rawInt a,rawInt b,c])=some cv):zEi pos l=some cv\/cv=c:=by
 fun_induction TriplesOk l with
 |case1=>
  simp only[zEo,zEi,rawInt]at e;split at e
  .exact .inr (zAg e).symm
  .cases e
 |case2 a' t b' u x rest ih=>
  simp only[zCj,zEi]at e ⊢;split at e
  .rename_i hc;rw[if_pos hc];exact .inl e
  .rename_i hc;rw[if_neg hc];exact ih h e
 |case3 l h1 h2=>exact h.elim
abbrev Cx.noT(X:Cx):Cx:={X with ta:=[]}
section
variable{X:Cx}{kQ:hV}{σ:St}{H:Hp}{s:zAB}
theorem Inv.noT(I:Inv X kQ σ H s):Inv X.noT kQ σ H s:=
 ⟨⟨I.ok.mod,I.ok.kind,I.ok.glob,I.ok.blt,I.ok.above,I.ok.inj,I.ok.has,I.ok.cab,I.ok.hd,I.ok.frames,I.ok.stk,I.ok.exf,I.ok.bs,I.ok.bsz,I.ok.noex,I.ok.exfs,I.ok.funs,I.ok.frf⟩,
  I.os,I.bare,I.base,I.loc,I.cell,I.free,I.freeC,I.pin,I.hok,I.len,λ p hp=>absurd (show p∈([]:hV)from hp) (by simp)⟩
def Inv.ofT{H':Hp}{s':zAB}(I:Inv X kQ σ H s)(J:Inv X.noT kQ σ H' s')(t:∀p∈X.ta,H' p.1=none/\p.1≠X.env.locals/\p.1∉X.fs/\(∀q∈X.pn++kQ,q.1≠p.1)/\∃ps,s'.heap.get? p.1=some {cls:=.none,data:=.fields ps}/\TabOk X.tq H' ps):Inv X kQ σ H' s':=
 ⟨I.ok,J.os,J.bare,J.base,J.loc,J.cell,J.free,J.freeC,J.pin,J.hok,J.len,t⟩
structure qt(X:Cx)(P:Addr):Prop where
 ta:∃o,X.ta=[(P,o)]
 ex:P∈X.ex
 tq:X.tq=X.env.qual++"<lambda>"
 code:∃c,X.env.code= .ref c/\zGV X.base c P
 blt:X.base.BuiltinsAt X.mg P
 gne:zA1≠P
def zU(q:Str)(params:zCJ)(body:Expr)(scope:Scope)(cl:List (Str×Addr))(pm:Value)(H:Hp)(f c':Addr)(ctv:Value):Prop:=
 H f=some (.frz (zCE "<lambda>" q params body scope cl pm c' ctv) (.own f))/\∃oc,H c'=some (.frz oc (.own c'))/\aHB q oc
def aDp{P:Addr}{params:zCJ}{body:Expr}{scope:Scope}{pos:Pos}{Q:Value->zAB->Prop}{E:Value->zAB->Prop}(Lx:qt X P)(I:Inv X kQ σ H s)(hdef:zHK params X.env=([],[]))
  (hfree:∀y∈scope.names,y.2= .free->X.env.kindOf y.1=some .cell\/X.env.kindOf y.1=some .free)
  (h:∀(f c':Addr) (ctv:Value) (H':Hp) (s':zAB),Inv X kQ σ H' s'->aR H H'->zU X.tq params body scope (az scope X.env) ((X.mg "__name__").getD .none) H' f c' ctv->Q (.ref f) s'):
  wpAny (model X.prog X.w) X.A (eval (.Lambda params body scope pos) X.env) Q E s:=by
 obtain⟨o0,hta⟩:=Lx.ta;obtain⟨c,hcode,hC⟩:=Lx.code;obtain⟨hPn,hPL,hPf,hPp,ps,hP,ht⟩:=I.tab (P,o0) (by rw[hta];exact zAD);dsimp only at hPn hPL hPf hPp hP;have hcl:zGE scope X.env=pure (az scope X.env):=nH λ y hy hk=>I.ok.has _ (hfree y hy hk)
 have hgs:s.heap.Ns zA1 X.mg:=by
  obtain⟨o,es,ep,e,r⟩:=I.ok.mod.glob;exact⟨o,es,ep,I.bk _ _ e,r⟩
 have hC':zGV s.heap c P:=hC.keeps I.bk;have hb:s.heap.BuiltinsAt X.mg P:=by
  obtain⟨bm,ob,b1,b2,b3,b4,b5,b6⟩:=Lx.blt;exact⟨bm,ob,b1,b2,b3,b4,I.bk _ _ b5,b6⟩
 refine PySem.W.kla_eval hdef ?_;rw[<-Lx.tq];cases hf:zEi pos ps.toList with
 |some cv=>
  obtain⟨c',oc,rfl,hc',hco⟩:=ht.2 pos cv hf;refine PySem.W.kla_makeFunctionHit hcl I.ok.glob hgs hcode hC' hP ht.1 hf hb λ ctv h' tk k hsz=>?_
  have hfr:H h'.objs.size=none:=I.hok.fresh hsz;have sm:aR H (upd H h'.objs.size (.frz (zCE "<lambda>" X.tq params body scope (az scope X.env) ((X.mg "__name__").getD .none) c' ctv) (.own h'.objs.size))):=λ b u e=>by rw[aU (bD e hfr)];exact e
  have I':=I.laid (h':=h'.push (zCE "<lambda>" X.tq params body scope (az scope X.env) ((X.mg "__name__").getD .none) c' ctv)) (t':=tk) (a:=h'.objs.size) (o:=.frz (zCE "<lambda>" X.tq params body scope (az scope X.env) ((X.mg "__name__").getD .none) c' ctv) (.own h'.objs.size)) (λ b u e=>zAG _ (k b u e)) hsz
   ⟨zAa _ rfl,_,zAa _ rfl⟩
  exact h _ c' ctv _ _ I' sm ⟨ak,oc,sm _ _ hc',hco⟩
 |none=>
  refine PySem.W.kla_makeFunction hcl I.ok.glob hgs hcode hC' hP ht.1 hf Lx.gne hb λ c' ctv h' tk hx hge hlt hrec htb=>?_
  obtain⟨c2,oc,vs,t,e2,hoc,hd,hv⟩:=hrec;cases e2;have hcn:H c'=none:=I.hok.fresh hge;have hfn:H h'.objs.size=none:=I.hok.fresh (zAe hge (zB9 hlt));have neT:∀b u,H b=some u->b≠c':=λ b u e=>bD e hcn
  have neP:∀b u,H b=some u->b≠P:=λ b u e=>bD e hPn
  have sm:aR H (upd H c' (.frz oc (.own c'))):=λ b u e=>by rw[aU (neT b u e)];exact e
  have hcne:∀x a,X.env.cells.lookup x=some a->a≠P:=λ x a e z=>by
   obtain⟨v,o,ho,hdd⟩:=I.cell x a e;rw[z,hP]at ho;cases ho;cases hdd
  have J:Inv X.noT kQ σ (upd H c' (.frz oc (.own c'))) {s with heap:=h',toks:=tk}:=by
   refine I.noT.step (g':=s.gens) (d':=s.drawn) (ch:=[P]) (λ b hb'=>?_) (λ b o _ _ hc e _=>hx b o (λ z=>hc (by simp[z])) e) (λ b o _ _ hc e _=>⟨o.slots,hx b o (λ z=>hc (by simp[z])) e⟩)
    (λ b o _ e n=>by rw[aU (zAf (zAY (zAV e) hge))];exact n) (λ b o hc e=>⟨o,hx b o (λ z=>hc (by simp[z])) e⟩)
    (λ b xs e=>sm _ _ e) (λ b o u e=>sm _ _ e) (λ b q e=>sm _ _ e) (λ m hm=>hm.extBut hx (λ z=>hPL z.symm)) (λ b u e=>?_) I.bare
   .have e:b=P:=by simpa using hb'
    subst e;exact⟨.inl Lx.ex,hPL,λ x c e=>hcne x c e,λ p hp=>hPp p hp⟩
   .by_cases hbc:b=c'
    .subst hbc
     rw[ak]at e;cases e;exact⟨hoc,oc,hoc⟩
    .rw[aU hbc]at e
     refine(I.hok b u e).stay (λ d v hd' q=>hx d v ?_ q) (λ d q=>sm _ _ q) (λ d xs q=>sm _ _ q) λ d o2 u2 q=>sm _ _ q
     rcases hd' with z|z
     .rw[z];exact neP b u e
     .exact neP d _ z
  have I':=I.ofT J λ p hp=>by
   rw[hta]at hp;have e:p=(P,o0):=by simpa using hp
   subst e;refine⟨by rw[aU (zAf (zAY (zAV hP) hge))];exact hPn,hPL,hPf,hPp,_,htb,?_⟩;refine⟨?_,λ pos2 cv e=>?_⟩
   .rw[zDi]
    exact TriplesOk_snoc _ _ _ _ ht.1
   .rw[zDi]at e
    rcases vA _ ht.1 e with z|z
    .obtain⟨c2,oc2,z1,z2,z3⟩:=ht.2 pos2 cv z
     exact⟨c2,oc2,z1,sm _ _ z2,z3⟩
    .exact⟨c',oc,z,ak,vs,t,hd,hv⟩
  have hfr:upd H c' (.frz oc (.own c')) h'.objs.size=none:=by rw[aU (zDe hlt)];exact hfn
  have sm2:aR (upd H c' (.frz oc (.own c'))) (upd (upd H c' (.frz oc (.own c'))) h'.objs.size (.frz (zCE "<lambda>" X.tq params body scope (az scope X.env) ((X.mg "__name__").getD .none) c' ctv) (.own h'.objs.size))):=λ b u e=>by rw[aU (bD e hfr)];exact e
  have I2:=I'.laid (h':=h'.push (zCE "<lambda>" X.tq params body scope (az scope X.env) ((X.mg "__name__").getD .none) c' ctv)) (t':=tk) (a:=h'.objs.size) (o:=.frz (zCE "<lambda>" X.tq params body scope (az scope X.env) ((X.mg "__name__").getD .none) c' ctv) (.own h'.objs.size)) (λ b u e=>zAG _ e) (zAL _)
   ⟨zAa _ rfl,_,zAa _ rfl⟩
  exact h _ c' ctv _ _ I2 (sm.trans sm2) ⟨ak,oc,sm2 _ _ ak,vs,t,hd,hv⟩
def aJo(q:Str)(params:zCJ)(body:Expr)(scope:Scope)(cl:List (Str×Addr))(pm:Value):TE:=λ σ H Q=>∀f c' ctv H',aR H H'->zU q params body scope cl pm H' f c' ctv->Q (.ref f) H'
def aHf{P:Addr}{params:zCJ}{body:Expr}{scope:Scope}{pos:Pos}(Lx:qt X P)(hdef:zHK params X.env=([],[]))
  (hfree:∀y∈scope.names,y.2= .free->X.env.kindOf y.1=some .cell\/X.env.kindOf y.1=some .free):PE X (.Lambda params body scope pos) (aJo X.tq params body scope (az scope X.env) ((X.mg "__name__").getD .none)):=
 λ kQ s σ H Q I h=>aDp Lx I hdef hfree λ f c' ctv H' s' I' sm l=>⟨.ref f,H',I',rfl,h f c' ctv H' sm l⟩
end
def z9(X:Cx)(k0:Nat)(i:Nat)(E:XK):TE:=λ σ H Q=>∃f cls dd sl fd k sp,σ[i]? =some (some (.ref f))/\H f=some (.frz ⟨cls,dd,.func fd,sl⟩ (.own f))/\dH X.prog X.w X.K X.mg X.base (CX1 X.prog X.w) k f fd [] sp/\k<=k0/\Binds X.K fd [] []/\sp [] H Q E
def aDY{X:Cx}{k0 i:Nat}{y:Str}{p pos:Pos}{E:XK}(hr:dq k0 X.A)(hx:oJ (CX1 X.prog X.w) X E)(hN:X.N[i]? =some y)(hv:Vis X.env.scope y)(hd:Nd y:=by decide)(hcd:(y==("__classdict__":Str))=false:=by decide):
  PE X (.Call (.Name y p) [] [] pos) (z9 X k0 i E):=by
 intro kQ s σ H Q I ⟨f,cls,dd,sl,fd,k,sp,hs,hf,F,hk,hb,h⟩;have fin:wpAny (model X.prog X.w) X.A (eval (.Name y p) X.env) (λ v s'=>v= .ref f/\s'=s) X.xe s:=by
  obtain⟨mm,hnn,hl⟩:=I.loc;obtain⟨u,ru,l⟩:=hl i y _ hN hs hv;cases ru;rcases l with ⟨hk2,hm⟩|⟨hk2,c,hc,hcell⟩
  .exact zEL (zEN I.ok.kind hk2 hnn hm ⟨rfl,rfl⟩) hd
  .rcases hk2 with hk2|hk2
   .exact zEL (zEX I.ok.kind hk2 hc hcell ⟨rfl,rfl⟩) hd
   .exact zEL (zGm I.ok.kind hk2 hc hcell ⟨rfl,rfl⟩ hcd) hd
 refine zBl (thn fin λ v s' ⟨ev,es'⟩=>?_);subst ev es';obtain⟨ho,_⟩:s'.heap.get? f=some _/\_:=I.hok f _ hf;have KX:PySem.W.Frag.In [(f,⟨cls,dd,.func fd,sl⟩)] s'.heap:=λ b o e=>by
  rw[zAl]at e;by_cases hbf:b=f
  .subst hbf
   simp only[beq_self_eq_true]at e;cases e;exact ho
  .simp only[beq_eq_false_iff_ne.mpr hbf]at e
   cases e
 exact PySem.W.callWith_K0 (K:=[(f,⟨cls,dd,.func fd,sl⟩)]) KX (by simp[zBR,zAl]) (aCy (us:=[]) F (hr.mono hk) hb .nil hx I .nil h)
def cxL(P:zAP)(w:World)(K:zAA)(mg:Str->Option Value)(base:Heap)(N:List Str)(q:Str)(scope:Scope)(cl:List (Str×Addr))(f:Addr)(cd:Value)(A:zA7)(outer:List Env)(s:zAB)(H:Hp)(E:XK):Cx where
 prog:=P
 w:=w
 K:=K
 mg:=mg
 base:=base
 A:=A.deeper (zCO q scope s.heap.objs.size f cd cl)
 N:=N
 z5:=s
 zI:=H
 env:=zCO q scope s.heap.objs.size f cd cl
 outer:=outer
 stack:=zCO q scope s.heap.objs.size f cd cl::outer
 ex:=[]
 calm:=true
 fn:=λ _=>false
 pn:=[]
 xe:=λ e s'=>wpAny (model P w) (A.deeper (zCO q scope s.heap.objs.size f cd cl)) (leaving (zCO q scope s.heap.objs.size f cd cl) e) (λ _ s''=>CX1 P w outer H s E e s'') (λ e' s''=>CX1 P w outer H s E e' s'') s'
def dJ.ofL{P:zAP}{w:World}{K:zAA}{mg:Str->Option Value}{base:Heap}{N:List Str}{q:Str}{scope:Scope}{cl:List (Str×Addr)}{f:Addr}{cd:Value}{A:zA7}{outer:List Env}{s:zAB}{H:Hp}{E:XK}:
  dJ (cxL P w K mg base N q scope cl f cd A outer s H E) E:=⟨rfl,rfl,rfl,rfl⟩
structure ug(scope:Scope):Prop where
 kind:scope.kind= .function
 co:scope.isCoroutine=false
 gen:scope.isGenerator=false
 cell:∀y∈scope.names,y.2≠.cell
 loc:∀y∈scope.names,y.2≠.local
structure aEf(base:Heap)(N:List Str)(σ:St)(scope:Scope)(cl:List (Str×Addr)):Prop where
 inj:∀x y c,cl.lookup x=some c->cl.lookup y=some c->x=y
 has:∀x,scope.names.lookup x=some .free->∃c,cl.lookup x=some c
 cell:∀x c,cl.lookup x=some c->∃v,base.IsCell c v
 val:∀(i:Nat) x v,N[i]? =some x->σ[i]? =some (some v)->scope.names.lookup x=some .free->∃c u,cl.lookup x=some c/\RelV v u/\base.IsCell c (some u)
 len:σ.length=N.length
def aIG{P:zAP}{w:World}{K:zAA}{mg:Str->Option Value}{base:Heap}{N:List Str}{q:Str}{params:zCJ}{scope:Scope}{cl:List (Str×Addr)}{f c':Addr}{pm ctv:Value}{body:Expr}{k:Nat}{σ:St}{H1:Hp}{sp:Sp}
  (la:zU q params body scope cl pm H1 f c' ctv)(S:ug scope)(cp:aEf base N σ scope cl)
  (len:∀vs H Q E,sp vs H Q E->vs=[]/\aR H1 H)
  (hbody:∀(A:zA7) (outer:List Env) (s:zAB) (H:Hp) (Q:VK) (E:XK),dq k (A.deeper (zCO q scope s.heap.objs.size f (.ref c') cl))->sp [] H Q E->∃te,PE (cxL P w K mg base N q scope cl f (.ref c') A outer s H E) body te/\te σ H Q):
  dH P w K mg base (CX1 P w) (k+1) f (zEg "<lambda>" q params body scope cl pm (.ref c') ctv) [] sp:=by
 refine⟨λ vs H Q E h=>by rw[(len vs H Q E h).1];rfl,λ A outer s H args us vs Q E hr e0 hb r hsp=>?_⟩;obtain⟨rfl,hsm⟩:=len _ _ _ _ hsp;obtain⟨te,hpe,hte⟩:=hbody A outer s H Q E (hr.deeper _) hsp;have dA:s.heap.NoLimit:=e0.mod.nolimit.keeps λ b o e=>(e0.bs b o e).1
 obtain⟨hf,oc,hc,hco⟩:=la;obtain⟨ho,_⟩:s.heap.get? f=some _/\_:=e0.hok f _ (hsm _ _ hf);obtain⟨hoc,_⟩:s.heap.get? c'=some oc/\_:=e0.hok c' _ (hsm _ _ hc);obtain⟨vs,t,hd,hv⟩:=hco;refine PySem.W.kla_callFunE hr.depth ho rfl S.co S.gen rfl ⟨c',oc,vs,t,rfl,hoc,hd,hv⟩ (hb _ _ _ _ ?_);refine wpAny_newFunctionEnv S.cell (by intro y hy;simp at hy) (λ zD hns hsb=>?_) S.kind;have hk₁:∀b o,s.heap.get? b=some o->zD.get? b=some o:=λ b o e=>hsb.extBut b o (zAf (zAV e)) (zAG _ e)
 refine⟨dA.keeps hk₁,?_⟩;show zDC _ _ (.expr body (zCO q scope s.heap.objs.size f (.ref c') cl)) _ _;have kb:∀b o,base.get? b=some o->zD.get? b=some o:=λ b o e=>hk₁ b o (e0.bs b o e).1
 have I:Inv (cxL P w K mg base N q scope cl f (.ref c') A outer s H E) [] σ H {s with heap:=zD,toks:=s.toks+(([]:List Str).zip us).length}:=by
  refine⟨⟨e0.mod,S.kind,rfl,rfl,zAL _,cp.inj,λ x hx=>?_,λ x c z=>absurd z zAT,λ _=>hr.hd,zFW e0.frames,.inr ⟨rfl,rfl⟩,λ b z=>(nomatch z),e0.bs,e0.bsz,λ b _ _=>λ z=>(nomatch z),λ b z=>(nomatch z),e0.funs,e0.frf⟩,
   rfl,e0.bare,Un.kept hk₁,⟨_,hns,λ i x v e1 e2 e3=>?_⟩,λ x c e=>?_,e0.hok.fresh (zAL _),λ x c e=>?_,λ p hp=>(nomatch hp),e0.hok.kept hk₁,cp.len,λ p hp=>(nomatch hp)⟩
  .rcases hx with z|z
   .exact absurd rfl (S.cell _ (zAd z))
   .exact cp.has x z
  .rcases e3 with z|z|z
   .exact absurd rfl (S.loc _ (zAd z))
   .exact absurd rfl (S.cell _ (zAd z))
   .obtain⟨c,u,c1,c2,c3⟩:=cp.val i x v e1 e2 z
    exact⟨u,c2,.inr ⟨.inr z,c,c1,c3.keeps kb⟩⟩
  .obtain⟨v,z⟩:=cp.cell x c e
   exact⟨v,z.keeps kb⟩
  .obtain⟨v,o,z,_⟩:=cp.cell x c e
   exact(e0.bs c o z).2
 refine PySem.W.kla_codeExpr (zB5 (hpe [] _ σ H _ I hte) (λ u s' hq=>?_) λ e s' hq=>hq);obtain⟨v,H',J,rv,q⟩:=hq;exact⟨v,H',J.os,J.bare,J.base,J.hok,rv,q⟩
def bse(X:Cx)(s:zAB)(H:Hp):Heap:=zB8 s.heap (trk s.heap H++frs X.stack)
section
variable{X:Cx}{kQ:hV}{σ:St}{H:Hp}{s:zAB}
def aB9{b:Addr}{o:Obj}(e:s.heap.get? b=some o)(n:H b=none)(nf:b∉frs X.stack):(bse X s H).get? b=some o:=
 zBn _ e λ hm=>by
  rcases zAM.mp hm with z|z
  .have q:(H b).isSome=true:=(zA0.mp z).2
   rw[n]at q;cases q
  .exact nf z
def aI8{b:Addr}{o:Obj}(e:(bse X s H).get? b=some o):s.heap.get? b=some o/\H b=none:=by
 have e1:=zDB _ e;refine⟨e1,?_⟩;cases q:H b with
 |none=>rfl
 |some u=>
  have hm:b∈trk s.heap H++frs X.stack:=zAQ _ (zA0.mpr ⟨zAx.mpr (zAV e1),by rw[q];rfl⟩);have z:(zB8 s.heap (trk s.heap H++frs X.stack)).get? b=none:=zD1 _ hm;have e2:(zB8 s.heap (trk s.heap H++frs X.stack)).get? b=some o:=e;rw[z]at e2;cases e2
def Inv.env1(I:Inv X kQ σ H s):zX X.prog X.w X.K X.mg (bse X s H) X.A X.stack s H:=by
 have kb:∀b o,X.base.get? b=some o->(bse X s H).get? b=some o:=λ b o e=>aB9 (I.bs b o e).1 (I.bs b o e).2 λ hb=>by
  have z:=(I.stack.mem hb).1;rw[e]at z;cases z
 have ns:∀{b:Addr} {m:Str->Option Value},X.base.Ns b m->(bse X s H).Ns b m:=λ{b m} ⟨o,es,ep,e,r⟩=>⟨o,es,ep,kb _ _ e,r⟩
 refine⟨I.ok.frames,⟨I.mod.kin.keeps kb,ns I.mod.glob,?_,I.mod.nolimit.keeps kb⟩,λ b o e=>aI8 e,zE3 (zD2 _ _),zFI I.stack λ env he a ha=>zAZ _ (zBf.mpr ⟨env,he,ha⟩),I.stkFree,I.hok,I.bare⟩;obtain⟨mb,h1,h2⟩:=I.mod.blt;exact⟨mb,ns h1,h2⟩
def aFG{CX:CXT}{k:Nat}{f:Addr}{fd:zAh}{ps:List Str}{sp:Sp}{E:XK}{Q:VK}{vs:List V}{us:List Value}(I:Inv X kQ σ H s)(F:dH X.prog X.w X.K X.mg (bse X s H) CX k f fd ps sp)(hr:dq k X.A)(hb:Binds X.K fd ps [])(hx:oJ CX X E)
  (r:Vals vs us)(h:sp vs H Q E):wpAny (model X.prog X.w) X.A (call (.ref f) us) (EP X kQ σ Q) X.xe s:=by
 have hl:(us++[]).length=ps.length:=by rw[zAb,<-r.length];exact F.len _ _ _ _ h
 have hb':=hb s us I.kIn hl;rw[zAb]at hb';refine zHN (zEC (F.run X.A X.stack s H ⟨us,[]⟩ us vs Q E hr I.env1 hb' r h) λ r s' hq=>?_);cases r with
 |error e=>exact hx kQ σ H s e s' I hq
 |ok fl=>
  cases fl with
  |ret u=>exact I.after hq
  |next=>exact zAH hq
  |brk=>exact zAH hq
  |cont=>exact zAH hq
def aI7{scope:Scope}(I:Inv X kQ σ H s)(ho:X.outer=[])(S:ug scope)(hfree:∀y∈scope.names,y.2= .free->X.env.kindOf y.1=some .cell\/X.env.kindOf y.1=some .free):aEf (bse X s H) X.N σ scope (az scope X.env):=by
 have cb:∀x c v,X.env.cells.lookup x=some c->s.heap.IsCell c v->(bse X s H).IsCell c v:=λ x c v e ⟨o,h1,h2⟩=>⟨o,aB9 h1 (I.freeC x c e) λ hb=>by
  rcases zAX.mp (I.stkSub c hb)with z|z
  .exact I.cne x c e z
  .have z2:c∈frs X.outer:=z
   rw[ho]at z2;exact absurd z2 (by simp[frs]),h2⟩
 have hk:∀x,scope.names.lookup x=some .free->X.env.kindOf x=some .cell\/X.env.kindOf x=some .free:=λ x hx=>hfree (x,.free) (zAd hx) rfl
 refine⟨λ x y c e1 e2=>I.ok.inj x y c (fC e1) (fC e2),λ x hx=>?_,λ x c e=>?_,λ i x v e1 e2 hx=>?_,I.len⟩
 .obtain⟨c,hc⟩:=I.ok.has x (hk x hx)
  exact⟨c,pQ hx hc⟩
 .obtain⟨v,z⟩:=I.cell x c (fC e)
  exact⟨v,cb x c v (fC e) z⟩
 .obtain⟨m,hn,hl⟩:=I.loc
  obtain⟨u,ru,hu⟩:=hl i x v e1 e2 ((hk x hx).elim (λ z=>.inr (.inl z)) λ z=>.inr (.inr z));rcases hu with ⟨k,_⟩|⟨_,c,ec,ic⟩
  .rcases hk x hx with z|z
   .exact absurd (k.symm.trans z) (by decide)
   .exact absurd (k.symm.trans z) (by decide)
  .exact⟨c,u,pQ hx ec,ru,cb x c _ ec ic⟩
end
abbrev bmV:List Value:=[.type "ValueError",.type "Exception",.type "BaseException",.type "object"]
section
variable{prog:zAP}{w:World}{A:zA7}{E:Value->zAB->Prop}{h:Heap}{g:Array zCY}{d:Drawn}{t:Nat}{os:OsState}{a:Addr}{o:Obj}
 {nm q:Str}{C N:Addr}{bs bm:List Value}{hdct:Bool}{sn:List Str}{sub:List Value}{ab:Bool}{col:Option Bool}{dd:Option Addr}{k0 k1 k2 k3 k5:Option Value}{newId:String}{K:zAA}
def zK{R:zEQ->zAB->Prop}(hC:h.get? C=some (zDf nm q C N bs bm hdct sn sub ab col dd k0 k1 k2 k3 k5 newId))(T:OwnTail h bmV bm)
  (hx:h.get? a=some o)(hc:o.cls= .ref C)(hq:R (.ok (.ret (.ref C))) ⟨h,g,d,t,os⟩):
  zDC (model prog w) A (.call (.builtin "getset_descriptor.__get__") ⟨[.builtin "object.__class__",.ref a,.ref C],[]⟩) R ⟨h,g,d,t,os⟩:=by
 have hT5:(⟨h,g,d,t,os⟩:zAB).TypeIs (.builtin "object.__class__") "getset_descriptor":=zDl;have hcB:(zBH C::bm).contains (.type (".".intercalate ("object.__class__".cutAt '.').dropLast))=true:=by
  rw[F.owner_object_class,zEH,T.hasType (X:="object") (b:=true) (by decide+kernel)];rfl
 refine zGd zFt.plain F.entry_gs_get (zFt.check _ _ _ _ _ _ _ _ hT5 (F.args_gs_get _ _ _) ?_)
 repeat (any_goals (first|assumption|(with_reducible refine zBv hx ?_;rw[hc])|(with_reducible refine zDQ hC ?_;rw[hcB])|wp_step))
 refine⟨Code.quiet_builtin _ (by decide+kernel),zF8 F.entry_object_class ?_⟩
 repeat (any_goals (first|assumption|(with_reducible refine zBv hx ?_;rw[hc])|wp_step))
def xW{M:Model}{nameV:Value}{Q:Unit->zAB->Prop}(hC:h.get? C=some (zDf nm q C N bs bm hdct sn sub ab col dd k0 k1 k2 k3 k5 newId))(T:OwnTail h bmV bm)
  (hx:h.get? a=some o)(hc:o.cls= .ref C)(hq:Q () ⟨h,g,d,t,os⟩):wpAny M A (checkBuiltinCall "BaseException.__getattribute__" ⟨[.ref a,nameV],[]⟩) Q E ⟨h,g,d,t,os⟩:=by
 have hk:builtinKind "BaseException.__getattribute__"=some .slot:=by decide+kernel
 have dP:splitId "BaseException.__getattribute__"=some ("BaseException","__getattribute__"):=by decide+kernel
 have hcB:(zBH C::bm).contains (.type "BaseException")=true:=by rw[zEH,T.hasType (X:="BaseException") (b:=true) (by decide+kernel)];rfl
 have ha:=F.args_bexc_ga (.ref a) nameV;simp only[checkBuiltinCall,hk,dP];refine zAI ?_
 .unfold isInstance
  repeat (first|(with_reducible refine zBv hx ?_;rw[hc])|(with_reducible refine zDQ hC ?_;rw[hcB])|wp_step)
  exact hq
def vB{tk:Tok}{Q:Fin->zAB->Prop}(hC:h.get? C=some (zDf nm q C N bs bm hdct sn sub ab col dd k0 k1 k2 k3 k5 newId))(T:OwnTail h bmV bm)(lk:∀M:Model,zDn M h (zEK (.ref C) "__class__") (some (.builtin "object.__class__")))
  (hx:h.get? a=some o)(hc:o.cls= .ref C)(hq:Q (.done (.ret (.ref C))) ⟨h,g,d,t,os⟩):
  wpAny (model prog w) A (zDb.«object.__getattribute__» ⟨[.ref a,.str "__class__" tk],[]⟩) Q E ⟨h,g,d,t,os⟩:=by
 have hT5:(⟨h,g,d,t,os⟩:zAB).TypeIs (.builtin "object.__class__") "getset_descriptor":=zDl;have f5:=zDl;have f6:=zFt.lookup;have f7:=F.slot_gs_set.lookup
 repeat (any_goals (first|assumption|(with_reducible refine zBv hx ?_;rw[hc])|with_reducible refine(lk _).here ?_|wp_step))
 refine zK hC T hx hc ?_
 repeat (any_goals (first|assumption|wp_step))
def xV{Q:Option Value->zAB->Prop}(hC:h.get? C=some (zDf nm q C N bs bm hdct sn sub ab col dd k0 k1 k2 k3 k5 newId))(T:OwnTail h bmV bm)(lk:∀M:Model,zDn M h (zEK (.ref C) "__class__") (some (.builtin "object.__class__")))
  (lg:∀M:Model,zDn M h (zEK (.ref C) "__getattribute__") (some (.builtin "BaseException.__getattribute__")))(ln:∀M:Model,zDn M h (zEK (.ref C) "__getattr__") none)
  (hx:h.get? a=some o)(hc:o.cls= .ref C)(hq:Q (some (.ref C)) ⟨h,g,d,t+1,os⟩):wpAny (model prog w) A (getAttr? (.ref a) "__class__") Q E ⟨h,g,d,t,os⟩:=by
 have by_exc:∀{E:Value->zAB->Prop} {t:Nat} {tk:Tok} {Q:Value->zAB->Prop},Q (.ref C) ⟨h,g,d,t,os⟩->wpAny (model prog w) A (getAttrBy (.ref a) (.str "__class__" tk) false) Q E ⟨h,g,d,t,os⟩:=by
  intro E t tk Q hq;have FB:=PySem.F.excAttr_ValueError;have f3:=FB.ga.bind (.ref a);have hx0:(false&&onTheHeap (zDW "BaseException.__getattribute__"))=false:=rfl;have hx2:(zDW "BaseException.__getattribute__"==zDW "object.__getattribute__")=false:=by decide+kernel
  have hx1:(onTheHeap (zBH C)&&zDW "BaseException.__getattribute__"==zDW "object.__getattribute__")=false:=by rw[hx2];rfl
  repeat (any_goals (first|assumption|(with_reducible refine zBv hx ?_;rw[hc])|with_reducible refine(lg _).here ?_|with_reducible refine(ln _).here ?_|wp_step))
  refine zGd FB.ga.plain F.entry_bexc_ga (xW hC T hx hc (vB hC T lk hx hc ?_))
  repeat (any_goals (first|assumption|wp_step))
 unfold getAttr? getAttrBy?
 repeat (any_goals (first|assumption|with_reducible apply by_exc|wp_step))
def aDw(hE:bx K C)(ha:zAs K (.ref C) "__class__"=some (some (.builtin "object.__class__")))(hgt:zAs K (.ref C) "__getattribute__"=some (some (.builtin "BaseException.__getattribute__")))
  (hga:zAs K (.ref C) "__getattr__"=some none):PySem.W.KitX K (.ref a) (.ref C) (λ h=>∃o,h.get? a=some o/\o.cls= .ref C) where
 ty:=λ M h _ ⟨o,h1,h2⟩=>h2▸(zHG h1).andThen .now
 it:=λ M h X _=>by
  obtain⟨bm,NN,nm,q,bs,hdct,sn,sub,ab,col,dd,k0,k1,k2,k3,k5,mN,hC,_⟩:=(qF (h:=h) (mg:=λ _=>some (.ref C)) (x:="x") X rfl hE).obj;intro A' Q' E' s' k q;unfold isType loadHead;exact zAI (wpAny_loadPart (k _ _ hC) (zA6 q))
 ne:=λ h tp dd its n sl X htp=>by
  obtain⟨bm,NN,nm,q,bs,hdct,sn,sub,ab,col,dd,k0,k1,k2,k3,k5,mN,hC,_⟩:=(qF (h:=h) (mg:=λ _=>some (.ref C)) (x:="x") X rfl hE).obj;refine Bool.eq_false_iff.mpr λ z=>?_
  have e:C=tp:=Value.ref.inj (beq_iff_eq.mp z);subst e;rw[hC]at htp;exact absurd (congrArg Obj.cls (zAg htp)) (by show zBz "type"≠zBz "tuple";decide+kernel)
 ca:=λ{prog w A E Q s} X ⟨o,h1,h2⟩ k=>by
  obtain⟨h,g,d,t,os⟩:=s;obtain⟨bm,NN,nm,q,bs,hdct,sn,sub,ab,col,dd,k0,k1,k2,k3,k5,mN,hC,hN,hni,T⟩:=(qF (h:=h) (mg:=λ _=>some (.ref C)) (x:="x") X rfl hE).obj;exact xV hC T (λ M=>zCg X ha) (λ M=>zCg X hgt) (λ M=>zCg X hga) h1 h2 k
end
def excφ(a C:Addr):Heap->Prop:=λ h=>∃o,h.get? a=some o/\o.cls= .ref C
def excφ_stay{a C:Addr}:∀h1 h2:Heap,excφ a C h1->(∀o,h1.get? a=some o->h2.get? a=some o)->excφ a C h2:=λ h1 h2 ⟨o,e,c⟩ k=>⟨o,k o e,c⟩
structure aG5(K:zAA)(C:Addr):Prop where
 ex:bx K C
 ca:zAs K (.ref C) "__class__"=some (some (.builtin "object.__class__"))
 gt:zAs K (.ref C) "__getattribute__"=some (some (.builtin "BaseException.__getattribute__"))
 ga:zAs K (.ref C) "__getattr__"=some none
section
variable{X:Cx}
def aGl(K:zAA):List V->Hp->VK->Prop:=λ xs H Q=>∃a C y c b,xs=[.ref a,y]/\RelV y c/\H a=some (.ext (excφ a C))/\aG5 K C/\zB4 K (.ref C) c=some b/\Q (.bl b) H
def aCX:dw X (.builtin "isinstance") (aGl X.K):=by
 intro kQ s σ H xs us Q I r h;obtain⟨a,C,y,c,b,rfl,ry,ha,kc,e,q⟩:=h;obtain⟨u,w',rfl,r1,r2⟩:=vals2 r;cases r1;have hc:w'=c:=by
  cases y<;>first
   |(cases r2;cases ry;rfl)
   |(obtain⟨t1,rfl⟩:=r2;obtain⟨t2,rfl⟩:=ry;exact absurd e (by simp[zB4,PySem.W.kitCls]))
 subst hc;obtain⟨p,_⟩:excφ a C s.heap/\_:=I.hok a _ ha;exact zAr (aDw kc.ex kc.ca kc.gt kc.ga) I.kIn p e (λ z=>nomatch z) λ tk=>⟨.bl b,H,I.tok tk,rfl,q⟩
end
abbrev Cx.re(X:Cx)(A:zA7)(c:Bool)(pl:hV)(E:Value->zAB->Prop):Cx:={X with A:=A,calm:=c,pn:=X.pn++pl,xe:=E}
section
variable{X:Cx}{kQ:hV}{σ:St}{H:Hp}{s:zAB}
theorem Inv.re{A:zA7}{c:Bool}{E:Value->zAB->Prop}(I:Inv X kQ σ H s)(hf:A.frames=X.A.frames)(hd:c=true->A.handled=none):Inv (X.re A c kQ E) [] σ H s:=
 ⟨⟨I.ok.mod,I.ok.kind,I.ok.glob,I.ok.blt,I.ok.above,I.ok.inj,I.ok.has,I.ok.cab,hd,hf.trans I.ok.frames,I.ok.stk,I.ok.exf,I.ok.bs,I.ok.bsz,I.ok.noex,I.ok.exfs,I.ok.funs,I.ok.frf⟩,
  I.os,I.bare,I.base,I.loc,I.cell,I.free,I.freeC,λ p hp=>I.pin p (by rw[zAb]at hp;exact hp),I.hok,I.len,λ p hp=>let⟨a,b,c,d,e⟩:=I.tab p hp;⟨a,b,c,λ q hq=>d q (by rw[zAb]at hq;exact hq),e⟩⟩
def Inv.unre{A:zA7}{c:Bool}{E:Value->zAB->Prop}{pins2:hV}{σ2:St}{H2:Hp}{s2:zAB}(ok:X.Ok)(J:Inv (X.re A c kQ E) pins2 σ2 H2 s2):Inv X kQ σ2 H2 s2:=
 ⟨ok,J.os,J.bare,J.base,J.loc,J.cell,J.free,J.freeC,λ p hp=>J.pin p (zAQ _ hp),J.hok,J.len,λ p hp=>let⟨a,b,c,d,e⟩:=J.tab p hp;⟨a,b,c,λ q hq=>d q (zAQ _ hq),e⟩⟩
def Inv.track{a:Addr}{o:HO}(I:Inv X kQ σ H s)(ha:H a=none)(h0:X.z5.heap.get? a=none)(hL:X.env.locals≠a)(hc:∀x c,X.env.cells.lookup x=some c->c≠a)(hp:∀p∈X.ta++(X.pn++kQ),p.1≠a)
  (new:dC X.prog X.w (upd H a o) s.heap a o):Inv X kQ σ (upd H a o) s:=by
 have ne:∀b u,H b=some u->b≠a:=λ b u e=>bD e ha
 refine⟨I.ok,I.os,I.bare,⟨I.base.keep,I.base.slot,λ b ob e n nx=>?_,I.base.there,λ b xs e=>?_,λ b ob u e=>?_,λ b ps e=>?_⟩,I.loc,I.cell,?_,λ x c e=>?_,λ p hp'=>?_,λ b u e=>?_,I.len,λ p hp'=>?_⟩
 .rw[aU (λ z=>by rw[z,h0]at e;cases e)]
  exact I.base.free b ob e n nx
 .have e1:=I.base.tups b xs e
  rw[aU (ne b _ e1)];exact e1
 .have e1:=I.base.frzs b ob u e
  rw[aU (ne b _ e1)];exact e1
 .have e1:=I.base.tbls b ps e
  rw[aU (ne b _ e1)];exact e1
 .rw[aU hL];exact I.free
 .rw[aU (hc x c e)];exact I.freeC x c e
 .obtain⟨p1,p2,p3⟩:=I.pin p hp'
  exact⟨p1,by rw[aU (hp p (zAZ _ hp'))];exact p2,p3⟩
 .by_cases hb:b=a
  .subst hb;rw[ak]at e;cases e;exact new
  .rw[aU hb]at e
   exact(I.hok b u e).stay (λ c v _ q=>q) (λ c q=>by rw[aU (ne c _ q)];exact q) (λ c xs q=>by rw[aU (ne c _ q)];exact q) λ c o2 u2 q=>by rw[aU (ne c _ q)];exact q
 .obtain⟨n1,n2,n3,n0,ps,n4,n5⟩:=I.tab p hp'
  exact⟨by rw[aU (hp p (zAQ _ hp'))];exact n1,n2,n3,n0,ps,n4,n5.mono λ b o u e=>by rw[aU (ne b _ e)];exact e⟩
def Inv.gone{i:Nat}{n:Str}{h':Heap}{m:Str->Option Value}{v:Option Value}{tk:Nat}(I:Inv X kQ σ H s)(hN:X.N.Nodup)(hi:X.N[i]? =some n)(hm:s.heap.Ns X.env.locals m)(hn:h'.Ns X.env.locals λ x=>if x=n then v else m x)(hs:zFg X.env.locals s.heap h'):
  Inv X kQ (σ.set i none) H {s with heap:=h',toks:=tk}:=by
 obtain⟨m0,hm0,hl⟩:=id I.loc;have cne:=I.cne;have em:m0=m:=by
  obtain⟨o1,es1,ep1,e1,d1,k1⟩:=hm0;obtain⟨o2,es2,ep2,e2,d2,k2⟩:=hm;rw[e1]at e2;cases e2;rw[d1]at d2;cases d2;funext x;exact(k1.2 x).symm.trans (k2.2 x)
 subst em;obtain⟨oL,_,_,hoL,_⟩:=id hm0;have keep:∀b o,b≠X.env.locals->s.heap.get? b=some o->h'.get? b=some o:=λ b o nb e=>(hs.2 b nb).trans e
 refine⟨I.ok,I.os,I.bare,⟨λ b o e n' hb hx=>?_,λ b o e n' hb hx=>?_,I.base.free,λ b o e hx=>?_,I.base.tups,I.base.frzs,I.base.tbls⟩,⟨_,hn,λ j y v' e1 e2 e3=>?_⟩,λ y c e=>?_,I.free,I.freeC,λ p hp=>?_,λ b u e=>?_,by simpa using I.len,λ p hp=>?_⟩
 .exact keep b o (zAf (zAY (zAV e) I.ok.above)) (I.base.keep b o e n' hb hx)
 .obtain⟨sl,e1⟩:=I.base.slot b o e n' hb hx
  exact⟨sl,keep b _ (zAf (zAY (zAV e) I.ok.above)) e1⟩
 .obtain⟨o',e1⟩:=I.base.there b o e hx
  exact⟨o',keep b _ (zAf (zAY (zAV e) I.ok.above)) e1⟩
 .have hj:j≠i:=λ z=>by
   subst z;rw[List.getElem?_set]at e2;simp at e2
  rw[zBJ (zCf hj)]at e2;obtain⟨u,r,q⟩:=hl j y v' e1 e2 e3;refine⟨u,r,?_⟩;have yn:y≠n:=λ z=>hj (tU hN e1 (z▸hi))
  rcases q with ⟨k,e⟩|⟨k,c,e,z⟩
  .exact .inl ⟨k,by simp[yn,e]⟩
  .exact .inr ⟨k,c,e,z.sameBut hs (cne y c e)⟩
 .obtain⟨v',z⟩:=I.cell y c e
  exact⟨v',z.sameBut hs (cne y c e)⟩
 .obtain⟨p1,p2,p3,p4⟩:=I.pin p hp
  exact⟨keep _ _ p3 p1,p2,p3,p4⟩
 .refine(I.hok b u e).stay (λ c v' hc q=>keep c v' ?_ q) (λ _ q=>q) λ _ _ q=>q
  rintro rfl;rcases hc with z|z
  .rw[<-z,I.free]at e;cases e
  .rw[I.free]at z;cases z
 .obtain⟨n1,n2,n3,n0,ps,n4,n5⟩:=I.tab p hp
  exact⟨n1,n2,n3,n0,ps,keep _ _ n2 n4,n5⟩
end
section
variable{M:Model}{A:zA7}{E:Value->zAB->Prop}{h:Heap}{g:Array zCY}{d:Drawn}{t:Nat}{os:OsState}
variable{nm q:Str}{C N:Addr}{bs bm:List Value}{hdct:Bool}{sn:List Str}{sub:List Value}{ab:Bool}{col:Option Bool}{dd:Option Addr}{k0 k1 k2 k3 k5:Option Value}{newId:String}
variable{nm' q':Str}{C' N':Addr}{bs' bm':List Value}{hdct':Bool}{sn':List Str}{sub':List Value}{ab':Bool}{col':Option Bool}{dd':Option Addr}{k0' k1' k2' k3' k5':Option Value}{newId':String}
def uO{e:Addr}{oe:Obj}{Q:Bool->zAB->Prop}(hC:h.get? C=some (zDf nm q C N bs bm hdct sn sub ab col dd k0 k1 k2 k3 k5 newId))(hC':h.get? C'=some (zDf nm' q' C' N' bs' bm' hdct' sn' sub' ab' col' dd' k0' k1' k2' k3' k5' newId'))
  (he:h.get? e=some oe)(dQ:oe.cls= .ref C)(hb':bm'.contains (.type "BaseException")=true)(hs:(zBH C::bm).contains (.ref C')=true)
  (hq:Q true ⟨h,g,d,t,os⟩):wpAny M A (excMatches (.ref e) (.ref C')) Q E ⟨h,g,d,t,os⟩:=by
 have hcB:(zBH C'::bm').contains (.type "BaseException")=true:=by rw[zEH,hb',zGx]
 have f:=tc_notTuple;unfold excMatches
 repeat (first|(with_reducible refine zBv he ?_;rw[dQ])|with_reducible refine zBv hC' ?_|(with_reducible refine zDQ hC' ?_;rw[hcB])|(with_reducible refine zDQ hC ?_;rw[hs])|wp_step)
 exact hq
end
def dC.there{P:zAP}{w:World}{H:Hp}{h:Heap}{a:Addr}{o:HO}(x:dC P w H h a o):∃ob,h.get? a=some ob:=by
 cases o with
 |lst xs=>obtain⟨_,_,_,_,e⟩:=x;exact⟨_,e⟩
 |tup xs=>
  obtain⟨_,_,_,p⟩:=x;obtain⟨o,e,_⟩:=p;exact⟨_,e⟩
 |dK kvs=>obtain⟨_,_,_,_,o,_,_,e,_⟩:=x;exact⟨_,e⟩
 |dT kvs=>obtain⟨_,_,_,_,o,_,_,e,_⟩:=x;exact⟨_,e⟩
 |set S n=>obtain⟨o,_,_,_,e,_⟩:=x;exact⟨_,e⟩
 |ins C dx fs=>obtain⟨_,_,_,e,_⟩:=x;exact⟨_,e⟩
 |own y=>exact x
 |xd fs=>obtain⟨_,⟨_,_,_,e,_⟩,_⟩:=x;exact⟨_,e⟩
 |rng lo hi=>obtain⟨_,_,_,e⟩:=x;exact⟨_,e⟩
 |frz ob u=>obtain⟨e,_⟩:=x;exact⟨_,e⟩
 |tbl q=>obtain⟨_,e,_⟩:=x;exact⟨_,e⟩
 |met f y=>exact⟨_,show h.get? a=some _ from x⟩
 |ext φ=>obtain⟨_,e,_⟩:=x;exact e
def qO(K:zAA)(C C':Addr):Bool:=
 match K.lookup C with
 |some ⟨_,_,.cls cd,_⟩=>cd.mro.contains (.ref C')
 |_=>false
abbrev Cx.tr(X:Cx)(kQ:hV)(E':XK):Cx:=X.re X.A true kQ λ e s'=>∃σ H s,Inv X kQ σ H s/\CX1 X.prog X.w X.stack H s E' e s'
abbrev Cx.ha(X:Cx)(kQ:hV)(ea:Addr):Cx:=X.re (X.A.mark (some (.ref ea))) false kQ λ _ _=>False
def aCb(X:Cx)(i:Nat)(C':Addr)(E':XK)(tb th:TS):TS:=λ D σ H=>tb D σ H/\∀cls H1,E' cls none H1->∃C,cls= .ref C/\bx X.K C/\qO X.K C C'=true/\∀(σ1:St) (ea:Addr),σ1.length=X.N.length->H1 ea=none->
 th {nx:=λ σ' H'=>D.nx (σ'.set i none) H',rt:=D.rt,bk:=λ σ' H'=>D.bk (σ'.set i none) H',ct:=λ σ' H'=>D.ct (σ'.set i none) H'} (σ1.set i (some (.ref ea))) (upd H1 ea (.ext (excφ ea C)))
section
variable{X:Cx}{E E':XK}
def Cx.tr_ok{kQ:hV}(J:(X.tr kQ E').Ok):X.Ok:=
 ⟨J.mod,J.kind,J.glob,J.blt,J.above,J.inj,J.has,J.cab,λ _=>J.hd rfl,J.frames,J.stk,J.exf,J.bs,J.bsz,J.noex,J.exfs,J.funs,J.frf⟩
def Cx.tr_pass{kQ:hV}:oJ (CX1 X.prog X.w) (X.tr kQ E') E':=λ pins2 σ H s e s' I h=>⟨σ,H,s,Inv.unre (Cx.tr_ok I.ok) I,h⟩
def aDP(D:dJ X E)(hc:X.calm=true)(hN:X.N.Nodup){i:Nat}{n:Str}(hi:X.N[i]? =some n)(hl:X.env.scope.names.lookup n=some .local){x:Str}{C':Addr}(hm:X.mg x=some (.ref C'))(hg:Gl X x)(hC':bx X.K C')
  {body suite:List Stmt}{b₀:Stmt}{tb th:TS}{np bP pos:Pos}(hb:∀kQ,PSs (X.tr kQ E') body tb)(hs:∀kQ ea,PSs (X.ha kQ ea) (b₀::suite) th)(hdb:Nd x:=by decide):
  PS X (.Try body [.ExceptHandler (some (.Name x np)) (some n) (b₀::suite) bP] [] [] pos) (aCb X i C' E' tb th):=by
 intro kQ s σ H DD I hh;obtain⟨h1,h2⟩:=hh;refine wpAny_Try_except (zB5 (hb kQ [] s σ H DD (I.re rfl λ _=>I.ok.hd hc) h1) (λ f s1 q=>?_) λ e s1 q=>?_)
 .cases f with
  |next=>
   obtain⟨σ',H',J,q⟩:=q;exact zDO ⟨σ',H',Inv.unre I.ok J,q⟩
  |brk=>obtain⟨σ',H',J,q⟩:=q;exact⟨σ',H',Inv.unre I.ok J,q⟩
  |cont=>obtain⟨σ',H',J,q⟩:=q;exact⟨σ',H',Inv.unre I.ok J,q⟩
  |ret u=>obtain⟨v,σ',H',J,r,q⟩:=q;exact⟨v,σ',H',Inv.unre I.ok J,r,q⟩
 .obtain⟨σ1,H1,s0,J,ea,cls,a0,B,H2,rfl,os,bare,un,hok,fly,bk,ba,hE⟩:=q
  obtain⟨C,rfl,hC,aI,hth⟩:=h2 cls H2 hE;have hfr:=I.ok.frames;rw[D.stk]at hfr;have fly':=fly;rw[D.stk]at fly';have mk:∀hh:Heap,zHE B X.stack ea (.ref C) a0 hh->s1.heap.UpToSlots hh->Inv X kQ σ1 H2 {s1 with heap:=hh}:=λ hh fl up=>by
   refine J.call' (ch:=[]) os ⟨λ b o e n nf _=>fl.1 b o (bk b o e n nf),λ b o e n hb _=>?_,un.free,λ b o e _=>?_,un.tups,un.frzs,un.tbls⟩ (λ a o e=>(hok a o e).stay (λ b u _ q=>fl.1 b u q) (λ _ z=>z) λ _ _ z=>z) bare (λ b z=>nomatch z)
   .obtain⟨s2,e2⟩:=un.slot b o e n hb (λ z=>nomatch z)
    obtain⟨_,o3,e3,nf⟩:=fly.2.2.1.mem hb;rw[e2]at e3;cases e3;obtain⟨s4,e4⟩:=up b _ e2 nf;exact⟨s4,e4⟩
   .by_cases hb:b∈frs X.stack
    .obtain⟨_,o3,e3,nf⟩:=fl.2.2.1.mem hb
     exact⟨o3,e3⟩
    .obtain⟨o',e'⟩:=ba b o e hb
     exact⟨o',fl.1 b o' e'⟩
  refine wpAny_looks_onW hfr D.fr fly' λ h3 held up3=>?_
  refine wpAny_landsW held λ h4 fly4 up4=>?_
  rw[<-D.stk]at fly4;have J4:=mk h4 fly4 (up3.trans up4);have K4:Inv (X.ha kQ ea) [] σ1 H2 {s1 with heap:=h4}:=J4.re rfl (λ z=>nomatch z);obtain⟨ob4,he4,hc4⟩:=fly4.there;obtain⟨tl,NN,nm,q,bs,hdct,sn,sub,ab,col,dd,k0,k1,k2,k3,k5,mN,hCo,hNn,hni,T⟩:=(qF (h:=h4) (mg:=λ _=>some (.ref C)) (x:="x") J4.kIn rfl hC).obj;obtain⟨tl',NN',nm',q',bs',hdct',sn',sub',ab',col',dd',k0',k1',k2',k3',k5',mN',hCo',hNn',hni',T'⟩:=(qF (h:=h4) (mg:=λ _=>some (.ref C')) (x:="x") J4.kIn rfl hC').obj;have hmro:(zBH C::tl).contains (.ref C')=true:=by
   unfold qO at aI;split at aI
   .rename_i oc od cd sl ho
    have e:=J4.kIn _ _ ho;have e2:(some _:Option Obj)=some _:=e.symm.trans hCo;injection e2 with e2
    have e3:=congrArg Obj.data e2;injection e3 with e3
    subst e3;exact aI
   .cases aI
  refine wpAny_handleBy_cons (codeAny_handlers_test (mU (X:=X.ha kQ ea) K4 hg hm ?_ hdb)) (by intro q;cases q);refine uO hCo hCo' he4 hc4 (T'.hasType (X:="BaseException") (b:=true) (by decide+kernel)) hmro ?_;refine codeAny_handlers_suite_as ?_;refine lands_againW fly4 λ h5 fly5 up5=>?_
  have J5:=mk h5 fly5 ((up3.trans up4).trans up5);obtain⟨f1,f2,f3,oe,vs,T5,oT,ts,he5,⟨hcl5,h05⟩,hd5,_⟩:=id fly5;have nof:ea∉frs X.stack:=λ z=>by
   obtain⟨_,o3,e3,nf⟩:=f3.mem z;rw[he5]at e3;cases e3;exact nf vs hd5
  have inB:∀b o,s0.heap.get? b=some o->b∉frs X.stack->b≠ea:=λ b o e nf z=>by
   obtain⟨o',e'⟩:=ba b o e nf;rw[z,f2]at e';cases e'
  have hL:X.env.locals∈frs X.stack:=by
   rw[D.stk];unfold frs;rw[zBb,D.fr];exact zAD
  have h2n:H2 ea=none:=by
   cases e:H2 ea with
   |none=>rfl
   |some o=>
    obtain⟨ob,e'⟩:=(hok ea o e).there;rw[f2]at e';cases e'
  have J6:Inv X kQ σ1 (upd H2 ea (.ext (excφ ea C))) {s1 with heap:=h5}:=by
   refine J5.track h2n ?_ (λ z=>nof (z▸hL)) (λ y c e z=>?_) (λ p hp z=>?_) ⟨⟨oe,he5,hcl5⟩,⟨oe,he5⟩,excφ_stay⟩
   .cases e:X.z5.heap.get? ea with
    |none=>rfl
    |some o=>
     obtain⟨o',e'⟩:=J.base.there ea o e (by rw[D.ex];exact λ z=>nomatch z);exact absurd rfl (inB ea o' e' nof)
   .obtain⟨v,o,ho,hd⟩:=J5.cell y c e
    rw[z]at ho;have e2:some o=some oe:=ho.symm.trans he5;cases e2;rw[hd]at hd5;cases hd5
   .have hh:∃o,s0.heap.get? p.1=some o/\p.1≠X.env.locals/\p.1∉X.fs:=by
     rcases zAM.mp hp with z|z
     .obtain⟨_,a,b,_,_,c,_⟩:=J.tab p z
      exact⟨_,c,a,b⟩
     .obtain⟨p1,p2,p3,p4,_⟩:=J.pin p z
      exact⟨_,p1,p3,p4⟩
    obtain⟨o,p1,p3,p4⟩:=hh;refine inB p.1 o p1 (λ w=>?_) z;rcases zAX.mp (J.stkSub p.1 w)with z|z
    .exact p3 z
    .exact p4 z
  have K6:Inv (X.ha kQ ea) [] σ1 (upd H2 ea (.ext (excφ ea C))) {s1 with heap:=h5}:=J6.re rfl (λ z=>nomatch z);refine oU (X:=X.ha kQ ea) (v:=.ref ea) K6 hN hi (.inl hl) rfl (λ s7 I7=>?_) (.inr hl);refine zB5 (hs kQ ea [] s7 _ _ _ I7 (hth σ1 ea J.len h2n)) (λ f s8 q8=>?_) λ _ _ z=>z.elim
  have cS:∀{σ':St} {H':Hp} {Q:zAB->Prop},Inv (X.ha kQ ea) [] σ' H' s8->(∀s9,Inv X kQ (σ'.set i none) H' s9->Q s9)->
    wpAny (model X.prog X.w) X.A (do bindName X.env n .none;unbindBehindTheSuite X.env n bP) (λ _ s9=>Q s9) X.xe s8:=λ{σ' H' Q} K8 k=>by
   have J8:Inv X kQ σ' H' s8:=Inv.unre I.ok K8;obtain⟨m,hmm,_⟩:=id J8.loc;refine wpAny_nameGoes_keeps hl hmm (by rw[I.ok.kind];rfl) λ h' v hn hsb=>k _ (Inv.gone J8 hN hi hmm hn hsb)
  cases f with
  |next=>obtain⟨σ',H',K8,q⟩:=q8;exact cS K8 λ s9 J9=>⟨_,_,J9,q⟩
  |brk=>obtain⟨σ',H',K8,q⟩:=q8;exact cS K8 λ s9 J9=>⟨_,_,J9,q⟩
  |cont=>obtain⟨σ',H',K8,q⟩:=q8;exact cS K8 λ s9 J9=>⟨_,_,J9,q⟩
  |ret u=>obtain⟨v,σ',H',K8,r,q⟩:=q8;exact cS K8 λ s9 J9=>⟨v,_,_,J9,r,q⟩
end
structure ik(k:Nat)(A:zA7):Prop where
 dp:A.depth+3*k+5<zER
 un:A.units+16*k+200<cLine
def dq.h{k:Nat}{A:zA7}(r:dq k A):ik k A:=⟨r.dp,r.un⟩
theorem ik.mark{k:Nat}{A:zA7}{v:Option Value}(r:ik k A):ik k (A.mark v):=⟨r.dp,r.un⟩
def ik.mono{j k:Nat}{A:zA7}(r:ik k A)(h:j<=k):ik j A:=⟨by have:=r.dp;omega,by have:=r.un;omega⟩
theorem ik.deeper{k:Nat}{A:zA7}(r:ik (k+1) A)(env:Env):ik k (A.deeper env):=
 ⟨by have:=r.dp;show A.depth+1+3*k+5<_;omega,by have:=r.un;show A.units+3+16*k+200<_;omega⟩
theorem ik.depth{k:Nat}{A:zA7}(r:ik k A):A.depth<zER:=by have:=r.dp;omega
abbrev aE5(A:zA7):zA7:={A with handled:=none}
structure FnH(P:zAP)(w:World)(K:zAA)(mg:Str->Option Value)(base:Heap)(k:Nat)(f:Addr)(fd:zAh)(ps:List Str)(sp:Sp):Prop where
 len:∀vs H Q E,sp vs H Q E->vs.length=ps.length
 run:∀(A:zA7) (outer:List Env) (s:zAB) (H:Hp) (args:Args) (us:List Value) (vs:List V) (Q:VK) (E:XK),ik k A->zX P w K mg base A outer s H->zGI s fd args (ps.zip us)->Vals vs us->sp vs H Q E->
  zDC (model P w) A (.call (.ref f) args) (CR CX0 outer P w H s Q E) s
abbrev cxH(P:zAP)(w:World)(K:zAA)(mg:Str->Option Value)(base:Heap)(N:List Str)(q:Str)(scope:Scope)(f:Addr)(cd:Value)(A:zA7)(outer:List Env)(s:zAB)(H:Hp):Cx:=
 (rC CX0 P w K mg base N q scope f cd (aE5 A) outer s H λ _ _ _=>False).re (A.deeper (zCV q scope s.heap.objs.size f cd)) false [] λ _ _=>False
section
variable{P:zAP}{w:World}{K:zAA}{mg:Str->Option Value}{base:Heap}
def Fun.okH{x q:Str}{st:Stmt}{f:Addr}{fd:zAh}{N ps:List Str}{k:Nat}{sp:Sp}(F:Fun K x q st f fd)(S:bA N ps (aH st))(len:∀vs H Q E,sp vs H Q E->vs.length=ps.length)
  (hbody:∀(cdv:Value) (A:zA7) (outer:List Env) (s:zAB) (H:Hp) (vs:List V) (Q:VK) (E:XK),ik k (A.deeper (zCV q (aH st) s.heap.objs.size f cdv))->sp vs H Q E->
   ∃t,PSs (cxH P w K mg base N q (aH st) f cdv A outer s H) (cI st) t/\t {nx:=λ _ H'=>Q .non H',rt:=Q} (start N vs) H):FnH P w K mg base (k+1) f fd ps sp:=by
 obtain⟨oc,od,kV,doc,pm,an,cdv,ct,osl,rfl,lk,hcd⟩:=F.ex;refine⟨len,λ A outer s H args us vs Q E hr e0 hb r hsp=>?_⟩;have KX:K.In s.heap:=e0.mod.kin.keeps λ b o e=>(e0.bs b o e).1
 have par:∀y∈ps.zip us,(aH st).names.lookup y.1=some .local\/((aH st).names.lookup y.1=some .cell/\((zCU (s.heap.objs.size+1) (aH st).names []).lookup y.1).isSome=true):=λ y hy=>
  (S.par y.1 (zC3 (a:=y.1) (b:=y.2) hy).1).imp id λ z=>⟨z,zC4 _ _ _ (.inl z)⟩
 refine zEB hr.depth (KX _ _ lk) rfl S.co S.gen rfl (zDp KX hcd) (hb _ _ _ _ (zDX S.kind par λ env he s1 x=>?_));cases he;refine⟨(e0.mod.nolimit.keeps λ b o e=>(e0.bs b o e).1).keeps x.toInCall.keep,zG4 ?_⟩;obtain⟨t,ht,hq⟩:=hbody cdv A outer s H vs Q E (hr.deeper _) hsp;have e1:zX P w K mg base (aE5 A) outer s H:=⟨e0.frames,e0.mod,e0.bs,e0.bsz,e0.funs,e0.frf,e0.hok,e0.bare⟩;have I0:Inv (rC CX0 P w K mg base N q (aH st) f cdv (aE5 A) outer s H λ _ _ _=>False) [] (start N vs) H s1:=qK S rfl e1 (len _ _ _ _ hsp) r x;have I1:Inv (cxH P w K mg base N q (aH st) f cdv A outer s H) [] (start N vs) H s1:=I0.re rfl (λ z=>nomatch z);refine zB5 (ht [] s1 (start N vs) H _ I1 hq) (λ fl s' hs=>?_) λ e s' hs=>hs.elim
 cases fl with
 |ret u=>obtain⟨v,σ',H',J,rv,q⟩:=hs;exact⟨v,H',J.os,J.bare,J.base,J.hok,rv,q⟩
 |next=>obtain⟨σ',H',J,q⟩:=hs;exact⟨.non,H',J.os,J.bare,J.base,J.hok,rfl,q⟩
 |brk=>obtain⟨_,_,_,q⟩:=hs;exact q.elim
 |cont=>obtain⟨_,_,_,q⟩:=hs;exact q.elim
end
section
variable{X:Cx}{k:Nat}{f:Addr}{fd:zAh}{ps:List Str}{sp:Sp}{dvs:List V}{ds:List Value}{E:XK}{x:Str}{p pos:Pos}{e:Expr}{es:List Expr}{t:TA}
def aD2(F:FnH X.prog X.w X.K X.mg X.base k f fd ps sp)(hr:ik k X.A)(hg:Gl X x)(hm:X.mg x=some (.ref f))(hk:zBR X.K (.ref f)=true)(hb:Binds X.K fd ps ds)(hd:Vals dvs ds)
  (ha:PA X (e::es) t)(hdb:Nd x:=by decide)(he:zA2 (e::es) X.env=(false,eval e X.env)::zA2 es X.env:=by rfl)(hpl:(zCI pos (zA2 es X.env)).any (·.1)=false:=by rfl):
  PE X (.Call (.Name x p) (e::es) [] pos) (yE sp dvs E t):=by
 intro kQ s σ H Q I h;refine zBl (mU I hg hm (zDo (h₀:=X.base) I.ok.mod.kin hk (thn (ha pos kQ s σ H _ I h) λ us s1 hz=>?_) he hpl) hdb);obtain⟨vs,H1,I1,r,q⟩:=hz;refine⟨I1.kIn,zHN (zEC (F.run X.A X.stack s1 H1 ⟨us,[]⟩ (us++ds) (vs++dvs) Q E hr I1.env0 (hb s1 us I1.kIn ?_) (r.append hd) q) λ r' s' hq=>?_)⟩
 .rw[<-(r.append hd).length];exact F.len _ _ _ _ q
 .cases r' with
  |error e=>exact zAH hq
  |ok fl=>
   cases fl with
   |ret u=>exact I1.after hq
   |next=>exact zAH hq
   |brk=>exact zAH hq
   |cont=>exact zAH hq
end
def spW(wd:Addr->Option Str):Sp:=λ vs H Q _=>∃ea C w,vs=[.ref ea]/\H ea=some (.ext (excφ ea C))/\wd C=some w/\∀H',aR H H'->Q (.str w) H'
def spR(P:zAP)(w:World)(K:zAA)(mg:Str->Option Value)(base:Heap)(k0:Nat)(told:Str)(wd:Addr->Option Str):Sp:=λ vs H Q _=>∃f cls dd sl fd k sp,vs=[.ref f]/\H f=some (.frz ⟨cls,dd,.func fd,sl⟩ (.own f))/\dH P w K mg base (CX1 P w) k f fd [] sp/\k<=k0/\Binds K fd [] []/\
 sp [] H (λ _ H'=>Q (.str told) H') (λ c _ H1=>∃C wo,c= .ref C/\wd C=some wo/\∀H',aR H1 H'->Q (.str wo) H')
section
variable{X:Cx}{E:XK}{n0 n1 n2 few cn pe told:Str}{C' fc:Addr}{fdc:zAh}{kc k0:Nat}{wd:Addr->Option Str}
def aDD(D:dJ X E)(hc:X.calm=true)(hN:X.N=[n0,n1,n2])(nd:X.N.Nodup)(l0:X.env.scope.names.lookup n0=some .local)(l1:X.env.scope.names.lookup n1=some .local)(l2:X.env.scope.names.lookup n2=some .local)(hf:∀x,X.fn x=true)
  (hm:X.mg few=some (.ref C'))(hg:Gl X few)(hC':bx X.K C')(FC:FnH X.prog X.w X.K X.mg X.base kc fc fdc [pe] (spW wd))(hgc:Gl X cn)(hmc:X.mg cn=some (.ref fc))(hkc:zBR X.K (.ref fc)=true)(hbc:Binds X.K fdc [pe] [])
  (hr:dq k0 X.A)(hkk:kc<=k0)(hw:∀C w,wd C=some w->bx X.K C/\qO X.K C C'=true){p1 p2 p3 p4 p5 p6 p7 p8 p9 p10 p11 p12 p13 p14 p15 p16:Pos}{j1:Nat}{vs:List V}{H:Hp}{Q:VK}{E0:XK}(h:spR X.prog X.w X.K X.mg X.base k0 told wd vs H Q E0)
  (d1:Nd few:=by decide)(d2:Nd cn:=by decide)(d3:Nd n0:=by decide)(d4:Nd n1:=by decide)(d5:Nd n2:=by decide)
  (d6:(n0==("__classdict__":Str))=false:=by decide)(d7:(n1==("__classdict__":Str))=false:=by decide)(d8:(n2==("__classdict__":Str))=false:=by decide):
  ∃t,PSs X [.Assign [.Name n1 p1] (.Constant (.str told) j1 p2) p3,.Try [.Expr (.Call (.Name n0 p4) [] [] p5) p6] [.ExceptHandler (some (.Name few p7)) (some n2) [.Assign [.Name n1 p8] (.Call (.Name cn p9) [.Name n2 p10] [] p11) p12] p13] [] [] p14,.Return (some (.Name n1 p15)) p16] t/\
   t {nx:=λ _ H'=>Q .non H',rt:=Q} (start X.N vs) H:=by
 obtain⟨f,cls,dd,sl,fd,k,sp,rfl,hH,F,hk,hb,hsp⟩:=h;have i0:X.N[0]? =some n0:=by rw[hN];rfl
 have i1:X.N[1]? =some n1:=by rw[hN];rfl
 have i2:X.N[2]? =some n2:=by rw[hN];rfl
 refine⟨_,dW (jm nd i1 (.inl l1) eE (hf:=.inl (hf _))) (dW (aDP (E':=λ c _ H1=>∃C wo,c= .ref C/\wd C=some wo/\∀H',aR H1 H'->Q (.str wo) H') D hc nd i2 l2 hm hg hC' (tb:=sS (z9 X k0 0 λ c _ H1=>∃C wo,c= .ref C/\wd C=some wo/\∀H',aR H1 H'->Q (.str wo) H')) (th:=yF (yE (spW wd) [] E (iG (jN 2) pX)) (qi 1))
  (λ kQ=>iz (mO (aDY (X:=X.tr kQ _) hr Cx.tr_pass i0 (.inl l0) d3 d6))) (λ kQ ea=>iz (jm (X:=X.ha kQ ea) nd i1 (.inl l1) (aD2 (X:=X.ha kQ ea) FC ((hr.h.mono hkk).mark) hgc hmc hkc hbc .nil (aX (dX (X:=X.ha kQ ea) i2 (.inl l2) d5 d8) dF) d2) (hf:=.inl (hf _)))) d1) (iz (tH (dX i1 (.inl l1) d4 d7)))),?_⟩
 have hs:start X.N [.ref f]=[some (.ref f),none,none]:=by rw[hN];rfl
 rw[hs];have e:(λ(_:V) H1=>Q (.str told) H1)=λ(_:V) H1=>aHH (jN 1) {nx:=λ _ H'=>Q .non H',rt:=Q} [some (.ref f),some (.str told),none] H1:=by
  funext v H1;exact propext ⟨λ q=>⟨_,rfl,q⟩,λ⟨v',e',q⟩=>by cases e';exact q⟩
 rw[e]at hsp;have key:aCb X 2 C' (λ c _ H1=>∃C wo,c= .ref C/\wd C=some wo/\∀H',aR H1 H'->Q (.str wo) H') (sS (z9 X k0 0 λ c _ H1=>∃C wo,c= .ref C/\wd C=some wo/\∀H',aR H1 H'->Q (.str wo) H')) (yF (yE (spW wd) [] E (iG (jN 2) pX)) (qi 1))
  {nx:=aHH (jN 1) {nx:=λ _ H'=>Q .non H',rt:=Q},rt:=Q} [some (.ref f),some (.str told),none] H:=?_
 .exact key
 refine⟨⟨f,cls,dd,sl,fd,k,sp,rfl,hH,F,hk,hb,hsp⟩,λ c H1 ⟨C,wo,ec,hwd,hq⟩=>⟨C,ec,(hw C wo hwd).1,(hw C wo hwd).2,λ σ1 ea hl hn=>?_⟩⟩
 .rw[hN]at hl
  obtain⟨a,b,c,rfl⟩:∃a b c,σ1=[a,b,c]:=by
   match σ1,hl with
   |[a,b,c],_=>exact⟨a,b,c,rfl⟩
  refine⟨.ref ea,rfl,ea,C,wo,rfl,ak,hwd,λ H' sm=>⟨.str wo,rfl,hq H' λ b o e=>sm b o ?_⟩⟩;rw[aU (bD e hn)];exact e
end
def za(K:zAA)(c:V):TE:=tCB (aGl K) (iG (jN 0) (iG (tC c) pX))
def kZ(K:zAA):List V->TA
 |[]=>pX
 |c::cs=>iG (za K c) (kZ K cs)
def vI:List Str->TA
 |[]=>pX
 |x::xs=>iG (tC (.str x)) (vI xs)
def Kt(K:zAA)(C:Addr)(c:V)(b:Bool):Prop:=∃u,RelV c u/\zB4 K (.ref C) u=some b
section
variable{K:zAA}{σ:St}{H:Hp}{ea C:Addr}
def wG{c:V}{b:Bool}{Q:VK}(hs:σ[0]? =some (some (.ref ea)))(hH:H ea=some (.ext (excφ ea C)))(hk:aG5 K C)(h:Kt K C c b)(q:Q (.bl b) H):za K c σ H Q:=by
 obtain⟨u,r,e⟩:=h;exact⟨.ref ea,hs,ea,C,c,u,b,rfl,r,hH,hk,e,q⟩
theorem lD(hs:σ[0]? =some (some (.ref ea)))(hH:H ea=some (.ext (excφ ea C)))(hk:aG5 K C):∀{cs:List V} {bs:List Bool} {Q:List V->Hp->Prop},zEe (Kt K C) cs bs->Q (bs.map V.bl) H->kZ K cs σ H Q
 |_,_,_,.nil,q=>q
 |_,_,_,.cons h r,q=>wG hs hH hk h (lD hs hH hk r q)
theorem sO:∀{l:List Str} {Q:List V->Hp->Prop},Q (l.map V.str) H->vI l σ H Q
 |[],_,q=>q
 |x::l,_,q=>sO (l:=l) (Q:=λ xs H2=>_) q
end
structure Wd(K:zAA)(c1 c2:V)(ks:List (List V))(ws:List Str)(C:Addr)(w:Str):Prop where
 k:aG5 K C
 q1:Kt K C c1 true
 q2:Kt K C c2 true
 bs:∃(b1 b2 b3 b4:List Bool) (j:Nat) (k1 k2 k3 k4:List V),ks=[k1,k2,k3,k4]/\zEe (Kt K C) k1 b1/\zEe (Kt K C) k2 b2/\zEe (Kt K C) k3 b3/\zEe (Kt K C) k4 b4/\(b1++b2++b3++b4).length<=100/\(b1++b2++b3++b4).count true=1/\
  (b1++b2++b3++b4)[j]? =some true/\(∀m,m<j->(b1++b2++b3++b4)[m]? =some false)/\ws[j]? =some w
section
variable{X:Cx}{n0 n1 n2 odd:Str}{c1 c2:V}{k1 k2 k3 k4:List V}{l1 l2:List Str}{a1 a2:Expr}{as1 as2 e1 e2 e3 e4 w1 w2:List Expr}{kw1 kw2:List zCK}{Q:VK}{H:Hp}{vs:List V}
 {p1 p2 p3 p4 p5 p6 p7 p8 p9 p10 p11 p12 p13 p14 p15 p16 p17 p18 p19 p20 p21 p22 p23 p24 p25 p26 p27 p28 p29 p30 p31 p32 p33 p34 p35 p36 p37 p38 p39 p40:Pos}{q1 q2 q3 q4 q5 q6 q7:Pos}{j1 j2 j3 j4 j5:Nat}{E0:XK}{wd:Addr->Option Str}
end
end L2
namespace VL
open PySem PySem.Spec PyProof.Rows L2
inductive D where
 |non|bl (b:Bool)|int (i:Int)|str (x:Str)|tup (l:List D)|lst (l:List D)|dct (ks vs:List D)|set (l:List Int)|scr (l:List Int)|fn (x:Str)|itm (o:Option Nat) (l:gX)
instance:Inhabited D:=⟨.non⟩
def kD:Key->D
 | .inl i=>.int i
 | .inr x=>.str x
variable{K:zAA}
def nJ(K:zAA)(H:Hp)(a:Addr)(ns:List Int):Prop:=(∃o,H a=some (.frz o (.lst (ns.map V.int))))\/
 ∃(o:Obj) (its:Array Value) (n:Nat),K.lookup a=some o/\o.cls= .type "list"/\o.dict=none/\o.data= .seq its n/\its.size<=zAN/\Vals (ns.map V.int) its.toList
def nJ.sq(h:nJ K H a ns):SqL K H a (ns.map V.int):=by
 rcases h with h|h
 .exact .inl (.inr h)
 .exact .inr h
def uh(H:Hp)(a:Addr)(oo:Option Nat)(l:gX):Prop:=∃o es ep,o.data= .dict es ep/\(oo=none\/oo=some ep)/\H a=some (.frz o (.dK (l.map λ p=>(.inl p.1,V.int p.2))))
def hsh(ns:List Int):Int:=reduceHash (zHB (ns.map hashInt))
def dxO(a:Addr)(es:List (List Int×Addr×V)):HO:=.ext λ h=>es.length<=zAN/\(a==zGG)=false/\∃(xs:List (List Int×Addr×Value)) (o:Obj) (ts:Array zFZ) (ep:Nat),zEe (λ e x=>e.1=x.1/\e.2.1=x.2.1/\RelV e.2.2 x.2.2) es xs/\
 h.get? a=some o/\o.ExactDict/\o.data= .dict ts ep/\ts.toList=xs.map λ x=>⟨hsh x.1,.ref x.2.1,x.2.2⟩
structure DxK(K:zAA)(H:Hp)(a:Addr)(es:List (List Int×Addr×V)):Prop where
 at_:H a=some (dxO a es)
 ks:∀e∈es,SqT K H e.2.1 (e.1.map V.int)
 nd:(es.map (·.1)).Nodup
mutual
inductive Rp(K:zAA):(Addr->Prop)->Hp->V->D->Prop where
 |non {A:Addr->Prop} {H:Hp}:Rp K A H .non .non
 |bl {A:Addr->Prop} {H:Hp} (b:Bool):Rp K A H (.bl b) (.bl b)
 |int {A:Addr->Prop} {H:Hp} (i:Int):Rp K A H (.int i) (.int i)
 |str {A:Addr->Prop} {H:Hp} (x:Str):Rp K A H (.str x) (.str x)
 |tup {A:Addr->Prop} {H:Hp} {a:Addr} {xs:List V} {ds:List D} (h:SqT K H a xs) (r:Rps K A H xs ds):Rp K A H (.ref a) (.tup ds)
 |lst {A:Addr->Prop} {H:Hp} {a:Addr} {xs:List V} {ds:List D} (h:H a=some (.lst xs)) (m:A a) (r:Rps K (λ p=>A p/\p≠a) H xs ds):Rp K A H (.ref a) (.lst ds)
 |dK {A:Addr->Prop} {H:Hp} {a:Addr} {kvs:List (Key×V)} {ds:List D} (h:H a=some (.dK kvs)) (m:A a) (r:Rps K (λ p=>A p/\p≠a) H (kvs.map (·.2)) ds):Rp K A H (.ref a) (.dct (kvs.map λ p=>kD p.1) ds)
 |dT {A:Addr->Prop} {H:Hp} {a:Addr} {es:List (List Int×Addr×V)} {ds:List D} (h:DxK K H a es) (m:A a) (r:Rps K (λ p=>A p/\p≠a) H (es.map (·.2.2)) ds):Rp K A H (.ref a) (.dct (.non::es.map λ e=>.tup (e.1.map .int)) ds)
 |set {A:Addr->Prop} {H:Hp} {a:Addr} {S:Int->Bool} {l:List Int} (h:H a=some (.set S l.length)) (m:A a) (hS:∀i,S i=decide (i∈l)) (nd:l.Nodup):Rp K A H (.ref a) (.set l)
 |scr {A:Addr->Prop} {H:Hp} {a:Addr} {ns:List Int} (h:nJ K H a ns):Rp K A H (.ref a) (.scr ns)
 |fn {A:Addr->Prop} {H:Hp} {a:Addr} {x:Str} (h:zA9 K zA1 x=some (some (.ref a))):Rp K A H (.ref a) (.fn x)
 |itm {A:Addr->Prop} {H:Hp} {a:Addr} {oo:Option Nat} {l:gX} (h:uh H a oo l):Rp K A H (.ref a) (.itm oo l)
inductive Rps(K:zAA):(Addr->Prop)->Hp->List V->List D->Prop where
 |nil {A:Addr->Prop} {H:Hp}:Rps K A H [] []
 |cons {A:Addr->Prop} {H:Hp} {x:V} {d:D} {xs:List V} {ds:List D} (h:Rp K A H x d) (r:Rps K A H xs ds):Rps K A H (x::xs) (d::ds)
end
def nJ.mono(s:aR H H')(h:nJ K H a ns):nJ K H' a ns:=by
 rcases h with ⟨o,h⟩|h
 .exact .inl ⟨o,s _ _ h⟩
 .exact .inr h
def uh.mono(h:uh H a oo l)(s:aR H H'):uh H' a oo l:=let⟨o,es,ep,y,z,e⟩:=h;⟨o,es,ep,y,z,s _ _ e⟩
def DxK.mono(h:DxK K H a es)(s:aR H H'):DxK K H' a es:=⟨s _ _ h.at_,λ e he=>s.sqt (h.ks e he),h.nd⟩
def Rp.mono'(s:aR H H')(r:Rp K A H x d)(hA:∀p o,H p=some o->A p->A' p):Rp K A' H' x d:=
 Rp.rec (motive_1:=λ A H x d _=>∀H',aR H H'->∀A':Addr->Prop,(∀p o,H p=some o->A p->A' p)->Rp K A' H' x d) (motive_2:=λ A H xs ds _=>∀H',aR H H'->∀A':Addr->Prop,(∀p o,H p=some o->A p->A' p)->Rps K A' H' xs ds)
  (λ _ _ _ _=>.non) (λ b _ _ _ _=>.bl b) (λ i _ _ _ _=>.int i) (λ x _ _ _ _=>.str x) (λ h _ ih _ s _ hA=>.tup (s.sqt h) (ih _ s _ hA))
  (λ h m _ ih _ s _ hA=>.lst (s _ _ h) (hA _ _ h m) (ih _ s _ λ p o e z=>⟨hA p o e z.1,z.2⟩)) (λ h m _ ih _ s _ hA=>.dK (s _ _ h) (hA _ _ h m) (ih _ s _ λ p o e z=>⟨hA p o e z.1,z.2⟩))
  (λ h m _ ih _ s _ hA=>.dT (h.mono s) (hA _ _ h.at_ m) (ih _ s _ λ p o e z=>⟨hA p o e z.1,z.2⟩)) (λ h m hS nd _ s _ hA=>.set (s _ _ h) (hA _ _ h m) hS nd) (λ h _ s _ _=>.scr (h.mono s)) (λ h _ _ _ _=>.fn h) (λ h _ s _ _=>.itm (h.mono s)) (λ _ _ _ _=>.nil) (λ _ _ ih ir _ s _ hA=>.cons (ih _ s _ hA) (ir _ s _ hA)) r H' s A' hA
def Rps.mono'(s:aR H H')(r:Rps K A H xs ds)(hA:∀p o,H p=some o->A p->A' p):Rps K A' H' xs ds:=
 Rps.rec (motive_1:=λ A H x d _=>∀H',aR H H'->∀A':Addr->Prop,(∀p o,H p=some o->A p->A' p)->Rp K A' H' x d) (motive_2:=λ A H xs ds _=>∀H',aR H H'->∀A':Addr->Prop,(∀p o,H p=some o->A p->A' p)->Rps K A' H' xs ds)
  (λ _ _ _ _=>.non) (λ b _ _ _ _=>.bl b) (λ i _ _ _ _=>.int i) (λ x _ _ _ _=>.str x) (λ h _ ih _ s _ hA=>.tup (s.sqt h) (ih _ s _ hA))
  (λ h m _ ih _ s _ hA=>.lst (s _ _ h) (hA _ _ h m) (ih _ s _ λ p o e z=>⟨hA p o e z.1,z.2⟩)) (λ h m _ ih _ s _ hA=>.dK (s _ _ h) (hA _ _ h m) (ih _ s _ λ p o e z=>⟨hA p o e z.1,z.2⟩))
  (λ h m _ ih _ s _ hA=>.dT (h.mono s) (hA _ _ h.at_ m) (ih _ s _ λ p o e z=>⟨hA p o e z.1,z.2⟩)) (λ h m hS nd _ s _ hA=>.set (s _ _ h) (hA _ _ h m) hS nd) (λ h _ s _ _=>.scr (h.mono s)) (λ h _ _ _ _=>.fn h) (λ h _ s _ _=>.itm (h.mono s)) (λ _ _ _ _=>.nil) (λ _ _ ih ir _ s _ hA=>.cons (ih _ s _ hA) (ir _ s _ hA)) r H' s A' hA
def Rp.mono(s:aR H H')(hA:∀p o,H p=some o->A p->A' p)(r:Rp K A H x d):Rp K A' H' x d:=r.mono' s hA
def Rps.mono(s:aR H H')(hA:∀p o,H p=some o->A p->A' p)(r:Rps K A H x d):Rps K A' H' x d:=r.mono' s hA
def Rp.up(s:aR H H')(r:Rp K A H x d):Rp K A H' x d:=r.mono s λ _ _ _ h=>h
def Rp.wk(hA:∀p o,H p=some o->A p->A' p)(r:Rp K A H x d):Rp K A' H x d:=r.mono (aR.refl H) hA
def Rps.up(s:aR H H')(r:Rps K A H x d):Rps K A H' x d:=r.mono s λ _ _ _ h=>h
def Rps.wk(hA:∀p o,H p=some o->A p->A' p)(r:Rps K A H x d):Rps K A' H x d:=r.mono (aR.refl H) hA
def iT:HO->Bool
 | .lst _=>true| .dK _=>true| .dT _=>true| .set _ _=>true| .ext _=>true|_=>false
def wK(s:jZ l H H')(hl:H l=some o)(ho:iT o=true)(h:SqT K H a xs):SqT K H' a xs:=by
 rcases h with (h|⟨u,h⟩)|h
 .refine .inl (.inl (s _ _ (λ e=>?_) h))
  subst e;rw[hl]at h;cases h;cases ho
 .refine .inl (.inr ⟨u,s _ _ (λ e=>?_) h⟩)
  subst e;rw[hl]at h;cases h;cases ho
 .exact .inr h
def aAw(s:jZ l H H')(hl:H l=some o)(ho:iT o=true)(h:nJ K H a ns):nJ K H' a ns:=by
 rcases h with ⟨u,h⟩|h
 .exact .inl ⟨u,s _ _ (λ e=>by subst e;rw[hl]at h;cases h;cases ho) h⟩
 .exact .inr h
def uh.but(h:uh H a oo q)(s:jZ l H H')(hl:H l=some o)(ho:iT o=true):uh H' a oo q:=let⟨u,es,ep,y,z,e⟩:=h;⟨u,es,ep,y,z,s _ _ (λ z=>by subst z;rw[hl]at e;cases e;cases ho) e⟩
def DxK.but(h:DxK K H a es)(s:jZ l H H')(hl:H l=some o)(ho:iT o=true)(ne:a≠l):DxK K H' a es:=
 ⟨s _ _ ne h.at_,λ e he=>wK s hl ho (h.ks e he),h.nd⟩
def Rp.but'(s:jZ l H H')(hl:H l=some o)(ho:iT o=true)(r:Rp K A H x d)(hA:¬A l):Rp K A H' x d:=
 Rp.rec (motive_1:=λ A H x d _=>∀H',jZ l H H'->∀o:HO,H l=some o->iT o=true->¬A l->Rp K A H' x d) (motive_2:=λ A H xs ds _=>∀H',jZ l H H'->∀o:HO,H l=some o->iT o=true->¬A l->Rps K A H' xs ds)
  (λ _ _ _ _ _ _=>.non) (λ b _ _ _ _ _ _=>.bl b) (λ i _ _ _ _ _ _=>.int i) (λ x _ _ _ _ _ _=>.str x) (λ h _ ih _ s o hl ho hA=>.tup (wK s hl ho h) (ih _ s o hl ho hA))
  (λ h m _ ih _ s o hl ho hA=>.lst (s _ _ (λ e=>hA (e▸m)) h) m (ih _ s o hl ho λ z=>hA z.1)) (λ h m _ ih _ s o hl ho hA=>.dK (s _ _ (λ e=>hA (e▸m)) h) m (ih _ s o hl ho λ z=>hA z.1))
  (λ h m _ ih _ s o hl ho hA=>.dT (h.but s hl ho λ e=>hA (e▸m)) m (ih _ s o hl ho λ z=>hA z.1)) (λ h m hS nd _ s o hl ho hA=>.set (s _ _ (λ e=>hA (e▸m)) h) m hS nd) (λ h _ s o hl ho _=>.scr (aAw s hl ho h)) (λ h _ _ _ _ _ _=>.fn h) (λ h _ s o hl ho _=>.itm (h.but s hl ho)) (λ _ _ _ _ _ _=>.nil) (λ _ _ ih ir _ s o hl ho hA=>.cons (ih _ s o hl ho hA) (ir _ s o hl ho hA)) r H' s o hl ho hA
def Rps.but'(s:jZ l H H')(hl:H l=some o)(ho:iT o=true)(r:Rps K A H xs ds)(hA:¬A l):Rps K A H' xs ds:=
 Rps.rec (motive_1:=λ A H x d _=>∀H',jZ l H H'->∀o:HO,H l=some o->iT o=true->¬A l->Rp K A H' x d) (motive_2:=λ A H xs ds _=>∀H',jZ l H H'->∀o:HO,H l=some o->iT o=true->¬A l->Rps K A H' xs ds)
  (λ _ _ _ _ _ _=>.non) (λ b _ _ _ _ _ _=>.bl b) (λ i _ _ _ _ _ _=>.int i) (λ x _ _ _ _ _ _=>.str x) (λ h _ ih _ s o hl ho hA=>.tup (wK s hl ho h) (ih _ s o hl ho hA))
  (λ h m _ ih _ s o hl ho hA=>.lst (s _ _ (λ e=>hA (e▸m)) h) m (ih _ s o hl ho λ z=>hA z.1)) (λ h m _ ih _ s o hl ho hA=>.dK (s _ _ (λ e=>hA (e▸m)) h) m (ih _ s o hl ho λ z=>hA z.1))
  (λ h m _ ih _ s o hl ho hA=>.dT (h.but s hl ho λ e=>hA (e▸m)) m (ih _ s o hl ho λ z=>hA z.1)) (λ h m hS nd _ s o hl ho hA=>.set (s _ _ (λ e=>hA (e▸m)) h) m hS nd) (λ h _ s o hl ho _=>.scr (aAw s hl ho h)) (λ h _ _ _ _ _ _=>.fn h) (λ h _ s o hl ho _=>.itm (h.but s hl ho)) (λ _ _ _ _ _ _=>.nil) (λ _ _ ih ir _ s o hl ho hA=>.cons (ih _ s o hl ho hA) (ir _ s o hl ho hA)) r H' s o hl ho hA
def Rp.but(s:jZ l H H')(hl:H l=some o)(ho:iT o=true)(hA:¬A l)(r:Rp K A H x d):Rp K A H' x d:=r.but' s hl ho hA
def Rps.but(s:jZ l H H')(hl:H l=some o)(ho:iT o=true)(hA:¬A l)(r:Rps K A H x d):Rps K A H' x d:=r.but' s hl ho hA
mutual
def imm:D->Bool
 | .tup l=>cF l
 | .lst _=>false
 | .dct _ _=>false
 | .set _=>false
 |_=>true
def cF:List D->Bool
 |[]=>true
 |d::r=>imm d&&cF r
end
def mY(e:cF (d::r)=true):imm d=true/\cF r=true:=by
 simp only[cF,zAK]at e;exact e
def aBU(e:imm (.tup l)=true):cF l=true:=by simpa[imm]using e
def aBX(e:imm (.lst l)=true):False:=by simp[imm]at e
def rW(e:imm (.dct l k)=true):False:=by simp[imm]at e
def aBV(e:imm (.set l)=true):False:=by simp[imm]at e
def Rp.imm'(r:Rp K A H x d)(e:VL.imm d=true):Rp K A' H x d:=
 Rp.rec (motive_1:=λ _ H x d _=>VL.imm d=true->Rp K A' H x d) (motive_2:=λ _ H xs ds _=>cF ds=true->Rps K A' H xs ds)
  (λ _=>.non) (λ b _=>.bl b) (λ i _=>.int i) (λ x _=>.str x) (λ h _ ih e=>.tup h (ih (aBU e)))
  (λ _ _ _ _ e=>(aBX e).elim) (λ _ _ _ _ e=>(rW e).elim) (λ _ _ _ _ e=>(rW e).elim) (λ _ _ _ _ e=>(aBV e).elim) (λ h _=>.scr h) (λ h _=>.fn h) (λ h _=>.itm h) (λ _=>.nil) (λ _ _ ih ir e=>.cons (ih (mY e).1) (ir (mY e).2)) r e
def Rps.imm'(r:Rps K A H xs ds)(e:cF ds=true):Rps K A' H xs ds:=
 Rps.rec (motive_1:=λ _ H x d _=>VL.imm d=true->Rp K A' H x d) (motive_2:=λ _ H xs ds _=>cF ds=true->Rps K A' H xs ds)
  (λ _=>.non) (λ b _=>.bl b) (λ i _=>.int i) (λ x _=>.str x) (λ h _ ih e=>.tup h (ih (aBU e)))
  (λ _ _ _ _ e=>(aBX e).elim) (λ _ _ _ _ e=>(rW e).elim) (λ _ _ _ _ e=>(rW e).elim) (λ _ _ _ _ e=>(aBV e).elim) (λ h _=>.scr h) (λ h _=>.fn h) (λ h _=>.itm h) (λ _=>.nil) (λ _ _ ih ir e=>.cons (ih (mY e).1) (ir (mY e).2)) r e
theorem Rp.imm(r:Rp K A H x d)(h:VL.imm d=true):Rp K A' H x d:=r.imm' h
def Rps.imm(r:Rps K A H x d)(h:cF d=true):Rps K A' H x d:=r.imm' h
def Rp.int_inv(r:Rp K A H v (.int i)):v= .int i:=by cases r;rfl
def Rp.bl_inv(r:Rp K A H v (.bl b)):v= .bl b:=by cases r;rfl
def Rp.tup_inv(r:Rp K A H v (.tup ds)):∃a xs,v= .ref a/\SqT K H a xs/\Rps K A H xs ds:=by cases r with|tup h r=>exact⟨_,_,rfl,h,r⟩
def Rp.lst_inv(r:Rp K A H v (.lst ds)):∃a xs,v= .ref a/\H a=some (.lst xs)/\A a/\Rps K (λ p=>A p/\p≠a) H xs ds:=by cases r with|lst h m r=>exact⟨_,_,rfl,h,m,r⟩
def Rp.scr_inv(r:Rp K A H v (.scr ns)):∃a,v= .ref a/\nJ K H a ns:=by cases r with|scr h=>exact⟨_,rfl,h⟩
def Rps.one_inv(r:Rps K A H vs [d]):∃v,vs=[v]/\Rp K A H v d:=by cases r with|cons h r=>cases r;exact⟨_,rfl,h⟩
section
variable{A:Addr->Prop}{H:Hp}
theorem Rps.length:∀{xs:List V} {ds:List D},Rps K A H xs ds->xs.length=ds.length:=by
 intro xs ds h;induction xs generalizing ds with
 |nil=>cases h;rfl
 |cons x xs ih=>cases h with|cons _ r=>exact congrArg (·+1) (ih r)
theorem Rps.get:∀{xs:List V} {ds:List D} {i:Nat} {x:V},Rps K A H xs ds->xs[i]? =some x->∃d,ds[i]? =some d/\Rp K A H x d
 |_,_,_,_,.nil,e=>by simp at e
 |_,_,0,_,.cons h _,e=>by simp at e;subst e;exact⟨_,rfl,h⟩
 |_,_,i+1,x,.cons _ r,e=>by
  obtain⟨d,h1,h2⟩:=Rps.get (i:=i) (x:=x) r (by simpa using e);exact⟨d,by simpa using h1,h2⟩
theorem Rps.getD:∀{xs:List V} {ds:List D} {i:Nat} {d:D},Rps K A H xs ds->ds[i]? =some d->∃x,xs[i]? =some x/\Rp K A H x d
 |_,_,_,_,.nil,e=>by simp at e
 |_,_,0,_,.cons h _,e=>by simp at e;subst e;exact⟨_,rfl,h⟩
 |_,_,i+1,d,.cons _ r,e=>by
  obtain⟨x,h1,h2⟩:=Rps.getD (i:=i) (d:=d) r (by simpa using e);exact⟨x,by simpa using h1,h2⟩
def Rps.append:∀{xs ys:List V} {ds es:List D},Rps K A H xs ds->Rps K A H ys es->Rps K A H (xs++ys) (ds++es):=by
 intro xs ys ds es h s;induction xs generalizing ds with
 |nil=>cases h;exact s
 |cons x xs ih=>cases h with|cons h r=>exact .cons h (ih r)
theorem Rps.take:∀{xs:List V} {ds:List D} (n:Nat),Rps K A H xs ds->Rps K A H (xs.take n) (ds.take n)
 |_,_,0,_=>.nil
 |_,_,_+1,.nil=>.nil
 |_,_,n+1,.cons h r=>.cons h (Rps.take n r)
theorem Rps.drop:∀{xs:List V} {ds:List D} (n:Nat),Rps K A H xs ds->Rps K A H (xs.drop n) (ds.drop n)
 |_,_,0,r=>r
 |_,_,_+1,.nil=>.nil
 |_,_,n+1,.cons _ r=>Rps.drop n r
theorem Rps.ints:∀{ns:List Int},Rps K A H (ns.map V.int) (ns.map D.int)
 |[]=>.nil
 |n::ns=>.cons (.int n) Rps.ints
theorem Rps.ints_of:∀{xs:List V} {ns:List Int},Rps K A H xs (ns.map D.int)->xs=ns.map V.int
 |_,[],.nil=>rfl
 |_,n::ns,.cons h r=>by
  cases h;rw[zAU,Rps.ints_of r]
end
def aM(h:a=b):a=b:=h
inductive Rs(α:Type) where
 |ok (a:α)|ex (c:Str)|st
noncomputable def Rs.bd{α β:Type}:Rs α->(α->Rs β)->Rs β
 | .ok a,f=>f a
 | .ex c,_=>.ex c
 | .st,_=>.st
@[simp] def aN(a:α)(f:α->Rs β):(Rs.ok a).bd f=f a:=aM rfl
def eG{r:Rs α}(h:r.bd f= .ok b):∃a,r= .ok a/\f a= .ok b:=by
 cases r with
 |ok a=>exact⟨a,rfl,h⟩
 |ex c=>cases h
 |st=>cases h
inductive Slot where
 |no|sh (d:D)|nw (d:D)|ow (d:D)|oz (d:D)|o2 (l:List (List D))
abbrev En:=List Slot
abbrev Lab:=Addr->Nat×Nat
abbrev Mode:=Option (List Nat)
def inM(m:Mode)(n:Nat):Prop:=match m with
 |none=>True
 |some L=>n∈L
def jn:Mode->Mode->Mode
 |some a,some b=>some (a++b)
 |_,_=>none
def aJ1(h:inM a n):inM (jn a b) n:=by
 cases a with
 |none=>cases b<;>exact trivial
 |some L=>
  cases b with
  |none=>exact trivial
  |some M=>exact zAQ _ h
def aJ0(h:inM b n):inM (jn a b) n:=by
 cases a with
 |none=>cases b<;>exact trivial
 |some L=>
  cases b with
  |none=>exact trivial
  |some M=>exact zAZ _ h
def fpM(m:Mode)(lab:Lab)(H:Hp):Addr->Prop:=λ p=>H p=none\/inM m (lab p).1
def aEQ(h:fpM a lab H p):fpM (jn a b) lab H p:=h.imp id aJ1
def aEP(h:fpM b lab H p):fpM (jn a b) lab H p:=h.imp id aJ0
def jT(s:aR H H')(h:fpM m lab H' p):fpM m lab H p:=h.imp (λ z=>s.free z) id
structure Gx where
 H0:Hp
 E:XK
 cl:Str->Addr
def aBx:D->Bool
 | .lst _=>true
 | .dct _ _=>true
 | .set _=>true
 |_=>false
def dg(K:zAA)(H:Hp)(lab:Lab)(i:Nat)(v:V):Slot->Prop
 | .no=>True
 | .sh d=>Rp K (λ p=>(lab p).1<=1) H v d
 | .nw d=>Rp K (λ p=>(lab p).1=1) H v d
 | .ow d=>Rp K (λ p=>(lab p).1=1\/(lab p).1=i+2) H v d/\(aBx d=true->∃a,v= .ref a/\(lab a).1=i+2)
 | .oz d=>∃a xs ds,v= .ref a/\d= .lst ds/\H a=some (.lst xs)/\(lab a).1=i+2/\Rps K (λ p=>(lab p).1<=1) H xs ds
 | .o2 l=>∃a xs,v= .ref a/\H a=some (.lst xs)/\lab a=(i+2,0)/\xs.length=l.length/\∀(j:Nat) x ds,xs[j]? =some x->l[j]? =some ds->Rp K (λ p=>lab p=(i+2,j+1)) H x (.lst ds)
structure RR(K:zAA)(G:Gx)(τ:List (V×D))(Y:En)(σ:L2.St)(H:Hp)(lab:Lab):Prop where
 len:σ.length=Y.length
 sl:∀(i:Nat) (s:Slot),Y[i]? =some s->s= .no\/∃v,σ[i]? =some (some v)/\dg K H lab i v s
 old:aR G.H0 H
 new:∀p,(lab p).1≠0->G.H0 p=none
 tm:∀q∈τ,Rp K (λ p=>(lab p).1<=1) H q.1 q.2
theorem dg.up(s:aR H H')(h:dg K H lab i v x):dg K H' lab i v x:=by
 cases x with
 |no=>exact trivial
 |sh d=>exact Rp.up s h
 |nw d=>exact Rp.up s h
 |ow d=>exact⟨Rp.up s h.1,h.2⟩
 |oz d=>
  obtain⟨a,xs,ds,e1,e2,e3,e4,e5⟩:=h;exact⟨a,xs,ds,e1,e2,s _ _ e3,e4,e5.up s⟩
 |o2 l=>
  obtain⟨a,xs,e1,e2,e3,e4,e5⟩:=h;exact⟨a,xs,e1,s _ _ e2,e3,e4,λ j x ds f1 f2=>(e5 j x ds f1 f2).up s⟩
def aDA(r:Rp K A H (.ref a) d)(hm:aBx d=true):∃o,H a=some o/\iT o=true/\A a:=by
 cases r with
 |lst h m _=>exact⟨_,h,rfl,m⟩
 |dK h m _=>exact⟨_,h,rfl,m⟩
 |dT h m _=>exact⟨_,h.at_,rfl,m⟩
 |set h m _ _=>exact⟨_,h,rfl,m⟩
 |tup _ _=>cases hm
 |scr _=>cases hm
 |fn _=>cases hm
 |itm _=>cases hm
def aHW(r:Rp K A H v d)(hm:aBx d=true):∃a,v= .ref a:=by
 cases r with
 |lst h m _=>exact⟨_,rfl⟩
 |dK h m _=>exact⟨_,rfl⟩
 |dT h m _=>exact⟨_,rfl⟩
 |set h m _ _=>exact⟨_,rfl⟩
 |_=>cases hm
theorem dg.lab{lab lab':Lab}(hl:∀p o,H p=some o->lab' p=lab p)(h:dg K H lab i v x):dg K H lab' i v x:=by
 cases x with
 |no=>exact trivial
 |sh d=>exact Rp.wk (λ p o e q=>(hl p o e).symm▸q) h
 |nw d=>exact Rp.wk (λ p o e q=>(hl p o e).symm▸q) h
 |ow d=>
  obtain⟨h,t⟩:=h;refine⟨Rp.wk (λ p o e q=>(hl p o e).symm▸q) h,λ m=>?_⟩;obtain⟨a,rfl,ea⟩:=t m;obtain⟨o,ho,_⟩:=aDA h m;exact⟨a,rfl,(congrArg (·.1) (hl a o ho)).trans ea⟩
 |oz d=>
  obtain⟨a,xs,ds,e1,e2,e3,e4,e5⟩:=h;exact⟨a,xs,ds,e1,e2,e3,(congrArg (·.1) (hl _ _ e3)).trans e4,Rps.wk (λ p o e q=>(hl p o e).symm▸q) e5⟩
 |o2 l=>
  obtain⟨a,xs,e1,e2,e3,e4,e5⟩:=h;exact⟨a,xs,e1,e2,(hl _ _ e2).trans e3,e4,λ j x ds f1 f2=>Rp.wk (λ p o e q=>(hl p o e).symm▸q) (e5 j x ds f1 f2)⟩
section
variable{G:Gx}{τ:List (V×D)}{Y:En}{σ:L2.St}{H H':Hp}{lab lab':Lab}
theorem RR.up(R:RR K G τ Y σ H lab)(s:aR H H'):RR K G τ Y σ H' lab:=
 ⟨R.len,λ i x e=>(R.sl i x e).imp id λ⟨v,e1,e2⟩=>⟨v,e1,e2.up s⟩,R.old.trans s,R.new,λ q hq=>(R.tm q hq).up s⟩
def RR.relab(R:RR K G τ Y σ H lab)(hl:∀p o,H p=some o->lab' p=lab p)(hn:∀p,(lab' p).1≠0->G.H0 p=none):RR K G τ Y σ H lab':=
 ⟨R.len,λ i x e=>(R.sl i x e).imp id λ⟨v,e1,e2⟩=>⟨v,e1,e2.lab hl⟩,R.old,hn,λ q hq=>Rp.wk (λ p o e z=>by rw[hl p o e];exact z) (R.tm q hq)⟩
def RR.drop(R:RR K G (τ'++τ) Y σ H lab):RR K G τ Y σ H lab:=⟨R.len,R.sl,R.old,R.new,λ z hz=>R.tm z (zAZ _ hz)⟩
def RR.put(R:RR K G τ Y σ H lab)(h:dg K H lab i v s):RR K G τ (Y.set i s) (σ.set i (some v)) H lab:=by
 refine⟨by rw[zC2,zC2,R.len],λ j x e=>?_,R.old,R.new,R.tm⟩;by_cases hj:i=j
 .subst hj
  have hi:i<Y.length:=by
   have:=(zA3.mp e).1
   rwa [zC2]at this
  rw[zCB hi]at e;cases e;exact .inr ⟨v,by rw[zCB (by rw[R.len];exact hi)],h⟩
 .rw[zBJ hj]at e
  rcases R.sl j x e with z|⟨u,e1,e2⟩
  .exact .inl z
  .exact .inr ⟨u,by rw[zBJ hj];exact e1,e2⟩
def cL(H:Hp)(n:Nat)(lab:Lab):Lab:=λ p=>match H p with
 |none=>(n,0)
 |some _=>lab p
def bQ(h:H p=some o):cL H n lab p=lab p:=by unfold cL;rw[h]
def tV(h:H p=none):cL H n lab p=(n,0):=by unfold cL;rw[h]
def RR.fresh{P:Nat->Prop}(h1:P 1)(hm:∀k,inM m k->P k)(R:RR K G τ Y σ H lab)(s:aR H H')(r:Rp K (fpM m lab H) H' v d):
  RR K G τ Y σ H' (cL H 1 lab)/\Rp K (λ p=>P (cL H 1 lab p).1) H' v d:=by
 refine⟨(R.relab (λ p o e=>bQ e) λ p hp=>?_).up s,Rp.wk (λ p o e z=>?_) r⟩
 .cases e:H p with
  |none=>exact R.old.free e
  |some o=>rw[bQ e]at hp;exact R.new p hp
 .rcases z with z|z
  .rw[tV z];exact h1
  .cases e:H p with
   |none=>rw[tV e];exact h1
   |some o=>rw[bQ e];exact hm _ z
def RR.freshO(i:Nat)(hm:∀k,inM m k->k=1\/k=i+2)(R:RR K G τ Y σ H lab)(s:aR H H')(r:Rp K (fpM m lab H) H' v d)(ht:aBx d=true->∃a,v= .ref a/\H a=none):
  ∃lab',RR K G τ Y σ H' lab'/\dg K H' lab' i v (.ow d):=by
 obtain⟨R',r'⟩:=R.fresh (P:=λ k=>k=1\/k=i+2) (.inl rfl) hm s r;cases hd:aBx d with
 |false=>exact⟨_,R',r',λ z=>absurd z (by simp[hd])⟩
 |true=>
  obtain⟨a,rfl,ha⟩:=ht hd;refine⟨λ p=>if p=a then(i+2,0)else cL H 1 lab p,?_,Rp.wk (λ p o e z=>?_) r',λ _=>⟨a,rfl,by show(if a=a then((i+2,0):Nat×Nat)else cL H 1 lab a).1=i+2;rw[if_pos rfl]⟩⟩
  .refine(R.relab (lab':=λ p=>if p=a then(i+2,0)else cL H 1 lab p) (λ p o e=>?_) λ p hp=>?_).up s
   .rw[if_neg (λ z=>by subst z;rw[ha]at e;cases e),bQ e]
   .by_cases z:p=a
    .subst z;exact R.old.free ha
    .rw[if_neg z]at hp;exact R'.new p hp
  .dsimp only
   by_cases q:p=a
   .rw[if_pos q];exact .inr rfl
   .rw[if_neg q];exact z
def RR.freshZ(i:Nat)(hm:∀k,inM m k->k<=1)(R:RR K G τ Y σ H lab)(s:aR H H')(r:Rp K (fpM m lab H) H' v (.lst ds))(ht:∃a,v= .ref a/\H a=none):
  ∃lab',RR K G τ Y σ H' lab'/\dg K H' lab' i v (.oz (.lst ds)):=by
 obtain⟨R',r'⟩:=R.fresh (P:=λ k=>k<=1) (zAL 1) hm s r;obtain⟨a,rfl,ha⟩:=ht;cases r' with
 |lst h mm rr=>
  rename_i xs;refine⟨λ p=>if p=a then(i+2,0)else cL H 1 lab p,?_,a,xs,ds,rfl,rfl,h,by dsimp only;rw[if_pos rfl],rr.wk λ p o e z=>?_⟩
  .refine(R.relab (lab':=λ p=>if p=a then(i+2,0)else cL H 1 lab p) (λ p o e=>?_) λ p hp=>?_).up s
   .rw[if_neg (λ z=>by subst z;rw[ha]at e;cases e),bQ e]
   .by_cases z:p=a
    .subst z;exact R.old.free ha
    .rw[if_neg z]at hp;exact R'.new p hp
  .dsimp only
   rw[if_neg z.2];exact z.1
def aGq(h:dg K H lab i v (.oz d)):Rp K (λ p=>(lab p).1<=1\/(lab p).1=i+2) H v d:=by
 obtain⟨a,xs,ds,rfl,rfl,h1,h2,h3⟩:=h;exact .lst h1 (.inr h2) (h3.wk λ p o e z=>⟨.inl z,λ q=>by subst q;lia⟩)
end
structure Ct where
 ι:Type
 X:ι->Cx
 prog:zAP
 w:World
 K:zAA
 mg:Str->Option Value
 base:Heap
 k:Nat
 G:Gx
 cx:∀i,(X i).prog=prog/\(X i).w=w/\(X i).K=K/\(X i).mg=mg/\(X i).base=base
 calm:∀i,(X i).calm=true
 room:∀i,dq k (X i).A
 own:∀i,zG1 (model (X i).prog (X i).w) (X i).A (X i).env (X i).xe
 pass:∀i,oJ (CX1 (X i).prog (X i).w) (X i) G.E
 dOk:Bool
 dcx:dOk=true->∀i,dJ (X i) G.E
def Ct.hK(C:Ct)(i:C.ι):(C.X i).K=C.K:=(C.cx i).2.2.1
def WR{α:Type}(G:Gx)(r:Rs α)(P:α->Prop):Prop:=match r with
 | .ok a=>P a
 | .ex c=>∀H',aR G.H0 H'->G.E (.ref (G.cl c)) none H'
 | .st=>False
theorem WR.bd(h:WR G (r.bd k) P):WR G r (λ a=>WR G (k a) P):=by
 cases r with
 |ok a=>exact h
 |ex c=>exact h
 |st=>exact h
def WR.imp(h:WR G r P)(f:∀a,r= .ok a->P a->P' a):WR G r P':=by
 cases r with
 |ok a=>exact f a rfl h
 |ex c=>exact h
 |st=>exact h
abbrev QE(K:zAA)(m:Mode)(lab:Lab)(H:Hp)(Q:VK):D->Prop:=λ d=>∀v H',aR H H'->Rp K (fpM m lab H) H' v d->Q v H'
abbrev QA(K:zAA)(m:Mode)(lab:Lab)(H:Hp)(Q:List V->Hp->Prop):List D->Prop:=λ ds=>∀vs H',aR H H'->Rps K (fpM m lab H) H' vs ds->Q vs H'
abbrev QT(H:Hp)(Q:Bool->Hp->Prop):Bool->Prop:=λ b=>∀H',aR H H'->Q b H'
def kO(K:zAA)(G:Gx)(m:Mode)(t:TE)(f:En->Rs D):Prop:=∀τ σ H Y lab (Q:VK),RR K G τ Y σ H lab->WR G (f Y) (QE K m lab H Q)->t σ H Q
def aG0(K:zAA)(G:Gx)(m:Mode)(t:TA)(f:En->Rs (List D)):Prop:=∀τ σ H Y lab (Q:List V->Hp->Prop),RR K G τ Y σ H lab->WR G (f Y) (QA K m lab H Q)->t σ H Q
def aCZ(K:zAA)(G:Gx)(t:TT)(f:En->Rs Bool):Prop:=∀τ σ H Y lab (Q:Bool->Hp->Prop),RR K G τ Y σ H lab->WR G (f Y) (QT H Q)->t σ H Q
def SE(C:Ct)(m:Mode)(e:Expr)(f:En->Rs D):Prop:=∃t,(∀i,PE (C.X i) e t)/\kO C.K C.G m t f
def SA(C:Ct)(m:Mode)(es:List Expr)(f:En->Rs (List D)):Prop:=∃t,(∀i,PA (C.X i) es t)/\aG0 C.K C.G m t f
def ST(C:Ct)(e:Expr)(f:En->Rs Bool):Prop:=∃t,(∀i,PT (C.X i) e t)/\aCZ C.K C.G t f
def SW(C:Ct)(e:Expr)(f:En->Rs Bool):Prop:=∃t,(∀i,PW (C.X i) e t)/\aCZ C.K C.G t f
def SW.st(h:SW C e f):ST C e f:=let⟨t,h1,h2⟩:=h;⟨t,λ i=>(h1 i).pt,h2⟩
def iu(i:Nat):En->Rs D:=λ Y=>match Y[i]? with
 |some (.sh d)=>.ok d
 |some (.nw d)=>.ok d
 |some (.ow d)=>.ok d
 |some (.oz d)=>.ok d
 |some (.o2 l)=>.ok (.lst (l.map .lst))
 |_=>.st
def aD(i:Nat):En->Rs D:=λ Y=>match Y[i]? with
 |some (.sh d)=>.ok d
 |some (.nw d)=>.ok d
 |_=>.st
def dz(i:Nat):En->Rs D:=λ Y=>match Y[i]? with
 |some (.nw d)=>.ok d
 |_=>.st
def zZ(i:Nat):En->Rs D:=λ Y=>match Y[i]? with
 |some (.ow d)=>.ok d
 |some (.o2 l)=>.ok (.lst (l.map .lst))
 |_=>.st
def cD(d:D):En->Rs D:=λ _=>.ok d
def aBJ{K:zAA}{H:Hp}{lab:Lab}{i:Nat}{v:V}{l:List (List D)}(h:dg K H lab i v (.o2 l)):Rp K (λ p=>(lab p).1=i+2) H v (.lst (l.map .lst)):=by
 obtain⟨a,xs,rfl,ha,hla,kX,hin⟩:=h;refine .lst ha (by rw[hla]) ?_;have go:∀(xs:List V) (l:List (List D)) (n:Nat),xs.length=l.length->0<n->(∀(j:Nat) x ds,xs[j]? =some x->l[j]? =some ds->Rp K (λ p=>lab p=(i+2,n+j)) H x (.lst ds))->Rps K (λ p=>(lab p).1=i+2/\p≠a) H xs (l.map .lst):=by
  intro xs;induction xs with
  |nil=>intro l n hl _ _;cases l with|nil=>exact .nil|cons _ _=>simp at hl
  |cons x xs ih=>
   intro l n hl hn h;cases l with
   |nil=>simp at hl
   |cons ds l=>
    refine .cons (Rp.wk (λ p o e z=>⟨by rw[z],λ e=>by rw[e,hla]at z;have z2:(0:Nat)=n+0:=congrArg zGt z;lia⟩) (h 0 x ds rfl rfl)) (ih l (n+1) (by simpa using hl) (by lia) λ j y es e1 e2=>?_);have z:=h (j+1) y es (by simpa using e1) (by simpa using e2);rw[show n+1+j=n+(j+1)by lia];exact z
 exact go xs l 1 kX (by lia) λ j x ds e1 e2=>by have z:=hin j x ds e1 e2;rw[show 1+j=j+1 by lia];exact z
section
variable{C:Ct}{pos:Pos}
def wN(K:zAA)(G:Gx)(i:Nat):kO K G (some [0,1,i+2]) (jN i) (iu i):=by
 intro τ σ H Y lab Q R W;unfold iu at W;cases e:Y[i]? with
 |none=>rw[e]at W;exact W.elim
 |some s=>
  rw[e]at W;rcases R.sl i s e with rfl|⟨v,ev,hv⟩
  .exact zAH W
  .cases s with
   |no=>exact zAH W
   |sh d=>exact⟨v,ev,W v H (aR.refl H) (Rp.wk (λ p o e z=>.inr (by show(lab p).1∈[0,1,i+2];rcases(show(lab p).1=0\/(lab p).1=1 by lia)with q|q<;>rw[q]<;>simp)) hv)⟩
   |nw d=>exact⟨v,ev,W v H (aR.refl H) (Rp.wk (λ p o e z=>.inr (by show(lab p).1∈[0,1,i+2];rw[z];simp)) hv)⟩
   |ow d=>exact⟨v,ev,W v H (aR.refl H) (Rp.wk (λ p o e z=>.inr (by show(lab p).1∈[0,1,i+2];rcases z with q|q<;>rw[q]<;>simp)) hv.1)⟩
   |oz d=>exact⟨v,ev,W v H (aR.refl H) (Rp.wk (λ p o e z=>.inr (by show(lab p).1∈[0,1,i+2];rcases(show(lab p).1=0\/(lab p).1=1\/(lab p).1=i+2 by lia)with q|q|q<;>rw[q]<;>simp)) (aGq hv))⟩
   |o2 l=>exact⟨v,ev,W v H (aR.refl H) (Rp.wk (λ p o e z=>.inr (by show(lab p).1∈[0,1,i+2];rw[z];simp)) (aBJ hv))⟩
def aCk(K:zAA)(G:Gx)(i:Nat):kO K G (some [0,1]) (jN i) (aD i):=by
 intro τ σ H Y lab Q R W;unfold aD at W;cases e:Y[i]? with
 |none=>rw[e]at W;exact W.elim
 |some s=>
  rw[e]at W;rcases R.sl i s e with rfl|⟨v,ev,hv⟩
  .exact zAH W
  .cases s with
   |sh d=>exact⟨v,ev,W v H (aR.refl H) (Rp.wk (λ p o e z=>.inr (by show(lab p).1∈[0,1];rcases(show(lab p).1=0\/(lab p).1=1 by lia)with q|q<;>rw[q]<;>simp)) hv)⟩
   |nw d=>exact⟨v,ev,W v H (aR.refl H) (Rp.wk (λ p o e z=>.inr (by show(lab p).1∈[0,1];rw[z];simp)) hv)⟩
   |_=>exact zAH W
def aCm(K:zAA)(G:Gx)(i:Nat):kO K G (some [1]) (jN i) (dz i):=by
 intro τ σ H Y lab Q R W;unfold dz at W;cases e:Y[i]? with
 |none=>rw[e]at W;exact W.elim
 |some s=>
  rw[e]at W;rcases R.sl i s e with rfl|⟨v,ev,hv⟩
  .exact zAH W
  .cases s with
   |nw d=>exact⟨v,ev,W v H (aR.refl H) (Rp.wk (λ p o e z=>.inr (by show(lab p).1∈[1];rw[z];simp)) hv)⟩
   |_=>exact zAH W
def aCl(K:zAA)(G:Gx)(i:Nat):kO K G (some [1,i+2]) (jN i) (zZ i):=by
 intro τ σ H Y lab Q R W;unfold zZ at W;cases e:Y[i]? with
 |none=>rw[e]at W;exact W.elim
 |some s=>
  rw[e]at W;rcases R.sl i s e with rfl|⟨v,ev,hv⟩
  .exact zAH W
  .cases s with
   |ow d=>exact⟨v,ev,W v H (aR.refl H) (Rp.wk (λ p o e z=>.inr (by show(lab p).1∈[1,i+2];rcases z with q|q<;>rw[q]<;>simp)) hv.1)⟩
   |o2 l=>exact⟨v,ev,W v H (aR.refl H) (Rp.wk (λ p o e z=>.inr (by show(lab p).1∈[1,i+2];rw[z];simp)) (aBJ hv))⟩
   |_=>exact zAH W
def sW(i:Nat)(hN:∀j,(C.X j).N[i]? =some x:=by intro _;rfl)(hv:∀j,Vis (C.X j).env.scope x:=by intro _;first|exact zBj rfl|exact zBG (zBj rfl)|exact zBG (zBG rfl))(hd:Nd x:=by decide)
  (hcd:(x==("__classdict__":Str))=false:=by decide):SE C (some [0,1,i+2]) (.Name x pos) (iu i):=⟨_,λ j=>dX (hN j) (hv j) hd hcd,wN _ _ i⟩
def aC(i:Nat)(hN:∀j,(C.X j).N[i]? =some x:=by intro _;rfl)(hv:∀j,Vis (C.X j).env.scope x:=by intro _;first|exact zBj rfl|exact zBG (zBj rfl)|exact zBG (zBG rfl))(hd:Nd x:=by decide)
  (hcd:(x==("__classdict__":Str))=false:=by decide):SE C (some [0,1]) (.Name x pos) (aD i):=⟨_,λ j=>dX (hN j) (hv j) hd hcd,aCk _ _ i⟩
def fH(i:Nat)(hN:∀j,(C.X j).N[i]? =some x:=by intro _;rfl)(hv:∀j,Vis (C.X j).env.scope x:=by intro _;first|exact zBj rfl|exact zBG (zBj rfl)|exact zBG (zBG rfl))(hd:Nd x:=by decide)
  (hcd:(x==("__classdict__":Str))=false:=by decide):SE C (some [1]) (.Name x pos) (dz i):=⟨_,λ j=>dX (hN j) (hv j) hd hcd,aCm _ _ i⟩
def aAs(i:Nat)(hN:∀j,(C.X j).N[i]? =some x:=by intro _;rfl)(hv:∀j,Vis (C.X j).env.scope x:=by intro _;first|exact zBj rfl|exact zBG (zBj rfl)|exact zBG (zBG rfl))(hd:Nd x:=by decide)
  (hcd:(x==("__classdict__":Str))=false:=by decide):SE C (some [1,i+2]) (.Name x pos) (zZ i):=⟨_,λ j=>dX (hN j) (hv j) hd hcd,aCl _ _ i⟩
def aJ:SE C (some []) (.Constant (.int i) j pos) (cD (.int i)):=⟨_,λ _=>aD0,λ τ σ H Y lab Q R W=>W _ H (aR.refl H) (.int i)⟩
def vP:SE C (some []) (.Constant (.bool b) j pos) (cD (.bl b)):=⟨_,λ _=>aD3,λ τ σ H Y lab Q R W=>W _ H (aR.refl H) (.bl b)⟩
def aHR:SE C (some []) (.Constant .none j pos) (cD .non):=⟨_,λ _=>aHd,λ τ σ H Y lab Q R W=>W _ H (aR.refl H) .non⟩
def cj:SE C (some []) (.Constant (.str x) j pos) (cD (.str x)):=⟨_,λ _=>eE,λ τ σ H Y lab Q R W=>W _ H (aR.refl H) (.str x)⟩
def ji(hm:C.mg x=some u)(r:RelV v u)(hd:∀A H,Rp C.K A H v d)(hdb:Nd x:=by decide)(hg:∀i,Gl (C.X i) x:=by intro _;rfl):SE C (some []) (.Name x pos) (cD d):=
 ⟨_,λ i=>dR (hg i) (by rw[(C.cx i).2.2.2.1];exact hm) r hdb,λ τ σ H Y lab Q R W=>W _ H (aR.refl H) (hd _ _)⟩
def qM(d:D):Rs D:=if imm d=true then .ok d else .st
def bV(f:En->Rs D):En->Rs D:=λ Y=>(f Y).bd qM
def bZ(h:SE C m e f):SE C (some []) e (bV f):=by
 obtain⟨t,h1,h2⟩:=h;refine⟨t,h1,λ τ σ H Y lab Q R W=>h2 τ σ H Y lab Q R (W.bd.imp λ d _ w v H' s r=>?_)⟩;unfold qM at w;by_cases hd:imm d=true
 .rw[if_pos hd]at w
  exact w v H' s (r.imm hd)
 .rw[if_neg hd]at w
  exact zAH w
def aG:En->Rs (List D):=λ _=>.ok []
def aA(f:En->Rs D)(g:En->Rs (List D)):En->Rs (List D):=λ Y=>(f Y).bd λ d=>(g Y).bd λ ds=>.ok (d::ds)
variable{m m1 m2:Mode}{e a b:Expr}{es:List Expr}{f fa fb:En->Rs D}{g:En->Rs (List D)}
def aF:SA C (some []) [] aG:=⟨_,λ _=>dF,λ τ σ H Y lab Q R W=>W _ H (aR.refl H) .nil⟩
def aB(h:SE C m1 e f)(hr:SA C m2 es g)(hs:∀i,zA2 (e::es) (C.X i).env=(false,eval e (C.X i).env)::zA2 es (C.X i).env:=by intro _;rfl):SA C (jn m1 m2) (e::es) (aA f g):=by
 obtain⟨t,h1,h2⟩:=h;obtain⟨u,k1,k2⟩:=hr;refine⟨_,λ i=>aX (h1 i) (k1 i) (hs i),λ τ σ H Y lab Q R W=>?_⟩;refine h2 τ σ H Y lab _ R (W.bd.imp λ d _ w x H1 s1 r1=>?_);refine k2 τ σ H1 Y lab _ (R.up s1) (w.bd.imp λ ds _ w xs H2 s2 r2=>?_);exact w (x::xs) H2 (s1.trans s2) (.cons (r1.mono s2 λ p o _ z=>aEQ z) (r2.wk λ p o _ z=>aEP (jT s1 z)))
def bC(g:En->Rs (List D)):En->Rs D:=λ Y=>(g Y).bd λ ds=>if ds.length<=zAN then .ok (.tup ds)else .st
def cM(g:En->Rs (List D)):En->Rs D:=λ Y=>(g Y).bd λ ds=>if ds.length<=zAN then .ok (.lst ds)else .st
def aY{x1}(h:SA C m es g):SE C m (.Tuple es x1 pos) (bC g):=by
 obtain⟨t,h1,h2⟩:=h;refine⟨_,λ i=>aFW (h1 i),λ τ σ H Y lab Q R W=>h2 τ σ H Y lab _ R (W.bd.imp λ ds _ w xs H1 s1 r1=>?_)⟩;by_cases hz:ds.length<=zAN
 .rw[if_pos hz]at w
  exact⟨by rw[r1.length];exact hz,λ p H' s hp _=>w _ H' (s1.trans s) (.tup (SqT.of hp) (r1.up s))⟩
 .rw[if_neg hz]at w
  exact zAH w
def dU(h:SA C m es g):SE C m (.List es pos) (cM g):=by
 obtain⟨t,h1,h2⟩:=h;refine⟨_,λ i=>mQ (h1 i),λ τ σ H Y lab Q R W=>h2 τ σ H Y lab _ R (W.bd.imp λ ds _ w xs H1 s1 r1=>?_)⟩;by_cases hz:ds.length<=zAN
 .rw[if_pos hz]at w
  exact⟨by rw[r1.length];exact hz,λ p H' s hp hn=>w _ H' (s1.trans s) (.lst hp (.inl (s1.free hn)) ((r1.wk λ q o e z=>⟨z,λ e'=>by subst e';rw[hn]at e;cases e⟩).up s))⟩
 .rw[if_neg hz]at w
  exact zAH w
def aJg(H:Hp)(v:V)(d:D):Prop:=aBx d=true->∃a,v= .ref a/\H a=none
def aIh(K:zAA)(G:Gx)(m:Mode)(t:TE)(f:En->Rs D):Prop:=∀τ σ H Y lab (Q:VK),RR K G τ Y σ H lab->WR G (f Y) (λ d=>∀v H',aR H H'->Rp K (fpM m lab H) H' v d->aJg H v d->Q v H')->t σ H Q
def SF(C:Ct)(m:Mode)(e:Expr)(f:En->Rs D):Prop:=∃t,(∀i,PE (C.X i) e t)/\aIh C.K C.G m t f
def kO.toF{K:zAA}{G:Gx}{t:TE}{f:En->Rs D}(h:kO K G (some []) t f):aIh K G (some []) t f:=λ τ σ H Y lab Q R W=>
 h τ σ H Y lab Q R (W.imp λ d _ w v H' s r=>w v H' s r λ hm=>by
  obtain⟨a,rfl⟩:=aHW r hm;obtain⟨o,_,_,z⟩:=aDA r hm;rcases z with z|z
  .exact⟨a,rfl,z⟩
  .cases z)
def aJu(h:SE C (some []) e f):SF C (some []) e f:=let⟨t,h1,h2⟩:=h;⟨t,h1,h2.toF⟩
def wQ(h:SA C m es g):SF C m (.List es pos) (cM g):=by
 obtain⟨t,h1,h2⟩:=h;refine⟨_,λ i=>mQ (h1 i),λ τ σ H Y lab Q R W=>h2 τ σ H Y lab _ R (W.bd.imp λ ds _ w xs H1 s1 r1=>?_)⟩;by_cases hz:ds.length<=zAN
 .rw[if_pos hz]at w
  exact⟨by rw[r1.length];exact hz,λ p H' s hp hn=>w _ H' (s1.trans s) (.lst hp (.inl (s1.free hn)) ((r1.wk λ q o e z=>⟨z,λ e'=>by subst e';rw[hn]at e;cases e⟩).up s)) λ _=>⟨p,rfl,s1.free hn⟩⟩
 .rw[if_neg hz]at w
  exact zAH w
def OpS(K:zAA)(r:R2)(fd:D->D->Rs D):Prop:=∀(A:Addr->Prop) x y d e H (Q:VK) z,Rp K A H x d->Rp K A H y e->fd d e= .ok z->(∀v H',aR H H'->Rp K (λ p=>H p=none\/A p) H' v z->Q v H')->r x y H Q
def qu(K:zAA)(r:List V->Hp->VK->Prop)(fd:List D->Rs D):Prop:=∀(A:Addr->Prop) xs ds H (Q:VK) z,Rps K A H xs ds->fd ds= .ok z->(∀v H',aR H H'->Rp K (λ p=>H p=none\/A p) H' v z->Q v H')->r xs H Q
def okD(r:Rs D):Rs D:=match r with
 | .ok d=>.ok d
 |_=>.st
def op2(fd:D->D->Rs D)(fa fb:En->Rs D):En->Rs D:=λ Y=>(fa Y).bd λ x=>(fb Y).bd λ y=>okD (fd x y)
def op1(fd:D->Rs D)(fa:En->Rs D):En->Rs D:=λ Y=>(fa Y).bd λ x=>okD (fd x)
def opA(fd:List D->Rs D)(fa:En->Rs (List D)):En->Rs D:=λ Y=>(fa Y).bd λ x=>okD (fd x)
theorem WR.okD(h:WR G (okD r) P):∃z,r= .ok z/\P z:=by
 cases r with
 |ok z=>exact⟨z,rfl,h⟩
 |ex c=>exact zAH h
 |st=>exact zAH h
def wO{K:zAA}{G:Gx}{r:R2}{ta tb:TE}{fd:D->D->Rs D}(hs:OpS K r fd)(h1:kO K G m1 ta fa)(h2:kO K G m2 tb fb):kO K G (jn m1 m2) (tOp r ta tb) (op2 fd fa fb):=by
 intro τ σ H Y lab Q R W;refine h1 τ σ H Y lab _ R (W.bd.imp λ d _ w x H1 s1 r1=>?_);refine h2 τ σ H1 Y lab _ (R.up s1) (w.bd.imp λ e _ w y H2 s2 r2=>?_);obtain⟨z,ez,w⟩:=w.okD;refine hs (fpM (jn m1 m2) lab H) x y d e H2 Q z (r1.mono s2 λ p o _ q=>aEQ q) (r2.wk λ p o _ q=>aEP (jT s1 q)) ez λ v H' s r=>w v H' ((s1.trans s2).trans s) (r.wk λ p o _ q=>?_)
 rcases q with q|q
 .exact .inl ((s1.trans s2).free q)
 .exact q
def aAp{K:zAA}{G:Gx}{r:List V->Hp->VK->Prop}{ta:TA}{fd:List D->Rs D}(hs:qu K r fd)(h1:aG0 K G m ta g):kO K G m (tCB r ta) (opA fd g):=by
 intro τ σ H Y lab Q R W;refine h1 τ σ H Y lab _ R (W.bd.imp λ d _ w x H1 s1 r1=>?_);obtain⟨z,ez,w⟩:=w.okD;refine hs (fpM m lab H) x d H1 Q z r1 ez λ v H' s r=>w v H' (s1.trans s) (r.wk λ p o _ q=>?_)
 rcases q with q|q
 .exact .inl (s1.free q)
 .exact q
def iI(h:SE C m e f)(hi:∀Y d,f Y= .ok d->imm d=true):SE C (some []) e f:=by
 obtain⟨t,h1,h2⟩:=h;exact⟨t,h1,λ τ σ H Y lab Q R W=>h2 τ σ H Y lab Q R (W.imp λ d ed w v H' s r=>w v H' s (r.imm (hi Y d ed)))⟩
def mZ(h:∀x y z,fd x y= .ok z->imm z=true)(e:op2 fd fa fb Y= .ok d):imm d=true:=by
 obtain⟨x,_,e⟩:=eG e;obtain⟨y,_,e⟩:=eG e;unfold okD at e;split at e
 .rename_i z hz
  cases e;exact h x y _ hz
 .cases e
def pH(h:∀x z,fd x= .ok z->imm z=true)(e:opA fd g Y= .ok d):imm d=true:=by
 obtain⟨x,_,e⟩:=eG e;unfold okD at e;split at e
 .rename_i z hz
  cases e;exact h x _ hz
 .cases e
def qZ(ro:∀i,OpR (C.X i) (zBg op) r)(hs:OpS C.K r fd)(ha:SE C m1 a fa)(hb:SE C m2 b fb):SE C (jn m1 m2) (.BinOp a op b pos) (op2 fd fa fb):=by
 obtain⟨t,h1,h2⟩:=ha;obtain⟨u,k1,k2⟩:=hb;exact⟨_,λ i=>aBE (ro i) (h1 i) (k1 i),wO hs h2 k2⟩
def aCs(ro:∀i,OpR (C.X i) (zBO op) r)(hs:OpS C.K r fd)(ha:SE C m1 a fa)(hb:SE C m2 b fb)(hm:zBk op b=false:=by first|exact aD8 _|(with_unfolding_all rfl)):
  SE C (jn m1 m2) (.Compare a [op] [b] pos) (op2 fd fa fb):=by
 obtain⟨t,h1,h2⟩:=ha;obtain⟨u,k1,k2⟩:=hb;exact⟨_,λ i=>aFX (ro i) (h1 i) (k1 i) hm,wO hs h2 k2⟩
variable{p:Pos}{x:Str}{id T:String}
def oX(ro:∀i,dw (C.X i) (.builtin id) r)(hs:qu C.K r fd)(hg:∀i,Gl (C.X i) x)(hm:C.mg x=none)(hv:zAn x=some (.builtin id))(ha:SA C m (e::es) g)
  (hn:x≠"__name__":=by decide)(hdb:Nd x:=by decide)(he:∀i,zA2 (e::es) (C.X i).env=(false,eval e (C.X i).env)::zA2 es (C.X i).env:=by intro _;rfl)
  (hpl:∀i,(zCI pos (zA2 es (C.X i).env)).any (·.1)=false:=by intro _;rfl):SE C m (.Call (.Name x p) (e::es) [] pos) (opA fd g):=by
 obtain⟨t,h1,h2⟩:=ha;exact⟨_,λ i=>o5 (ro i) (hg i) (by rw[(C.cx i).2.2.2.1];exact hm) hv (h1 i) hn hdb (he i) (hpl i),aAp hs h2⟩
def yM(ro:∀i,dw (C.X i) (.type T) r)(hs:qu C.K r fd)(hg:∀i,Gl (C.X i) x)(hm:C.mg x=none)(hv:zAn x=some (.type T))(ha:SA C m (e::es) g)
  (hn:x≠"__name__":=by decide)(hdb:Nd x:=by decide)(he:∀i,zA2 (e::es) (C.X i).env=(false,eval e (C.X i).env)::zA2 es (C.X i).env:=by intro _;rfl)
  (hpl:∀i,(zCI pos (zA2 es (C.X i).env)).any (·.1)=false:=by intro _;rfl):SE C m (.Call (.Name x p) (e::es) [] pos) (opA fd g):=by
 obtain⟨t,h1,h2⟩:=ha;exact⟨_,λ i=>mR (ro i) (hg i) (by rw[(C.cx i).2.2.2.1];exact hm) hv (h1 i) hn hdb (he i) (hpl i),aAp hs h2⟩
def aGY(f g:En->Rs D):En->Rs D:=λ Y=>(f Y).bd λ d=>match d with
 | .bl true=>g Y
 | .bl false=>.ok (.bl false)
 |_=>.st
def orD(f g:En->Rs D):En->Rs D:=λ Y=>(f Y).bd λ d=>match d with
 | .bl false=>g Y
 | .bl true=>.ok (.bl true)
 |_=>.st
def notD:D->Rs D
 | .bl b=>.ok (.bl (!b))
 |_=>.st
variable{rest:List Expr}
def zm{op}(h:SE C m a fa):SE C m (.BoolOp op [a] pos) fa:=by
 obtain⟨t,h1,h2⟩:=h;exact⟨_,λ i=>aHc (h1 i),h2⟩
def aCt(ha:SE C m1 a fa)(hb:SE C m2 (.BoolOp .And (b::rest) pos) fb):SE C m2 (.BoolOp .And (a::b::rest) pos) (aGY fa fb):=by
 obtain⟨t,h1,h2⟩:=ha;obtain⟨u,k1,k2⟩:=hb;refine⟨_,λ i=>aHh (h1 i) (k1 i),λ τ σ H Y lab Q R W=>h2 τ σ H Y lab _ R (W.bd.imp λ d _ w x H1 s1 r1=>?_)⟩;cases r1 with
 |bl c=>
  refine⟨c,rfl,?_⟩;cases c with
  |true=>
   rw[if_pos rfl];exact k2 τ σ H1 Y lab Q (R.up s1) (w.imp λ z _ w v H' s r=>w v H' (s1.trans s) (r.wk λ p o _ q=>jT s1 q))
  |false=>
   rw[if_neg zAT];exact w _ H1 s1 (.bl false)
 |_=>exact zAH w
def aJA(ha:SE C m1 a fa)(hb:SE C m2 (.BoolOp .Or (b::rest) pos) fb):SE C m2 (.BoolOp .Or (a::b::rest) pos) (orD fa fb):=by
 obtain⟨t,h1,h2⟩:=ha;obtain⟨u,k1,k2⟩:=hb;refine⟨_,λ i=>aJN (h1 i) (k1 i),λ τ σ H Y lab Q R W=>h2 τ σ H Y lab _ R (W.bd.imp λ d _ w x H1 s1 r1=>?_)⟩;cases r1 with
 |bl c=>
  refine⟨c,rfl,?_⟩;cases c with
  |false=>
   rw[if_neg zAT];exact k2 τ σ H1 Y lab Q (R.up s1) (w.imp λ z _ w v H' s r=>w v H' (s1.trans s) (r.wk λ p o _ q=>jT s1 q))
  |true=>
   rw[if_pos rfl];exact w _ H1 s1 (.bl true)
 |_=>exact zAH w
def ifD(c:En->Rs Bool)(f g:En->Rs D):En->Rs D:=λ Y=>(c Y).bd λ k=>if k=true then f Y else g Y
def aJB(hc:ST C c fc)(ha:SE C m1 a fa)(hb:SE C m2 b fb):SE C (jn m1 m2) (.IfExp c a b pos) (ifD fc fa fb):=by
 obtain⟨tc,c1,c2⟩:=hc;obtain⟨t,h1,h2⟩:=ha;obtain⟨u,k1,k2⟩:=hb;refine⟨_,λ i=>aD1 (c1 i) (h1 i) (k1 i),λ τ σ H Y lab Q R W=>c2 τ σ H Y lab _ R (W.bd.imp λ k _ w H1 s1=>?_)⟩;cases k with
 |true=>
  rw[if_pos rfl]at w ⊢;exact h2 τ σ H1 Y lab Q (R.up s1) (w.imp λ z _ w v H' s r=>w v H' (s1.trans s) (r.wk λ p o _ q=>aEQ (jT s1 q)))
 |false=>
  rw[if_neg zAT]at w ⊢;exact k2 τ σ H1 Y lab Q (R.up s1) (w.imp λ z _ w v H' s r=>w v H' (s1.trans s) (r.wk λ p o _ q=>aEP (jT s1 q)))
def aEn:D->Rs Bool
 | .non=>.ok false
 | .bl b=>.ok b
 | .int i=>.ok (i !=0)
 | .tup l=>.ok (!l.isEmpty)
 | .lst l=>.ok (!l.isEmpty)
 |_=>.st
def blD:D->Rs Bool
 | .bl b=>.ok b
 |_=>.st
def tst(f:En->Rs D):En->Rs Bool:=λ Y=>(f Y).bd aEn
def tsb(f:En->Rs D):En->Rs Bool:=λ Y=>(f Y).bd blD
def uH{K:zAA}{A:Addr->Prop}{H:Hp}{xs:List V}{ds:List D}(r:Rps K A H xs ds):(!ds.isEmpty)= !xs.isEmpty:=by cases r<;>rfl
def sU(ha:SE C m a fa)(he:∀i whole,isTrue a (C.X i).env whole=(do let v <-whole;zGS a.pos;zDL [v] (truthy v)):=by intro _ _;rfl):ST C a (tst fa):=by
 obtain⟨t,h1,h2⟩:=ha;refine⟨λ σ H Q=>t σ H λ x H'=>∃k,aIe C.K x H' k/\Q k H',λ i=>by rw[<-C.hK i];exact aDN (h1 i) (he i),λ τ σ H Y lab Q R W=>h2 τ σ H Y lab _ R (W.bd.imp λ d _ w x H1 s1 r1=>?_)⟩;cases r1 with
 |non=>exact⟨false,rfl,w H1 s1⟩
 |bl b=>exact⟨b,rfl,w H1 s1⟩
 |int i=>exact⟨i !=0,rfl,w H1 s1⟩
 |tup h r=>exact⟨_,.inr (.inl ⟨_,h,rfl⟩),by rw[<-uH r];exact w H1 s1⟩
 |lst h m r=>exact⟨_,.inl ⟨_,SqL.of h,rfl⟩,by rw[<-uH r];exact w H1 s1⟩
 |_=>exact zAH w
def aEy{K:zAA}{G:Gx}{t:TE}{f:En->Rs D}(h:kO K G m t f):aCZ K G (aGa t) (tsb f):=λ τ σ H Y lab Q R W=>h τ σ H Y lab _ R (W.bd.imp λ d _ w x H1 s1 r1=>by
 cases r1 with
 |bl b=>exact⟨b,rfl,w H1 s1⟩
 |_=>exact zAH w)
def nM(ro:∀i,OpR (C.X i) (zBO op) r)(hs:OpS C.K r fd)(ha:SE C m1 a fa)(hb:SE C m2 b fb)(hm:zBk op b=false:=by first|exact aD8 _|(with_unfolding_all rfl)):
  ST C (.Compare a [op] [b] pos) (tsb (op2 fd fa fb)):=by
 obtain⟨t,h1,h2⟩:=ha;obtain⟨u,k1,k2⟩:=hb;exact⟨_,λ i=>aFQ (ro i) (h1 i) (k1 i) hm,aEy (wO hs h2 k2)⟩
variable{ga gb:En->Rs Bool}
def aGW(f g:En->Rs Bool):En->Rs Bool:=λ Y=>(f Y).bd λ k=>if k=true then g Y else .ok false
def orT(f g:En->Rs Bool):En->Rs Bool:=λ Y=>(f Y).bd λ k=>if k=true then .ok true else g Y
def aF9(f:En->Rs Bool):En->Rs Bool:=λ Y=>(f Y).bd λ k=>.ok (!k)
def aEq(ha:ST C a ga):SW C (.BoolOp .And [a] pos) ga:=let⟨t,h1,h2⟩:=ha;⟨t,λ i=>aFP (h1 i),h2⟩
def zb(ha:ST C a ga):SW C (.BoolOp .Or [a] pos) ga:=let⟨t,h1,h2⟩:=ha;⟨t,λ i=>aDL (h1 i),h2⟩
def aCc(ha:ST C a ga)(hb:SW C (.BoolOp .And (b::rest) pos) gb):SW C (.BoolOp .And (a::b::rest) pos) (aGW ga gb):=by
 obtain⟨t,h1,h2⟩:=ha;obtain⟨u,k1,k2⟩:=hb;refine⟨_,λ i=>aH3 (h1 i) (k1 i),λ τ σ H Y lab Q R W=>h2 τ σ H Y lab _ R (W.bd.imp λ k _ w H1 s1=>?_)⟩;cases k with
 |true=>
  rw[if_pos rfl]at w ⊢;exact k2 τ σ H1 Y lab Q (R.up s1) (w.imp λ z _ w H' s=>w H' (s1.trans s))
 |false=>
  rw[if_neg zAT]at w ⊢;exact w H1 s1
def aAj(ha:ST C a ga)(hb:SW C (.BoolOp .Or (b::rest) pos) gb):SW C (.BoolOp .Or (a::b::rest) pos) (orT ga gb):=by
 obtain⟨t,h1,h2⟩:=ha;obtain⟨u,k1,k2⟩:=hb;refine⟨_,λ i=>aGm (h1 i) (k1 i),λ τ σ H Y lab Q R W=>h2 τ σ H Y lab _ R (W.bd.imp λ k _ w H1 s1=>?_)⟩;cases k with
 |false=>
  rw[if_neg zAT]at w ⊢;exact k2 τ σ H1 Y lab Q (R.up s1) (w.imp λ z _ w H' s=>w H' (s1.trans s))
 |true=>
  rw[if_pos rfl]at w ⊢;exact w H1 s1
def aCe(ha:ST C a ga):ST C (.UnaryOp .Not a pos) (aF9 ga):=by
 obtain⟨t,h1,h2⟩:=ha;exact⟨_,λ i=>aAA (h1 i),λ τ σ H Y lab Q R W=>h2 τ σ H Y lab _ R (W.bd.imp λ k _ w H1 s1=>w H1 s1)⟩
end
inductive Ou where
 |nx (Y:En)|rt (d:D)|bk (Y:En)|ct (Y:En)|ex (c:Str)|st
noncomputable def Rs.bo{α:Type}:Rs α->(α->Ou)->Ou
 | .ok a,f=>f a
 | .ex c,_=>.ex c
 | .st,_=>.st
@[simp] def dB(a:α)(f:α->Ou):(Rs.ok a).bo f=f a:=aM rfl
@[simp] def bo_ex(c:Str)(f:α->Ou):(Rs.ex c:Rs α).bo f= .ex c:=aM rfl
noncomputable def Ou.sq:Ou->(En->Ou)->Ou
 | .nx Y,f=>f Y
 |o,_=>o
@[simp] def bI(Y:En)(f:En->Ou):(Ou.nx Y).sq f=f Y:=aM rfl
@[simp] def sq_rt(d:D)(f:En->Ou):(Ou.rt d).sq f= .rt d:=aM rfl
@[simp] def sq_ex(c:Str)(f:En->Ou):(Ou.ex c).sq f= .ex c:=aM rfl
def WS(K:zAA)(G:Gx)(τ:List (V×D))(o:Ou)(De:Ends):Prop:=match o with
 | .nx Y=>∀σ H lab,RR K G τ Y σ H lab->De.nx σ H
 | .bk Y=>∀σ H lab,RR K G τ Y σ H lab->De.bk σ H
 | .ct Y=>∀σ H lab,RR K G τ Y σ H lab->De.ct σ H
 | .rt d=>∀v H,aR G.H0 H->Rp K (λ p=>G.H0 p=none) H v d->De.rt v H
 | .ex c=>∀H',aR G.H0 H'->G.E (.ref (G.cl c)) none H'
 | .st=>False
theorem WS.bo{K:zAA}(h:WS K G τ (r.bo k) De):WR G r (λ a=>WS K G τ (k a) De):=by
 cases r with
 |ok a=>exact h
 |ex c=>exact h
 |st=>exact h
def aJa(K:zAA)(G:Gx)(t:TS)(f:En->Ou):Prop:=∀τ σ H Y lab (De:Ends),RR K G τ Y σ H lab->WS K G τ (f Y) De->t De σ H
def SS(C:Ct)(s:Stmt)(f:En->Ou):Prop:=∃t,(∀i,PS (C.X i) s t)/\aJa C.K C.G t f
def SSs(C:Ct)(s:List Stmt)(f:En->Ou):Prop:=∃t,(∀i,PSs (C.X i) s t)/\aJa C.K C.G t f
section
variable{C:Ct}{pos:Pos}{s:Stmt}{ss:List Stmt}{f g:En->Ou}{e:Expr}{m:Mode}{fe:En->Rs D}
def cg:SSs C [] .nx:=⟨_,λ _=>rR,λ τ σ H Y lab De R W=>W σ H lab R⟩
def aa(f g:En->Ou):En->Ou:=λ Y=>(f Y).sq g
def aQ(h:SS C s f):SSs C [s] f:=let⟨t,h1,h2⟩:=h;⟨t,λ i=>iz (h1 i),h2⟩
def aK(h:SS C s f)(k:SSs C ss g):SSs C (s::ss) (aa f g):=by
 obtain⟨t,h1,h2⟩:=h;obtain⟨u,k1,k2⟩:=k;refine⟨_,λ i=>dW (h1 i) (k1 i),λ τ σ H Y lab De R W=>h2 τ σ H Y lab _ R ?_⟩;unfold aa at W;cases h:f Y with
 |nx Y'=>rw[h]at W;exact λ σ' H' lab' R'=>k2 τ σ' H' Y' lab' De R' W
 |rt d=>rw[h]at W;exact W
 |bk Y'=>rw[h]at W;exact W
 |ct Y'=>rw[h]at W;exact W
 |ex c=>rw[h]at W;exact W
 |st=>rw[h]at W;exact W
def frz(i:Nat)(Y:En):En:=match Y[i]? with
 |some (.ow d)=>Y.set i (.nw d)
 |some (.o2 l)=>Y.set i (.nw (.lst (l.map .lst)))
 |_=>Y
def aJU:Mode->Bool
 |some L=>L.all (·!=0)
 |none=>false
def retS(fe:En->Rs D):En->Ou:=λ Y=>(fe Y).bo .rt
def bY(he:SE C m e fe)(hm:aJU m=true:=by rfl):SS C (.Return (some e) pos) (retS fe):=by
 obtain⟨t,h1,h2⟩:=he;refine⟨_,λ i=>tH (h1 i),λ τ σ H Y lab De R W=>h2 τ σ H Y lab _ R (W.bo.imp λ d _ w v H' s r=>w v H' (R.old.trans s) (r.wk λ p o _ z=>?_))⟩;rcases z with z|z
 .exact R.old.free z
 .cases m with
  |none=>cases hm
  |some L=>
   refine R.new p λ e0=>?_
   have:=zBL.mp hm _ z
   rw[e0]at this;simp at this
def aE1(fe:En->Rs D):En->Ou:=λ Y=>(fe Y).bo λ _=>.nx Y
def aEu(he:SE C m e fe)(hs:∀i,zDN e none pos.line (C.X i).env=pure false:=by intro _;rfl):SS C (.Expr e pos) (aE1 fe):=by
 obtain⟨t,h1,h2⟩:=he;exact⟨_,λ i=>mO (h1 i) (hs i),λ τ σ H Y lab De R W=>h2 τ σ H Y lab _ R (W.bo.imp λ d _ w v H' s r=>w σ H' lab (R.up s))⟩
def ifS(c:En->Rs Bool)(f g:En->Ou):En->Ou:=λ Y=>(c Y).bo λ k=>if k=true then f Y else g Y
def fD{a b:List Stmt}(hc:ST C c fc)(ha:SSs C a f)(hb:SSs C b g):SS C (.If c a b pos) (ifS fc f g):=by
 obtain⟨tc,c1,c2⟩:=hc;obtain⟨t,h1,h2⟩:=ha;obtain⟨u,k1,k2⟩:=hb;refine⟨_,λ i=>aBC (c1 i) (h1 i) (k1 i),λ τ σ H Y lab De R W=>c2 τ σ H Y lab _ R (W.bo.imp λ k _ w H1 s1=>?_)⟩;cases k with
 |true=>rw[if_pos rfl]at w ⊢;exact h2 τ σ H1 Y lab De (R.up s1) w
 |false=>rw[if_neg zAT]at w ⊢;exact k2 τ σ H1 Y lab De (R.up s1) w
def SV(C:Ct)(i:Nat)(s:Stmt)(m:Mode)(f:En->Rs D):Prop:=∃t,(∀j,PS (C.X j) s (yF t (qi i)))/\kO C.K C.G m t f
def dh(he:SE C m e fe)(hN:∀j,(C.X j).N[i]? =some x:=by intro _;rfl)(hx:∀j,Loc (C.X j).env.scope x:=by intro _;first|exact zBj rfl|exact zBG rfl)(hs:∀j,zDN e (some (.Name x pos')) pos.line (C.X j).env=pure false:=by intro _;rfl)(hf:∀j,(C.X j).fn x=true\/(C.X j).env.scope.names.lookup x=some .local:=by intro _;first|exact .inl rfl|exact .inr rfl)(nd:∀j,(C.X j).N.Nodup:=by intro _;assumption):
  SV C i (.Assign [.Name x pos'] e pos) m fe:=by
 obtain⟨t,h1,h2⟩:=he;exact⟨t,λ j=>jm (nd j) (hN j) (hx j) (h1 j) (hs j) (hf j),h2⟩
def SVF(C:Ct)(i:Nat)(s:Stmt)(m:Mode)(f:En->Rs D):Prop:=∃t,(∀j,PS (C.X j) s (yF t (qi i)))/\aIh C.K C.G m t f
def yG(he:SF C m e fe)(hN:∀j,(C.X j).N[i]? =some x:=by intro _;rfl)(hx:∀j,Loc (C.X j).env.scope x:=by intro _;first|exact zBj rfl|exact zBG rfl)(hs:∀j,zDN e (some (.Name x pos')) pos.line (C.X j).env=pure false:=by intro _;rfl)(hf:∀j,(C.X j).fn x=true\/(C.X j).env.scope.names.lookup x=some .local:=by intro _;first|exact .inl rfl|exact .inr rfl)(nd:∀j,(C.X j).N.Nodup:=by intro _;assumption):
  SVF C i (.Assign [.Name x pos'] e pos) m fe:=by
 obtain⟨t,h1,h2⟩:=he;exact⟨t,λ j=>jm (nd j) (hN j) (hx j) (h1 j) (hs j) (hf j),h2⟩
def aBI(P:Nat->Bool):Mode->Bool
 |some L=>L.all P
 |none=>false
def jq(h:aBI P m=true):∀k,inM m k->P k=true:=by
 intro k hk;cases m with
 |none=>cases h
 |some L=>exact zBL.mp h k hk
abbrev okS:Mode->Bool:=aBI λ k=>decide (k<=1)
abbrev okN:Mode->Bool:=aBI λ k=>k==1
abbrev okO(i:Nat):Mode->Bool:=aBI λ k=>k==1||k==i+2
def bz(i:Nat)(fe:En->Rs D):En->Ou:=λ Y=>(fe Y).bo λ d=>.nx (Y.set i (.sh d))
def jg(i:Nat)(fe:En->Rs D):En->Ou:=λ Y=>(fe Y).bo λ d=>.nx (Y.set i (.nw d))
def uq(i:Nat)(fe:En->Rs D):En->Ou:=λ Y=>(fe Y).bo λ d=>.nx (Y.set i (.ow d))
def RR.shared{K:zAA}(hm:okS m=true)(R:RR K G τ Y σ H lab)(s:aR H H')(r:Rp K (fpM m lab H) H' v d):
  RR K G τ Y σ H' (cL H 1 lab)/\Rp K (λ p=>(cL H 1 lab p).1<=1) H' v d:=R.fresh (P:=λ k=>k<=1) (by decide) (λ k hk=>of_decide_eq_true (jq hm k hk)) s r
def bW{i:Nat}(h:SV C i s m fe)(hm:okS m=true:=by rfl):SS C s (bz i fe):=by
 obtain⟨t,h1,h2⟩:=h;refine⟨_,h1,λ τ σ H Y lab De R W=>h2 τ σ H Y lab _ R (W.bo.imp λ d _ w v H' s r=>?_)⟩;obtain⟨R',r'⟩:=R.shared hm s r;exact w _ _ _ (R'.put (s:=.sh d) r')
def jb(h:SV C i s m fe)(hm:okN m=true:=by rfl):SS C s (jg i fe):=by
 obtain⟨t,h1,h2⟩:=h;refine⟨_,h1,λ τ σ H Y lab De R W=>h2 τ σ H Y lab _ R (W.bo.imp λ d _ w v H' s r=>?_)⟩;obtain⟨R',r'⟩:=R.fresh (P:=λ k=>k=1) rfl (λ k hk=>beq_iff_eq.mp (jq hm k hk)) s r;exact w _ _ _ (R'.put (s:=.nw d) r')
def rO(h:SVF C i s m fe)(hm:okO i m=true:=by rfl):SS C s (uq i fe):=by
 obtain⟨t,h1,h2⟩:=h;refine⟨_,h1,λ τ σ H Y lab De R W=>h2 τ σ H Y lab _ R (W.bo.imp λ d _ w v H' s r ht=>?_)⟩;obtain⟨lab',R',r'⟩:=R.freshO i (λ k hk=>by have:=jq hm k hk;simpa using this) s r ht;exact w _ _ _ (R'.put (s:=.ow d) r')
def aCp(i:Nat)(fe:En->Rs D):En->Ou:=λ Y=>(fe Y).bo λ d=>match d with
 | .lst ds=>.nx (Y.set i (.oz (.lst ds)))
 |_=>.st
def aEr(h:SVF C i s m fe)(hm:okS m=true:=by rfl):SS C s (aCp i fe):=by
 obtain⟨t,h1,h2⟩:=h;refine⟨_,h1,λ τ σ H Y lab De R W=>h2 τ σ H Y lab _ R (W.bo.imp λ d _ w v H' s r ht=>?_)⟩;cases d with
 |lst ds=>
  obtain⟨lab',R',r'⟩:=R.freshZ i (λ k hk=>by have:=jq hm k hk;simpa using this) s r (ht rfl);exact w _ _ _ (R'.put (s:=.oz (.lst ds)) r')
 |_=>exact zAH w
def aIg(K:zAA)(G:Gx)(g:TG)(fg:D->En->Rs En):Prop:=∀τ v d σ H Y lab (Q:L2.St->Hp->Prop) Y',RR K G τ Y σ H lab->Rp K (λ p=>(lab p).1<=1) H v d->fg d Y= .ok Y'->(∀σ',RR K G τ Y' σ' H lab->Q σ' H)->g v σ H Q
def aJc(K:zAA)(G:Gx)(g:TGs)(fg:List D->En->Rs En):Prop:=∀τ vs ds σ H Y lab (Q:L2.St->Hp->Prop) Y',RR K G τ Y σ H lab->Rps K (λ p=>(lab p).1<=1) H vs ds->fg ds Y= .ok Y'->(∀σ',RR K G τ Y' σ' H lab->Q σ' H)->g vs σ H Q
def SG(C:Ct)(tg:Expr)(ks:List Nat)(fg:D->En->Rs En):Prop:=∃g,(∀i,PG (C.X i) tg g)/\aIg C.K C.G g fg/\wA g ks/\zW g
def SGs(C:Ct)(tg:List Expr)(ks:List Nat)(fg:List D->En->Rs En):Prop:=∃g,(∀i,PGs (C.X i) tg g)/\aJc C.K C.G g fg/\ul g ks/\qR g
def gnm(i:Nat):D->En->Rs En:=λ d Y=>.ok (Y.set i (.sh d))
def iw:List D->En->Rs En:=λ ds Y=>match ds with
 |[]=>.ok Y
 |_=>.st
def bJ(f:D->En->Rs En)(g:List D->En->Rs En):List D->En->Rs En:=λ ds Y=>match ds with
 |d::r=>(f d Y).bd (g r)
 |_=>.st
def iU(n:Nat)(g:List D->En->Rs En):D->En->Rs En:=λ d Y=>match d with
 | .tup ds=>if ds.length=n then g ds Y else .st
 |_=>.st
variable{ks:List Nat}{fg:D->En->Rs En}{fgs:List D->En->Rs En}{tg:Expr}{tgs:List Expr}
def bK(hN:∀j,(C.X j).N[i]? =some x:=by intro _;rfl)(hx:∀j,Loc (C.X j).env.scope x:=by intro _;first|exact zBj rfl|exact zBG rfl)(hf:∀j,(C.X j).fn x=true\/(C.X j).env.scope.names.lookup x=some .local:=by intro _;first|exact .inl rfl|exact .inr rfl)(nd:∀j,(C.X j).N.Nodup:=by intro _;assumption)(hk:i∈ks:=by decide):SG C (.Name x pos) ks (gnm i):=
 ⟨_,λ j=>aFV (nd j) (hN j) (hx j) (hf j),λ τ v d σ H Y lab Q Y' R r e q=>by cases e;exact q _ (R.put (s:=.sh d) r),aGC hk,aGE⟩
def gj:SGs C [] ks iw:=by
 refine⟨_,λ _=>aFU,λ τ vs ds σ H Y lab Q Y' R r e q=>?_,aGB,aGD⟩;cases r with
 |nil=>cases e;exact⟨rfl,q _ R⟩
 |cons _ _=>cases e
def bN(h:SG C tg ks fg)(k:SGs C tgs ks fgs)(hs:∀i,(zBt (tg::tgs) (C.X i).env).map (·.2)=zFJ tg (C.X i).env::(zBt tgs (C.X i).env).map (·.2):=by intro _;rfl):SGs C (tg::tgs) ks (bJ fg fgs):=by
 obtain⟨g,h1,h2,h3,h4⟩:=h;obtain⟨u,k1,k2,k3,k4⟩:=k;refine⟨_,λ i=>aDW (h1 i) (k1 i) (hs i),λ τ vs ds σ H Y lab Q Y' R r e q=>?_,aEK h3 h4 k3 k4,aEM h4 k4⟩;cases r with
 |nil=>cases e
 |cons h r=>
  obtain⟨Y1,e1,e2⟩:=eG e;exact⟨_,_,rfl,h2 τ _ _ σ H Y lab _ Y1 R h e1 λ σ1 R1=>k2 τ _ _ σ1 H Y1 lab Q Y' R1 r e2 q⟩
def je(h:SGs C tgs ks fgs)(hn:∀i,(zBt tgs (C.X i).env).length=n:=by intro _;rfl)(hst:∀i,(zBt tgs (C.X i).env).findIdx? (·.1)=none:=by intro _;rfl):SG C (.Tuple tgs k pos) ks (iU n fgs):=by
 obtain⟨u,k1,k2,k3,k4⟩:=h;refine⟨aGF C.K n u,λ i=>by rw[<-C.hK i];exact aH9 (C.calm i) (k1 i) (hn i) (hst i),λ τ v d σ H Y lab Q Y' R r e q=>?_,aIX k3,aIY k4⟩;cases r with
 |tup h r=>
  unfold iU at e;dsimp only at e;split at e
  .rename_i hl
   exact⟨_,_,rfl,h,by rw[r.length];exact hl,k2 τ _ _ σ H Y lab Q Y' R r e q⟩
  .cases e
 |_=>cases e
def ue(fe:En->Rs D)(fg:D->En->Rs En):En->Ou:=λ Y=>(fe Y).bo λ d=>match fg d Y with
 | .ok Y'=>.nx Y'
 |_=>.st
def wJ(he:SE C m e fe)(hg:SG C tg ks fg)(hm:okS m=true:=by rfl)(hs:∀i,zEl [tg] e pos.line (C.X i).env=pure false:=by intro _;rfl)(hw:∀i,zEk [tg] e (C.X i).env=pure none:=by intro _;rfl)
  (h1:∀i,(zBt [tg] (C.X i).env).map (·.2)=[zFJ tg (C.X i).env]:=by intro _;rfl):SS C (.Assign [tg] e pos) (ue fe fg):=by
 obtain⟨t,p1,p2⟩:=he;obtain⟨g,q1,q2,_,_⟩:=hg;refine⟨_,λ i=>aAB (p1 i) (q1 i) (hs i) (hw i) (h1 i),λ τ σ H Y lab De R W=>p2 τ σ H Y lab _ R (W.bo.imp λ d _ w v H' s r=>?_)⟩;obtain⟨R',r'⟩:=R.shared hm s r;cases hgd:fg d Y with
 |ok Y'=>rw[hgd]at w;exact q2 τ v d σ H' Y _ _ Y' R' r' hgd λ σ' R2=>w σ' H' _ R2
 |ex c=>rw[hgd]at w;exact zAH w
 |st=>rw[hgd]at w;exact zAH w
def JL(K:zAA)(lab:Lab)(J:It)(H:Hp)(ds:List D):Prop:=∀i,(ds.length<=i->J.stop i H)/\(i<ds.length->J.go i H/\∀x H',J.yld i H x H'->aR H H'/\∃d,ds[i]? =some d/\Rp K (λ p=>(lab p).1<=1) H' x d)
def aIf(K:zAA)(G:Gx)(wi:TI)(f:En->Rs (List D)):Prop:=∀τ σ H Y lab (Rr:It->Hp->Prop),RR K G τ Y σ H lab->
 WR G (f Y) (λ ds=>∀J H1 lab1 τ1,aR H H1->(∀p o,H p=some o->lab1 p=lab p)->RR K G (τ1++τ) Y σ H1 lab1->(∀lab' H',(∀q∈τ1,Rp K (λ p=>(lab' p).1<=1) H' q.1 q.2)->JL K lab' J H' ds)->Rr J H1)->wi σ H Rr
def SI(C:Ct)(tg iter:Expr)(f:En->Rs (List D)):Prop:=∃wi,(∀i,PI (C.X i) tg iter wi)/\aIf C.K C.G wi f
def aIW(K:zAA)(tl:TE):TI:=λ σ H R=>tl σ H λ x H1=>∃a,x= .ref a/\(((∃xs,SqL K H1 a xs)/\R (Itl K a) H1)\/((∃xs,SqT K H1 a xs)/\R (Itt K a) H1))
def aDU(hl:PE X l tl):PI X tg l (aIW X.K tl):=by
 intro kQ s σ H R I h;refine thn (hl kQ s σ H _ I h) λ v s1 ⟨x,H1,I1,r1,a,e,q1⟩=>?_
 subst e;cases r1;have hp:∀b∈[s1.heap.objs.size],rE X kQ H1 b:=λ b hb=>by
  have e:b=s1.heap.objs.size:=by simpa using hb
  rw[e];exact I1.fpOk (zAL _) (I1.hok.fresh (zAL _))
 rcases q1 with ⟨⟨xs,hq⟩,q⟩|⟨⟨xs,hq⟩,q⟩
 .obtain⟨its,rv,p,hz⟩:=I1.list hq
  refine wpAny_pyIter_list p.isList ?_;exact⟨_,_,_,_,H1,rfl,I1.kept (t':=s1.toks) λ b o e=>zAG _ e,aBd a _,⟨_,zAa _ rfl,rfl,rfl⟩,hp,q⟩
 .obtain⟨its,rv,p,hz⟩:=I1.tuple hq
  refine wpAny_pyIter_tuple (show s1.heap.IsTuple a its.toArray from p) ?_;exact⟨_,_,_,_,H1,rfl,I1.kept (t':=s1.toks) λ b o e=>zAG _ e,z6 a _,⟨_,zAa _ rfl,rfl,rfl⟩,hp,q⟩
def itD:D->Rs (List D)
 | .tup l=>.ok l
 | .lst l=>.ok l
 | .scr l=>.ok (l.map .int)
 |_=>.st
def gm(fe:En->Rs D):En->Rs (List D):=λ Y=>(fe Y).bd itD
def aBQ{K:zAA}(h:SqL K H a xs)(r:Rps K (λ p=>(lab p).1<=1) H xs ds):JL K lab (Itl K a) H ds:=by
 have hl:=r.length;refine λ i=>⟨λ hi=>⟨xs,h,by lia⟩,λ hi=>⟨⟨xs,xs[i]'(by lia),h,by simp[hl,hi]⟩,λ x H' y=>?_⟩⟩
 obtain⟨e,y⟩:=y;subst e;obtain⟨d,h1,h2⟩:=r.get (y xs h);exact⟨aR.refl _,d,h1,h2⟩
def aIP{K:zAA}(h:SqT K H a xs)(r:Rps K (λ p=>(lab p).1<=1) H xs ds):JL K lab (Itt K a) H ds:=by
 have hl:=r.length;refine λ i=>⟨λ hi=>⟨xs,h,by lia⟩,λ hi=>⟨⟨xs,xs[i]'(by lia),h,by simp[hl,hi]⟩,λ x H' y=>?_⟩⟩
 obtain⟨e,y⟩:=y;subst e;obtain⟨d,h1,h2⟩:=r.get (y xs h);exact⟨aR.refl _,d,h1,h2⟩
def jG(he:SE C m e fe)(hm:okS m=true:=by rfl):SI C tg e (gm fe):=by
 obtain⟨t,p1,p2⟩:=he;refine⟨aIW C.K t,λ i=>by rw[<-C.hK i];exact aDU (p1 i),λ τ σ H Y lab Rr R W=>p2 τ σ H Y lab _ R (W.bd.imp λ d _ w v H1 s r=>?_)⟩;obtain⟨R',r'⟩:=R.shared hm s r;cases d with
 |tup l=>
  cases r' with
  |tup h q=>
   rename_i a xs;refine⟨_,rfl,.inr ⟨⟨_,h⟩,w _ H1 _ [(.ref a,.tup l)] s (λ p o e=>bQ e) ⟨R'.len,R'.sl,R'.old,R'.new,λ z hz=>?_⟩ λ lab' H' hq=>?_⟩⟩
   .rcases zAX.mp hz with rfl|hz
    .exact .tup h q
    .exact R'.tm z hz
   .have z:=hq _ (zAD ..)
    cases z with
    |tup h' q'=>exact aIP h' q'
 |lst l=>
  cases r' with
  |lst h mm q=>
   rename_i a xs;refine⟨_,rfl,.inl ⟨⟨_,SqL.of h⟩,w _ H1 _ [(.ref a,.lst l)] s (λ p o e=>bQ e) ⟨R'.len,R'.sl,R'.old,R'.new,λ z hz=>?_⟩ λ lab' H' hq=>?_⟩⟩
   .rcases zAX.mp hz with rfl|hz
    .exact .lst h mm q
    .exact R'.tm z hz
   .have z:=hq _ (zAD ..)
    cases z with
    |lst h' _ q'=>exact aBQ (SqL.of h') (q'.wk λ _ _ _ z=>z.1)
 |scr l=>
  cases r' with
  |scr h=>
   rename_i a;refine⟨_,rfl,.inl ⟨⟨_,h.sq⟩,w _ H1 _ [(.ref a,.scr l)] s (λ p o e=>bQ e) ⟨R'.len,R'.sl,R'.old,R'.new,λ z hz=>?_⟩ λ lab' H' hq=>?_⟩⟩
   .rcases zAX.mp hz with rfl|hz
    .exact .scr h
    .exact R'.tm z hz
   .have z:=hq _ (zAD ..)
    cases z with
    |scr h'=>exact aBQ h'.sq Rps.ints
 |_=>exact zAH w
end
section
variable{C:Ct}{pos:Pos}{s:Stmt}{ss:List Stmt}{f:En->Ou}{e a b:Expr}{es:List Expr}{m:Mode}{fa:En->Rs D}{ks:List Nat}{fg:D->En->Rs En}{tg:Expr}{fi:En->Rs (List D)}{ga:En->Rs (List D)}
def gk(lo hi:Int):List D:=(zAj (hi-lo).toNat).map λ(k:Nat)=>.int (lo+(k:Int))
def lG:List D->Rs (List D)
 |[.int j]=>if -(2^62)<=j/\j<2^62 then .ok (gk 0 j)else .st
 |_=>.st
def km(r:List D->Rs (List D))(ga:En->Rs (List D)):En->Rs (List D):=λ Y=>(ga Y).bd r
def aIQ{K:zAA}{lo hi:Int}:JL K lab (Itr lo (hi-lo).toNat) H (gk lo hi):=by
 have hl:(gk lo hi).length=(hi-lo).toNat:=by unfold gk;simp
 refine λ i=>⟨λ h=>by show(hi-lo).toNat<=i;lia,λ h=>⟨by show i<(hi-lo).toNat;lia,λ x H' y=>?_⟩⟩
 obtain⟨e,rfl⟩:=y;subst e;refine⟨aR.refl _,.int (lo+i),?_,.int _⟩;unfold gk;rw[zAW,zDv (by lia)];rfl
def mH(ha:SA C m [a] ga)(hm:C.mg "range"=none)(hs:∀i,zA2 [a] (C.X i).env=[(false,eval a (C.X i).env)]:=by intro _;rfl)(hg:∀i,Gl (C.X i) "range":=by intro _;rfl):SI C tg (.Call (.Name "range" p) [a] [] pos) (km lG ga):=by
 obtain⟨t,h1,h2⟩:=ha;refine⟨_,λ i=>aBu (hg i) (by rw[(C.cx i).2.2.2.1];exact hm) (h1 i) (hs i),λ τ σ H Y lab Rr R W=>h2 τ σ H Y lab _ R (W.bd.imp λ ds _ w vs H1 s r=>?_)⟩;unfold lG at w;split at w
 .rename_i j _
  split at w
  .rename_i hj
   cases r with
   |cons h r=>
    cases h;cases r;refine⟨j,rfl,hj.1,hj.2,?_⟩;have z:=w (Itr 0 (j-0).toNat) H1 lab [] s (λ _ _ _=>rfl) (R.up s) λ lab' H' _=>aIQ
    rwa [Int.sub_zero]at z
  .exact zAH w
 .exact zAH w
def forL(fg:D->En->Rs En)(b:En->Ou):List D->En->Ou
 |[],Y=>.nx Y
 |d::ds,Y=>match fg d Y with
  | .ok Y1=>match b Y1 with
   | .nx Y2=>forL fg b ds Y2
   | .ct Y2=>forL fg b ds Y2
   | .bk Y2=>.nx Y2
   |o=>o
  |_=>.st
def ju(fi:En->Rs (List D))(fg:D->En->Rs En)(b:En->Ou):En->Ou:=λ Y=>(fi Y).bo λ ds=>forL fg b ds Y
def jc(hi:SI C tg e fi)(hg:SG C tg ks fg)(hb:SSs C ss f)(hs:∀i,∀x,zCP e (C.X i).env x=pure x:=by intro _ _;rfl):SS C (.For tg e ss [] pos) (ju fi fg f):=by
 obtain⟨wi,i1,i2⟩:=hi;obtain⟨gg,g1,g2,_,g4⟩:=hg;obtain⟨tb,b1,b2⟩:=hb;refine⟨_,λ i=>aDR (C.own i) (C.calm i) (i1 i) (g1 i) (b1 i) (hs i),λ τ σ H Y lab De R W=>i2 τ σ H Y lab _ R (W.bo.imp λ ds _ w J H1 lab1 τ1 s1 _ R1 jl=>?_)⟩;refine⟨λ i n σ' H'=>∃Y' lab',RR C.K C.G (τ1++τ) Y' σ' H' lab'/\n=ds.length-i/\i<=ds.length/\WS C.K C.G τ (forL fg f (ds.drop i) Y') De,⟨ds.length,Y,lab1,R1,by lia,by lia,w⟩,?_⟩;rintro i n σ' H' ⟨Y',lab',R',rfl,hi,w'⟩;have jj:=jl lab' H' λ q hq=>R'.tm q (zAQ _ hq)
 by_cases hlt:i<ds.length
 .obtain⟨go,yl⟩:=(jj i).2 hlt
  refine .inr ⟨go,λ σ2 H2=>∃Y2 lab2,RR C.K C.G (τ1++τ) Y2 σ2 H2 lab2/\WS C.K C.G τ (forL fg f (ds.drop (i+1)) Y2) De,λ σ2 H2 ⟨Y2,lab2,R2,w2⟩=>⟨ds.length-(i+1),by lia,Y2,lab2,R2,rfl,hlt,w2⟩,λ x H2 hy=>?_⟩;obtain⟨s2,d,ed,rx⟩:=yl x H2 hy;replace R':=R'.up s2;have ed2:ds.drop i=d::ds.drop (i+1):=by
   rw[zBA hlt]
   have:=zAR hlt
   rw[ed]at this;cases this;rfl
  rw[ed2]at w';unfold forL at w';cases eg:fg d Y' with
  |ex c=>rw[eg]at w';exact zAH w'
  |st=>rw[eg]at w';exact zAH w'
  |ok Y1=>
   rw[eg]at w';refine g2 (τ1++τ) x d σ' H2 Y' lab' _ Y1 R' rx eg λ σ1 R1'=>b2 (τ1++τ) σ1 H2 Y1 lab' _ R1' ?_
   dsimp only at w';cases eb:f Y1 with
   |nx Y2=>rw[eb]at w';exact λ σ2 H3 lab2 R2=>⟨Y2,lab2,R2,w'⟩
   |ct Y2=>rw[eb]at w';exact λ σ2 H3 lab2 R2=>⟨Y2,lab2,R2,w'⟩
   |bk Y2=>rw[eb]at w';exact λ σ2 H3 lab2 R2=>w' σ2 H3 lab2 R2.drop
   |rt d=>rw[eb]at w';exact w'
   |ex c=>rw[eb]at w';exact w'
   |st=>rw[eb]at w';exact w'
 .have e:i=ds.length:=by lia
  subst e;rw[zCk]at w';exact .inl ⟨(jj _).1 (zAL _),w' σ' H' lab' R'.drop⟩
def itW(c:En->Rs Bool)(b:En->Ou):Nat->En->Ou
 |0,_=>.st
 |n+1,Y=>(c Y).bo λ k=>if k=true then(match b Y with
   | .nx Y2=>itW c b n Y2
   | .ct Y2=>itW c b n Y2
   | .bk Y2=>.nx Y2
   |o=>o)else .nx Y
def fuel:Nat:=1000000
def lB(c:En->Rs Bool)(b:En->Ou):En->Ou:=itW c b fuel
def yK(hc:ST C c fc)(hb:SSs C ss f):SS C (.While c ss [] pos) (lB fc f):=by
 obtain⟨tc,c1,c2⟩:=hc;obtain⟨tb,b1,b2⟩:=hb;refine⟨_,λ i=>aDO (C.own i) (c1 i) (b1 i),λ τ σ H Y lab De R W=>?_⟩;refine⟨λ n σ' H'=>∃Y' lab',RR C.K C.G τ Y' σ' H' lab'/\WS C.K C.G τ (itW fc f n Y') De,⟨fuel,Y,lab,R,W⟩,?_⟩;rintro n σ' H' ⟨Y',lab',R',w'⟩;cases n with
 |zero=>exact zAH w'
 |succ n=>
  refine c2 τ σ' H' Y' lab' _ R' (WS.bo (show WS C.K C.G τ ((fc Y').bo _) De from w') |>.imp λ k _ w H1 s1=>?_);cases k with
  |false=>
   rw[if_neg zAT]at w ⊢;exact w σ' H1 lab' (R'.up s1)
  |true=>
   rw[if_pos rfl]at w ⊢;refine⟨λ σ2 H2=>∃Y2 lab2,RR C.K C.G τ Y2 σ2 H2 lab2/\WS C.K C.G τ (itW fc f n Y2) De,λ σ2 H2 ⟨Y2,lab2,R2,w2⟩=>⟨n,zEc n,Y2,lab2,R2,w2⟩,?_⟩;refine b2 τ σ' H1 Y' lab' _ (R'.up s1) ?_;cases eb:f Y' with
   |nx Y2=>rw[eb]at w;exact λ σ2 H3 lab2 R2=>⟨Y2,lab2,R2,w⟩
   |ct Y2=>rw[eb]at w;exact λ σ2 H3 lab2 R2=>⟨Y2,lab2,R2,w⟩
   |bk Y2=>rw[eb]at w;exact w
   |rt d=>rw[eb]at w;exact w
   |ex c=>rw[eb]at w;exact w
   |st=>rw[eb]at w;exact w
def wZ(x:Str)(ga:En->Rs (List D)):En->Ou:=λ Y=>(ga Y).bo λ ds=>if ds.length<=zAN then .ex x else .st
def aCg{rest:List Expr}(hd:C.dOk=true)(hm:C.mg x=some (.ref Ca))(hcl:C.G.cl x=Ca)(hC:bx C.K Ca)(ha:SA C m (y9::rest) ga)(he:∀i,zA2 (y9::rest) (C.X i).env=(false,eval y9 (C.X i).env)::zA2 rest (C.X i).env:=by intro _;rfl)(hplain:∀i,(zCI cpos (zA2 rest (C.X i).env)).any (·.1)=false:=by intro _;rfl)(hdb:Nd x:=by decide)(hg:∀i,Gl (C.X i) x:=by intro _;rfl):SS C (.Raise (some (.Call (.Name x np) (y9::rest) [] cpos)) none pos) (wZ x ga):=by
 obtain⟨t,h1,h2⟩:=ha;refine⟨_,λ i=>aDQ (C.dcx hd i) (C.calm i) (by rw[(C.cx i).2.2.2.1];exact hm) (by rw[C.hK i];exact hC) (hg i) (h1 i) (he i) (hplain i) hdb,λ τ σ H Y lab De R W=>h2 τ σ H Y lab _ R (W.bo.imp λ ds _ w vs H1 s r=>?_)⟩;by_cases hz:ds.length<=zAN
 .rw[if_pos hz]at w
  refine⟨by rw[r.length];exact hz,?_⟩
  have:=w H1 (R.old.trans s)
  rwa [hcl]at this
 .rw[if_neg hz]at w
  exact zAH w
def spF(K:zAA)(cl:Str->Addr)(n:Nat)(F:List D->Rs D):Sp:=λ vs H Q E=>∃ds,vs.length=n/\Rps K (λ _=>True) H vs ds/\WR ⟨H,E,cl⟩ (F ds) (λ d=>∀v H',aR H H'->Rp K (λ p=>H p=none) H' v d->Q v H')
def aW(F:List D->Rs D)(ga:En->Rs (List D)):En->Rs D:=λ Y=>(ga Y).bd F
def aCn{K:zAA}(hn:∀Y ds,ga Y= .ok ds->ds.length=n)(h:aG0 K G m t ga):kO K G (some []) (yE (spF K G.cl n F) [] G.E t) (aW F ga):=by
 intro τ σ H Y lab Q R W;refine h τ σ H Y lab _ R (W.bd.imp λ ds eds w vs H1 s r=>⟨ds,by rw[zAb,r.length];exact hn Y ds eds,by rw[zAb];exact r.wk λ _ _ _ _=>trivial,?_⟩);cases hF:F ds with
 |ok d=>
  rw[hF]at w;exact λ v H' s' r'=>w v H' (s.trans s') (r'.wk λ p o _ z=>.inl (s.free z))
 |ex c=>rw[hF]at w;exact λ H' s'=>w H' ((R.old.trans s).trans s')
 |st=>rw[hF]at w;exact w
variable{k:Nat}{fn:Addr}{fd:zAh}{ps:List Str}{x:Str}{p:Pos}{F:List D->Rs D}{n:Nat}
def aFF(hF:dH C.prog C.w C.K C.mg C.base (CX1 C.prog C.w) k fn fd ps (spF C.K C.G.cl n F))(hr:k<=C.k)(hm:C.mg x=some (.ref fn))(hk:zBR C.K (.ref fn)=true)(hb:Binds C.K fd ps [])(ha:SA C m (e::es) ga)(hn:∀Y ds,ga Y= .ok ds->ds.length=n)(hdb:Nd x:=by decide)(he:∀i,zA2 (e::es) (C.X i).env=(false,eval e (C.X i).env)::zA2 es (C.X i).env:=by intro _;rfl)(hpl:∀i,(zCI pos (zA2 es (C.X i).env)).any (·.1)=false:=by intro _;rfl)(hg:∀i,Gl (C.X i) x:=by intro _;rfl):SE C (some []) (.Call (.Name x p) (e::es) [] pos) (aW F ga):=by
 obtain⟨t,h1,h2⟩:=ha;refine⟨_,λ i=>?_,aCn hn h2⟩;obtain⟨e1,e2,e3,e4,e5⟩:=C.cx i;refine aFY (CX:=CX1 (C.X i).prog (C.X i).w) (by rw[e1,e2,e3,e4,e5];exact hF) ((C.room i).mono hr) (hg i) (by rw[e4];exact hm) (by rw[e3];exact hk) (by rw[e3];exact hb) .nil (C.pass i) (h1 i) hdb (he i) (hpl i)
def aFh(h:aG Y= .ok ds):ds.length=0:=by cases h;rfl
def aDk(h:∀Y ds,ga Y= .ok ds->ds.length=n):∀Y ds,aA fa ga Y= .ok ds->ds.length=n+1:=λ Y ds e=>by
 obtain⟨d,_,e⟩:=eG e;obtain⟨r,er,e⟩:=eG e;cases e;rw[zAS,h Y r er]
end
def az(mg:Str->Option Value):Str->Addr:=λ x=>match mg x with
 |some (.ref a)=>a
 |_=>0
abbrev ctD(P:zAP)(w:World)(K:zAA)(mg:Str->Option Value)(base:Heap)(N:List Str)(q:Str)(sc:Scope)(f:Addr)(cdv:Value)(A:zA7)(outer:List Env)(s:zAB)(H:Hp)(E:XK)(k:Nat)(hr:dq k (A.deeper (zCV q sc s.heap.objs.size f cdv))):Ct where
 ι:=Unit
 X:=λ _=>rC (CX1 P w) P w K mg base N q sc f cdv A outer s H E
 prog:=P
 w:=w
 K:=K
 mg:=mg
 base:=base
 k:=k
 G:=⟨H,E,az mg⟩
 cx:=λ _=>⟨rfl,rfl,rfl,rfl,rfl⟩
 calm:=λ _=>rfl
 room:=λ _=>hr
 own:=λ _=>dJ.own dJ.of
 pass:=λ _=>dJ.pass dJ.of
 dOk:=true
 dcx:=λ _ _=>dJ.of
def bG(n:Nat)(ds:List D):En:=ds.map .sh++zAO (n-ds.length) .no
def fu(n:Nat)(f:En->Ou):List D->Rs D:=λ ds=>match f (bG n ds)with
 | .nx _=>.ok .non
 | .rt d=>.ok d
 | .ex c=>.ex c
 |_=>.st
theorem RR.start{K:zAA}(r:Rps K (λ _=>True) H vs ds):RR K ⟨H,E,cl⟩ [] (bG N.length ds) (start N vs) H (λ _=>(0,0)):=by
 have hl:=r.length;refine⟨by unfold bG L2.start;simp[hl],λ i s e=>?_,aR.refl H,λ p hp=>absurd rfl hp,λ q hq=>by cases hq⟩;unfold bG at e;by_cases hi:i<ds.length
 .rw[zDK (by simpa using hi),zAW]at e
  cases ed:ds[i]? with
  |none=>rw[ed]at e;cases e
  |some d=>
   rw[ed]at e;cases e;obtain⟨x,ex,rx⟩:=r.getD ed;refine .inr ⟨x,?_,rx.wk λ _ _ _ _=>zAc _⟩;unfold L2.start;rw[zDK (by simpa[hl]using hi),zAW,ex];rfl
 .rw[zDE (by simpa using hi),zFS]at e
  split at e
  .cases e;exact .inl rfl
  .cases e
section
variable{P:zAP}{w:World}{K:zAA}{mg:Str->Option Value}{base:Heap}
def aI1{x q:Str}{st:Stmt}(F:L2.Fun K x q st fn fd)(S:bA N ps (aH st))
  (hb:∀cdv A outer s H E hr,SSs (ctD P w K mg base N q (aH st) fn cdv A outer s H E k hr) (cI st) f):
  dH P w K mg base (CX1 P w) (k+1) fn fd ps (spF K (az mg) ps.length (fu N.length f)):=by
 refine F.okX S (λ vs H Q E ⟨ds,hl,_⟩=>hl) λ cdv A outer s H vs Q E hr ⟨ds,hl,r,W⟩=>?_
 obtain⟨t,h1,h2⟩:=hb cdv A outer s H E hr;refine⟨t,h1 (),h2 [] _ H _ _ _ (RR.start r) ?_⟩;unfold fu at W;cases e:f (bG N.length ds)with
 |nx Y=>rw[e]at W;exact λ σ' H' lab R=>W .non H' R.old .non
 |rt d=>rw[e]at W;exact λ v H' s r=>W v H' s r
 |ex c=>rw[e]at W;exact W
 |bk Y=>rw[e]at W;exact zAH W
 |ct Y=>rw[e]at W;exact zAH W
 |st=>rw[e]at W;exact zAH W
def aGH{st:Stmt}(F:L2.Fun K x q st fn fd)(S:bA N ps (aH st))
  (hb:∀cdv A outer s H E hr,SSs (ctD P w K mg base N q (aH st) fn cdv A outer s H E k hr) (cI st) f)(hn:ps.length=n)(hF:fu N.length f=FF):
  dH P w K mg base (CX1 P w) (k+1) fn fd ps (spF K (az mg) n FF):=by
 subst hn hF;exact aI1 F S hb
end
def OpR.or(h:OpR X f r)(h':OpR X f r'):OpR X f (λ x y H Q=>r x y H Q\/r' x y H Q):=by
 intro kQ s σ H x y v u Q I rx ry q;rcases q with q|q
 .exact h kQ s σ H x y v u Q I rx ry q
 .exact h' kQ s σ H x y v u Q I rx ry q
def OpS.or{K:zAA}(h:OpS K r fd)(h':OpS K r' fd'):OpS K (λ x y H Q=>r x y H Q\/r' x y H Q) (λ d e=>match fd d e with
  | .ok z=>.ok z
  |_=>fd' d e):=by
 intro A x y d e H Q z rx ry ez q;dsimp only at ez;cases hd:fd d e with
 |ok w=>rw[hd]at ez;cases ez;exact .inl (h A x y d e H Q _ rx ry hd q)
 |ex c=>rw[hd]at ez;exact .inr (h' A x y d e H Q z rx ry ez q)
 |st=>rw[hd]at ez;exact .inr (h' A x y d e H Q z rx ry ez q)
section
variable{K:zAA}
def i2(p:Int->Int->Bool)(g:Int->Int->D):D->D->Rs D
 | .int i,.int j=>if p i j=true then .ok (g i j)else .st
 |_,_=>.st
def aAF{g:Int->Int->Int}(hp:∀i j,p i j=true->c i j):OpS K (rI c λ i j=>.int (g i j)) (i2 p λ i j=>.int (g i j)):=by
 intro A x y d e H Q z rx ry ez q;unfold i2 at ez;split at ez
 .rename_i i j
  split at ez
  .rename_i h
   cases ez;obtain rfl:=rx.int_inv;obtain rfl:=ry.int_inv;exact⟨i,j,rfl,rfl,hp i j h,q _ H (aR.refl H) (.int _)⟩
  .cases ez
 .cases ez
def aF1{g:Int->Int->Int}:OpS K (rI0 λ i j=>.int (g i j)) (i2 (λ _ _=>true) λ i j=>.int (g i j)):=by
 intro A x y d e H Q z rx ry ez q;unfold i2 at ez;split at ez
 .rename_i i j
  cases ez;obtain rfl:=rx.int_inv;obtain rfl:=ry.int_inv;exact⟨i,j,rfl,rfl,q _ H (aR.refl H) (.int _)⟩
 .cases ez
def wj{g:Int->Int->Bool}:OpS K (rI0 λ i j=>.bl (g i j)) (i2 (λ _ _=>true) λ i j=>.bl (g i j)):=by
 intro A x y d e H Q z rx ry ez q;unfold i2 at ez;split at ez
 .rename_i i j
  cases ez;obtain rfl:=rx.int_inv;obtain rfl:=ry.int_inv;exact⟨i,j,rfl,rfl,q _ H (aR.refl H) (.bl _)⟩
 .cases ez
def xP{g:Int->Int->Int}:∀x y z,i2 p (λ i j=>.int (g i j)) x y= .ok z->imm z=true:=by
 intro x y z e;unfold i2 at e;split at e
 .split at e
  .cases e;rfl
  .cases e
 .cases e
def aIV{g:Int->Int->Bool}:∀x y z,i2 p (λ i j=>.bl (g i j)) x y= .ok z->imm z=true:=by
 intro x y z e;unfold i2 at e;split at e
 .split at e
  .cases e;rfl
  .cases e
 .cases e
def bL:D->D->Rs D
 | .int i,.int j=>.ok (.int (i+j))
 | .lst l,.lst m=>if l.length+m.length<=zAN then .ok (.lst (l++m))else .st
 | .tup l,.tup m=>if l.length+m.length<=zAN then .ok (.tup (l++m))else .st
 |_,_=>.st
def yX(K:zAA):R2:=λ x y H Q=>∃a b xs ys,x= .ref a/\y= .ref b/\SqT K H a xs/\SqT K H b ys/\xs.length+ys.length<=zAN/\
 (xs=[]->Q (.ref b) H)/\(ys=[]->Q (.ref a) H)/\New H (.tup (xs++ys)) Q
def aF5:OpR X (zBg .Add) (yX X.K):=by
 intro kQ s σ H x y v u Q I rx ry h;obtain⟨a,b,xs,ys,rfl,rfl,ha,hb,hz,q0,q1,q2⟩:=h;by_cases hx:xs=[]
 .subst hx
  cases rx;cases ry;obtain⟨its,r1,p1,_⟩:=I.tuple ha;obtain⟨its2,r2,p2,_⟩:=I.tuple hb;cases r1;exact HT.aE4 p1 p2 ⟨.ref b,H,I,rfl,q0 rfl⟩
 .exact aF6 kQ s σ H _ _ v u Q I rx ry ⟨a,b,xs,ys,rfl,rfl,ha,hb,hx,hz,q1,λ _ p hp=>q2.at hp⟩
def aDK(K:zAA):R2:=λ x y H Q=>rI0 (λ i j=>.int (i+j)) x y H Q\/(aDJ x y H Q\/yX K x y H Q)
def aF7:OpR X (zBg .Add) (aDK X.K):=OpR.or aHx (OpR.or wu aF5)
def aHm:OpS K (aDK K) bL:=by
 intro A x y d e H Q z rx ry ez q;unfold bL at ez;split at ez
 .cases ez;obtain rfl:=rx.int_inv;obtain rfl:=ry.int_inv;exact .inl ⟨_,_,rfl,rfl,q _ H (aR.refl H) (.int _)⟩
 .split at ez
  .rename_i hl
   cases ez;obtain⟨_,_,rfl,h1,m1,r1⟩:=rx.lst_inv;obtain⟨_,_,rfl,h2,m2,r2⟩:=ry.lst_inv;refine .inr (.inl ⟨_,_,_,_,rfl,rfl,h1,h2,by rw[r1.length,r2.length];exact hl,λ p H' s hp hn=>q _ H' s (.lst hp (.inl hn) ?_)⟩);exact(((r1.wk λ _ _ _ z=>z.1).append (r2.wk λ _ _ _ z=>z.1)).wk (A':=λ q=>(H q=none\/A q)/\q≠p) λ q o e z=>⟨.inr z,λ e'=>by subst e';rw[hn]at e;cases e⟩).up s
  .cases ez
 .split at ez
  .rename_i hl
   cases ez;obtain⟨_,_,rfl,h1,r1⟩:=rx.tup_inv;obtain⟨_,_,rfl,h2,r2⟩:=ry.tup_inv;have r1':=r1.wk (A':=λ p=>H p=none\/A p) λ _ _ _ z=>.inr z
   have r2':=r2.wk (A':=λ p=>H p=none\/A p) λ _ _ _ z=>.inr z
   refine .inr (.inr ⟨_,_,_,_,rfl,rfl,h1,h2,by rw[r1.length,r2.length];exact hl,λ e=>?_,λ e=>?_,λ p H' s hp hn=>q _ H' s (.tup (SqT.of hp) ((r1'.append r2').up s))⟩)
   .subst e
    cases r1';exact q _ H (aR.refl H) (.tup h2 r2')
   .subst e
    cases r2';rw[zAb]at q;exact q _ H (aR.refl H) (.tup h1 r1')
  .cases ez
 .cases ez
def gA:D->D->Rs D
 | .int i,.int j=>if (decide (-(2^64)<i)&&decide (i<2^64))||(decide (-(2^64)<j)&&decide (j<2^64))then .ok (.int (i*j))else .st
 | .lst l,.int k=>if decide (-(2^63)<=k)&&decide (k<2^63)&&decide (l.length*k.toNat<=zAN)&&cF l then .ok (.lst (zAO k.toNat l).flatten)else .st
 |_,_=>.st
theorem Rps.rep(r:Rps K A H xs ds):∀k:Nat,Rps K A H (zAO k xs).flatten (zAO k ds).flatten
 |0=>.nil
 |k+1=>by
  rw[zAv,zAv,zA5,zA5];exact r.append (Rps.rep r k)
def aGj:R2:=λ x y H Q=>rI aG6 (λ i j=>.int (i*j)) x y H Q\/aJH x y H Q
def aF3:OpR X (zBg .Mult) aGj:=OpR.or aHr aHo
def aHk:OpS K aGj gA:=by
 intro A x y d e H Q z rx ry ez q;unfold gA at ez;split at ez
 .split at ez
  .rename_i hc
   cases ez;obtain rfl:=rx.int_inv;obtain rfl:=ry.int_inv;refine .inl ⟨_,_,rfl,rfl,?_,q _ H (aR.refl H) (.int _)⟩;simp only[zCu,zAK,decide_eq_true_eq]at hc;exact hc
  .cases ez
 .split at ez
  .rename_i hc
   simp only[zAK,decide_eq_true_eq]at hc;cases ez;obtain⟨_,_,rfl,h1,m1,r1⟩:=rx.lst_inv;obtain rfl:=ry.int_inv;refine .inr ⟨_,_,_,rfl,rfl,h1,hc.1.1.1,hc.1.1.2,by rw[r1.length];exact hc.1.2,λ p hp=>q _ _ (bT hp _) (.lst ak (.inl hp) ?_)⟩;exact((r1.rep _).wk (A':=λ q=>(H q=none\/A q)/\q≠p) λ q o e z=>⟨.inr z.1,λ e'=>by subst e';rw[hp]at e;cases e⟩).up (bT hp _)
  .cases ez
 .cases ez
def intsOf:List D->Option (List Int)
 |[]=>some []
 | .int i::r=>(intsOf r).map (i::·)
 |_=>none
theorem gR:∀{l:List D} {ns:List Int},intsOf l=some ns->l=ns.map .int
 |[],ns,h=>by cases h;rfl
 | .int i::r,ns,h=>by
  simp only[intsOf,Option.map_eq_some_iff]at h;obtain⟨ms,h1,rfl⟩:=h;rw[gR h1];rfl
 | .non::_,_,h=>by cases h
 | .bl _::_,_,h=>by cases h
 | .str _::_,_,h=>by cases h
 | .tup _::_,_,h=>by cases h
 | .lst _::_,_,h=>by cases h
 | .dct _ _::_,_,h=>by cases h
 | .set _::_,_,h=>by cases h
 | .scr _::_,_,h=>by cases h
theorem oA:∀ns:List Int,intsOf (ns.map .int)=some ns
 |[]=>rfl
 |n::ns=>by simp only[zAU,intsOf,oA ns,zCp]
def ltT(p:List Int->List Int->Bool):D->D->Rs D
 | .tup l,.tup m=>match intsOf l,intsOf m with
  |some ns,some ms=>.ok (.bl (p ns ms))
  |_,_=>.st
 |_,_=>.st
def aAy(r:Rp K A H x (.tup l))(e:intsOf l=some ns):∃a,x= .ref a/\SqT K H a (ns.map V.int):=by
 have:=gR e
 subst this;cases r with
 |tup h r=>
  have:=r.ints_of
  subst this;exact⟨_,rfl,h⟩
def aFZ(hr:∀x y H Q,(∃a b ns ms,x= .ref a/\y= .ref b/\SqT K H a (ns.map V.int)/\SqT K H b (ms.map V.int)/\Q (.bl (p ns ms)) H)->r x y H Q):OpS K r (ltT p):=by
 intro A x y d e H Q z rx ry ez q;unfold ltT at ez;split at ez
 .split at ez
  .rename_i ns ms e1 e2
   cases ez;obtain⟨a,rfl,ha⟩:=aAy rx e1;obtain⟨b,rfl,hb⟩:=aAy ry e2;exact hr _ _ _ _ ⟨a,b,ns,ms,rfl,rfl,ha,hb,q _ H (aR.refl H) (.bl _)⟩
  .cases ez
 .cases ez
def ltD:D->D->Rs D:=λ d e=>match i2 (λ _ _=>true) (λ i j=>.bl (decide (i<j))) d e with
 | .ok z=>.ok z
 |_=>ltT HT.lexLt d e
def gtD:D->D->Rs D:=i2 (λ _ _=>true) (λ i j=>.bl (decide (j<i)))
def geD:D->D->Rs D:=i2 (λ _ _=>true) (λ i j=>.bl (decide (j<=i)))
def aHt(hu:X.A.units<cLine):OpR X (zBO .Lt) (λ x y H Q=>rI0 (λ i j=>.bl (decide (i<j))) x y H Q\/aFK X.K x y H Q):=OpR.or aJR (aHu hu)
def aJO:OpS K (λ x y H Q=>rI0 (λ i j=>.bl (decide (i<j))) x y H Q\/aFK K x y H Q) ltD:=OpS.or wj (aFZ λ _ _ _ _ h=>h)
def atD(l:List D)(i:Int):Rs D:=match atI l i with
 |some d=>.ok d
 |none=>.st
def ixD:D->D->Rs D
 | .tup l,.int i=>atD l i
 | .lst l,.int i=>atD l i
 | .scr l,.int i=>atD (l.map .int) i
 |_,_=>.st
theorem Rps.at(r:Rps K A H xs ds)(e:atI ds i=some d):∃x,atI xs i=some x/\Rp K A H x d:=by
 unfold atI at e ⊢;rw[r.length];cases h:ixN ds.length i with
 |none=>rw[h]at e;cases e
 |some j=>
  rw[h]at e;obtain⟨x,e1,e2⟩:=r.getD (i:=j) (d:=d) e;exact⟨x,e1,e2⟩
def aJP:OpS K (rIx K) ixD:=by
 intro A x y d e H Q z rx ry ez q;unfold ixD at ez;split at ez
 .unfold atD at ez
  split at ez
  .rename_i w hw
   cases ez;obtain⟨_,_,rfl,h,r⟩:=rx.tup_inv;obtain rfl:=ry.int_inv;obtain⟨v,e1,e2⟩:=r.at hw;exact .inr (.inl ⟨_,_,_,v,rfl,rfl,h,e1,q v H (aR.refl H) (e2.wk λ _ _ _ z=>.inr z)⟩)
  .cases ez
 .unfold atD at ez
  split at ez
  .rename_i w hw
   cases ez;obtain⟨_,_,rfl,h,m,r⟩:=rx.lst_inv;obtain rfl:=ry.int_inv;obtain⟨v,e1,e2⟩:=r.at hw;exact .inl ⟨_,_,_,v,rfl,rfl,SqL.of h,e1,q v H (aR.refl H) (e2.wk λ _ _ _ z=>.inr z.1)⟩
  .cases ez
 .unfold atD at ez
  split at ez
  .rename_i w hw
   cases ez;obtain⟨_,rfl,h⟩:=rx.scr_inv;obtain rfl:=ry.int_inv;obtain⟨v,e1,e2⟩:=(Rps.ints (K:=K) (A:=A) (H:=H)).at hw;exact .inl ⟨_,_,_,v,rfl,rfl,h.sq,e1,q v H (aR.refl H) (e2.wk λ _ _ _ z=>.inr z)⟩
  .cases ez
 .cases ez
def cJ:List D->Rs D
 |[.tup l]=>.ok (.int l.length)
 |[.lst l]=>.ok (.int l.length)
 |[.scr l]=>.ok (.int l.length)
 |_=>.st
def aI5:qu K (λ xs H Q=>∃p ys,xs=[.ref p]/\(SqL K H p ys\/SqT K H p ys)/\Q (.int ys.length) H) cJ:=by
 intro A xs ds H Q z r ez q;unfold cJ at ez;split at ez
 .cases ez
  obtain⟨_,rfl,h0⟩:=r.one_inv;obtain⟨_,_,rfl,h,r⟩:=h0.tup_inv;exact⟨_,_,rfl,.inr h,by rw[r.length];exact q _ H (aR.refl H) (.int _)⟩
 .cases ez
  obtain⟨_,rfl,h0⟩:=r.one_inv;obtain⟨_,_,rfl,h,m,r⟩:=h0.lst_inv;exact⟨_,_,rfl,.inl (SqL.of h),by rw[r.length];exact q _ H (aR.refl H) (.int _)⟩
 .cases ez
  obtain⟨_,rfl,h0⟩:=r.one_inv;obtain⟨_,rfl,h⟩:=h0.scr_inv;exact⟨_,_,rfl,.inl h.sq,by rw[zAE];exact q _ H (aR.refl H) (.int _)⟩
 .cases ez
def aFz:∀x z,cJ x= .ok z->imm z=true:=by
 intro x z e;unfold cJ at e;split at e<;>first|(cases e;rfl)|cases e
def tyD:D->String
 | .non=>"NoneType"| .bl _=>"bool"| .int _=>"int"| .str _=>"str"| .tup _=>"tuple"| .lst _=>"list"| .dct _ _=>"dict"| .set _=>"set"| .scr _=>"script"| .fn _=>"function"| .itm _ _=>"items"
def uG(T:String):D->Rs D:=λ d=>if lQ (tyD d) T true=true then .ok (.bl true)else if lQ (tyD d) T false=true then .ok (.bl false)else .st
def aGk(K:zAA)(T:String):List V->Hp->VK->Prop:=λ xs H Q=>∃x d A b,xs=[x,.ty T]/\Rp K A H x d/\lQ (tyD d) T b=true/\Q (.bl b) H
def aCW:dw X (.builtin "isinstance") (aGk X.K T):=by
 intro kQ s σ H xs us Q I rv h;obtain⟨x,d,A,b,rfl,rd,ok,q⟩:=h;cases rd with
 |tup h r=>
  obtain⟨u,w',rfl,ru,rw'⟩:=vals2 rv;cases ru;cases rw';obtain⟨its,_,⟨o,h1,h2,_⟩,_⟩:=I.tuple h;exact zAr zFq I.kIn ⟨o,h1,h2⟩ (aAU ok) (λ z=>nomatch z) λ tk=>⟨.bl b,H,I.tok _,rfl,q⟩
 |set h m hS nd=>cases b<;>simp[lQ,tyD]at ok
 |scr h=>cases b<;>simp[lQ,tyD]at ok
 |fn h=>cases b<;>simp[lQ,tyD]at ok
 |itm h=>cases b<;>simp[lQ,tyD]at ok
 |non=>exact jW kQ s σ H _ us Q I rv ⟨_,T,_,b,rfl,.non,ok,q⟩
 |bl c=>exact jW kQ s σ H _ us Q I rv ⟨_,T,_,b,rfl,.bl c,ok,q⟩
 |int c=>exact jW kQ s σ H _ us Q I rv ⟨_,T,_,b,rfl,.int c,ok,q⟩
 |str c=>exact jW kQ s σ H _ us Q I rv ⟨_,T,_,b,rfl,.str c,ok,q⟩
 |lst h m r=>exact jW kQ s σ H _ us Q I rv ⟨_,T,_,b,rfl,.lst h,ok,q⟩
 |dK h m r=>exact jW kQ s σ H _ us Q I rv ⟨_,T,_,b,rfl,.dK h,ok,q⟩
 |dT h m r=>
  obtain⟨u,w',rfl,ru,rw'⟩:=vals2 rv;cases ru;cases rw';obtain⟨⟨_,_,_,o,_,_,_,h1,h2,_⟩,_⟩:=(show dC X.prog X.w H s.heap _ (dxO _ _)from I.hok _ _ h.at_);exact zAr zDz I.kIn ⟨o,h1,h2.1⟩ (aAU ok) (λ z=>nomatch z) λ tk=>⟨.bl b,H,I.tok _,rfl,q⟩
end
section
variable{C:Ct}{pos p p2:Pos}{m:Mode}{a:Expr}{fa:En->Rs D}
def zp(ha:SE C m a fa)(hm:C.mg "isinstance"=none)(hmT:C.mg x=none)(hn:x≠"__name__":=by decide)(hd:Nd x:=by decide)(he:∀i,zA2 [a,.Name x p2] (C.X i).env=(false,eval a (C.X i).env)::zA2 [.Name x p2] (C.X i).env:=by intro _;rfl)(hpl:∀i,(zCI pos (zA2 [.Name x p2] (C.X i).env)).any (·.1)=false:=by intro _;rfl)(hg:∀i,Gl (C.X i) "isinstance":=by intro _;rfl)(hv:zAn "isinstance"=some (.builtin "isinstance"):=by decide+kernel)(hgT:∀i,Gl (C.X i) x:=by intro _;rfl)(hvT:zAn x=some (.type T):=by decide+kernel):
  SE C (some []) (.Call (.Name "isinstance" p) [a,.Name x p2] [] pos) (op1 (uG T) fa):=by
 obtain⟨t,h1,h2⟩:=ha;refine⟨tCB (aGk C.K T) (iG t (iG (tC (.ty T)) pX)),λ i=>?_,λ τ σ H Y lab Q R W=>?_⟩
 .rw[<-C.hK i]
  exact o5 aCW (hg i) (by rw[(C.cx i).2.2.2.1];exact hm) hv (aX (h1 i) (aX (aBF (v:=.ty T) (hgT i) (by rw[(C.cx i).2.2.2.1];exact hmT) hvT rfl hn hd) dF) (he i)) (by decide) (by decide) (he i) (hpl i)
 .refine h2 τ σ H Y lab _ R (W.bd.imp λ d _ w x H1 s1 r1=>?_)
  obtain⟨z,ez,w⟩:=w.okD;unfold uG at ez;split at ez
  .rename_i h;cases ez;exact⟨x,d,_,true,rfl,r1,h,w _ H1 s1 (.bl _)⟩
  .split at ez
   .rename_i h;cases ez;exact⟨x,d,_,false,rfl,r1,h,w _ H1 s1 (.bl _)⟩
   .cases ez
end
def sE:Slot->Slot
 | .ow d=>.sh d
 | .nw d=>.sh d
 | .oz d=>.sh d
 | .o2 l=>.sh (.lst (l.map .lst))
 |s=>s
def shE(Y:En):En:=Y.map sE
def stV(js:iX)(σ:L2.St):L2.St:=js.map λ o=>o.bind λ j=>(σ[j]?).join
def stE(js:iX)(Y:En):En:=js.map λ o=>match o with
 |none=>.no
 |some j=>(Y[j]?).getD .no
def aFH{K:zAA}(h:dg K H lab i v s):∃d,(s= .no\/sE s= .sh d)/\(s= .no\/Rp K (λ _=>True) H v d):=by
 cases s with
 |no=>exact⟨.non,.inl rfl,.inl rfl⟩
 |sh d=>exact⟨d,.inr rfl,.inr (Rp.wk (λ _ _ _ _=>trivial) h)⟩
 |nw d=>exact⟨d,.inr rfl,.inr (Rp.wk (λ _ _ _ _=>trivial) h)⟩
 |ow d=>exact⟨d,.inr rfl,.inr (Rp.wk (λ _ _ _ _=>trivial) h.1)⟩
 |oz d=>exact⟨d,.inr rfl,.inr (Rp.wk (λ _ _ _ _=>trivial) (aGq h))⟩
 |o2 l=>exact⟨_,.inr rfl,.inr (Rp.wk (λ _ _ _ _=>trivial) (aBJ h))⟩
theorem RR.shE{K:zAA}(R:RR K G τ Y σ H lab):RR K G τ (shE Y) σ H (λ _=>(0,0)):=by
 refine⟨by unfold VL.shE;rw[zAE];exact R.len,λ i s e=>?_,R.old,λ p hp=>absurd rfl hp,λ q hq=>(R.tm q hq).wk λ _ _ _ _=>zAc _⟩;unfold VL.shE at e;rw[zAW]at e;cases e0:Y[i]? with
 |none=>rw[e0]at e;cases e
 |some s0=>
  rw[e0]at e;cases e;rcases R.sl i s0 e0 with rfl|⟨v,ev,hv⟩
  .exact .inl rfl
  .obtain⟨d,h1,h2⟩:=aFH hv
   rcases h1 with rfl|h1
   .exact .inl rfl
   .rcases h2 with rfl|h2
    .exact .inl rfl
    .exact .inr ⟨v,ev,by rw[h1];exact h2.wk λ _ _ _ _=>zAc _⟩
def wI{i:Nat}(e:(stE js Y)[i]? =some s):s= .no\/∃j,js[i]? =some (some j)/\Y[j]? =some s:=by
 unfold stE at e;rw[zAW]at e;cases ej:js[i]? with
 |none=>rw[ej]at e;cases e
 |some o=>
  rw[ej]at e;cases o with
  |none=>cases e;exact .inl rfl
  |some j=>
   cases er:Y[j]? with
   |none=>simp[er]at e;exact .inl e.symm
   |some s'=>simp[er]at e;subst e;exact .inr ⟨j,rfl,er⟩
def RR.block{K:zAA}{τ:List (V×D)}(R:RR K G τ (VL.shE Y) σ H lab)(hz:∀p,(lab p).1<=1)(hl:H l=none):
  RR K G τ (stE js (VL.shE Y)) (stV js σ) H (λ p=>if p=l then(2,0)else(0,0)):=by
 have nl:∀p o,H p=some o->p≠l:=λ p o e z=>by subst z;rw[hl]at e;cases e
 refine⟨by unfold stE stV;rw[zAE,zAE],λ i s e=>?_,R.old,λ p hp=>?_,λ q hq=>(R.tm q hq).wk λ p o e _=>by rw[if_neg (nl p o e)];exact zAc _⟩
 .rcases wI e with rfl|⟨j,ej,es⟩
  .exact .inl rfl
  .rcases R.sl j s es with rfl|⟨v,ev,hv⟩
   .exact .inl rfl
   .refine .inr ⟨v,?_,?_⟩
    .unfold stV
     rw[zAW,ej];simp[ev]
    .unfold VL.shE at es
     rw[zAW]at es;cases e0:Y[j]? with
     |none=>rw[e0]at es;cases es
     |some s0=>
      rw[e0]at es;cases es;cases s0 with
      |no=>trivial
      |oz d=>exact Rp.wk (λ p o e _=>by show(if p=l then((2,0):Nat×Nat)else(0,0)).1<=1;rw[if_neg (nl p o e)];exact zAc _) hv
      |nw d=>exact Rp.wk (λ p o e _=>by show(if p=l then((2,0):Nat×Nat)else(0,0)).1<=1;rw[if_neg (nl p o e)];exact zAc _) hv
      |sh d=>exact Rp.wk (λ p o e _=>by show(if p=l then((2,0):Nat×Nat)else(0,0)).1<=1;rw[if_neg (nl p o e)];exact zAc _) hv
      |ow d=>exact Rp.wk (λ p o e _=>by show(if p=l then((2,0):Nat×Nat)else(0,0)).1<=1;rw[if_neg (nl p o e)];exact zAc _) hv
      |o2 d=>exact Rp.wk (λ p o e _=>by show(if p=l then((2,0):Nat×Nat)else(0,0)).1<=1;rw[if_neg (nl p o e)];exact zAc _) hv
 .by_cases hp':p=l
  .subst hp';exact R.old.free hl
  .exact absurd (show(if p=l then((2,0):Nat×Nat)else(0,0)).1=0 by rw[if_neg hp']) hp
def aKA(XN N:List Str)(js:iX)(ks:List Nat)(sc:Scope):Bool:=(zAj js.length).all λ i=>match js[i]? with
 |some (some j)=>match N[i]?,XN[j]? with
  |some x,some y=>x==y&&sc.names.lookup x==some .free&& !ks.contains i
  |_,_=>false
 |_=>true
def aE7(h1:sc.kind= .function)(h2:(sc.names.all λ y=>y.2 != .cell||sc.names.lookup y.1==some .cell)=true)(h3:(sc.names.all λ y=>y.2 != .local||sc.names.lookup y.1==some .local)=true)
  (h4:(sc.names.all λ y=>y.2 != .free||(X.env.kindOf y.1==some .cell||X.env.kindOf y.1==some .free))=true)(h5:js.length=N.length)(h6:aKA X.N N js ks sc=true):j0 X sc N (stV js) ks:=by
 refine⟨h1,λ y hy e=>?_,λ y hy e=>?_,λ y hy e=>?_,λ σ=>by unfold stV;rw[zAE];exact h5,λ σ i x v e1 e2=>?_⟩
 .have:=zBL.mp h2 y hy
  rw[e]at this;simpa using this
 .have:=zBL.mp h3 y hy
  rw[e]at this;simpa using this
 .have:=zBL.mp h4 y hy
  rw[e]at this;simpa using this
 .unfold stV at e2
  rw[zAW]at e2;cases ej:js[i]? with
  |none=>rw[ej]at e2;cases e2
  |some o=>
   rw[ej]at e2;cases o with
   |none=>cases e2
   |some j=>
    have hi:i<js.length:=(zA3.mp ej).1
    have:=zBL.mp h6 i (zAx.mpr hi)
    rw[ej,e1]at this;dsimp only at this;cases ey:X.N[j]? with
    |none=>rw[ey]at this;cases this
    |some y=>
     rw[ey]at this;simp only[zAK,beq_iff_eq,zBS]at this;obtain⟨⟨h,h'⟩,h''⟩:=this;subst h;refine⟨h',λ hk=>?_,j,ey,?_⟩
     .rw[List.contains_iff_mem.mpr hk]at h'';cases h''
     .simp only[zCp,zBK,zCA]at e2
      cases es:σ[j]? with
      |none=>rw[es]at e2;cases e2
      |some w=>rw[es]at e2;simp at e2;subst e2;rfl
abbrev Ct.blk(C:Ct)(sc:Scope)(N:List Str):Ct where
 ι:=C.ι×Addr×List Addr×zAB×Hp
 X:=λ i=>(C.X i.1).block sc i.2.1 N i.2.2.1 i.2.2.2.1 i.2.2.2.2
 prog:=C.prog
 w:=C.w
 K:=C.K
 mg:=C.mg
 base:=C.base
 k:=C.k
 G:={C.G with E:=λ _ _ _=>False}
 cx:=λ i=>C.cx i.1
 calm:=λ i=>C.calm i.1
 room:=λ i=>C.room i.1
 own:=λ i=>PassesOwn.never
 pass:=λ i kQ σ H s e s' I h=>by obtain⟨_,_,_,_,_,_,_,_,_,_,_,_,_,hE⟩:=h;exact hE
 dOk:=false
 dcx:=λ h=>absurd h zAT
def lcL(Y:En)(fg:D->En->Rs En)(ft:En->Rs Bool)(fe:En->Rs D):List D->Rs (List D)
 |[]=>.ok []
 |d::ds=>(fg d Y).bd λ Y1=>(ft Y1).bd λ k=>if k=true then(fe Y1).bd λ y=>(lcL Y fg ft fe ds).bd λ ys=>.ok (y::ys)else lcL Y fg ft fe ds
def lcD(fi:En->Rs (List D))(js:iX)(fg:D->En->Rs En)(ft:En->Rs Bool)(fe:En->Rs D):En->Rs D:=λ Y=>(fi (shE Y)).bd λ ds=>
 if ds.length<zAN then(match lcL (stE js (shE Y)) fg ft fe ds with
  | .ok l=>.ok (.lst l)
  |_=>.st)else .st
def aIi(C:Ct)(ifs:List Expr)(f:En->Rs Bool):Prop:=∃t,(∀i,aG1 (C.X i) ifs t)/\aCZ C.K C.G t f
def gh:En->Rs Bool:=λ _=>.ok true
def lE:aIi C [] gh:=⟨_,λ _=>aHa,λ τ σ H Y lab Q R W=>W H (aR.refl H)⟩
def yp(h:lcL Y fg ft fe (d::ds)= .ok l):
  ∃Y1 k,fg d Y= .ok Y1/\ft Y1= .ok k/\((k=true/\∃y ys,fe Y1= .ok y/\lcL Y fg ft fe ds= .ok ys/\l=y::ys)\/(k=false/\lcL Y fg ft fe ds= .ok l)):=by
 unfold lcL at h;obtain⟨Y1,e1,h⟩:=eG h;obtain⟨k,e2,h⟩:=eG h;refine⟨Y1,k,e1,e2,?_⟩;cases k with
 |true=>
  rw[if_pos rfl]at h;obtain⟨y,e3,h⟩:=eG h;obtain⟨ys,e4,h⟩:=eG h;cases h;exact .inl ⟨rfl,y,ys,e3,e4,rfl⟩
 |false=>
  rw[if_neg zAT]at h;exact .inr ⟨rfl,h⟩
def RR.but_blk{K:zAA}{τ:List (V×D)}(R:RR K G τ (stE js (VL.shE Y)) σ H (λ p=>if p=l then(2,0)else(0,0)))(B:jZ l H H')(hl:H l=some o)(ho:iT o=true)(h0:G.H0 l=none):
  RR K G τ (stE js (VL.shE Y)) σ H' (λ p=>if p=l then(2,0)else(0,0)):=by
 have pV:¬((λ p=>if p=l then((2,0):Nat×Nat)else(0,0)) l).1<=1:=by simp
 refine⟨R.len,λ j s e=>?_,λ b o hb=>?_,R.new,λ q hq=>(R.tm q hq).but B hl ho pV⟩
 .rcases R.sl j s e with z|⟨u,e1,e2⟩
  .exact .inl z
  .refine .inr ⟨u,e1,?_⟩
   rcases wI e with rfl|⟨jx,ej,es⟩
   .trivial
   .unfold VL.shE at es
    rw[zAW]at es;cases e0:Y[jx]? with
    |none=>rw[e0]at es;cases es
    |some s0=>rw[e0]at es;cases es;cases s0<;>first|trivial|exact Rp.but B hl ho pV e2
 .exact B b o (λ z=>by subst z;rw[h0]at hb;cases hb) (R.old b o hb)
def RR.blk0{K:zAA}(R:RR K G τ (VL.shE Y) σ H lab)(hG:G'.H0=G.H0):RR K G' τ (VL.shE Y) σ H (λ _=>(0,0)):=by
 refine⟨R.len,λ i s e=>?_,by rw[hG];exact R.old,λ p hp=>absurd rfl hp,λ q hq=>(R.tm q hq).wk λ _ _ _ _=>zAc _⟩;rcases R.sl i s e with rfl|⟨v,ev,hv⟩
 .exact .inl rfl
 .unfold VL.shE at e
  rw[zAW]at e;cases e0:Y[i]? with
  |none=>rw[e0]at e;cases e
  |some s0=>rw[e0]at e;cases e;cases s0<;>first|exact .inl rfl|exact .inr ⟨v,ev,Rp.wk (λ _ _ _ _=>zAc _) hv⟩
section
variable{K:zAA}{G:Gx}{wi:TI}{fi:En->Rs (List D)}{js:iX}{g:TG}{fg:D->En->Rs En}{tt:TT}{ft:En->Rs Bool}{te:TE}{fe:En->Rs D}
def aHO(hi:aIf K G wi fi)(hg:aIg K {G with E:=λ _ _ _=>False} g fg)(ht:aCZ K {G with E:=λ _ _ _=>False} tt ft)(he:kO K {G with E:=λ _ _ _=>False} (some []) te fe):
  kO K G (some []) (tLC wi (stV js) g tt te) (lcD fi js fg ft fe):=by
 intro τ σ H Y lab Q R W;refine hi τ σ H _ _ _ R.shE (W.bd.imp λ ds _ w J H1 lab1 τ1 s1 _ R1 jl=>?_);intro l hl;obtain⟨kX,out,kK,w⟩:ds.length<zAN/\∃out,lcL (stE js (VL.shE Y)) fg ft fe ds= .ok out/\QE K (some []) lab H Q (.lst out):=by
  by_cases kX:ds.length<zAN
  .rw[if_pos kX]at w
   cases kK:lcL (stE js (VL.shE Y)) fg ft fe ds with
   |ok out=>rw[kK]at w;exact⟨kX,out,rfl,w⟩
   |ex c=>rw[kK]at w;exact zAH w
   |st=>rw[kK]at w;exact zAH w
  .rw[if_neg kX]at w
   exact zAH w
 have R0:RR K {G with E:=λ _ _ _=>False} (τ1++τ) (VL.shE Y) σ H1 (λ _=>(0,0)):=R1.blk0 rfl;have RB:=R0.block (js:=js) (λ _=>zAc _) hl;have hHl:H l=none:=s1.free hl;have pV:¬((λ p=>if p=l then((2,0):Nat×Nat)else(0,0)) l).1<=1:=by simp
 refine⟨λ i n acc H2=>∃pre,n=ds.length-i/\i<=ds.length/\H2 l=some (.lst acc)/\RR K {G with E:=λ _ _ _=>False} (τ1++τ) (stE js (VL.shE Y)) (stV js σ) H2 (λ p=>if p=l then(2,0)else(0,0))/\aR H H2/\acc.length<=i/\
  Rps K (λ p=>H p=none/\p≠l) H2 acc pre/\∃post,lcL (stE js (VL.shE Y)) fg ft fe (ds.drop i)= .ok post/\out=pre++post,⟨ds.length,[],by lia,by lia,ak,RB.up (bT hl _),s1.trans (bT hl _),zAL _,.nil,out,kK,rfl⟩,?_⟩
 rintro i n acc H2 ⟨pre,rfl,hi,hH2,R2,s2,oQ,rpre,post,hpost,eout⟩;refine⟨hH2,by lia,?_⟩;have jj:=jl _ H2 λ q hq=>R2.tm q (zAQ _ hq)
 by_cases hlt:i<ds.length
 .obtain⟨go,yl⟩:=(jj i).2 hlt
  refine .inr ⟨go,λ x H3 hy=>?_⟩;obtain⟨s3,d,ed,rx⟩:=yl x H3 hy;replace R2:=R2.up s3;replace hH2:=s3 _ _ hH2;replace s2:=s2.trans s3;replace rpre:=rpre.up s3;have ed2:ds.drop i=d::ds.drop (i+1):=by
   rw[zBA hlt]
   have:=zAR hlt
   rw[ed]at this;cases this;rfl
  rw[ed2]at hpost;obtain⟨Y1,k,e1,e2,e3⟩:=yp hpost;refine hg (τ1++τ) x d _ H3 _ _ _ Y1 R2 rx e1 λ σ4 R4=>?_
  refine ht (τ1++τ) σ4 H3 Y1 _ _ R4 ?_;rw[e2];intro H5 s5;rcases e3 with ⟨rfl,y,ys,e3,e4,rfl⟩|⟨rfl,e4⟩
  .rw[if_pos rfl]
   refine he (τ1++τ) σ4 H5 Y1 _ _ (R4.up s5) ?_;rw[e3];intro v H6 s6 r6;have hl6:H6 l=some (.lst acc):=s6 _ _ (s5 _ _ hH2);have B:jZ l H6 (upd H6 l (.lst (acc++[v]))):=λ b o ne hb=>by rw[aU ne];exact hb
   refine⟨hl6,ds.length-(i+1),by lia,pre++[y],rfl,hlt,ak,?_,?_,by rw[zAC];simp;lia,?_,ys,e4,by rw[eout];simp⟩
   .exact(R2.up (s5.trans s6)).but_blk B hl6 rfl (R1.old.free hl)
   .exact λ b o hb=>B b o (λ z=>by subst z;rw[hHl]at hb;cases hb) (((s2.trans s5).trans s6) b o hb)
   .refine((rpre.up (s5.trans s6)).append (.cons (r6.wk λ p o _ z=>?_) .nil)).but B hl6 rfl λ z=>z.2 rfl
    rcases z with z|z
    .exact⟨(s2.trans s5).free z,λ e=>by subst e;rw[s5 _ _ hH2]at z;cases z⟩
    .cases z
  .rw[if_neg zAT]
   exact⟨ds.length-(i+1),by lia,pre,rfl,hlt,s5 _ _ hH2,R2.up s5,s2.trans s5,by lia,rpre.up s5,post,e4,eout⟩
 .have ei:i=ds.length:=by lia
  subst ei;rw[zCk]at hpost;cases hpost;rw[zAb]at eout;subst eout;exact .inl ⟨(jj _).1 (zAL _),w _ H2 s2 (.lst hH2 (.inl hHl) (rpre.wk λ p o _ z=>⟨.inl z.1,z.2⟩))⟩
end
section
variable{C:Ct}{pos:Pos}{elt tg iter:Expr}{ifs:List Expr}{sc:Scope}{N:List Str}{js:iX}{ks:List Nat}{fi:En->Rs (List D)}{fg:D->En->Rs En}{ft:En->Rs Bool}{fe:En->Rs D}
def fG{C:Ct}(nd:N.Nodup:=by decide+kernel)(hk:i∈ks:=by decide)(hN:∀j,((C.blk sc N).X j).N[i]? =some x:=by intro _;rfl)(hx:∀j,Loc ((C.blk sc N).X j).env.scope x:=by intro _;first|exact zBj rfl|exact zBG rfl)
  (hf:∀j,((C.blk sc N).X j).fn x=true\/((C.blk sc N).X j).env.scope.names.lookup x=some .local:=by intro _;first|exact .inl rfl|exact .inr rfl):SG (C.blk sc N) (.Name x pos) ks (gnm i):=
 bK hN hx hf (λ _=>nd) hk
def sX(hi:SI C tg iter fi)(hg:SG (C.blk sc N) tg ks fg)(ht:aIi (C.blk sc N) ifs ft)(he:SE (C.blk sc N) (some []) elt fe)(hs:∀i x,zCP iter (C.X i).env x=pure x:=by intro _ _;rfl)(hB:∀i,j0 (C.X i) sc N (stV js) ks:=by intro _;exact aE7 rfl rfl rfl rfl rfl rfl):SE C (some []) (.ListComp elt [⟨tg,iter,ifs,0⟩] sc pos) (lcD fi js fg ft fe):=by
 obtain⟨wi,i1,i2⟩:=hi;obtain⟨g,g1,g2,g3,g4⟩:=hg;obtain⟨tt,t1,t2⟩:=ht;obtain⟨te,e1,e2⟩:=he;exact⟨_,λ i=>aGo (hB i) (C.calm i) (i1 i) (λ c fp z5 zI=>g1 (i,c,fp,z5,zI)) g3 (λ c fp z5 zI=>t1 (i,c,fp,z5,zI)) (λ c fp z5 zI=>e1 (i,c,fp,z5,zI)) (hs i),aHO i2 g2 t2 e2⟩
end
def puS:Slot->Slot
 | .sh d=>.sh d
 | .nw d=>.sh d
 |_=>.no
def puE(Y:En):En:=Y.map puS
def lcZ(fi:En->Rs (List D))(js:iX)(fg:D->En->Rs En)(ft:En->Rs Bool)(fe:En->Rs D):En->Rs D:=λ Y=>(fi (puE Y)).bd λ ds=>
 if ds.length<zAN then(match lcL (stE js (puE Y)) fg ft fe ds with
  | .ok l=>.ok (.lst l)
  |_=>.st)else .st
theorem RR.puE{K:zAA}(R:RR K G τ Y σ H lab):RR K G τ (puE Y) σ H lab:=by
 refine⟨by unfold VL.puE;rw[zAE];exact R.len,λ i s e=>?_,R.old,R.new,R.tm⟩;unfold VL.puE at e;rw[zAW]at e;cases e0:Y[i]? with
 |none=>rw[e0]at e;cases e
 |some s0=>
  rw[e0]at e;cases e;rcases R.sl i s0 e0 with rfl|⟨v,ev,hv⟩
  .exact .inl rfl
  .cases s0 with
   |sh d=>exact .inr ⟨v,ev,hv⟩
   |nw d=>exact .inr ⟨v,ev,Rp.wk (λ p o _ z=>by rw[z];exact zAL 1) hv⟩
   |_=>exact .inl rfl
def aGn{i:Nat}(e:(puE Y)[i]? =some s):s= .no\/∃d,s= .sh d:=by
 unfold puE at e;rw[zAW]at e;cases e0:Y[i]? with
 |none=>rw[e0]at e;cases e
 |some s0=>
  rw[e0]at e;cases e;cases s0 with
  |sh d=>exact .inr ⟨d,rfl⟩
  |nw d=>exact .inr ⟨d,rfl⟩
  |_=>exact .inl rfl
def aH6{Y:En}{i:Nat}(e:(stE js (puE Y))[i]? =some s):s= .no\/∃d,s= .sh d:=by
 rcases wI e with rfl|⟨j,_,h⟩
 .exact .inl rfl
 .exact aGn h
def aHL{i j:Nat}(e:js[i]? =some (some j))(ev:σ[j]? =some (some v)):(stV js σ)[i]? =some (some v):=by
 unfold stV;rw[zAW,e];simp[ev]
def RR.blockZ{K:zAA}{G:Gx}{τ:List (V×D)}(R:RR K G τ (VL.puE Y) σ H lab)(hl:H l=none):
  RR K G τ (stE js (VL.puE Y)) (stV js σ) H (λ p=>if p=l then(2,0)else lab p):=by
 have nl:∀p o,H p=some o->p≠l:=λ p o e z=>by subst z;rw[hl]at e;cases e
 have lw:∀{v:V} {d:D},Rp K (λ p=>(lab p).1<=1) H v d->Rp K (λ p=>(if p=l then((2,0):Nat×Nat)else lab p).1<=1) H v d:=λ r=>r.wk λ p o e z=>by rw[if_neg (nl p o e)];exact z
 refine⟨by unfold stV stE;rw[zAE,zAE],λ i s e=>?_,R.old,λ p hp=>?_,λ q hq=>lw (R.tm q hq)⟩
 .rcases wI e with rfl|⟨j,ej,es⟩
  .exact .inl rfl
  .rcases aGn es with rfl|⟨d,rfl⟩
   .exact .inl rfl
   .rcases R.sl j _ es with z|⟨v,ev,hv⟩
    .cases z
    .exact .inr ⟨v,aHL ej ev,lw hv⟩
 .by_cases hp':p=l
  .subst hp';exact R.old.free hl
  .rw[if_neg hp']at hp
   exact R.new p hp
section
variable{K:zAA}{G:Gx}{wi:TI}{fi:En->Rs (List D)}{js:iX}{g:TG}{fg:D->En->Rs En}{tt:TT}{ft:En->Rs Bool}{te:TE}{fe:En->Rs D}{m:Mode}
def aEz(hm:okS m=true)(hi:aIf K G wi fi)(hg:aIg K {G with E:=λ _ _ _=>False} g fg)(ht:aCZ K {G with E:=λ _ _ _=>False} tt ft)(he:kO K {G with E:=λ _ _ _=>False} m te fe):
  kO K G (some [0,1]) (tLC wi (stV js) g tt te) (lcZ fi js fg ft fe):=by
 intro τ σ H Y lab Q R W;refine hi τ σ H _ _ _ R.puE (W.bd.imp λ ds _ w J H1 lab1 τ1 s1 hlab R1 jl=>?_);intro l hl;obtain⟨kX,out,kK,w⟩:ds.length<zAN/\∃out,lcL (stE js (VL.puE Y)) fg ft fe ds= .ok out/\QE K (some [0,1]) lab H Q (.lst out):=by
  by_cases kX:ds.length<zAN
  .rw[if_pos kX]at w
   cases kK:lcL (stE js (VL.puE Y)) fg ft fe ds with
   |ok out=>rw[kK]at w;exact⟨kX,out,rfl,w⟩
   |ex c=>rw[kK]at w;exact zAH w
   |st=>rw[kK]at w;exact zAH w
  .rw[if_neg kX]at w
   exact zAH w
 have R0:RR K {G with E:=λ _ _ _=>False} (τ1++τ) (VL.puE Y) σ H1 lab1:=⟨R1.len,R1.sl,R1.old,R1.new,R1.tm⟩;have RB:=R0.blockZ (js:=js) hl;have hHl:H l=none:=s1.free hl;have pV:¬((λ p=>if p=l then((2,0):Nat×Nat)else lab1 p) l).1<=1:=by simp
 refine⟨λ i n acc H2=>∃pre,n=ds.length-i/\i<=ds.length/\H2 l=some (.lst acc)/\RR K {G with E:=λ _ _ _=>False} (τ1++τ) (stE js (VL.puE Y)) (stV js σ) H2 (λ p=>if p=l then(2,0)else lab1 p)/\aR H H2/\acc.length<=i/\
  Rps K (λ p=>(H p=none\/(lab p).1<=1)/\p≠l) H2 acc pre/\∃post,lcL (stE js (VL.puE Y)) fg ft fe (ds.drop i)= .ok post/\out=pre++post,⟨ds.length,[],by lia,by lia,ak,RB.up (bT hl _),s1.trans (bT hl _),zAL _,.nil,out,kK,rfl⟩,?_⟩
 rintro i n acc H2 ⟨pre,rfl,hi,hH2,R2,s2,oQ,rpre,post,hpost,eout⟩;refine⟨hH2,by lia,?_⟩;have jj:=jl _ H2 λ q hq=>R2.tm q (zAQ _ hq)
 by_cases hlt:i<ds.length
 .obtain⟨go,yl⟩:=(jj i).2 hlt
  refine .inr ⟨go,λ x H3 hy=>?_⟩;obtain⟨s3,d,ed,rx⟩:=yl x H3 hy;replace R2:=R2.up s3;replace hH2:=s3 _ _ hH2;replace s2:=s2.trans s3;replace rpre:=rpre.up s3;have ed2:ds.drop i=d::ds.drop (i+1):=by
   rw[zBA hlt]
   have:=zAR hlt
   rw[ed]at this;cases this;rfl
  rw[ed2]at hpost;obtain⟨Y1,k,e1,e2,e3⟩:=yp hpost;refine hg (τ1++τ) x d _ H3 _ _ _ Y1 R2 rx e1 λ σ4 R4=>?_
  refine ht (τ1++τ) σ4 H3 Y1 _ _ R4 ?_;rw[e2];intro H5 s5;rcases e3 with ⟨rfl,y,ys,e3,e4,rfl⟩|⟨rfl,e4⟩
  .rw[if_pos rfl]
   refine he (τ1++τ) σ4 H5 Y1 _ _ (R4.up s5) ?_;rw[e3];intro v H6 s6 r6;have hl6:H6 l=some (.lst acc):=s6 _ _ (s5 _ _ hH2);have B:jZ l H6 (upd H6 l (.lst (acc++[v]))):=λ b o ne hb=>by rw[aU ne];exact hb
   refine⟨hl6,ds.length-(i+1),by lia,pre++[y],rfl,hlt,ak,?_,?_,by rw[zAC];simp;lia,?_,ys,e4,by rw[eout];simp⟩
   .have R6:=R2.up (s5.trans s6)
    refine⟨R6.len,λ j s e=>?_,λ b o hb=>?_,R6.new,λ q hq=>(R6.tm q hq).but B hl6 rfl pV⟩
    .rcases R6.sl j s e with z|⟨u,e1,e2⟩
     .exact .inl z
     .rcases aH6 e with rfl|⟨d,rfl⟩
      .exact .inl rfl
      .exact .inr ⟨u,e1,Rp.but B hl6 rfl pV e2⟩
    .have:=R6.old b o hb
     exact B b o (λ z=>by subst z;rw[R1.old.free hl]at hb;cases hb) this
   .exact λ b o hb=>B b o (λ z=>by subst z;rw[hHl]at hb;cases hb) (((s2.trans s5).trans s6) b o hb)
   .refine((rpre.up (s5.trans s6)).append (.cons (r6.wk λ p o _ z=>?_) .nil)).but B hl6 rfl λ z=>z.2 rfl
    rcases z with z|z
    .exact⟨.inl ((s2.trans s5).free z),λ e=>by subst e;rw[s5 _ _ hH2]at z;cases z⟩
    .have z1:=jq hm _ z
     simp only[decide_eq_true_eq]at z1;have hp:p≠l:=λ e=>by subst e;simp at z1
     rw[if_neg hp]at z1;refine⟨?_,hp⟩;cases hH:H p with
     |none=>exact .inl rfl
     |some o=>rw[hlab p o hH]at z1;exact .inr z1
  .rw[if_neg zAT]
   exact⟨ds.length-(i+1),by lia,pre,rfl,hlt,s5 _ _ hH2,R2.up s5,s2.trans s5,by lia,rpre.up s5,post,e4,eout⟩
 .have ei:i=ds.length:=by lia
  subst ei;rw[zCk]at hpost;cases hpost;rw[zAb]at eout;subst eout;refine .inl ⟨(jj _).1 (zAL _),w _ H2 s2 (.lst hH2 (.inl hHl) (rpre.wk λ p o _ z=>⟨z.1.imp id λ q=>?_,z.2⟩))⟩
  show(lab p).1∈[0,1]
  have:(lab p).1=0\/(lab p).1=1:=by lia
  rcases this with q|q<;>rw[q]<;>simp
end
section
variable{C:Ct}{pos:Pos}{elt tg iter:Expr}{ifs:List Expr}{sc:Scope}{N:List Str}{js:iX}{ks:List Nat}{fi:En->Rs (List D)}{fg:D->En->Rs En}{ft:En->Rs Bool}{fe:En->Rs D}{m:Mode}
def aHS(hi:SI C tg iter fi)(hg:SG (C.blk sc N) tg ks fg)(ht:aIi (C.blk sc N) ifs ft)(he:SE (C.blk sc N) m elt fe)(hm:okS m=true:=by rfl)(hs:∀i x,zCP iter (C.X i).env x=pure x:=by intro _ _;rfl)(hB:∀i,j0 (C.X i) sc N (stV js) ks:=by intro _;exact aE7 rfl rfl rfl rfl rfl rfl):SE C (some [0,1]) (.ListComp elt [⟨tg,iter,ifs,0⟩] sc pos) (lcZ fi js fg ft fe):=by
 obtain⟨wi,i1,i2⟩:=hi;obtain⟨g,g1,g2,g3,g4⟩:=hg;obtain⟨tt,t1,t2⟩:=ht;obtain⟨te,e1,e2⟩:=he;exact⟨_,λ i=>aGo (hB i) (C.calm i) (i1 i) (λ c fp z5 zI=>g1 (i,c,fp,z5,zI)) g3 (λ c fp z5 zI=>t1 (i,c,fp,z5,zI)) (λ c fp z5 zI=>e1 (i,c,fp,z5,zI)) (hs i),aEz hm i2 g2 t2 e2⟩
end
def RR.mut{K:zAA}(R:RR K G τ Y σ H lab)(ev:σ[i]? =some (some v))(hl:H l=some o)(ho:iT o=true)(hlab:(lab l).1=i+2)
  (B:jZ l H H')(h':dg K H' lab i v s'):RR K G τ (Y.set i s') σ H' lab:=by
 refine⟨by rw[zC2];exact R.len,λ j x e=>?_,λ b u hb=>B b u (λ z=>?_) (R.old b u hb),R.new,λ q hq=>(R.tm q hq).but B hl ho λ z=>by lia⟩
 .by_cases hj:i=j
  .subst hj
   have hi:i<Y.length:=by
    have:=(zA3.mp e).1
    rwa [zC2]at this
   rw[zCB hi]at e;cases e;exact .inr ⟨v,ev,h'⟩
  .rw[zBJ hj]at e
   rcases R.sl j x e with z|⟨u,e1,e2⟩
   .exact .inl z
   .refine .inr ⟨u,e1,?_⟩
    cases x with
    |no=>trivial
    |sh d=>exact Rp.but B hl ho (λ z=>by lia) e2
    |nw d=>exact Rp.but B hl ho (λ z=>by lia) e2
    |ow d=>exact⟨Rp.but B hl ho (λ z=>by lia) e2.1,e2.2⟩
    |oz d=>
     obtain⟨a,xs,ds,q1,q2,q3,q4,q5⟩:=e2;exact⟨a,xs,ds,q1,q2,B a _ (λ z=>by subst z;exact hj (by lia)) q3,q4,Rps.but B hl ho (λ z=>by lia) q5⟩
    |o2 ll=>
     obtain⟨a,xs,q1,q2,q3,q4,q5⟩:=e2;refine⟨a,xs,q1,B a _ (λ z=>?_) q2,q3,q4,λ jj y ds f1 f2=>(q5 jj y ds f1 f2).but B hl ho λ z=>?_⟩
     .rw[z]at q3;rw[q3]at hlab;exact hj (by simpa using hlab.symm)
     .rw[z]at hlab;exact hj (by simpa using hlab.symm)
 .subst z
  have:=R.new b (by rw[hlab];lia)
  rw[this]at hb;cases hb
section
variable{fe:En->Rs D}{i:Nat}
def aGV(i:Nat)(fe:En->Rs D):En->Ou:=λ Y=>match Y[i]? with
 |some (.ow (.lst ds))=>(fe Y).bo λ d=>if ds.length<zAN then .nx (Y.set i (.ow (.lst (ds++[d]))))else .st
 |_=>.st
end
mutual
def eqD:D->D->Bool
 | .non,.non=>true
 | .bl a,.bl b=>a==b
 | .bl a,.int b=>(if a then 1 else 0)==b
 | .int a,.bl b=>a==(if b then 1 else 0)
 | .int a,.int b=>a==b
 | .str a,.str b=>a==b
 | .tup l,.tup m=>lZ l m
 | .lst l,.lst m=>lZ l m
 |_,_=>false
def lZ:List D->List D->Bool
 |[],[]=>true
 |x::xs,y::ys=>eqD x y&&lZ xs ys
 |_,_=>false
end
mutual
def gB:D->Nat
 | .tup l=>bU l+1
 | .lst l=>bU l+1
 |_=>0
def bU:List D->Nat
 |[]=>0
 |d::r=>max (gB d) (bU r)
end
mutual
def aV:D->Bool
 | .tup l=>au l
 | .lst l=>au l
 | .dct _ _=>false
 | .set _=>false
 | .scr _=>false
 | .fn _=>false
 | .itm _ _=>false
 |_=>true
def au:List D->Bool
 |[]=>true
 |d::r=>aV d&&au r
end
mutual
theorem uR:∀d:D,aV d=true->eqD d d=true
 | .non,_=>by simp[eqD]
 | .bl b,_=>by simp[eqD]
 | .int i,_=>by simp[eqD]
 | .str x,_=>by simp[eqD]
 | .tup l,h=>by exact qP l (by simpa[aV]using h)
 | .lst l,h=>by exact qP l (by simpa[aV]using h)
 | .dct _ _,h=>by simp[aV]at h
 | .set _,h=>by simp[aV]at h
 | .scr _,h=>by simp[aV]at h
theorem qP:∀l:List D,au l=true->lZ l l=true
 |[],_=>by simp[lZ]
 |d::r,h=>by
  simp only[au,zAK]at h;simp only[lZ,zAK];exact⟨uR d h.1,qP r h.2⟩
end
structure jY(K:zAA)(H:Hp)(s:zAB):Prop where
 tup:∀{a:Addr} {xs:List V},SqT K H a xs->∃its:List Value,Vals xs its/\s.heap.IsTuple a its.toArray
 lst:∀{a:Addr} {xs:List V},H a=some (.lst xs)->∃its:List Value,Vals xs its/\s.heap.IsList a its.toArray
 inj:∀{a:Addr} {xs ys:List V},SqT K H a xs->SqT K H a ys->xs=ys
 ne:∀{a:Addr} {xs ys:List V},SqT K H a xs->H a=some (.lst ys)->False
def Inv.seqOk(I:L2.Inv X kQ σ H s):jY X.K H s where
 tup:=λ h=>let⟨its,r,p,_⟩:=I.tuple h;⟨its,r,p⟩
 lst:=λ h=>let⟨its,r,p,_⟩:=I.list (SqL.of h);⟨its,r,p.isList⟩
 inj:=λ h h'=>I.tuple_inj h h'
 ne:=λ h h'=>by
  obtain⟨its,_,⟨o,e,c,_⟩,_⟩:=I.tuple h;obtain⟨its2,_,⟨o2,n2,e2,c2,_⟩,_⟩:=I.list (SqL.of h');rw[e]at e2;cases e2;rw[c]at c2;injection c2 with c3
  exact absurd c3 (by decide)
section
variable{K:zAA}{H:Hp}{s:zAB}
def ndP:D->Prop
 | .dct _ _=>False
 | .set _=>False
 | .scr _=>False
 | .fn _=>False
 | .itm _ _=>False
 |_=>True
def ndx{d:D}(h:aV d=true):ndP d:=by cases d<;>first|exact zDT|(simp[aV]at h)
def bM(h:aV (.dct a b)=true):False:=by simp[aV]at h
def di(h:aV (.set a)=true):False:=by simp[aV]at h
def dj(h:aV (.scr a)=true):False:=by simp[aV]at h
def fQ(h:aV (.fn a)=true):False:=by simp[aV]at h
def dm(h:aV (.itm o a)=true):False:=by simp[aV]at h
def gn(h:aV (.tup a)=true):au a=true:=by simpa[aV]using h
def gr(h:aV (.lst a)=true):au a=true:=by simpa[aV]using h
def jA(h:au (d::a)=true):aV d=true/\au a=true:=by
 simp only[au,zAK]at h;exact h
def aG4(K:zAA)(s:zAB)(H:Hp)(x:V)(d:D):Prop:=jY K H s->∀(A':Addr->Prop) (e:D),Rp K A' H x e->aV d=true->aV e=true->d=e
def zV(K:zAA)(s:zAB)(H:Hp)(xs:List V)(ds:List D):Prop:=jY K H s->∀(A':Addr->Prop) (es:List D),Rps K A' H xs es->au ds=true->au es=true->ds=es
def aFu(ha:SqT K H a xs)(ih:zV K s H xs ds):aG4 K s H (.ref a) (.tup ds):=λ ok A' e h n1 n2=>by
 cases h with
 |tup hb r'=>
  have e:=ok.inj ha hb;subst e;rw[ih ok _ _ r' (gn n1) (gn n2)]
 |lst hb _ _=>exact(ok.ne ha hb).elim
 |_=>exact zAH (ndx n2)
def aFv(ha:H a=some (.lst xs))(ih:zV K s H xs ds):aG4 K s H (.ref a) (.lst ds):=λ ok A' e h n1 n2=>by
 cases h with
 |tup hb r'=>exact(ok.ne hb ha).elim
 |lst hb _ r'=>
  rw[ha]at hb;cases hb;rw[ih ok _ _ r' (gr n1) (gr n2)]
 |_=>exact zAH (ndx n2)
def aEC(h1:aG4 K s H x d)(h2:zV K s H xs ds):zV K s H (x::xs) (d::ds):=λ ok A' es h n1 n2=>by
 cases h with
 |cons k r'=>rw[h1 ok _ _ k (jA n1).1 (jA n2).1,h2 ok _ _ r' (jA n1).2 (jA n2).2]
def Rp.inj(ok:jY K H s)(r:Rp K A H x d)(h:Rp K A' H x e)(n1:aV d=true)(n2:aV e=true):d=e:=
 Rp.rec (motive_1:=λ _ H x d _=>aG4 K s H x d) (motive_2:=λ _ H xs ds _=>zV K s H xs ds)
  (λ _ _ _ h _ _=>by cases h;rfl) (λ _ _ _ _ h _ _=>by cases h;rfl) (λ _ _ _ _ h _ _=>by cases h;rfl) (λ _ _ _ _ h _ _=>by cases h;rfl) (λ ha _ ih=>aFu ha ih) (λ ha _ _ ih=>aFv ha ih)
  (λ _ _ _ _ _ _ _ _ n1 _=>(bM n1).elim) (λ _ _ _ _ _ _ _ _ n1 _=>(bM n1).elim) (λ _ _ _ _ _ _ _ _ n1 _=>(di n1).elim) (λ _ _ _ _ _ n1 _=>(dj n1).elim) (λ _ _ _ _ _ n1 _=>(fQ n1).elim) (λ _ _ _ _ _ n1 _=>(dm n1).elim)
  (λ _ _ _ h _ _=>by cases h;rfl) (λ _ _ h1 h2=>aEC h1 h2) r ok A' e h n1 n2
end
theorem zG:∀(l m:List D),lZ l m=((zAj (min l.length m.length)).all (λ j=>match l[j]?,m[j]? with|some a,some b=>eqD a b|_,_=>true)&&l.length==m.length)
 |[],[]=>by simp[lZ]
 |[],y::ys=>by simp[lZ]
 |x::xs,[]=>by simp[lZ]
 |x::xs,y::ys=>by
  have ih:=zG xs ys;simp only[lZ,ih,zAS,Nat.succ_min_succ,List.range_succ_eq_map,List.all_cons,List.all_map,zC0,Function.comp_def,zCZ,Nat.succ_eq_add_one,Nat.add_one_inj,zGe];congr 1;congr 1;simp
theorem vh:∀{l:List D} {d:D},d∈l->gB d<=bU l
 |x::r,d,h=>by
  simp only[bU];rcases zAX.mp h with rfl|h
  .exact zEv _ _
  .exact zAe (vh h) (zEb _ _)
theorem nZ:∀{l:List D} {d:D},d∈l->au l=true->aV d=true
 |x::r,d,h,n=>by
  simp only[au,zAK]at n;rcases zAX.mp h with rfl|h
  .exact n.1
  .exact nZ h n.2
def iY(hn:n=ds.length)(hm:m=es.length):((zAj (min n m)).all (λ j=>match ds[j]?,es[j]? with|some a,some b=>eqD a b|_,_=>true)&&n==m)=lZ ds es:=by
 subst hn hm;exact(zG ds es).symm
section
variable{K:zAA}{H:Hp}{s:zAB}
def aEd(K:zAA)(H:Hp)(s:zAB)(n:Nat):Prop:=∀(A1 A2:Addr->Prop) (x y:V) (d e:D) (A:zA7) (u v:Value),Rp K A1 H x d->Rp K A2 H y e->RelV x u->RelV y v->gB d<=n->aV d=true->aV e=true->A.units+n<cLine->zCG A s u v (eqD d e)
def aEe(K:zAA)(H:Hp)(s:zAB)(n:Nat):Prop:=∀(A1 A2:Addr->Prop) (xs ys:List V) (ds es:List D) (A:zA7) (us vs:List Value),Rps K A1 H xs ds->Rps K A2 H ys es->Vals xs us->Vals ys vs->bU ds<=n->au ds=true->au es=true->A.units+n<cLine->
  ∀(j:Nat) (h1:j<us.toArray.size) (h2:j<vs.toArray.size),zCG A s us.toArray[j] vs.toArray[j] (match ds[j]?,es[j]? with|some a,some b=>eqD a b|_,_=>true)
def uQ(ok:jY K H s)(n:Nat)(IH:∀k,n=k+1->aEe K H s k):aEd K H s n:=by
 intro A1 A2 x y d e A u v r1 r2 ru rv hd nd ne hu;have hu0:A.units<cLine:=by lia
 cases r1 with
 |tup h1 q1=>
  rename_i a xs ds;cases ru;obtain⟨its,w1,t1⟩:=ok.tup h1;cases r2 with
  |tup h2 q2=>
   rename_i b ys es;cases rv;obtain⟨its2,w2,t2⟩:=ok.tup h2;by_cases hab:a=b
   .subst hab
    have e:=Rp.inj ok (Rp.tup h1 q1) (Rp.tup h2 q2) nd ne;rw[<-e,uR _ nd];exact zEJ _
   .simp only[gB]at hd
    obtain⟨k,rfl⟩:∃k,n=k+1:=⟨n-1,by lia⟩
    have z:=zFT t1 t2 hu0 (IH k rfl _ _ _ _ _ _ _ _ _ q1 q2 w1 w2 (by lia) (gn nd) (gn ne) (by show A.units+1+k<cLine;lia));rw[iY (by rw[zAJ,<-w1.length,q1.length]) (by rw[zAJ,<-w2.length,q2.length])]at z;simp only[eqD];exact zDa hab z
  |lst h2 mm2 q2=>
   cases rv;obtain⟨its2,w2,t2⟩:=ok.lst h2;simp only[eqD];exact SeqAt.EqAt.tuple_list t1 t2 hu0
  |non=>cases rv;exact SeqAt.EqAt.tuple_none t1 hu0
  |bl b=>cases rv;exact SeqAt.EqAt.tuple_bool b t1 hu0
  |int i=>obtain⟨tk,rfl⟩:=rv;exact SeqAt.EqAt.tuple_int i tk t1 hu0
  |str i=>obtain⟨tk,rfl⟩:=rv;exact SeqAt.EqAt.tuple_str i tk t1 hu0
  |_=>exact zAH (ndx ne)
 |lst h1 mm1 q1=>
  rename_i a xs ds;cases ru;obtain⟨its,w1,t1⟩:=ok.lst h1;cases r2 with
  |lst h2 mm2 q2=>
   rename_i b ys es;cases rv;obtain⟨its2,w2,t2⟩:=ok.lst h2;by_cases hab:a=b
   .subst hab
    have e:=Rp.inj ok (Rp.lst h1 mm1 q1) (Rp.lst h2 mm2 q2) nd ne;rw[<-e,uR _ nd];exact zEJ _
   .simp only[gB]at hd
    obtain⟨k,rfl⟩:∃k,n=k+1:=⟨n-1,by lia⟩
    have l1:its.toArray.size=ds.length:=by rw[zAJ,<-w1.length,q1.length]
    have l2:its2.toArray.size=es.length:=by rw[zAJ,<-w2.length,q2.length]
    by_cases hl:its.toArray.size=its2.toArray.size
    .have z:=zF7 t1 t2 hl hu0 (IH k rfl _ _ _ _ _ _ _ _ _ q1 q2 w1 w2 (by lia) (gr nd) (gr ne) (by show A.units+1+k<cLine;lia))
     have z':=iY (ds:=ds) (es:=es) l1 l2;rw[<-hl,zE4,beq_self_eq_true,zFQ]at z';rw[z']at z;simp only[eqD];exact zDa hab z
    .have z:=zEW t1 t2 (by simpa using hl) hu0
     have z':=iY (ds:=ds) (es:=es) l1 l2;rw[beq_eq_false_iff_ne.mpr hl,zFF]at z';simp only[eqD];rw[<-z'];exact zDa hab z
  |tup h2 q2=>
   cases rv;obtain⟨its2,w2,t2⟩:=ok.tup h2;simp only[eqD];exact SeqAt.EqAt.list_tuple t1 t2 hu0
  |non=>cases rv;exact SeqAt.EqAt.list_none t1 hu0
  |bl b=>cases rv;exact SeqAt.EqAt.list_bool b t1 hu0
  |int i=>obtain⟨tk,rfl⟩:=rv;exact SeqAt.EqAt.list_int i tk t1 hu0
  |str i=>obtain⟨tk,rfl⟩:=rv;exact SeqAt.EqAt.list_str i tk t1 hu0
  |_=>exact zAH (ndx ne)
 |non=>
  cases ru;cases r2 with
  |tup h2 q2=>cases rv;obtain⟨_,_,t2⟩:=ok.tup h2;exact SeqAt.EqAt.none_tuple t2 hu0
  |lst h2 mm2 q2=>cases rv;obtain⟨_,_,t2⟩:=ok.lst h2;exact SeqAt.EqAt.none_list t2 hu0
  |dK _ _ _=>exact(bM ne).elim
  |dT _ _ _=>exact(bM ne).elim
  |set _ _ _ _=>exact(di ne).elim
  |scr _=>exact(dj ne).elim
  |fn _=>exact(fQ ne).elim
  |itm _=>exact(dm ne).elim
  |non=>cases rv;exact zEJ _
  |bl b=>cases rv;exact SeqAt.EqAt.none_bool b
  |int i=>obtain⟨tk,rfl⟩:=rv;exact SeqAt.EqAt.none_int i tk
  |str i=>obtain⟨tk,rfl⟩:=rv;exact SeqAt.EqAt.none_str i tk
 |bl a=>
  cases ru;cases r2 with
  |tup h2 q2=>cases rv;obtain⟨_,_,t2⟩:=ok.tup h2;exact SeqAt.EqAt.bool_tuple a t2 hu0
  |lst h2 mm2 q2=>cases rv;obtain⟨_,_,t2⟩:=ok.lst h2;exact SeqAt.EqAt.bool_list a t2 hu0
  |dK _ _ _=>exact(bM ne).elim
  |dT _ _ _=>exact(bM ne).elim
  |set _ _ _ _=>exact(di ne).elim
  |scr _=>exact(dj ne).elim
  |fn _=>exact(fQ ne).elim
  |itm _=>exact(dm ne).elim
  |non=>cases rv;exact SeqAt.EqAt.bool_none a
  |bl b=>cases rv;exact zFB a b
  |int i=>obtain⟨tk,rfl⟩:=rv;exact SeqAt.EqAt.bool_int a i tk
  |str i=>obtain⟨tk,rfl⟩:=rv;exact SeqAt.EqAt.bool_str a i tk
 |int a=>
  obtain⟨tu,rfl⟩:=ru;cases r2 with
  |tup h2 q2=>cases rv;obtain⟨_,_,t2⟩:=ok.tup h2;exact SeqAt.EqAt.int_tuple a tu t2 hu0
  |lst h2 mm2 q2=>cases rv;obtain⟨_,_,t2⟩:=ok.lst h2;exact SeqAt.EqAt.int_list a tu t2 hu0
  |dK _ _ _=>exact(bM ne).elim
  |dT _ _ _=>exact(bM ne).elim
  |set _ _ _ _=>exact(di ne).elim
  |scr _=>exact(dj ne).elim
  |fn _=>exact(fQ ne).elim
  |itm _=>exact(dm ne).elim
  |non=>cases rv;exact SeqAt.EqAt.int_none a tu
  |bl b=>cases rv;exact SeqAt.EqAt.int_bool a tu b
  |int i=>obtain⟨tk,rfl⟩:=rv;exact zFN a tu i tk
  |str i=>obtain⟨tk,rfl⟩:=rv;exact zFO a tu i tk
 |str a=>
  obtain⟨tu,rfl⟩:=ru;cases r2 with
  |tup h2 q2=>cases rv;obtain⟨_,_,t2⟩:=ok.tup h2;exact SeqAt.EqAt.str_tuple a tu t2 hu0
  |lst h2 mm2 q2=>cases rv;obtain⟨_,_,t2⟩:=ok.lst h2;exact SeqAt.EqAt.str_list a tu t2 hu0
  |dK _ _ _=>exact(bM ne).elim
  |dT _ _ _=>exact(bM ne).elim
  |set _ _ _ _=>exact(di ne).elim
  |scr _=>exact(dj ne).elim
  |fn _=>exact(fQ ne).elim
  |itm _=>exact(dm ne).elim
  |non=>cases rv;exact SeqAt.EqAt.str_none a tu
  |bl b=>cases rv;exact SeqAt.EqAt.str_bool a tu b
  |int i=>obtain⟨tk,rfl⟩:=rv;exact zFP a tu i tk
  |str i=>obtain⟨tk,rfl⟩:=rv;exact SeqAt.EqAt.str_str a tu i tk
 |_=>exact zAH (ndx nd)
def vd(ok:jY K H s)(n:Nat)(IH:aEd K H s n):aEe K H s n:=by
 intro A1 A2 xs ys ds es A us vs q1 q2 w1 w2 hd nd ne hu j h1 h2;have hj1:j<us.length:=by simpa using h1
 have hj2:j<vs.length:=by simpa using h2
 have hx:j<xs.length:=by rw[w1.length];exact hj1
 have hy:j<ys.length:=by rw[w2.length];exact hj2
 have ex:=zAR hx;have ey:=zAR hy;obtain⟨d,ed,rd⟩:=q1.get ex;obtain⟨e,ee,re⟩:=q2.get ey;obtain⟨u,eu,ru⟩:=w1.get ex;obtain⟨v,ev,rv⟩:=w2.get ey;have e1:us.toArray[j]=u:=by
  rw[zFu];exact zAg ((zAR hj1).symm.trans eu)
 have e2:vs.toArray[j]=v:=by
  rw[zFu];exact zAg ((zAR hj2).symm.trans ev)
 rw[e1,e2,ed,ee];exact IH _ _ _ _ _ _ _ _ _ rd re ru rv (zAe (vh (zAy ed)) hd) (nZ (zAy ed) nd) (nZ (zAy ee) ne) hu
theorem aEW(ok:jY K H s):∀n,aEd K H s n
 |0=>uQ ok 0 λ k h=>absurd h (by simp)
 |n+1=>uQ ok (n+1) λ k h=>by
  have h':=zFH h;subst h';exact vd ok n (aEW ok n)
def aI3(ok:jY K H s):∀{A1 A2:Addr->Prop} {x y:V} {d e:D} (n:Nat) {A:zA7} {u v:Value},Rp K A1 H x d->Rp K A2 H y e->RelV x u->RelV y v->gB d<=n->aV d=true->aV e=true->A.units+n<cLine->zCG A s u v (eqD d e)
 |_,_,_,_,_,_,n,A,u,v,r1,r2,ru,rv,hd,nd,ne,hu=>aEW ok n _ _ _ _ _ _ _ _ _ r1 r2 ru rv hd nd ne hu
def aGx(ok:jY K H s):∀{A1 A2:Addr->Prop} {xs ys:List V} {ds es:List D} (n:Nat) {A:zA7} {us vs:List Value},Rps K A1 H xs ds->Rps K A2 H ys es->Vals xs us->Vals ys vs->bU ds<=n->au ds=true->au es=true->A.units+n<cLine->
  ∀(j:Nat) (h1:j<us.toArray.size) (h2:j<vs.toArray.size),zCG A s us.toArray[j] vs.toArray[j] (match ds[j]?,es[j]? with|some a,some b=>eqD a b|_,_=>true)
 |_,_,xs,ys,ds,es,n,A,us,vs,q1,q2,w1,w2,hd,nd,ne,hu,j,h1,h2=>vd ok n (aEW ok n) _ _ _ _ _ _ _ _ _ q1 q2 w1 w2 hd nd ne hu j h1 h2
def aDF(ok:jY K H s)(n:Nat)(r1:Rp K A1 H x d)(r2:Rp K A2 H y e)(ru:RelV x u)(rv:RelV y v)(hd:gB d<=n)(nd:aV d=true)(ne:aV e=true)(hu:A.units+n<cLine):
  SeqAt.RcAt A s u v (eqD d e)/\SeqAt.RcNeAt A s u v (!eqD d e):=by
 have hu0:A.units<cLine:=by lia
 cases r1 with
 |tup h1 q1=>
  rename_i a xs ds;cases ru;obtain⟨its,w1,t1⟩:=ok.tup h1;cases r2 with
  |tup h2 q2=>
   rename_i b ys es;cases rv;obtain⟨its2,w2,t2⟩:=ok.tup h2;simp only[gB]at hd;obtain⟨k,rfl⟩:∃k,n=k+1:=⟨n-1,by lia⟩
   have he:=aGx ok (A:=A.in1) k q1 q2 w1 w2 (by lia) (gn nd) (gn ne) (by show A.units+1+k<cLine;lia);have z:=zFT t1 t2 hu0 he;have z2:=SeqAt.RcNeAt.tuples t1 t2 hu0 he;rw[iY (by rw[zAJ,<-w1.length,q1.length]) (by rw[zAJ,<-w2.length,q2.length])]at z z2;simp only[eqD];exact⟨z,z2⟩
  |lst h2 mm2 q2=>
   cases rv;obtain⟨its2,w2,t2⟩:=ok.lst h2;simp only[eqD];exact⟨SeqAt.RcAt.tuple_list t1 t2 hu0,SeqAt.RcNeAt.tuple_list t1 t2 hu0⟩
  |non=>cases rv;exact⟨SeqAt.RcAt.tuple_none t1 hu0,SeqAt.RcNeAt.tuple_none t1 hu0⟩
  |bl b=>cases rv;exact⟨SeqAt.RcAt.tuple_bool b t1 hu0,SeqAt.RcNeAt.tuple_bool b t1 hu0⟩
  |int i=>obtain⟨tk,rfl⟩:=rv;exact⟨SeqAt.RcAt.tuple_int i tk t1 hu0,SeqAt.RcNeAt.tuple_int i tk t1 hu0⟩
  |str i=>obtain⟨tk,rfl⟩:=rv;exact⟨SeqAt.RcAt.tuple_str i tk t1 hu0,SeqAt.RcNeAt.tuple_str i tk t1 hu0⟩
  |_=>exact zAH (ndx ne)
 |lst h1 mm1 q1=>
  rename_i a xs ds;cases ru;obtain⟨its,w1,t1⟩:=ok.lst h1;cases r2 with
  |lst h2 mm2 q2=>
   rename_i b ys es;cases rv;obtain⟨its2,w2,t2⟩:=ok.lst h2;simp only[gB]at hd;obtain⟨k,rfl⟩:∃k,n=k+1:=⟨n-1,by lia⟩
   have l1:its.toArray.size=ds.length:=by rw[zAJ,<-w1.length,q1.length]
   have l2:its2.toArray.size=es.length:=by rw[zAJ,<-w2.length,q2.length]
   have z':=iY (ds:=ds) (es:=es) l1 l2;by_cases hl:its.toArray.size=its2.toArray.size
   .have he:=aGx ok (A:=A.in1) k q1 q2 w1 w2 (by lia) (gr nd) (gr ne) (by show A.units+1+k<cLine;lia)
    have z:=zF7 t1 t2 hl hu0 he;have z2:=SeqAt.RcNeAt.lists t1 t2 hl hu0 he;rw[<-hl,zE4,beq_self_eq_true,zFQ]at z';rw[z']at z z2;simp only[eqD];exact⟨z,z2⟩
   .rw[beq_eq_false_iff_ne.mpr hl,zFF]at z'
    simp only[eqD];rw[<-z'];exact⟨zEW t1 t2 (by simpa using hl) hu0,SeqAt.RcNeAt.lists_lengths t1 t2 (by simpa using hl) hu0⟩
  |tup h2 q2=>
   cases rv;obtain⟨its2,w2,t2⟩:=ok.tup h2;simp only[eqD];exact⟨SeqAt.RcAt.list_tuple t1 t2 hu0,SeqAt.RcNeAt.list_tuple t1 t2 hu0⟩
  |non=>cases rv;exact⟨SeqAt.RcAt.list_none t1 hu0,SeqAt.RcNeAt.list_none t1 hu0⟩
  |bl b=>cases rv;exact⟨SeqAt.RcAt.list_bool b t1 hu0,SeqAt.RcNeAt.list_bool b t1 hu0⟩
  |int i=>obtain⟨tk,rfl⟩:=rv;exact⟨SeqAt.RcAt.list_int i tk t1 hu0,SeqAt.RcNeAt.list_int i tk t1 hu0⟩
  |str i=>obtain⟨tk,rfl⟩:=rv;exact⟨SeqAt.RcAt.list_str i tk t1 hu0,SeqAt.RcNeAt.list_str i tk t1 hu0⟩
  |_=>exact zAH (ndx ne)
 |non=>
  cases ru;cases r2 with
  |tup h2 q2=>cases rv;obtain⟨_,_,t2⟩:=ok.tup h2;exact⟨SeqAt.RcAt.none_tuple t2 hu0,SeqAt.RcNeAt.none_tuple t2 hu0⟩
  |lst h2 mm2 q2=>cases rv;obtain⟨_,_,t2⟩:=ok.lst h2;exact⟨SeqAt.RcAt.none_list t2 hu0,SeqAt.RcNeAt.none_list t2 hu0⟩
  |dK _ _ _=>exact(bM ne).elim
  |dT _ _ _=>exact(bM ne).elim
  |set _ _ _ _=>exact(di ne).elim
  |scr _=>exact(dj ne).elim
  |fn _=>exact(fQ ne).elim
  |itm _=>exact(dm ne).elim
  |non=>cases rv;exact⟨SeqAt.RcAt.none_none,SeqAt.RcNeAt.none_none⟩
  |bl b=>cases rv;exact⟨SeqAt.RcAt.none_bool b,SeqAt.RcNeAt.none_bool b⟩
  |int i=>obtain⟨tk,rfl⟩:=rv;exact⟨SeqAt.RcAt.none_int i tk,SeqAt.RcNeAt.none_int i tk⟩
  |str i=>obtain⟨tk,rfl⟩:=rv;exact⟨SeqAt.RcAt.none_str i tk,SeqAt.RcNeAt.none_str i tk⟩
 |bl a=>
  cases ru;cases r2 with
  |tup h2 q2=>cases rv;obtain⟨_,_,t2⟩:=ok.tup h2;exact⟨SeqAt.RcAt.bool_tuple a t2 hu0,SeqAt.RcNeAt.bool_tuple a t2 hu0⟩
  |lst h2 mm2 q2=>cases rv;obtain⟨_,_,t2⟩:=ok.lst h2;exact⟨SeqAt.RcAt.bool_list a t2 hu0,SeqAt.RcNeAt.bool_list a t2 hu0⟩
  |dK _ _ _=>exact(bM ne).elim
  |dT _ _ _=>exact(bM ne).elim
  |set _ _ _ _=>exact(di ne).elim
  |scr _=>exact(dj ne).elim
  |fn _=>exact(fQ ne).elim
  |itm _=>exact(dm ne).elim
  |non=>cases rv;exact⟨SeqAt.RcAt.bool_none a,SeqAt.RcNeAt.bool_none a⟩
  |bl b=>cases rv;exact⟨SeqAt.RcAt.bool_bool a b,SeqAt.RcNeAt.bool_bool a b⟩
  |int i=>obtain⟨tk,rfl⟩:=rv;exact⟨SeqAt.RcAt.bool_int a i tk,SeqAt.RcNeAt.bool_int a i tk⟩
  |str i=>obtain⟨tk,rfl⟩:=rv;exact⟨SeqAt.RcAt.bool_str a i tk,SeqAt.RcNeAt.bool_str a i tk⟩
 |int a=>
  obtain⟨tu,rfl⟩:=ru;cases r2 with
  |tup h2 q2=>cases rv;obtain⟨_,_,t2⟩:=ok.tup h2;exact⟨SeqAt.RcAt.int_tuple a tu t2 hu0,SeqAt.RcNeAt.int_tuple a tu t2 hu0⟩
  |lst h2 mm2 q2=>cases rv;obtain⟨_,_,t2⟩:=ok.lst h2;exact⟨SeqAt.RcAt.int_list a tu t2 hu0,SeqAt.RcNeAt.int_list a tu t2 hu0⟩
  |dK _ _ _=>exact(bM ne).elim
  |dT _ _ _=>exact(bM ne).elim
  |set _ _ _ _=>exact(di ne).elim
  |scr _=>exact(dj ne).elim
  |fn _=>exact(fQ ne).elim
  |itm _=>exact(dm ne).elim
  |non=>cases rv;exact⟨SeqAt.RcAt.int_none a tu,SeqAt.RcNeAt.int_none a tu⟩
  |bl b=>cases rv;exact⟨SeqAt.RcAt.int_bool a tu b,SeqAt.RcNeAt.int_bool a tu b⟩
  |int i=>obtain⟨tk,rfl⟩:=rv;exact⟨SeqAt.RcAt.int_int a tu i tk,SeqAt.RcNeAt.int_int a tu i tk⟩
  |str i=>obtain⟨tk,rfl⟩:=rv;exact⟨SeqAt.RcAt.int_str a tu i tk,SeqAt.RcNeAt.int_str a tu i tk⟩
 |str a=>
  obtain⟨tu,rfl⟩:=ru;cases r2 with
  |tup h2 q2=>cases rv;obtain⟨_,_,t2⟩:=ok.tup h2;exact⟨SeqAt.RcAt.str_tuple a tu t2 hu0,SeqAt.RcNeAt.str_tuple a tu t2 hu0⟩
  |lst h2 mm2 q2=>cases rv;obtain⟨_,_,t2⟩:=ok.lst h2;exact⟨SeqAt.RcAt.str_list a tu t2 hu0,SeqAt.RcNeAt.str_list a tu t2 hu0⟩
  |dK _ _ _=>exact(bM ne).elim
  |dT _ _ _=>exact(bM ne).elim
  |set _ _ _ _=>exact(di ne).elim
  |scr _=>exact(dj ne).elim
  |fn _=>exact(fQ ne).elim
  |itm _=>exact(dm ne).elim
  |non=>cases rv;exact⟨SeqAt.RcAt.str_none a tu,SeqAt.RcNeAt.str_none a tu⟩
  |bl b=>cases rv;exact⟨SeqAt.RcAt.str_bool a tu b,SeqAt.RcNeAt.str_bool a tu b⟩
  |int i=>obtain⟨tk,rfl⟩:=rv;exact⟨SeqAt.RcAt.str_int a tu i tk,SeqAt.RcNeAt.str_int a tu i tk⟩
  |str i=>obtain⟨tk,rfl⟩:=rv;exact⟨SeqAt.RcAt.str_str a tu i tk,SeqAt.RcNeAt.str_str a tu i tk⟩
 |_=>exact zAH (ndx nd)
end
section
variable{K:zAA}{H:Hp}{s:zAB}
open Classical in
def uz(K:zAA)(H:Hp)(d:D)(u:Value):Bool:=if h:∃e,aV e=true/\∃y,RelV y u/\Rp K (λ _=>True) H y e then eqD (choose h) d else false
def aB3(ok:jY K H s)(r:RelV y u)(h:Rp K A H y e)(ne:aV e=true):uz K H d u=eqD e d:=by
 have hx:∃e,aV e=true/\∃y,RelV y u/\Rp K (λ _=>True) H y e:=⟨e,ne,y,r,h.wk λ _ _ _ _=>trivial⟩
 unfold uz;rw[dif_pos hx];obtain⟨n',y',r',h'⟩:=Classical.choose_spec hx;have e1:=RelV.inj r r';subst e1;rw[Rp.inj ok h' h n' ne]
def inD(d:D)(es:List D):Bool:=es.any λ e=>eqD e d
def zQ(ok:jY K H s):∀{A:Addr->Prop} {xs:List V} {es:List D} {us:List Value},Rps K A H xs es->Vals xs us->au es=true->us.any (uz K H d)=inD d es:=by
 intro A xs es us h v n;induction v generalizing es with
 |nil=>cases h;rfl
 |cons k t ih=>
  cases h with
  |cons h r=>
   simp only[au,zAK]at n;unfold inD;rw[zGq,zGq,aB3 ok k h n.1,ih r n.2];rfl
def aBa(ok:jY K H s)(rx:Rp K A0 H x d)(rv:RelV x v)(hu:A.units+n<cLine)(nd:aV d=true):∀{A1:Addr->Prop} {xs:List V} {es:List D} {us:List Value},Rps K A1 H xs es->Vals xs us->bU es<=n->au es=true->∀u∈us,zCG A s u v (uz K H d u):=by
 intro A1 xs es us h v' hd ne u hm;induction v' generalizing es with
 |nil=>cases hm
 |cons k t ih=>
  cases h with
  |cons h r=>
   simp only[bU]at hd;simp only[au,zAK]at ne;rcases zAX.mp hm with z|z
   .subst z
    rw[aB3 ok k h ne.1];exact aI3 ok n h rx k rv (zAe (zEv _ _) hd) ne.1 nd hu
   .exact ih r (zAe (zEb _ _) hd) ne.2 z
end
section
variable{X:Cx}
def aBq(K:zAA)(neg:Bool):R2:=λ x y H Q=>∃A B d e,Rp K A H x d/\Rp K B H y e/\gB d<=60/\aV d=true/\aV e=true/\Q (.bl (if neg then !eqD d e else eqD d e)) H
def aD4(hu:X.A.units+64<cLine):OpR X (zBO .Eq) (aBq X.K false):=by
 intro kQ s σ H x y v u Q I rx ry h;obtain⟨A,B,d,e,r1,r2,hd,nd,ne,q⟩:=h;exact(aDF (Inv.seqOk I) 60 r1 r2 rx ry hd nd ne (by lia)).1 X.prog X.w X.xe _ ⟨.bl (eqD d e),H,I,rfl,q⟩
def aHq(hu:X.A.units+64<cLine):OpR X (zBO .NotEq) (aBq X.K true):=by
 intro kQ s σ H x y v u Q I rx ry h;obtain⟨A,B,d,e,r1,r2,hd,nd,ne,q⟩:=h;exact(aDF (Inv.seqOk I) 60 r1 r2 rx ry hd nd ne (by lia)).2 X.prog X.w X.xe _ ⟨.bl (!eqD d e),H,I,rfl,q⟩
def aH2(K:zAA)(neg:Bool):R2:=λ x y H Q=>∃A B d a es,Rp K A H x d/\y= .ref a/\(Rp K B H (.ref a) (.lst es)\/Rp K B H (.ref a) (.tup es))/\bU es<=60/\aV d=true/\au es=true/\Q (.bl (if neg then !inD d es else inD d es)) H
def aBv(hu:X.A.units+64<cLine):OpR X (zBO .NotIn) (aH2 X.K true):=by
 intro kQ s σ H x y v u Q I rx ry h;obtain⟨A,B,d,a,es,rd,rfl,ra,hd,nd,ne,q⟩:=h;cases ry;have ok:=Inv.seqOk I;have hu1:X.A.in1.units+60<cLine:=by show X.A.units+1+60<cLine;lia
 rcases ra with ra|ra
 .cases ra with
  |lst ha _ r=>
   obtain⟨its,rv,tl⟩:=ok.lst ha;refine SeqAt.notIn_listAt (uz X.K H d) tl (λ w hw=>aBa ok rd rx hu1 nd r rv hd ne w (by simpa using hw)) ⟨.bl _,H,I,rfl,?_⟩;rw[show its.toArray.any (uz X.K H d)=its.any (uz X.K H d)by simp,zQ ok r rv ne];exact q
 .cases ra with
  |tup ha r=>
   obtain⟨its,rv,tl⟩:=ok.tup ha;refine SeqAt.notIn_tupleAt (uz X.K H d) tl (λ w hw=>aBa ok rd rx hu1 nd r rv hd ne w (by simpa using hw)) ⟨.bl _,H,I,rfl,?_⟩;rw[show its.toArray.any (uz X.K H d)=its.any (uz X.K H d)by simp,zQ ok r rv ne];exact q
end
section
variable{K:zAA}
def eqR(neg:Bool):D->D->Rs D:=λ d e=>if decide (gB d<=60)&&aV d&&aV e then .ok (.bl (if neg then !eqD d e else eqD d e))else .st
def inR(neg:Bool):D->D->Rs D:=λ d e=>match e with
 | .lst es=>if decide (bU es<=60)&&aV d&&au es then .ok (.bl (if neg then !inD d es else inD d es))else .st
 | .tup es=>if decide (bU es<=60)&&aV d&&au es then .ok (.bl (if neg then !inD d es else inD d es))else .st
 |_=>.st
def os_eq:OpS K (aBq K n) (eqR n):=by
 intro A x y d e H Q z rx ry ez q;unfold eqR at ez;split at ez
 .rename_i h
  simp only[zAK,decide_eq_true_eq]at h;cases ez;exact⟨A,A,d,e,rx,ry,h.1.1,h.1.2,h.2,q _ H (aR.refl H) (.bl _)⟩
 .cases ez
def aJQ:OpS K (aH2 K n) (inR n):=by
 intro A x y d e H Q z rx ry ez q;unfold inR at ez;split at ez
 .split at ez
  .rename_i h
   simp only[zAK,decide_eq_true_eq]at h;cases ez;cases ry with
   |lst ha mm r=>exact⟨A,A,d,_,_,rx,rfl,.inl (.lst ha mm r),h.1.1,h.1.2,h.2,q _ H (aR.refl H) (.bl _)⟩
  .cases ez
 .split at ez
  .rename_i h
   simp only[zAK,decide_eq_true_eq]at h;cases ez;cases ry with
   |tup ha r=>exact⟨A,A,d,_,_,rx,rfl,.inr (.tup ha r),h.1.1,h.1.2,h.2,q _ H (aR.refl H) (.bl _)⟩
  .cases ez
 .cases ez
def aIU:∀x y z,eqR n x y= .ok z->imm z=true:=by
 intro x y z e;unfold eqR at e;split at e
 .cases e;rfl
 .cases e
end
section
variable{K:zAA}
def mmD(f:Int->Int->Int):List D->Rs D
 |[.int i,.int j]=>.ok (.int (f i j))
 |_=>.st
def aGz:qu K (λ xs H Q=>∃i j,xs=[.int i,.int j]/\Q (.int (f i j)) H) (mmD f):=by
 intro A xs ds H Q z r ez q;unfold mmD at ez;split at ez
 .cases ez
  cases r with
  |cons h r=>
   cases h;cases r with
   |cons h r=>
    cases h;cases r;exact⟨_,_,rfl,q _ H (aR.refl H) (.int _)⟩
 .cases ez
def aEF:∀x z,mmD f x= .ok z->imm z=true:=by
 intro x z e;unfold mmD at e;split at e
 .cases e;rfl
 .cases e
def j8:List D->Rs D
 |[.lst l]=>.ok (.tup l)
 |[.tup l]=>.ok (.tup l)
 |_=>.st
def aE2:qu K (λ xs H Q=>∃p ys,xs=[.ref p]/\((SqL K H p ys/\∀l,H l=none->Q (.ref l) (upd H l (.tup ys)))\/(SqT K H p ys/\Q (.ref p) H))) j8:=by
 intro A xs ds H Q z r ez q;unfold j8 at ez;split at ez
 .cases ez
  cases r with
  |cons h r=>
   cases r;cases h with
   |lst h m r=>exact⟨_,_,rfl,.inl ⟨SqL.of h,λ l hl=>q _ _ (bT hl _) (.tup (SqT.of ak) ((r.wk λ _ _ _ z=>.inr z.1).up (bT hl _)))⟩⟩
 .cases ez
  cases r with
  |cons h r=>
   cases r;cases h with
   |tup h r=>exact⟨_,_,rfl,.inr ⟨h,q _ H (aR.refl H) (.tup h (r.wk λ _ _ _ z=>.inr z))⟩⟩
 .cases ez
end
def cutD(l:List D)(lo hi:Option Int):List D:=(l.drop (HT.sIx l.length 0 lo)).take (HT.sIx l.length l.length hi-HT.sIx l.length 0 lo)
def Rps.cut{K:zAA}(r:Rps K A H xs ds)(lo hi:Option Int):Rps K A H (uc xs lo hi) (cutD ds lo hi):=by
 unfold uc cutD;rw[r.length];exact(r.drop _).take _
def slD(d:D)(lo hi:Option Int):Rs D:=match d with
 | .tup l=>.ok (.tup (cutD l lo hi))
 | .lst l=>.ok (.lst (cutD l lo hi))
 |_=>.st
def aJE(K:zAA):V->Option Int->Option Int->Hp->VK->Prop:=λ x lo hi H Q=>(∃a xs,x= .ref a/\SqT K H a xs/\∀c H',aR H H'->SqT K H' c (uc xs lo hi)->Q (.ref c) H')\/aJF K x lo hi H Q
def aEw:SlR X (λ x lo hi H Q=>∃a xs,x= .ref a/\SqT X.K H a xs/\∀c H',aR H H'->SqT X.K H' c (uc xs lo hi)->Q (.ref c) H'):=by
 intro kQ s σ H x v vl vu lo hi sl Q I rx hs pl pu h;obtain⟨a,xs,rfl,hx,q⟩:=h;cases rx;obtain⟨its,r,ht,hz⟩:=I.tuple hx;have kX:its.toArray.size=xs.length:=by rw[zAJ];exact r.length.symm
 refine⟨"tuple",_,zBI.lookup,ht.typeIs,?_⟩;by_cases hw:HT.sIx xs.length 0 lo=0/\HT.sIx xs.length xs.length hi=xs.length
 .refine HT.pJ ht hs pl pu (by rw[kX];exact hw.1) (by rw[kX];exact hw.2) ⟨.ref a,H,I,rfl,q a H (aR.refl H) ?_⟩
  have:uc xs lo hi=xs:=by
   unfold uc;rw[hw.1,hw.2,zDJ,zFx,List.take_length]
  rw[this];exact hx
 .refine HT.pI ht hs pl pu (by rw[kX];exact hw) ?_ (by rw[kX];exact hz)
  rw[kX];refine⟨.ref s.heap.objs.size,_,I.laid (t':=s.toks) (o:=.tup (uc xs lo hi)) (λ b ob q=>zAG _ q) (zAL _) ?_,rfl,q _ _ (bT (I.hok.fresh (zAL _)) _) (SqT.of ak)⟩;exact⟨⟨zAe (qp xs lo hi) hz,NoD.push _⟩,_,(r.drop (HT.sIx xs.length 0 lo)).take (HT.sIx xs.length xs.length hi-HT.sIx xs.length 0 lo),zDx _ _⟩
def aJs:SlR X (aJE X.K):=aEw.or aEx
section
variable{C:Ct}{pos p2:Pos}{m:Mode}{a e:Expr}{fa fe:En->Rs D}{lo hi:Option Expr}
def aKE(K:zAA)(G:Gx)(t:TO)(f:En->Rs (Option Int)):Prop:=∀τ σ H Y lab (Q:Option Int->Hp->Prop),RR K G τ Y σ H lab->WR G (f Y) (λ o=>∀H',aR H H'->Q o H')->t σ H Q
def SO(C:Ct)(e:Option Expr)(f:En->Rs (Option Int)):Prop:=∃t,(∀i,PO (C.X i) e t)/\aKE C.K C.G t f
def fB:En->Rs (Option Int):=λ _=>.ok none
def cZ(fe:En->Rs D):En->Rs (Option Int):=λ Y=>(fe Y).bd λ d=>match d with
 | .int i=>.ok (some i)
 |_=>.st
def mG:SO C none fB:=⟨_,λ _=>aFS,λ τ σ H Y lab Q R W=>W H (aR.refl H)⟩
def gM(h:SE C m e fe):SO C (some e) (cZ fe):=by
 obtain⟨t,h1,h2⟩:=h;refine⟨_,λ i=>aFR (h1 i),λ τ σ H Y lab Q R W=>h2 τ σ H Y lab _ R (W.bd.imp λ d _ w x H1 s r=>?_)⟩;cases r with
 |int i=>exact⟨i,rfl,w H1 s⟩
 |_=>exact zAH w
def bw(fa:En->Rs D)(fl fh:En->Rs (Option Int)):En->Rs D:=λ Y=>(fa Y).bd λ d=>(fl Y).bd λ l=>(fh Y).bd λ h=>okD (slD d l h)
def iH{fl fh:En->Rs (Option Int)}(ha:SE C m a fa)(hl:SO C lo fl)(hh:SO C hi fh):SE C m (.Subscript a (.Slice lo hi none p2) pos) (bw fa fl fh):=by
 obtain⟨t,h1,h2⟩:=ha;obtain⟨tl,l1,l2⟩:=hl;obtain⟨th,k1,k2⟩:=hh;refine⟨tSl (aJE C.K) t tl th,λ i=>by rw[<-C.hK i];exact aDZ aJs (h1 i) (l1 i) (k1 i),λ τ σ H Y lab Q R W=>h2 τ σ H Y lab _ R (W.bd.imp λ d _ w x H1 s1 r1=>?_)⟩;refine l2 τ σ H1 Y lab _ (R.up s1) (w.bd.imp λ ol _ w H2 s2=>?_);refine k2 τ σ H2 Y lab _ ((R.up s1).up s2) (w.bd.imp λ oh _ w H3 s3=>?_);obtain⟨z,ez,w⟩:=w.okD;have s:=s1.trans (s2.trans s3);have r3:=r1.up (s2.trans s3);cases d with
 |tup l=>
  cases ez;cases r3 with
  |tup h r=>exact .inl ⟨_,_,rfl,h,λ c H' s' hc=>w _ H' (s.trans s') (.tup hc ((r.cut ol oh).up s'))⟩
 |lst l=>
  cases ez;cases r3 with
  |lst h mm r=>
   exact .inr ⟨_,_,rfl,SqL.of h,λ p hp=>w _ _ (s.trans (bT hp _)) (.lst ak (.inl (s.free hp)) (((r.cut ol oh).wk λ q o e z=>⟨z.1,λ e'=>by subst e';rw[hp]at e;cases e⟩).up (bT hp _)))⟩
 |_=>cases ez
def rD(fd:D->D->Rs D)(i:Nat)(fe:En->Rs D):En->Ou:=λ Y=>(op2 fd (iu i) fe Y).bo λ d=>.nx (Y.set i (.sh d))
def aCh(he:SE C m e fe)(ho:∀j,PIp (C.X j) op (ipI f))(hN:∀j,(C.X j).N[i]? =some x:=by intro _;rfl)(hx:∀j,Loc (C.X j).env.scope x:=by intro _;first|exact zBj rfl|exact zBG rfl)(hf:∀j,(C.X j).fn x=true\/(C.X j).env.scope.names.lookup x=some .local:=by intro _;first|exact .inl rfl|exact .inr rfl)(nd:∀j,(C.X j).N.Nodup:=by intro _;assumption):SS C (.AugAssign (.Name x pos') op e pos) (rD (i2 (λ _ _=>true) λ a b=>.int (f a b)) i fe):=by
 obtain⟨t,h1,h2⟩:=he;refine⟨_,λ j=>aDS (nd j) (hN j) (hx j) (h1 j) (ho j) (hf j),λ τ σ H Y lab De R W=>?_⟩;have w0:=(WS.bo W).bd;refine wN C.K C.G i τ σ H Y lab (λ v H'=>t σ H' λ y H1=>ipI f v y H1 λ z H2=>De.nx (σ.set i (some z)) H2) R (w0.imp λ d _ w v H' s r=>h2 τ σ H' Y lab _ (R.up s) (w.bd.imp λ e _ w y H1 s1 r1=>?_));obtain⟨z,ez,w⟩:=w.okD;unfold i2 at ez;split at ez
 .cases ez
  cases r;cases r1;exact⟨_,_,rfl,rfl,w _ _ _ (((R.up s).up s1).put (s:=.sh (.int _)) (Rp.int _))⟩
 .cases ez
end
section
variable{C:Ct}{pos p:Pos}{m m1 m2:Mode}{a b e:Expr}{fa fb:En->Rs D}{ga:En->Rs (List D)}
def Ct.u0(C:Ct)(i:C.ι):(C.X i).A.units<cLine:=(C.room i).units0
def Ct.u64(C:Ct)(i:C.ι):(C.X i).A.units+64<cLine:=(C.room i).units
def Ct.ltR(C:Ct)(i:C.ι):OpR (C.X i) (zBO .Lt) (λ x y H Q=>rI0 (λ i j=>.bl (decide (i<j))) x y H Q\/aFK C.K x y H Q):=by have h:=aHt (X:=C.X i) (C.u0 i);rw[C.hK i]at h;exact h
def Ct.eqRl(C:Ct)(i:C.ι):OpR (C.X i) (zBO .Eq) (aBq C.K false):=by have h:=aD4 (X:=C.X i) (C.u64 i);rw[C.hK i]at h;exact h
def Ct.neRl(C:Ct)(i:C.ι):OpR (C.X i) (zBO .NotEq) (aBq C.K true):=by have h:=aHq (X:=C.X i) (C.u64 i);rw[C.hK i]at h;exact h
def Ct.ninRl(C:Ct)(i:C.ι):OpR (C.X i) (zBO .NotIn) (aH2 C.K true):=by have h:=aBv (X:=C.X i) (C.u64 i);rw[C.hK i]at h;exact h
def Ct.aIc(C:Ct)(i:C.ι):OpR (C.X i) (zBg .Add) (aDK C.K):=by have h:=aF7 (X:=C.X i);rw[C.hK i]at h;exact h
def aBh:D->D->Rs D:=i2 (λ _ _=>true) λ i j=>.int (i-j)
def qj:D->D->Rs D:=i2 (λ _ j=>decide (0<j)&&decide (j<1073741824)) λ i j=>.int (i / j)
def qI:D->D->Rs D:=i2 (λ _ j=>decide (0<j)) λ i j=>.int (i%j)
def aH7:D->D->Rs D:=i2 (λ i j=>decide (0<=j)&&decide (j<=1000000)&&decide (i.natAbs<2^64)) λ i j=>.int (i^j.toNat)
def bf(ha:SE C m1 a fa)(hb:SE C m2 b fb):SE C (jn m1 m2) (.BinOp a .Add b pos) (op2 bL fa fb):=qZ C.aIc aHm ha hb
def jh(ha:SE C m1 a fa)(hb:SE C m2 b fb):SE C (jn m1 m2) (.BinOp a .Mult b pos) (op2 gA fa fb):=qZ (λ _=>aF3) aHk ha hb
def aCq(ha:SE C m1 a fa)(hb:SE C m2 b fb):SE C (some []) (.BinOp a .Sub b pos) (op2 aBh fa fb):=iI (qZ (λ _=>aHn) aF1 ha hb) λ _ _ h=>mZ xP h
def aAu(ha:SE C m1 a fa)(hb:SE C m2 b fb):SE C (some []) (.BinOp a .FloorDiv b pos) (op2 qj fa fb):=iI (qZ (λ _=>aF4) (aAF λ i j h=>by simpa[aJf]using h) ha hb) λ _ _ h=>mZ xP h
def pY(ha:SE C m1 a fa)(hb:SE C m2 b fb):SE C (some []) (.BinOp a .Mod b pos) (op2 qI fa fb):=iI (qZ (λ _=>aHs) (aAF λ i j h=>by simpa using h) ha hb) λ _ _ h=>mZ xP h
def aHQ(ha:SE C m1 a fa)(hb:SE C m2 b fb):SE C (some []) (.BinOp a .Pow b pos) (op2 aH7 fa fb):=iI (qZ (λ _=>aHp) (aAF λ i j h=>by simp only[zAK,decide_eq_true_eq]at h;exact⟨h.1.1,h.1.2,h.2⟩) ha hb) λ _ _ h=>mZ xP h
def aJC(ha:SE C m1 a fa)(hb:SE C m2 b fb):SE C (some []) (.Compare a [.GtE] [b] pos) (op2 geD fa fb):=iI (aCs (λ _=>aGr) wj ha hb) λ _ _ h=>mZ aIV h
def aAv(ha:SE C m1 a fa)(hb:SE C m2 b fb):SE C (some []) (.Compare a [.Eq] [b] pos) (op2 (eqR false) fa fb):=iI (aCs C.eqRl os_eq ha hb) λ _ _ h=>mZ aIU h
def yI(ha:SE C m1 a fa)(hb:SE C m2 b fb):ST C (.Compare a [.Lt] [b] pos) (tsb (op2 ltD fa fb)):=nM C.ltR aJO ha hb
def vJ(ha:SE C m1 a fa)(hb:SE C m2 b fb):ST C (.Compare a [.Gt] [b] pos) (tsb (op2 gtD fa fb)):=nM (λ _=>aJS) wj ha hb
def aIy(ha:SE C m1 a fa)(hb:SE C m2 b fb):ST C (.Compare a [.GtE] [b] pos) (tsb (op2 geD fa fb)):=nM (λ _=>aGr) wj ha hb
def vK(ha:SE C m1 a fa)(hb:SE C m2 b fb):ST C (.Compare a [.Eq] [b] pos) (tsb (op2 (eqR false) fa fb)):=nM C.eqRl os_eq ha hb
def aAm(ha:SE C m1 a fa)(hb:SE C m2 b fb):ST C (.Compare a [.NotEq] [b] pos) (tsb (op2 (eqR true) fa fb)):=nM C.neRl os_eq ha hb
def aHJ(ha:SE C m1 a fa)(hb:SE C m2 b fb)(hm:zBk .NotIn b=false:=by with_unfolding_all rfl):ST C (.Compare a [.NotIn] [b] pos) (tsb (op2 (inR true) fa fb)):=nM C.ninRl aJQ ha hb hm
def aL(ha:SE C m1 a fa)(hb:SE C m2 b fb)(hp:aBb b:=by exact λ _ _=>rfl):SE C m1 (.Subscript a b pos) (op2 ixD fa fb):=by
 obtain⟨t,h1,h2⟩:=ha;obtain⟨u,k1,k2⟩:=hb;refine⟨tOp (rIx C.K) t u,λ i=>by rw[<-C.hK i];exact aGp aIT (h1 i) (k1 i) hp,λ τ σ H Y lab Q R W=>?_⟩;refine h2 τ σ H Y lab _ R (W.bd.imp λ d _ w x H1 s1 r1=>?_);refine k2 τ σ H1 Y lab _ (R.up s1) (w.bd.imp λ e _ w y H2 s2 r2=>?_);obtain⟨z,ez,w⟩:=w.okD;have hi:imm e=true:=by
  unfold ixD at ez;split at ez<;>first|rfl|cases ez
 refine aJP (fpM m1 lab H) x y d e H2 Q z (r1.up s2) (r2.imm hi) ez λ v H' s r=>w v H' ((s1.trans s2).trans s) (r.wk λ p o _ q=>?_)
 rcases q with q|q
 .exact .inl ((s1.trans s2).free q)
 .exact q
def dD(hm:C.mg "len"=none)(ha:SA C m [a] ga)(he:∀i,zA2 [a] (C.X i).env=[(false,eval a (C.X i).env)]:=by intro _;rfl)(hg:∀i,Gl (C.X i) "len":=by intro _;rfl):SE C (some []) (.Call (.Name "len" p) [a] [] pos) (opA cJ ga):=
 iI (oX (λ i=>by have h:=xZ (X:=C.X i);rw[C.hK i]at h;exact h) aI5 hg hm PySem.boot_len ha (by decide) (by decide) he) λ _ _ h=>pH aFz h
def aAt(hm:C.mg "min"=none)(ha:SA C m [a,b] ga)(he:∀i,zA2 [a,b] (C.X i).env=(false,eval a (C.X i).env)::zA2 [b] (C.X i).env:=by intro _;rfl)(hpl:∀i,(zCI pos (zA2 [b] (C.X i).env)).any (·.1)=false:=by intro _;rfl)(hg:∀i,Gl (C.X i) "min":=by intro _;rfl)(hv:zAn "min"=some (.builtin "min"):=by decide+kernel):SE C (some []) (.Call (.Name "min" p) [a,b] [] pos) (opA (mmD λ i j=>if j<i then j else i) ga):=
 iI (oX (λ i=>aCT (C.calm i)) aGz hg hm hv ha (by decide) (by decide) he hpl) λ _ _ h=>pH aEF h
def rP(hm:C.mg "max"=none)(ha:SA C m [a,b] ga)(he:∀i,zA2 [a,b] (C.X i).env=(false,eval a (C.X i).env)::zA2 [b] (C.X i).env:=by intro _;rfl)(hpl:∀i,(zCI pos (zA2 [b] (C.X i).env)).any (·.1)=false:=by intro _;rfl)(hg:∀i,Gl (C.X i) "max":=by intro _;rfl)(hv:zAn "max"=some (.builtin "max"):=by decide+kernel):SE C (some []) (.Call (.Name "max" p) [a,b] [] pos) (opA (mmD λ i j=>if j>i then j else i) ga):=
 iI (oX (λ i=>aCV (C.calm i)) aGz hg hm hv ha (by decide) (by decide) he hpl) λ _ _ h=>pH aEF h
def oW(hm:C.mg "tuple"=none)(ha:SA C m [a] ga)(he:∀i,zA2 [a] (C.X i).env=[(false,eval a (C.X i).env)]:=by intro _;rfl)(hg:∀i,Gl (C.X i) "tuple":=by intro _;rfl)(hv:zAn "tuple"=some (.type "tuple"):=by decide+kernel):SE C m (.Call (.Name "tuple" p) [a] [] pos) (opA j8 ga):=
 yM (λ i=>by have h:=vC (X:=C.X i);rw[C.hK i]at h;exact h) aE2 hg hm hv ha (by decide) (by decide) he
def aHT{K:zAA}{a:Addr}(hO:Only H)(h:SqL K H a (ns.map V.int)):nJ K H a ns:=by
 rcases h with (h|⟨o,h⟩)|h
 .rcases hO a with z|⟨o,xs,z⟩
  .rw[h]at z;cases z
  .rw[h]at z;cases z
 .exact .inl ⟨o,h⟩
 .exact .inr h
end
def oY:V->List V->Hp->VK->Prop:=λ x vs H Q=>∃l b xs zs,x= .ref l/\vs=[.ref b]/\H l=some (.lst xs)/\H b=some (.lst zs)/\xs.length+zs.length<=zAN/\∀H',jZ l H H'->H' l=some (.lst (xs++zs))->Q .non H'
def n6:MtM X "list.extend" oY:=λ kQ s σ H x xs v us Q I rx rv ⟨l,b,ys,zs,e1,e2,h,h2,z,n⟩=>
 aBz kQ s σ H x xs v us Q I rx rv ⟨l,b,ys,zs,e1,e2,h,h2,z,n _ (λ b o ne hb=>by rw[aU ne];exact hb) ak⟩
def aGi:V->List V->Hp->VK->Prop:=λ x vs H Q=>∃l xs y,x= .ref l/\vs=[]/\H l=some (.lst xs)/\xs[xs.length-1]? =some y/\∀H',jZ l H H'->H' l=some (.lst xs.dropLast)->Q y H'
def aFb:MtM X "list.pop" aGi:=λ kQ s σ H x xs v us Q I rx rv ⟨l,ys,y,e1,e2,h,z,n⟩=>
 aIC kQ s σ H x xs v us Q I rx rv ⟨l,ys,y,e1,e2,h,z,n _ (λ b o ne hb=>by rw[aU ne];exact hb) ak⟩
theorem Rps.dropLast{K:zAA}(r:Rps K A H xs ds):Rps K A H xs.dropLast ds.dropLast:=by
 rw[zFj,zFj,r.length];exact r.take _
section
variable{C:Ct}{pos apos cpos p:Pos}{e tg:Expr}{fe:En->Rs D}{fg:D->En->Rs En}{i:Nat}{x:Str}{m:Mode}{ks:List Nat}
def zF(ds:List D)(k:List D->Ou):D->Ou
 | .lst es=>if ds.length+es.length<=zAN then k (ds++es)else .st
 |_=>.st
def aA0(i:Nat)(fe:En->Rs D):En->Ou:=λ Y=>match Y[i]? with
 |some (.ow (.lst ds))=>(fe Y).bo (zF ds λ l=>.nx (Y.set i (.ow (.lst l))))
 |_=>.st
def aCQ(i:Nat)(fe:En->Rs D):En->Ou:=λ Y=>match Y[i]? with
 |some (.oz (.lst ds))=>(fe Y).bo (zF ds λ l=>.nx (Y.set i (.oz (.lst l))))
 |_=>.st
def zf(i:Nat)(he:SE C m e fe)(hm:okS m=true:=by rfl)(hN:∀j,(C.X j).N[i]? =some x:=by intro _;rfl)(hv:∀j,Vis (C.X j).env.scope x:=by intro _;first|exact zBj rfl|exact zBG (zBj rfl)|exact zBG (zBG rfl))(hd:Nd x:=by decide)
  (hcd:(x==("__classdict__":Str))=false:=by decide)(hs1:∀j,zA2 [e] (C.X j).env=[(false,eval e (C.X j).env)]:=by intro _;rfl)
  (hbase:∀j,zCb (.Name x p) "extend" (C.X j).env (eval (.Name x p) (C.X j).env)=eval (.Name x p) (C.X j).env:=by intro _;rfl)
  (hfew:∀j,((zCI cpos (zA2 [e] (C.X j).env)).all (λ x=>!x.1)&&(zEh cpos (zDM [] (C.X j).env)).all (λ x=>x.1.isSome)&&decide ([e].length+([]:List zCK).length+(if ([]:List zCK).isEmpty then 0 else 1)<30))=true:=by intro _;rfl)
  (hline:(apos.endLine==cpos.line)=true:=by rfl)
  (hsw:∀j,zDN (.Call (.Attribute (.Name x p) "extend" apos) [e] [] cpos) none pos.line (C.X j).env=pure false:=by intro _;rfl):
  SS C (.Expr (.Call (.Attribute (.Name x p) "extend" apos) [e] [] cpos) pos) (aCQ i fe):=by
 obtain⟨t,h1,h2⟩:=he;refine⟨sS (tBM C.K "list" oY (jN i) (iG t pX)),λ j=>mO (by rw[<-C.hK j];exact vR zBF zCX zDH n6 (dX (hN j) (hv j) hd hcd) (aX (h1 j) dF (hs1 j)) (hbase j) (hfew j) hline (hs1 j) rfl) (hsw j),λ τ σ H Y lab De R W=>?_⟩;unfold aCQ at W;cases es:Y[i]? with
 |none=>rw[es]at W;exact zAH W
 |some s=>
  rw[es]at W;split at W
  .rename_i ds hs
   cases hs;rcases R.sl i _ es with z|⟨v,ev,a0,xs,ds',rfl,hds,h,la0,r⟩
   .cases z
   .cases hds
    refine⟨.ref a0,ev,.inl ⟨rfl,xs,SqL.of h⟩,h2 τ σ H Y lab _ R (W.bo.imp λ d _ w y H2 s2 r2=>?_)⟩;cases d with
    |lst es'=>
     dsimp only[zF]at w;by_cases hz:ds.length+es'.length<=zAN
     .rw[if_pos hz]at w
      obtain⟨R',r'⟩:=R.shared hm s2 r2;cases r' with
      |lst hb mb rb=>
       rename_i b zs;refine⟨a0,b,xs,zs,rfl,rfl,s2 _ _ h,hb,by rw[r.length,rb.length];exact hz,λ H3 B h3=>?_⟩;have la:(cL H 1 lab a0).1=i+2:=by rw[bQ h];exact la0
       refine w σ H3 _ (R'.mut ev (s2 _ _ h) rfl la B ⟨a0,_,_,rfl,rfl,h3,la,?_⟩);have ra:Rps C.K (λ p=>(cL H 1 lab p).1<=1) H2 (xs++zs) (ds++es'):=
        (r.mono s2 λ p o e z=>by rw[bQ e];exact z).append (rb.wk λ p o e z=>z.1)
       exact ra.but B (s2 _ _ h) rfl λ z=>by omega
     .rw[if_neg hz]at w
      exact zAH w
    |_=>exact zAH w
  .exact zAH W
def vL(i:Nat)(he:SE C m e fe)(hm:okN m=true:=by rfl)(hN:∀j,(C.X j).N[i]? =some x:=by intro _;rfl)(hv:∀j,Vis (C.X j).env.scope x:=by intro _;first|exact zBj rfl|exact zBG (zBj rfl)|exact zBG (zBG rfl))(hd:Nd x:=by decide)
  (hcd:(x==("__classdict__":Str))=false:=by decide)(hs1:∀j,zA2 [e] (C.X j).env=[(false,eval e (C.X j).env)]:=by intro _;rfl)
  (hbase:∀j,zCb (.Name x p) "extend" (C.X j).env (eval (.Name x p) (C.X j).env)=eval (.Name x p) (C.X j).env:=by intro _;rfl)
  (hfew:∀j,((zCI cpos (zA2 [e] (C.X j).env)).all (λ x=>!x.1)&&(zEh cpos (zDM [] (C.X j).env)).all (λ x=>x.1.isSome)&&decide ([e].length+([]:List zCK).length+(if ([]:List zCK).isEmpty then 0 else 1)<30))=true:=by intro _;rfl)
  (hline:(apos.endLine==cpos.line)=true:=by rfl)
  (hsw:∀j,zDN (.Call (.Attribute (.Name x p) "extend" apos) [e] [] cpos) none pos.line (C.X j).env=pure false:=by intro _;rfl):
  SS C (.Expr (.Call (.Attribute (.Name x p) "extend" apos) [e] [] cpos) pos) (aA0 i fe):=by
 obtain⟨t,h1,h2⟩:=he;refine⟨sS (tBM C.K "list" oY (jN i) (iG t pX)),λ j=>mO (by rw[<-C.hK j];exact vR zBF zCX zDH n6 (dX (hN j) (hv j) hd hcd) (aX (h1 j) dF (hs1 j)) (hbase j) (hfew j) hline (hs1 j) rfl) (hsw j),λ τ σ H Y lab De R W=>?_⟩;unfold aA0 at W;cases es:Y[i]? with
 |none=>rw[es]at W;exact zAH W
 |some s=>
  rw[es]at W;split at W
  .rename_i ds hs
   cases hs;rcases R.sl i _ es with z|⟨v,ev,hv'⟩
   .cases z
   .obtain⟨hv1,htop⟩:=hv'
    obtain⟨a0,ea0,la0⟩:=htop rfl;subst ea0;cases hv1 with
    |lst h mm r=>
     rename_i xs;refine⟨.ref a0,ev,.inl ⟨rfl,xs,SqL.of h⟩,h2 τ σ H Y lab _ R (W.bo.imp λ d _ w y H2 s2 r2=>?_)⟩;cases d with
     |lst es'=>
      dsimp only[zF]at w;by_cases hz:ds.length+es'.length<=zAN
      .rw[if_pos hz]at w
       obtain⟨R',r'⟩:=R.fresh (P:=λ k=>k=1) rfl (λ k hk=>beq_iff_eq.mp (jq hm k hk)) s2 r2;have la:(cL H 1 lab a0).1=i+2:=by rw[bQ h];exact la0
       cases r' with
       |lst hb mb rb=>
        rename_i b zs;refine⟨a0,b,xs,zs,rfl,rfl,s2 _ _ h,hb,by rw[r.length,rb.length];exact hz,λ H3 B h3=>?_⟩;refine w σ H3 _ (R'.mut ev (s2 _ _ h) rfl la B ⟨.lst h3 (.inr la) ?_,λ _=>⟨a0,rfl,la⟩⟩);have ra:Rps C.K (λ p=>((cL H 1 lab p).1=1\/(cL H 1 lab p).1=i+2)/\p≠a0) H2 (xs++zs) (ds++es'):=by
         refine(r.mono s2 λ p o e z=>⟨by rw[bQ e];exact z.1,z.2⟩).append (rb.wk λ p o e z=>⟨.inl z.1,λ q=>?_⟩);subst q;have z1:(cL H 1 lab p).1=1:=z.1;omega
        exact ra.but B (s2 _ _ h) rfl λ z=>z.2 rfl
      .rw[if_neg hz]at w
       exact zAH w
     |_=>exact zAH w
  .exact zAH W
def aH8(i:Nat)(fg:D->En->Rs En)(Y:En)(ds:List D):Ou:=match ds.getLast? with
 |some d=>match fg d (Y.set i (.oz (.lst ds.dropLast)))with
  | .ok Y'=>.nx Y'
  |_=>.st
 |none=>.st
def aBs(i:Nat)(fg:D->En->Rs En):En->Ou:=λ Y=>match Y[i]? with
 |some (.oz (.lst ds))=>aH8 i fg Y ds
 |_=>.st
def aEs(i:Nat)(hg:SG C tg ks fg)(hN:∀j,(C.X j).N[i]? =some x:=by intro _;rfl)(hv:∀j,Vis (C.X j).env.scope x:=by intro _;first|exact zBj rfl|exact zBG (zBj rfl)|exact zBG (zBG rfl))(hd:Nd x:=by decide)
  (hcd:(x==("__classdict__":Str))=false:=by decide)
  (hbase:∀j,zCb (.Name x p) "pop" (C.X j).env (eval (.Name x p) (C.X j).env)=eval (.Name x p) (C.X j).env:=by intro _;rfl)
  (hline:(apos.endLine==cpos.line)=true:=by rfl)
  (hs:∀j,zEl [tg] (.Call (.Attribute (.Name x p) "pop" apos) [] [] cpos) pos.line (C.X j).env=pure false:=by intro _;rfl)(hw:∀j,zEk [tg] (.Call (.Attribute (.Name x p) "pop" apos) [] [] cpos) (C.X j).env=pure none:=by intro _;rfl)
  (h1:∀j,(zBt [tg] (C.X j).env).map (·.2)=[zFJ tg (C.X j).env]:=by intro _;rfl):
  SS C (.Assign [tg] (.Call (.Attribute (.Name x p) "pop" apos) [] [] cpos) pos) (aBs i fg):=by
 obtain⟨g,q1,q2,_,_⟩:=hg;refine⟨yF (aIw C.K "list" aGi (jN i)) g,λ j=>aAB (by rw[<-C.hK j];exact aHg zBF zGK PySem.F.type_list_pop aFb (dX (hN j) (hv j) hd hcd) (hbase j) hline) (q1 j) (hs j) (hw j) (h1 j),λ τ σ H Y lab De R W=>?_⟩;unfold aBs at W;cases es:Y[i]? with
 |none=>rw[es]at W;exact zAH W
 |some s=>
  rw[es]at W;split at W
  .rename_i ds hs
   cases hs;rcases R.sl i _ es with z|⟨v,ev,a0,xs,ds',rfl,hds,h,la0,r⟩
   .cases z
   .cases hds
    unfold aH8 at W;cases hlast:ds.getLast? with
    |none=>rw[hlast]at W;exact zAH W
    |some d=>
     rw[hlast]at W;dsimp only at W;rw[List.getLast?_eq_getElem?,<-r.length]at hlast;obtain⟨y,hy,ry⟩:=r.getD hlast;refine⟨.ref a0,ev,.inl ⟨rfl,xs,SqL.of h⟩,a0,xs,y,rfl,rfl,h,hy,λ H3 B h3=>?_⟩;have R3:=R.mut ev h rfl la0 B (s':=.oz (.lst ds.dropLast)) ⟨a0,_,_,rfl,rfl,h3,la0,(r.dropLast).but B h rfl λ z=>by omega⟩;cases hgd:fg d (Y.set i (.oz (.lst ds.dropLast)))with
     |ok Y'=>rw[hgd]at W;exact q2 τ y d σ H3 _ _ _ Y' R3 (ry.but B h rfl λ z=>by omega) hgd λ σ' R2=>W σ' H3 _ R2
     |ex c=>rw[hgd]at W;exact zAH W
     |st=>rw[hgd]at W;exact zAH W
  .exact zAH W
end
section
variable{K:zAA}
theorem v7:∀{ns:List Int} {us:List Value},Vals (ns.map V.int) us->∃ts:List (Int×Tok),us=ts.map (λ q=>zD3 q.1 q.2)/\ts.map zGO=ns
 |[],_,.nil=>⟨[],rfl,rfl⟩
 |n::ns,_,.cons r t=>by
  obtain⟨tk,e⟩:∃tk,_=zD3 n tk:=r
  obtain⟨ts,e1,e2⟩:=v7 t;subst e;exact⟨(n,tk)::ts,by rw[e1];rfl,by rw[<-e2];rfl⟩
def aCU(hc:X.calm=true):dw X (.builtin "max") (λ xs H Q=>∃(p:Addr) (ns:List Int) (m:Int),xs=[.ref p]/\H p=some (.lst (ns.map V.int))/\ns.max?=some m/\Q (.int m) H):=by
 intro kQ s σ H xs us Q I r h;obtain⟨p,ns,m,rfl,hp,hm,q⟩:=h;obtain⟨u,rfl,ru⟩:=vals1 r;cases ru;obtain⟨its,rv,pl,hz⟩:=I.list (SqL.of hp);obtain⟨ts,rfl,rfl⟩:=v7 rv;have hsz:0<ts.toArray.size:=by
  cases ts with
  |nil=>cases hm
  |cons a b=>simp
 refine max_intList (xs:=ts.toArray) (I.ok.hd hc) (by have:=pl.isList;simpa[intItems]using this) hsz λ v h' tk hv hk=>?_
 obtain⟨t,rfl⟩:=intItems_at hv;obtain⟨h1,h2⟩:=argBest_gt (numAt ts.toArray) (ts.toArray.size-1);have hM:(ts.map zGO).max?=some (numAt ts.toArray (argBest (λ i j=>decide (numAt ts.toArray i>numAt ts.toArray j)) (ts.toArray.size-1))):=by
  rw[zFn];refine⟨?_,λ a ha=>?_⟩
  .rw[numAt_eq];exact getD_mem (by rw[zAE];simp at h1 hsz ⊢;omega)
  .obtain⟨j,hj,rfl⟩:=mem_getD ha
   have:=h2 j (by rw[zAE]at hj;simp;omega)
   rw[numAt_eq]at this;exact this
 rw[hm]at hM;injection hM with hM
 exact⟨.int m,H,I.kept hk,⟨t,by rw[hM]⟩,q⟩
def o8(f:List Int->Option Int):List D->Rs D
 |[.lst l]=>match intsOf l with
  |some ns=>match f ns with
   |some m=>.ok (.int m)
   |none=>.st
  |none=>.st
 |_=>.st
def aGN:qu K (λ xs H Q=>∃(p:Addr) (ns:List Int) (m:Int),xs=[.ref p]/\H p=some (.lst (ns.map V.int))/\f ns=some m/\Q (.int m) H) (o8 f):=by
 intro A xs ds H Q z r ez q;unfold o8 at ez;split at ez
 .split at ez
  .rename_i l ns e
   split at ez
   .rename_i m em
    cases ez
    have:=gR e
    subst this;cases r with
    |cons h r=>
     cases r;cases h with
     |lst h _ r=>
      have:=r.ints_of
      subst this;exact⟨_,ns,m,rfl,h,em,q _ H (aR.refl H) (.int _)⟩
   .cases ez
  .cases ez
 .cases ez
def aEE:∀x z,o8 f x= .ok z->imm z=true:=by
 intro x z e;unfold o8 at e;split at e
 .split at e
  .split at e
   .cases e;rfl
   .cases e
  .cases e
 .cases e
end
section
variable{C:Ct}{pos p:Pos}{a:Expr}{ga:En->Rs (List D)}{m:Mode}
def aFD(hm:C.mg "max"=none)(ha:SA C m [a] ga)(he:∀i,zA2 [a] (C.X i).env=[(false,eval a (C.X i).env)]:=by intro _;rfl)(hg:∀i,Gl (C.X i) "max":=by intro _;rfl)(hv:zAn "max"=some (.builtin "max"):=by decide+kernel):SE C (some []) (.Call (.Name "max" p) [a] [] pos) (opA (o8 zFm) ga):=
 iI (oX (λ i=>aCU (C.calm i)) aGN hg hm hv ha (by decide) (by decide) he) λ _ _ h=>pH aEE h
end
def wF:fillsNumberSlot (.type "tuple") "mul"=pure false:=
 PySem.fillsNumberSlot_seq (id:="tuple.__mul__") (r:=some (.builtin "tuple.__rmul__")) zCr.lookup (by decide+kernel) zGf.lookup (by decide+kernel)
def sG:seqRepeat? (.type "tuple")=pure (some (.builtin "tuple.__mul__")):=by
 unfold seqRepeat?;rw[zGX (T:="tuple") (name:="__mul__") (id:="tuple.__mul__") zCr.lookup (by decide+kernel)];rw[zGX (T:="tuple") (name:="__rmul__") (id:="tuple.__rmul__") zGf.lookup (by decide+kernel)];rfl
def sH(k:Int)(t:Tok)(a:Addr)(its:Array Value)(n:Nat)(dd:Option Addr)(sl:Array (Option Value)):
  Meets (zDb.«int.__rmul__» ⟨[.int k t,.ref a],[]⟩) (λ _ R s=>s.heap.get? a=some {cls:=.type "tuple",dict:=dd,data:=.seq its n,slots:=sl}/\R (.ok (.ret zFr)) s):=by
 refine .of_wp λ P w A R s h=>?_
 obtain⟨_,_,_,_,_⟩:=s;obtain⟨hl,h⟩:=h;wp_walk;exact⟨_,rfl,h⟩
def aCa(k:Int)(t:Tok)(a:Addr)(l:List Value)(n:Nat)(dd:Option Addr)(sl:Array (Option Value))(h1:1<k)(h2:k<2^63)(hz:l.length*k.toNat<=zAN)(he:l.isEmpty=false):
  Meets (zDb.«tuple.__mul__» ⟨[.ref a,.int k t],[]⟩) (λ _ R s=>s.heap.get? a=some {cls:=.type "tuple",dict:=dd,data:=.seq l.toArray n,slots:=sl}/\
   R (.ok (.ret (zBH s.heap.objs.size))) {s with heap:=s.heap.push {cls:=zBz "tuple",data:=zGo (zAO k.toNat l).flatten.toArray}}):=by
 have hs:(l.length:Int)*k<=zAN:=by
  have:((l.length*k.toNat:Nat):Int)=(l.length:Int)*k:=by
   rw[Int.natCast_mul,zCS (by lia)]
  rw[<-this];exact Int.ofNat_le.mpr hz
 have hb:(zAN:Int)<=(2^63-1) / 8:=by decide
 have c0:¬(decide (k < -2^63)||decide (k ≥ 2^63))=true:=by simp;lia
 have c1:¬(l.toArray.isEmpty||k==1)=true:=by simp only[zDg,he];simp;lia
 have c2:¬(decide (k<=0)||l.toArray.isEmpty)=true:=by simp only[zDg,he];simp;lia
 have c3:¬((l.toArray.size:Int)*k>(2^63-1) / 8):=by rw[zAJ];lia
 have c4:¬zDt ((l.toArray.size:Int)*k)=true:=by rw[zAJ];unfold zDt;simp[zAN]at hs ⊢;lia
 have ef:zFL (λ x1 x2=>x1++x2) #[] (zAO k.toNat l.toArray)=(zAO k.toNat l).flatten.toArray:=by
  have:=foldl_rep l k.toNat []
  simpa using this
 have c5:¬((zAO k.toNat l).flatten.toArray.size>zAN):=by rw[zAJ,len_rep,zE5];lia
 refine .of_wp λ P w A R s h=>?_
 obtain⟨_,_,_,_,_⟩:=s;obtain⟨hl,h⟩:=h;wp_walk;rw[if_neg c0];wp_walk
 try rw[if_neg c1]
 wp_walk
 try rw[if_neg c2]
 wp_walk
 try rw[if_neg c3]
 wp_walk
 try rw[if_neg c4]
 try rw[ef]
 wp_walk
 try rw[if_neg c5]
 wp_walk;exact⟨_,rfl,h⟩
def aDI(K:zAA):R2:=λ x y H Q=>∃a k xs,x= .ref a/\y= .int k/\SqT K H a xs/\1<k/\k<2^63/\xs≠[]/\xs.length*k.toNat<=zAN/\New H (.tup (zAO k.toNat xs).flatten) Q
def aBH:OpR X (zBg .Mult) (aDI X.K):=by
 intro kQ s σ H x y v u Q I rx ry h;obtain⟨a,k,xs,rfl,rfl,ha,h1,h2,hne,hz,q⟩:=h;cases rx;obtain⟨t,rfl⟩:=ry;obtain⟨its,r,p1,_⟩:=I.tuple ha;obtain⟨⟨cls,dd,data,sl⟩,ho,hc,n,hd⟩:=id p1;simp only at hc hd;subst hc hd;have hl:its.length*k.toNat<=zAN:=by rw[<-r.length];exact hz
 have he:its.isEmpty=false:=by
  cases its with
  |nil=>exact absurd (r.nil_iff.mp rfl) hne
  |cons _ _=>rfl
 refine zCW (T:="tuple") (U:="int") (by decide) ⟨_,ho,rfl⟩ (λ s'=>zCo s' k t) wF zDk zBq sG zD5.lookup
  (zBQ zBq (zCo s k t) zD4 (zDZ _ _) (sH k t a its.toArray n dd sl)
   ⟨ho,rfl,⟨_,ho,rfl⟩,zBQ zCr ⟨_,ho,rfl⟩ zE8 (zES _ _) (aCa k t a its n dd sl h1 h2 hl he) ⟨ho,?_⟩⟩)
 refine⟨.ref s.heap.objs.size,_,I.laid (t':=s.toks) (o:=.tup (zAO k.toNat xs).flatten) (λ b ob q=>zAG _ q) (zAL _) ?_,rfl,q.at (I.hok.fresh (zAL _))⟩;exact⟨⟨by rw[len_rep,zE5];exact hz,NoD.push _⟩,_,r.rep k.toNat,zDx _ _⟩
def xF:D->D->Rs D
 | .tup l,.int k=>if decide (1<k)&&decide (k<2^63)&& !l.isEmpty&&decide (l.length*k.toNat<=zAN)then .ok (.tup (zAO k.toNat l).flatten)else .st
 |_,_=>.st
def aBG{K:zAA}:OpS K (aDI K) xF:=by
 intro A x y d e H Q z rx ry ez q;unfold xF at ez;split at ez
 .split at ez
  .rename_i hc
   simp only[zAK,decide_eq_true_eq,zBS]at hc;obtain⟨⟨⟨c1,c2⟩,c3⟩,c4⟩:=hc;cases ez;cases ry;cases rx with
   |tup h r=>
    refine⟨_,_,_,rfl,rfl,h,c1,c2,λ e=>?_,by rw[r.length];exact c4,λ p H' s hp hn=>q _ H' s (.tup (SqT.of hp) ?_)⟩
    .subst e
     cases r;cases c3
    .exact((Rps.rep r _).up s).wk λ _ _ _ z=>.inr z
  .cases ez
 .cases ez
section
variable{C:Ct}{pos:Pos}{a b:Expr}{fa fb:En->Rs D}{m1 m2:Mode}
def aFC(ha:SE C m1 a fa)(hb:SE C m2 b fb):SE C (jn m1 m2) (.BinOp a .Mult b pos) (op2 xF fa fb):=qZ (λ i=>by rw[<-C.hK i];exact aBH) aBG ha hb
end
def zB{K:zAA}:dH P w K mg base CX k fn fd ps (spF K cl n λ _=>.st):=by
 constructor
 .rintro vs H Q E ⟨_,_,_,h⟩
  exact zAH h
 .intros
  rename_i h;obtain⟨_,_,_,h⟩:=h;exact zAH h
abbrev ctL(P:zAP)(w:World)(K:zAA)(mg:Str->Option Value)(base:Heap)(N:List Str)(q:Str)(sc:Scope)(cl:List (Str×Addr))(f:Addr)(cdv:Value)(A:zA7)(outer:List Env)(s:zAB)(H:Hp)(E:XK)(k:Nat)(hr:dq k (A.deeper (zCO q sc s.heap.objs.size f cdv cl))):Ct where
 ι:=Unit
 X:=λ _=>cxL P w K mg base N q sc cl f cdv A outer s H E
 prog:=P
 w:=w
 K:=K
 mg:=mg
 base:=base
 k:=k
 G:=⟨H,E,az mg⟩
 cx:=λ _=>⟨rfl,rfl,rfl,rfl,rfl⟩
 calm:=λ _=>rfl
 room:=λ _=>hr
 own:=λ _=>dJ.own dJ.ofL
 pass:=λ _=>dJ.pass dJ.ofL
 dOk:=true
 dcx:=λ _ _=>dJ.ofL
def shS:Slot->Slot
 | .no=>.no
 | .sh d=>.sh d
 | .nw d=>.sh d
 | .ow d=>.sh d
 | .oz d=>.sh d
 | .o2 l=>.sh (.lst (l.map .lst))
def dg.shut{K:zAA}{H:Hp}{lab:Lab}{i:Nat}{v:V}{x:Slot}(h:dg K H lab i v x):dg K H (λ _=>(0,0)) i v (shS x):=by
 cases x with
 |no=>exact trivial
 |sh d=>exact Rp.wk (λ _ _ _ _=>zAc _) h
 |nw d=>exact Rp.wk (λ _ _ _ _=>zAc _) h
 |ow d=>exact Rp.wk (λ _ _ _ _=>zAc _) h.1
 |oz d=>
  obtain⟨a,xs,ds,rfl,rfl,e3,e4,e5⟩:=h;exact .lst e3 (zAc _) (Rps.wk (λ p o e z=>⟨zAc _,λ ep=>by
   have z':(lab p).1<=1:=z;rw[ep,e4]at z';omega⟩) e5)
 |o2 l=>exact Rp.wk (λ _ _ _ _=>zAc _) (aBJ h)
theorem RR.shut{K:zAA}{G:Gx}{τ:List (V×D)}{Y:En}{σ:L2.St}{H:Hp}{lab:Lab}{E:XK}{cl:Str->Addr}(R:RR K G τ Y σ H lab):RR K ⟨H,E,cl⟩ [] (Y.map shS) σ H (λ _=>(0,0)):=by
 refine⟨by rw[zAE];exact R.len,λ i s e=>?_,aR.refl H,λ p hp=>absurd rfl hp,λ q hq=>by cases hq⟩;rw[zAW]at e;cases hr:Y[i]? with
 |none=>rw[hr]at e;cases e
 |some x=>
  rw[hr]at e;cases e;rcases R.sl i x hr with z|⟨v,e1,e2⟩
  .subst z;exact .inl rfl
  .exact .inr ⟨v,e1,e2.shut⟩
def aIz(cl:Str->Addr)(H1:Hp)(r:Rs D):Sp:=λ vs H Q E=>vs=[]/\aR H1 H/\WR ⟨H,E,cl⟩ r (λ _=>∀v H',aR H H'->Q v H')
def aBp(wn:Str->Option Str)(told:Str)(fe:En->Rs D):En->Rs D:=λ Y=>match fe (Y.map shS)with
 | .ok _=>.ok (.str told)
 | .ex c=>(match wn c with
  |some w=>.ok (.str w)
  |none=>.st)
 | .st=>.st
def aIr(P:zAP)(w:World)(K:zAA)(mg:Str->Option Value)(N:List Str)(q:Str)(params:zCJ)(body:Expr)(scope:Scope)(k0:Nat)(told:Str)(wd:Addr->Option Str)(E:XK):TE:=λ σ H Q=>
 ∀(base:Heap) (cl:List (Str×Addr)) (f c':Addr) (ctv pm:Value) (H1:Hp),aR H H1->zU q params body scope cl pm H1 f c' ctv->aEf base N σ scope cl->spR P w K mg base k0 told wd [.ref f] H1 Q E
section
variable{C:Ct}{m:Mode}{x pc told q:Str}{p pos lpos:Pos}{k k0 kb:Nat}{fn:Addr}{fd:zAh}{wd:Addr->Option Str}{wn:Str->Option Str}{params:zCJ}{body:Expr}{scope:Scope}{N:List Str}{fe:En->Rs D}
def aHP(hF:∀base,dH C.prog C.w C.K C.mg base (CX1 C.prog C.w) k fn fd [pc] (spR C.prog C.w C.K C.mg base k0 told wd))(hr:k<=C.k)(hm:C.mg x=some (.ref fn))(hk:zBR C.K (.ref fn)=true)(hb:Binds C.K fd [pc] [])
  (hL:∀i,(∃P,qt (C.X i) P)/\(C.X i).outer=[]/\(C.X i).N=N/\(C.X i).tq=q)(S:ug scope)(hcl:C.G.cl=az C.mg)(hwn:∀c w,wn c=some w->wd (az C.mg c)=some w)(hkb:kb+1<=k0)
  (hbody:∀base cl f cd A outer s H E hr,SE (ctL C.prog C.w C.K C.mg base N q scope cl f cd A outer s H E kb hr) m body fe)
  (hbnd:∀cl pm c' ctv,zGw (zEg "<lambda>" q params body scope cl pm (.ref c') ctv) ⟨[],[]⟩=pure []:=by intro _ _ _ _;rfl)(hdef:∀i,zHK params (C.X i).env=([],[]):=by intro _;rfl)
  (hfree:∀i,∀y∈scope.names,y.2= .free->(C.X i).env.kindOf y.1=some .cell\/(C.X i).env.kindOf y.1=some .free)(hdb:Nd x:=by decide)(hg:∀i,Gl (C.X i) x:=by intro _;rfl):
  SE C (some []) (.Call (.Name x p) [.Lambda params body scope lpos] [] pos) (aBp wn told fe):=by
 refine⟨aIr C.prog C.w C.K C.mg N q params body scope k0 told wd C.G.E,λ i=>?_,λ τ σ H Y lab Q R W=>?_⟩
 .obtain⟨e1,e2,e3,e4,e5⟩:=C.cx i
  obtain⟨⟨P,Lx⟩,ho,eN,eq⟩:=hL i;intro kQ s σ H Q I h;refine zBl (mU I (hg i) (by rw[e4];exact hm) ?_ hdb);have ha:PA (C.X i) [.Lambda params body scope lpos] _:=aX (aHf Lx (hdef i) (hfree i)) dF;refine zDo (h₀:=(C.X i).base) I.ok.mod.kin (by rw[e3];exact hk) (thn (ha pos kQ s σ H (λ vs H1=>aR H H1/\∃f c' ctv,vs=[.ref f]/\zU (C.X i).tq params body scope (L2.az scope (C.X i).env) (((C.X i).mg "__name__").getD .none) H1 f c' ctv) I
   (λ f c' ctv H' sm l=>⟨sm,f,c',ctv,rfl,l⟩)) λ us s1 ⟨vs,H1,I1,r,sm,f,c',ctv,ev,la⟩=>⟨I1.kIn,?_⟩)
  subst ev;have hz:=h (bse (C.X i) s1 H1) (L2.az scope (C.X i).env) f c' ctv _ H1 sm (by rw[<-eq];exact la) (by rw[<-eN];exact aI7 I1 ho S (hfree i));exact aFG (CX:=CX1 (C.X i).prog (C.X i).w) I1 (by rw[e1,e2,e3,e4];exact hF _) ((C.room i).mono hr) (by rw[e3];exact hb) (C.pass i) r (by rw[e1,e2,e3,e4]at*;exact hz)
 .intro base cl f c' ctv pm H1 sm la cp
  have R1:=R.up sm;have FL:dH C.prog C.w C.K C.mg base (CX1 C.prog C.w) (kb+1) f (zEg "<lambda>" q params body scope cl pm (.ref c') ctv) [] (aIz (az C.mg) H1 (fe (Y.map shS))):=by
   refine aIG la S cp (λ vs H Q E h=>⟨h.1,h.2.1⟩) λ A outer s H2 Q2 E2 hr2 hsp=>?_
   obtain⟨t,h1,h2⟩:=hbody base cl f (.ref c') A outer s H2 E2 hr2;exact⟨t,h1 (),h2 [] σ H2 _ _ Q2 (R1.up hsp.2.1).shut (hsp.2.2.imp λ d _ z v H' s' _=>z v H' s')⟩
  refine⟨f,_,_,_,_,kb+1,_,rfl,la.1,FL,hkb,λ s us _ hl=>?_,rfl,aR.refl H1,?_⟩
  .have e:us=[]:=by
    rw[zAb]at hl;exact zC1.mp hl
   subst e;exact .of_eq (hbnd cl pm c' ctv)
  .unfold aBp at W
   cases he:fe (Y.map shS)with
   |ok d=>rw[he]at W;exact λ v H' s'=>W (.str told) H' (sm.trans s') (.str told)
   |ex c=>
    rw[he]at W;cases hw:wn c with
    |none=>simp only[hw]at W;exact W.elim
    |some w=>
     simp only[hw]at W;exact λ H' s'=>⟨_,w,rfl,hwn c w hw,λ H'' s''=>W (.str w) H'' (sm.trans (s'.trans s'')) (.str w)⟩
   |st=>rw[he]at W;exact W.elim
end
end VL
namespace L2
open PySem PySem.Spec PyProof.Rows
def cxW(P:zAP)(w:World)(K:zAA)(mg:Str->Option Value)(base:Heap)(N:List Str)(qual:Str)(scope:Scope)(f:Addr)(cd:Value)(A:zA7)(s:zAB)(H:Hp)(Pt:Addr):Cx where
 prog:=P
 w:=w
 K:=K
 mg:=mg
 base:=base
 A:=A.deeper (zCV qual scope s.heap.objs.size f cd)
 N:=N
 z5:=s
 zI:=H
 env:=zCV qual scope s.heap.objs.size f cd
 outer:=[]
 stack:=[zCV qual scope s.heap.objs.size f cd]
 ex:=[Pt]
 calm:=true
 fn:=λ _=>true
 pn:=[]
 xe:=λ _ _=>False
 ta:=[(Pt,zBs #[])]
 tq:=qual++".<locals>."++"<lambda>"
section
variable{P:zAP}{w:World}{K:zAA}{mg:Str->Option Value}{base:Heap}{N ps:List Str}{qual:Str}{scope:Scope}{f Pt:Addr}{cd:Value}{A:zA7}{s s1:zAB}{H:Hp}{vs:List V}{us:List Value}
def aAX(S:bA N ps scope)(hd:A.handled=none)(e0:zX P w K mg base A [] s H)(hl:vs.length=ps.length)(r:Vals vs us)
  (hP:s.heap.get? Pt=some (zBs #[]))(hH:H Pt=none)(hb:base.get? Pt=none)
  (x:InCallC s s.heap.objs.size (bindL (zCV qual scope s.heap.objs.size f cd).kindOf (ps.zip us) λ _=>none) (zCU (s.heap.objs.size+1) scope.names []) (bindC (zCV qual scope s.heap.objs.size f cd).kindOf (ps.zip us) λ _=>none) s1):
  Inv (cxW P w K mg base N qual scope f cd A s H Pt) [] (start N vs) H s1:=by
 have I:Inv (rC (CX1 P w) P w K mg base N qual scope f cd A [] s H λ _ _ _=>False) [] (start N vs) H s1:=qK S hd e0 hl r x;obtain⟨h1,tk,e1,hk⟩:=x.done;have hlt:=zAV hP;have hne:∀b∈[Pt],b≠s.heap.objs.size:=λ b hb z=>by
  have e:b=Pt:=by simpa using hb
  rw[e]at z;exact absurd hlt (by rw[z];exact zB7 _)
 refine⟨⟨I.ok.mod,I.ok.kind,I.ok.glob,I.ok.blt,I.ok.above,I.ok.inj,I.ok.has,I.ok.cab,I.ok.hd,I.ok.frames,I.ok.stk,λ b hb2=>⟨hne b hb2,λ y c e z=>?_⟩,I.ok.bs,I.ok.bsz,λ b o e hb'=>?_,λ b _=>λ z=>(nomatch z),I.ok.funs,I.ok.frf⟩,
  I.os,I.bare,I.base.mono (λ b z=>z) (λ b z=>(nomatch z)),I.loc,I.cell,I.free,I.freeC,I.pin,I.hok,I.len,λ p hp=>?_⟩
 .have q:s.heap.objs.size<=c:=I.ok.cab y c rfl e
  have e2:b=Pt:=by simpa using(show b∈[Pt]from hb2)
  rw[z,e2]at q;exact absurd hlt (zEU.mpr q)
 .have e2:b=Pt:=by simpa using(show b∈[Pt]from hb')
  have e3:base.get? b=some o:=e;rw[e2,hb]at e3;cases e3
 .have e2:p=(Pt,zBs #[]):=by simpa using(show p∈[(Pt,zBs #[])]from hp)
  subst e2;refine⟨hH,hne Pt zAD,λ z=>(nomatch z),λ q hq=>(nomatch hq),#[],?_,trivial,λ pos cv e=>nomatch e⟩;subst e1;exact hk _ _ hP
end
def aCF{P:zAP}{w:World}{K:zAA}{mg mb:Str->Option Value}{k:Nat}{fa a c Pt:Addr}{x:Str}{z4:zAB}{vs:List Value}{ns:List Int}{N:List Str}{oc doc pm ct dV kV:Value}{od:Option Addr}{osl:Array (Option Value)}{name qual:Str}{params:zCJ}{body:List Stmt}{scope:Scope}{an:Option Addr}
  (KX:K.In z4.heap)(hns:z4.heap.Ns zA1 mg)(hb:z4.heap.Ns zHJ mb)(hbb:∀x:Str,x≠"__name__"->mb x=zAn x)(dA:z4.heap.NoLimit)(hg:z4.gens=#[])
  (ha:z4.heap.get? a=some {cls:=.type "list",data:=.seq vs.toArray})(hi:zB6 vs ns)(hl:ns.length<=zAN)(hr:dq (k+1) zCH)
  (hP:z4.heap.get? Pt=some (zBs #[]))(hKP:K.lookup Pt=none)(hC:zDS K c Pt=true)(hbl:z4.heap.BuiltinsAt mg Pt)
  (lk:K.lookup fa=some ⟨oc,od,.func (zBU name qual params body scope dV kV doc pm an (.ref c) ct),osl⟩)(hcd:zC5 K (.ref c) qual=true)(S:bA N [x] scope)
  (hbind:∀(s:zAB) (u:Value),zGI s (zBU name qual params body scope dV kV doc pm an (.ref c) ct) ⟨[u],[]⟩ [(x,u)])
  (hbody:∀(base:Heap) (s:zAB) (H:Hp),dq k (zCH.deeper (zCV qual scope s.heap.objs.size fa (.ref c)))->qt (cxW P w K mg base N qual scope fa (.ref c) zCH s H Pt) Pt->Only H->SqL K H a (ns.map V.int)->
   ∃t,PSs (cxW P w K mg base N qual scope fa (.ref c) zCH s H Pt) body t/\t {nx:=λ _ _=>False,rt:=λ v _=>v= .bl true} (start N [.ref a]) H):
  zDC (model P w) zCH (.call (.ref fa) ⟨[.ref a],[]⟩) (λ r s'=>r= .ok (.ret (.bool true))/\OldK z4.heap s'.heap/\s'.os=z4.os/\zDw s'.gens) z4:=by
 have rv:=vH hi;have lenV:=hi.length;have aP:a≠Pt:=λ z=>by
  rw[z,hP]at ha;have e2:=congrArg Obj.cls (zAg ha);cases e2
 have core:∀H:Hp,Only H->SqL K H a (ns.map V.int)->HOk P w H z4.heap->(∀b,H b≠none->b=a)->(H a≠none->K.lookup a=none)->
   zDC (model P w) zCH (.call (.ref fa) ⟨[.ref a],[]⟩) (λ r s'=>r= .ok (.ret (.bool true))/\OldK z4.heap s'.heap/\s'.os=z4.os/\zDw s'.gens) z4:=by
  intro H hO hS hok hA hK;have hPn:H Pt=none:=by
   cases q:H Pt with
   |none=>rfl
   |some u=>exact absurd (hA Pt (by rw[q];simp)).symm aP
  let B:=zB8 (aEJ z4.heap H) [Pt];have base_of:∀{b:Addr} {o:Obj},z4.heap.get? b=some o->H b=none->b≠Pt->B.get? b=some o:=λ e n ne=>zBn _ (aEI e n) (by simpa using ne)
  have noA:∀{b:Addr} {o:Obj} {es:Array zFZ} {ep:Nat},z4.heap.get? b=some o->o.data= .dict es ep->H b=none/\b≠Pt:=λ{b o es ep} e d=>by
   refine⟨?_,λ z=>?_⟩
   .cases q:H b with
    |none=>rfl
    |some u=>
     have e':b=a:=hA b (by rw[q];simp);subst e';rw[ha]at e;cases e;have d':zGo vs.toArray _=Data.dict es ep:=d;cases d'
   .rw[z,hP]at e
    cases e;cases d
  have nsK:∀{b:Addr} {m:Str->Option Value},z4.heap.Ns b m->B.Ns b m:=λ{b m} ⟨o,es,ep,e,d,r⟩=>⟨o,es,ep,base_of e (noA e d).1 (noA e d).2,d,r⟩
  have hKb:K.In B:=λ b o e=>base_of (KX b o e) (by
   cases q:H b with
   |none=>rfl
   |some u=>
    have e':b=a:=hA b (by rw[q];simp);subst e';rw[hK (by rw[q];simp)]at e;cases e) (λ z=>by rw[z,hKP]at e;cases e)
  have hM:Mod K mg B:=⟨hKb,nsK hns,⟨mb,nsK hb,hbb⟩,let⟨mc,h1,h2⟩:=dA;⟨mc,nsK h1,h2⟩⟩;have e0:zX P w K mg B zCH [] z4 H:=⟨rfl,hM,λ b o e=>aF8 (zDB _ e),zE3 ((zD2 _ _).trans (aCO _ _)),trivial,λ b hb=>absurd (show b∈([]:List Addr)from hb) (by simp),hok,.of_eq hg⟩;have gP:zA1≠Pt:=by
   obtain⟨o,es,ep,e,d,_⟩:=hns;exact(noA e d).2
  have hLx:qt (cxW P w K mg B N qual scope fa (.ref c) zCH z4 H Pt) Pt:=by
   refine⟨⟨_,rfl⟩,zAD,rfl,⟨c,rfl,zF5 hKb hC⟩,?_,gP⟩;obtain⟨bm,o,b1,b2,b3,b4,b5,b6,b7,b8⟩:=hbl;refine⟨bm,o,b1,b2,b3,b4,base_of b5 ?_ b4,b6,b7,b8⟩;cases q:H bm with
   |none=>rfl
   |some u=>
    have e':bm=a:=hA bm (by rw[q];simp);rw[e',ha]at b5;cases b5;cases b8
  have bX:∀y∈[x].zip [zBH a],scope.names.lookup y.1=some .local\/(scope.names.lookup y.1=some .cell/\((zCU (z4.heap.objs.size+1) scope.names []).lookup y.1).isSome=true):=λ⟨n,v⟩ hy=>by
   rcases S.par n (zC3 hy).1 with q|q
   .exact .inl q
   .exact .inr ⟨q,zC4 _ _ _ (.inl q)⟩
  refine zEB hr.depth (KX _ _ lk) rfl S.co S.gen rfl (zDp KX hcd) (hbind z4 (.ref a) _ _ _ _ ?_);refine zDX S.kind bX λ env he s1 x'=>?_
  subst he;refine⟨dA.keeps x'.toInCall.keep,zG4 ?_⟩;obtain⟨t,ht,hq⟩:=hbody B z4 H (hr.deeper _) hLx hO hS;have I:Inv (cxW P w K mg B N qual scope fa (.ref c) zCH z4 H Pt) [] (start N [.ref a]) H s1:=aAX (ps:=[x]) (us:=[.ref a]) S hr.hd e0 rfl (.cons rfl .nil) hP hPn (zD1 _ zAD) x';refine zB5 (ht [] s1 (start N [.ref a]) H _ I hq) (λ fl s' hs=>?_) λ e s' hs=>hs.elim
  cases fl with
  |next=>obtain⟨_,_,_,q⟩:=hs;exact q.elim
  |brk=>obtain⟨_,_,_,q⟩:=hs;exact q.elim
  |cont=>obtain⟨_,_,_,q⟩:=hs;exact q.elim
  |ret u=>
   obtain⟨v,σ',H',J,rv',q⟩:=hs;have q':v= .bl true:=q;subst q';obtain rfl:u=zC8 true:=rv';obtain⟨_,_,_,_,ps,hps,_⟩:=J.tab (Pt,zBs #[]) zAD;have all:∀b o,z4.heap.get? b=some o->b≠Pt->s'.heap.get? b=some o:=λ b o e ne=>by
    cases q:H b with
    |none=>exact J.base.keep b o e q (λ z=>(nomatch z)) (by simpa[cxW]using ne)
    |some u=>
     rcases hO b with z|⟨ob,xs,z⟩
     .rw[q]at z;cases z
     .have z2:=J.base.frzs b ob _ z
      obtain⟨e1,_⟩:=hok b _ z;obtain⟨e2,_⟩:=J.hok b _ z2;rw[e]at e1;cases e1;exact e2
   refine⟨rfl,⟨λ b o e=>?_,λ b o e=>?_⟩,J.os,J.bare⟩
   .by_cases hbP:b=Pt
    .subst hbP
     rw[hP]at e;cases e;obtain⟨⟨o1,vs1,f1,f2,f3,f4⟩,_⟩:=(zF5 KX hC).tab hP;exact .inr (.inl ⟨⟨c,o1,vs1,f1,f2,f3,f4⟩,rfl,#[],ps,rfl,by simpa using hps⟩)
    .exact .inl (all b o e hbP)
   .by_cases hbP:b=Pt
    .subst hbP;exact⟨_,hps⟩
    .exact⟨o,all b o e hbP⟩
 cases hk:K.lookup a with
 |some o=>
  have e:=KX a o hk;rw[ha]at e;cases e;refine core (λ _=>none) (λ _=>.inl rfl) (.inr ⟨_,vs.toArray,_,hk,rfl,rfl,rfl,by rw[zAJ,lenV];exact hl,by simpa using rv⟩) (λ b u z=>by have z':(none:Option HO)=some u:=z;cases z') (λ b z=>absurd rfl z) λ z=>absurd rfl z
 |none=>
  refine core (λ b=>if b=a then some (.frz {cls:=.type "list",data:=.seq vs.toArray} (.lst (ns.map V.int)))else none) (λ b=>?_) (.inl (.inr ⟨{cls:=.type "list",data:=.seq vs.toArray},if_pos rfl⟩)) (λ b u z=>?_) (λ b z=>?_) λ _=>hk
  .by_cases hb:b=a
   .exact .inr ⟨_,_,if_pos hb⟩
   .exact .inl (if_neg hb)
  .by_cases hb:b=a
   .have z':=(if_pos hb).symm.trans z
    cases z';subst hb;exact⟨ha,by rw[zAE];exact hl,vs,_,rv,ha⟩
   .have z':=(if_neg hb).symm.trans z
    cases z'
  .by_cases hb:b=a
   .exact hb
   .exact absurd (if_neg hb) z
end L2
namespace VL
open PySem PySem.Spec PyProof.Rows L2
abbrev ctW(P:zAP)(w:World)(K:zAA)(mg:Str->Option Value)(base:Heap)(N:List Str)(q:Str)(sc:Scope)(f:Addr)(cdv:Value)(A:zA7)(s:zAB)(H:Hp)(Pt:Addr)(k:Nat)(hr:dq k (A.deeper (zCV q sc s.heap.objs.size f cdv))):Ct where
 ι:=Unit
 X:=λ _=>cxW P w K mg base N q sc f cdv A s H Pt
 prog:=P
 w:=w
 K:=K
 mg:=mg
 base:=base
 k:=k
 G:=⟨H,λ _ _ _=>False,az mg⟩
 cx:=λ _=>⟨rfl,rfl,rfl,rfl,rfl⟩
 calm:=λ _=>rfl
 room:=λ _=>hr
 own:=λ _=>λ _ _ h=>zAH h
 pass:=λ _=>λ _ _ _ _ _ _ _ ⟨_,_,_,_,_,_,_,_,_,_,_,_,_,z⟩=>z
 dOk:=false
 dcx:=λ z=>nomatch z
def aDo{P:zAP}{w:World}{K:zAA}{mg:Str->Option Value}{base:Heap}{N:List Str}{q:Str}{sc:Scope}{fa a Pt:Addr}{cdv:Value}{A:zA7}{s:zAB}{H:Hp}{k:Nat}{hr:dq k (A.deeper (zCV q sc s.heap.objs.size fa cdv))}{body:List Stmt}{f:En->Ou}{ns:List Int}
  (hb:SSs (ctW P w K mg base N q sc fa cdv A s H Pt k hr) body f)(e:fu N.length f [.scr ns]= .ok (.bl true))(r:Rps K (λ _=>True) H [.ref a] [.scr ns]):
  ∃t,PSs (cxW P w K mg base N q sc fa cdv A s H Pt) body t/\t {nx:=λ _ _=>False,rt:=λ v _=>v= .bl true} (start N [.ref a]) H:=by
 obtain⟨t,h1,h2⟩:=hb;refine⟨t,h1 (),h2 [] _ H _ _ _ (RR.start r) ?_⟩;unfold fu at e;cases ef:f (bG N.length [.scr ns])with
 |nx Y=>rw[ef]at e;cases e
 |rt d=>rw[ef]at e;cases e;exact λ v H' s r=>r.bl_inv
 |ex c=>rw[ef]at e;cases e
 |bk Y=>rw[ef]at e;cases e
 |ct Y=>rw[ef]at e;cases e
 |st=>rw[ef]at e;cases e
def zr{P:zAP}{w:World}{K:zAA}{mg:Str->Option Value}{base:Heap}{x q n0 n1 n2 few cn pe told:Str}{st:Stmt}{f fc C':Addr}{fd fdc:zAh}{kc k0:Nat}{wd:Addr->Option Str}{p1 p2 p3 p4 p5 p6 p7 p8 p9 p10 p11 p12 p13 p14 p15 p16:Pos}{j1:Nat}
  (F:L2.Fun K x q st f fd)(S:bA [n0,n1,n2] [n0] (aH st))(hst:cI st=[.Assign [.Name n1 p1] (.Constant (.str told) j1 p2) p3,.Try [.Expr (.Call (.Name n0 p4) [] [] p5) p6] [.ExceptHandler (some (.Name few p7)) (some n2) [.Assign [.Name n1 p8] (.Call (.Name cn p9) [.Name n2 p10] [] p11) p12] p13] [] [] p14,.Return (some (.Name n1 p15)) p16])
  (l0:(aH st).names.lookup n0=some .local)(l1:(aH st).names.lookup n1=some .local)(l2:(aH st).names.lookup n2=some .local)(g1:(aH st).names.lookup few=some .globalImplicit)(g2:(aH st).names.lookup cn=some .globalImplicit)
  (hm:mg few=some (.ref C'))(hC':bx K C')(FC:FnH P w K mg base kc fc fdc [pe] (spW wd))(hmc:mg cn=some (.ref fc))(hkc:zBR K (.ref fc)=true)(hbc:Binds K fdc [pe] [])(hkk:kc<=k0)(hw:∀C w,wd C=some w->bx K C/\qO K C C'=true)
  (d1:Nd few:=by decide)(d2:Nd cn:=by decide)(d3:Nd n0:=by decide)(d4:Nd n1:=by decide)(d5:Nd n2:=by decide)
  (d6:(n0==("__classdict__":Str))=false:=by decide)(d7:(n1==("__classdict__":Str))=false:=by decide)(d8:(n2==("__classdict__":Str))=false:=by decide):
  dH P w K mg base (CX1 P w) (k0+1) f fd [n0] (spR P w K mg base k0 told wd):=by
 refine F.okX S (λ vs H Q E ⟨_,_,_,_,_,_,_,e,_⟩=>by rw[e];rfl) λ cdv A outer s H vs Q E hr hsp=>?_
 rw[hst];exact aDD (X:=rC (CX1 P w) P w K mg base [n0,n1,n2] q (aH st) f cdv A outer s H E) dJ.of rfl rfl S.nd l0 l1 l2 (λ _=>rfl) hm g1 hC' FC g2 hmc hkc hbc hr hkk hw hsp d1 d2 d3 d4 d5 d6 d7 d8
end VL
namespace L2
open PySem PySem.Spec PyProof.Rows
def fM{X:Cx}{n0:Str}{e:Expr}{c:V}{p p' pos:Pos}(hN:X.N[0]? =some n0)(hv:X.env.scope.names.lookup n0=some .local)(hg:Gl X "isinstance")(hm:X.mg "isinstance"=none)(hc:PE X e (tC c))(hse:zA2 [e] X.env=(false,eval e X.env)::zA2 [] X.env:=by rfl)
  (hpl:(zCI pos (zA2 [e] X.env)).any (·.1)=false:=by rfl)(d:Nd n0:=by decide)(d':(n0==("__classdict__":Str))=false:=by decide):PE X (.Call (.Name "isinstance" p) [.Name n0 p',e] [] pos) (za X.K c):=
 o5 aCX hg hm rfl (aX (dX hN (.inl hv) d d') (aX hc dF hse)) (hpl:=hpl)
section
variable{P:zAP}{w:World}{K:zAA}{mg:Str->Option Value}{base:Heap}{x q n0 n1 n2 odd:Str}{st:Stmt}{f:Addr}{fd:zAh}{k:Nat}{wd:Addr->Option Str}{c1 c2:V}{k1 k2 k3 k4:List V}{l1 l2:List Str}{a1 a2:Expr}{as1 as2 e1 e2 e3 e4 w1 w2:List Expr}{kw1 kw2:List zCK}
 {p1 p2 p3 p4 p5 p6 p7 p8 p9 p10 p11 p12 p13 p14 p15 p16 p17 p18 p19 p20 p21 p22 p23 p24 p25 p26 p27 p28 p29 p30 p31 p32 p33 p34 p35 p36 p37 p38 p39 p40:Pos}{q1 q2 q3 q4 q5 q6 q7:Pos}{j1 j2 j3 j4 j5:Nat}
end
structure aBc(P:zAP)(w:World)(K:zAA)(mg:Str->Option Value)(fa Pt:Addr)(k n:Nat):Prop where
 ex:∃(x name qual:Str) (params:zCJ) (body:List Stmt) (scope:Scope) (dV kV doc pm ct oc:Value) (an od:Option Addr) (c:Addr) (osl:Array (Option Value)) (N:List Str),
  K.lookup Pt=none/\zDS K c Pt=true/\K.lookup fa=some ⟨oc,od,.func (zBU name qual params body scope dV kV doc pm an (.ref c) ct),osl⟩/\zC5 K (.ref c) qual=true/\bA N [x] scope/\
  (∀(s:zAB) (u:Value),zGI s (zBU name qual params body scope dV kV doc pm an (.ref c) ct) ⟨[u],[]⟩ [(x,u)])/\
  ∀(a:Addr) (ns:List Int),ns.length<=n->∀(base:Heap) (s:zAB) (H:Hp),dq k (zCH.deeper (zCV qual scope s.heap.objs.size fa (.ref c)))->qt (cxW P w K mg base N qual scope fa (.ref c) zCH s H Pt) Pt->Only H->SqL K H a (ns.map V.int)->
   ∃t,PSs (cxW P w K mg base N qual scope fa (.ref c) zCH s H Pt) body t/\t {nx:=λ _ _=>False,rt:=λ v _=>v= .bl true} (start N [.ref a]) H
def aC7{l:zEV}{n k:Nat}{q:zAP}{loose:List Str}{XP:(Str->Option Value)->Heap->Prop}{YP:World->Heap->Prop}{d:DefRec}{K:Params->zAA}{Pt:Addr}
  (hn:l.most=some n)(hn2:n<=zAN)(hdf:d.params.defaults=[])(hr:dq (k+1) zCH)
  (hY:∀(w:World) (h:Heap),YP w h->(K w.params).In h/\h.get? Pt=some (zBs #[]))
  (F:∀(w:World) (mg:Str->Option Value) (fa:Addr) (h:Heap),(K w.params).In h->h.Ns zA1 mg->mg d.name=some (.ref fa)->aBc l.prog w (K w.params) mg fa Pt k n):
  zG2 q loose XP YP l.row.toRowW d [] (λ f vs=>zGP f vs):=by
 refine Att.zO hn hdf λ w z5 z4 mg mb fa o pm cd doc a vs ns G Y ho hd hcd hmg hobj hints kX hg=>?_
 obtain⟨KX,hP⟩:=hY w _ Y;obtain⟨x,name,qual,params,body,scope,dV,kV,doc,pm,ct,oc,an,od,c,osl,N,h1,h2,h3,h4,h5,h6,h7⟩:=(F w mg fa _ KX G.T.g hmg).ex;have hbl:z4.heap.BuiltinsAt mg Pt:=by
  obtain⟨bm,ob,b1,b2,b3,b4,b5,b6⟩:=G.T.bmain;refine⟨bm,ob,b1,b2,λ z=>?_,λ z=>?_,b3,b4,b5,b6⟩
  .obtain⟨o,es,ep,e,hd,_⟩:=G.T.g
   rw[z,e]at b3;cases b3;rw[hd]at b6;cases b6
  .rw[z,hP]at b3;cases b3;cases b4
 exact aCF KX G.T.g G.T.b G.T.builtins G.T.nolimit hg hobj hints (zAe kX hn2) hr hP h1 h2 hbl h3 h4 h5 h6 λ base s H r1 r2 r3 r4=>h7 a ns kX base s H r1 r2 r3 r4
def clB(K:zAA)(few C:Addr):Bool:=zFA K C [.type "ValueError",.type "Exception",.type "BaseException",.type "object"] "ValueError.__new__"&&decide (zAs K (.ref C) "__class__"=some (some (.builtin "object.__class__")))&&decide (zAs K (.ref C) "__getattribute__"=some (some (.builtin "BaseException.__getattribute__")))&&decide (zAs K (.ref C) "__getattr__"=some none)&&decide (zB4 K (.ref C) (.ref few)=some true)&&decide (zB4 K (.ref C) (.type "ValueError")=some true)&&qO K C few
def aA5(K:zAA)(few:Addr)(cs:List Addr):Bool:=(zAj cs.length).all λ j=>match cs[j]? with
 |none=>true
 |some C=>clB K few C&&(zAj cs.length).all λ i=>match cs[i]? with
  |none=>true
  |some c=>decide (zB4 K (.ref C) (.ref c)=some (i==j))
theorem lookup_at{C:Addr}{w:Str}:∀{cs:List Addr} {ws:List Str},(cs.zip ws).lookup C=some w->∃j:Nat,cs[j]? =some C/\ws[j]? =some w
 |[],_,h=>by cases h
 |_::_,[],h=>by cases h
 |c::cs,x::ws,h=>by
  rw[zB1,zAl]at h;by_cases e:C==c
  .simp only[e]at h
   cases h;exact⟨0,by rw[zCs e];rfl,rfl⟩
  .simp only[e]at h
   obtain⟨j,h1,h2⟩:=lookup_at h;exact⟨j+1,h1,h2⟩
def aG7{K:zAA}{few c0 c1 c2 c3 c4 c5 c6 c7 c8 c9 c10 c11:Addr}{ws:List Str}(h:aA5 K few [c0,c1,c2,c3,c4,c5,c6,c7,c8,c9,c10,c11]=true){C:Addr}{w:Str}(hw:([c0,c1,c2,c3,c4,c5,c6,c7,c8,c9,c10,c11].zip ws).lookup C=some w):
  Wd K (.ref few) (.ty "ValueError") [[.ref c0,.ref c1,.ref c2],[.ref c3,.ref c4,.ref c5],[.ref c6,.ref c7,.ref c8],[.ref c9,.ref c10,.ref c11]] ws C w/\bx K C/\qO K C few=true:=by
 obtain⟨j,h1,h2⟩:=lookup_at hw;have hj:j<12:=(zA3.mp h1).1;have h3:=zBL.mp h j (zAx.mpr hj);simp only[h1,zAK]at h3;obtain⟨h4,h5⟩:=h3;have F:∀(i:Nat) c,[c0,c1,c2,c3,c4,c5,c6,c7,c8,c9,c10,c11][i]? =some c->Kt K C (.ref c) (i==j):=λ i c e=>by
  have h6:=zBL.mp h5 i (zAx.mpr (zA3.mp e).1);simp only[e]at h6;exact⟨_,rfl,of_decide_eq_true h6⟩
 unfold clB at h4;simp only[zAK,decide_eq_true_eq]at h4;obtain⟨⟨⟨⟨⟨⟨q1,q2⟩,q3⟩,q4⟩,q5⟩,q6⟩,q7⟩:=h4;refine⟨⟨⟨q1,q2,q3,q4⟩,⟨_,rfl,q5⟩,⟨_,rfl,q6⟩,[0==j,1==j,2==j],[3==j,4==j,5==j],[6==j,7==j,8==j],[9==j,10==j,11==j],j,_,_,_,_,rfl,.cons (F 0 c0 rfl) (.cons (F 1 c1 rfl) (.cons (F 2 c2 rfl) .nil)),.cons (F 3 c3 rfl) (.cons (F 4 c4 rfl) (.cons (F 5 c5 rfl) .nil)),
  .cons (F 6 c6 rfl) (.cons (F 7 c7 rfl) (.cons (F 8 c8 rfl) .nil)),.cons (F 9 c9 rfl) (.cons (F 10 c10 rfl) (.cons (F 11 c11 rfl) .nil)),by simp,?_,?_,?_,h2⟩,q1,q7⟩
 .exact(by decide:∀j,j<12->([0==j,1==j,2==j]++[3==j,4==j,5==j]++[6==j,7==j,8==j]++[9==j,10==j,11==j]).count true=1) j hj
 .exact(by decide:∀j,j<12->([0==j,1==j,2==j]++[3==j,4==j,5==j]++[6==j,7==j,8==j]++[9==j,10==j,11==j])[j]? =some true) j hj
 .exact λ m hm=>(by decide:∀j,j<12->∀m,m<j->([0==j,1==j,2==j]++[3==j,4==j,5==j]++[6==j,7==j,8==j]++[9==j,10==j,11==j])[m]? =some false) j hj m hm
def aDq{scope sc:Scope}(h:∀y∈scope.names,y.2= .free->sc.names.lookup y.1=some .cell\/sc.names.lookup y.1=some .free):∀y∈scope.names,y.2= .free->sc.names.lookup y.1=some .cell\/sc.names.lookup y.1=some .free:=h
def zL{K:zAA}{few:Addr}{cs:List Addr}(h:aA5 K few cs=true){i j:Nat}{C c:Addr}(hj:cs[j]? =some C)(hi:cs[i]? =some c):zB4 K (.ref C) (.ref c)=some (i==j):=by
 have h3:=zBL.mp h j (zAx.mpr (zA3.mp hj).1);simp only[hj,zAK]at h3;have h6:=zBL.mp h3.2 i (zAx.mpr (zA3.mp hi).1);simp only[hi]at h6;exact of_decide_eq_true h6
def aGQ{K:zAA}{few:Addr}{cs:List Addr}(h:aA5 K few cs=true){i j:Nat}{C:Addr}(hj:cs[j]? =some C)(hi:cs[i]? =some C):i=j:=by
 have a:=zL h hj hi;have b:=zL h hj hj;rw[a]at b;have e:=zAg b;rw[beq_self_eq_true]at e;exact zCs e
theorem tY{C:Addr}{w:Str}:∀{cs:List Addr} {ws:List Str} {j:Nat},(∀i:Nat,cs[i]? =some C->i=j)->cs[j]? =some C->ws[j]? =some w->(cs.zip ws).lookup C=some w
 |[],_,_,_,h,_=>by simp at h
 |_::_,[],_,_,_,h=>by simp at h
 |c::cs,x::ws,j,u,h1,h2=>by
  rw[zB1,zAl];by_cases e:C==c
  .have e0:0=j:=u 0 (by rw[zCs e];rfl)
   subst e0;simp only[e];simpa using h2
  .simp only[e]
   cases j with
   |zero=>
    have e1:c=C:=by simpa using h1
    rw[e1]at e;simp at e
   |succ j=>exact tY (j:=j) (λ i hi=>zFH (u (i+1) hi)) h1 h2
def aIo{K:zAA}{few:Addr}{cs:List Addr}{ws:List Str}(h:aA5 K few cs=true){j:Nat}{C:Addr}{w:Str}(h1:cs[j]? =some C)(h2:ws[j]? =some w):(cs.zip ws).lookup C=some w:=tY (λ i hi=>aGQ h h1 hi) h1 h2
end L2
namespace VL
open PySem PySem.Spec PyProof.Rows L2
def aIn{K:zAA}{mg:Str->Option Value}{few c0 c1 c2 c3 c4 c5 c6 c7 c8 c9 c10 c11:Addr}{ws:List Str}{ns:List Str}(h:aA5 K few [c0,c1,c2,c3,c4,c5,c6,c7,c8,c9,c10,c11]=true)
  (hl:ns.map (VL.az mg)=[c0,c1,c2,c3,c4,c5,c6,c7,c8,c9,c10,c11]):∀c w,(ns.zip ws).lookup c=some w->([c0,c1,c2,c3,c4,c5,c6,c7,c8,c9,c10,c11].zip ws).lookup (VL.az mg c)=some w:=λ c w e=>by
 have go:∀(ns:List Str) (ws:List Str),(ns.zip ws).lookup c=some w->∃j:Nat,ns[j]? =some c/\ws[j]? =some w:=by
  intro ns;induction ns with
  |nil=>intro ws h;cases h
  |cons x ns ih=>
   intro ws h;cases ws with
   |nil=>cases h
   |cons y ws=>
    rw[zB1,zAl]at h;by_cases e:c==x
    .simp only[e]at h
     cases h;exact⟨0,by rw[zCs e];rfl,rfl⟩
    .simp only[e]at h
     obtain⟨j,h1,h2⟩:=ih ws h;exact⟨j+1,h1,h2⟩
 obtain⟨j,h1,h2⟩:=go ns ws e;refine aIo h (j:=j) ?_ h2;rw[<-hl,zAW,h1];rfl
section
variable{O:zBr}{kz:Nat->O.α}{n:Nat}
def Wr{α:Type}(kz:Nat->O.α)(n:Nat):zFM α->(α->Prop)->Prop
 | .ret a,Q=>Q a
 | .ask i j k,Q=>i<n/\j<n/\Wr kz n (k (O.blt (kz i) (kz j))) Q
theorem Wr.bindI:∀{t:zFM α},Wr kz n t (λ a=>Wr kz n (g a) Q)->Wr kz n (t.bind g) Q
 | .ret _,h=>h
 | .ask _ _ _,⟨h1,h2,h3⟩=>⟨h1,h2,Wr.bindI h3⟩
abbrev Pm(n:Nat)(p:Array Nat):Prop:=p.Perm (zAj n).toArray
def Pm.sz(h:Pm n p):p.size=n:=by
 have:=h.size_eq
 simpa using this
def Pm.in(h:Pm n p)(hi:i<n):p.getD i 0<n:=by
 have hs:i<p.size:=by rw[h.sz];exact hi
 have e:p.getD i 0=p[i]:=by simp[Array.getD,hs]
 rw[e];have hm:p[i]∈(zAj n).toArray:=h.mem_iff.mp (Array.getElem_mem hs);simpa using hm
def Kp(kz:Nat->O.α)(p:Array Nat)(i:Nat):O.α:=kz (p.getD i 0)
def yw(h:p[i]? =q[j]?):Kp kz p i=Kp kz q j:=by
 unfold Kp;congr 1;rw[zE7,zE7,h]
def aDt(hs:c<p.size)(hd:d<=c)(k:Nat):
  Kp kz (bubble p c d) k=if k=c-d then Kp kz p c else if c-d<k/\k<=c then Kp kz p (k-1)else Kp kz p k:=by
 have e:=getElem?_bubble hs d hd k;by_cases u1:k=c-d
 .rw[if_pos u1]at e ⊢
  exact yw e
 .rw[if_neg u1]at e ⊢
  by_cases u2:c-d<k/\k<=c
  .rw[if_pos u2]at e ⊢
   exact yw e
  .rw[if_neg u2]at e ⊢
   exact yw e
def aAT(hj:j<=p.size)(k:Nat):Kp kz (zD0 p i j) k=if i<=k/\k<j then Kp kz p (i+j-1-k)else Kp kz p k:=by
 unfold zD0;have e:=getElem?_mirror_all (i:=i) hj k;by_cases u1:i<=k/\k<j
 .rw[if_pos u1]at e ⊢
  exact yw e
 .rw[if_neg u1]at e ⊢
  exact yw e
def mV(hj:j<=p.size)(he:∀k,i<=k->k<j->Kp kz p k=Kp kz p (j-1))(k:Nat):Kp kz (zD0 p i j) k=Kp kz p k:=by
 rw[aAT hj];split
 .rw[he _ (by lia) (by lia),he k (by lia) (by lia)]
 .rfl
def Up(kz:Nat->O.α)(p:Array Nat)(k:Nat):Prop:=∀i j,i<=j->j<k->O.kle (Kp kz p i) (Kp kz p j)
def Dn(kz:Nat->O.α)(p:Array Nat)(k:Nat):Prop:=∀i j,i<=j->j<k->O.kle (Kp kz p j) (Kp kz p i)
def tG(h:Pm n p)(i j:Nat):Pm n (zD0 p i j):=(mirror_perm _ _ _ _).trans h
def Up.succ(h:Up kz p m)(hm:1<=m)(hl:O.kle (Kp kz p (m-1)) (Kp kz p m)):Up kz p (m+1):=by
 intro i j hij hj;by_cases q:j<m
 .exact h i j hij q
 .have q':j=m:=by lia
  subst q';by_cases q2:i=j
  .rw[q2];exact zCT _
  .exact zDV (h i (j-1) (by lia) (by lia)) hl
def Dn.succ(h:Dn kz p m)(hm:1<=m)(hl:O.kle (Kp kz p m) (Kp kz p (m-1))):Dn kz p (m+1):=by
 intro i j hij hj;by_cases q:j<m
 .exact h i j hij q
 .have q':j=m:=by lia
  subst q';by_cases q2:i=j
  .rw[q2];exact zCT _
  .exact zDV hl (h i (j-1) (by lia) (by lia))
theorem zY(hp:Pm n p)(hr:r<=n):∀(f m:Nat),1<=m->m+f=r->Up kz p m->
  (∀m',1<=m'->m'<=r->Up kz p m'->(m'=r\/O.klt (Kp kz p m') (Kp kz p (m'-1)))->Q m')->Wr kz n (PySem.W.kas_asc p f m) Q
 |0,m,h1,hm,hu,k=>k m h1 (by lia) hu (.inl (by lia))
 |f+1,m,h1,hm,hu,k=>by
  refine⟨hp.in (by lia),hp.in (by lia),?_⟩;have hd:O.blt (kz (p.getD m 0)) (kz (p.getD (m-1) 0))=O.blt (Kp kz p m) (Kp kz p (m-1)):=rfl;rw[hd];cases hb:O.blt (Kp kz p m) (Kp kz p (m-1))with
  |true=>exact k m h1 (by lia) hu (.inr hb)
  |false=>exact zY hp hr f (m+1) (by lia) (by lia) (hu.succ h1 hb) k
theorem rM(hr:r<=n):∀(f:Nat) (p:Array Nat) (m e:Nat),Pm n p->1<=m->m+f=r->Dn kz p m->e+1<=m->(∀i,m-(e+1)<=i->i<m->Kp kz p i=Kp kz p (m-1))->
  (∀p' m' e',Pm n p'->1<=m'->m'<=r->Dn kz p' m'->e'+1<=m'->(∀i,m'-(e'+1)<=i->i<m'->Kp kz p' i=Kp kz p' (m'-1))->Q (p',m',e'))->Wr kz n (PySem.W.kas_desc f p m e) Q
 |0,p,m,e,hp,h1,hm,hd,he,hq,k=>k p m e hp h1 (by lia) hd he hq
 |f+1,p,m,e,hp,h1,hm,hd,he,hq,k=>by
  have hsz:m<=p.size:=by rw[hp.sz];lia
  refine⟨hp.in (by lia),hp.in (by lia),?_⟩;have hx:O.blt (kz (p.getD m 0)) (kz (p.getD (m-1) 0))=O.blt (Kp kz p m) (Kp kz p (m-1)):=rfl;rw[hx];cases hb:O.blt (Kp kz p m) (Kp kz p (m-1))with
  |true=>
   have hd':Dn kz p (m+1):=hd.succ h1 (zEG hb);dsimp only;rw[if_pos rfl];by_cases hz:e>0
   .rw[if_pos hz]
    refine rM hr f _ (m+1) 0 (tG hp _ _) (by lia) (by lia) (λ i j hij hj=>?_) (by lia) (λ i u v=>by congr 1;lia) k;rw[mV hsz hq,mV hsz hq];exact hd' i j hij hj
   .rw[if_neg hz]
    exact rM hr f p (m+1) 0 hp (by lia) (by lia) hd' (by lia) (λ i u v=>by congr 1;lia) k
  |false=>
   dsimp only;rw[if_neg (by simp)];refine⟨hp.in (by lia),hp.in (by lia),?_⟩;have hy:O.blt (kz (p.getD (m-1) 0)) (kz (p.getD m 0))=O.blt (Kp kz p (m-1)) (Kp kz p m):=rfl;rw[hy];cases hc:O.blt (Kp kz p (m-1)) (Kp kz p m)with
   |true=>exact k p m e hp h1 (by lia) hd he hq
   |false=>
    dsimp only;rw[if_neg (by simp)];have hee:Kp kz p m=Kp kz p (m-1):=zFh hc hb;refine rM hr f p (m+1) (e+1) hp (by lia) (by lia) (hd.succ h1 hc) (by lia) (λ i u v=>?_) k;rw[show m+1-1=m by lia];by_cases hi:i=m
    .rw[hi]
    .rw[hee]
     exact hq i (by lia) (by lia)
def aAb(hr:r<=n)(hp:Pm n p)(h1:1<=m)(hm:m<=r)(hd:Dn kz p m)(k:∀m' p',Pm n p'->1<=m'->m'<=r->Up kz p' m'->Q (m',p')):Wr kz n (PySem.W.kas_tail3 m r p) Q:=by
 have hsz:m<=p.size:=by rw[hp.sz];lia
 refine Wr.bindI (zY (tG hp 0 m) hr (r-m) m h1 (by lia) (λ i j hij hj=>?_) λ m' a1 a2 a3 _=>k m' _ (tG hp 0 m) a1 a2 a3);rw[aAT hsz,aAT hsz,if_pos (by lia),if_pos (by lia)];exact hd _ _ (by lia) (by lia)
def qT(hr:r<=n)(hp:Pm n p)(hm:m+1<=r)(hd:Dn kz p (m+1))(k:∀m' p',Pm n p'->1<=m'->m'<=r->Up kz p' m'->Q (m',p')):Wr kz n (PySem.W.kas_descPart m r p) Q:=by
 refine Wr.bindI (rM hr (r-(m+1)) p (m+1) 0 hp (by lia) (by lia) hd (by lia) (λ i u v=>by congr 1;lia) λ p' m' e' a1 a2 a3 a4 a5 a6=>?_);have hsz:m'<=p'.size:=by rw[a1.sz];lia
 dsimp only;by_cases hz:e'>0
 .rw[if_pos hz]
  refine aAb hr (tG a1 _ _) a2 a3 (λ i j hij hj=>?_) k;rw[mV hsz a6,mV hsz a6];exact a4 i j hij hj
 .rw[if_neg hz]
  exact aAb hr a1 a2 a3 a4 k
def aC3(hr:r<=n)(hp:Pm n p)(h1:1<=r)(k:∀m' p',Pm n p'->1<=m'->m'<=r->Up kz p' m'->Q (m',p')):Wr kz n (PySem.W.kas_count r p) Q:=by
 refine Wr.bindI (zY hp hr (r-1) 1 (zAL 1) (by lia) (λ i j hij hj=>by rw[show i=j by lia];exact zCT _) λ m a1 a2 a3 a4=>?_);by_cases hm:m=r
 .rw[if_pos (by simpa using hm)]
  exact k m p hp a1 a2 a3
 .rw[if_neg (by simpa using hm)]
  have hl:O.klt (Kp kz p m) (Kp kz p (m-1)):=a4.resolve_left hm;by_cases hg:m>1
  .rw[if_pos hg]
   refine⟨hp.in (by lia),hp.in (by lia),?_⟩;have hx:O.blt (kz (p.getD 0 0)) (kz (p.getD (m-1) 0))=O.blt (Kp kz p 0) (Kp kz p (m-1)):=rfl;rw[hx];cases hb:O.blt (Kp kz p 0) (Kp kz p (m-1))with
   |true=>exact k m p hp a1 a2 a3
   |false=>
    dsimp only;rw[if_neg (by simp)];have hsz:m<=p.size:=by rw[hp.sz];lia
    have yY:∀i,0<=i->i<m->Kp kz p i=Kp kz p (m-1):=λ i _ hi=>zFh (a3 i (m-1) (by lia) (by lia)) (zDV hb (a3 0 i (by lia) hi))
    refine qT hr (tG hp 0 m) (by lia) (λ i j hij hj=>?_) k;rw[mV hsz yY,mV hsz yY];by_cases hjm:j<m
    .rw[yY i (by lia) (by lia),yY j (by lia) hjm];exact zCT _
    .have hj':j=m:=by lia
     subst hj';by_cases hi:i=j
     .rw[hi];exact zCT _
     .rw[yY i (by lia) (by lia)];exact zEG hl
  .rw[if_neg hg]
   have hm1:m=1:=by lia
   subst hm1;refine qT hr hp (by lia) (λ i j hij hj=>?_) k;by_cases hi:i=j
   .rw[hi];exact zCT _
   .have e1:i=0:=by lia
    have e2:j=1:=by lia
    subst e1 e2;exact zEG hl
theorem rZ(hp:Pm n p)(hc:c<n)(hu:Up kz p c):∀(f l r:Nat),l<=r->r<=c->r-l<=f->(∀i,i<l->O.kle (Kp kz p i) (Kp kz p c))->(∀i,r<=i->i<c->O.klt (Kp kz p c) (Kp kz p i))->
  (∀l',l'<=c->(∀i,i<l'->O.kle (Kp kz p i) (Kp kz p c))->(∀i,l'<=i->i<c->O.klt (Kp kz p c) (Kp kz p i))->Q l')->Wr kz n (zFy p c f l r) Q
 |0,l,r,a1,a2,a3,a4,a5,k=>by
  have e:l=r:=by lia
  subst e;exact k l a2 a4 a5
 |f+1,l,r,a1,a2,a3,a4,a5,k=>by
  unfold zFy;by_cases hg:l ≥ r
  .rw[if_pos hg]
   have e:l=r:=by lia
   subst e;exact k l a2 a4 a5
  .rw[if_neg hg]
   refine⟨hp.in hc,hp.in (by lia),?_⟩;have hx:O.blt (kz (p.getD c 0)) (kz (p.getD ((l+r) / 2) 0))=O.blt (Kp kz p c) (Kp kz p ((l+r) / 2)):=rfl;rw[hx];cases hb:O.blt (Kp kz p c) (Kp kz p ((l+r) / 2))with
   |true=>exact rZ hp hc hu f l ((l+r) / 2) (by lia) (by lia) (by lia) a4 (λ i u v=>KeyOrd.klt_of_klt_of_kle hb (hu _ _ u v)) k
   |false=>exact rZ hp hc hu f ((l+r) / 2+1) r (by lia) a2 (by lia) (λ i u=>zDV (hu i ((l+r) / 2) (by lia) (by lia)) hb) a5 k
theorem aC4:∀(f:Nat) (p:Array Nat) (c:Nat),Pm n p->c+f=n->Up kz p c->(∀p',Pm n p'->Up kz p' n->Q p')->Wr kz n (PySem.W.kas_bin f p c) Q
 |0,p,c,hp,hc,hu,k=>k p hp (by rw[show n=c by lia];exact hu)
 |f+1,p,c,hp,hc,hu,k=>by
  refine Wr.bindI (rZ hp (by lia) hu c 0 c (by lia) (zAL c) (by lia) (λ i u=>by lia) (λ i u v=>by lia) λ l a1 a2 a3=>?_);refine aC4 f _ (c+1) ((bubble_perm _ _ _).trans hp) (by lia) (λ i j hij hj=>?_) k;have hs:c<p.size:=by rw[hp.sz];lia
  rw[aDt hs (by lia),aDt hs (by lia),show c-(c-l)=l by lia]
  repeat' split
  all_goals first
   |(exfalso;lia)
   |exact O.irrefl _
   |exact a2 _ (by lia)
   |exact KeyOrd.klt_asymm (a3 _ (by lia) (by lia))
   |exact hu _ _ (by lia) (by lia)
def aEi(h1:1<=n)(k:∀p,Pm n p->Up kz p n->Q p):Wr kz n (PySem.W.kas_sort n) Q:=by
 refine Wr.bindI (aC3 (zAL n) (zFd _) h1 λ m p a1 a2 a3 a4=>?_);dsimp only;by_cases hm:m<n
 .rw[if_pos hm]
  exact aC4 _ p _ a1 (by lia) (by rw[show max m 1=m by lia];exact a4) k
 .rw[if_neg hm]
  exact k p a1 (by rw[show n=m by lia];exact a4)
theorem xn{I:zAB->Prop}(hc:∀i j (C:Bool->zAB->Prop) s,I s->i<n->j<n->(∀s',I s'->C (O.blt (kz i) (kz j)) s')->cmp i j C s):
  ∀(t:zFM α) (s:zAB),I s->Wr kz n t (λ a=>∀s',I s'->Q a s')->t.kasWp cmp Q s
 | .ret a,s,hI,h=>h s hI
 | .ask i j k,s,hI,⟨h1,h2,h3⟩=>hc i j _ s hI h1 h2 λ s' hI'=>xn hc _ s' hI' h3
end
theorem xK:∀a:List Int,HT.lexLt a a=false
 |[]=>rfl
 |x::a=>by rw[HT.iR,if_pos rfl];exact xK a
theorem pA:∀a b c:List Int,HT.lexLt a b=true->HT.lexLt b c=true->HT.lexLt a c=true
 |[],[],c,h,_=>by cases h
 |[],_::_,[],_,h=>by cases h
 |[],_::_,_::_,_,_=>rfl
 |_::_,[],_,h,_=>by cases h
 |_::_,_::_,[],_,h=>by cases h
 |x::a,y::b,z::c,h1,h2=>by
  rw[HT.iR]at h1 h2 ⊢;by_cases e1:x=y
  .subst e1
   rw[if_pos rfl]at h1;by_cases e2:x=z
   .rw[if_pos e2]at h2 ⊢
    exact pA a b c h1 h2
   .rw[if_neg e2]at h2 ⊢
    exact h2
  .rw[if_neg e1]at h1
   simp only[decide_eq_true_eq]at h1;by_cases e2:y=z
   .subst e2
    rw[if_neg e1];simpa using h1
   .rw[if_neg e2]at h2
    simp only[decide_eq_true_eq]at h2;rw[if_neg (by lia)];simp only[decide_eq_true_eq];lia
theorem xJ:∀a b:List Int,HT.lexLt a b=false->HT.lexLt b a=false->a=b
 |[],[],_,_=>rfl
 |[],_::_,h,_=>by cases h
 |_::_,[],_,h=>by cases h
 |x::a,y::b,h1,h2=>by
  rw[HT.iR]at h1 h2;by_cases e:x=y
  .subst e
   rw[if_pos rfl]at h1 h2;rw[xJ a b h1 h2]
  .rw[if_neg e]at h1
   rw[if_neg λ q=>e q.symm]at h2;simp only[decide_eq_false_iff_not]at h1 h2;lia
def aDh(a b c:List Int)(h:HT.lexLt a c=true):HT.lexLt a b=true\/HT.lexLt b c=true:=by
 cases e1:HT.lexLt a b with
 |true=>exact .inl rfl
 |false=>
  right;cases e2:HT.lexLt b a with
  |true=>exact pA b a c e2 h
  |false=>rw[<-xJ a b e1 e2];exact h
def aAP:zBr:=⟨List Int,HT.lexLt,xK,pA,aDh,xJ⟩
inductive dO(h:Heap):List Value->List (List Int)->Prop where
 |nil:dO h [] []
 |cons {x:Addr} {o:Obj} {xs:Array Value} {k:Nat} {ns:List Int} {vs:List Value} {nss:gV} (ho:h.get? x=some o) (hc:o.cls= .type "tuple") (hd:o.data= .seq xs k) (hi:zB6 xs.toList ns) (hne:ns≠[]) (r:dO h vs nss):dO h (.ref x::vs) (ns::nss)
theorem dO.mono(k:∀x o,h.get? x=some o->o.cls= .type "tuple"->h'.get? x=some o):∀{vs:List Value} {nss:gV},dO h vs nss->dO h' vs nss
 |_,_,.nil=>.nil
 |_,_,.cons ho hc hd hi hne r=>.cons (k _ _ ho hc) hc hd hi hne (dO.mono k r)
theorem dO.at:∀{vs:List Value} {nss:gV} {i:Nat},dO h vs nss->i<vs.length->∃x o xs k,vs.getD i zBZ= .ref x/\h.get? x=some o/\o.cls= .type "tuple"/\o.data= .seq xs k/\zB6 xs.toList (nss.getD i [])/\nss.getD i []≠[]
 |_,_,_,.nil,hi=>by simp at hi
 |_,_,0,.cons ho hc hd hi hne _,_=>⟨_,_,_,_,rfl,ho,hc,hd,hi,hne⟩
 |_,_,i+1,.cons _ _ _ _ _ r,hi=>by
  obtain⟨x,o,xs,k,q⟩:=dO.at (i:=i) r (by simpa using hi);exact⟨x,o,xs,k,by simpa using q⟩
theorem dO.firsts:∀{vs:List Value} {nss:gV},dO h vs nss->∃fs,PySem.W.KatTups h vs fs/\fs.length=vs.length/\∀f∈fs,∃n t,f=zD3 n t
 |_,_,.nil=>⟨[],.nil,rfl,λ f hf=>by simp at hf⟩
 |_,_,.cons (xs:=xs) ho hc hd hi hne r=>by
  obtain⟨fs,h1,h2,h3⟩:=dO.firsts r;obtain⟨l,rfl⟩:∃l:List Value,xs=l.toArray:=⟨xs.toList,by simp⟩
  rw[show l.toArray.toList=l by simp]at hi;cases hi with
  |nil=>exact absurd rfl hne
  |cons n t q=>
   rename_i l' ns';refine⟨.int n t::fs,.cons ho hc hd (by simp) h1,by simp[h2],λ f hf=>?_⟩;rcases zAX.mp hf with rfl|hf
   .exact⟨n,t,rfl⟩
   .exact h3 f hf
section
variable{prog:zAP}{w:World}{A:zA7}{E:Value->zAB->Prop}{s:zAB}
def yx:∀{xs ys:List Value} {ns ms:List Int} (i:Nat),zB6 xs ns->zB6 ys ms->fin=decide (xs.length<ys.length)->Q (HT.lexLt ns ms) s->PySem.W.KatLex prog w A b fin Q (xs.zip ys) i s:=by
 intro xs ys ns ms i hx;induction hx generalizing ys ms i with
 |nil=>intro hy hf q;cases hy<;>(subst hf;exact q)
 |@cons x t xs ns r ih=>
  intro hy hf q;cases hy with
  |nil=>subst hf;exact q
  |@cons y u ys ms r'=>?_
  rw[zB1];refine PySem.W.kat_cons (wpAny_eqBool_int ?_);rw[HT.iR]at q;by_cases e:x=y
  .rw[if_pos e]at q
   rw[show(x==y)=true by simpa using e];exact PySem.W.kat_yes (ih (i+1) r' (by rw[hf];simp) q)
  .rw[if_neg e]at q
   rw[show(x==y)=false by simpa using e];refine PySem.W.kat_no ?_;cases hb:(b&&i==0)with
   |true=>exact oneLt_int q
   |false=>exact PySem.W.kat_one _ _ (zEq q)
def aAV(hx:s.heap.get? x=some ox)(dx:ox.data= .seq xs n)(hy:s.heap.get? y=some oy)(dy:oy.data= .seq ys k)(hi:zB6 xs.toList ns)(hj:zB6 ys.toList ms)
  (q:Q (HT.lexLt ns ms) s):wpAny (model prog w) A (keyLt' (tuples' b) (.ref x) (.ref y)) Q E s:=
 PySem.W.kat_lt hx dx hy dy (yx 0 hi hj (by simp) q)
def m9(vs:List Value)(p:Array Nat):Array Value:=(p.toList.map λ i=>vs.getD i zBZ).toArray
def aEh(h:vs.length<2):(vs.toArray.zip vs.toArray).map (·.2)=m9 vs (zAj vs.length).toArray:=by
 cases vs with
 |nil=>simp[m9]
 |cons v t=>
  cases t with
  |nil=>simp[m9]
  |cons u t=>exact absurd h (zEU.mpr (Nat.le_add_left 2 t.length))
def aAO(ho:s.heap.get? a=some (zBu "list" vs.toArray c))(ht:dO s.heap vs nss)(h64:vs.length<64)
  (h:∀p:Array Nat,Pm vs.length p->Up (O:=aAP) (λ i=>nss.getD i []) p vs.length->P (.done (.ret .none)) {s with heap:=zGF s.heap a vs (m9 vs p)}):
  wpAny (model prog w) A (zDb.«list.sort» ⟨[.ref a],[]⟩) P E s:=by
 have hlt:a<s.heap.objs.size:=zAV ho;have hz:vs.length<=zAN:=by rw[zCL];lia
 obtain⟨e1,ho1⟩:∃e1,(s.heap.update a (zCC λ _=>(#[]:Array Value))).get? a=some (zBu "list" #[] e1):=⟨_,zF9 ho λ _=>#[]⟩
 have keep:∀x o,s.heap.get? x=some o->o.cls= .type "tuple"->(((s.heap.update a (zCC λ _=>(#[]:Array Value))).push (zBu "tuple" vs.toArray 0)).push (zBu "list" #[] 0)).get? x=some o:=λ x o e q=>by
  have hxa:x≠a:=λ z=>by
   subst z;rw[ho]at e;cases e;exact absurd q (show¬(zBz "list"=zBz "tuple")by decide)
  refine zAG _ (zAG _ ?_);rw[zCw _ _ _ _ hxa];exact e
 have ho6:(((s.heap.update a (zCC λ _=>(#[]:Array Value))).push (zBu "tuple" vs.toArray 0)).push (zBu "list" #[] 0)).get? a=some (zBu "list" #[] e1):=zAG _ (zAG _ ho1);have ht6:=ht.mono keep;rw[list_sort_plain];refine zAI (listItems_at ho rfl (zAI (zGR ho rfl ?_ (by rw[zAJ];exact hz) (zAc _))));refine zAI (zGl ho1 rfl (zAI (wpAny_newTuple ?_ (by show vs.length<=_;exact hz))));refine zAI (wpAny_newList (zCQ ?_) (zAc _));show wpAny (model prog w) A _ P E {s with heap:=((s.heap.update a (zCC λ _=>(#[]:Array Value))).push (zBu "tuple" vs.toArray 0)).push (zBu "list" #[] 0)};dsimp only;have hsz:∀p:Array Nat,Pm vs.length p->(m9 vs p).size=vs.length:=λ p a1=>by unfold m9;rw[zAJ,zAE,zBp,a1.sz]
 by_cases h2:vs.toArray.size<2
 .rw[if_pos h2,if_pos h2]
  refine zAI (zA6 ?_);rw[StateT.run_pure];refine zAI (zA6 ?_);have h2':vs.length<2:=by simpa using h2
  have a1:Pm vs.length (zAj vs.length).toArray:=zFd _;have a3:=aEh h2';dsimp only;refine zAI (zGl ho6 rfl ?_);show wpAny (model prog w) A (zCv (.ref a) (λ _=>(vs.toArray.zip vs.toArray).map (·.2))>>=_) P E _;rw[a3];refine zAI (zGR ho6 rfl ?_ (zAc _) (by show(m9 vs _).size<=_;rw[hsz _ a1];lia));simp only[bne_self_eq_false,zEE,if_false];exact zA6 (h _ a1 λ i j hij hj=>by rw[show i=j by lia];exact xK _)
 .rw[if_neg h2,if_neg h2]
  have h2':2<=vs.length:=zGa (show¬vs.length<2 by simpa using h2);obtain⟨fs,f1,f2,f3⟩:=ht6.firsts;refine zAI (PySem.W.kat_kind (T:=.type "int") f1 (by lia) (λ v hv=>?_) (by decide) ?_)
  .obtain⟨n,t,rfl⟩:=f3 v hv
   exact zHH
  rw[show(zBz "int" !=zBz "tuple")=true by decide];refine zAI (zB5 (PySem.W.kat_run (κ:=tuples' true) (ks:=vs) (vs:=vs) (Q:=λ st s'=>s'={s with heap:=((s.heap.update a (zCC λ _=>(#[]:Array Value))).push (zBu "tuple" vs.toArray 0)).push (zBu "list" #[] 0)}/\∃p:Array Nat,Pm vs.length p/\Up (O:=aAP) (λ i=>nss.getD i []) p vs.length/\(arrOf st).map (·.2)=m9 vs p/\zFV st=none)
   (G:=λ p s'=>s'={s with heap:=((s.heap.update a (zCC λ _=>(#[]:Array Value))).push (zBu "tuple" vs.toArray 0)).push (zBu "list" #[] 0)}/\Pm vs.length p/\Up (O:=aAP) (λ i=>nss.getD i []) p vs.length)
   rfl h2' h64 (λ p st s' _ b2 b3 b4=>⟨b4.1,p,b4.2.1,b4.2.2,PySem.W.kat_snds rfl b2,b3⟩) ?_) (λ r s' hr=>?_) λ _ _ e=>e)
  .refine xn (O:=aAP) (kz:=λ i=>nss.getD i []) (n:=vs.length) (I:=λ s'=>s'={s with heap:=((s.heap.update a (zCC λ _=>(#[]:Array Value))).push (zBu "tuple" vs.toArray 0)).push (zBu "list" #[] 0)}) (λ i j C s' hI hi hj hC=>?_) _ _ rfl (aEi (by lia) λ p a1 a2 s' hs'=>⟨hs',a1,a2⟩)
   subst hI;unfold PySem.W.kas_ask;obtain⟨x,ox,xs,kx,x1,x2,_,x4,x5,_⟩:=ht6.at hi;obtain⟨y,oy,ys,ky,y1,y2,_,y4,y5,_⟩:=ht6.at hj;rw[x1,y1];exact aAV x2 x4 y2 y4 x5 y5 (hC _ rfl)
  .obtain⟨⟨⟩,st⟩:=r
   obtain⟨e,p,b1,b2,b3,b4⟩:=hr;subst e;refine zAI (zGl ho6 rfl ?_);rw[b3,b4];refine zAI (zGR ho6 rfl ?_ (zAc _) (by show(m9 vs p).size<=_;rw[hsz p b1];lia));simp only[bne_self_eq_false,zEE,if_false];exact zA6 (h p b1 b2)
end
def Ris(xs:Array Nat):Prop:=∀i j,i<j->j<xs.size->xs.getD i 0<xs.getD j 0
structure TbOk(t:zFU)(n:Nat):Prop where
 dum:t.dummies=#[]
 siz:t.place.size=n
 ris:Ris t.place
 top:∀i,i<n->t.place.getD i 0<=t.mask
 msk:t.mask=7/\n<5\/t.mask=31/\n<19\/t.mask=127/\n<77
 pla:t.plain=true
structure TbPut(t:zFU)(n:Nat):Prop where
 dum:t.dummies=#[]
 siz:t.place.size=n
 ris:Ris t.place
 top:∀i,i<n->t.place.getD i 0<=t.mask
 msk:t.mask=7/\n<=5\/t.mask=31/\n<=19\/t.mask=127/\n<77
 pla:t.plain=true
structure TupAt(h:Heap)(x:Addr)(ns:List Int):Prop where
 ex:∃o xs k,h.get? x=some o/\o.cls= .type "tuple"/\o.data= .seq xs k/\zB6 xs.toList ns
end VL
namespace PySem
end PySem
namespace VL
open PySem PySem.Spec PyProof.Rows L2
def aG2(h:Heap)(p:Value×List Int):Prop:=∃x o xs k,p.1= .ref x/\h.get? x=some o/\o.cls= .type "tuple"/\o.data= .seq xs k/\zB6 xs.toList p.2/\p.2≠[]
theorem dO.all:∀{vs:List Value} {nss:gV},dO h vs nss->∀p∈vs.zip nss,aG2 h p
 |_,_,.nil,p,hp=>by simp at hp
 |_,_,.cons ho hc hd hi hne r,p,hp=>by
  rw[zB1]at hp;rcases zAX.mp hp with e|hp
  .subst e;exact⟨_,_,_,_,rfl,ho,hc,hd,hi,hne⟩
  .exact r.all p hp
theorem aAe:∀{zs:List (Value×List Int)},(∀p∈zs,aG2 h p)->dO h (zs.map (·.1)) (zs.map (·.2))
 |[],_=>.nil
 |p::zs,hz=>by
  obtain⟨x,o,xs,k,e1,e2,e3,e4,e5,e6⟩:=hz p zAD;rw[zAU,zAU,e1];exact .cons e2 e3 e4 e5 e6 (aAe λ q hq=>hz q (zAF _ hq))
def o4(h:l.Perm m'):∀{m:List α},m'=m.map f->∃m2:List α,m2.Perm m/\l=m2.map f:=by
 induction h with
 |nil=>intro m e;exact⟨m,zBo _,e⟩
 |cons x p ih=>
  intro m e;cases m with
  |nil=>cases e
  |cons a m=>
   rw[zAU]at e;injection e with e1 e2
   obtain⟨m2,q1,q2⟩:=ih e2;exact⟨a::m2,q1.cons a,by rw[zAU,q2,e1]⟩
 |swap x y l=>
  intro m e;cases m with
  |nil=>cases e
  |cons a m=>
   cases m with
   |nil=>rw[zAU]at e;injection e with _ e2;cases e2
   |cons b m=>
    rw[zAU,zAU]at e;injection e with e1 e2
    injection e2 with e2 e3
    exact⟨b::a::m,zET _ _ _,by rw[zAU,zAU,e1,e2,e3]⟩
 |trans p q ih1 ih2=>
  intro m e;obtain⟨m2,a1,a2⟩:=ih2 e;obtain⟨m3,b1,b2⟩:=ih1 a2;exact⟨m3,b1.trans a1,b2⟩
def pU(l:gV):Prop:=l.Pairwise λ a b=>HT.lexLt b a=false
section
variable{prog:zAP}{w:World}{A:zA7}{E:Value->zAB->Prop}{s:zAB}
def yL{Q:Value->zAB->Prop}(hz:∀p∈zs,aG2 s.heap p)(h64:zs.length<64)
  (h:∀(zs':List (Value×List Int)) h' e,zs'.Perm zs->pU (zs'.map (·.2))->(∀b o,s.heap.get? b=some o->h'.get? b=some o)->h'.get? s.heap.objs.size=some (zBu "list" (zs'.map (·.1)).toArray e)->Q (.ref s.heap.objs.size) {s with heap:=h'}):
  wpAny (model prog w) A (zGj (zs.map (·.1))>>=λ l=>zDL [l] (call (.builtin "list.sort") [l])>>=λ _=>ret l) (λ fin s'=>∃r,fin= .done (.ret r)/\Q r s') E s:=by
 have kX:(zs.map (·.1)).length=zs.length:=zAE _;refine zAI (wpAny_newList ?_ (by rw[zCL];omega));have hoL:(s.heap.push (zBu "list" (zs.map (·.1)).toArray 0)).get? s.heap.objs.size=some (zBu "list" (zs.map (·.1)).toArray 0):=zAa _ rfl;refine zAI (zCQ (zDD slot_list_sort ⟨_,hoL,rfl⟩ entry_list_sort ?_ (args_list_sort _)));refine aAO (s:={s with heap:=s.heap.push (zBu "list" (zs.map (·.1)).toArray 0)}) hoL (aAe λ p hp=>?_) (by omega) λ p a1 a2=>⟨_,rfl,?_⟩
 .obtain⟨x,o,xs,k,e1,e2,e3⟩:=hz p hp
  exact⟨x,o,xs,k,e1,zAG _ e2,e3⟩
 rw[kX]at a1 a2;have dS:p.toList.map (λ i=>(zs.map (·.1)).getD i zBZ)=(p.toList.map λ i=>zs.getD i (zBZ,[])).map (·.1):=by
  rw[zAq];refine zBT λ i hi=>?_
  show(zs.map (·.1)).getD i zBZ=(zs.getD i (zBZ,[])).1
  rw[zBd,zBd,zAW];cases zs[i]?<;>rfl
 have hperm:(p.toList.map λ i=>zs.getD i (zBZ,[])).Perm zs:=by
  have h1:p.toList.Perm (zAj zs.length):=by
   have:=Array.perm_iff_toList_perm.mp a1
   simpa using this
  refine(h1.map _).trans ?_
  have:(zAj zs.length).map (λ i=>zs.getD i (zBZ,[]))=zs:=by
   refine List.ext_getElem (by simp) λ i h1 h2=>?_
   rw[zEZ,List.getElem_range,zBd,zAR h2];rfl
  rw[this]
 have hne:∀b o,s.heap.get? b=some o->b≠s.heap.objs.size:=λ b o e=>zAf (zAV e)
 obtain⟨e1,he1⟩:∃e1,((s.heap.push (zBu "list" (zs.map (·.1)).toArray 0)).update s.heap.objs.size (zCC λ _=>(#[]:Array Value))).get? s.heap.objs.size=some (zBu "list" #[] e1):=⟨_,zF9 hoL λ _=>#[]⟩
 have g1:=zAG (zBu "list" #[] 0) (zAG (zBu "tuple" (zs.map (·.1)).toArray 0) he1);have g2:=zF9 g1 (λ _=>m9 (zs.map (·.1)) p);generalize (if ((m9 (zs.map (·.1)) p).size==(#[]:Array Value).size)=true then e1 else e1+1)=c1 at g2;have hend:(zGF (s.heap.push (zBu "list" (zs.map (·.1)).toArray 0)) s.heap.objs.size (zs.map (·.1)) (m9 (zs.map (·.1)) p)).get? s.heap.objs.size=some (zBu "list" (m9 (zs.map (·.1)) p) c1):=g2;have kK:m9 (zs.map (·.1)) p=((p.toList.map λ i=>zs.getD i (zBZ,[])).map (·.1)).toArray:=by unfold m9;rw[dS]
 have hris:pU ((p.toList.map λ i=>zs.getD i (zBZ,[])).map (·.2)):=by
  unfold pU;rw[zAq];refine List.pairwise_iff_getElem.mpr λ i j hi hj hij=>?_
  rw[zAE,zBp,a1.sz]at hi hj;have hk:∀k (hk:k<zs.length),Kp (O:=aAP) (λ i=>(zs.map (·.2)).getD i []) p k=(zs.getD (p.getD k 0) (zBZ,[])).2:=λ k hk=>by
   show(zs.map (·.2)).getD (p.getD k 0) []=_
   rw[zBd,zBd,zAW];cases zs[p.getD k 0]?<;>rfl
  have hg:∀k (hk:k<p.toList.length),p.toList[k]=p.getD k 0:=λ k hk=>by
   have:k<p.size:=by simpa using hk
   simp[Array.getD,this]
  have this:HT.lexLt (Kp (O:=aAP) (λ i=>(zs.map (·.2)).getD i []) p j) (Kp (O:=aAP) (λ i=>(zs.map (·.2)).getD i []) p i)=false:=a2 i j (zB9 hij) hj;rw[hk i hi,hk j hj]at this;rw[zEZ,zEZ,hg,hg];exact this
 have dL:∀b o,s.heap.get? b=some o->(zGF (s.heap.push (zBu "list" (zs.map (·.1)).toArray 0)) s.heap.objs.size (zs.map (·.1)) (m9 (zs.map (·.1)) p)).get? b=some o:=λ b o e=>by
  unfold zGF;rw[zCw _ _ _ _ (hne b o e)];refine zAG _ (zAG _ ?_);rw[zCw _ _ _ _ (hne b o e)];exact zAG _ e
 rw[kK]at hend dL;have hq:=h (p.toList.map λ i=>zs.getD i (zBZ,[])) _ c1 hperm hris dL hend;rw[<-kK]at hq;exact zA6 ⟨_,rfl,hq⟩
def wL(h:wpAny (model prog w) A.in1 (collect v) (λ vs s'=>wpAny (model prog w) A.in1 (zGj vs>>=λ l=>zDL [l] (call (.builtin "list.sort") [l])>>=λ _=>ret l) (λ fin s'=>∃r,fin= .done (.ret r)/\Q r s') E s') E s):
  wpAny (model prog w) A (call (.builtin "sorted") [v]) Q E s:=by
 refine Calls.call_function_entry kind_sorted plain_sorted entry_sorted (args_sorted1 _) ?_;unfold zDb.«sorted»;refine zAI (m:=checkCount "sorted" 1 1 _) (zA6 (zAI ?_));exact h
end
inductive gU(K:zAA)(H:Hp):List V->List (List Int)->Prop where
 |nil:gU K H [] []
 |cons {a:Addr} {ns:List Int} {vs:List V} {nss:gV} (h:SqT K H a (ns.map V.int)) (hne:ns≠[]) (r:gU K H vs nss):gU K H (.ref a::vs) (ns::nss)
def qD:V->Value
 | .ref a=>.ref a
 |_=>.none
def gU.vals{K:zAA}:∀{vs:List V} {nss:gV} {us:List Value},gU K H vs nss->Vals vs us->us=vs.map qD:=by
 intro vs nss us t v;induction v generalizing nss with
 |nil=>rfl
 |cons q s ih=>
  cases t with
  |cons _ _ r=>
   cases q;rw[zAU,ih r];rfl
theorem gU.len{K:zAA}:∀{vs:List V} {nss:gV},gU K H vs nss->vs.length=nss.length
 |_,_,.nil=>rfl
 |_,_,.cons _ _ r=>by rw[zAS,zAS,r.len]
theorem gU.refs{K:zAA}:∀{vs:List V} {nss:gV},gU K H vs nss->∀v∈vs,RelV v (qD v)
 |_,_,.nil,v,hv=>by simp at hv
 |_,_,.cons _ _ r,v,hv=>by
  rcases zAX.mp hv with e|hv
  .subst e;exact rfl
  .exact r.refs v hv
theorem gU.at(I:Inv X kQ σ H s):∀{vs:List V} {nss:gV},gU X.K H vs nss->dO s.heap (vs.map qD) nss
 |_,_,.nil=>.nil
 |_,_,.cons h hne r=>by
  obtain⟨its,rv,⟨o,ho,hc,n,hd⟩,_⟩:=I.tuple h;exact .cons ho hc hd (by simpa using intsAre_of rv) hne (r.at I)
theorem vG:∀{vs:List V},(∀v∈vs,RelV v (qD v))->Vals vs (vs.map qD)
 |[],_=>.nil
 |v::vs,h=>.cons (h v zAD) (vG λ u hu=>h u (zAF _ hu))
section
variable{X:Cx}
def aEa(H:Hp)(vs:List V)(nss:gV)(Q:VK):Prop:=∀zs:List (V×List Int),zs.Perm (vs.zip nss)->pU (zs.map (·.2))->New H (.lst (zs.map (·.1))) Q
def zj{kQ:hV}(I:Inv X kQ σ H s)(ht:gU X.K H vs nss)(h64:vs.length<64)(q:aEa H vs nss Q)
  (hs1:∃h1 tk,s1={s with heap:=h1,toks:=tk}/\s.heap.objs.size<=h1.objs.size/\∀b o,s.heap.get? b=some o->h1.get? b=some o){zs:List (Value×List Int)}(hz:zs.Perm ((vs.map qD).zip nss))(hus:us=zs.map (·.1)):
  wpAny (model X.prog X.w) X.A.in1 (zGj us>>=λ l=>zDL [l] (call (.builtin "list.sort") [l])>>=λ _=>ret l) (λ fin s'=>∃r,fin= .done (.ret r)/\EP X kQ σ Q r s') X.xe s1:=by
 obtain⟨h1,tk,rfl,hsz,keep⟩:=hs1;subst hus;have yY:∀p∈zs,aG2 h1 p:=λ p hp=>by
  obtain⟨x,o,xs,k,e1,e2,e3⟩:=(ht.at I).all p (hz.mem_iff.mp hp);exact⟨x,o,xs,k,e1,keep _ _ e2,e3⟩
 have kX:zs.length<64:=by
  rw[hz.length_eq,zG8,zAE,<-ht.len,zE4];exact h64
 refine yL (s:={s with heap:=h1,toks:=tk}) yY kX λ zs' h' e a1 a2 a3 a4=>?_
 have dS:(vs.map qD).zip nss=(vs.zip nss).map λ p=>(qD p.1,p.2):=by rw[List.zip_map_left];rfl
 obtain⟨ws,w1,w2⟩:=o4 (f:=λ p:V×List Int=>(qD p.1,p.2)) (a1.trans hz) dS;have hfr:H h1.objs.size=none:=I.hok.fresh hsz;have hmem:∀v∈ws.map (·.1),RelV v (qD v):=λ v hv=>by
  obtain⟨p,hp,rfl⟩:=zA4.mp hv;exact ht.refs p.1 (zC3 (w1.mem_iff.mp hp)).1
 have hws:zs'.map (·.1)=(ws.map (·.1)).map qD:=by rw[w2,zAq,zAq];rfl
 have hwl:(ws.map (·.1)).length<=zAN:=by
  rw[zAE,w1.length_eq,zG8,<-ht.len,zE4,zCL];lia
 refine⟨.ref h1.objs.size,upd H h1.objs.size (.lst (ws.map (·.1))),I.laid (t':=tk) (λ b o e=>a3 b o (keep b o e)) hsz ⟨hwl,(ws.map (·.1)).map qD,e,vG hmem,?_⟩,rfl,(q ws w1 ?_).at hfr⟩
 .rw[<-hws];exact a4
 .have:ws.map (·.2)=zs'.map (·.2):=by rw[w2,zAq];rfl
  rw[this];exact a2
def zy(K:zAA):List V->Hp->VK->Prop:=λ xs H Q=>∃p vs nss,xs=[.ref p]/\SqL K H p vs/\gU K H vs nss/\vs.length<64/\aEa H vs nss Q
def vD:dw X (.builtin "sorted") (zy X.K):=by
 intro kQ s σ H xs us Q I r h;obtain⟨p,vs,nss,rfl,hp,ht,h64,q⟩:=h;obtain⟨u,rfl,ru⟩:=vals1 r;cases ru;obtain⟨its,rv,pl,hz⟩:=I.list hp;have e:=ht.vals rv;subst e;have hl2:(vs.map qD).length=nss.length:=by rw[zAE];exact ht.len
 refine wL (collect_list pl.isList ?_ (by rw[zAE];exact hz));refine zj I ht h64 q ⟨_,_,rfl,?_,λ b o e=>?_⟩ (zBo _) ?_
 .rw[Heap.size_update,size_push']
  exact zDy _
 .rw[zCw _ _ _ _ (zAf (zAV e))]
  exact zAG _ e
 .exact(List.map_fst_zip (by lia)).symm
end
def aCN(a:List Int):gV->List (List Int)
 |[]=>[a]
 |b::l=>if HT.lexLt b a then b::aCN a l else a::b::l
def vM:gV->List (List Int)
 |[]=>[]
 |a::l=>aCN a (vM l)
theorem qL(a:List Int):∀l,(aCN a l).Perm (a::l)
 |[]=>zBo _
 |b::l=>by
  unfold aCN;split
  .exact((qL a l).cons b).trans (zET _ _ _)
  .exact zBo _
theorem nO:∀l,(vM l).Perm l
 |[]=>zBo _
 |a::l=>(qL a _).trans ((nO l).cons a)
def aFf(h:HT.lexLt a b=true):HT.lexLt b a=false:=by
 cases e:HT.lexLt b a with
 |false=>rfl
 |true=>have:=pA a b a h e;rw[xK]at this;cases this
def aIE(h1:HT.lexLt b a=false)(h2:HT.lexLt c b=false):HT.lexLt c a=false:=by
 cases e:HT.lexLt c a with
 |false=>rfl
 |true=>
  rcases aDh c b a e with z|z
  .rw[h2]at z;cases z
  .rw[h1]at z;cases z
theorem uJ(a:List Int):∀l,pU l->pU (aCN a l)
 |[],_=>zAp.mpr ⟨λ _ h=>by simp at h,.nil⟩
 |b::l,h=>by
  obtain⟨h1,h2⟩:=zAp.mp h;unfold aCN;cases e:HT.lexLt b a with
  |true=>
   rw[if_pos rfl];refine zAp.mpr ⟨λ x hx=>?_,uJ a l h2⟩;rcases zAX.mp ((qL a l).mem_iff.mp hx)with q|q
   .subst q;exact aFf e
   .exact h1 x q
  |false=>
   rw[if_neg (by simp)];refine zAp.mpr ⟨λ x hx=>?_,h⟩;rcases zAX.mp hx with q|q
   .subst q;exact e
   .exact aIE e (h1 x q)
theorem qY:∀l,pU (vM l)
 |[]=>.nil
 |a::l=>uJ a _ (qY l)
theorem vQ:∀{a b:gV},a.Perm b->pU a->pU b->a=b
 |[],b,p,_,_=>p.nil_eq
 |x::a,b,p,h1,h2=>by
  cases b with
  |nil=>exact absurd p.length_eq (by simp)
  |cons y b=>
   have hxy:x=y:=by
    obtain⟨q1,_⟩:=zAp.mp h1;obtain⟨q2,_⟩:=zAp.mp h2;have m1:x∈y::b:=p.mem_iff.mp zAD;have m2:y∈x::a:=p.mem_iff.mpr zAD;rcases zAX.mp m1 with e|m1
    .exact e
    .rcases zAX.mp m2 with e|m2
     .exact e.symm
     .exact xJ _ _ (q2 x m1) (q1 y m2)
   subst hxy;rw[vQ (List.Perm.cons_inv p) (zAp.mp h1).2 (zAp.mp h2).2]
abbrev tupI(ns:List Int):D:=.tup (ns.map .int)
def pW:List D->Option gV
 |[]=>some []
 | .tup l::r=>match intsOf l,pW r with
  |some (n::ns),some nss=>some ((n::ns)::nss)
  |_,_=>none
 |_=>none
theorem qX:∀{l:List D} {nss:gV},pW l=some nss->l=nss.map tupI/\∀ns∈nss,ns≠[]
 |[],nss,h=>by cases h;exact⟨rfl,λ ns h=>by simp at h⟩
 | .tup l::r,nss,h=>by
  unfold pW at h;split at h
  .rename_i n ns nss' e1 e2
   cases h;obtain⟨q1,q2⟩:=qX e2;rw[gR e1,q1];refine⟨rfl,λ ms hm=>?_⟩;rcases zAX.mp hm with e|hm
   .subst e;simp
   .exact q2 ms hm
  .cases h
 | .non::_,_,h=>by cases h
 | .int _::_,_,h=>by cases h
 | .bl _::_,_,h=>by cases h
 | .str _::_,_,h=>by cases h
 | .lst _::_,_,h=>by cases h
 | .dct _ _::_,_,h=>by cases h
 | .set _::_,_,h=>by cases h
 | .scr _::_,_,h=>by cases h
theorem rz:∀{nss:gV},(∀ns∈nss,ns≠[])->pW (nss.map tupI)=some nss
 |[],_=>rfl
 |[]::nss,h=>absurd rfl (h [] zAD)
 |(n::ns)::nss,h=>by
  have ih:=rz λ ms hm=>h ms (zAF _ hm)
  rw[zAU];unfold pW;rw[ih,show intsOf (List.map D.int (n::ns))=some (n::ns)from oA _]
theorem xx{K:zAA}:∀{xs:List V} {nss:gV},Rps K A H xs (nss.map tupI)->(∀ns∈nss,ns≠[])->gU K H xs nss
 |_,[],.nil,_=>.nil
 |_,ns::nss,.cons h r,hne=>by
  cases h with
  |tup h r'=>
   have e:=r'.ints_of;subst e;exact .cons h (hne ns zAD) (xx r λ ms hm=>hne ms (zAF _ hm))
theorem aCz{K:zAA}:∀{zs:List (V×List Int)},(∀p∈zs,∃a,p.1= .ref a/\SqT K H a (p.2.map V.int))->Rps K A H (zs.map (·.1)) ((zs.map (·.2)).map tupI)
 |[],_=>.nil
 |p::zs,h=>by
  obtain⟨a,e1,e2⟩:=h p zAD;rw[zAU,zAU,zAU,e1];exact .cons (.tup e2 .ints) (aCz λ q hq=>h q (zAF _ hq))
theorem gU.all{K:zAA}:∀{vs:List V} {nss:gV},gU K H vs nss->∀p∈vs.zip nss,∃a,p.1= .ref a/\SqT K H a (p.2.map V.int)
 |_,_,.nil,p,hp=>by simp at hp
 |_,_,.cons h _ r,p,hp=>by
  rw[zB1]at hp;rcases zAX.mp hp with e|hp
  .subst e;exact⟨_,rfl,h⟩
  .exact r.all p hp
def aCj{K:zAA}(ht:gU K H vs nss)(q:∀v H',aR H H'->Rp K (λ p=>H p=none) H' v (.lst ((vM nss).map tupI))->Q v H'):aEa H vs nss Q:=by
 intro zs hz hr p H' s hp hn;have e:zs.map (·.2)=vM nss:=vQ (((hz.map (·.2)).trans (by rw[List.map_snd_zip (by rw[ht.len];exact zAL _)])).trans (nO nss).symm) hr (qY nss);refine q _ H' s (.lst hp hn ?_);rw[<-e];exact aCz λ p hp=>by
  obtain⟨a,e1,e2⟩:=ht.all p (hz.mem_iff.mp hp);exact⟨a,e1,s.sqt e2⟩
def insI(a:Int):List Int->List Int
 |[]=>[a]
 |b::l=>if b<a then b::insI a l else a::b::l
def sortI:List Int->List Int
 |[]=>[]
 |a::l=>insI a (sortI l)
theorem insI_perm(a:Int):∀l,(insI a l).Perm (a::l)
 |[]=>zBo _
 |b::l=>by
  unfold insI;split
  .exact((insI_perm a l).cons b).trans (zET _ _ _)
  .exact zBo _
theorem sortI_perm:∀l,(sortI l).Perm l
 |[]=>zBo _
 |a::l=>(insI_perm a _).trans ((sortI_perm l).cons a)
theorem yz(a:Int):∀l:List Int,l.Pairwise (·<=·)->(insI a l).Pairwise (·<=·)
 |[],_=>zAp.mpr ⟨λ _ h=>by simp at h,.nil⟩
 |b::l,h=>by
  obtain⟨h1,h2⟩:=zAp.mp h;unfold insI;by_cases e:b<a
  .rw[if_pos e]
   refine zAp.mpr ⟨λ x hx=>?_,yz a l h2⟩;rcases zAX.mp ((insI_perm a l).mem_iff.mp hx)with q|q
   .lia
   .exact h1 x q
  .rw[if_neg e]
   refine zAp.mpr ⟨λ x hx=>?_,h⟩;rcases zAX.mp hx with q|q
   .lia
   .have:=h1 x q;lia
theorem vN:∀l,(sortI l).Pairwise (·<=·)
 |[]=>.nil
 |a::l=>yz a _ (vN l)
theorem oR:∀{us:List Value} {ns:List Int},zB6 us ns->Vals (ns.map V.int) us
 |_,_,.nil=>.nil
 |_,_,.cons n t r=>.cons ⟨t,rfl⟩ (oR r)
section
variable{X:Cx}
def zz(K:zAA):List V->Hp->VK->Prop:=λ xs H Q=>∃p ns,xs=[.ref p]/\SqL K H p (ns.map V.int)/\ns.length<64/\New H (.lst ((sortI ns).map V.int)) Q
def xX:dw X (.builtin "sorted") (zz X.K):=by
 intro kQ s σ H xs us Q I r h;obtain⟨p,ns,rfl,hp,h64,q⟩:=h;obtain⟨u,rfl,ru⟩:=vals1 r;cases ru;obtain⟨its,rv,pl,hz⟩:=I.list hp;have hI:zB6 its ns:=intsAre_of rv;have kX:its.length<64:=by
  have:=rv.length
  rw[zAE]at this;lia
 refine sorted_ints pl.isList hI kX λ out ns' h1 h2 h3=>?_
 have e:ns'=sortI ns:=PySem.W.ksm_same (h2.trans (sortI_perm ns).symm) h3 (vN ns);subst e;obtain⟨e,he⟩:=sortedAll_at s.heap its out;have hfr:H (s.heap.objs.size+1)=none:=I.hok.fresh (zDy _);refine⟨.ref (s.heap.objs.size+1),upd H (s.heap.objs.size+1) (.lst ((sortI ns).map V.int)),I.laid (t':=s.toks) (λ b o q=>sortedAll_old q) (zDy _) ?_,rfl,q.at hfr⟩;refine⟨?_,out.toList,e,oR h1,?_⟩
 .rw[zAE,h2.length_eq]
  exact zAe (zB9 h64) (by decide)
 .rw[Array.toArray_toList]
  exact he
end
def aEg(K:zAA)(r:List V->Hp->VK->Prop)(fd:List D->Rs D):Prop:=∀(A:Addr->Prop) xs ds H (Q:VK) z,Rps K A H xs ds->fd ds= .ok z->(∀v H',aR H H'->Rp K (λ p=>H p=none) H' v z->Q v H')->r xs H Q
def aAo{K:zAA}(hs:aEg K r fd)(h1:aG0 K G m ta g):kO K G (some []) (tCB r ta) (opA fd g):=by
 intro τ σ H Y lab Q R W;refine h1 τ σ H Y lab _ R (W.bd.imp λ d _ w x H1 s1 r1=>?_);obtain⟨z,ez,w⟩:=w.okD;exact hs (fpM m lab H) x d H1 Q z r1 ez λ v H' s r=>w v H' (s1.trans s) (r.wk λ p o _ q=>.inl (s1.free q))
def vO:List D->Rs D
 |[.lst l]=>match pW l with
  |some nss=>if nss.length<64 then .ok (.lst ((vM nss).map tupI))else .st
  |none=>match intsOf l with
   |some ns=>if ns.length<64 then .ok (.lst ((sortI ns).map .int))else .st
   |none=>.st
 |_=>.st
def aCR{K:zAA}:aEg K (λ xs H Q=>zy K xs H Q\/zz K xs H Q) vO:=by
 intro A xs ds H Q z r ez q;unfold vO at ez;split at ez
 .cases r with
  |cons h r=>
   cases r;cases h with
   |lst h m r=>
    split at ez
    .rename_i nss e
     obtain⟨e1,e2⟩:=qX e;subst e1;split at ez
     .rename_i hl
      cases ez;have ht:=xx r e2;exact .inl ⟨_,_,nss,rfl,SqL.of h,ht,by rw[ht.len];exact hl,aCj ht q⟩
     .cases ez
    .split at ez
     .rename_i ns e
      have e1:=gR e;subst e1;split at ez
      .rename_i hl
       cases ez;have e2:=r.ints_of;subst e2;exact .inr ⟨_,ns,rfl,SqL.of h,hl,λ p H' s hp hn=>q _ H' s (.lst hp hn .ints)⟩
      .cases ez
     .cases ez
 .cases ez
section
variable{C:Ct}{pos p:Pos}{m:Mode}{a:Expr}{ga:En->Rs (List D)}
def aBl(hm:C.mg "sorted"=none)(ha:SA C m [a] ga)(he:∀i,zA2 [a] (C.X i).env=[(false,eval a (C.X i).env)]:=by intro _;rfl)(hg:∀i,Gl (C.X i) "sorted":=by intro _;rfl)(hv:zAn "sorted"=some (.builtin "sorted"):=by decide+kernel):SE C (some []) (.Call (.Name "sorted" p) [a] [] pos) (opA vO ga):=by
 obtain⟨t,h1,h2⟩:=ha;refine⟨_,λ i=>o5 (r:=λ xs H Q=>zy C.K xs H Q\/zz C.K xs H Q) (by rw[<-C.hK i];exact vD.or xX) (hg i) (by rw[(C.cx i).2.2.2.1];exact hm) hv (h1 i) (by decide) (by decide) (he i) rfl,aAo aCR h2⟩
end
structure Mg{β:Type}(r:β->β->Prop)(T out ra rb:List β):Prop where
 pm:(out++(ra++rb)).Perm T
 so:out.Pairwise r
 lo:∀x∈out,∀y∈ra++rb,r x y
 sa:ra.Pairwise r
 sb:rb.Pairwise r
section
variable{β:Type}{r:β->β->Prop}{T:List β}
def Mf(r:β->β->Prop)(T o:List β):Prop:=o.Perm T/\o.Pairwise r
end
structure Eg(st st':zCl):Prop where
 k:zCm st'=zCm st
 a:arrOf st'=arrOf st
 p:zFb st'=zFb st
 f:zFV st'=zFV st
abbrev LS:=Option (Array Keyed)×Array Keyed×Nat×Nat×Nat×Nat×Nat
section
variable{O:zBr}{kf:Keyed->O.α}{T:List Keyed}{a b out:Array Keyed}{ia ib mg ac bc m0:Nat}{st:zCl}{Q:ForInStep LS->zCl->Prop}
abbrev rK(O:zBr)(kf:Keyed->O.α)(x y:Keyed):Prop:=O.kle (kf x) (kf y)
abbrev Ml(O:zBr)(kf:Keyed->O.α)(T:List Keyed)(a b out:Array Keyed)(ia ib:Nat):Prop:=Mg (rK O kf) T out.toList (a.toList.drop ia) (b.toList.drop ib)
structure Tu(O:zBr)(kf:Keyed->O.α)(T:List Keyed)(a b:Array Keyed)(m0:Nat)(st:zCl)(Q:ForInStep LS->zCl->Prop):Prop where
 ret:∀o out ia ib mg ac bc st',Eg st st'->Mf (rK O kf) T o.toList->Q (.done (some o,out,ia,ib,mg,ac,bc)) st'
 on:∀out ia ib mg ac bc st',Eg st st'->Ml O kf T a b out ia ib->ia+1<a.size->ib<b.size->m0<ia+ib->Q (.done (none,out,ia,ib,mg,ac,bc)) st'/\Q (.yield (none,out,ia,ib,mg,ac,bc)) st'
end
abbrev HS:=Option (Array Keyed)×Nat×Nat×Array Keyed×Nat×Nat×Nat
section
variable{O:zBr}{kf:Keyed->O.α}{T:List Keyed}{a b out:Array Keyed}{na nb mg ac bc m0:Nat}{st:zCl}{Q:ForInStep HS->zCl->Prop}
abbrev rH(O:zBr)(kf:Keyed->O.α)(x y:Keyed):Prop:=O.kle (kf y) (kf x)
abbrev Mh(O:zBr)(kf:Keyed->O.α)(T:List Keyed)(a b out:Array Keyed)(na nb:Nat):Prop:=Mg (rH O kf) T out.toList (a.toList.take na).reverse (b.toList.take nb).reverse
structure Th(O:zBr)(kf:Keyed->O.α)(T:List Keyed)(a b:Array Keyed)(m0:Nat)(st:zCl)(Q:ForInStep HS->zCl->Prop):Prop where
 ret:∀o na nb out mg ac bc st',Eg st st'->Mf (rK O kf) T o.toList->Q (.done (some o,na,nb,out,mg,ac,bc)) st'
 on:∀na nb out mg ac bc st',Eg st st'->Mh O kf T a b out na nb->0<na->1<nb->na<=a.size->nb<=b.size->na+nb<m0->Q (.done (none,na,nb,out,mg,ac,bc)) st'/\Q (.yield (none,na,nb,out,mg,ac,bc)) st'
end
structure Ea(st st':zCl):Prop where
 k:zCm st'=zCm st
 p:zFb st'=zFb st
 f:zFV st'=zFV st
section
variable{κ:zCq}{G:Keyed->Prop}{st:zCl}{P R:List Keyed}{lo:Nat}
structure Sg(κ:zCq)(G:Keyed->Prop)(st:zCl)(lo:Nat)(P R:List Keyed):Prop where
 k:zCm st=κ
 l:(arrOf st).toList=P++R
 p:P.length=lo
 g:∀x∈R,G x
end
def Pr(O:zBr)(kf:Keyed->O.α):Nat->List (List Keyed)->List (Nat×Nat×Nat)->Prop
 |_,[],[]=>True
 |o,x::segs,p::ps=>p.1=o/\p.2.1=x.length/\0<x.length/\x.Pairwise (rK O kf)/\Pr O kf (o+x.length) segs ps
 |_,_,_=>False
section
variable{κ:zCq}{O:zBr}{kf:Keyed->O.α}{st:zCl}{T R:List Keyed}{segs:List (List Keyed)}
structure Rn(κ:zCq)(O:zBr)(kf:Keyed->O.α)(T:List Keyed)(st:zCl)(segs:List (List Keyed))(R:List Keyed):Prop where
 k:zCm st=κ
 f:zFV st=none
 l:(arrOf st).toList=segs.flatten++R
 pm:(arrOf st).toList.Perm T
 pr:Pr O kf 0 segs (zFb st).toList
end
def aJX:∀{us:List α},us.length=6->∃a0 a1 a2 a3 a4 a5,us=[a0,a1,a2,a3,a4,a5]
 |[a0,a1,a2,a3,a4,a5],_=>⟨a0,a1,a2,a3,a4,a5,rfl⟩
def pG(j:Int):List Int:=(zAj j.toNat).map λ(k:Nat)=>0+(k:Int)
def aJG:List V->Hp->VK->Prop:=λ xs H Q=>∃j:Int,xs=[.int j]/\∀p,H p=none->Q (.ref p) (upd H p (.rng 0 j))
def aE6:dw X (.type "range") aJG:=by
 intro kQ s σ H vs us Q I rv h;obtain⟨j,rfl,q⟩:=h;obtain⟨u,rfl,ru⟩:=rv.one;obtain⟨t,rfl⟩:=ru;exact call_range_1 ⟨.ref s.heap.objs.size,_,I.laid (a:=s.heap.objs.size) (o:=.rng 0 j) (t':=s.toks+1+1) (λ _ _ q=>zAG _ q) (zAL _) ⟨_,_,_,zAa _ rfl⟩,rfl,q _ (I.hok.fresh (zAL _))⟩
def aEm:∀{ns:List Int} {us:List Value},ns.length=us.length->(∀(k:Nat) i,ns[k]? =some i->∃tk,us[k]? =some (.int i tk))->Vals (ns.map V.int) us:=by
 intro ns;induction ns with
 |nil=>intro us hl _;rw[List.eq_nil_of_length_eq_zero hl.symm];exact .nil
 |cons n ns ih=>
  intro us hl h;obtain⟨tk,e⟩:=h 0 n rfl;cases us with
  |nil=>cases e
  |cons u us=>
   have e':u= .int n tk:=zAg e;subst e';exact .cons ⟨tk,rfl⟩ (ih (zFH hl) λ k i hi=>h (k+1) i hi)
def aBo(j:Int):gk 0 j=(pG j).map D.int:=by
 unfold gk pG;rw[zAq,Int.sub_zero];rfl
def aIc(Y:En)(i:Nat)(ds:List Int):D->Ou
 | .int z=>if ds.length<4000 then .nx (Y.set i (.ow (.set (step_dedup ds z))))else .st
 |_=>.st
section
variable{prog:zAP}{w:World}{A:zA7}{E:Value->zAB->Prop}{s:zAB}{r:Addr}{a b c:Int}{t u v:Tok}{n:Nat}
def PR(a c:Int):Nat->Value->Prop:=λ i v=>∃t,v= .int (a+i*c) t
def zJ(hh:A.handled=none)(hr:IsRange s.heap r a b c t u v)(hsmall:zC6 a b c=true)(hn:zBW a b c=n)(kX:n<=2^24)
  (h:∀h' tk vs,s.heap.objs.size<h'.objs.size->(∀b o,s.heap.get? b=some o->h'.get? b=some o)->vs.length=n->(∀(j:Nat) v,vs[j]? =some v->PR a c j v)->Q vs {s with heap:=h',toks:=tk}):wpAny (model prog w) A (collect (.ref r)) Q E s:=by
 unfold collect;refine zAI (wpAny_runValue (zF8 PySem.F.entry_proto_collect ?_));rw[zFX PySem.F.plain_proto_collect _];show wpAny _ A.in1 (zGj []>>=λ l=>again (.builtin "list.__iadd__" ⟨[l,.ref r],[]⟩)) _ _ s;refine zAI (zBw (zA6 ⟨plainId_quiet zEx _,zF8 PySem.F.entry_list_iadd ?_⟩));rw[zFX zEx _];show wpAny _ A.in1 (Builtin.List.listExtendWith (.ref s.heap.objs.size) (.ref r) (.ref s.heap.objs.size)) _ _ _;have fin:∀h' tk acc' c',(∀b o,b≠s.heap.objs.size->(s.heap.push (zBu "list" #[] 0)).get? b=some o->h'.get? b=some o)->h'.get? s.heap.objs.size=some {cls:=.type "list",dict:=none,data:=.seq acc' c',slots:=#[]}->ItemsOf (PR a c) acc' n->
   wpAny (model prog w) A (do match (zBH s.heap.objs.size)with
    | .ref a=>match (<-load a).data with
     | .seq xs _=>pure xs.toList
     |_=>unsupported "internal:collect"
    |_=>unsupported "internal:collect") Q E {s with heap:=h',toks:=tk}:=λ h' tk acc' c' hk hS' oQ=>
  zAI (wpAny_load hS' (zA6 (h h' tk acc'.toList (zAV hS') (λ b o e=>hk b o (zAf (zAV e)) (zAG _ e)) (by rw[zBp];exact oQ.1) λ j v e=>oQ.2 j v (by rw[<-zFY];exact e))))
 refine zB5 (wpAny_extend_range (A:=A) (s:={s with heap:=s.heap.push (zBu "list" #[] 0)}) (R:=λ r s'=>∃h' tk acc' c',r= .ok (.ret (.ref s.heap.objs.size))/\s'={s with heap:=h',toks:=tk}/\(∀b o,b≠s.heap.objs.size->(s.heap.push (zBu "list" #[] 0)).get? b=some o->h'.get? b=some o)/\h'.get? s.heap.objs.size=some {cls:=.type "list",dict:=none,data:=.seq acc' c',slots:=#[]}/\ItemsOf (PR a c) acc' n)
  hh (zAG _ hr) hsmall hn kX s.heap.objs.size (.ref s.heap.objs.size) 0 (zAa _ rfl) (λ h' tk acc' c' hk hS' oQ=>⟨h',tk,acc',c',rfl,rfl,hk,hS',oQ⟩)) (λ f s' hf=>?_) λ e s' he=>?_
 .cases f with
  |done f=>
   obtain⟨h',tk,acc',c',q1,q2,q3,q4,q5⟩:=hf;cases q1;subst q2;exact fin h' tk acc' c' q3 q4 q5
  |again c=>
   refine⟨hf.1,zEC hf.2 λ r s' hr=>?_⟩;obtain⟨h',tk,acc',c',q1,q2,q3,q4,q5⟩:=hr;subst q1 q2;exact fin h' tk acc' c' q3 q4 q5
 .obtain⟨h',tk,acc',c',q1,_⟩:=he
  cases q1
end
def qz(r:Addr)(a b c:Int)(t u v:Tok)(n:Nat)(hsmall:zC6 a b c=true)(hn:zBW a b c=n)(kX:n<=10000):
  Meets (zDb.«tuple.__new__» ⟨[.type "tuple",.ref r],[]⟩)
   (λ A R s=>A.handled=none/\IsRange s.heap r a b c t u v/\∀(h':Heap) (tk:Nat) (vs:List Value),s.heap.objs.size<h'.objs.size->(∀b o',s.heap.get? b=some o'->h'.get? b=some o')->vs.length=n->(∀(j:Nat) v,vs[j]? =some v->PR a c j v)->
    R (.ok (.ret (.ref h'.objs.size))) {s with heap:=h'.push {cls:=.type "tuple",data:=.seq vs.toArray},toks:=tk}):=
 .of_wp λ prog w A R s h=>by
  obtain⟨hp,g,d,tk,os⟩:=s;obtain⟨hh,ht,h⟩:=h;have aI:=sub_tuple_self;have hinit:=init_tuple_lookup;have hmh:=madeHere_tuple;have hT:Shared.TypeIs ⟨hp,g,d,tk,os⟩ (.ref r) "range":=⟨_,ht,rfl⟩;wp_walk using zCM ht,zDY hT,zJ (A:=A.in1) (show A.in1.handled=none from hh) ht hsmall hn (zAe kX (by decide));intro h' tk' vs hlt hk hl hv;show wpAny _ _ (zBP vs.toArray>>=λ v=>ret v) _ _ _;unfold zBP;refine zAI (zBw ?_ (by show vs.toArray.size<=zAN;rw[zAJ,hl,zCL];lia));exact zA6 ⟨_,rfl,h h' tk' vs hlt hk hl hv⟩
def aBA:List V->Hp->VK->Prop:=λ xs H Q=>∃(p:Addr) (j:Int),xs=[.ref p]/\H p=some (.rng 0 j)/\-(2^62)<=j/\j<=10000/\∀l H',aR H H'->H l=none->H' l=some (.tup ((pG j).map V.int))->Q (.ref l) H'
def aBj(h1: -(2^62)<=j)(h2:j<=10000):zBW 0 j 1=(j.toNat:Int)/\zC6 0 j 1=true:=by
 have hsz:zBW 0 j 1=(j.toNat:Int):=by
  unfold zBW;simp only[show(1:Int)>0 by decide,if_true];split<;>lia
 refine⟨hsz,?_⟩;have fl:∀x:Int,-(2^62)<=x->x<=2^62->zDj x=true:=λ x hx1 hx2=>by
  unfold zDj;simp;lia
 unfold zC6;rw[hsz,fl 0 (by lia) (by lia),fl j (by lia) (by lia),fl 1 (by lia) (by lia),fl _ (by lia) (by lia),if_pos (by decide),fl (j+(1-1)) (by lia) (by lia),zGx];rfl
def zN(hc:X.calm=true):dw X (.type "tuple") aBA:=by
 intro kQ s σ H vs us Q I rv h;obtain⟨p,j,rfl,hp,h1,h2,q⟩:=h;obtain⟨u,rfl,ru⟩:=rv.one;cases ru;obtain⟨t,u,v,hg⟩:=I.hok p _ hp;obtain⟨hsz,hsm⟩:=aBj h1 h2;refine callType_new PySem.F.called_tuple (by decide) (PySem.F.typeCall_tuple_1 _) (PySem.F.newCall_tuple_1 _) (λ obj=>PySem.F.args_object_init_2 obj _) PySem.F.entry_tuple_new
  (qz p 0 j 1 t u v j.toNat hsm hsz (by lia)) ⟨I.ok.hd hc,hg,λ h' tk vs hlt hk hl hv=>⟨⟨_,zAa _ rfl,rfl⟩,?_⟩⟩
 have hle:s.heap.objs.size<=h'.objs.size:=zB9 hlt;have hv2:Vals ((pG j).map V.int) vs:=by
  have hl2:(pG j).length=vs.length:=by rw[hl];simp[pG]
  refine aEm hl2 λ k i hi=>?_
  have hk2:k<vs.length:=by rw[<-hl2];exact(zA3.mp hi).1
  obtain⟨tk,e⟩:=hv k vs[k] (zAR hk2);refine⟨tk,?_⟩;have ei:i=0+(k:Int)*1:=by
   unfold pG at hi;rw[zAW]at hi;cases c:(zAj j.toNat)[k]? with
   |none=>rw[c]at hi;cases hi
   |some m=>
    rw[c]at hi;cases hi
    have:=zA3.mp c
    have:m=k:=by simpa using this.2.symm
    subst this
    show(0:Int)+(m:Int)=0+(m:Int)*1
    lia
  rw[ei,<-e];exact zAR hk2
 have hfr:H h'.objs.size=none:=I.hok.fresh hle;refine⟨.ref h'.objs.size,upd H h'.objs.size (.tup ((pG j).map V.int)),I.laid (t':=tk) (λ b o e=>zAG _ (hk b o e)) hle ⟨⟨?_,NoD.push _⟩,vs,hv2,?_⟩,rfl,q _ _ (bT hfr _) hfr ak⟩
 .simp[pG]
  have:zAN=16777216:=zCL
  lia
 .exact⟨_,zAa _ rfl,rfl,0,rfl⟩
def trR:D->Rs D
 | .int j=>if -(2^62)<=j/\j<=10000 then .ok (.tup (gk 0 j))else .st
 |_=>.st
def trD(fa:En->Rs D):En->Rs D:=λ Y=>(fa Y).bd trR
section
variable{C:Ct}{pos pos2 p p2:Pos}{a:Expr}{fa:En->Rs D}{m:Mode}
def aBk(hmL:C.mg "tuple"=none)(hmR:C.mg "range"=none)(ha:SE C m a fa)(hs:∀i,zA2 [a] (C.X i).env=[(false,eval a (C.X i).env)]:=by intro _;rfl)(hs2:∀i,zA2 [.Call (.Name "range" p2) [a] [] pos2] (C.X i).env=[(false,eval (.Call (.Name "range" p2) [a] [] pos2) (C.X i).env)]:=by intro _;rfl)(hgL:∀i,Gl (C.X i) "tuple":=by intro _;rfl)(hvL:zAn "tuple"=some (.type "tuple"):=by decide+kernel)(hgR:∀i,Gl (C.X i) "range":=by intro _;rfl):SE C (some []) (.Call (.Name "tuple" p) [.Call (.Name "range" p2) [a] [] pos2] [] pos) (trD fa):=by
 obtain⟨t,h1,h2⟩:=ha;refine⟨tCB aBA (iG (tCB aJG (iG t pX)) pX),λ i=>mR (zN (C.calm i)) (hgL i) (by rw[(C.cx i).2.2.2.1];exact hmL) hvL (aX (mR aE6 (hgR i) (by rw[(C.cx i).2.2.2.1];exact hmR) boot_range (aX (h1 i) dF (hs i)) (by decide) (by decide) (hs i) rfl) dF (hs2 i)) (by decide) (by decide) (hs2 i) rfl,λ τ σ H Y lab Q R W=>?_⟩;refine h2 τ σ H Y lab _ R (W.bd.imp λ d _ w y H1 s1 r1=>?_);unfold trR at w;split at w
 .rename_i j _
  by_cases hz: -(2^62)<=j/\j<=10000
  .rw[if_pos hz]at w
   have ey:=r1.int_inv;subst ey;refine⟨j,rfl,λ q hq=>⟨q,j,rfl,ak,hz.1,hz.2,λ l H' s' hl hH'=>?_⟩⟩;refine w _ H' ((s1.trans (bT hq _)).trans s') (.tup (SqT.of hH') ?_);rw[aBo];exact Rps.ints
  .rw[if_neg hz]at w
   exact zAH w
 .exact zAH w
end
section
theorem NoD.at{h:Heap}{a:Addr}{o:Obj}(e:h.get? a=some o)(hd:o.dict=none:=by rfl):L2.NoD h a:=λ u q=>by rw[e]at q;cases q;exact hd
end
def aEB{X:Cx}{kQ:hV}{σ:List (Option V)}{H:Hp}{s:zAB}{h':Heap}{ch:List Addr}{p t':Nat}{o:HO}(I:Inv X kQ σ H s)(hf:∀b∈ch,rE X kQ H b)(k:∀b u,b∉ch->s.heap.get? b=some u->h'.get? b=some u)
  (hp:s.heap.objs.size<=p)(new:dC X.prog X.w (upd H p o) h' p o):Inv X kQ σ (upd H p o) {s with heap:=h',toks:=t'}:=by
 have hn:=I.hok.fresh hp;have nch:∀b u,H b=some u->b∉ch:=λ b u e z=>by have:=(hf b z).1;rw[e]at this;cases this
 refine I.call (g':=s.gens) (d':=s.drawn) (ch:=ch) ⟨λ b u q _ _ hx=>k b u hx q,λ b u q _ _ hx=>⟨u.slots,k b u hx q⟩,λ b u q n _=>?_,λ b u q hx=>⟨u,k b u hx q⟩,λ b xs q=>?_,λ b u xs q=>?_,λ b ps q=>?_⟩ (λ b u e=>?_) I.bare
  λ b hb=>let⟨_,f1,_,f3,f4,f5⟩:=hf b hb;⟨f3,f1,f4,f5⟩
 .rw[aU (zAf (zAY (zAV q) hp))];exact n
 .rw[aU (bD q hn)];exact q
 .rw[aU (bD q hn)];exact q
 .rw[aU (bD q hn)];exact q
 .by_cases hb:b=p
  .subst hb;rw[ak]at e;cases e;exact new
  .rw[aU hb]at e
   refine(I.hok b u e).stay (λ c v hc q=>k c v ?_ q) (λ c q=>by rw[aU (bD q hn)];exact q) (λ c xs q=>by rw[aU (bD q hn)];exact q) λ c o2 u2 q=>by rw[aU (bD q hn)];exact q
   rcases hc with rfl|hc
   .exact nch _ _ e
   .exact nch _ _ hc
def aA2(l:List D):List D:=l.zipIdx.map λ p=>.tup [.int (p.2:Int),p.1]
abbrev Ent:=List Int×Addr×V
section
theorem ints_of:∀(tks:List (Int×Tok)),zB6 (tks.map λ p=>zD3 p.1 p.2) (tks.map (·.1))
 |[]=>.nil
 |p::r=>.cons _ _ (ints_of r)
end
abbrev aJe:=List (Str×(List D->Rs D))
def fnOf(tab:aJe):Rs D->Option (List D->Rs D)
 | .ok (.fn x)=>tab.lookup x
 |_=>none
def aIk(K:zAA)(a:Addr):It:=
 ⟨λ i H=>∃xs x,SqL K H a xs/\xs[i]? =some x,λ i H x H'=>∃p y,x= .ref p/\H p=none/\H'=upd H p (.tup [.int i,y])/\∀xs,SqL K H a xs->xs[i]? =some y,λ i H=>∃xs,SqL K H a xs/\xs.length<=i⟩
def z8{K:zAA}(a e it:Addr)(hei:e≠it)(hae:a≠e)(hai:a≠it):
  Turn P w K (.Tuple elts x1 ps) (aIk K a) [e,it] e (λ i h=>(∃old,IsEnum h e it i old)/\h.IsListIter it a i) where
 mem:=by simp
 obj:=λ i h st b hb=>by
  obtain⟨⟨old,he⟩,o,e2,c,d⟩:=st;rcases zAX.mp hb with rfl|hb
  .exact⟨_,he,λ v z=>by cases z⟩
  .have q:b=it:=by simpa using hb
   subst q;exact⟨o,e2,λ v z=>by rw[d]at z;cases z⟩
 keep:=λ i h h' st k=>⟨let⟨old,he⟩:=st.1;⟨old,k e (by simp) _ he⟩,st.2.at λ o q=>k it (by simp) o q⟩
 item:=by
  intro X hP hw hK hc i kQ s σ H E I hf st hg;subst hP hw hK;obtain⟨xs,x,hq,hx⟩:=hg;obtain⟨its,rv,p,hz⟩:=I.list hq;obtain⟨u,hu,ru⟩:=rv.get hx;obtain⟨⟨old,he⟩,hit⟩:=st;refine wpAny_pyNext_enum_itemD (Draws.list (A:=X.A.in1) (show X.A.in1.handled=none from I.ok.hd hc) it a hai its.toArray) he ⟨hit,p.isList⟩ (by have:=(zA3.mp hu).1;simpa using this) hei (by simp[hei,zCf hae]) λ y h' tk hy ho st' hT hsz hk=>⟨_,rfl,?_⟩
  have ey:y=u:=by
   have:its.toArray[i]? =some u:=by simpa using hu
   rw[this]at hy;exact(zAg hy).symm
  subst ey;have hel:e<s.heap.objs.size:=zAV he;refine wpAny_letOwnedTupleGo_enum ho λ h2 he2 hs2=>⟨.ref s.heap.objs.size,upd H s.heap.objs.size (.tup [.int i,x]),?_,rfl,⟨_,x,rfl,I.hok.fresh (zAL _),rfl,λ ys hy=>by rw[I.list_inj hy hq];exact hx⟩,⟨⟨_,by simpa using he2⟩,st'.1.at λ o q=>(hs2.2 it (zCf hei)).trans q⟩,λ b hb=>?_⟩
  .exact aEB (s:=s) (h':=h2) (t':=tk+1) I hf (λ b u hb q=>(hs2.2 b λ z=>hb (by simp[z])).trans (hk b u (λ z=>hb (by simp[z])) (λ z=>hb (by simp[z])) q)) (zAL _) ⟨⟨by simp[zCL],NoD.at ((hs2.2 _ (zDe hel)).trans hT)⟩,[.int i tk,y],.cons ⟨_,rfl⟩ (.cons ru .nil),_,(hs2.2 _ (zDe hel)).trans hT,rfl,_,rfl⟩
  .have:=(hf b hb).1
   rw[aU]
   .exact this
   .rintro rfl
    rcases zAX.mp hb with q|q
    .exact absurd hel (by rw[<-q];exact zB7 _)
    .obtain⟨o,ho2,_⟩:=hit
     have q2:s.heap.objs.size=it:=by simpa using q
     exact absurd (zAV ho2) (by rw[<-q2];exact zB7 _)
 done:=by
  intro X hP hw hK hc i kQ s σ H E I hf st hg;subst hP hw hK;obtain⟨xs,hq,hx⟩:=hg;obtain⟨its,rv,p,hz⟩:=I.list hq;obtain⟨⟨old,he⟩,hit⟩:=st;obtain⟨f0,f1,f2,f3,f4,f5⟩:=hf it (by simp);have hT:s.TypeIs (.ref e) "enumerate":=⟨_,he,rfl⟩;have hl:=rv.length;unfold pyNext;refine zAI (wpAny_attempt (zCc (name:=zE6 "__next__") hT zGJ (zDD zGJ hT F.entry_enumerate_next ?_ (F.args_enumerate_next_1 _))));show wpAny _ _ (field (.ref e) 2>>=_) _ _ _;refine zAI (zDP he rfl (x:=.ref it) rfl ?_);refine zAI (wpAny_nextOf_list_end (I.ok.hd hc) hit p.isList (by simp;lia) λ h' x he' hx'=>?_);obtain⟨o,ho,hc⟩:=hx';refine zAI (wpAny_isInstance (T:="StopIteration") (b:=true) ⟨o,ho,hc⟩ isSubtype_stop ?_);exact zA6 ⟨rfl,I.turned (t':=s.toks) (λ b o hb q=>he' b o hb q) f0 f1 f3 f4 f5⟩
 self:=λ _ _ _ _ _ st h=>let⟨⟨_,he⟩,_⟩:=st;zHO he h
def aEH(K:zAA)(tl:TA):TI:=λ σ H R=>tl σ H λ xs H1=>∃a,xs=[.ref a]/\(∃ys,SqL K H1 a ys)/\R (aIk K a) H1
def aDV{x1:Nat}(hl:PA X [l] tl)(hg:Gl X "enumerate")(hm:X.mg "enumerate"=none)(hv:zAn "enumerate"=some (.type "enumerate"))
  (he:zA2 [l] X.env=[(false,eval l X.env)]:=by rfl):PI X (.Tuple elts x1 ps) (.Call (.Name "enumerate" p) [l] [] pos) (aEH X.K tl):=by
 intro kQ s σ H R I h;refine zBl (uC I hg hm hv ?_ (by decide) (by decide));refine zC9 (thn (hl pos kQ s σ H _ I h) λ us s1 ⟨vs,H1,I1,r1,a,e,⟨ys,hy⟩,q⟩=>?_) he rfl;subst e;obtain⟨u,rfl,ru⟩:=r1.one;cases ru;obtain⟨its,rv,pp,hz⟩:=I1.list hy;have ha:a<s1.heap.objs.size:=let⟨o,_,ho,_⟩:=pp;zAV ho
 refine call_enumerate_list pp.isList λ h' he hit _ hk=>zHO he ?_
 have n1:s1.heap.objs.size+1≠s1.heap.objs.size:=by lia
 refine⟨_,_,_,_,H1,rfl,I1.kept (t':=s1.toks) hk,z8 a _ _ n1 (zAf (Nat.lt_succ_of_lt ha)) (zAf ha),⟨⟨_,he⟩,hit⟩,λ b hb=>?_,q⟩;have hle:s1.heap.objs.size<=b:=by
  rcases zAX.mp hb with rfl|hb
  .exact zDy _
  .have:b=s1.heap.objs.size:=by simpa using hb
   exact zE3 this.symm
 exact I1.fpOk hle (I1.hok.fresh hle)
def aEY:List D->Rs (List D)
 |[.lst l]=>.ok (aA2 l)
 |_=>.st
def aDx{K:zAA}(h:SqL K H a xs)(r:Rps K (λ p=>(lab p).1<=1) H xs ds):JL K lab (aIk K a) H (aA2 ds):=by
 have hl:=r.length;have hle:(aA2 ds).length=ds.length:=by simp[aA2]
 refine λ i=>⟨λ hi=>⟨xs,h,by lia⟩,λ hi=>⟨⟨xs,xs[i]'(by lia),h,by simp[hl,hle▸hi]⟩,λ x H' y=>?_⟩⟩
 obtain⟨p,y,rfl,hp,rfl,hy⟩:=y;obtain⟨d,h1,h2⟩:=r.get (hy xs h);refine⟨bT hp _,.tup [.int (i:Int),d],?_,.tup (.inl (.inl ak)) (.cons (.int _) (.cons (h2.up (bT hp _)) .nil))⟩;unfold aA2;rw[zAW,List.getElem?_zipIdx,h1];simp
section
variable{C:Ct}{m:Mode}{a:Expr}{ga:En->Rs (List D)}{elts:List Expr}{x1:Nat}{ps p pos:Pos}
def aCo(ha:SA C m [a] ga)(hm:C.mg "enumerate"=none)(ho:okS m=true:=by rfl)(hs:∀i,zA2 [a] (C.X i).env=[(false,eval a (C.X i).env)]:=by intro _;rfl)(hg:∀i,Gl (C.X i) "enumerate":=by intro _;rfl)(hv:zAn "enumerate"=some (.type "enumerate"):=by decide+kernel):
  SI C (.Tuple elts x1 ps) (.Call (.Name "enumerate" p) [a] [] pos) (km aEY ga):=by
 obtain⟨t,p1,p2⟩:=ha;refine⟨aEH C.K t,λ i=>by rw[<-C.hK i];exact aDV (p1 i) (hg i) (by rw[(C.cx i).2.2.2.1];exact hm) hv (hs i),λ τ σ H Y lab Rr R W=>p2 τ σ H Y lab _ R (W.bd.imp λ ds _ w vs H1 s r=>?_)⟩;cases ds with
 |nil=>exact zAH w
 |cons d ds=>
  cases ds with
  |cons _ _=>cases d<;>exact zAH w
  |nil=>
   obtain⟨v,rfl,rd⟩:=r.one_inv;cases d with
   |lst l=>
    obtain⟨R',r'⟩:=R.shared ho s rd;obtain⟨b,xs,rfl,h,mm,q⟩:=r'.lst_inv;refine⟨b,rfl,⟨xs,SqL.of h⟩,w _ H1 _ [(.ref b,.lst l)] s (λ p o e=>bQ e) ⟨R'.len,R'.sl,R'.old,R'.new,λ z hz=>?_⟩ λ lab' H' hq=>?_⟩
    .rcases zAX.mp hz with rfl|hz
     .exact .lst h mm q
     .exact R'.tm z hz
    .have z:=hq _ (zAD ..)
     obtain⟨b',xs',e',h',_,q'⟩:=z.lst_inv;cases e';exact aDx (SqL.of h') (q'.wk λ _ _ _ z=>z.1)
   |_=>exact zAH w
end
end VL
namespace HT
open PySem PySem.Spec PyProof.Rows
end HT
namespace VL
open PySem PySem.Spec PyProof.Rows L2
end VL
namespace PySem.AutoSeq1
end PySem.AutoSeq1
namespace VL
open PySem PySem.Spec PyProof.Rows L2
def Enr(K:zAA)(x:Str)(st:Stmt)(f:Addr)(fd:zAh):Prop:=L2.Fun K x x st f fd/\zA9 K zA1 x=some (some (.ref f))
def enr{K:zAA}{st:Stmt}{oc kV dc pm cd ct:Value}(a:zA9 K zA1 x=some (some (.ref f)))
  (l:K.lookup f=some ⟨oc,od,.func (zBU x x (jy st) (cI st) (aH st) .none kV dc pm an cd ct),sl⟩)(c:zC5 K cd x=true)(k:zBR K (.ref f)=true):∃f fd,Enr K x st f fd:=⟨f,_,aI0 (st:=st) l c k,a⟩
structure Dnr(K:zAA)(mg:Str->Option Value)(x:Str)(st:Stmt)(ps:List Str)(f:Addr)(d:zAh):Prop where
 F:L2.Fun K x x st f d
 m:mg x=some (.ref f)
 b:L2.Binds K d ps []
section
variable{C:Ct}
def bO{st:Stmt}(hF:dH C.prog C.w C.K C.mg C.base (CX1 C.prog C.w) k fn fd ps (spF C.K C.G.cl n F))(D:Dnr C.K C.mg x st ps fn fd)(ha:SA C m (e::es) ga)(hr:k<=C.k:=by exact zCi rfl)(hg:∀i,Gl (C.X i) x:=by intro _;rfl)
  (hn:∀Y ds,ga Y= .ok ds->ds.length=n:=by repeat (first|exact λ _ _ h=>aFh h|apply aDk))(hdb:Nd x:=by decide)(he:∀i,zA2 (e::es) (C.X i).env=(false,eval e (C.X i).env)::zA2 es (C.X i).env:=by intro _;rfl)
  (hpl:∀i,(zCI pos (zA2 es (C.X i).env)).any (·.1)=false:=by intro _;rfl):SE C (some []) (.Call (.Name x p) (e::es) [] pos) (aW F ga):=aFF hF hr D.m D.F.kp D.b ha hn hdb he hpl hg
end
def cR{P:zAP}{w:World}{K:zAA}{st:Stmt}(D:Dnr K mg q st ps fn fd)(S:bA N ps (aH st))(hb:N.Nodup->∀cdv A outer s H E hr,SSs (ctD P w K mg base N q (aH st) fn cdv A outer s H E k hr) (cI st) f)(hn:ps.length=n:=by rfl)(hF:fu N.length f=FF:=by rfl):
  dH P w K mg base (CX1 P w) (k+1) fn fd ps (spF K (az mg) n FF):=aGH D.F S (hb S.nd) hn hF
def aA9(items:Array Value)(nss:Nat->List Int)(h:Heap):Prop:=∀i v,items[i]? =some v->∃x its,v= .ref x/\IsTup h x its/\zB6 its.toList (nss i)
def zx(items:Array Value):List Addr:=items.toList.filterMap λ v=>match v with| .ref x=>some x|_=>none
def zu{items:Array Value}{i:Nat}(h:items[i]? =some (zBH x)):x∈zx items:=by
 unfold zx;rw[zBf];exact⟨.ref x,by have:=zAy (l:=items.toList) (i:=i) (by simpa using h);exact this,rfl⟩
def aA9.keep(T:aA9 items nss h)(k:∀b∈zx items,∀o,h.get? b=some o->h'.get? b=some o):aA9 items nss h':=λ i v e=>by
 obtain⟨x,its,rfl,⟨o,h1,h2⟩,h3⟩:=T i v e;exact⟨x,its,rfl,⟨o,k x (zu e) o h1,h2⟩,h3⟩
def aCY{X:Cx}:dw X (.type "int") (λ xs H Q=>∃b,xs=[.bl b]/\Q (.int (if b=true then 1 else 0)) H):=by
 intro kQ s σ H xs us Q I r h;obtain⟨b,rfl,q⟩:=h;obtain⟨u,rfl,r1⟩:=vals1 r;cases r1;exact call_int_bool ⟨.int _,H,I.tok _,⟨_,rfl⟩,q⟩
def lR:List D->Rs D
 |[.bl b]=>.ok (.int (if b=true then 1 else 0))
 |_=>.st
def aGO{K:zAA}:qu K (λ xs H Q=>∃b,xs=[.bl b]/\Q (.int (if b=true then 1 else 0)) H) lR:=by
 intro A xs ds H Q z r ez q;unfold lR at ez;split at ez
 .cases ez
  cases r with
  |cons h' r=>cases h';cases r;exact⟨_,rfl,q _ H (aR.refl H) (.int _)⟩
 .cases ez
def aEG:∀x z,lR x= .ok z->imm z=true:=by
 intro x z e;unfold lR at e;split at e
 .cases e;rfl
 .cases e
section
variable{C:Ct}{pos p:Pos}{m:Mode}{a:Expr}{ga:En->Rs (List D)}
def aFE(hm:C.mg "int"=none)(ha:SA C m [a] ga)(he:∀i,zA2 [a] (C.X i).env=[(false,eval a (C.X i).env)]:=by intro _;rfl)(hg:∀i,Gl (C.X i) "int":=by intro _;rfl)(hv:zAn "int"=some (.type "int"):=by decide+kernel):SE C (some []) (.Call (.Name "int" p) [a] [] pos) (opA lR ga):=
 iI (yM (λ i=>aCY) aGO hg hm hv ha (by decide) (by decide) he) λ _ _ h=>pH aEG h
end
end VL
namespace PySem
open Sem(wp)
section
variable{prog:zAP}{w:World}
inductive xj{K:Type}[DecidableEq K](knd:KeyKind prog w K)(h:Heap):List Value->List (K×Value)->Prop where
 |nil:xj knd h [] []
 |cons {x:Addr} {o:Obj} {n:Nat} {kv v:Value} {k:K} {us:List Value} {ps:List (K×Value)} (ho:h.get? x=some o) (hc:o.cls= .type "tuple") (hd:o.data= .seq #[kv,v] n) (hk:knd.is k kv=true) (r:xj knd h us ps):xj knd h (.ref x::us) ((k,v)::ps)
end
end PySem
namespace VL
open PySem PySem.Spec PyProof.Rows L2
section
variable{K:Type}[DecidableEq K]
end
end VL
namespace L2
open PySem PySem.Spec PyProof.Rows
def vo:Value->Bool
 | .bool b=>b
 |_=>false
theorem wB:∀{bs:List Bool} {us:List Value},Vals (bs.map V.bl) us->us=bs.map zC8
 |[],_,.nil=>rfl
 |b::bs,_,.cons h t=>by rw[wB t];cases h;rfl
def aB2{A:zA7}{s:zAB}{bs:List Bool}:∀y∈bs.map zC8,zCG A s y (.bool true) (vo y):=λ y hy=>by
 obtain⟨b,_,rfl⟩:=zA4.mp hy
 have:=zFB (A:=A) (s:=s) b true
 cases b<;>exact this
def aFN:V->List V->Hp->VK->Prop:=λ x xs H Q=>∃(a:Addr) (bs:List Bool),x= .ref a/\xs=[.bl true]/\H a=some (.lst (bs.map V.bl))/\Q (.int (bs.count true:Nat)) H
def aFL:V->List V->Hp->VK->Prop:=λ x xs H Q=>∃(a:Addr) (bs:List Bool) (j:Nat),x= .ref a/\xs=[.bl true]/\H a=some (.lst (bs.map V.bl))/\bs[j]? =some true/\(∀m,m<j->bs[m]? =some false)/\Q (.int (j:Nat)) H
section
variable{X:Cx}
def aCA:MtR X "list.count" aFN:=by
 intro kQ s σ H x xs v us Q I rx rxs h;obtain⟨a,bs,rfl,rfl,ha,q⟩:=h;cases rx;obtain⟨u,rfl,ru⟩:=vals1 rxs;cases ru;obtain⟨_,its,n,rv,e⟩:=I.hok a _ ha;have ei:=wB rv;subst ei;refine zBQ zEy ⟨_,e,rfl⟩ PySem.F.entry_list_count (PySem.F.args_list_count_2 _ _) (SeqAt.list_countAt a _ n none #[] (.bool true) vo) ⟨e,λ y hy=>aB2 y (by simpa using hy),?_⟩
 have:(bs.map zC8).countP vo=bs.count true:=by
  rw[List.countP_map];unfold List.count;congr 1;funext b;cases b<;>rfl
 rw[show(bs.map zC8).toArray.toList=bs.map zC8 from rfl,this];exact⟨.int _,H,I.tok _,⟨_,rfl⟩,q⟩
def aBy:MtR X "list.index" aFL:=by
 intro kQ s σ H x xs v us Q I rx rxs h;obtain⟨a,bs,j,rfl,rfl,ha,hj,hm,q⟩:=h;cases rx;obtain⟨u,rfl,ru⟩:=vals1 rxs;cases ru;obtain⟨hz,its,n,rv,e⟩:=I.hok a _ ha;have ei:=wB rv;subst ei;rw[zAE]at hz;have hl:=(zA3.mp hj).1;have h62:zAN<2^62:=by decide
 refine zBQ zEz ⟨_,e,rfl⟩ PySem.F.entry_list_index (PySem.F.args_list_index_2 _ _) (SeqAt.list_indexAt a _ n none #[] (.bool true) vo j (by simpa using hl) (by lia) ?_ λ m hm1 hmj=>?_) ⟨e,λ y hy=>aB2 y (by simpa using hy),⟨.int _,H,I.tok _,⟨_,rfl⟩,q⟩⟩
 .rw[zAR hl]at hj
  simpa[vo]using hj
 .have h2:=hm m hmj
  rw[zAR (by lia)]at h2;simpa[vo]using h2
end
section
variable{X:Cx}{n0 n1 n2 odd:Str}{c1 c2:V}{k1 k2 k3 k4:List V}{l1 l2:List Str}{a1 a2:Expr}{as1 as2 e1 e2 e3 e4 w1 w2:List Expr}{kw1 kw2:List zCK}{Q:VK}{H:Hp}{vs:List V}
 {p1 p2 p3 p4 p5 p6 p7 p8 p9 p10 p11 p12 p13 p14 p15 p16 p17 p18 p19 p20 p21 p22 p23 p24 p25 p26 p27 p28 p29 p30 p31 p32 p33 p34 p35 p36 p37 p38 p39 p40:Pos}{q1 q2 q3 q4 q5 q6 q7:Pos}{j1 j2 j3 j4 j5:Nat}{E0:XK}{wd:Addr->Option Str}
end
section
variable{P:zAP}{w:World}{K:zAA}{mg:Str->Option Value}{base:Heap}{x q n0 n1 n2 odd:Str}{st:Stmt}{f:Addr}{fd:zAh}{k:Nat}{wd:Addr->Option Str}{c1 c2:V}{k1 k2 k3 k4:List V}{l1 l2:List Str}{a1 a2:Expr}{as1 as2 e1 e2 e3 e4 w1 w2:List Expr}{kw1 kw2:List zCK}
 {p1 p2 p3 p4 p5 p6 p7 p8 p9 p10 p11 p12 p13 p14 p15 p16 p17 p18 p19 p20 p21 p22 p23 p24 p25 p26 p27 p28 p29 p30 p31 p32 p33 p34 p35 p36 p37 p38 p39 p40:Pos}{q1 q2 q3 q4 q5 q6 q7:Pos}{j1 j2 j3 j4 j5:Nat}
end
section
variable{X:Cx}{n0 n1 n2 odd:Str}{c1 c2:V}{k1 k2 k3 k4:List V}{l1 l2:List Str}{a1 a2:Expr}{as1 as2 e1 e2 e3 e4 w1 w2:List Expr}{kw1 kw2:List zCK}{Q:VK}{H:Hp}{vs:List V}
 {p1 p2 p3 p4 p5 p6 p7 p8 p9 p10 p11 p12 p13 p14 p15 p16 p17 p18 p19 p20 p21 p22 p23 p24 p25 p26 p27 p28 p29 p30 p31 p32 p33 p34 p35 p36 p37 p38 p39 p40:Pos}{q1 q2 q3 q4 q5 q6 q7:Pos}{j1 j2 j3 j4 j5:Nat}{E0:XK}{wd:Addr->Option Str}
def zM(hN:X.N=[n0,n1,n2])(nd:X.N.Nodup)(m0:X.env.scope.names.lookup n0=some .local)(m1:X.env.scope.names.lookup n1=some .local)(m2:X.env.scope.names.lookup n2=some .local)
  (h1:PE X (.Call a1 as1 kw1 p1) (za X.K c1))(h2:PE X (.Call a2 as2 kw2 p2) (za X.K c2))(g1:PA X e1 (kZ X.K k1))(g2:PA X e2 (kZ X.K k2))(g3:PA X e3 (kZ X.K k3))(g4:PA X e4 (kZ X.K k4))(g5:PA X w1 (vI l1))(g6:PA X w2 (vI l2))
  (hl1:(p20.endLine==p21.line)=true)(hl2:(p30.endLine==p31.line)=true)(hz:(l1++l2).length<=100)(h:spW wd vs H Q E0)(hw:∀C w,wd C=some w->Wd X.K c1 c2 [k1,k2,k3,k4] (l1++l2) C w)
  (d0:Nd n0:=by decide)(d1:Nd n1:=by decide)(d2:Nd n2:=by decide)
  (f0:(n0==("__classdict__":Str))=false:=by decide)(f1:(n1==("__classdict__":Str))=false:=by decide)(f2:(n2==("__classdict__":Str))=false:=by decide):
  ∃t,PSs X [.If (.BoolOp .Or [.UnaryOp .Not (.Call a1 as1 kw1 p1) p3,.UnaryOp .Not (.Call a2 as2 kw2 p2) p4] p5) [.Return (some (.Constant (.str odd) j1 p6)) p7] [] p8,
   .Assign [.Name n1 p9] (.List e1 p10) p11,.Assign [.Name n1 p12] (.BinOp (.Name n1 p13) .Add (.List e2 p14) p15) p16,.Assign [.Name n1 p17] (.BinOp (.Name n1 p18) .Add (.List e3 p19) p22) p23,.Assign [.Name n1 p24] (.BinOp (.Name n1 p25) .Add (.List e4 p26) p27) p28,
   .If (.Compare (.Call (.Attribute (.Name n1 p29) "count" p20) [.Constant (.bool true) j2 p32] [] p21) [.NotEq] [.Constant (.int 1) j3 p33] p34) [.Return (some (.Constant (.str odd) j4 p35)) p36] [] p37,
   .Assign [.Name n2 p38] (.List w1 p39) p40,.Return (some (.Subscript (.BinOp (.Name n2 q1) .Add (.List w2 q2) q3) (.Call (.Attribute (.Name n1 q4) "index" p30) [.Constant (.bool true) j5 q5] [] p31) q6)) q7] t/\
   t {nx:=λ _ H'=>Q .non H',rt:=Q} (start X.N vs) H:=by
 obtain⟨ea,C,w,rfl,hH,hwd,hq⟩:=h;obtain⟨hk,hq1,hq2,b1,b2,b3,b4,j,k1',k2',k3',k4',ek,r1,r2,r3,r4,kX,hcnt,hj,hjm,hjw⟩:=hw C w hwd;cases ek;have i0:X.N[0]? =some n0:=by rw[hN];rfl
 have i1:X.N[1]? =some n1:=by rw[hN];rfl
 have i2:X.N[2]? =some n2:=by rw[hN];rfl
 have v1:∀{pos:Pos},PE X (.Name n1 pos) (jN 1):=λ{pos}=>dX i1 (.inl m1) d1 f1
 have cat:∀{pp pq pr:Pos} {es:List Expr} {ks:List V},PA X es (kZ X.K ks)->PE X (.BinOp (.Name n1 pp) .Add (.List es pq) pr) (tOp aDJ (jN 1) (aGb (kZ X.K ks))):=λ g=>aBE wu v1 (mQ g)
 refine⟨_,dW (aBC (aGm (aAA (aDM h1)) (aDL (aAA (aDM h2)))).pt (iz (tH eE)) rR)
  (dW (jm nd i1 (.inl m1) (mQ g1) (hf:=.inr m1)) (dW (jm nd i1 (.inl m1) (cat g2) (hf:=.inr m1)) (dW (jm nd i1 (.inl m1) (cat g3) (hf:=.inr m1)) (dW (jm nd i1 (.inl m1) (cat g4) (hf:=.inr m1))
  (dW (aBC (aH5 (aHi (vR zBF zEy PySem.F.type_list_count aCA v1 (aX aD3 dF) (hline:=hl1)) aD0)) (iz (tH eE)) rR)
  (dW (jm nd i2 (.inl m2) (mQ g5) (hf:=.inr m2)) (iz (tH (aGp aBR (aBE wu (dX i2 (.inl m2) d2 f2) (mQ g6)) (vR zBF zEz PySem.F.type_list_index aBy v1 (aX aD3 dF) (hline:=hl2)) λ _ _=>rfl))))))))),?_⟩
 have hs:start X.N [.ref ea]=[some (.ref ea),none,none]:=by rw[hN];rfl
 rw[hs];have sz:∀{n:Nat},n<=100->n<=zAN:=λ h=>zAe h (by decide)
 simp only[zAC]at kX hz;refine wG (ea:=ea) rfl hH hk hq1 ⟨true,rfl,wG (ea:=ea) rfl hH hk hq2 ⟨true,rfl,?_⟩⟩;refine lD (ea:=ea) rfl hH hk r1 ⟨sz (by rw[zAE];omega),λ a1 H1 s1 ha1 _=>?_⟩;refine⟨.ref a1,rfl,lD (ea:=ea) rfl (s1 _ _ hH) hk r2 ⟨sz (by rw[zAE];omega),λ x2 G2 t2 hx2 _=>⟨a1,x2,_,_,rfl,rfl,t2 _ _ ha1,hx2,sz (by simp only[zAE];omega),λ a2 H2 s2 ha2 _=>?_⟩⟩⟩;have hH2:=s2 _ _ (t2 _ _ (s1 _ _ hH));refine⟨.ref a2,rfl,lD (ea:=ea) rfl hH2 hk r3 ⟨sz (by rw[zAE];omega),λ x3 G3 t3 hx3 _=>⟨a2,x3,_,_,rfl,rfl,t3 _ _ ha2,hx3,sz (by simp only[zAE,zAC];omega),λ a3 H3 s3 ha3 _=>?_⟩⟩⟩;have hH3:=s3 _ _ (t3 _ _ hH2);refine⟨.ref a3,rfl,lD (ea:=ea) rfl hH3 hk r4 ⟨sz (by rw[zAE];omega),λ x4 G4 t4 hx4 _=>⟨a3,x4,_,_,rfl,rfl,t4 _ _ ha3,hx4,sz (by simp only[zAE,zAC];omega),λ a4 H4 s4 ha4 _=>?_⟩⟩⟩;rw[<-zAi,<-zAi,<-zAi]at ha4;generalize hbs:b1++b2++b3++b4=bs at hcnt hj hjm ha4;refine⟨.ref a4,rfl,.inl ⟨rfl,_,.inl (.inl ha4)⟩,a4,bs,rfl,rfl,ha4,1,1,by rw[hcnt];rfl,rfl,false,rfl,?_⟩;refine sO ⟨sz (by rw[zAE];omega),λ a5 H5 s5 ha5 _=>?_⟩;refine⟨.ref a5,rfl,sO ⟨sz (by rw[zAE];omega),λ x6 G6 t6 hx6 _=>⟨a5,x6,_,_,rfl,rfl,t6 _ _ ha5,hx6,sz (by simp only[zAE];omega),λ a7 H7 s7 ha7 _=>?_⟩⟩⟩;have ha4':=s7 _ _ (t6 _ _ (s5 _ _ ha4));refine⟨.ref a4,rfl,.inl ⟨rfl,_,.inl (.inl ha4')⟩,a4,bs,j,rfl,rfl,ha4',hj,hjm,a7,_,_,.str w,rfl,rfl,.inl (.inl ha7),?_,?_⟩
 .rw[<-zAi]
  have hjl:j<(l1++l2).length:=(zA3.mp hjw).1;unfold atI ixN;rw[if_pos (Int.natCast_nonneg j),zAE,if_pos (by omega),zDU]
  show((l1++l2).map V.str)[j]? =_
  rw[zAW,hjw];rfl
 .exact hq _ λ b o e=>s7 _ _ (t6 _ _ (s5 _ _ (s4 _ _ (t4 _ _ (s3 _ _ (t3 _ _ (s2 _ _ (t2 _ _ (s1 _ _ e)))))))))
end
section
variable{P:zAP}{w:World}{K:zAA}{mg:Str->Option Value}{base:Heap}{x q n0 n1 n2 odd:Str}{st:Stmt}{f:Addr}{fd:zAh}{k:Nat}{wd:Addr->Option Str}{c1 c2:V}{k1 k2 k3 k4:List V}{l1 l2:List Str}{a1 a2:Expr}{as1 as2 e1 e2 e3 e4 w1 w2:List Expr}{kw1 kw2:List zCK}
 {p1 p2 p3 p4 p5 p6 p7 p8 p9 p10 p11 p12 p13 p14 p15 p16 p17 p18 p19 p20 p21 p22 p23 p24 p25 p26 p27 p28 p29 p30 p31 p32 p33 p34 p35 p36 p37 p38 p39 p40:Pos}{q1 q2 q3 q4 q5 q6 q7:Pos}{j1 j2 j3 j4 j5:Nat}
def aCS(F:Fun K x q st f fd)(S:bA [n0,n1,n2] [n0] (aH st))
  (hst:cI st=[.If (.BoolOp .Or [.UnaryOp .Not (.Call a1 as1 kw1 p1) p3,.UnaryOp .Not (.Call a2 as2 kw2 p2) p4] p5) [.Return (some (.Constant (.str odd) j1 p6)) p7] [] p8,
   .Assign [.Name n1 p9] (.List e1 p10) p11,.Assign [.Name n1 p12] (.BinOp (.Name n1 p13) .Add (.List e2 p14) p15) p16,.Assign [.Name n1 p17] (.BinOp (.Name n1 p18) .Add (.List e3 p19) p22) p23,.Assign [.Name n1 p24] (.BinOp (.Name n1 p25) .Add (.List e4 p26) p27) p28,
   .If (.Compare (.Call (.Attribute (.Name n1 p29) "count" p20) [.Constant (.bool true) j2 p32] [] p21) [.NotEq] [.Constant (.int 1) j3 p33] p34) [.Return (some (.Constant (.str odd) j4 p35)) p36] [] p37,
   .Assign [.Name n2 p38] (.List w1 p39) p40,.Return (some (.Subscript (.BinOp (.Name n2 q1) .Add (.List w2 q2) q3) (.Call (.Attribute (.Name n1 q4) "index" p30) [.Constant (.bool true) j5 q5] [] p31) q6)) q7])
  (m0:(aH st).names.lookup n0=some .local)(m1:(aH st).names.lookup n1=some .local)(m2:(aH st).names.lookup n2=some .local)
  (h:∀(cdv:Value) (A:zA7) (outer:List Env) (s:zAB) (H:Hp),PE (cxH P w K mg base [n0,n1,n2] q (aH st) f cdv A outer s H) (.Call a1 as1 kw1 p1) (za K c1)/\PE (cxH P w K mg base [n0,n1,n2] q (aH st) f cdv A outer s H) (.Call a2 as2 kw2 p2) (za K c2)/\
   PA (cxH P w K mg base [n0,n1,n2] q (aH st) f cdv A outer s H) e1 (kZ K k1)/\PA (cxH P w K mg base [n0,n1,n2] q (aH st) f cdv A outer s H) e2 (kZ K k2)/\PA (cxH P w K mg base [n0,n1,n2] q (aH st) f cdv A outer s H) e3 (kZ K k3)/\
   PA (cxH P w K mg base [n0,n1,n2] q (aH st) f cdv A outer s H) e4 (kZ K k4)/\PA (cxH P w K mg base [n0,n1,n2] q (aH st) f cdv A outer s H) w1 (vI l1)/\PA (cxH P w K mg base [n0,n1,n2] q (aH st) f cdv A outer s H) w2 (vI l2))
  (hl1:(p20.endLine==p21.line)=true)(hl2:(p30.endLine==p31.line)=true)(hz:(l1++l2).length<=100)(hw:∀C w,wd C=some w->Wd K c1 c2 [k1,k2,k3,k4] (l1++l2) C w)
  (d0:Nd n0:=by decide)(d1:Nd n1:=by decide)(d2:Nd n2:=by decide)
  (f0:(n0==("__classdict__":Str))=false:=by decide)(f1:(n1==("__classdict__":Str))=false:=by decide)(f2:(n2==("__classdict__":Str))=false:=by decide):
  FnH P w K mg base 1 f fd [n0] (spW wd):=by
 refine F.okH (k:=0) S (λ vs H Q E ⟨_,_,_,e,_⟩=>by rw[e];rfl) λ cdv A outer s H vs Q E hr hsp=>?_
 obtain⟨g1,g2,g3,g4,g5,g6,g7,g8⟩:=h cdv A outer s H;rw[hst];exact zM (X:=cxH P w K mg base [n0,n1,n2] q (aH st) f cdv A outer s H) rfl S.nd m0 m1 m2 g1 g2 g3 g4 g5 g6 g7 g8 hl1 hl2 hz hsp hw d0 d1 d2 f0 f1 f2
end
end L2
namespace VL
open PySem PySem.Spec PyProof.Rows L2
def dnr{K:zAA}{h:Heap}{mg:Str->Option Value}{x:Str}{st:Stmt}(X:K.In h)(G:h.Ns zA1 mg)(e:∃f d,Enr K x st f d)(ps:List Str)
  (hb:∀(kV doc pm:Value) (an:Option Addr) (cdv ct:Value) (us:List Value),us.length=ps.length->zGw (zBU x x (jy st) (cI st) (aH st) .none kV doc pm an cdv ct) ⟨us,[]⟩=pure (ps.zip us):=by
   intro _ _ _ _ _ _ us hl;repeat' first|rfl|(simp at hl;done)|rcases us with _|⟨_,us⟩):∃f d,Dnr K mg x st ps f d/\zA9 K zA1 x=some (some (.ref f)):=by
 obtain⟨f,d,F,a⟩:=e;exact⟨f,d,⟨F,zA8 X G a,F.binds hb⟩,a⟩
def aA3(l b:Addr)(es:Array zFZ)(ep:Nat)(sl:Array (Option Value))(items2:Array Value)(n2:Nat)(dd2:Option Addr)(sl2:Array (Option Value)):
  Meets (zDb.«dict.__eq__» ⟨[.ref l,.ref b],[]⟩) (λ _ R s=>s.heap.get? l=some {cls:=.type "dict",data:=.dict es ep,slots:=sl}/\s.heap.get? b=some {cls:=.type "tuple",dict:=dd2,data:=.seq items2 n2,slots:=sl2}/\R (.ok (.ret .notImplemented)) s):=
 .of_wp λ prog w A R s h=>by
  obtain⟨hp,g,d,tk,os⟩:=s;obtain⟨hl,hb,h⟩:=h;have f1:=zGp;wp_walk using zCM hl,zCM hb;exact⟨_,rfl,h⟩
def yC(l b:Addr)(es:Array zFZ)(ep:Nat)(sl:Array (Option Value))(items2:Array Value)(n2:Nat)(dd2:Option Addr)(sl2:Array (Option Value)):
  Meets (zDb.«tuple.__eq__» ⟨[.ref b,.ref l],[]⟩) (λ _ R s=>s.heap.get? l=some {cls:=.type "dict",data:=.dict es ep,slots:=sl}/\s.heap.get? b=some {cls:=.type "tuple",dict:=dd2,data:=.seq items2 n2,slots:=sl2}/\R (.ok (.ret .notImplemented)) s):=
 .of_wp λ prog w A R s h=>by
  obtain⟨hp,g,d,tk,os⟩:=s;obtain⟨hl,hb,h⟩:=h;have f1:=F.sub_dict_tuple;wp_walk using zCM hl,zCM hb;exact⟨_,rfl,h⟩
def uv{A:zA7}{s:zAB}{l b:Addr}{es:Array zFZ}{ep:Nat}{sl:Array (Option Value)}{items:Array Value}(hl:s.heap.get? l=some {cls:=.type "dict",data:=.dict es ep,slots:=sl})(hb:IsTup s.heap b items)(hu:A.units<cLine):SeqAt.RcAt A s (.ref l) (.ref b) false:=λ prog w E Q h=>by
 obtain⟨⟨cls2,dd2,data2,sl2⟩,ho2,hc2,n2,hd2⟩:=id hb;simp only at hc2 hd2;subst hc2 hd2;have hne:l≠b:=λ e=>by
  subst e;exact absurd (congrArg Obj.cls (zAg (hl.symm.trans ho2))) (show¬(zBz "dict"=zBz "tuple")by decide)
 exact(SeqAt.rc_eq_decline_or (k:=false) ⟨_,hl,rfl⟩ ⟨_,ho2,rfl⟩ (by decide) zGp F.slot_dict_eq zGT
  (λ _ hq=>zBQ F.slot_dict_eq ⟨_,hl,rfl⟩ F.entry_dict_eq (F.args_dict_eq_2 _ _) (aA3 l b es ep sl items n2 dd2 sl2) ⟨hl,ho2,hq⟩)
  (λ _ hq=>zBQ zGT ⟨_,ho2,rfl⟩ F.entry_tuple_eq (F.args_tuple_eq_2 _ _) (yC l b es ep sl items n2 dd2 sl2) ⟨hl,ho2,hq⟩)
  (λ _ hq=>wpAny_isSame_ref_other hne hl ho2 (by simp) hq) (.inr hu) h)
def aJL(K:zAA):R2:=λ x y H Q=>aBq K false x y H Q\/∃a kvs b ys,x= .ref a/\y= .ref b/\H a=some (.dK kvs)/\SqT K H b ys/\Q (.bl false) H
def aHv{X:Cx}(hu:X.A.units+64<cLine):OpR X (zBO .Eq) (aJL X.K):=by
 intro kQ s σ H x y v u Q I rx ry h;rcases h with h|⟨a,kvs,b,ys,rfl,rfl,ha,hb,q⟩
 .exact aD4 hu kQ s σ H x y v u Q I rx ry h
 .cases rx
  cases ry;obtain⟨_,_,vs,_,o,es,ep,ho,hx,hd,_⟩:=I.hok a _ ha;obtain⟨its,_,ht,_⟩:=I.tuple hb;obtain⟨cls,dd,data,sl⟩:=o;obtain⟨h1,h2,h3⟩:=hx;simp only at h1 h2 hd;subst h1 h2 hd;exact uv ho ht (by lia) X.prog X.w X.xe _ ⟨.bl false,H,I,rfl,q⟩
def eqX:D->D->Rs D:=λ d e=>match d,e with
 | .dct [] _,.tup _=>.ok (.bl false)
 |d,e=>eqR false d e
def aHl{K:zAA}:OpS K (aJL K) eqX:=by
 intro A x y d e H Q z rx ry ez q;unfold eqX at ez;split at ez
 .cases ez
  obtain⟨b,ys,rfl,hb,_⟩:=ry.tup_inv;generalize hk:D.dct [] _=dd at rx;cases rx with
  |dK h m r=>exact .inr ⟨_,_,b,ys,rfl,rfl,h,hb,q _ H (aR.refl H) (.bl _)⟩
  |dT h m r=>cases hk
  |_=>cases hk
 .exact .inl (os_eq A x y _ _ H Q z rx ry ez q)
section
variable{C:Ct}{pos:Pos}{m1 m2:Mode}{a b:Expr}{fa fb:En->Rs D}
def aHK(ha:SE C m1 a fa)(hb:SE C m2 b fb):ST C (.Compare a [.Eq] [b] pos) (tsb (op2 eqX fa fb)):=nM (λ i=>by rw[<-C.hK i];exact aHv (C.u64 i)) aHl ha hb
end
end VL
namespace L2
open PySem PySem.Spec PyProof.Rows
end L2
namespace VL
open PySem PySem.Spec PyProof.Rows L2
def aKG(A:zA7)(s:zAB)(v u:Value)(b:Bool):Prop:=∀(prog:zAP) (w:World) (E:Value->zAB->Prop) (Q:Value->zAB->Prop),Q (.bool b) s->wpAny (model prog w) A (zGk .Gt v u) Q E s
inductive aC2(A:zA7)(s:zAB):List Value->List Value->Bool->Prop
 |nn:aC2 A s [] [] false
 |nc:aC2 A s [] (v::vs) false
 |cn:aC2 A s (v::vs) [] true
 |eq:zCG A s v u true->aC2 A s vs us b->aC2 A s (v::vs) (u::us) b
 |un:zCG A s v u false->aKG A s v u b->aC2 A s (v::vs) (u::us) b
section
open PySem.SeqAt
open PySem.AutoSeq1(wpAny_loadPart')
open PySem.MeetsSeq PySem.MeetsSeq2 PySem.MeetsSeq3
end
section
theorem aGu:∀{l:List D} {d:D},cF l=true->d∈l->imm d=true
 |_::_,d,h,hm=>by
  simp only[cF,zAK]at h;rcases zAX.mp hm with rfl|hm
  .exact h.1
  .exact aGu h.2 hm
structure Cmp(f:D->D->Option Bool)(l:List D):Prop where
 n0:0<l.length
 im:cF l=true
 nd:au l=true
 dp:bU l<=40
 cm:∀x∈l,∀y∈l,(f x y).isSome=true
instance:Decidable (Cmp f l):=if h:0<l.length/\cF l=true/\au l=true/\bU l<=40/\∀x∈l,∀y∈l,(f x y).isSome=true then .isTrue ⟨h.1,h.2.1,h.2.2.1,h.2.2.2.1,h.2.2.2.2⟩else .isFalse λ z=>h ⟨z.n0,z.im,z.nd,z.dp,z.cm⟩
end
mutual
def lsD:D->D->Option Bool
 | .int a,.int b=>some (decide (a<b))
 | .tup l,.tup m=>aJW l m
 |_,_=>none
def aJW:List D->List D->Option Bool
 |[],[]=>some false
 |[],_::_=>some true
 |_::_,[]=>some false
 |x::xs,y::ys=>if eqD x y=true then aJW xs ys else lsD x y
end
def aKF(A:zA7)(s:zAB)(v u:Value)(b:Bool):Prop:=∀(prog:zAP) (w:World) (E:Value->zAB->Prop) (Q:Value->zAB->Prop),Q (.bool b) s->wpAny (model prog w) A (zGk .Lt v u) Q E s
inductive aC1(A:zA7)(s:zAB):List Value->List Value->Bool->Prop
 |nn:aC1 A s [] [] false
 |nc:aC1 A s [] (v::vs) true
 |cn:aC1 A s (v::vs) [] false
 |eq:zCG A s v u true->aC1 A s vs us b->aC1 A s (v::vs) (u::us) b
 |un:zCG A s v u false->aKF A s v u b->aC1 A s (v::vs) (u::us) b
section
open PySem.SeqAt
open PySem.AutoSeq1(wpAny_loadPart')
open PySem.MeetsSeq PySem.MeetsSeq2 PySem.MeetsSeq3
end
def aGI(i k:Nat):En->Ou:=λ Y=>match Y[i]?,Y[k]? with
 |some (.ow (.lst ds)),some (.ow (.lst es))=>if ds.length+es.length<=zAN/\cF es=true then .nx (Y.set i (.ow (.lst (ds++es))))else .st
 |_,_=>.st
section
variable{C:Ct}{pos apos cpos p p':Pos}{i k:Nat}{x y:Str}
def zg(i k:Nat)(hN:∀j,(C.X j).N[i]? =some x:=by intro _;rfl)(hv:∀j,Vis (C.X j).env.scope x:=by intro _;first|exact zBj rfl|exact zBG (zBj rfl)|exact zBG (zBG rfl))(hd:Nd x:=by decide)
  (hcd:(x==("__classdict__":Str))=false:=by decide)(hN':∀j,(C.X j).N[k]? =some y:=by intro _;rfl)(hv':∀j,Vis (C.X j).env.scope y:=by intro _;first|exact zBj rfl|exact zBG (zBj rfl)|exact zBG (zBG rfl))(hd':Nd y:=by decide)
  (hcd':(y==("__classdict__":Str))=false:=by decide)(hs1:∀j,zA2 [.Name y p'] (C.X j).env=[(false,eval (.Name y p') (C.X j).env)]:=by intro _;rfl)
  (hbase:∀j,zCb (.Name x p) "extend" (C.X j).env (eval (.Name x p) (C.X j).env)=eval (.Name x p) (C.X j).env:=by intro _;rfl)
  (hfew:∀j,((zCI cpos (zA2 [.Name y p'] (C.X j).env)).all (λ x=>!x.1)&&(zEh cpos (zDM [] (C.X j).env)).all (λ x=>x.1.isSome)&&decide ([Expr.Name y p'].length+([]:List zCK).length+(if ([]:List zCK).isEmpty then 0 else 1)<30))=true:=by intro _;rfl)
  (hline:(apos.endLine==cpos.line)=true:=by rfl)
  (hsw:∀j,zDN (.Call (.Attribute (.Name x p) "extend" apos) [.Name y p'] [] cpos) none pos.line (C.X j).env=pure false:=by intro _;rfl):
  SS C (.Expr (.Call (.Attribute (.Name x p) "extend" apos) [.Name y p'] [] cpos) pos) (aGI i k):=by
 refine⟨sS (tBM C.K "list" oY (jN i) (iG (jN k) pX)),λ j=>mO (by rw[<-C.hK j];exact vR zBF zCX zDH n6 (dX (hN j) (hv j) hd hcd) (aX (dX (hN' j) (hv' j) hd' hcd') dF (hs1 j)) (hbase j) (hfew j) hline (hs1 j) rfl) (hsw j),λ τ σ H Y lab De R W=>?_⟩;unfold aGI at W;split at W
 .rename_i ds es e1 e2
  by_cases hz:ds.length+es.length<=zAN/\cF es=true
  .rw[if_pos hz]at W
   rcases R.sl i _ e1 with z|⟨v,ev,hv1,htop⟩
   .cases z
   rcases R.sl k _ e2 with z|⟨v2,ev2,hv2,_⟩
   .cases z
   obtain⟨a0,ea0,la0⟩:=htop rfl;subst ea0;obtain⟨a1,xs,ea1,h,mm,r⟩:=hv1.lst_inv;cases ea1;obtain⟨b,zs,eb,hb,mb,rb⟩:=hv2.lst_inv;subst eb;refine⟨.ref a0,ev,.inl ⟨rfl,xs,SqL.of h⟩,.ref b,ev2,a0,b,xs,zs,rfl,rfl,h,hb,by rw[r.length,rb.length];exact hz.1,λ H3 B h3=>?_⟩;refine W σ H3 _ (R.mut ev h rfl la0 B ⟨.lst h3 (.inr la0) ?_,λ _=>⟨a0,rfl,la0⟩⟩);exact(r.append (rb.imm hz.2)).but B h rfl λ z=>z.2 rfl
  .rw[if_neg hz]at W
   exact zAH W
 .exact zAH W
end
mutual
def gQ:D->D->Bool
 | .non,.non=>true
 | .bl a,.bl b=>a==b
 | .int a,.int b=>a==b
 | .tup l,.tup m=>fJ l m
 |_,_=>false
def fJ:List D->List D->Bool
 |[],[]=>true
 |x::xs,y::ys=>gQ x y&&fJ xs ys
 |_,_=>false
end
mutual
theorem aCw:∀(a b:D),gQ a b=true->a=b
 | .non,b,h=>by cases b<;>simp[gQ]at h;rfl
 | .bl a,b,h=>by cases b<;>simp[gQ]at h;rw[h]
 | .int a,b,h=>by cases b<;>simp[gQ]at h;rw[h]
 | .tup l,b,h=>by cases b<;>simp[gQ]at h;rw[ph _ _ h]
 | .str _,b,h=>by simp[gQ]at h
 | .lst _,b,h=>by simp[gQ]at h
 | .dct _ _,b,h=>by simp[gQ]at h
 | .set _,b,h=>by simp[gQ]at h
 | .scr _,b,h=>by simp[gQ]at h
 | .fn _,b,h=>by simp[gQ]at h
theorem ph:∀(a b:List D),fJ a b=true->a=b
 |[],b,h=>by cases b<;>simp[fJ]at h;rfl
 |x::xs,b,h=>by
  cases b with
  |nil=>simp[fJ]at h
  |cons y ys=>
   simp only[fJ,zAK]at h;rw[aCw _ _ h.1,ph _ _ h.2]
end
def WK(K:zAA)(G:Gx)(τ:List (V×D))(k:Nat)(v0:V)(o:Ou)(De:Ends):Prop:=match o with
 | .nx Y=>∀σ H lab,RR K G τ Y σ H lab->σ[k]? =some (some v0)->De.nx σ H
 | .bk Y=>∀σ H lab,RR K G τ Y σ H lab->σ[k]? =some (some v0)->De.bk σ H
 | .ct Y=>∀σ H lab,RR K G τ Y σ H lab->σ[k]? =some (some v0)->De.ct σ H
 | .rt d=>∀v H,aR G.H0 H->Rp K (λ p=>G.H0 p=none) H v d->De.rt v H
 | .ex c=>∀H',aR G.H0 H'->G.E (.ref (G.cl c)) none H'
 | .st=>False
theorem WK.bo{K:zAA}{G:Gx}{r:Rs α}{g:α->Ou}(h:WK K G τ k v0 (r.bo g) De):WR G r (λ a=>WK K G τ k v0 (g a) De):=by
 cases r with
 |ok a=>exact h
 |ex c=>exact h
 |st=>exact h
def aJb(K:zAA)(G:Gx)(k:Nat)(t:TS)(f:En->Ou):Prop:=∀τ σ H Y lab (De:Ends) (v0:V),RR K G τ Y σ H lab->σ[k]? =some (some v0)->WK K G τ k v0 (f Y) De->t De σ H
def SSk(C:Ct)(k:Nat)(s:Stmt)(f:En->Ou):Prop:=∃t,(∀i,PS (C.X i) s t)/\aJb C.K C.G k t f
def aAa(C:Ct)(k:Nat)(s:List Stmt)(f:En->Ou):Prop:=∃t,(∀i,PSs (C.X i) s t)/\aJb C.K C.G k t f
section
variable{C:Ct}{pos apos cpos p:Pos}{s:Stmt}{ss:List Stmt}{f g:En->Ou}{e a:Expr}{m:Mode}{fe:En->Rs D}{k i:Nat}{x:Str}
def aCf:aAa C k [] .nx:=⟨_,λ _=>rR,λ τ σ H Y lab De v0 R f0 W=>W σ H lab R f0⟩
def yJ(h:SSk C k s f):aAa C k [s] f:=let⟨t,h1,h2⟩:=h;⟨t,λ i=>iz (h1 i),h2⟩
def mF(h:SSk C k s f)(kk:aAa C k ss g):aAa C k (s::ss) (aa f g):=by
 obtain⟨t,h1,h2⟩:=h;obtain⟨u,k1,k2⟩:=kk;refine⟨_,λ i=>dW (h1 i) (k1 i),λ τ σ H Y lab De v0 R f0 W=>h2 τ σ H Y lab _ v0 R f0 ?_⟩;unfold aa at W;cases h:f Y with
 |nx Y'=>rw[h]at W;exact λ σ' H' lab' R' f'=>k2 τ σ' H' Y' lab' De v0 R' f' W
 |rt d=>rw[h]at W;exact W
 |bk Y'=>rw[h]at W;exact W
 |ct Y'=>rw[h]at W;exact W
 |ex c=>rw[h]at W;exact W
 |st=>rw[h]at W;exact W
def aHM{a b:List Stmt}{c:Expr}{fc:En->Rs Bool}(hc:ST C c fc)(ha:aAa C k a f)(hb:aAa C k b g):SSk C k (.If c a b pos) (ifS fc f g):=by
 obtain⟨tc,c1,c2⟩:=hc;obtain⟨t,h1,h2⟩:=ha;obtain⟨u,k1,k2⟩:=hb;refine⟨_,λ i=>aBC (c1 i) (h1 i) (k1 i),λ τ σ H Y lab De v0 R f0 W=>c2 τ σ H Y lab _ R (WK.bo W |>.imp λ q _ w H1 s1=>?_)⟩;cases q with
 |true=>rw[if_pos rfl]at w ⊢;exact h2 τ σ H1 Y lab De v0 (R.up s1) f0 w
 |false=>rw[if_neg zAT]at w ⊢;exact k2 τ σ H1 Y lab De v0 (R.up s1) f0 w
def oV(h:SV C i s m fe)(hm:okS m=true:=by rfl)(hk:(k==i)=false:=by rfl):SSk C k s (bz i fe):=by
 obtain⟨t,h1,h2⟩:=h;refine⟨_,h1,λ τ σ H Y lab De v0 R f0 W=>h2 τ σ H Y lab _ R (WK.bo W |>.imp λ d _ w v H' s r=>?_)⟩;obtain⟨R',r'⟩:=R.shared hm s r;exact w _ _ _ (R'.put (s:=.sh d) r') (by rw[zBJ (λ e=>by rw[e]at hk;simp at hk)];exact f0)
def zc(i:Nat)(he:SE C m e fe)(hm:okN m=true:=by rfl)(hN:∀j,(C.X j).N[i]? =some x:=by intro _;rfl)(hv:∀j,Vis (C.X j).env.scope x:=by intro _;first|exact zBj rfl|exact zBG (zBj rfl)|exact zBG (zBG rfl))(hd:Nd x:=by decide)
  (hcd:(x==("__classdict__":Str))=false:=by decide)(hs1:∀j,zA2 [e] (C.X j).env=[(false,eval e (C.X j).env)]:=by intro _;rfl)
  (hbase:∀j,zCb (.Name x p) "append" (C.X j).env (eval (.Name x p) (C.X j).env)=eval (.Name x p) (C.X j).env:=by intro _;rfl)
  (hfew:∀j,((zCI cpos (zA2 [e] (C.X j).env)).all (λ x=>!x.1)&&(zEh cpos (zDM [] (C.X j).env)).all (λ x=>x.1.isSome)&&decide ([e].length+([]:List zCK).length+(if ([]:List zCK).isEmpty then 0 else 1)<30))=true:=by intro _;rfl)
  (hline:(apos.endLine==cpos.line)=true:=by rfl)
  (hsw:∀j,zDN (.Call (.Attribute (.Name x p) "append" apos) [e] [] cpos) none pos.line (C.X j).env=pure false:=by intro _;rfl):
  SSk C k (.Expr (.Call (.Attribute (.Name x p) "append" apos) [e] [] cpos) pos) (aGV i fe):=by
 obtain⟨t,h1,h2⟩:=he;refine⟨sS (tBM C.K "list" yZ (jN i) (iG t pX)),λ j=>mO (by rw[<-C.hK j];exact vR zBF zFf PySem.F.type_list_append aAK (dX (hN j) (hv j) hd hcd) (aX (h1 j) dF (hs1 j)) (hbase j) (hfew j) hline (hs1 j) rfl) (hsw j),λ τ σ H Y lab De v0 R f0 W=>?_⟩;unfold aGV at W;cases es:Y[i]? with
 |none=>rw[es]at W;exact zAH W
 |some s=>
  rw[es]at W;split at W
  .rename_i ds hs
   cases hs;rcases R.sl i _ es with z|⟨v,ev,hv'⟩
   .cases z
   .obtain⟨hv1,htop⟩:=hv'
    obtain⟨a0,ea0,la0⟩:=htop rfl;subst ea0;cases hv1 with
    |lst h mm r=>
     rename_i xs;refine⟨.ref a0,ev,.inl ⟨rfl,xs,SqL.of h⟩,h2 τ σ H Y lab _ R (WK.bo W |>.imp λ d _ w y H2 s2 r2=>?_)⟩;by_cases hz:ds.length<zAN
     .rw[if_pos hz]at w
      refine⟨a0,xs,y,rfl,rfl,s2 _ _ h,by rw[r.length];exact hz,λ H3 B h3=>?_⟩;obtain⟨R',r'⟩:=R.fresh (P:=λ k=>k=1) rfl (λ k hk=>beq_iff_eq.mp (jq hm k hk)) s2 r2;have la:(cL H 1 lab a0).1=i+2:=by rw[bQ h];exact la0
      refine w σ H3 _ (R'.mut ev (s2 _ _ h) rfl la B ⟨.lst h3 (.inr la) ?_,λ _=>⟨a0,rfl,la⟩⟩) f0;have ra:Rps C.K (λ p=>((cL H 1 lab p).1=1\/(cL H 1 lab p).1=i+2)/\p≠a0) H2 (xs++[y]) (ds++[d]):=by
       refine(r.mono s2 λ p o e z=>⟨by rw[bQ e];exact z.1,z.2⟩).append (.cons (r'.wk λ p o e z=>⟨.inl z,λ q=>?_⟩) .nil);subst q;rw[la]at z;lia
      exact ra.but B (s2 _ _ h) rfl λ z=>z.2 rfl
     .rw[if_neg hz]at w
      exact zAH w
  .exact zAH W
def qb(k:Nat)(l:List D)(Y:En):Bool:=match Y[k]? with
 |some (.ow (.lst m))=>fJ m l
 |_=>false
def lX(k:Nat)(l:List D)(fg:D->En->Rs En)(b:En->Ou):List D->En->Ou
 |[],Y=>if qb k l Y=true then .nx Y else .st
 |d::ds,Y=>if qb k l Y=true then(match fg d Y with
  | .ok Y1=>match b Y1 with
   | .nx Y2=>lX k l fg b ds Y2
   | .ct Y2=>lX k l fg b ds Y2
   | .bk _=>.st
   |o=>o
  |_=>.st)else .st
def aGG(k:Nat)(fg:D->En->Rs En)(b:En->Ou):En->Ou:=λ Y=>match Y[k]? with
 |some (.ow (.lst l))=>if cF l=true then lX k l fg b l Y else .st
 |_=>.st
def aEt{tg:Expr}{ks:List Nat}{fg:D->En->Rs En}(k:Nat)(hg:SG C tg ks fg)(hb:aAa C k ss f)(hk:k∉ks:=by decide)(hN:∀j,(C.X j).N[k]? =some x:=by intro _;rfl)(hv:∀j,Vis (C.X j).env.scope x:=by intro _;first|exact zBj rfl|exact zBG (zBj rfl)|exact zBG (zBG rfl))(hd:Nd x:=by decide)
  (hcd:(x==("__classdict__":Str))=false:=by decide)(hs:∀i,∀y,zCP (.Name x p) (C.X i).env y=pure y:=by intro _ _;rfl):SS C (.For tg (.Name x p) ss [] pos) (aGG k fg f):=by
 obtain⟨gg,g1,g2,g3,g4⟩:=hg;obtain⟨tb,b1,b2⟩:=hb;refine⟨aIu (aIW C.K (jN k)) gg tb,λ i=>aDR (C.own i) (C.calm i) (by rw[<-C.hK i];exact aDU (dX (hN i) (hv i) hd hcd)) (g1 i) (b1 i) (hs i),λ τ σ H Y lab De R W=>?_⟩;unfold aGG at W;split at W
 .rename_i l e1
  by_cases him:cF l=true
  .rw[if_pos him]at W
   rcases R.sl k _ e1 with z|⟨v,ev,hv1,htop⟩
   .cases z
   obtain⟨a0,xs,rfl,h,mm,r⟩:=hv1.lst_inv;refine⟨.ref a0,ev,a0,rfl,.inl ⟨⟨xs,SqL.of h⟩,?_⟩⟩;refine⟨λ i n σ' H'=>∃Y' lab',RR C.K C.G τ Y' σ' H' lab'/\σ'[k]? =some (some (.ref a0))/\n=l.length-i/\i<=l.length/\WS C.K C.G τ (lX k l fg f (l.drop i) Y') De,⟨l.length,Y,lab,R,ev,by lia,by lia,W⟩,?_⟩;rintro i n σ' H' ⟨Y',lab',R',f',rfl,hi,w'⟩;have own:qb k l Y'=true->∃(P:Addr->Prop) (xs':List V),H' a0=some (.lst xs')/\Rps C.K P H' xs' l:=λ o=>by
    unfold qb at o;split at o
    .rename_i m e2
     have:=ph m l o
     subst this;rcases R'.sl k _ e2 with z|⟨v,ev',hv',_⟩
     .cases z
     rw[f']at ev';cases ev';obtain⟨a1,xs',ea,h',mm',r'⟩:=hv'.lst_inv;cases ea;exact⟨_,xs',h',r'⟩
    .cases o
   by_cases hlt:i<l.length
   .have ed2:l.drop i=l[i]::l.drop (i+1):=zBA hlt
    rw[ed2]at w';unfold lX at w';by_cases o:qb k l Y'=true
    .rw[if_pos o]at w'
     obtain⟨P,xs',h',r'⟩:=own o;have hl:=r'.length;refine .inr ⟨⟨xs',xs'[i]'(by lia),SqL.of h',zAR (by lia)⟩,λ σ2 H2=>∃Y2 lab2,RR C.K C.G τ Y2 σ2 H2 lab2/\σ2[k]? =some (some (.ref a0))/\WS C.K C.G τ (lX k l fg f (l.drop (i+1)) Y2) De,λ σ2 H2 ⟨Y2,lab2,R2,f2,w2⟩=>⟨l.length-(i+1),by lia,Y2,lab2,R2,f2,rfl,hlt,w2⟩,λ x H2 hy=>?_⟩;obtain⟨e,y⟩:=hy;subst e;obtain⟨d,ed,rd⟩:=r'.get (y xs' (SqL.of h'));rw[zAR hlt]at ed;cases ed;have rx:Rp C.K (λ p=>(lab' p).1<=1) H2 x l[i]:=rd.imm (aGu him (zE0 hlt));cases eg:fg l[i] Y' with
     |ex c=>rw[eg]at w';exact zAH w'
     |st=>rw[eg]at w';exact zAH w'
     |ok Y1=>
      rw[eg]at w';have G:=g2 τ x l[i] σ' H2 Y' lab' (λ σ1 H1=>RR C.K C.G τ Y1 σ1 H2 lab'/\H1=H2) Y1 R' rx eg λ σ1 R1=>⟨R1,rfl⟩
      refine g4 _ _ _ _ _ (λ σ1 H1 z=>?_) (g3 _ _ _ _ G);obtain⟨⟨R1,e⟩,_,fr⟩:=z;subst e;refine b2 τ σ1 H1 Y1 lab' _ (.ref a0) R1 ((fr k hk).trans f') ?_;dsimp only at w';cases eb:f Y1 with
      |nx Y2=>rw[eb]at w';exact λ σ2 H3 lab2 R2 f2=>⟨Y2,lab2,R2,f2,w'⟩
      |ct Y2=>rw[eb]at w';exact λ σ2 H3 lab2 R2 f2=>⟨Y2,lab2,R2,f2,w'⟩
      |bk Y2=>rw[eb]at w';exact zAH w'
      |rt d=>rw[eb]at w';exact w'
      |ex c=>rw[eb]at w';exact w'
      |st=>rw[eb]at w';exact w'
    .rw[if_neg o]at w'
     exact zAH w'
   .have e:i=l.length:=by lia
    subst e;rw[zCk]at w';unfold lX at w';by_cases o:qb k l Y'=true
    .rw[if_pos o]at w'
     obtain⟨P,xs',h',r'⟩:=own o;exact .inl ⟨⟨xs',SqL.of h',by rw[r'.length];exact zAL _⟩,w' σ' H' lab' R'⟩
    .rw[if_neg o]at w'
     exact zAH w'
  .rw[if_neg him]at W
   exact zAH W
 .exact zAH W
end
def aBg(t:Tok)(a:Addr)(l:List Value)(n:Nat)(dd:Option Addr)(sl:Array (Option Value))(he:l.isEmpty=false):
  Meets (zDb.«tuple.__mul__» ⟨[.ref a,.int 0 t],[]⟩) (λ _ R s=>s.heap.get? a=some {cls:=.type "tuple",dict:=dd,data:=.seq l.toArray n,slots:=sl}/\
   R (.ok (.ret (zBH s.heap.objs.size))) {s with heap:=s.heap.push {cls:=zBz "tuple",data:=zGo #[]}}):=by
 have c0:¬(decide ((0:Int) < -2^63)||decide ((0:Int) ≥ 2^63))=true:=by decide
 have c1:¬(l.toArray.isEmpty||(0:Int)==1)=true:=by simp only[zDg,he];simp
 have c2:(decide ((0:Int)<=0)||l.toArray.isEmpty)=true:=by simp
 refine .of_wp λ P w A R s h=>?_
 obtain⟨_,_,_,_,_⟩:=s;obtain⟨hl,h⟩:=h;wp_walk
 try rw[if_neg c0]
 wp_walk
 try rw[if_neg c1]
 wp_walk
 try rw[if_pos c2]
 wp_walk;exact⟨_,rfl,h⟩
def aBf(t:Tok)(a:Addr)(l:List Value)(n:Nat)(dd:Option Addr)(sl:Array (Option Value)):
  Meets (zDb.«tuple.__mul__» ⟨[.ref a,.int 1 t],[]⟩) (λ _ R s=>s.heap.get? a=some {cls:=.type "tuple",dict:=dd,data:=.seq l.toArray n,slots:=sl}/\
   R (.ok (.ret (zBH a))) s):=by
 have c0:¬(decide ((1:Int) < -2^63)||decide ((1:Int) ≥ 2^63))=true:=by decide
 have c1:(l.toArray.isEmpty||(1:Int)==1)=true:=by simp
 refine .of_wp λ P w A R s h=>?_
 obtain⟨_,_,_,_,_⟩:=s;obtain⟨hl,h⟩:=h;wp_walk
 try rw[if_neg c0]
 wp_walk
 try rw[if_pos c1]
 wp_walk;exact⟨_,rfl,h⟩
def aGh(K:zAA):R2:=λ x y H Q=>aDI K x y H Q\/∃a xs,x= .ref a/\SqT K H a xs/\xs≠[]/\((y= .int 0/\New H (.tup []) Q)\/(y= .int 1/\Q (.ref a) H))
def aF2:OpR X (zBg .Mult) (aGh X.K):=by
 intro kQ s σ H x y v u Q I rx ry h;rcases h with h|⟨a,xs,rfl,ha,hne,h⟩
 .exact aBH kQ s σ H x y v u Q I rx ry h
 .cases rx
  obtain⟨its,r,p1,_⟩:=I.tuple ha;obtain⟨⟨cls,dd,data,sl⟩,ho,hc,n,hd⟩:=id p1;simp only at hc hd;subst hc hd;have he:its.isEmpty=false:=by
   cases its with
   |nil=>exact absurd (r.nil_iff.mp rfl) hne
   |cons _ _=>rfl
  rcases h with ⟨rfl,q⟩|⟨rfl,q⟩
  .obtain⟨t,rfl⟩:=ry
   refine zCW (T:="tuple") (U:="int") (by decide) ⟨_,ho,rfl⟩ (λ s'=>zCo s' 0 t) wF zDk zBq sG zD5.lookup
    (zBQ zBq (zCo s 0 t) zD4 (zDZ _ _) (sH 0 t a its.toArray n dd sl)
     ⟨ho,rfl,⟨_,ho,rfl⟩,zBQ zCr ⟨_,ho,rfl⟩ zE8 (zES _ _) (aBg t a its n dd sl he) ⟨ho,?_⟩⟩)
   refine⟨.ref s.heap.objs.size,_,I.laid (t':=s.toks) (o:=.tup []) (λ b ob q=>zAG _ q) (zAL _) ?_,rfl,q.at (I.hok.fresh (zAL _))⟩;exact⟨⟨by simp,NoD.push _⟩,_,.nil,zDx _ _⟩
  .obtain⟨t,rfl⟩:=ry
   refine zCW (T:="tuple") (U:="int") (by decide) ⟨_,ho,rfl⟩ (λ s'=>zCo s' 1 t) wF zDk zBq sG zD5.lookup
    (zBQ zBq (zCo s 1 t) zD4 (zDZ _ _) (sH 1 t a its.toArray n dd sl)
     ⟨ho,rfl,⟨_,ho,rfl⟩,zBQ zCr ⟨_,ho,rfl⟩ zE8 (zES _ _) (aBf t a its n dd sl) ⟨ho,?_⟩⟩)
   exact⟨.ref a,H,I,rfl,q⟩
def aAJ:D->D->Rs D
 | .tup l,.int k=>if k=0/\l.isEmpty=false then .ok (.tup [])else if k=1/\l.isEmpty=false then .ok (.tup l)else xF (.tup l) (.int k)
 |_,_=>.st
def aF0{K:zAA}:OpS K (aGh K) aAJ:=by
 intro A x y d e H Q z rx ry ez q;unfold aAJ at ez;split at ez
 .split at ez
  .rename_i hc
   obtain⟨rfl,c⟩:=hc;cases ez;cases ry;cases rx with
   |tup h r=>
    refine .inr ⟨_,_,rfl,h,λ e=>?_,.inl ⟨rfl,λ p H' s hp hn=>q _ H' s (.tup (SqT.of hp) .nil)⟩⟩;subst e;cases r;cases c
  .split at ez
   .rename_i hc
    obtain⟨rfl,c⟩:=hc;cases ez;cases ry;have rx':=rx;cases rx with
    |tup h r=>
     refine .inr ⟨_,_,rfl,h,λ e=>?_,.inr ⟨rfl,q _ H (aR.refl H) (rx'.wk λ _ _ _ z=>.inr z)⟩⟩;subst e;cases r;cases c
   .exact .inl (aBG _ _ _ _ _ _ _ _ rx ry ez q)
 .cases ez
section
variable{C:Ct}{pos:Pos}{a b:Expr}{fa fb:En->Rs D}{m1 m2:Mode}
def aFB(ha:SE C m1 a fa)(hb:SE C m2 b fb):SE C (jn m1 m2) (.BinOp a .Mult b pos) (op2 aAJ fa fb):=qZ (λ i=>by rw[<-C.hK i];exact aF2) aF0 ha hb
end
theorem intsAre_of:∀{vs:List Value} {ns:List Int},vs.length=ns.length->(∀(i:Nat) v,vs[i]? =some v->∃t,v= .int (ns.getD i 0) t)->zB6 vs ns
 |[],[],_,_=>.nil
 |[],_::_,h,_=>by cases h
 |_::_,[],h,_=>by cases h
 |v::vs,n::ns,h,hv=>by
  obtain⟨t,e⟩:=hv 0 v rfl;have e2:v= .int n t:=e;subst e2;exact .cons _ _ (intsAre_of (by simpa using h) λ i v e=>by
   obtain⟨t,e⟩:=hv (i+1) v (by simpa using e);exact⟨t,by simpa using e⟩)
end VL
namespace L2
open PySem PySem.Spec PyProof.Rows
end L2
namespace VL
open PySem PySem.Spec PyProof.Rows L2
structure aKH(ks:List D):Prop where
 nd:au ks=true
 dp:bU ks<=40
 cm:∀x∈ks,∀y∈ks,(lsD x y).isSome=true
instance:Decidable (aKH ks):=if h:au ks=true/\bU ks<=40/\∀x∈ks,∀y∈ks,(lsD x y).isSome=true then .isTrue ⟨h.1,h.2.1,h.2.2⟩else .isFalse λ z=>h ⟨z.nd,z.dp,z.cm⟩
def xN(K:zAA)(x:Str)(Pt:Addr):Bool:=match zA9 K zA1 x with
 |some (some (.ref f))=>(match K.lookup f with
  |some ⟨_,_,.func fd,_⟩=>(match fd.code with| .ref c=>zDS K c Pt|_=>false)
  |_=>false)&&(K.lookup Pt).isNone
 |_=>false
def aCG{K:zAA}{h:Heap}{mg:Str->Option Value}{fa Pt:Addr}{x:Str}(X:K.In h)(G:h.Ns zA1 mg)(hm:mg x=some (.ref fa))(e:xN K x Pt=true)
  {o:Obj}{fd:zAh}(lk:K.lookup fa=some o)(hd:o.data= .func fd):K.lookup Pt=none/\∃c,fd.code= .ref c/\zDS K c Pt=true:=by
 unfold xN at e;split at e
 .rename_i f hf
  have e1:=(zA8 X G hf).symm.trans hm;cases e1;rw[zAK]at e;refine⟨by simpa using e.2,?_⟩;have e2:=e.1;rw[lk]at e2;split at e2
  .rename_i fd' _ q
   have q2:=zAg q;rw[q2]at hd;have hd2:Data.func fd'=Data.func fd:=hd;cases hd2;split at e2
   .rename_i c hc
    exact⟨c,hc,e2⟩
   .cases e2
  .cases e2
 .cases e
def aFi{P:zAP}{w:World}{K:zAA}{h:Heap}{mg:Str->Option Value}{fa Pt:Addr}{fd:zAh}{k n:Nat}{x:Str}{N:List Str}{st:Stmt}{f:En->Ou}{F:List D->Rs D}(X:K.In h)(G:h.Ns zA1 mg)
  (hB:xN K "law" Pt=true){ps:List Str}(e:Dnr K mg "law" st ps fa fd)(S:bA N [x] (aH st))
  (hbind:∀(kV doc pm:Value) (an:Option Addr) (cdv ct:Value) (s:zAB) (u:Value),zGI s (zBU "law" "law" (jy st) (cI st) (aH st) .none kV doc pm an cdv ct) ⟨[u],[]⟩ [(x,u)])
  (body:∀(base:Heap) (c:Addr) (s:zAB) (H:Hp) (hr:dq k (zCH.deeper (zCV "law" (aH st) s.heap.objs.size fa (.ref c)))),qt (cxW P w K mg base N "law" (aH st) fa (.ref c) zCH s H Pt) Pt->zFK N->
   SSs (ctW P w K mg base N "law" (aH st) fa (.ref c) zCH s H Pt k hr) (cI st) f)
  (hF:F=fu N.length f)(tru:∀ns:List Int,ns.length<=n->F [.scr ns]= .ok (.bl true)):aBc P w K mg fa Pt k n:=by
 obtain⟨oc,od,kV,doc,pm,an,cdv,ct,osl,e1,lk,hcd⟩:=e.F.ex;obtain⟨h1,c,h2,h3⟩:=aCG X G e.m hB lk rfl;subst e1;obtain rfl:cdv= .ref c:=h2;exact⟨x,"law","law",_,_,_,_,kV,doc,pm,ct,oc,an,od,c,osl,N,h1,h3,lk,hcd,S,λ s u=>hbind kV doc pm an _ ct s u,λ a ns hl base s H hr Lx hO hS=>
  aDo (body base c s H hr Lx S.nd) (by rw[<-hF];exact tru ns hl) (.cons (.scr (aHT hO hS)) .nil)⟩
structure aKI(f:D->D->Option Bool)(l:List D):Prop where
 im:cF l=true
 nd:au l=true
 dp:bU l<=40
 cm:∀x∈l,∀y∈l,(f x y).isSome=true
instance:Decidable (aKI f l):=if h:cF l=true/\au l=true/\bU l<=40/\∀x∈l,∀y∈l,(f x y).isSome=true then .isTrue ⟨h.1,h.2.1,h.2.2.1,h.2.2.2⟩else .isFalse λ z=>h ⟨z.im,z.nd,z.dp,z.cm⟩
def adJ:D->D->Rs D
 | .lst l,.lst k=>if l.length+k.length<=zAN/\cF l=true/\cF k=true then .ok (.lst (l++k))else .st
 |_,_=>.st
section
variable{C:Ct}{m1 m2:Mode}{a b:Expr}{fa fb:En->Rs D}{pos:Pos}
def nP(ha:SE C m1 a fa)(hb:SE C m2 b fb):SE C (some []) (.BinOp a .Add b pos) (op2 adJ fa fb):=by
 obtain⟨t,h1,h2⟩:=ha;obtain⟨u,k1,k2⟩:=hb;refine⟨_,λ i=>aBE (C.aIc i) (h1 i) (k1 i),?_⟩;intro τ σ H Y lab Q R W;refine h2 τ σ H Y lab _ R (W.bd.imp λ d _ w x H1 s1 r1=>k2 τ σ H1 Y lab _ (R.up s1) (w.bd.imp λ e _ w y H2 s2 r2=>?_));obtain⟨z,ez,w⟩:=w.okD;unfold adJ at ez;split at ez
 .split at ez
  .rename_i hl
   cases ez;obtain⟨_,_,rfl,g1,m1,q1⟩:=(r1.up s2).lst_inv;obtain⟨_,_,rfl,g2,m2,q2⟩:=r2.lst_inv;refine .inr (.inl ⟨_,_,_,_,rfl,rfl,g1,g2,by rw[q1.length,q2.length];exact hl.1,λ p H' s hp hn=>w _ H' ((s1.trans s2).trans s) (.lst hp (.inl ((s1.trans s2).free hn)) ?_)⟩);exact((q1.imm hl.2.1).append (q2.imm hl.2.2)).up s
  .cases ez
 .cases ez
end
def aBw:zEK (.type "tuple") (dunderI "add")=pure none:=by rw[typeLookup_type,builtinLookup_eq_fast];kernel_rfl
def aFt{X:Cx}:PIp X .Add (yX X.K):=by
 intro kQ s σ H x y v u Q I rx ry h;obtain⟨a,b,xs,ys,rfl,rfl,ha,hb,hz,q0,q1,q2⟩:=h;cases rx;cases ry;obtain⟨its,r1,p1,_⟩:=I.tuple ha;obtain⟨its2,r2,p2,_⟩:=I.tuple hb;obtain⟨⟨cls,dd,data,sl⟩,ho,hc,n,hd⟩:=id p1;obtain⟨⟨cls2,dd2,data2,sl2⟩,ho2,hc2,n2,hd2⟩:=id p2;simp only at hc hd hc2 hd2;subst hc hd hc2 hd2;refine wpAny_inplaceOp_concat ⟨_,ho,rfl⟩ ⟨_,ho2,rfl⟩ aBw zDh zEj ?_;by_cases hx:xs=[]
 .subst hx
  cases r1;exact zBQ zBa ⟨_,ho,rfl⟩ zB3 (zBY _ _) (tuple_addW0 a b #[] its2.toArray n n2 dd dd2 sl sl2 (by simp)) ⟨ho,ho2,⟨.ref b,H,I,rfl,q0 rfl⟩⟩
 .have hv:its≠[]:=λ z=>hx (r1.nil_iff.mp z)
  by_cases hw:its2=[]
  .exact zBQ zBa ⟨_,ho,rfl⟩ zB3 (zBY _ _) (tuple_addW1 a b its.toArray its2.toArray n n2 dd dd2 sl sl2 (by simpa using hv) (by simp[hw])) ⟨ho,ho2,⟨.ref a,H,I,rfl,q1 (r2.nil_iff.mp hw)⟩⟩
  .refine zBQ zBa ⟨_,ho,rfl⟩ zB3 (zBY _ _) (tuple_addW2 a b its.toArray its2.toArray n n2 dd dd2 sl sl2 (by simpa using hv) (by simpa using hw) (by rw[zAJ,zAJ,<-r1.length,<-r2.length];exact hz)) ⟨ho,ho2,?_⟩
   have e:its.toArray++its2.toArray=(its++its2).toArray:=by simp
   rw[e];refine⟨.ref s.heap.objs.size,_,I.laid (t':=s.toks) (o:=.tup (xs++ys)) (λ b ob q=>zAG _ q) (zAL _) ?_,rfl,q2.at (I.hok.fresh (zAL _))⟩;exact⟨⟨by rw[zAC];exact hz,NoD.push _⟩,_,r1.append r2,zDx _ _⟩
def adT:D->D->Rs D
 | .tup a,.tup b=>if a.length+b.length<=zAN/\cF a=true/\cF b=true then .ok (.tup (a++b))else .st
 |_,_=>.st
section
variable{C:Ct}{i:Nat}{x:Str}{m:Mode}{e:Expr}{fe:En->Rs D}{pos pos':Pos}
def aAn(he:SE C m e fe)(hN:∀j,(C.X j).N[i]? =some x:=by intro _;rfl)(hx:∀j,Loc (C.X j).env.scope x:=by intro _;first|exact zBj rfl|exact zBG rfl)(hf:∀j,(C.X j).fn x=true\/(C.X j).env.scope.names.lookup x=some .local:=by intro _;first|exact .inl rfl|exact .inr rfl)(nd:∀j,(C.X j).N.Nodup:=by intro _;assumption):SS C (.AugAssign (.Name x pos') .Add e pos) (rD adT i fe):=by
 obtain⟨t,h1,h2⟩:=he;refine⟨_,λ j=>aDS (nd j) (hN j) (hx j) (h1 j) (ti:=yX C.K) (op:=.Add) (by rw[<-C.hK j];exact aFt) (hf j),λ τ σ H Y lab De R W=>?_⟩;have w0:=(WS.bo W).bd;refine wN C.K C.G i τ σ H Y lab (λ v H'=>t σ H' λ y H1=>yX C.K v y H1 λ z H2=>De.nx (σ.set i (some z)) H2) R (w0.imp λ d _ w v H' s r=>h2 τ σ H' Y lab _ (R.up s) (w.bd.imp λ e _ w y H1 s1 r1=>?_));obtain⟨z,ez,w⟩:=w.okD;unfold adT at ez;split at ez
 .split at ez
  .rename_i hl
   cases ez;obtain⟨a1,xs,rfl,g1,q1⟩:=(r.up s1).tup_inv;obtain⟨a2,ys,rfl,g2,q2⟩:=r1.tup_inv;have R1:=(R.up s).up s1;refine⟨a1,a2,xs,ys,rfl,rfl,g1,g2,by rw[q1.length,q2.length];exact hl.1,λ ex=>?_,λ ey=>?_,λ p H' s3 hp hn=>?_⟩
   .subst ex
    cases q1;exact w _ _ _ (R1.put (s:=.sh _) (.tup g2 (q2.imm hl.2.2)))
   .subst ey
    cases q2;rw[zAb]at w;exact w _ _ _ (R1.put (s:=.sh _) (.tup g1 (q1.imm hl.2.1)))
   .exact w _ _ _ ((R1.up s3).put (s:=.sh _) (.tup (.inl (.inl hp)) (((q1.imm hl.2.1).append (q2.imm hl.2.2)).up s3)))
  .cases ez
 .cases ez
end
def xm{prog:zAP}{w:World}{A:zA7}{E:Value->zAB->Prop}{s:zAB}{l b sl:Addr}{items new:Array Value}{n n2:Nat}{vl vu:Value}{lo hi:Option Int}{Q:Unit->zAB->Prop}
  (ho:s.heap.get? l=some {cls:=.type "list",data:=.seq items n})(hb:s.heap.get? b=some {cls:=.type "list",data:=.seq new n2})(hne:(l==b)=false)(hs:s.heap.IsSliceOf sl vl vu .none)(pl:zEO vl lo)(pu:zEO vu hi)(hsz:items.size+new.size<=zAN)
  (h:Q () {s with heap:=s.heap.update l (zCC λ xs=>xs.extract 0 (zBe lo hi none items.size).1.toNat++new++xs.extract (max (zBe lo hi none items.size).1 (zBe lo hi none items.size).2.1).toNat xs.size)}):
  wpAny (model prog w) A (setItem (.ref l) (.ref sl) (.ref b)) Q E s:=by
 have hl:s.heap.IsList l items:=zFp (n:=n) ho;have hlb:s.heap.IsList b new:=zFp (n:=n2) hb;obtain⟨os,hos,hcs,hds⟩:=id hs;have hTs:s.TypeIs (.ref sl) "slice":=⟨os,hos,hcs⟩;unfold setItem
 try with_reducible refine zCQ ?_
 first|refine zAI (zA6 ?_)|skip
 refine zAI (zFE hl.typeIs (by decide) ?_);refine zAI (zCc (name:=zE6 "__setitem__") hl.typeIs zHM
  (zDD zHM hl.typeIs entry_list_setitem ?_ (args_list_setitem _ _ _)))
 show wpAny _ _ (zDq (.ref sl)>>=_) _ _ s;refine zAI ?_;unfold zDq;refine zAI (wpAny_specialOf hTs slice_no_index ?_);simp only[Option.isNone_none,if_true];refine zA6 ?_;show wpAny _ _ (typeOf (.ref sl)>>=_) _ _ s;refine zAI (zDY hTs ?_);rw[if_neg (by decide)];rw[listSliceParts_eq];have hstep:¬((rawPart none==rawInt 0)=true):=zAT;refine zAI (zAI (zDP hos hds (x:=zBZ) rfl (zAI (zGB (k:=none) .none ?_))));rw[if_neg hstep];refine zAI (zDP hos hds (x:=vl) rfl (zAI (zGB pl ?_)));refine zAI (zDP hos hds (x:=vu) rfl (zAI (zGB pu (zA6 ?_))));have hsr:Builtin.List.listSameRef (.ref l) (.ref b)=false:=hne;rw[hsr,if_neg zAT];refine zAI (m:=zEF (.ref b) _) ?_;unfold zEF;refine zAI (zDY hlb.typeIs ?_);rw[if_pos (by decide)];unfold Builtin.List.listItems;refine zAI (wpAny_seqItems hb rfl (zA6 ?_));refine zAI (m:=Bind.bind _ _) (zAI (wpAny_seqItems ho rfl (zA6 ?_)));refine zAI (wpAny_of_eq (sliceIndices_raw lo hi none items.size (by simp)) ?_);obtain⟨_,_,h3⟩:=jd lo hi items.size;have hx:items.size-(max (zBe lo hi none items.size).1 (zBe lo hi none items.size).2.1).toNat+(min (zBe lo hi none items.size).1.toNat items.size)<=items.size:=by lia
 rw[if_pos (by rw[h3];rfl)];refine zAI (wpAny_rule ?_);rw[if_neg (by rw[tR hsz];exact zAT)];refine zAI (m:=zCv (.ref l) _) ?_;unfold zCv;refine wpAny_updateSeq ho rfl (zAI (wpAny_letGo ?_)) (by lia) ?_
 .first
  |exact zAI (zA6 (zA6 ⟨.none,rfl,zA6 h⟩))
  |exact zA6 ⟨.none,rfl,zA6 h⟩
 .rw[zGH,zGH,zGC,zGC]
  lia
def aJv:V->V->Option Int->Option Int->Hp->(Hp->Prop)->Prop:=λ o v lo hi H Q=>∃p b xs ys,o= .ref p/\v= .ref b/\H p=some (.lst xs)/\H b=some (.lst ys)/\p≠b/\xs.length+ys.length<=zAN/\
 Q (upd H p (.lst (xs.take (HT.sIx xs.length 0 lo)++ys++xs.drop (max (HT.sIx xs.length 0 lo) (HT.sIx xs.length xs.length hi)))))
section
variable{X:Cx}{o lo hi:Option Expr}{e:Expr}{to:TE}{tl th:TO}{p2 tpos:Pos}
def aJ3(to:TE)(tl th:TO):TG:=λ v σ H Q=>to σ H λ x H1=>tl σ H1 λ l H2=>th σ H2 λ u H3=>aJv x v l u H3 λ H4=>Q σ H4
def aDX{o:Expr}{lo hi:Option Expr}(ho:PE X o to)(hl:PO X lo tl)(hu:PO X hi th)
  (ha:∀v,zFJ (.Subscript o (.Slice lo hi none p2) tpos) X.env v=(do
   let ov <-zDL [v] (eval o X.env);let iv <-zDL [v,ov] (eval (.Slice lo hi none p2) X.env)
   zGS tpos
   zDL [v,ov,iv] (setItem ov iv v)
   release [iv,v,ov] []):=by intro _;rfl):PG X (.Subscript o (.Slice lo hi none p2) tpos) (aJ3 to tl th):=by
 intro kQ s σ H v u Q I r h;rw[ha];refine zAI (zCQ (thn (ho kQ s σ H _ I h) λ ov s1 ⟨x,H1,I1,r1,q1⟩=>?_));refine zAI (zCQ (wpAny_Slice (thn (hl kQ s1 σ H1 _ I1 q1) λ vl s2 ⟨l,H2,I2,pl,q2⟩=>thn (hu kQ s2 σ H2 _ I2 q2) λ vu s3 ⟨w,H3,I3,pu,q3⟩=>?_)));rw[zGQ];refine zA6 ?_;have I4:Inv X kQ σ H3 {s3 with heap:=s3.heap.push {cls:=.type "slice",data:=.fields #[vl,vu,.none]}}:=I3.kept (t':=s3.toks) λ b ob q=>zAG _ q
 obtain⟨p,b,xs,ys,e1,e2,g1,g2,hne,hz,q⟩:=q3;subst e1 e2;cases r1;cases r;obtain⟨its,n,rv,h1,_⟩:=I4.lst g1;obtain⟨its2,n2,rv2,h2,_⟩:=I4.lst g2;have l1:=rv.length;have l2:=rv2.length;refine zAI (wpAny_standAt (zAI (zCQ (xm h1 h2 (by simpa using hne) (zE9 ..) pl pu (by rw[zAJ,zAJ];lia) ?_))));obtain⟨b1,b2,b3⟩:=jd l w its.toArray.size;have e:∀a m:Nat,its.toArray.extract 0 a++its2.toArray++its.toArray.extract m its.toArray.size=(its.take a++its2++its.drop m).toArray:=λ a m=>by
  apply Array.ext';simp[zDi,Array.toList_extract,List.extract_eq_take_drop,zAz]
 rw[zAJ]at b1 b2;refine wpAny_release ⟨σ,_,I4.lstUpd (its':=its.take (HT.sIx its.length 0 l)++its2++its.drop (max (HT.sIx its.length 0 l) (HT.sIx its.length its.length w))) (n':=if ((its.take (HT.sIx its.length 0 l)++its2++its.drop (max (HT.sIx its.length 0 l) (HT.sIx its.length its.length w))).toArray.size==its.toArray.size)=true then n else n+1) g1 h1 ?_ ?_ ?_ s3.toks,q⟩
 rotate_left
 .rw[<-l1]
  exact((rv.take _).append rv2).append (rv.drop _)
 .rw[zAC,zAC,zB2,zBx]
  lia
 .rw[zAJ,b1,b2]
  have m1:((HT.sIx its.length 0 l:Nat):Int).toNat=HT.sIx its.length 0 l:=zDU _;have m2:(max ((HT.sIx its.length 0 l:Nat):Int) ((HT.sIx its.length its.length w:Nat):Int)).toNat=max (HT.sIx its.length 0 l) (HT.sIx its.length its.length w):=by lia
  rw[m1,m2];simp only[zCC,e];rfl
end
def aEv(i:Nat)(fe:En->Rs D)(fl fh:En->Rs (Option Int)):En->Ou:=λ Y=>match Y[i]? with
 |some (.ow (.lst ds))=>(fe Y).bo λ d=>(fl Y).bo λ l=>(fh Y).bo λ h=>match d with
  | .lst es=>if ds.length+es.length<=zAN/\cF es=true then .nx (Y.set i (.ow (.lst (ds.take (HT.sIx ds.length 0 l)++es++ds.drop (max (HT.sIx ds.length 0 l) (HT.sIx ds.length ds.length h))))))else .st
  |_=>.st
 |_=>.st
section
variable{C:Ct}{pos tpos p p2:Pos}{e:Expr}{lo hi:Option Expr}{fe:En->Rs D}{fl fh:En->Rs (Option Int)}{x:Str}
def aHN(i:Nat)(he:SE C (some []) e fe)(hl:SO C lo fl)(hh:SO C hi fh)(hN:∀j,(C.X j).N[i]? =some x:=by intro _;rfl)(hv:∀j,Vis (C.X j).env.scope x:=by intro _;first|exact zBj rfl|exact zBG (zBj rfl)|exact zBG (zBG rfl))(hd:Nd x:=by decide)
  (hcd:(x==("__classdict__":Str))=false:=by decide)(ha:∀j v,zFJ (.Subscript (.Name x p) (.Slice lo hi none p2) tpos) (C.X j).env v=(do
   let ov <-zDL [v] (eval (.Name x p) (C.X j).env);let iv <-zDL [v,ov] (eval (.Slice lo hi none p2) (C.X j).env)
   zGS tpos
   zDL [v,ov,iv] (setItem ov iv v)
   release [iv,v,ov] []):=by intro _ _;rfl)(hs:∀j,zEl [.Subscript (.Name x p) (.Slice lo hi none p2) tpos] e pos.line (C.X j).env=pure false:=by intro _;rfl)(hw:∀j,zEk [.Subscript (.Name x p) (.Slice lo hi none p2) tpos] e (C.X j).env=pure none:=by intro _;rfl)
  (h1:∀j,(zBt [.Subscript (.Name x p) (.Slice lo hi none p2) tpos] (C.X j).env).map (·.2)=[zFJ (.Subscript (.Name x p) (.Slice lo hi none p2) tpos) (C.X j).env]:=by intro _;rfl):
  SS C (.Assign [.Subscript (.Name x p) (.Slice lo hi none p2) tpos] e pos) (aEv i fe fl fh):=by
 obtain⟨te,e1,e2⟩:=he;obtain⟨tl,l1,l2⟩:=hl;obtain⟨th,k1,k2⟩:=hh;refine⟨yF te (aJ3 (jN i) tl th),λ j=>aAB (e1 j) (aDX (dX (hN j) (hv j) hd hcd) (l1 j) (k1 j) (ha j)) (hs j) (hw j) (h1 j),λ τ σ H Y lab De R W=>?_⟩;unfold aEv at W;cases es:Y[i]? with
 |none=>rw[es]at W;exact zAH W
 |some s=>
  rw[es]at W;split at W
  .rename_i ds hs
   cases hs;rcases R.sl i _ es with z|⟨v,ev,hv'⟩
   .cases z
   .obtain⟨hv1,htop⟩:=hv'
    obtain⟨a0,ea0,la0⟩:=htop rfl;subst ea0;cases hv1 with
    |lst h mm r=>
     rename_i xs;refine e2 τ σ H Y lab _ R (W.bo.imp λ d _ w y H2 s2 r2=>⟨.ref a0,ev,?_⟩);refine l2 τ σ H2 Y lab _ (R.up s2) (w.bo.imp λ ol _ w H3 s3=>?_);refine k2 τ σ H3 Y lab _ ((R.up s2).up s3) (w.bo.imp λ oh _ w H4 s4=>?_);split at w
     .rename_i es
      split at w
      .rename_i hz
       have sA:=s2.trans (s3.trans s4);obtain⟨b,ys,eb,hb,mb,rb⟩:=(r2.up (s3.trans s4)).lst_inv;subst eb;have h3:H4 a0=some (.lst xs):=sA _ _ h;have hbn:H b=none:=by
        rcases mb with z|z
        .exact z
        .cases z
       have hne:a0≠b:=λ z=>by rw[z,hbn]at h;cases h
       refine⟨a0,b,xs,ys,rfl,rfl,h3,hb,hne,by rw[r.length,rb.length];exact hz.1,?_⟩;rw[r.length];have B:jZ a0 H4 (upd H4 a0 (.lst (xs.take (HT.sIx ds.length 0 ol)++ys++xs.drop (max (HT.sIx ds.length 0 ol) (HT.sIx ds.length ds.length oh))))):=λ b' o ne hb=>by rw[aU ne];exact hb
       have rA:=r.up sA;have rN:=(((rA.take (HT.sIx ds.length 0 ol)).append (rb.imm hz.2)).append (rA.drop (max (HT.sIx ds.length 0 ol) (HT.sIx ds.length ds.length oh))));exact w σ _ _ ((R.up sA).mut ev h3 rfl la0 B ⟨.lst ak (.inr la0) (rN.but B h3 rfl λ z=>z.2 rfl),λ _=>⟨a0,rfl,la0⟩⟩)
      .exact zAH w
     .exact zAH w
  .exact zAH W
end
def ym:List D->Rs D
 |[.lst l]=>if cF l=true then .ok (.lst l)else .st
 |[.tup l]=>if cF l=true then .ok (.lst l)else .st
 |_=>.st
def aE3{K:zAA}:aEg K (λ xs H Q=>∃p ys,xs=[.ref p]/\(SqL K H p ys\/SqT K H p ys)/\∀l,H l=none->Q (.ref l) (upd H l (.lst ys))) ym:=by
 intro A xs ds H Q z r ez q;unfold ym at ez;split at ez
 .split at ez
  .rename_i hi
   cases ez;obtain⟨v,rfl,h⟩:=r.one_inv;obtain⟨p,ys,rfl,g,_,rr⟩:=h.lst_inv;exact⟨p,ys,rfl,.inl (SqL.of g),λ l hl=>q _ _ (bT hl _) (.lst ak hl ((rr.imm hi).up (bT hl _)))⟩
  .cases ez
 .split at ez
  .rename_i hi
   cases ez;obtain⟨v,rfl,h⟩:=r.one_inv;obtain⟨p,ys,rfl,g,rr⟩:=h.tup_inv;exact⟨p,ys,rfl,.inr g,λ l hl=>q _ _ (bT hl _) (.lst ak hl ((rr.imm hi).up (bT hl _)))⟩
  .cases ez
 .cases ez
section
variable{C:Ct}{m:Mode}{a:Expr}{ga:En->Rs (List D)}{p pos:Pos}
def aCr(hm:C.mg "list"=none)(ha:SA C m [a] ga)(he:∀i,zA2 [a] (C.X i).env=[(false,eval a (C.X i).env)]:=by intro _;rfl)(hg:∀i,Gl (C.X i) "list":=by intro _;rfl)(hv:zAn "list"=some (.type "list"):=by decide+kernel):SE C (some []) (.Call (.Name "list" p) [a] [] pos) (opA ym ga):=by
 obtain⟨t,h1,h2⟩:=ha;exact⟨_,λ i=>mR (by have h:=xY (X:=C.X i);rw[C.hK i]at h;exact h) (hg i) (by rw[(C.cx i).2.2.2.1];exact hm) hv (h1 i) (by decide) (by decide) (he i) rfl,aAo aE3 h2⟩
end
section
variable{Y:En}{i:Nat}{f g:En->Rs D}{fb gb:En->Rs Bool}{ga:En->Rs (List D)}{u v:En->Ou}{d:D}
@[simp] def varD_ap:iu i Y=match Y[i]? with
 |some (.sh d)=>.ok d
 |some (.nw d)=>.ok d
 |some (.ow d)=>.ok d
 |some (.oz d)=>.ok d
 |some (.o2 l)=>.ok (.lst (l.map .lst))
 |_=>.st:=aM rfl
@[simp] def aAc:aD i Y=match Y[i]? with
 |some (.sh d)=>.ok d
 |some (.nw d)=>.ok d
 |_=>.st:=aM rfl
@[simp] def varN_ap:dz i Y=match Y[i]? with
 |some (.nw d)=>.ok d
 |_=>.st:=aM rfl
@[simp] def varO_ap:zZ i Y=match Y[i]? with
 |some (.ow d)=>.ok d
 |some (.o2 l)=>.ok (.lst (l.map .lst))
 |_=>.st:=aM rfl
@[simp] def aHA:cD d Y= .ok d:=aM rfl
@[simp] def cP:aG Y= .ok []:=aM rfl
@[simp] def aj:aA f ga Y=(f Y).bd λ d=>(ga Y).bd λ ds=>.ok (d::ds):=aM rfl
@[simp] def szl:zAN=16777216:=zCL
@[simp] def aAf:bC ga Y=(ga Y).bd λ ds=>if ds.length<=16777216 then .ok (.tup ds)else .st:=by unfold bC;rw[szl]
@[simp] def aBM:cM ga Y=(ga Y).bd λ ds=>if ds.length<=16777216 then .ok (.lst ds)else .st:=by unfold cM;rw[szl]
@[simp] def aD6:okD (.ok d)= .ok d:=aM rfl
@[simp] def fO:op2 fd f g Y=(f Y).bd λ x=>(g Y).bd λ y=>okD (fd x y):=aM rfl
@[simp] def op1_ap:op1 fd f Y=(f Y).bd λ x=>okD (fd x):=aM rfl
@[simp] def gY:opA fd ga Y=(ga Y).bd λ x=>okD (fd x):=aM rfl
@[simp] def jX:aW F ga Y=(ga Y).bd F:=aM rfl
def aIa(d:D)(r:Rs D):Rs D:=match d with
 | .bl true=>r
 | .bl false=>.ok (.bl false)
 |_=>.st
def orR(d:D)(r:Rs D):Rs D:=match d with
 | .bl false=>r
 | .bl true=>.ok (.bl true)
 |_=>.st
@[simp] def andR_bl:aIa (.bl b) r=if b=true then r else .ok (.bl false):=by cases b<;>rfl
@[simp] def orR_bl:orR (.bl b) r=if b=true then .ok (.bl true)else r:=by cases b<;>rfl
@[simp] def aGX:aGY f g Y=(f Y).bd λ d=>aIa d (g Y):=aM rfl
@[simp] def orD_ap:orD f g Y=(f Y).bd λ d=>orR d (g Y):=aM rfl
@[simp] def ifD_ap:ifD fb f g Y=(fb Y).bd λ k=>if k=true then f Y else g Y:=aM rfl
@[simp] def truD_bl:aEn (.bl b)= .ok b:=aM rfl
@[simp] def truD_lst:aEn (.lst l)= .ok (!l.isEmpty):=aM rfl
@[simp] def blD_bl:blD (.bl b)= .ok b:=aM rfl
@[simp] def tst_ap:tst f Y=(f Y).bd aEn:=aM rfl
@[simp] def wC:tsb f Y=(f Y).bd blD:=aM rfl
@[simp] def andT_ap:aGW fb gb Y=(fb Y).bd λ k=>if k=true then gb Y else .ok false:=aM rfl
@[simp] def orT_ap:orT fb gb Y=(fb Y).bd λ k=>if k=true then .ok true else gb Y:=aM rfl
@[simp] def notT_ap:aF9 fb Y=(fb Y).bd λ k=>.ok (!k):=aM rfl
@[simp] def aO:aa u v Y=(u Y).sq v:=aM rfl
@[simp] def mL:retS f Y=(f Y).bo .rt:=aM rfl
@[simp] def dropS_ap:aE1 f Y=(f Y).bo λ _=>.nx Y:=aM rfl
@[simp] def fX:ifS fb u v Y=(fb Y).bo λ k=>if k=true then u Y else v Y:=aM rfl
@[simp] def jf:bz i f Y=(f Y).bo λ d=>.nx (Y.set i (.sh d)):=aM rfl
@[simp] def aAr:jg i f Y=(f Y).bo λ d=>.nx (Y.set i (.nw d)):=aM rfl
@[simp] def aFA:uq i f Y=(f Y).bo λ d=>.nx (Y.set i (.ow d)):=aM rfl
def aIl(Y:En)(i:Nat):D->Ou
 | .lst ds=>.nx (Y.set i (.oz (.lst ds)))
 |_=>.st
@[simp] def zSet_l(Y:En)(i:Nat)(ds:List D):aIl Y i (.lst ds)= .nx (Y.set i (.oz (.lst ds))):=aM rfl
@[simp] def setZ_ap:aCp i f Y=(f Y).bo (aIl Y i):=by
 unfold aCp;congr 1
@[simp] def lV:gnm i d Y= .ok (Y.set i (.sh d)):=aM rfl
@[simp] def gnil_nil:iw [] Y= .ok Y:=aM rfl
@[simp] def gcons_cons:bJ a b (d::ds) Y=(a d Y).bd (b ds):=aM rfl
@[simp] def gtup_tup:iU n b (.tup ds) Y=if ds.length=n then b ds Y else .st:=aM rfl
def nxO(r:Rs En):Ou:=match r with
 | .ok Y=>.nx Y
 |_=>.st
@[simp] def nxO_ok:nxO (.ok Y)= .nx Y:=aM rfl
@[simp] def asgS_ap:ue f a Y=(f Y).bo λ d=>nxO (a d Y):=aM rfl
@[simp] def itD_tup:itD (.tup l)= .ok l:=aM rfl
@[simp] def itD_lst:itD (.lst l)= .ok l:=aM rfl
@[simp] def aFr:gm f Y=(f Y).bd itD:=aM rfl
@[simp] def pL:ju ga a u Y=(ga Y).bo λ ds=>forL a u ds Y:=aM rfl
@[simp] def forL_nil:forL a u [] Y= .nx Y:=aM rfl
noncomputable def Ou.tn(o:Ou)(k:En->Ou):Ou:=match o with
 | .nx Y2=>k Y2
 | .ct Y2=>k Y2
 | .bk Y2=>.nx Y2
 |o=>o
@[simp] def yD:(Ou.nx Y).tn k=k Y:=aM rfl
@[simp] def tn_rt:(Ou.rt d).tn k= .rt d:=aM rfl
def okE(r:Rs En)(k:En->Ou):Ou:=match r with
 | .ok Y=>k Y
 |_=>.st
@[simp] def iQ:okE (.ok Y) k=k Y:=aM rfl
def gw:forL a u (d::ds) Y=okE (a d Y) λ Y1=>(u Y1).tn (forL a u ds):=by
 unfold forL;cases a d Y with
 |ok Y1=>simp only[iQ];cases u Y1<;>rfl
 |ex c=>rfl
 |st=>rfl
@[simp] def oNone_ap:fB Y= .ok none:=aM rfl
@[simp] def oSome_ap:cZ f Y=(f Y).bd λ d=>match d with
 | .int i=>.ok (some i)
 |_=>.st:=aM rfl
@[simp] def sliceD_ap:bw f a b Y=(f Y).bd λ d=>(a Y).bd λ l=>(b Y).bd λ h=>okD (slD d l h):=aM rfl
@[simp] def slD_lst:slD (.lst l) a b= .ok (.lst (cutD l a b)):=aM rfl
@[simp] def aGA:bV f Y=(f Y).bd qM:=aM rfl
@[simp] def rngA_ap:km r ga Y=(ga Y).bd r:=aM rfl
@[simp] def raiseS_ap:wZ x ga Y=(ga Y).bo λ ds=>if ds.length<=16777216 then .ex x else .st:=by unfold wZ;rw[szl]
@[simp] def yesT_ap:gh Y= .ok true:=aM rfl
end
section
variable{d e:D}{i j:Int}{l m:List D}
def rY(h:imm d=true):qM d= .ok d:=by unfold qM;rw[if_pos h]
@[simp] def gImm_int:qM (.int i)= .ok (.int i):=aM rfl
@[simp] def addD_int:bL (.int i) (.int j)= .ok (.int (i+j)):=aM rfl
@[simp] def addD_lst:bL (.lst l) (.lst m)=if l.length+m.length<=16777216 then .ok (.lst (l++m))else .st:=by unfold bL;rw[szl]
@[simp] def zR:bL (.tup l) (.tup m)=if l.length+m.length<=16777216 then .ok (.tup (l++m))else .st:=by unfold bL;rw[szl]
@[simp] def aCd:aBh (.int i) (.int j)= .ok (.int (i-j)):=aM rfl
def v8(h0:0<j)(h1:j<1073741824):qj (.int i) (.int j)= .ok (.int (i / j)):=by unfold qj i2;dsimp only;rw[if_pos (by simp[h0,h1])]
def lM(h0:0<j):qI (.int i) (.int j)= .ok (.int (i%j)):=by unfold qI i2;dsimp only;rw[if_pos (by simp[h0])]
def xG(h0: -(2^64)<i)(h1:i<2^64):gA (.int i) (.int j)= .ok (.int (i*j)):=by unfold gA;dsimp only;rw[if_pos (by simp only[zCu,zAK,decide_eq_true_eq];exact .inl ⟨h0,h1⟩)]
def aDc(h0: -(2^64)<j)(h1:j<2^64):gA (.int i) (.int j)= .ok (.int (i*j)):=by unfold gA;dsimp only;rw[if_pos (by simp only[zCu,zAK,decide_eq_true_eq];exact .inr ⟨h0,h1⟩)]
@[simp] def ltD_int:ltD (.int i) (.int j)= .ok (.bl (decide (i<j))):=aM rfl
@[simp] def gtD_int:gtD (.int i) (.int j)= .ok (.bl (decide (j<i))):=aM rfl
@[simp] def geD_int:geD (.int i) (.int j)= .ok (.bl (decide (j<=i))):=aM rfl
@[simp] def lenD_tup:cJ [.tup l]= .ok (.int l.length):=aM rfl
@[simp] def aDl:cJ [.lst l]= .ok (.int l.length):=aM rfl
@[simp] def lenD_scr:cJ [.scr x]= .ok (.int x.length):=aM rfl
@[simp] def tupleD_lst:j8 [.lst l]= .ok (.tup l):=aM rfl
@[simp] def mmD_int:mmD f [.int i,.int j]= .ok (.int (f i j)):=aM rfl
@[simp] def aFq:ixD (.tup l) (.int i)=atD l i:=aM rfl
@[simp] def ixD_lst:ixD (.lst l) (.int i)=atD l i:=aM rfl
@[simp] def ixD_scr:ixD (.scr x) (.int i)=atD (x.map .int) i:=aM rfl
def kJ{k:Nat}(h:l[k]? =some d):atD l (k:Int)= .ok d:=by
 have hk:=(zA3.mp h).1;unfold atD atI ixN;rw[if_pos (by omega),if_pos (by omega)];simp[h]
def aA7(h0:0<=i)(h1:i<l.length):∃d,atD l i= .ok d/\d∈l/\l[i.toNat]? =some d:=by
 have hk:i.toNat<l.length:=by omega
 have e:=zAR hk;refine⟨_,?_,zE0 hk,e⟩
 have:=kJ e
 rwa [zCS h0]at this
@[simp] def atD_0{r:List D}:atD (d::r) 0= .ok d:=kJ (k:=0) rfl
@[simp] def atD_1{r:List D}:atD (d::e::r) 1= .ok e:=kJ (k:=1) rfl
@[simp] def eqR_int:eqR n (.int i) (.int j)= .ok (.bl (if n then !(i==j)else i==j)):=aM rfl
def knd:D->Bool
 | .set _=>false
 | .scr _=>false
 | .fn _=>false
 | .itm _ _=>false
 |_=>true
def aBS(hT:T∈["bool","int","str","list","tuple","dict"])(h:knd d=true):uG T d= .ok (.bl (aFs (tyD d) T)):=by
 have ht:tyD d∈["NoneType","bool","int","str","list","tuple","dict"]:=by cases d<;>simp_all [tyD,knd]
 unfold uG lQ;cases e:aFs (tyD d) T<;>simp[ht,hT]
def aJZ:D->Bool
 | .bl _=>true
 |_=>false
def xO:D->Bool
 | .tup _=>true
 |_=>false
def aDz(h:knd d=true):uG "bool" d= .ok (.bl (aJZ d)):=by
 rw[aBS (by simp) h];cases d<;>first|rfl|(simp[knd]at h)
def qJ(h:knd d=true):uG "tuple" d= .ok (.bl (xO d)):=by
 rw[aBS (by simp) h];cases d<;>first|rfl|(simp[knd]at h)
@[simp] def isi_tuple_tup:uG "tuple" (.tup l)= .ok (.bl true):=qJ rfl
@[simp] def isi_bool_int:uG "bool" (.int i)= .ok (.bl false):=aDz rfl
end
@[simp] def cH:fu n u ds=match u (bG n ds)with
 | .nx _=>.ok .non
 | .rt d=>.ok d
 | .ex c=>.ex c
 |_=>.st:=aM rfl
def mK(h0: -(2^62)<=j)(h1:j<2^62):lG [.int j]= .ok (gk 0 j):=by unfold lG;dsimp only;rw[if_pos ⟨h0,h1⟩]
def aDe{lo hi:Int}:d∈gk lo hi↔∃k:Int,d= .int k/\lo<=k/\k<hi:=by
 unfold gk;rw[zA4];constructor
 .rintro⟨n,hn,rfl⟩
  have:=zAx.mp hn
  exact⟨lo+n,rfl,by omega,by omega⟩
 .rintro⟨k,rfl,h1,h2⟩
  exact⟨(k-lo).toNat,zAx.mpr (by omega),by congr 1;omega⟩
def pM(I:Nat->En->Prop)(hs:∀(i:Nat) d Y,ds[i]? =some d->I i Y->∃Y2,okE (a d Y) (λ Y1=>u Y1)= .nx Y2/\I (i+1) Y2)(h0:I 0 Y):∃Y',forL a u ds Y= .nx Y'/\I ds.length Y':=by
 have go:∀(n:Nat) (Y:En),n<=ds.length->I (ds.length-n) Y->∃Y',forL a u (ds.drop (ds.length-n)) Y= .nx Y'/\I ds.length Y':=by
  intro n;induction n with
  |zero=>intro Y _ h;exact⟨Y,by rw[zFx,zCk];rfl,h⟩
  |succ n ih=>
   intro Y hn h;have hlt:ds.length-(n+1)<ds.length:=by omega
   rw[zBA hlt,gw];obtain⟨Y2,e,h2⟩:=hs _ _ Y (zAR hlt) h;rw[show ds.length-(n+1)+1=ds.length-n by omega]at h2 ⊢;cases ea:a ds[ds.length-(n+1)] Y with
   |ok Y1=>
    rw[ea]at e;simp only[iQ]at e ⊢;rw[e,yD];exact ih Y2 (by omega) h2
   |ex c=>rw[ea]at e;cases e
   |st=>rw[ea]at e;cases e
 have:=go ds.length Y (zAL _) (by rw[zFw];exact h0)
 rwa [zFw,zDJ]at this
end VL
namespace VL.My
open PySem L2
def bF:D:=(.tup [(.str "one")])
def wdN:Str->Option Str:=λ c=>((["NoWeb","NoPlace","NoWay","NoParting","TooMany","NoForest","NoPlan","NoOneWay","NoOrder","NoText","NoDeed","NoRow"]:List Str).zip (["web","place","way","parting","many","forest","plan","one way","order","text","deed","row"]:List Str)).lookup c
def aq:En->Ou:=
  (aa (ifS (orT (aF9 (tst (op1 (uG "tuple") (aD 0)))) (orT (tsb (op2 (eqR true) (opA cJ (aA (aD 0) aG)) (cD (.int 2)))) (tsb (op2 (inR true) (op2 ixD (aD 0) (cD (.int 0))) (bC (aA (cD (.str "beside")) (aA (cD (.str "across")) aG)))))))
   (retS (cD (.bl false)))
   Ou.nx)
  (retS (aGY (op1 (uG "tuple") (op2 ixD (aD 0) (cD (.int 1)))) (op2 geD (opA cJ (aA (op2 ixD (aD 0) (cD (.int 1))) aG)) (cD (.int 2))))))
def bB:List D->Rs D:=fu 1 aq
def dM:En->Ou:=
  (retS (bC (aA (op2 adJ (op2 ixD (aD 0) (cD (.int 0))) (op2 ixD (aD 1) (cD (.int 0)))) (aA (op2 adJ (op2 ixD (aD 0) (cD (.int 1))) (op2 ixD (aD 1) (cD (.int 1)))) (aA (op2 adJ (op2 ixD (aD 0) (cD (.int 2))) (op2 ixD (aD 1) (cD (.int 2)))) aG)))))
def cY:List D->Rs D:=fu 2 dM
def laB:En->Ou:=aa (rD adT 2 (aD 4)) (ifS (tsb (op2 ltD (aD 3) (opA cJ (aA (aD 1) aG)))) (rD adT 2 (op2 ixD (aD 1) (aD 3))) Ou.nx)
def m7:En->Ou:=aa (bz 2 (bC aG)) (aa (ju (km aEY (aA (aD 0) aG)) (iU 2 (bJ (gnm 3) (bJ (gnm 4) iw))) laB) (retS (bV (aD 2))))
def kY:List D->Rs D:=fu 5 m7
def cuC:En->Rs Bool:=tsb (op2 ltD (opA cJ (aA (iu 2) aG)) (aD 1))
def cuS:En->Ou:=aEv 2 (cM (aA (bV (bw (op2 ixD (iu 2) (aD 3)) fB (cZ (cD (.int 1))))) (aA (bV (bw (op2 ixD (iu 2) (aD 3)) (cZ (cD (.int 1))) fB)) aG))) (cZ (aD 3)) (cZ (op2 bL (aD 3) (cD (.int 1))))
def cuB:En->Ou:=aa (ifS (tsb (op2 gtD (opA cJ (aA (op2 ixD (iu 2) (aD 3)) aG)) (cD (.int 1)))) cuS Ou.nx) (rD (i2 (λ _ _=>true) λ a b=>.int (a+b)) 3 (cD (.int 1)))
def jU:En->Ou:=aa (uq 2 (opA ym (aA (aD 0) aG))) (aa (bz 3 (cD (.int 0))) (aa (lB cuC cuB) (retS (zZ 2))))
def fj:List D->Rs D:=fu 4 jU
def cX:En->Ou:=
  (aa (ifS (tsb (op2 ltD (aD 1) (opA cJ (aA (aD 0) aG))))
   (retS (bV (op2 ixD (aD 0) (aD 1))))
   Ou.nx)
  (retS (cD (.int 0))))
def dN:List D->Rs D:=fu 2 cX
def dY:En->Ou:=
  (aa (ifS (tsb (op2 geD (aD 0) (op2 aH7 (cD (.int 10)) (cD (.int 18)))))
   (aa (bz 3 (aD 0))
   (aa (ju (km lG (aA (aD 1) aG)) (gnm 4)
    (aa (ifS (tsb (op2 (eqR false) (aD 3) (cD (.int 0))))
     (retS (cD (.int 0)))
     Ou.nx)
    (bz 3 (op2 qj (aD 3) (aD 2)))))
   (retS (op2 qI (aD 3) (aD 2)))))
   Ou.nx)
  (aa (bz 5 (op2 qI (op2 gA (op2 bL (op2 bL (op2 qI (aD 0) (cD (.int 1000000007))) (op2 gA (cD (.int 1009)) (aD 1))) (cD (.int 17))) (cD (.int 69621))) (cD (.int 2147483647))))
  (aa (bz 5 (op2 qI (op2 bL (op2 bL (op2 gA (aD 5) (aD 5)) (op2 gA (cD (.int 40503)) (aD 1))) (cD (.int 5))) (cD (.int 2147483629))))
  (retS (op2 qI (op2 qj (op2 qI (op2 gA (aD 5) (cD (.int 48271))) (cD (.int 2147483647))) (cD (.int 32))) (aD 2))))))
def bH:List D->Rs D:=fu 6 dY
def roL:En->Rs D:=opA j8 (aA (lcD (gm (aD 6)) [none,some 9,some 8] (gnm 0) gh (ifD (tsb (op2 (eqR false) (aD 0) (aD 1))) (bV (aD 2)) (bV (aD 0)))) aG)
def roU:En->Rs D:=opA j8 (aA (lcD (km lG (aA (op2 ixD (aD 0) (cD (.int 0))) aG)) [none,some 7,some 2,some 3] (gnm 0) gh (op2 bL (bV (op2 ixD (aD 1) (aD 0))) (opA lR (aA (orD (op2 (eqR false) (aD 0) (aD 2)) (op2 (eqR false) (aD 0) (aD 3))) aG)))) aG)
def roT:En->Rs Bool:=aGW (tsb (op2 ltD (op2 ixD (aD 7) (aD 2)) (cD (.int 2)))) (aGW (tsb (op2 ltD (op2 ixD (aD 7) (aD 3)) (cD (.int 2)))) (tsb (op2 (eqR true) (op2 ixD (aD 6) (aD 2)) (op2 ixD (aD 6) (aD 3)))))
def roA:En->Ou:=aGV 4 (bC (aA (op2 bL (bV (aD 5)) (bC (aA (bC (aA (bV (aD 2)) (aA (bV (aD 3)) aG))) aG))) (aA (bV (aD 10)) (aA (bV (aD 11)) aG))))
def roB:En->Ou:=ifS roT (aa (bz 8 (opA (mmD λ i j=>if j<i then j else i) (aA (op2 ixD (aD 6) (aD 2)) (aA (op2 ixD (aD 6) (aD 3)) aG)))) (aa (bz 9 (opA (mmD λ i j=>if j>i then j else i) (aA (op2 ixD (aD 6) (aD 2)) (aA (op2 ixD (aD 6) (aD 3)) aG)))) (aa (bz 10 roL) (aa (bz 11 roU) roA)))) Ou.nx
abbrev roG:D->En->Rs En:=iU 3 (bJ (gnm 5) (bJ (gnm 6) (bJ (gnm 7) iw)))
def roO:En->Ou:=aa (uq 4 (cM aG)) (aa (aGG 1 roG roB) (aGI 1 4))
def roR:En->Rs D:=lcD (gm (aD 1)) [none] (gnm 0) gh (bV (op2 ixD (aD 0) (cD (.int 0))))
def gC:En->Ou:=aa (uq 1 (cM (aA (bC (aA (bC aG) (aA (trD (op2 ixD (aD 0) (cD (.int 0)))) (aA (op2 aAJ (bC (aA (cD (.int 0)) aG)) (bV (op2 ixD (aD 0) (cD (.int 0))))) aG)))) aG))) (aa (ju (gm (op2 ixD (aD 0) (cD (.int 1)))) (iU 2 (bJ (gnm 2) (bJ (gnm 3) iw))) roO) (retS roR))
def il:List D->Rs D:=fu 12 gC
def iC:En->Ou:=
  (aa (aCp 1 (cM (aA (bC (aA (aD 0) (aA (cD (.int 1)) aG))) aG)))
  (aa (bz 2 (cD (.int 0)))
  (aa (lB (tst (iu 1))
   (aa (aBs 1 (iU 2 (bJ (gnm 3) (bJ (gnm 4) iw))))
   (aa (ifS (tsb (op2 eqX (aD 3) (cD bF)))
    (rD (i2 (λ _ _=>true) λ a b=>.int (a+b)) 2 (cD (.int 1)))
    (ifS (tst (aW bB (aA (aD 3) aG)))
     (aCQ 1 (lcZ (gm (op2 ixD (aD 3) (cD (.int 1)))) [none,some 4] (gnm 0) gh (bC (aA (aD 0) (aA (op2 bL (aD 1) (cD (.int 1))) aG)))))
     (retS (cD (.bl false)))))
   (ifS (orT (tsb (op2 gtD (aD 2) (cD (.int 40)))) (tsb (op2 gtD (aD 4) (cD (.int 24)))))
    (retS (cD (.bl false)))
    Ou.nx))))
  (retS (cD (.bl true))))))
def gK:List D->Rs D:=fu 5 iC
def bh:En->Ou:=
  (aa (ue (aD 0) (iU 3 (bJ (gnm 2) (bJ (gnm 3) (bJ (gnm 4) iw)))))
  (aa (bz 5 (op2 ixD (aD 1) (cD (.int 0))))
  (aa (bz 6 (op2 bL (opA cJ (aA (aD 5) aG)) (cD (.int 1))))
  (aa (bz 7 (aW kY (aA (bw (aD 3) fB (cZ (aD 6))) (aA (lcD (gm (aD 5)) [none] (gnm 0) gh (bC (aA (bV (aD 0)) aG))) aG))))
  (retS (bC (aA (op2 adJ (aD 2) (aD 5)) (aA (op2 adJ (cM (aA (aD 7) aG)) (bw (aD 3) (cZ (aD 6)) fB)) (aA (op2 adJ (aD 4) (aD 5)) aG)))))))))
def bR:List D->Rs D:=fu 8 bh
def gD:En->Ou:=
  (aa (jg 3 (op2 gA (cM (aA (bC (aA (cD (.str "one")) aG)) aG)) (bV (aD 2))))
  (aa (ju (km lG (aA (aD 2) aG)) (gnm 4)
   (ifS (tsb (op2 gtD (opA cJ (aA (dz 3) aG)) (cD (.int 1))))
    (aa (bz 5 (op2 bL (cD (.int 2)) (aW bH (aA (aD 0) (aA (op2 bL (aD 1) (op2 gA (cD (.int 3)) (aD 4))) (aA (cD (.int 3)) aG))))))
    (aa (bz 6 (aW bH (aA (aD 0) (aA (op2 bL (op2 bL (aD 1) (op2 gA (cD (.int 3)) (aD 4))) (cD (.int 1))) (aA (opA (mmD λ i j=>if j>i then j else i) (aA (cD (.int 1)) (aA (op2 bL (op2 aBh (opA cJ (aA (dz 3) aG)) (aD 5)) (cD (.int 1))) aG))) aG)))))
    (aa (jg 7 (op2 ixD (cM (aA (cD (.str "beside")) (aA (cD (.str "across")) aG))) (aW bH (aA (aD 0) (aA (op2 bL (op2 bL (aD 1) (op2 gA (cD (.int 3)) (aD 4))) (cD (.int 2))) (aA (cD (.int 2)) aG))))))
    (jg 3 (op2 bL (op2 bL (bw (dz 3) fB (cZ (aD 6))) (cM (aA (bC (aA (dz 7) (aA (opA j8 (aA (bw (dz 3) (cZ (aD 6)) (cZ (op2 bL (aD 6) (aD 5)))) aG)) aG))) aG))) (bw (dz 3) (cZ (op2 bL (aD 6) (aD 5))) fB))))))
    Ou.nx))
  (retS (op2 ixD (dz 3) (cD (.int 0))))))
def eY:List D->Rs D:=fu 8 gD
def dG:En->Ou:=
  (ifS (aF9 (tst (aW gK (aA (aD 0) aG))))
   (wZ "NoPlan" (aA (cD (.str "this is no plan")) aG))
   Ou.nx)
def du:List D->Rs D:=fu 1 dG
def cC:En->Ou:=
  (aa (ifS (tsb (op2 gtD (opA cJ (aA (op2 ixD (aD 0) (cD (.int 1))) aG)) (opA cJ (aA (op2 ixD (aD 1) (cD (.int 0))) aG))))
   (retS (aW bR (aA (aD 0) (aA (aD 1) aG))))
   Ou.nx)
  (aa (ifS (tsb (op2 gtD (opA cJ (aA (op2 ixD (aD 1) (cD (.int 1))) aG)) (opA cJ (aA (op2 ixD (aD 0) (cD (.int 0))) aG))))
   (retS (aW bR (aA (aD 1) (aA (aD 0) aG))))
   Ou.nx)
  (aa (bz 2 (opA (mmD λ i j=>if j>i then j else i) (aA (opA cJ (aA (op2 ixD (aD 0) (cD (.int 1))) aG)) (aA (opA cJ (aA (op2 ixD (aD 1) (cD (.int 1))) aG)) aG))))
  (retS (bC (aA (op2 adJ (op2 ixD (aD 0) (cD (.int 0))) (op2 ixD (aD 1) (cD (.int 0)))) (aA (cM (aA (aW kY (aA (aW fj (aA (op2 ixD (aD 0) (cD (.int 1))) (aA (aD 2) aG))) (aA (aW fj (aA (op2 ixD (aD 1) (cD (.int 1))) (aA (aD 2) aG))) aG))) aG)) (aA (cM aG) aG))))))))
def bu:List D->Rs D:=fu 3 cC
def bj(R:List D->Rs D):En->Ou:=
  (aa (ifS (tsb (op2 (eqR false) (aD 0) (bC (aA (cD (.str "one")) aG))))
   (retS (bC (aA (cD (.int 1)) (aA (cM aG) aG))))
   Ou.nx)
  (aa (bz 1 (cD (.int 0)))
  (aa (uq 2 (cM aG))
  (aa (ju (gm (op2 ixD (aD 0) (cD (.int 1)))) (gnm 3)
   (aa (ue (aW R (aA (aD 3) aG)) (iU 2 (bJ (gnm 4) (bJ (gnm 5) iw))))
   (aa (aA0 2 (lcD (gm (aD 5)) [none,none,some 1] (iU 2 (bJ (gnm 0) (bJ (gnm 1) iw))) gh (bC (aA (op2 bL (bV (aD 2)) (bV (aD 0))) (aA (op2 bL (bV (aD 2)) (bV (aD 1))) aG)))))
   (aa (ifS (tsb (op2 (eqR false) (op2 ixD (aD 0) (cD (.int 0))) (cD (.str "across"))))
    (ju (km lG (aA (aD 1) aG)) (gnm 6)
     (aA0 2 (lcD (km lG (aA (aD 4) aG)) [none,some 6,some 1] (gnm 0) gh (bC (aA (bV (aD 1)) (aA (op2 bL (bV (aD 2)) (bV (aD 0))) aG))))))
    Ou.nx)
   (bz 1 (op2 bL (aD 1) (aD 4)))))))
  (retS (bC (aA (bV (aD 1)) (aA (zZ 2) aG))))))))
def cU:Nat->List D->Rs D
 |0=>λ _=>.st
 |n+1=>fu 7 (bj (cU n))
def kW:List D->Rs D:=cU 64
def cu:En->Ou:=
  (aa (ue (aW kW (aA (aD 0) aG)) (iU 2 (bJ (gnm 1) (bJ (gnm 2) iw))))
  (retS (bC (aA (bV (aD 1)) (aA (opA j8 (aA (opA vO (aA (aD 2) aG)) aG)) aG)))))
def fZ:List D->Rs D:=fu 3 cu
def cG(R:List D->Rs D):En->Ou:=
  (aa (ifS (tsb (op2 (eqR false) (aD 0) (cD bF)))
   (retS (bC (aA (cM (aA (bV (aD 1)) aG)) (aA (cM (aA (bC (aA (bV (aD 1)) aG)) aG)) (aA (cM aG) aG)))))
   Ou.nx)
  (aa (jg 2 (bC (aA (cM aG) (aA (cM aG) (aA (cM aG) aG)))))
  (aa (ju (gm (op2 ixD (aD 0) (cD (.int 1)))) (gnm 3)
   (aa (bz 4 (aW R (aA (aD 3) (aA (op2 bL (aD 1) (opA cJ (aA (op2 ixD (dz 2) (cD (.int 0))) aG))) aG))))
   (ifS (tsb (op2 (eqR false) (op2 ixD (aD 0) (cD (.int 0))) (cD (.str "across"))))
    (jg 2 (aW bu (aA (dz 2) (aA (aD 4) aG))))
    (jg 2 (aW cY (aA (dz 2) (aA (aD 4) aG)))))))
  (retS (dz 2)))))
def cB:Nat->List D->Rs D
 |0=>λ _=>.st
 |n+1=>fu 5 (cG (cB n))
def oK:List D->Rs D:=cB 64
def cA:En->Ou:=
  (aa (aE1 (aW du (aA (aD 0) aG)))
  (retS (aW oK (aA (aD 0) (aA (cD (.int 0)) aG)))))
def cN:List D->Rs D:=fu 1 cA
def cV:En->Ou:=
  (aa (ue (aW cN (aA (aD 0) aG)) (iU 3 (bJ (gnm 1) (bJ (gnm 2) (bJ (gnm 3) iw)))))
  (retS (opA cJ (aA (aD 2) aG))))
def aZ:List D->Rs D:=fu 4 cV
def lwR:En->Rs (List D):=(km lG (aA (opA (mmD λ i j=>if j>i then j else i) (aA (cD (.int 1)) (aA (opA (mmD λ i j=>if j<i then j else i) (aA (opA cJ (aA (aD 0) aG)) (aA (cD (.int 4)) aG))) aG))) aG))
def lPs:En->Rs (List D):=(gm (cM (aA (aD 3) (aA (bC (aA (cD (.str "beside")) (aA (bC (aA (aD 3) (aA (aD 4) aG))) aG))) (aA (bC (aA (cD (.str "across")) (aA (bC (aA (aD 4) (aA (aD 3) aG))) aG))) (aA (bC (aA (cD (.str "across")) (aA (bC (aA (aD 3) (aA (bC (aA (cD (.str "one")) aG)) aG))) aG))) aG))))))
def lT0:En->Ou:=(bz 6 (aW fZ (aA (aD 5) aG)))
def lT1:En->Ou:=(bz 7 (op2 aBh (op2 ixD (aD 6) (cD (.int 0))) (opA (o8 zFm) (aA (lcD (gm (aW il (aA (aD 6) aG))) [none] (gnm 0) gh (opA cJ (aA (aD 0) aG))) aG))))
def lT2:En->Ou:=(bz 8 (aW aZ (aA (aD 5) aG)))
def lT3:En->Ou:=(ifS (orT (tst (op1 (uG "bool") (aD 8))) (tsb (op2 (eqR true) (aD 8) (aD 7)))) (retS (cD (.bl false))) Ou.nx)
def lT:En->Ou:=aa lT0 (aa lT1 (aa lT2 lT3))
def w9:En->Rs D:=(op2 ixD (cM (aA (cD .non) (aA (bC (aA (cD (.str "two")) aG)) (aA (bC (aA (cD (.str "across")) (aA (bC (aA (bV (aD 3)) aG)) aG))) (aA (cM (aA (cD (.str "one")) aG)) (aA (bC (aA (cD (.str "beside")) (aA (bC (aA (bV (aD 3)) (aA (cD (.int 0)) aG))) aG))) (aA (bC aG) aG))))))) (aW bH (aA (aD 2) (aA (cD (.int 8000)) (aA (cD (.int 6)) aG)))))
def lIf:En->Ou:=(ifS (tsb (op2 (eqR true) (aBp wdN "told" (aW aZ (aA (aD 9) aG))) (cD (.str "plan")))) (retS (cD (.bl false))) Ou.nx)
def lwK:En->Ou:=aa (bz 2 (aW dN (aA (aD 0) (aA (aD 1) aG)))) (aa (bz 3 (aW eY (aA (aD 2) (aA (cD (.int 5000)) (aA (op2 bL (cD (.int 1)) (aW bH (aA (aD 2) (aA (cD (.int 0)) (aA (cD (.int 5)) aG))))) aG))))) (aa (bz 4 (aW eY (aA (aD 2) (aA (cD (.int 6000)) (aA (op2 bL (cD (.int 1)) (aW bH (aA (aD 2) (aA (cD (.int 1)) (aA (cD (.int 2)) aG))))) aG))))) (aa (ju lPs (gnm 5) lT) (aa (jg 9 w9) lIf))))
def lWd:En->Ou:=(bz 10 (bC (aA (cD (.str "beside")) (aA (op2 xF (bC (aA (bC (aA (cD (.str "one")) aG)) aG)) (cD (.int 9))) aG))))
def lwZ:En->Rs D:=(aGY (op2 (eqR false) (aW aZ (aA (bC (aA (cD (.str "across")) (aA (bC (aA (aD 10) (aA (bC (aA (cD (.str "one")) aG)) aG))) aG))) aG)) (cD (.int 8))) (op2 (eqR false) (aW aZ (aA (bC (aA (cD (.str "across")) (aA (bC (aA (aD 10) (aA (aD 10) aG))) aG))) aG)) (cD (.int 1))))
def uY:En->Ou:=aa (ju lwR (gnm 1) lwK) (aa lWd (retS lwZ))
def aEc:List D->Rs D:=fu 11 uY
theorem vg{b:Int}(hb:0<b)(hb2:b<1073741824){c:Int}{k:Int}:∀(ds:List D) (x:Int) (s:Slot),(∀d∈ds,∃n:Int,d= .int n)->
  (∃y s',forL (gnm 4) (aa (ifS (tsb (op2 (eqR false) (aD 3) (cD (.int 0)))) (retS (cD (.int 0))) Ou.nx) (bz 3 (op2 qj (aD 3) (aD 2)))) ds [.sh (.int c),.sh (.int k),.sh (.int b),.sh (.int x),s,.no]= .nx [.sh (.int c),.sh (.int k),.sh (.int b),.sh (.int y),s',.no])\/
  forL (gnm 4) (aa (ifS (tsb (op2 (eqR false) (aD 3) (cD (.int 0)))) (retS (cD (.int 0))) Ou.nx) (bz 3 (op2 qj (aD 3) (aD 2)))) ds [.sh (.int c),.sh (.int k),.sh (.int b),.sh (.int x),s,.no]= .rt (.int 0)
 |[],x,s,_=>.inl ⟨x,s,rfl⟩
 |d::ds,x,s,h=>by
  have ih:=vg hb hb2 (c:=c) (k:=k) ds (x / b) (.sh d) λ e he=>h e (zAF _ he)
  rw[gw];by_cases hx:x=0
  .subst hx
   right;simp
  .simp[hx,v8 hb hb2]
   exact ih
def aGK{c k b:Int}(hk0:0<=k)(hk1:k<2^40)(hb:0<b)(hb2:b<1073741824):∃r:Int,bH [.int c,.int k,.int b]= .ok (.int r)/\0<=r/\r<b:=by
 have hp:aH7 (.int 10) (.int 18)= .ok (.int 1000000000000000000):=rfl;by_cases hc:(1000000000000000000:Int)<=c
 .have hr:=mK (j:=k) (by omega) (by omega)
  have hl:=vg hb hb2 (c:=c) (k:=k) (gk 0 k) c .no λ d hd=>let⟨n,e,_⟩:=aDe.mp hd;⟨n,e⟩
  rcases hl with ⟨y,s',e⟩|e
  .refine⟨y%b,?_,zDc _ (by omega),zDI _ hb⟩
   simp[bH,dY,bG,hp,hc,hr,e,lM hb]
  .refine⟨0,?_,by omega,hb⟩
   simp[bH,dY,bG,hp,hc,hr,e]
 .have s1:∀z:Int,0<=z%2147483647/\z%2147483647<2147483647:=λ z=>⟨zDc _ (by decide),zDI _ (by decide)⟩
  have s2:∀z:Int,0<=z%2147483629/\z%2147483629<2147483629:=λ z=>⟨zDc _ (by decide),zDI _ (by decide)⟩
  have m1:∀z,gA (.int 1009) (.int z)= .ok (.int (1009*z)):=λ z=>xG (by decide) (by decide)
  have m2:∀z,gA (.int z) (.int 69621)= .ok (.int (z*69621)):=λ z=>aDc (by decide) (by decide)
  have m3:∀z,gA (.int 40503) (.int z)= .ok (.int (40503*z)):=λ z=>xG (by decide) (by decide)
  have m4:∀z,gA (.int z) (.int 48271)= .ok (.int (z*48271)):=λ z=>aDc (by decide) (by decide)
  have m5:∀z:Int,gA (.int (z%2147483647)) (.int (z%2147483647))= .ok (.int (z%2147483647*(z%2147483647))):=λ z=>xG (by have:=s1 z;omega) (by have:=s1 z;omega)
  have d1:∀z,qI (.int z) (.int 1000000007)= .ok (.int (z%1000000007)):=λ z=>lM (by decide)
  have d2:∀z,qI (.int z) (.int 2147483647)= .ok (.int (z%2147483647)):=λ z=>lM (by decide)
  have d3:∀z,qI (.int z) (.int 2147483629)= .ok (.int (z%2147483629)):=λ z=>lM (by decide)
  have d4:∀z,qj (.int z) (.int 32)= .ok (.int (z / 32)):=λ z=>v8 (by decide) (by decide)
  have d5:∀z,qI (.int z) (.int b)= .ok (.int (z%b)):=λ z=>lM hb
  simp[bH,dY,bG,hp,hc,m1,m2,m3,m4,m5,d1,d2,d3,d4,d5,-Int.emod_emod_of_dvd];exact⟨zDc _ (by omega),zDI _ hb⟩
def m6{c k b:Int}(hk0:0<=k)(hk1:k<2^40)(hb:0<b)(hb2:b<1073741824):∃r:Nat,bH [.int c,.int k,.int b]= .ok (.int r)/\(r:Int)<b:=by
 obtain⟨r,e,h0,h1⟩:=aGK (c:=c) hk0 hk1 hb hb2;exact⟨r.toNat,by rw[zCS h0];exact e,by omega⟩
def aGR{ns:List Int}{k:Int}(h:0<=k):∃c:Int,dN [.scr ns,.int k]= .ok (.int c):=by
 by_cases hk:k<ns.length
 .obtain⟨d,e,hm,_⟩:=aA7 (l:=ns.map .int) (i:=k) h (by simpa using hk)
  obtain⟨c,_,rfl⟩:=zA4.mp hm;exact⟨c,by simp[dN,cX,bG,hk,e]⟩
 .exact⟨0,by simp[dN,cX,bG,hk]⟩
def aEV{n:Bool}{d e:D}(h1:gB d<=60)(h2:aV d=true)(h3:aV e=true):eqR n d e= .ok (.bl (if n then !eqD d e else eqD d e)):=by
 unfold eqR;rw[if_pos (by simp[h1,h2,h3])]
def aI2{d:D}(h1:gB d<=60)(h2:aV d=true):eqX d bF= .ok (.bl (eqD d bF)):=by
 have h:=aEV (n:=false) (e:=bF) h1 h2 rfl;cases d with
 |dct a b=>simp[aV]at h2
 |_=>exact h
def aFx{n:Bool}{d:D}{es:List D}(h1:bU es<=60)(h2:aV d=true)(h3:au es=true):inR n d (.tup es)= .ok (.bl (if n then !inD d es else inD d es)):=by
 unfold inR;dsimp only;rw[if_pos (by simp[h1,h2,h3])]
def aDu{d:D}(h:aV d=true):knd d=true:=by cases d<;>simp_all [aV,knd]
def oO:D->Bool
 | .str s=>s=="beside"||s=="across"
 |_=>false
def aFw(d:D):inD d [.str "beside",.str "across"]=oO d:=by
 unfold inD;cases d with
 |str s=>simp[eqD,oO,BEq.comm]
 |_=>simp[eqD,oO]
def iM:D->Bool
 | .tup [w,.tup ys]=>oO w&&decide (2<=ys.length)
 |_=>false
def aH4{x:D}(h:aV x=true):bB [x]= .ok (.bl (iM x)):=by
 cases x with
 |tup l=>
  match l,h with
  |[],h=>simp[bB,aq,bG,iM]
  |[x],h=>simp[bB,aq,bG,iM]
  |x::y::z::r,h=>
   have e:¬((r.length:Int)+1+1+1=2):=by omega
   simp[bB,aq,bG,iM,e]
  |[w,y],h=>
   simp only[aV,au,zAK]at h;have hi:inR true w (.tup [.str "beside",.str "across"])= .ok (.bl (!oO w)):=by
    rw[aFx (by decide) h.1 rfl,aFw];rfl
   cases c:oO w with
   |false=>
    rw[c]at hi;simp[bB,aq,bG,hi];cases y<;>simp[iM,c]
   |true=>
    rw[c]at hi;simp[bB,aq,bG,hi,qJ (aDu h.2.1)];cases y with
    |tup ys=>simp[xO,iM,c];omega
    |_=>simp[xO,iM]
 |_=>simp[bB,aq,bG,qJ (aDu h),xO,iM]
def nW(x:D):Bool:=eqD x bF
def qG{x:D}(h:nW x=true):x=bF:=by
 unfold nW bF at h;cases x with
 |tup l=>
  match l with
  |[]=>simp[eqD,lZ]at h
  |[a]=>
   cases a with
   |str s=>simp[eqD,lZ]at h;subst h;rfl
   |_=>simp[eqD,lZ]at h
  |a::b::r=>simp[eqD,lZ]at h
 |_=>simp[eqD]at h
mutual
def lk:D->Option (Nat×Nat)
 | .tup [.str s]=>if s=="one" then some (1,1)else none
 | .tup [.str w,.tup ys]=>if (w=="beside"||w=="across")&&decide (2<=ys.length)then(lks ys).map λ q=>(q.1+1,q.2)else none
 |_=>none
def lks:List D->Option (Nat×Nat)
 |[]=>some (0,0)
 |y::ys=>(lk y).bind λ p=>(lks ys).map λ q=>(max p.1 q.1,p.2+q.2)
end
mutual
def nd:D->Nat
 | .tup l=>nds l+1
 | .lst l=>nds l+1
 |_=>1
def nds:List D->Nat
 |[]=>0
 |y::ys=>nd y+nds ys
end
def aAI:∀x:D,1<=nd x:=by
 intro x;cases x<;>simp[nd]
def ni:lk bF=some (1,1):=by simp[bF,lk]
def lH{x:D}(h:iM x=true):∃w ys,x= .tup [.str w,.tup ys]/\2<=ys.length/\lk x=(lks ys).map λ q=>(q.1+1,q.2):=by
 cases x with
 |tup l=>
  match l with
  |[]=>simp[iM]at h
  |[a]=>simp[iM]at h
  |[a,b]=>
   cases b with
   |tup ys=>
    cases a with
    |str w=>
     simp[iM,oO]at h;exact⟨w,ys,rfl,h.2,by simp[lk,h]⟩
    |_=>simp[iM,oO]at h
   |_=>simp[iM]at h
  |a::b::c::r=>simp[iM]at h
 |_=>simp[iM]at h
def pF{x:D}(h1:nW x=false)(h2:iM x=false):lk x=none:=by
 cases x with
 |tup l=>
  match l with
  |[]=>simp[lk]
  |[a]=>
   cases a with
   |str s=>simp[nW,bF,eqD,lZ]at h1;simp[lk,h1]
   |_=>simp[lk]
  |[a,b]=>
   cases a with
   |str w=>
    cases b with
    |tup ys=>simp[iM,oO]at h2;simp[lk];intro a b;have:=h2 a;omega
    |_=>simp[lk]
   |_=>simp[lk]
  |a::b::c::r=>clear h1 h2;cases a<;>cases b<;>rfl
 |_=>simp[lk]
def xM{x:D}{a b:Nat}(h:lk x=some (a,b)):1<=a:=by
 cases c1:nW x with
 |true=>rw[qG c1,ni]at h;cases h;omega
 |false=>
  cases c2:iM x with
  |false=>rw[pF c1 c2]at h;cases h
  |true=>
   obtain⟨w,ys,_,_,e⟩:=lH c2;rw[e]at h;cases hl:lks ys with
   |none=>rw[hl]at h;cases h
   |some q=>rw[hl]at h;cases h;omega
def pr(p:D×Int):D:=.tup [p.1,.int p.2]
def tot:List (D×Int)->Option Nat
 |[]=>some 0
 |p::r=>(lk p.1).bind λ q=>if p.2+(q.1:Int)<=25 then(tot r).map (·+q.2)else none
theorem wD(rs:List (D×Int)):∀qs,tot (qs++rs)=(tot qs).bind λ a=>(tot rs).map λ b=>a+b
 |[]=>by cases h:tot rs<;>simp[tot,h]
 |p::r=>by
  have ih:=wD rs r;simp only[zCj,tot];cases lk p.1 with
  |none=>rfl
  |some q=>
   simp only[zBK];by_cases c:p.2+(q.1:Int)<=25
   .rw[if_pos c,if_pos c,ih]
    cases tot r with
    |none=>rfl
    |some a=>
     cases tot rs with
     |none=>rfl
     |some b=>simp;omega
   .rw[if_neg c,if_neg c];rfl
theorem aAg{e:Int}(he:e<=25):∀ys:List D,tot (ys.map λ y=>(y,e))=(lks ys).bind λ q=>if e+(q.1:Int)<=25 then some q.2 else none
 |[]=>by simp[tot,lks,he]
 |y::ys=>by
  have ih:=aAg he ys;simp only[zAU,tot,lks];cases hy:lk y with
  |none=>rfl
  |some p=>
   obtain⟨a,b⟩:=p;simp only[zBK];rw[ih];cases hl:lks ys with
   |none=>simp
   |some q=>
    obtain⟨c,d⟩:=q;simp only[zBK,zCp];by_cases h1:e+(a:Int)<=25
    .rw[if_pos h1]
     by_cases h2:e+(c:Int)<=25
     .rw[if_pos h2,if_pos (by omega)];simp;omega
     .rw[if_neg h2,if_neg (by omega)];rfl
    .rw[if_neg h1,if_neg (by omega)]
def aAH{w:Str}{ys:List D}:nd (.tup [.str w,.tup ys])=nds ys+3:=by simp[nd,nds];omega
def nst:List (D×Int)->Nat
 |[]=>0
 |p::r=>nd p.1+nst r
theorem wy(rs:List (D×Int)):∀qs,nst (qs++rs)=nst qs+nst rs
 |[]=>by simp[nst]
 |p::r=>by simp[nst,wy rs r];omega
theorem aBK(e:Int):∀ys:List D,nst (ys.map λ y=>(y,e))=nds ys
 |[]=>rfl
 |y::ys=>by simp[nst,nds,aBK e ys]
theorem rU:∀ys:List D,ys.length<=nds ys
 |[]=>by simp
 |y::ys=>by have:=rU ys;have:=aAI y;simp[nds];omega
theorem aBN:∀ys:List (D×Int),ys.length<=nst ys
 |[]=>by simp
 |y::ys=>by have:=aBN ys;have:=aAI y.1;simp[nst];omega
def Sm(x:D):Prop:=aV x=true/\gB x<=60
theorem aGd:∀{ys:List D} {y:D},y∈ys->au ys=true->aV y=true/\gB y<=bU ys
 |z::ys,y,h,n=>by
  simp only[au,zAK]at n;simp only[bU];rcases zAX.mp h with rfl|h
  .exact⟨n.1,zEv _ _⟩
  .have:=aGd h n.2
   exact⟨this.1,zAe this.2 (zEb _ _)⟩
def wM{w:Str}{ys:List D}(h:Sm (.tup [.str w,.tup ys])):∀y∈ys,Sm y:=by
 intro y hy;obtain⟨h1,h2⟩:=h;simp only[aV,au,zAK,gB,bU]at h1 h2
 have:=aGd hy h1.2.1
 exact⟨this.1,by omega⟩
def cW:En->Rs Bool:=tst (iu 1)
def uW:En->Ou:=(aa (aBs 1 (iU 2 (bJ (gnm 3) (bJ (gnm 4) iw))))
   (aa (ifS (tsb (op2 eqX (aD 3) (cD bF)))
    (rD (i2 (λ _ _=>true) λ a b=>.int (a+b)) 2 (cD (.int 1)))
    (ifS (tst (aW bB (aA (aD 3) aG)))
     (aCQ 1 (lcZ (gm (op2 ixD (aD 3) (cD (.int 1)))) [none,some 4] (gnm 0) gh (bC (aA (aD 0) (aA (op2 bL (aD 1) (cD (.int 1))) aG)))))
     (retS (cD (.bl false)))))
   (ifS (orT (tsb (op2 gtD (aD 2) (cD (.int 40)))) (tsb (op2 gtD (aD 4) (cD (.int 24)))))
    (retS (cD (.bl false)))
    Ou.nx)))
theorem yo(e:Int):∀ys:List D,lcL [.no,.sh (.int e)] (gnm 0) gh (bC (aA (aD 0) (aA (op2 bL (aD 1) (cD (.int 1))) aG))) ys= .ok (ys.map λ y=>pr (y,e+1))
 |[]=>rfl
 |y::ys=>by
  rw[lcL];simp[yo e ys,pr]
def turn{x0:D}{qs:List (D×Int)}{p:D×Int}{ones:Int}{s3 s4:Slot}(hs:Sm p.1)(hn:nst qs+nd p.1<100000)(h40:ones<=40):
  (nW p.1=true/\ones+1<=40/\p.2<=24/\uW [.sh x0,.oz (.lst ((qs++[p]).map pr)),.sh (.int ones),s3,s4]= .nx [.sh x0,.oz (.lst (qs.map pr)),.sh (.int (ones+1)),.sh p.1,.sh (.int p.2)])\/
  (∃w ys,p.1= .tup [.str w,.tup ys]/\lk p.1=((lks ys).map λ q=>(q.1+1,q.2))/\p.2<=24/\uW [.sh x0,.oz (.lst ((qs++[p]).map pr)),.sh (.int ones),s3,s4]= .nx [.sh x0,.oz (.lst ((qs++ys.map λ y=>(y,p.2+1)).map pr)),.sh (.int ones),.sh p.1,.sh (.int p.2)])\/
  (uW [.sh x0,.oz (.lst ((qs++[p]).map pr)),.sh (.int ones),s3,s4]= .rt (.bl false)/\(lk p.1=none\/24<p.2\/nW p.1=true/\40<ones+1)):=by
 obtain⟨x,e⟩:=p;have bE:aBs 1 (iU 2 (bJ (gnm 3) (bJ (gnm 4) iw))) [.sh x0,.oz (.lst ((qs++[(x,e)]).map pr)),.sh (.int ones),s3,s4]= .nx [.sh x0,.oz (.lst (qs.map pr)),.sh (.int ones),.sh x,.sh (.int e)]:=by
  simp[aBs,aH8,pr]
 have heq:=aI2 hs.2 hs.1;have cK:=aH4 hs.1;dsimp only at hs hn heq cK ⊢;cases c1:nW x with
 |true=>
  have c1':eqD x bF=true:=c1;by_cases hA:ones+1<=40/\e<=24
  .refine .inl ⟨rfl,hA.1,hA.2,?_⟩
   have a1:¬(40<ones+1):=by omega
   have a2:¬(24<e):=by omega
   unfold uW;rw[aO,bE,bI];simp[heq,c1',rD,i2,a1,a2]
  .refine .inr (.inr ⟨?_,?_⟩)
   .by_cases a1:40<ones+1
    .unfold uW;rw[aO,bE,bI];simp[heq,c1',rD,i2,a1]
    .have a2:24<e:=by omega
     unfold uW;rw[aO,bE,bI];simp[heq,c1',rD,i2,a1,a2]
   .by_cases a1:40<ones+1
    .exact .inr (.inr ⟨rfl,a1⟩)
    .exact .inr (.inl (by show 24<e;omega))
 |false=>
  have c1':eqD x bF=false:=c1;cases c2:iM x with
  |false=>
   refine .inr (.inr ⟨?_,.inl (pF c1 c2)⟩);unfold uW;rw[aO,bE,bI];simp[heq,c1',cK,c2]
  |true=>
   obtain⟨w,ys,rfl,h2,hl⟩:=lH c2;have hz:qs.length+ys.length<=16777216:=by
    have h1:=aBN qs;have h3:=rU ys;have h4:nd (.tup [.str w,.tup ys])=nds ys+3:=aAH;omega
   have hz2:ys.length<16777216:=by
    have h3:=rU ys;have h4:nd (.tup [.str w,.tup ys])=nds ys+3:=aAH;omega
   have hlc:lcZ (gm (op2 ixD (aD 3) (cD (.int 1)))) [none,some 4] (gnm 0) gh (bC (aA (aD 0) (aA (op2 bL (aD 1) (cD (.int 1))) aG))) [.sh x0,.oz (.lst (qs.map pr)),.sh (.int ones),.sh (.tup [.str w,.tup ys]),.sh (.int e)]= .ok (.lst (ys.map λ y=>pr (y,e+1))):=by
    have:=yo e ys
    simp[lcZ,puE,puS,stE,hz2,this]
   by_cases a2:24<e
   .refine .inr (.inr ⟨?_,.inr (.inl a2)⟩)
    have a1:¬(40<ones):=by omega
    unfold uW;rw[aO,bE,bI];simp[heq,c1',cK,c2,aCQ,hlc,zF,hz,a1,a2]
   .refine .inr (.inl ⟨w,ys,rfl,hl,by show e<=24;omega,?_⟩)
    have a1:¬(40<ones):=by omega
    unfold uW;rw[aO,bE,bI];simp[heq,c1',cK,c2,aCQ,hlc,zF,hz,a1,a2]
def aBe(p:D×Int):tot [p]=(lk p.1).bind λ q=>if p.2+(q.1:Int)<=25 then some q.2 else none:=by
 simp only[tot];cases lk p.1 with
 |none=>rfl
 |some q=>
  simp only[zBK];by_cases h:p.2+(q.1:Int)<=25
  .rw[if_pos h,if_pos h];simp
  .rw[if_neg h,if_neg h]
def Gd(ps:List (D×Int))(ones:Int):Prop:=∃t:Nat,tot ps=some t/\ones+t<=40
theorem loop{x0:D}:∀(n:Nat) (ps:List (D×Int)) (ones:Int) (s3 s4:Slot),nst ps<n->nst ps<100000->(∀p∈ps,Sm p.1)->ones<=40->
  (Gd ps ones/\∃Y',itW cW uW n [.sh x0,.oz (.lst (ps.map pr)),.sh (.int ones),s3,s4]= .nx Y')\/(¬Gd ps ones/\itW cW uW n [.sh x0,.oz (.lst (ps.map pr)),.sh (.int ones),s3,s4]= .rt (.bl false))
 |0,ps,ones,s3,s4,h,_,_,_=>absurd h (zGh _)
 |n+1,ps,ones,s3,s4,h,h5,hS,h40=>by
  rcases zFk ps with rfl|⟨qs,p,rfl⟩
  .refine .inl ⟨⟨0,rfl,by simpa using h40⟩,[.sh x0,.oz (.lst []),.sh (.int ones),s3,s4],?_⟩
   rw[itW];simp[cW]
  .rw[zFi]at*
   have hc:cW [.sh x0,.oz (.lst ((qs++[p]).map pr)),.sh (.int ones),s3,s4]= .ok true:=by simp[cW]
   have hn:=wy [p] qs;have hnp:nst [p]=nd p.1:=by simp[nst]
   have hp:=aAI p.1;have ht:=wD [p] qs;have hq:∀q∈qs,Sm q.1:=λ q hq=>hS q (zAQ _ hq)
   rw[itW,hc];simp only[dB,if_true];rcases turn (x0:=x0) (qs:=qs) (s3:=s3) (s4:=s4) (hS p (by simp)) (by omega) h40 with ⟨c1,a1,a2,e⟩|⟨w,ys,ep,el,a2,e⟩|⟨e,c⟩
   .rw[e]
    have ih:=loop (x0:=x0) n qs (ones+1) (.sh p.1) (.sh (.int p.2)) (by omega) (by omega) hq a1;have h1:tot [p]=some 1:=by
     rw[aBe,qG c1,ni];simp only[zBK];rw[if_pos (by omega)]
    have aE:Gd (qs++[p]) ones↔Gd qs (ones+1):=by
     unfold Gd;rw[ht,h1];cases tot qs with
     |none=>simp
     |some a=>simp;omega
    rcases ih with ⟨g,Y',e2⟩|⟨g,e2⟩
    .exact .inl ⟨aE.mpr g,Y',e2⟩
    .exact .inr ⟨λ z=>g (aE.mp z),e2⟩
   .rw[e]
    have hsz:nd p.1=nds ys+3:=by rw[ep];exact aAH
    have hn2:=wy (ys.map λ y=>(y,p.2+1)) qs;rw[aBK]at hn2;have hS2:∀q∈qs++ys.map (λ y=>(y,p.2+1)),Sm q.1:=by
     intro q hq2;rcases zAM.mp hq2 with z|z
     .exact hq q z
     .obtain⟨y,hy,rfl⟩:=zA4.mp z
      have:=hS p (by simp)
      rw[ep]at this;exact wM this y hy
    have ih:=loop (x0:=x0) n (qs++ys.map λ y=>(y,p.2+1)) ones (.sh p.1) (.sh (.int p.2)) (by omega) (by omega) hS2 h40;have h1:tot [p]=tot (ys.map λ y=>(y,p.2+1)):=by
     rw[aBe,aAg (by omega),el];cases lks ys with
     |none=>rfl
     |some q=>
      simp only[zCp,zBK];by_cases z:p.2+1+(q.1:Int)<=25
      .rw[if_pos z,if_pos (by simp;omega)]
      .rw[if_neg z,if_neg (by simp;omega)]
    have aE:Gd (qs++[p]) ones↔Gd (qs++ys.map λ y=>(y,p.2+1)) ones:=by
     unfold Gd;rw[ht,h1,<-wD]
    rcases ih with ⟨g,Y',e2⟩|⟨g,e2⟩
    .exact .inl ⟨aE.mpr g,Y',e2⟩
    .exact .inr ⟨λ z=>g (aE.mp z),e2⟩
   .rw[e]
    refine .inr ⟨?_,rfl⟩;rintro⟨t,h1,h2⟩;rw[ht]at h1;rcases c with c|c|⟨c,c'⟩
    .rw[aBe,c]at h1
     cases hq2:tot qs<;>simp[hq2]at h1
    .have:tot [p]=none:=by
      rw[aBe];cases hl:lk p.1 with
      |none=>rfl
      |some q=>
       have:=xM (a:=q.1) (b:=q.2) hl
       simp only[zBK];rw[if_neg (by omega)]
     rw[this]at h1;cases hq2:tot qs<;>simp[hq2]at h1
    .rw[aBe,qG c,ni]at h1
     cases hq2:tot qs with
     |none=>simp[hq2]at h1
     |some a=>
      rw[hq2]at h1;simp only[zBK]at h1;split at h1
      .simp at h1;omega
      .simp at h1
def oZ(x:D):Bool:=match lk x with
 |some q=>decide (q.1<=24)&&decide (q.2<=40)
 |none=>false
def aBD{x:D}(hs:Sm x)(hn:nd x<90000):gK [x]= .ok (.bl (oZ x)):=by
 have hl:=loop (x0:=x) fuel [(x,1)] 0 .no .no (by simp[nst,fuel];omega) (by simp[nst];omega) (by simpa using hs) (by omega);have hg:Gd [(x,1)] 0↔oZ x=true:=by
  unfold Gd oZ;rw[aBe];cases lk x with
  |none=>simp
  |some q=>
   simp only[zBK];by_cases z:(1:Int)+(q.1:Int)<=25
   .rw[if_pos z];simp;omega
   .rw[if_neg z];simp;omega
 have h1:lB cW uW [.sh x,.oz (.lst [pr (x,1)]),.sh (.int 0),.no,.no]=itW cW uW fuel [.sh x,.oz (.lst ([(x,(1:Int))].map pr)),.sh (.int 0),.no,.no]:=rfl;have hd:iC=aa (aCp 1 (cM (aA (bC (aA (aD 0) (aA (cD (.int 1)) aG))) aG))) (aa (bz 2 (cD (.int 0))) (aa (lB cW uW) (retS (cD (.bl true))))):=rfl;rcases hl with ⟨g,Y',e⟩|⟨g,e⟩
 .have e':lB cW uW [.sh x,.oz (.lst [.tup [x,.int 1]]),.sh (.int 0),.no,.no]= .nx Y':=e
  simp[gK,hd,bG,e',hg.mp g]
 .have e':lB cW uW [.sh x,.oz (.lst [.tup [x,.int 1]]),.sh (.int 0),.no,.no]= .rt (.bl false):=e
  have:oZ x=false:=by
   cases c:oZ x with
   |false=>rfl
   |true=>exact absurd (hg.mpr c) g
  simp[gK,hd,bG,e',this]
def aA4(l:List D)(f:Nat):cutD l none (some (f:Int))=l.take f:=by
 unfold cutD;rw[HT.rQ,HT.yR,zDJ,zFx];by_cases h:f<=l.length
 .rw[zDd h]
 .rw[zEd (by omega),zAz (zAL _),zAz (by omega)]
def uZ(l:List D)(f:Nat):cutD l (some (f:Int)) none=l.drop f:=by
 unfold cutD;rw[HT.rQ,HT.yR];by_cases h:f<=l.length
 .rw[zDd h,zAz (by simp)]
 .rw[zEd (by omega),List.drop_of_length_le (by omega:l.length<=f)]
  simp
def aGM(l:List D)(f w:Nat)(h:f<=l.length):cutD l (some (f:Int)) (some ((f+w:Nat):Int))=(l.drop f).take w:=by
 unfold cutD;rw[HT.rQ,HT.rQ,zDd h];by_cases h2:f+w<=l.length
 .rw[zDd h2,Nat.add_sub_cancel_left]
 .rw[zEd (by omega),zAz (by simp),zAz (by simp;omega)]
mutual
def plB:D->Bool
 | .tup [.str _]=>true
 | .tup [.str _,.tup ys]=>!ys.isEmpty&&jo ys
 |_=>false
def jo:List D->Bool
 |[]=>true
 |y::ys=>plB y&&jo ys
end
theorem lJ:∀(l m:List D),jo (l++m)=(jo l&&jo m)
 |[],m=>by simp[jo]
 |y::l,m=>by simp[jo,lJ l m,zGe]
theorem ou:∀(l m:List D),nds (l++m)=nds l+nds m
 |[],m=>by simp[nds]
 |y::l,m=>by simp[nds,ou l m];omega
theorem pP:∀(l m:List D),bU (l++m)=max (bU l) (bU m)
 |[],m=>by simp[bU]
 |y::l,m=>by simp[bU,pP l m,zHF]
def aFT{x:D}(h:plB x=true):(∃s,x= .tup [.str s])\/∃w ys,x= .tup [.str w,.tup ys]/\ys≠[]/\jo ys=true:=by
 cases x with
 |tup l=>
  match l with
  |[]=>simp[plB]at h
  |[a]=>
   cases a with
   |str s=>exact .inl ⟨s,rfl⟩
   |_=>simp[plB]at h
  |[a,b]=>
   cases a with
   |str w=>
    cases b with
    |tup ys=>
     simp[plB]at h;exact .inr ⟨w,ys,rfl,by simpa using h.1,h.2⟩
    |_=>simp[plB]at h
   |_=>simp[plB]at h
  |a::b::c::r=>exfalso;revert h;cases a<;>cases b<;>intro h<;>cases h
 |_=>simp[plB]at h
mutual
theorem aAE:∀(x:D),plB x=true->imm x=true/\aV x=true
 | .tup [.str s],_=>⟨rfl,rfl⟩
 | .tup [.str w,.tup ys],h=>by
  simp only[plB,zAK]at h
  have:=wg ys h.2
  exact⟨by simp[imm,cF,this.1],by simp[aV,au,this.2]⟩
 | .non,h=>by simp[plB]at h
 | .bl _,h=>by simp[plB]at h
 | .int _,h=>by simp[plB]at h
 | .str _,h=>by simp[plB]at h
 | .lst _,h=>by simp[plB]at h
 | .dct _ _,h=>by simp[plB]at h
 | .set _,h=>by simp[plB]at h
 | .scr _,h=>by simp[plB]at h
 | .tup [],h=>by simp[plB]at h
 | .tup [.non],h=>by cases h
 | .tup [.bl _],h=>by cases h
 | .tup [.int _],h=>by cases h
 | .tup [.tup _],h=>by cases h
 | .tup [.lst _],h=>by cases h
 | .tup [.dct _ _],h=>by cases h
 | .tup [.set _],h=>by cases h
 | .tup [.scr _],h=>by cases h
 | .tup (a::b::c::r),h=>by exfalso;revert h;cases a<;>cases b<;>intro h<;>cases h
 | .tup [a,b],h=>by
  rcases aFT h with ⟨s,e⟩|⟨w,ys,e,h1,h2⟩
  .cases e
  .cases e
   have:=wg ys h2
   exact⟨by simp[imm,cF,this.1],by simp[aV,au,this.2]⟩
theorem wg:∀(l:List D),jo l=true->cF l=true/\au l=true
 |[],_=>⟨rfl,rfl⟩
 |y::ys,h=>by
  simp only[jo,zAK]at h;have h1:=aAE y h.1;have h2:=wg ys h.2;exact⟨by simp[cF,h1.1,h2.1],by simp[au,h1.2,h2.2]⟩
end
def aFJ(m:Nat):jo (zAO m bF)=true/\nds (zAO m bF)=2*m/\bU (zAO m bF)<=1:=by
 induction m with
 |zero=>exact⟨rfl,rfl,by simp[bU]⟩
 |succ m ih=>
  rw[zAv];refine⟨by simp only[jo,ih.1,zFQ];rfl,?_,?_⟩
  .simp only[nds,ih.2.1];simp[bF,nd,nds];omega
  .simp only[bU];have:=ih.2.2;have:gB bF=1:=by simp[bF,gB,bU]
   omega
def aES(m:Nat):(zAO m [bF]).flatten=zAO m bF:=by
 induction m with
 |zero=>rfl
 |succ m ih=>rw[zAv,zA5,ih];rfl
def merge{L:List D}{f w:Nat}{s:Str}{i m:Nat}(hf:f<L.length)(hw:1<=w)(h1:jo L=true)(h2:nds L<=2*m+3*i)(h3:bU L<=1+2*i):
  let L2:=L.take f++[.tup [.str s,.tup ((L.drop f).take w)]]++L.drop (f+w)
  L2≠[]/\jo L2=true/\nds L2<=2*m+3*(i+1)/\bU L2<=1+2*(i+1):=by
 have e:L=L.take f++((L.drop f).take w++L.drop (f+w)):=by
  rw[<-zGg,zBE,zBE]
 have hne:(L.drop f).take w≠[]:=by
  intro z
  have:=congrArg zCz z
  simp at this;omega
 rw[e,lJ,lJ]at h1;rw[e,ou,ou]at h2;rw[e,pP,pP]at h3;simp only[zAK]at h1;refine⟨by simp,?_,?_,?_⟩
 .rw[lJ,lJ]
  simp[jo,plB,h1,hne]
 .rw[ou,ou]
  simp[nds,nd];omega
 .rw[pP,pP]
  simp[bU,gB];omega
def yS{lo hi:Int}{i:Nat}{d:D}(h:(gk lo hi)[i]? =some d):d= .int (lo+i)/\lo+i<hi:=by
 unfold gk at h;rw[zAW]at h;by_cases hi2:i<(hi-lo).toNat
 .rw[zDv hi2]at h
  cases h;exact⟨rfl,by omega⟩
 .rw[zD6 (by simpa using hi2)]at h
  cases h
def Pv(L:List D)(m:Nat):Prop:=∃d,lks L=some (d,m)/\d+L.length<=m+1
theorem pC:∀(a b:List D),lks (a++b)=(lks a).bind λ p=>(lks b).map λ q=>(max p.1 q.1,p.2+q.2)
 |[],b=>by cases h:lks b<;>simp[lks,h]
 |x::a,b=>by
  rw[zCj];simp only[lks,pC a b];cases lk x with
  |none=>rfl
  |some p=>
   cases lks a with
   |none=>rfl
   |some q=>
    cases lks b with
    |none=>rfl
    |some r=>simp[zHF,zF4]
theorem aBB:∀m:Nat,Pv (zAO m bF) m
 |0=>⟨0,rfl,by simp⟩
 |m+1=>by
  obtain⟨d,h1,h2⟩:=aBB m;rw[zD7]at h2;refine⟨max 1 d,?_,by rw[zD7];omega⟩;rw[zAv];simp[lks,ni,h1,Nat.add_comm]
def pv_first{x:D}{r:List D}{m:Nat}(h:Pv (x::r) m):∃d o,lk x=some (d,o)/\d<=m/\o<=m:=by
 obtain⟨d,h1,h2⟩:=h;simp only[lks]at h1;cases hx:lk x with
 |none=>rw[hx]at h1;cases h1
 |some p=>
  rw[hx]at h1;cases hr:lks r with
  |none=>rw[hr]at h1;cases h1
  |some q=>
   rw[hr]at h1;simp at h1 h2;exact⟨p.1,p.2,rfl,by omega,by omega⟩
def aID{L:List D}{f w m:Nat}{s:Str}(hs:(s=="beside"||s=="across")=true)(h2:2<=((L.drop f).take w).length)(h:Pv L m):Pv (L.take f++[.tup [.str s,.tup ((L.drop f).take w)]]++L.drop (f+w)) m:=by
 have e:L=L.take f++((L.drop f).take w++L.drop (f+w)):=by
  rw[<-zGg,zBE,zBE]
 obtain⟨d,h1,h3⟩:=h;have hl:=congrArg zCz e;rw[zAC,zAC]at hl;rw[e,pC,pC]at h1;generalize L.take f=P at*;generalize (L.drop f).take w=X at*;generalize L.drop (f+w)=Z at*;cases hP:lks P with
 |none=>rw[hP]at h1;cases h1
 |some p=>
  cases hX:lks X with
  |none=>rw[hP,hX]at h1;cases h1
  |some x=>
   cases hZ:lks Z with
   |none=>rw[hP,hX,hZ]at h1;cases h1
   |some z=>
    rw[hP,hX,hZ]at h1;simp at h1;have hn:lk (.tup [.str s,.tup X])=some (x.1+1,x.2):=by simp only[lk];rw[hX,hs];simp[h2]
    refine⟨max p.1 (max (x.1+1) z.1),?_,by rw[zAC,zAC,zBD];omega⟩;rw[zAk,pC,pC,hP,hZ];simp only[lks,hn];simp;omega
def uP:En->Ou:=(ifS (tsb (op2 gtD (opA cJ (aA (dz 3) aG)) (cD (.int 1))))
    (aa (bz 5 (op2 bL (cD (.int 2)) (aW bH (aA (aD 0) (aA (op2 bL (aD 1) (op2 gA (cD (.int 3)) (aD 4))) (aA (cD (.int 3)) aG))))))
    (aa (bz 6 (aW bH (aA (aD 0) (aA (op2 bL (op2 bL (aD 1) (op2 gA (cD (.int 3)) (aD 4))) (cD (.int 1))) (aA (opA (mmD λ i j=>if j>i then j else i) (aA (cD (.int 1)) (aA (op2 bL (op2 aBh (opA cJ (aA (dz 3) aG)) (aD 5)) (cD (.int 1))) aG))) aG)))))
    (aa (jg 7 (op2 ixD (cM (aA (cD (.str "beside")) (aA (cD (.str "across")) aG))) (aW bH (aA (aD 0) (aA (op2 bL (op2 bL (aD 1) (op2 gA (cD (.int 3)) (aD 4))) (cD (.int 2))) (aA (cD (.int 2)) aG))))))
    (jg 3 (op2 bL (op2 bL (bw (dz 3) fB (cZ (aD 6))) (cM (aA (bC (aA (dz 7) (aA (opA j8 (aA (bw (dz 3) (cZ (aD 6)) (cZ (op2 bL (aD 6) (aD 5)))) aG)) aG))) aG))) (bw (dz 3) (cZ (op2 bL (aD 6) (aD 5))) fB))))))
    Ou.nx)
def aBt{c a:Int}{L:List D}{i m:Nat}{s5 s6 s7:Slot}{mm:D}(ha:0<=a)(ha2:a<100000)(hi:i<24)(hm:m<=24)(hne:L≠[])(h1:jo L=true)(h2:nds L<=2*m+3*i)(h3:bU L<=1+2*i)(hP:Pv L m):
  ∃L2 t5 t6 t7,uP [.sh (.int c),.sh (.int a),.sh mm,.nw (.lst L),.sh (.int i),s5,s6,s7]= .nx [.sh (.int c),.sh (.int a),.sh mm,.nw (.lst L2),.sh (.int i),t5,t6,t7]/\L2≠[]/\jo L2=true/\nds L2<=2*m+3*(i+1)/\bU L2<=1+2*(i+1)/\Pv L2 m:=by
 have kX:=rU L;by_cases hl:1<L.length
 .have hl':(1:Int)<L.length:=by omega
  have hm3:gA (.int 3) (.int (i:Int))= .ok (.int (3*(i:Int))):=xG (by decide) (by decide);obtain⟨r,er,hr⟩:=m6 (c:=c) (k:=a+3*(i:Int)) (b:=3) (by omega) (by omega) (by omega) (by omega);let B:Int:=if (L.length:Int)-(2+(r:Int))+1>1 then(L.length:Int)-(2+(r:Int))+1 else 1
  have hB:0<B/\B<L.length:=by
   by_cases z:(L.length:Int)-(2+(r:Int))+1>1
   .have:B=(L.length:Int)-(2+(r:Int))+1:=if_pos z
    omega
   .have:B=1:=if_neg z
    omega
  obtain⟨f,ef,hf⟩:=m6 (c:=c) (k:=a+3*(i:Int)+1) (b:=B) (by omega) (by omega) hB.1 (by omega);obtain⟨q,eq,hq⟩:=m6 (c:=c) (k:=a+3*(i:Int)+2) (b:=2) (by omega) (by omega) (by omega) (by omega);obtain⟨wd,ew,mw,_⟩:=aA7 (l:=[D.str "beside",D.str "across"]) (i:=(q:Int)) (by omega) (by simpa using hq);obtain⟨s,rfl,hs⟩:∃s:Str,wd= .str s/\(s=="beside"||s=="across")=true:=by
   simp at mw;rcases mw with rfl|rfl
   .exact⟨_,rfl,rfl⟩
   .exact⟨_,rfl,rfl⟩
  have h2B:2<=L.length-f:=by
   by_cases z:(L.length:Int)-(2+(r:Int))+1>1
   .have:B=(L.length:Int)-(2+(r:Int))+1:=if_pos z
    omega
   .have:B=1:=if_neg z
    omega
  have hfl:f<L.length:=by omega
  have ec1:cutD L none (some (f:Int))=L.take f:=aA4 L f;have ec2:cutD L (some (f:Int)) (some ((f:Int)+(2+(r:Int))))=(L.drop f).take (2+r):=by
   have:=aGM L f (2+r) (by omega)
   rw[<-this];congr 2
  have ec3:cutD L (some ((f:Int)+(2+(r:Int)))) none=L.drop (f+(2+r)):=by
   have:=uZ L (f+(2+r))
   rw[<-this];congr 2
  have mg:=merge (s:=s) hfl (by omega:1<=2+r) h1 h2 h3;have z1:min f L.length+1<=16777216:=by omega
  have z2:min f L.length+(1+(L.length-(f+(2+r))))<=16777216:=by omega
  refine⟨_,.sh (.int (2+(r:Int))),.sh (.int f),.nw (.str s),?_,mg.1,mg.2.1,mg.2.2.1,mg.2.2.2,aID hs (by rw[zB2,zBx];omega) hP⟩;have ef':bH [.int c,.int (a+3*(i:Int)+1),.int (if (L.length:Int)-(2+(r:Int))+1>1 then(L.length:Int)-(2+(r:Int))+1 else 1)]= .ok (.int f):=ef;simp only[gt_iff_lt]at ef';simp[uP,hl',hm3,er,ef',eq,ew,ec1,ec2,ec3];rw[if_pos (by omega)];simp;rw[if_pos (by omega)];simp
 .refine⟨L,s5,s6,s7,?_,hne,h1,by omega,by omega,hP⟩
  have hl':¬(1:Int)<L.length:=by omega
  simp[uP,hl']
def aDb(m:Nat)(h:m<=24):gA (.lst [.tup [.str "one"]]) (.int (m:Int))= .ok (.lst (zAO m bF)):=by
 unfold gA;dsimp only;rw[if_pos (by simp[cF,imm,zAN];omega),zDU]
 have:=aES m
 unfold bF at this ⊢;rw[this]
def qg{c a:Int}{m:Nat}(ha:0<=a)(ha2:a<100000)(hm0:1<=m)(hm:m<=24):∃p,eY [.int c,.int a,.int m]= .ok p/\plB p=true/\nd p<=200/\gB p<=49/\∃d o,lk p=some (d,o)/\d<=m/\o<=m:=by
 have hr:=mK (j:=(m:Int)) (by omega) (by omega);have h1:=aFJ m;obtain⟨Y',e,L,t4,t5,t6,t7,rfl,hne,g1,g2,g3,gP⟩:=pM (a:=gnm 4) (u:=uP) (ds:=gk 0 (m:Int))
  (λ i Y=>∃L t4 t5 t6 t7,Y=[.sh (.int c),.sh (.int a),.sh (.int m),.nw (.lst L),t4,t5,t6,t7]/\L≠[]/\jo L=true/\nds L<=2*m+3*i/\bU L<=1+2*i/\Pv L m)
  (by
   rintro i d Y hd ⟨L,t4,t5,t6,t7,rfl,hne,g1,g2,g3,gP⟩;obtain⟨rfl,hlt⟩:=yS hd;obtain⟨L2,q5,q6,q7,e,z⟩:=aBt (c:=c) (i:=i) (s5:=t5) (s6:=t6) (s7:=t7) (mm:=.int m) ha ha2 (by omega) hm hne g1 g2 g3 gP;refine⟨_,?_,L2,.sh (.int i),q5,q6,q7,rfl,z⟩;simp[e])
  (Y:=[.sh (.int c),.sh (.int a),.sh (.int m),.nw (.lst (zAO m bF)),.no,.no,.no,.no])
  ⟨_,_,_,_,_,rfl,by simp;omega,h1.1,by omega,h1.2.2,aBB m⟩
 have kX:(gk 0 (m:Int)).length=m:=by simp[gk]
 rw[kX]at g2 g3;have hd:gD=aa (jg 3 (op2 gA (cM (aA (bC (aA (cD (.str "one")) aG)) aG)) (bV (aD 2)))) (aa (ju (km lG (aA (aD 2) aG)) (gnm 4) uP) (retS (op2 ixD (dz 3) (cD (.int 0))))):=rfl;cases L with
 |nil=>exact absurd rfl hne
 |cons x r=>
  simp only[jo,zAK]at g1;simp only[nds]at g2;simp only[bU]at g3;refine⟨x,?_,g1.1,by omega,by omega,pv_first gP⟩;simp[eY,hd,bG,aDb m hm,hr,e]
section
variable{Y:En}{fg:D->En->Rs En}{fe:En->Rs D}{fi:En->Rs (List D)}{js:iX}{ds out:List D}
theorem lN{α:Type}{f g:α->D}:∀(l:List α),(∀x∈l,∃Y1,fg (f x) Y= .ok Y1/\fe Y1= .ok (g x))->lcL Y fg gh fe (l.map f)= .ok (l.map g)
 |[],_=>rfl
 |x::l,h=>by
  obtain⟨Y1,e1,e2⟩:=h x zAD;rw[zAU,lcL,e1,aN];simp only[gh,aN,if_true];rw[e2,aN]
  have:=lN l λ z hz=>h z (zAF _ hz)
  rw[this,aN];rfl
def nj(h1:fi (shE Y)= .ok ds)(h2:ds.length<16777216)(h3:lcL (stE js (shE Y)) fg ft fe ds= .ok out):lcD fi js fg ft fe Y= .ok (.lst out):=by
 unfold lcD;rw[h1,aN,if_pos (show ds.length<zAN from h2),h3]
end
def pD(p:Int×Int):D:=.tup [.int p.1,.int p.2]
def shf(s:Int)(p:Int×Int):Int×Int:=(s+p.1,s+p.2)
def crs(m o:Nat):gX:=(zAj m).flatMap λ(p:Nat)=>(zAj o).map λ(q:Nat)=>((p:Int),(m:Int)+(q:Int))
def wid(x:D):Nat:=((lk x).getD (0,0)).2
mutual
def tw:D->List (Int×Int)
 | .tup [.str w,.tup ys]=>tws ys (w=="across") 0
 |_=>[]
def tws:List D->Bool->Nat->List (Int×Int)
 |[],_,_=>[]
 |y::ys,b,m=>((tw y).map (shf m)++(if b then crs m (wid y)else[]))++tws ys b (m+wid y)
end
def aB6(m o:Nat):(crs m o).length=m*o:=by
 unfold crs;rw[List.length_flatMap];simp only[zAE,zDR];rw[zEn,zF3,zDR]
def aJD(s:Int)(m:Nat):gk s (s+m)=(zAj m).map λ(k:Nat)=>.int (s+(k:Int)):=by
 unfold gk;rw[show(s+(m:Int)-s).toNat=m by omega]
def aGf(m:Nat):gk 0 (m:Int)=(zAj m).map λ(k:Nat)=>.int (k:Int):=by
 have:=aJD 0 m
 simpa using this
def xQ(w:Str):eqR false (.str w) (.str "across")= .ok (.bl (w=="across")):=by
 unfold eqR;simp[gB,aV,eqD]
def pB{y:D}{ys:List D}{d o:Nat}(h:lks (y::ys)=some (d,o)):∃d1 o1 d2 o2,lk y=some (d1,o1)/\lks ys=some (d2,o2)/\d1<=d/\d2<=d/\o=o1+o2/\wid y=o1:=by
 simp only[lks]at h;cases hx:lk y with
 |none=>rw[hx]at h;cases h
 |some p=>
  rw[hx]at h;cases hr:lks ys with
  |none=>rw[hr]at h;cases h
  |some q=>
   rw[hr]at h;simp at h;exact⟨p.1,p.2,q.1,q.2,rfl,rfl,by omega,by omega,by omega,by simp[wid,hx]⟩
def aCi(m o:Nat):(m+o)*(m+o)=m*m+m*o+(m*o+o*o):=by
 rw[Nat.add_mul,Nat.mul_add,Nat.mul_add,zE5 o m]
def aGc{a b:Nat}(h:a<=b):a*a<=b*b:=zGr h h
def aD5{x:D}(hs:Sm x):eqR false x bF= .ok (.bl (nW x)):=by
 rw[aEV hs.2 hs.1 rfl];rfl
structure Ts(m o:Nat)(T:gX):Prop where
 rg:∀p∈T,0<=p.1/\p.1<p.2/\(m:Int)<=p.2/\p.2<((m+o:Nat):Int)
 nd:T.Nodup
 len:T.length+m*m<=(m+o)*(m+o)
def rT{m o:Nat}{p:Int×Int}:p∈crs m o↔0<=p.1/\p.1<m/\(m:Int)<=p.2/\p.2<((m+o:Nat):Int):=by
 unfold crs;simp only[zBM,zA4,zAx];constructor
 .rintro⟨a,ha,b,hb,rfl⟩
  dsimp only;lia
 .intro h
  refine⟨p.1.toNat,by lia,(p.2-m).toNat,by lia,zEf ?_ ?_⟩<;>dsimp only<;>lia
theorem aBL{α β:Type}{f:α->List β}:∀{l:List α},l.Nodup->(∀a∈l,(f a).Nodup)->(∀a∈l,∀b∈l,a≠b->∀x∈f a,x∉f b)->(l.flatMap f).Nodup
 |[],_,_,_=>zBC
 |a::l,h,h1,h2=>by
  obtain⟨ha,hl⟩:=zBB.mp h;rw[zAt,zAu];refine⟨h1 a zAD,aBL hl (λ b hb=>h1 b (zAF _ hb)) (λ b hb c hc=>h2 b (zAF _ hb) c (zAF _ hc)),λ x hx y hy e=>?_⟩;subst e;obtain⟨b,hb,hy⟩:=zBM.mp hy;exact h2 a zAD b (zAF _ hb) (λ e=>ha (e▸hb)) x hx hy
def tW{α β:Type}{f:α->β}{l:List α}(h:l.Nodup)(hi:∀a∈l,∀b∈l,f a=f b->a=b):(l.map f).Nodup:=by
 induction l with
 |nil=>exact zBC
 |cons a l ih=>
  obtain⟨ha,hl⟩:=zBB.mp h;rw[zAU,zBB];refine⟨λ hm=>?_,ih hl λ b hb c hc=>hi b (zAF _ hb) c (zAF _ hc)⟩;obtain⟨b,hb,e⟩:=zA4.mp hm
  have:=hi b (zAF _ hb) a zAD e
  exact ha (this▸hb)
def aI6(m o:Nat):(crs m o).Nodup:=by
 unfold crs;refine aBL zE1 (λ a _=>tW zE1 λ b _ c _ e=>?_) (λ a _ b _ ne x hx hy=>?_)
 .have:=congrArg zGt e
  dsimp only at this;lia
 .obtain⟨c,_,rfl⟩:=zA4.mp hx
  obtain⟨d,_,e⟩:=zA4.mp hy
  have:=congrArg zGO e
  dsimp only at this;lia
theorem aC9{n:Nat}(IH:∀(x:D) (d o:Nat),lk x=some (d,o)->d<=n->Ts 0 o (tw x)){b:Bool}:∀(ys:List D) (m d o:Nat),lks ys=some (d,o)->d<=n->Ts m o (tws ys b m)
 |[],m,d,o,h,_=>by
  simp only[lks,zCA,zEw]at h;obtain⟨rfl,rfl⟩:=h;rw[tws];exact⟨λ p hp=>(nomatch hp),zBC,by simp⟩
 |y::ys,m,d,o,h,hd=>by
  obtain⟨d1,o1,d2,o2,e1,e2,l1,l2,rfl,ew⟩:=pB h;have A:=IH y d1 o1 e1 (by omega);have B:=aC9 IH (b:=b) ys (m+o1) d2 o2 e2 (by omega);have a1:∀p∈(tw y).map (shf m),(m:Int)<=p.1/\p.1<p.2/\p.2<((m+o1:Nat):Int):=λ p hp=>by
   obtain⟨q,hq,rfl⟩:=zA4.mp hp
   have:=A.rg q hq
   simp only[shf];omega
  have a2:∀p∈(if b=true then crs m o1 else[]),0<=p.1/\p.1<m/\(m:Int)<=p.2/\p.2<((m+o1:Nat):Int):=λ p hp=>by
   split at hp
   .exact rT.mp hp
   .cases hp
  rw[tws,ew];refine⟨λ p hp=>?_,?_,?_⟩
  .rcases zAM.mp hp with hp|hp
   .rcases zAM.mp hp with hp|hp
    .have:=a1 p hp
     omega
    .have:=a2 p hp
     omega
   .have:=B.rg p hp
    omega
  .rw[zAu,zAu]
   refine⟨⟨tW A.nd λ p _ q _ e=>?_,?_,λ p hp q hq e=>?_⟩,B.nd,λ p hp q hq e=>?_⟩
   .have h1:=congrArg zGO e
    have h2:=congrArg zGt e;simp only[shf]at h1 h2;exact zEf (by omega) (by omega)
   .split
    .exact aI6 m o1
    .exact zBC
   .subst e
    have h1:=a1 p hp;have h2:=a2 p hq;omega
   .subst e
    have h3:=B.rg p hq;rcases zAM.mp hp with hp|hp
    .have:=a1 p hp
     omega
    .have:=a2 p hp
     omega
  .rw[zAC,zAC,zAE]
   have h1:=A.len;have h2:=B.len;have h3:(if b=true then crs m o1 else[]).length<=m*o1:=by
    split
    .rw[aB6];exact zAL _
    .exact zAc _
   have h4:=aCi m o1;rw[<-zF4];simp only[Nat.zero_add,Nat.mul_zero,Nat.add_zero]at h1;omega
theorem aAd:∀(n:Nat) (x:D) (d o:Nat),lk x=some (d,o)->d<=n->Ts 0 o (tw x)
 |0,x,d,o,h,hd=>by have:=xM h;omega
 |n+1,x,d,o,h,hd=>by
  cases c1:nW x with
  |true=>
   have:=qG c1
   subst this;have e:tw bF=[]:=by simp[bF,tw]
   rw[e];exact⟨λ p hp=>(nomatch hp),zBC,by simp⟩
  |false=>
   cases c2:iM x with
   |false=>rw[pF c1 c2]at h;cases h
   |true=>
    obtain⟨w,ys,rfl,h2,hl⟩:=lH c2;rw[hl]at h;cases hy:lks ys with
    |none=>rw[hy]at h;cases h
    |some q=>
     rw[hy]at h;obtain⟨q1,q2⟩:=q;cases h;rw[tw];exact aC9 (aAd n) ys 0 q1 q2 hy (by omega)
def aHD{x:D}{d o:Nat}(h:lk x=some (d,o)):(tw x).length<=o*o:=by
 have:=(aAd d x d o h (zAL _)).len
 simpa using this
def eS:En->Ou:=aA0 2 (lcD (gm (aD 5)) [none,none,some 1] (iU 2 (bJ (gnm 0) (bJ (gnm 1) iw))) gh (bC (aA (op2 bL (bV (aD 2)) (bV (aD 0))) (aA (op2 bL (bV (aD 2)) (bV (aD 1))) aG))))
def eB:En->Ou:=(aA0 2 (lcD (km lG (aA (aD 4) aG)) [none,some 6,some 1] (gnm 0) gh (bC (aA (bV (aD 1)) (aA (op2 bL (bV (aD 2)) (bV (aD 0))) aG)))))
def uV(R:List D->Rs D):En->Ou:=
   (aa (ue (aW R (aA (aD 3) aG)) (iU 2 (bJ (gnm 4) (bJ (gnm 5) iw))))
   (aa eS
   (aa (ifS (tsb (op2 (eqR false) (op2 ixD (aD 0) (cD (.int 0))) (cD (.str "across"))))
    (ju (km lG (aA (aD 1) aG)) (gnm 6) eB)
    Ou.nx)
   (bz 1 (op2 bL (aD 1) (aD 4))))))
def aJ6{x y a:D}{m:Nat}{L B:gX}{t6:Slot}(h:L.length+B.length<=16000000):
  eS [.sh x,.sh (.int m),.ow (.lst (L.map pD)),.sh y,.sh a,.sh (.lst (B.map pD)),t6]= .nx [.sh x,.sh (.int m),.ow (.lst ((L++B.map (shf m)).map pD)),.sh y,.sh a,.sh (.lst (B.map pD)),t6]:=by
 have e:lcD (gm (aD 5)) [none,none,some 1] (iU 2 (bJ (gnm 0) (bJ (gnm 1) iw))) gh (bC (aA (op2 bL (bV (aD 2)) (bV (aD 0))) (aA (op2 bL (bV (aD 2)) (bV (aD 1))) aG))) [.sh x,.sh (.int m),.ow (.lst (L.map pD)),.sh y,.sh a,.sh (.lst (B.map pD)),t6]= .ok (.lst (B.map λ p=>pD (shf m p))):=by
  refine nj (ds:=B.map pD) (by simp[shE,sE]) (by rw[zAE];omega) ?_;have hs:stE [none,none,some 1] (shE [.sh x,.sh (.int m),.ow (.lst (L.map pD)),.sh y,.sh a,.sh (.lst (B.map pD)),t6])=[.no,.no,.sh (.int m)]:=by simp[stE,shE,sE]
  rw[hs];exact lN B λ p _=>⟨[.sh (.int p.1),.sh (.int p.2),.sh (.int m)],by simp[pD],by simp[pD,shf]⟩
 unfold eS
 show(lcD _ _ _ _ _ _).bo _=_
 rw[e,dB];unfold zF;dsimp only;have hsz:zAN=16777216:=rfl;rw[if_pos (by simp only[zAE];omega),zAi,zAq];rfl
def row(m o p:Nat):gX:=(zAj o).map λ(q:Nat)=>((p:Int),(m:Int)+(q:Int))
def aJ7{x y a:D}{m o p:Nat}{L:gX}(h:L.length<=100000)(h2:o<=100):
  eB [.sh x,.sh (.int m),.ow (.lst (L.map pD)),.sh y,.sh (.int o),.sh a,.sh (.int p)]= .nx [.sh x,.sh (.int m),.ow (.lst ((L++row m o p).map pD)),.sh y,.sh (.int o),.sh a,.sh (.int p)]:=by
 have e:lcD (km lG (aA (aD 4) aG)) [none,some 6,some 1] (gnm 0) gh (bC (aA (bV (aD 1)) (aA (op2 bL (bV (aD 2)) (bV (aD 0))) aG))) [.sh x,.sh (.int m),.ow (.lst (L.map pD)),.sh y,.sh (.int o),.sh a,.sh (.int p)]= .ok (.lst ((zAj o).map λ(q:Nat)=>pD ((p:Int),(m:Int)+(q:Int)))):=by
  have r1:=mK (j:=(o:Int)) (by omega) (by omega);rw[aGf]at r1;refine nj (ds:=(zAj o).map λ(k:Nat)=>.int (k:Int)) (by simp[shE,sE,r1]) (by simp;omega) ?_;have hs:stE [none,some 6,some 1] (shE [.sh x,.sh (.int m),.ow (.lst (L.map pD)),.sh y,.sh (.int o),.sh a,.sh (.int p)])=[.no,.sh (.int p),.sh (.int m)]:=by simp[stE,shE,sE]
  rw[hs];exact lN _ λ q _=>⟨[.sh (.int q),.sh (.int p),.sh (.int m)],by simp,by simp[pD]⟩
 unfold eB aA0;simp only[zCZ,zC0];rw[e,dB];unfold zF;dsimp only;have hsz:zAN=16777216:=rfl;rw[if_pos (by simp only[zAE,zDR];omega),zAi];unfold row;rw[zAq];rfl
theorem aAz{x y a:D}{m o:Nat}(h2:o<=100):∀(ps:List Nat) (L:gX) (t6:Slot),L.length+ps.length*o<=100000->
  ∃u6,forL (gnm 6) eB (ps.map λ(k:Nat)=>.int (k:Int)) [.sh x,.sh (.int m),.ow (.lst (L.map pD)),.sh y,.sh (.int o),.sh a,t6]= .nx [.sh x,.sh (.int m),.ow (.lst ((L++ps.flatMap (row m o)).map pD)),.sh y,.sh (.int o),.sh a,u6]
 |[],L,t6,_=>⟨t6,by simp[forL]⟩
 |p::ps,L,t6,h=>by
  rw[zAS,Nat.add_mul]at h;have hl:(row m o p).length=o:=by simp[row]
  obtain⟨u6,e⟩:=aAz h2 ps (L++row m o p) (.sh (.int p)) (by rw[zAC,hl];omega);refine⟨u6,?_⟩;rw[zAU,gw,lV,iQ]
  show(eB [.sh x,.sh (.int m),.ow (.lst (L.map pD)),.sh y,.sh (.int o),.sh a,.sh (.int p)]).tn _=_
  rw[aJ7 (by omega) h2,yD,e,zAt,zAk]
def aIp{R:List D->Rs D}{w:Str}{z y:D}{m o:Nat}{A:gX}{t3 t4 t5 t6:Slot}(hR:R [y]= .ok (.tup [.int o,.lst ((tw y).map pD)]))(h2:m<=100)(h3:o<=100)(hA:A.length<=10000)(ht:(tw y).length<=10000):
  ∃u3 u4 u5 u6,okE (gnm 3 y [.sh (.tup [.str w,z]),.sh (.int m),.ow (.lst (A.map pD)),t3,t4,t5,t6]) (uV R)= .nx [.sh (.tup [.str w,z]),.sh (.int (m+o:Nat)),.ow (.lst ((A++((tw y).map (shf m)++(if (w=="across")=true then crs m o else[]))).map pD)),u3,u4,u5,u6]:=by
 have c1:ue (aW R (aA (aD 3) aG)) (iU 2 (bJ (gnm 4) (bJ (gnm 5) iw))) [.sh (.tup [.str w,z]),.sh (.int m),.ow (.lst (A.map pD)),.sh y,t4,t5,t6]= .nx [.sh (.tup [.str w,z]),.sh (.int m),.ow (.lst (A.map pD)),.sh y,.sh (.int o),.sh (.lst ((tw y).map pD)),t6]:=by
  simp[ue,hR]
 have c2:=aJ6 (x:=.tup [.str w,z]) (y:=y) (a:=.int o) (m:=m) (L:=A) (B:=tw y) (t6:=t6) (by omega);have hmo:m*o<=100*100:=zGr h2 h3;obtain⟨u6,e⟩:=aAz (x:=.tup [.str w,z]) (y:=y) (a:=.lst ((tw y).map pD)) (m:=m) h3 (zAj m) (A++(tw y).map (shf m)) t6 (by rw[zAC,zAE,zDR];omega);have r1:=mK (j:=(m:Int)) (by omega) (by omega);rw[aGf]at r1;have ec:crs m o=(zAj m).flatMap (row m o):=rfl;by_cases hw:(w=="across")=true
 .refine⟨.sh y,.sh (.int o),.sh (.lst ((tw y).map pD)),u6,?_⟩
  have c3:ifS (tsb (op2 (eqR false) (op2 ixD (aD 0) (cD (.int 0))) (cD (.str "across"))))
    (ju (km lG (aA (aD 1) aG)) (gnm 6) eB)
    Ou.nx [.sh (.tup [.str w,z]),.sh (.int m),.ow (.lst ((A++(tw y).map (shf m)).map pD)),.sh y,.sh (.int o),.sh (.lst ((tw y).map pD)),t6]= .nx [.sh (.tup [.str w,z]),.sh (.int m),.ow (.lst ((A++((tw y).map (shf m)++crs m o)).map pD)),.sh y,.sh (.int o),.sh (.lst ((tw y).map pD)),u6]:=by
   rw[<-zAk,ec,<-e];simp only[fX,wC,fO,aAc];simp[xQ,hw,r1]
  rw[lV,iQ];show uV R [.sh (.tup [.str w,z]),.sh (.int m),.ow (.lst (A.map pD)),.sh y,t4,t5,t6]=_;unfold uV;rw[aO,c1,bI,aO,c2,bI,aO,c3,bI,if_pos hw];simp
 .refine⟨.sh y,.sh (.int o),.sh (.lst ((tw y).map pD)),t6,?_⟩
  have c3:ifS (tsb (op2 (eqR false) (op2 ixD (aD 0) (cD (.int 0))) (cD (.str "across"))))
    (ju (km lG (aA (aD 1) aG)) (gnm 6) eB)
    Ou.nx [.sh (.tup [.str w,z]),.sh (.int m),.ow (.lst ((A++(tw y).map (shf m)).map pD)),.sh y,.sh (.int o),.sh (.lst ((tw y).map pD)),t6]= .nx [.sh (.tup [.str w,z]),.sh (.int m),.ow (.lst ((A++(tw y).map (shf m)).map pD)),.sh y,.sh (.int o),.sh (.lst ((tw y).map pD)),t6]:=by
   simp[xQ,hw]
  rw[lV,iQ];show uV R [.sh (.tup [.str w,z]),.sh (.int m),.ow (.lst (A.map pD)),.sh y,t4,t5,t6]=_;unfold uV;rw[aO,c1,bI,aO,c2,bI,aO,c3,bI,if_neg hw,zAb];simp
def aJ9(n:Nat):Prop:=∀(x:D) (d o:Nat),lk x=some (d,o)->d<=n->Sm x->o<=40->cU n [x]= .ok (.tup [.int o,.lst ((tw x).map pD)])
theorem xq{n:Nat}(IH:aJ9 n){w:Str}{z:D}:∀(ys:List D) (m d o:Nat) (A:gX) (t3 t4 t5 t6:Slot),lks ys=some (d,o)->d<=n->m+o<=40->(∀y∈ys,Sm y)->A.length<=m*m->
  ∃u3 u4 u5 u6,forL (gnm 3) (uV (cU n)) ys [.sh (.tup [.str w,z]),.sh (.int m),.ow (.lst (A.map pD)),t3,t4,t5,t6]= .nx [.sh (.tup [.str w,z]),.sh (.int (m+o:Nat)),.ow (.lst ((A++tws ys (w=="across") m).map pD)),u3,u4,u5,u6]
 |[],m,d,o,A,t3,t4,t5,t6,h,_,_,_,hA=>by
  simp only[lks,zCA,zEw]at h;obtain⟨rfl,rfl⟩:=h;exact⟨t3,t4,t5,t6,by simp[tws,forL]⟩
 |y::ys,m,d,o,A,t3,t4,t5,t6,h,hd,hm,hS,hA=>by
  obtain⟨d1,o1,d2,o2,e1,e2,l1,l2,rfl,ew⟩:=pB h;have eR:=IH y d1 o1 e1 (by omega) (hS y zAD) (by omega);have eL:=aHD e1;have q1:=aGc (show o1<=40 by omega);have q2:=aGc (show m<=40 by omega);obtain⟨u3,u4,u5,u6,eu⟩:=aIp (w:=w) (z:=z) (m:=m) (A:=A) (t3:=t3) (t4:=t4) (t5:=t5) (t6:=t6) eR (by omega) (by omega) (by omega) (by omega);have q3:=aCi m o1;have q4:=aB6 m o1;have hl:(A++((tw y).map (shf m)++(if (w=="across")=true then crs m o1 else[]))).length<=(m+o1)*(m+o1):=by
   rw[zAC,zAC,zAE];split
   .omega
   .simp;omega
  obtain⟨v3,v4,v5,v6,ev⟩:=xq IH (w:=w) (z:=z) ys (m+o1) d2 o2 (A++((tw y).map (shf m)++(if (w=="across")=true then crs m o1 else[]))) u3 u4 u5 u6 e2 (by omega) (by omega) (λ q hq=>hS q (zAF _ hq)) hl;have et:tws (y::ys) (w=="across") m=((tw y).map (shf m)++(if (w=="across")=true then crs m o1 else[]))++tws ys (w=="across") (m+o1):=by
   rw[tws,ew]
  refine⟨v3,v4,v5,v6,?_⟩;rw[lV,iQ]at eu;rw[gw,lV,iQ,eu,yD,ev,et,zAk A,zF4]
def aEj(R:List D->Rs D):bj R=aa (ifS (tsb (op2 (eqR false) (aD 0) (bC (aA (cD (.str "one")) aG))))
   (retS (bC (aA (cD (.int 1)) (aA (cM aG) aG))))
   Ou.nx)
  (aa (bz 1 (cD (.int 0)))
  (aa (uq 2 (cM aG))
  (aa (ju (gm (op2 ixD (aD 0) (cD (.int 1)))) (gnm 3) (uV R))
  (retS (bC (aA (bV (aD 1)) (aA (zZ 2) aG))))))):=rfl
theorem aC6:∀n,aJ9 n
 |0,x,d,o,h,hd,_,_=>by have:=xM h;omega
 |n+1,x,d,o,h,hd,hS,h1=>by
  have hq:eqR false x (.tup [.str "one"])= .ok (.bl (nW x)):=aD5 hS;show fu 7 (bj (cU n)) [x]=_;have st:bG 7 [x]=[.sh x,.no,.no,.no,.no,.no,.no]:=rfl;rw[aEj,cH,st];cases c1:nW x with
  |true=>
   have:=qG c1
   subst this;rw[ni]at h;cases h;rw[c1]at hq
   have:tw bF=[]:=by simp[bF,tw]
   rw[this];simp[hq]
  |false=>
   rw[c1]at hq;cases c2:iM x with
   |false=>rw[pF c1 c2]at h;cases h
   |true=>
    obtain⟨w,ys,rfl,h2,hl⟩:=lH c2;rw[hl]at h;cases hy:lks ys with
    |none=>rw[hy]at h;cases h
    |some q=>
     rw[hy]at h;obtain⟨q1,q2⟩:=q;cases h;obtain⟨u3,u4,u5,u6,eu⟩:=xq (aC6 n) (w:=w) (z:=.tup ys) ys 0 q1 q2 [] .no .no .no .no hy (by omega) (by omega) (wM hS) (by simp);have et:tw (.tup [.str w,.tup ys])=tws ys (w=="across") 0:=by rw[tw]
     rw[et];have eu':forL (gnm 3) (uV (cU n)) ys [.sh (.tup [.str w,.tup ys]),.sh (.int 0),.ow (.lst []),.no,.no,.no,.no]= .nx [.sh (.tup [.str w,.tup ys]),.sh (.int q2),.ow (.lst ((tws ys (w=="across") 0).map pD)),u3,u4,u5,u6]:=by
      simpa using eu
     simp[hq,eu']
theorem lL{α:Type}[DecidableEq α]:∀{l m:List α},l.Nodup->(∀x∈l,x∈m)->l.length<=m.length
 |[],_,_,_=>zAc _
 |x::l,m,h,hs=>by
  obtain⟨h1,h2⟩:=zBB.mp h;have hx:=hs x zAD
  have:=lL (m:=m.erase x) h2 λ y hy=>(List.mem_erase_of_ne (λ e:y=x=>h1 (e▸hy))).mpr (hs y (zAF _ hy))
  have hp:=zF2 hx;rw[List.length_erase_of_mem hx]at this;rw[zAS];lia
structure Ow(n:Int)(ps:gX):Prop where
 n0:0<=n
 n1:n<=60
 pr:∀p∈ps,0<=p.1/\p.1<n/\0<=p.2/\p.2<n/\p.1≠p.2
def owD(n:Int)(ps:gX):D:=.tup [.int n,.tup (ps.map pD)]
def mnI(a b:Int):Int:=if b<a then b else a
def mxI(a b:Int):Int:=if b>a then b else a
def upI(n:Int):List Int:=(zAj n.toNat).map λ(k:Nat)=>(k:Int)
def aDC(n:Int):gk 0 n=(upI n).map .int:=by
 unfold gk upI;rw[zAq,show(n-0).toNat=n.toNat by lia];exact zBT λ k _=>by simp
def lC(n:Int):(upI n).Nodup:=by
 unfold upI;rw[List.nodup_iff_pairwise_ne,List.pairwise_map];exact zE1.imp λ h e=>h (by lia)
def gZ:x∈upI n↔0<=x/\x<n:=by
 unfold upI;rw[zA4];constructor
 .rintro⟨k,hk,rfl⟩
  have:=zAx.mp hk
  lia
 .rintro⟨h0,h1⟩
  exact⟨x.toNat,zAx.mpr (by lia),by lia⟩
def rm(n:Int):(upI n).length=n.toNat:=by unfold upI;simp
theorem dI:∀ws:List Int,cF (ws.map .int)=true
 |[]=>rfl
 |_::ws=>by simp only[zAU,cF,dI ws,imm];rfl
theorem mX:∀{l:List D},(∀d∈l,imm d=true)->cF l=true
 |[],_=>rfl
 |x::r,h=>by
  simp only[cF,zAK];exact⟨h x (zAD ..),mX λ d hd=>h d (zAF _ hd)⟩
def aKB(h:l.length+m.length<=16777216):bL (.tup l) (.tup m)= .ok (.tup (l++m)):=by rw[zR,if_pos h]
def inN(S:List Int)(ps:gX):Nat:=(ps.filter λ p=>decide (p.1∈S)&&decide (p.2∈S)).length
def Ac(ps:gX):Prop:=∀S:List Int,S.Nodup->S≠[]->inN S ps+1<=S.length
def aDd(a b:Int):(mnI a b=a/\mxI a b=b)\/(mnI a b=b/\mxI a b=a):=by
 unfold mnI mxI;split<;>split
 .lia
 .exact .inr ⟨rfl,rfl⟩
 .exact .inl ⟨rfl,rfl⟩
 .have:a=b:=by lia
  exact .inl ⟨rfl,this⟩
def dgr(F:gX)(x:Int):Nat:=(F.filter λ t=>decide (t.1=x)||decide (t.2=x)).length
theorem aAl{f g:Int->Nat}:∀l:List Int,(l.map λ x=>f x+g x).sum=(l.map f).sum+(l.map g).sum
 |[]=>rfl
 |x::l=>by
  have:=aAl (f:=f) (g:=g) l
  simp only[zAU,zBV];lia
theorem yH{f g:Int->Nat}:∀{l:List Int},(∀x∈l,f x<=g x)->(l.map f).sum<=(l.map g).sum
 |[],_=>zAL _
 |x::l,h=>by
  have:=yH λ y hy=>h y (zAF _ hy)
  have:=h x zAD
  simp only[zAU,zBV];lia
theorem wH{f:Int->Nat}:∀{l:List Int} {x:Int},x∈l->f x<=(l.map f).sum
 |y::l,x,h=>by
  simp only[zAU,zBV];rcases zAX.mp h with rfl|h
  .lia
  .have:=wH (f:=f) h
   lia
def zH(t:Int×Int)(F:gX)(x:Int):dgr (t::F) x=dgr F x+(if t.1=x\/t.2=x then 1 else 0):=by
 unfold dgr;rw[zAw];by_cases c:t.1=x\/t.2=x
 .rw[if_pos (by simpa using c),if_pos c,zAS]
 .rw[if_neg (by simpa using c),if_neg c]
  rfl
def o9(Fd:List Int)(t:Int×Int):Bool:=!(decide (t.1∈Fd)||decide (t.2∈Fd))
theorem aAk(Fd:List Int):∀F:gX,F.length<=(Fd.map (dgr F)).sum+(F.filter (o9 Fd)).length
 |[]=>zAc _
 |t::F=>by
  have ih:=aAk Fd F;have e:(Fd.map (dgr (t::F))).sum=(Fd.map (dgr F)).sum+(Fd.map λ x=>if t.1=x\/t.2=x then 1 else 0).sum:=by
   rw[<-aAl];exact congrArg List.sum (zBT λ x _=>zH t F x)
  rw[e,zAw,zAS];cases c:o9 Fd t with
  |true=>simp only[if_pos,zAS];lia
  |false=>
   rw[if_neg (by simp)];unfold o9 at c;simp at c
   have:1<=(Fd.map λ x=>if t.1=x\/t.2=x then 1 else 0).sum:=by
    by_cases c1:t.1∈Fd
    .have:=wH (f:=λ x=>if t.1=x\/t.2=x then 1 else 0) c1
     simp at this;simpa using this
    .have:=wH (f:=λ x=>if t.1=x\/t.2=x then 1 else 0) (c c1)
     simp at this;simpa using this
   lia
abbrev Tr:=List (Int×Int)×(Int->Int)×(Int->Int)
def wW(qs:gX)(ls us:List Int):D:=.tup [.tup (qs.map pD),tupI ls,tupI us]
def rwF(n:Int)(t:Tr):D:=wW t.1 ((upI n).map t.2.1) ((upI n).map t.2.2)
def cnd(p:Int×Int)(t:Tr):Bool:=decide (t.2.2 p.1<2)&&(decide (t.2.2 p.2<2)&& !decide (t.2.1 p.1=t.2.1 p.2))
def nwT(p:Int×Int)(t:Tr):Tr:=(t.1++[p],(λ z=>if t.2.1 z=mxI (t.2.1 p.1) (t.2.1 p.2)then mnI (t.2.1 p.1) (t.2.1 p.2)else t.2.1 z),λ z=>t.2.2 z+(if z=p.1\/z=p.2 then 1 else 0))
def cO(ps:gX):List Tr:=ps.foldl (λ L p=>L++(L.filter (cnd p)).map (nwT p)) [([],id,λ _=>0)]
section
variable{n:Int}{ps:gX}
def zP{f:Int->Int}{x:Int}(h0:0<=x)(h1:x<n):atD (((upI n).map f).map .int) x= .ok (.int (f x)):=by
 have ex:((x.toNat:Nat):Int)=x:=zCS h0
 have:=kJ (l:=((upI n).map f).map .int) (k:=x.toNat) (d:=.int (f x)) (by
  rw[zAW,zAW];unfold upI;rw[zAW,zDv (by lia)];simp[ex])
 rwa [ex]at this
def aHZ{x y:Int}(h6:Y[6]? =some (.sh (tupI ((upI n).map lf))))(h8:Y[8]? =some (.sh (.int x)))(h9:Y[9]? =some (.sh (.int y)))(hl:n<=60):roL Y= .ok (tupI ((upI n).map λ z=>if lf z=y then x else lf z)):=by
 have hu:(upI n).length<=60:=by rw[rm];lia
 have e:lcD (gm (aD 6)) [none,some 9,some 8] (gnm 0) gh (ifD (tsb (op2 (eqR false) (aD 0) (aD 1))) (bV (aD 2)) (bV (aD 0))) Y= .ok (.lst (((upI n).map λ z=>if lf z=y then x else lf z).map .int)):=by
  rw[zAq];refine nj (ds:=(upI n).map λ z=>.int (lf z)) (by simp[shE,sE,tupI,h6]) (by rw[zAE];lia) (lN (upI n) λ z hz=>⟨[.sh (.int (lf z)),.sh (.int y),.sh (.int x)],by simp[stE,shE,sE,h8,h9],?_⟩);by_cases c:lf z=y<;>simp[c,qM,imm]
 unfold roL;rw[gY,aj,e];simp[tupI]
def aHY(h:Ow n ps)(h0:Y[0]? =some (.sh (owD n ps)))(h7:Y[7]? =some (.sh (tupI ((upI n).map uf))))(h2:Y[2]? =some (.sh (.int a)))(h3:Y[3]? =some (.sh (.int b))):roU Y= .ok (tupI ((upI n).map λ z=>uf z+(if z=a\/z=b then 1 else 0))):=by
 have hn1:=h.n1;have hn0:=h.n0;have hr:=mK (j:=n) (by lia) (by lia);have hx:ixD (owD n ps) (.int 0)= .ok (.int n):=by simp[owD]
 have e:lcD (km lG (aA (op2 ixD (aD 0) (cD (.int 0))) aG)) [none,some 7,some 2,some 3] (gnm 0) gh (op2 bL (bV (op2 ixD (aD 1) (aD 0))) (opA lR (aA (orD (op2 (eqR false) (aD 0) (aD 2)) (op2 (eqR false) (aD 0) (aD 3))) aG))) Y= .ok (.lst (((upI n).map λ z=>uf z+(if z=a\/z=b then 1 else 0)).map .int)):=by
  rw[zAq];refine nj (ds:=(upI n).map .int) ?_ (by rw[zAE,rm];lia) (lN (upI n) λ z hz=>⟨[.sh (.int z),.sh (tupI ((upI n).map uf)),.sh (.int a),.sh (.int b)],by simp[stE,shE,sE,h7,h2,h3],?_⟩)
  .simp[shE,sE,h0,hx,hr,aDC]
  .obtain⟨z0,z1⟩:=gZ.mp hz
   have g:=zP (f:=uf) z0 z1;have v:bV (op2 ixD (aD 1) (aD 0)) [.sh (.int z),.sh (tupI ((upI n).map uf)),.sh (.int a),.sh (.int b)]= .ok (.int (uf z)):=by
    simp only[aGA,fO,aAc,zC0,zCZ,aN,tupI,aFq,g,aD6];rfl
   rw[fO,v,aN];by_cases c1:z=a
   .subst c1
    by_cases c2:z=b
    .subst c2
     simp[lR]
    .simp[c2,lR]
   .by_cases c2:z=b
    .subst c2
     simp[c1,lR]
    .simp[c1,c2,lR]
 unfold roU;rw[gY,aj,e];simp[tupI]
abbrev roV(n:Int)(ps:gX)(s1:Slot)(a b:Int)(lg:List D)(t:Tr)(s8 s9 s10 s11:Slot):En:=[.sh (owD n ps),s1,.sh (.int a),.sh (.int b),.ow (.lst lg),.sh (.tup (t.1.map pD)),.sh (tupI ((upI n).map t.2.1)),.sh (tupI ((upI n).map t.2.2)),s8,s9,s10,s11]
def aH0{lg:List D}(h:Ow n ps)(ha:0<=a/\a<n)(hb:0<=b/\b<n)(hg:lg.length<16000000)(hq:t.1.length<=1000):
  ∃s8' s9' s10' s11',roB (roV n ps s1 a b lg t s8 s9 s10 s11)= .nx (roV n ps s1 a b (lg++(if cnd (a,b) t=true then[rwF n (nwT (a,b) t)]else[])) t s8' s9' s10' s11'):=by
 have hn1:=h.n1;have g1:=zP (f:=t.2.2) ha.1 ha.2;have g2:=zP (f:=t.2.2) hb.1 hb.2;have g3:=zP (f:=t.2.1) ha.1 ha.2;have g4:=zP (f:=t.2.1) hb.1 hb.2;have x1:ixD (tupI ((upI n).map t.2.2)) (.int a)= .ok (.int (t.2.2 a)):=g1;have x2:ixD (tupI ((upI n).map t.2.2)) (.int b)= .ok (.int (t.2.2 b)):=g2;have x3:ixD (tupI ((upI n).map t.2.1)) (.int a)= .ok (.int (t.2.1 a)):=g3;have x4:ixD (tupI ((upI n).map t.2.1)) (.int b)= .ok (.int (t.2.1 b)):=g4;have ez:roT (roV n ps s1 a b lg t s8 s9 s10 s11)= .ok (cnd (a,b) t):=by
  unfold cnd;by_cases c1:t.2.2 a<2
  .by_cases c2:t.2.2 b<2
   .by_cases c3:t.2.1 a=t.2.1 b<;>simp[roT,x1,x2,x3,x4,c1,c2,c3]
   .simp[roT,x1,x2,x3,x4,c1,c2]
  .simp[roT,x1,x2,x3,x4,c1]
 cases z:cnd (a,b) t with
 |false=>exact⟨s8,s9,s10,s11,by rw[roB,fX,ez,z];simp⟩
 |true=>
  have ex:bz 8 (opA (mmD λ i j=>if j<i then j else i) (aA (op2 ixD (aD 6) (aD 2)) (aA (op2 ixD (aD 6) (aD 3)) aG))) (roV n ps s1 a b lg t s8 s9 s10 s11)= .nx (roV n ps s1 a b lg t (.sh (.int (mnI (t.2.1 a) (t.2.1 b)))) s9 s10 s11):=by simp[x3,x4,mnI]
  have ey:bz 9 (opA (mmD λ i j=>if j>i then j else i) (aA (op2 ixD (aD 6) (aD 2)) (aA (op2 ixD (aD 6) (aD 3)) aG))) (roV n ps s1 a b lg t (.sh (.int (mnI (t.2.1 a) (t.2.1 b)))) s9 s10 s11)= .nx (roV n ps s1 a b lg t (.sh (.int (mnI (t.2.1 a) (t.2.1 b)))) (.sh (.int (mxI (t.2.1 a) (t.2.1 b)))) s10 s11):=by simp[x3,x4,mxI]
  have e1:=aHZ (Y:=roV n ps s1 a b lg t (.sh (.int (mnI (t.2.1 a) (t.2.1 b)))) (.sh (.int (mxI (t.2.1 a) (t.2.1 b)))) s10 s11) (n:=n) (lf:=t.2.1) rfl rfl rfl hn1;have e2:=λ s=>aHY (Y:=roV n ps s1 a b lg t (.sh (.int (mnI (t.2.1 a) (t.2.1 b)))) (.sh (.int (mxI (t.2.1 a) (t.2.1 b)))) s s11) (uf:=t.2.2) h rfl rfl rfl rfl
  obtain⟨l',hl'⟩:∃l':List Int,l'=(upI n).map λ z=>if t.2.1 z=mxI (t.2.1 a) (t.2.1 b)then mnI (t.2.1 a) (t.2.1 b)else t.2.1 z:=⟨_,rfl⟩
  obtain⟨u',hu'⟩:∃u':List Int,u'=(upI n).map λ z=>t.2.2 z+(if z=a\/z=b then 1 else 0):=⟨_,rfl⟩
  rw[<-hl']at e1;simp only[<-hu']at e2;have er:rwF n (nwT (a,b) t)=wW (t.1++[(a,b)]) l' u':=by rw[hl',hu'];rfl
  have e3:roA (roV n ps s1 a b lg t (.sh (.int (mnI (t.2.1 a) (t.2.1 b)))) (.sh (.int (mxI (t.2.1 a) (t.2.1 b)))) (.sh (tupI l')) (.sh (tupI u')))= .nx (roV n ps s1 a b (lg++[wW (t.1++[(a,b)]) l' u']) t (.sh (.int (mnI (t.2.1 a) (t.2.1 b)))) (.sh (.int (mxI (t.2.1 a) (t.2.1 b)))) (.sh (tupI l')) (.sh (tupI u'))):=by
   have A:bL (.tup (t.1.map pD)) (.tup [.tup [.int a,.int b]])= .ok (.tup ((t.1++[(a,b)]).map pD)):=by
    rw[aKB (by simp;lia),zAi];rfl
   have i1:cF (t.1.map pD)=true:=mX λ d hd=>by
    obtain⟨p,_,rfl⟩:=zA4.mp hd;rfl
   have i2:cF (l'.map D.int)=true:=dI l';have i3:cF (u'.map D.int)=true:=dI u';have hz:lg.length<16777216:=by lia
   simp[roA,aGV,tupI,qM,imm,i1,i2,i3,A,wW,hz,-zR]
  refine⟨.sh (.int (mnI (t.2.1 a) (t.2.1 b))),.sh (.int (mxI (t.2.1 a) (t.2.1 b))),.sh (tupI l'),.sh (tupI u'),?_⟩
  .rw[roB,fX,ez,z,dB,if_pos rfl,aO,ex,bI,aO,ey,bI,aO,jf,e1,dB]
   simp only[zGM,zGN,bI];rw[aO,jf,e2,dB];simp only[zGM,zGN,bI];rw[if_pos trivial,er];exact e3
theorem mJ:∀{l:List D},(∀d∈l,gQ d d=true)->fJ l l=true
 |[],_=>rfl
 |x::l,h=>by
  rw[fJ,h x zAD,mJ λ d hd=>h d (zAF _ hd)];rfl
def same_ints(l:List Int):fJ (l.map .int) (l.map .int)=true:=mJ λ d hd=>by
 obtain⟨i,_,rfl⟩:=zA4.mp hd;simp[gQ]
def aCv(l:gX):fJ (l.map pD) (l.map pD)=true:=mJ λ d hd=>by
 obtain⟨i,_,rfl⟩:=zA4.mp hd;simp[pD,gQ,fJ]
def aBW(l:gX):cF (l.map pD)=true:=mX λ d hd=>by
 obtain⟨p,_,rfl⟩:=zA4.mp hd;rfl
def aCx(t:Tr):gQ (rwF n t) (rwF n t)=true:=by
 have h1:=same_ints ((upI n).map t.2.1);have h2:=same_ints ((upI n).map t.2.2);have h3:=aCv t.1;unfold rwF wW tupI;simp only[gQ,fJ,h1,h2,h3];rfl
def aAx(t:Tr):VL.imm (rwF n t)=true:=by
 have h1:cF (((upI n).map t.2.1).map D.int)=true:=dI _;have h2:cF (((upI n).map t.2.2).map D.int)=true:=dI _;have h3:=aBW t.1;unfold rwF wW tupI;simp only[VL.imm,cF,h1,h2,h3];rfl
abbrev roW(n:Int)(ps:gX)(l:List D)(a b:Int)(lg:List D)(s5 s6 s7 s8 s9 s10 s11:Slot):En:=[.sh (owD n ps),.ow (.lst l),.sh (.int a),.sh (.int b),.ow (.lst lg),s5,s6,s7,s8,s9,s10,s11]
theorem aGe{l:List D}(h:Ow n ps)(ha:0<=a/\a<n)(hb:0<=b/\b<n)(hl:fJ l l=true):∀(L lg:List Tr) (s5 s6 s7 s8 s9 s10 s11:Slot),(∀t∈L,t.1.length<=1000)->lg.length+L.length<16000000->
  ∃s5' s6' s7' s8' s9' s10' s11',lX 1 l roG roB (L.map (rwF n)) (roW n ps l a b (lg.map (rwF n)) s5 s6 s7 s8 s9 s10 s11)= .nx (roW n ps l a b ((lg++(L.filter (cnd (a,b))).map (nwT (a,b))).map (rwF n)) s5' s6' s7' s8' s9' s10' s11')
 |[],lg,s5,s6,s7,s8,s9,s10,s11,_,_=>by
  refine⟨s5,s6,s7,s8,s9,s10,s11,?_⟩;have o:qb 1 l (roW n ps l a b (lg.map (rwF n)) s5 s6 s7 s8 s9 s10 s11)=true:=hl;rw[zD8];unfold lX;rw[if_pos o];simp
 |t::L,lg,s5,s6,s7,s8,s9,s10,s11,h1,h3=>by
  rw[zAS]at h3;obtain⟨t8,t9,t10,t11,e⟩:=aH0 (t:=t) (s1:=.ow (.lst l)) (lg:=lg.map (rwF n)) (s8:=s8) (s9:=s9) (s10:=s10) (s11:=s11) h ha hb (by rw[zAE];lia) (h1 t zAD);have el:lg.map (rwF n)++(if cnd (a,b) t=true then[rwF n (nwT (a,b) t)]else[])=(lg++(if cnd (a,b) t=true then[nwT (a,b) t]else[])).map (rwF n):=by
   split<;>simp
  rw[el]at e;obtain⟨u5,u6,u7,u8,u9,u10,u11,e2⟩:=aGe h ha hb hl L (lg++(if cnd (a,b) t=true then[nwT (a,b) t]else[])) (.sh (.tup (t.1.map pD))) (.sh (tupI ((upI n).map t.2.1))) (.sh (tupI ((upI n).map t.2.2))) t8 t9 t10 t11 (λ d hd=>h1 d (zAF _ hd)) (by rw[zAC];split<;>simp<;>lia);refine⟨u5,u6,u7,u8,u9,u10,u11,?_⟩;have o:qb 1 l (roW n ps l a b (lg.map (rwF n)) s5 s6 s7 s8 s9 s10 s11)=true:=hl;have g:roG (rwF n t) (roW n ps l a b (lg.map (rwF n)) s5 s6 s7 s8 s9 s10 s11)= .ok (roV n ps (.ow (.lst l)) a b (lg.map (rwF n)) t s8 s9 s10 s11):=by simp[roG,rwF,wW]
  rw[zAU];unfold lX;rw[if_pos o,g];dsimp only;rw[e];dsimp only;have ef:(lg++(if cnd (a,b) t=true then[nwT (a,b) t]else[]))++(L.filter (cnd (a,b))).map (nwT (a,b))=lg++((t::L).filter (cnd (a,b))).map (nwT (a,b)):=by
   rw[zAw];split<;>simp
  rw[e2,ef]
abbrev roE(n:Int)(ps:gX)(L:List Tr)(s2 s3 s4 s5 s6 s7 s8 s9 s10 s11:Slot):En:=[.sh (owD n ps),.ow (.lst (L.map (rwF n))),s2,s3,s4,s5,s6,s7,s8,s9,s10,s11]
def aHX(h:Ow n ps)(ha:0<=a/\a<n)(hb:0<=b/\b<n)(hl:∀t∈L,t.1.length<=1000)(hz:L.length<=7000000){s4:Slot}:
  ∃s4' s5' s6' s7' s8' s9' s10' s11',roO (roE n ps L (.sh (.int a)) (.sh (.int b)) s4 s5 s6 s7 s8 s9 s10 s11)= .nx (roE n ps (L++(L.filter (cnd (a,b))).map (nwT (a,b))) (.sh (.int a)) (.sh (.int b)) s4' s5' s6' s7' s8' s9' s10' s11'):=by
 obtain⟨t5,t6,t7,t8,t9,t10,t11,e⟩:=aGe (l:=L.map (rwF n)) h ha hb (mJ λ d hd=>by obtain⟨t,_,rfl⟩:=zA4.mp hd;exact aCx t) L [] s5 s6 s7 s8 s9 s10 s11 hl (by simp;lia);have hf:=zFl (cnd (a,b)) L;have c1:uq 4 (cM aG) (roE n ps L (.sh (.int a)) (.sh (.int b)) s4 s5 s6 s7 s8 s9 s10 s11)= .nx (roW n ps (L.map (rwF n)) a b [] s5 s6 s7 s8 s9 s10 s11):=by simp
 have c2:aGG 1 roG roB (roW n ps (L.map (rwF n)) a b [] s5 s6 s7 s8 s9 s10 s11)= .nx (roW n ps (L.map (rwF n)) a b (((L.filter (cnd (a,b))).map (nwT (a,b))).map (rwF n)) t5 t6 t7 t8 t9 t10 t11):=by
  show(if cF (L.map (rwF n))=true then lX 1 (L.map (rwF n)) roG roB (L.map (rwF n)) (roW n ps (L.map (rwF n)) a b [] s5 s6 s7 s8 s9 s10 s11)else .st)=_
  rw[if_pos (mX λ d hd=>by obtain⟨t,_,rfl⟩:=zA4.mp hd;exact aAx t)];exact e
 have c3:aGI 1 4 (roW n ps (L.map (rwF n)) a b (((L.filter (cnd (a,b))).map (nwT (a,b))).map (rwF n)) t5 t6 t7 t8 t9 t10 t11)= .nx (roW n ps (L.map (rwF n)++((L.filter (cnd (a,b))).map (nwT (a,b))).map (rwF n)) a b (((L.filter (cnd (a,b))).map (nwT (a,b))).map (rwF n)) t5 t6 t7 t8 t9 t10 t11):=by
  show(if (L.map (rwF n)).length+(((L.filter (cnd (a,b))).map (nwT (a,b))).map (rwF n)).length<=zAN/\cF (((L.filter (cnd (a,b))).map (nwT (a,b))).map (rwF n))=true then Ou.nx (roW n ps (L.map (rwF n)++((L.filter (cnd (a,b))).map (nwT (a,b))).map (rwF n)) a b (((L.filter (cnd (a,b))).map (nwT (a,b))).map (rwF n)) t5 t6 t7 t8 t9 t10 t11)else .st)=_
  rw[if_pos ⟨by rw[szl,zAE,zAE,zAE];lia,mX λ d hd=>by obtain⟨t,_,rfl⟩:=zA4.mp hd;exact aAx t⟩]
 refine⟨.ow (.lst (((L.filter (cnd (a,b))).map (nwT (a,b))).map (rwF n))),t5,t6,t7,t8,t9,t10,t11,?_⟩;rw[roO,aO,c1,bI,aO,c2,bI,c3,<-zAi]
def jP(ps:gX)(p:Int×Int):cO (ps++[p])=cO ps++((cO ps).filter (cnd p)).map (nwT p):=by
 unfold cO;rw[List.foldl_append];rfl
def snoc_ind{α:Type}{P:List α->Prop}(h0:P [])(h1:∀l a,P l->P (l++[a]))(l:List α):P l:=by
 have:∀k (l:List α),l.length=k->P l:=by
  intro k;induction k with
  |zero=>exact λ l e=>by rw[zC1.mp e];exact h0
  |succ k ih=>
   intro l e;rcases zFk l with rfl|⟨l',a,rfl⟩
   .exact h0
   .rw[zFi]at e ⊢
    rw[zAC,zBD]at e;exact h1 l' a (ih l' (by lia))
 exact this _ l rfl
def tE(ps:gX):(cO ps).length<=2^ps.length/\∀t∈cO ps,t.1.length<=ps.length:=by
 induction ps using snoc_ind with
 |h0=>exact⟨by simp[cO],λ t ht=>by
  rw[zAo.mp ht];exact zAL _⟩
 |h1 l a ih=>
  rw[jP];have hf:=zFl (cnd a) (cO l);refine⟨by rw[zAC,zAE,zAC,zBD,Nat.pow_succ];have:=ih.1;lia,λ t ht=>?_⟩;rw[zAC,zBD];rcases zAM.mp ht with z|z
  .have:=ih.2 t z;lia
  .obtain⟨s,hs,rfl⟩:=zA4.mp z
   have:=ih.2 s (zA0.mp hs).1
   simp[nwT];lia
def rwD(qs:gX):D:=.tup (qs.map pD)
def yq(h:Ow n ps)(hn:n<=12)(hps:ps.length<=22):il [owD n ps]= .ok (.lst ((cO ps).map λ t=>rwD t.1)):=by
 have hn0:=h.n0;have st:bG 12 [owD n ps]=[.sh (owD n ps),.no,.no,.no,.no,.no,.no,.no,.no,.no,.no,.no]:=rfl;have hx:ixD (owD n ps) (.int 0)= .ok (.int n):=by simp[owD]
 obtain⟨N,rfl⟩:∃N:Nat,n=N:=⟨n.toNat,(zCS hn0).symm⟩
 have hi0:rwF N ([],id,λ _=>0)= .tup [.tup [],tupI (upI N),tupI (zAO N 0)]:=by
  unfold rwF wW;rw[List.map_id]
  have:(upI N).map (λ _=>(0:Int))=zAO N 0:=by
   rw[zEn,rm];rfl
  rw[this];rfl
 have c1:uq 1 (cM (aA (bC (aA (bC aG) (aA (trD (op2 ixD (aD 0) (cD (.int 0)))) (aA (op2 aAJ (bC (aA (cD (.int 0)) aG)) (bV (op2 ixD (aD 0) (cD (.int 0))))) aG)))) aG)) [.sh (owD N ps),.no,.no,.no,.no,.no,.no,.no,.no,.no,.no,.no]= .nx (roE N ps (cO []) .no .no .no .no .no .no .no .no .no .no):=by
  have t1:trD (op2 ixD (aD 0) (cD (.int 0))) [.sh (owD N ps),.no,.no,.no,.no,.no,.no,.no,.no,.no,.no,.no]= .ok (tupI (upI N)):=by
   have v:op2 ixD (aD 0) (cD (.int 0)) [.sh (owD N ps),.no,.no,.no,.no,.no,.no,.no,.no,.no,.no,.no]= .ok (.int N):=by simp[hx]
   unfold trD;rw[v,aN];unfold trR;dsimp only;rw[if_pos (by lia),aDC,tupI]
  have t2:aAJ (.tup [.int 0]) (.int N)= .ok (tupI (zAO N 0)):=by
   have:N=0\/N=1\/N=2\/N=3\/N=4\/N=5\/N=6\/N=7\/N=8\/N=9\/N=10\/N=11\/N=12:=by lia
   rcases this with rfl|rfl|rfl|rfl|rfl|rfl|rfl|rfl|rfl|rfl|rfl|rfl|rfl<;>simp[aAJ,xF,zCL,tupI,zAO]
  show _=Ou.nx [.sh (owD N ps),.ow (.lst [rwF N ([],id,λ _=>0)]),.no,.no,.no,.no,.no,.no,.no,.no,.no,.no];rw[hi0];simp[t1,t2,hx]
 have hi:gm (op2 ixD (aD 0) (cD (.int 1))) (roE N ps (cO []) .no .no .no .no .no .no .no .no .no .no)= .ok (ps.map pD):=by simp[owD]
 obtain⟨Y',e,s2,s3,s4,s5,s6,s7,s8,s9,s10,s11,rfl⟩:=pM (ds:=ps.map pD) (a:=iU 2 (bJ (gnm 2) (bJ (gnm 3) iw))) (u:=roO) (Y:=roE N ps (cO []) .no .no .no .no .no .no .no .no .no .no)
  (λ i Y=>∃(s2 s3 s4 s5 s6 s7 s8 s9 s10 s11:Slot),Y=roE N ps (cO (ps.take i)) s2 s3 s4 s5 s6 s7 s8 s9 s10 s11) (by
   rintro i d Y hd ⟨s2,s3,s4,s5,s6,s7,s8,s9,s10,s11,rfl⟩;rw[zAW]at hd;cases ep:ps[i]? with
   |none=>rw[ep]at hd;cases hd
   |some p=>
    rw[ep]at hd;cases hd;obtain⟨a0,a1,b0,b1,_⟩:=h.pr p (zAy ep);obtain⟨r1,r2⟩:=tE (ps.take i);have hle:2^(ps.take i).length<=2^22:=zDm (by decide) (by rw[zB2];lia);have hlt:(ps.take i).length<=22:=by rw[zB2];lia
    obtain⟨t4,t5,t6,t7,t8,t9,t10,t11,e⟩:=aHX (L:=cO (ps.take i)) (s4:=s4) (s5:=s5) (s6:=s6) (s7:=s7) (s8:=s8) (s9:=s9) (s10:=s10) (s11:=s11) h ⟨a0,a1⟩ ⟨b0,b1⟩ (λ t ht=>by have:=r2 t ht;lia) (by lia);refine⟨_,by simp[pD];exact e,.sh (.int p.1),.sh (.int p.2),t4,t5,t6,t7,t8,t9,t10,t11,?_⟩;rw[zGU,ep];show _=roE N ps (cO (ps.take i++[p])) _ _ _ _ _ _ _ _ _ _;rw[jP]) ⟨_,_,_,_,_,_,_,_,_,_,rfl⟩
 rw[zAz (by rw[zAE];exact zAL _)]at e;have hle:2^ps.length<=2^22:=zDm (by decide) hps;have hrl:=(tE ps).1;have eR:roR (roE N ps (cO ps) s2 s3 s4 s5 s6 s7 s8 s9 s10 s11)= .ok (.lst ((cO ps).map λ t=>rwD t.1)):=by
  refine nj (ds:=(cO ps).map (rwF N)) (by simp[shE,sE]) (by rw[zAE];lia) (lN (cO ps) λ t hm=>⟨[.sh (rwF N t)],rfl,?_⟩);have i1:=aBW t.1;simp[rwF,wW,qM,imm,i1,rwD]
 simp only[il,gC,cH,st];rw[aO,c1,bI,aO,pL,hi,dB,e,bI,mL,eR];rfl
end
section
variable{n:Int}{ps:gX}
theorem qN{α:Type}{P Q:α->Bool}:∀{l:List α},(∀x∈l,¬(P x=true/\Q x=true))->(l.filter λ x=>P x||Q x).length=(l.filter P).length+(l.filter Q).length
 |[],_=>rfl
 |x::l,h=>by
  have ih:=qN λ y hy=>h y (zAF _ hy)
  have hx:=h x zAD;cases c1:P x<;>cases c2:Q x<;>simp[c1,c2]at hx ⊢<;>lia
def nq(lf:Int->Int)(qs:gX)(v:Int):Nat:=(qs.filter λ q=>decide (lf q.1=v)).length
def nc(n:Int)(lf:Int->Int)(v:Int):Nat:=((upI n).filter λ z=>decide (lf z=v)).length
structure RI(n:Int)(t:Tr):Prop where
 inn:∀q∈t.1,(0<=q.1/\q.1<n)/\(0<=q.2/\q.2<n)
 u:∀x,t.2.2 x=(dgr t.1 x:Int)
 l:∀q∈t.1,t.2.1 q.1=t.2.1 q.2
 c:∀x,0<=x->x<n->nq t.2.1 t.1 (t.2.1 x)+1=nc n t.2.1 (t.2.1 x)
def lr(F:gX)(p:Int×Int)(x:Int):dgr (F++[p]) x=dgr F x+(if x=p.1\/x=p.2 then 1 else 0):=by
 unfold dgr;rw[zB0,zAC,zAw];by_cases c:x=p.1\/x=p.2
 .rw[if_pos (by rcases c with c|c<;>simp[c]),if_pos c]
  simp
 .rw[if_neg (by rw[not_or]at c;simp[zCf c.1,zCf c.2]),if_neg c]
  simp
def RI.step(R:RI n t)(hp:(0<=p.1/\p.1<n)/\(0<=p.2/\p.2<n))(hc:cnd p t=true):RI n (nwT p t):=by
 obtain⟨qs,lf,uf⟩:=t;simp only[cnd,zAK,decide_eq_true_eq,zBS,decide_eq_false_iff_not]at hc;obtain⟨h1,h2,h3⟩:=hc;obtain⟨lo,hlo⟩:∃lo,lo=mnI (lf p.1) (lf p.2):=⟨_,rfl⟩
 obtain⟨hi,hhi⟩:∃hi,hi=mxI (lf p.1) (lf p.2):=⟨_,rfl⟩
 have hne:lo≠hi:=by
  rw[hlo,hhi];rcases aDd (lf p.1) (lf p.2)with ⟨e1,e2⟩|⟨e1,e2⟩<;>rw[e1,e2]
  .exact h3
  .exact zCf h3
 have hab:(lf p.1=lo/\lf p.2=hi)\/(lf p.1=hi/\lf p.2=lo):=by
  rw[hlo,hhi];rcases aDd (lf p.1) (lf p.2)with ⟨e1,e2⟩|⟨e1,e2⟩
  .exact .inl ⟨e1.symm,e2.symm⟩
  .exact .inr ⟨e2.symm,e1.symm⟩
 have ca:=R.c p.1 hp.1.1 hp.1.2;have cb:=R.c p.2 hp.2.1 hp.2.2;dsimp only at ca cb;have clo:nq lf qs lo+1=nc n lf lo:=by
  rcases hab with ⟨e1,e2⟩|⟨e1,e2⟩
  .rw[<-e1];exact ca
  .rw[<-e2];exact cb
 have chi:nq lf qs hi+1=nc n lf hi:=by
  rcases hab with ⟨e1,e2⟩|⟨e1,e2⟩
  .rw[<-e2];exact cb
  .rw[<-e1];exact ca
 have lab:∀z,(if lf z=hi then lo else lf z)=lo↔lf z=lo\/lf z=hi:=λ z=>by
  split
  .rename_i e
   exact⟨λ _=>.inr e,λ _=>rfl⟩
  .rename_i e
   exact⟨.inl,λ q=>q.resolve_right e⟩
 have labv:∀z v,v≠lo->v≠hi->((if lf z=hi then lo else lf z)=v↔lf z=v):=λ z v h1 h2=>by
  split
  .rename_i e
   exact⟨λ q=>absurd q.symm h1,λ q=>absurd (q.symm.trans e) h2⟩
  .exact Iff.rfl
 have nohi:∀z,(if lf z=hi then lo else lf z)≠hi:=λ z=>by
  split
  .exact hne
  .assumption
 have pl:(if lf p.1=hi then lo else lf p.1)=lo:=(lab p.1).mpr (hab.elim (λ z=>.inl z.1) λ z=>.inr z.1);have pl2:(if lf p.2=hi then lo else lf p.2)=lo:=(lab p.2).mpr (hab.elim (λ z=>.inr z.2) λ z=>.inl z.2);refine⟨λ q hq=>?_,λ x=>?_,λ q hq=>?_,λ x x0 x1=>?_⟩
 .rcases zAM.mp hq with z|z
  .exact R.inn q z
  .rw[zAo.mp z];exact hp
 .have:=R.u x
  dsimp only at this;show uf x+(if x=p.1\/x=p.2 then 1 else 0)=(dgr (qs++[p]) x:Int);rw[lr,this];split<;>simp
 .show(if lf q.1=mxI (lf p.1) (lf p.2)then mnI (lf p.1) (lf p.2)else lf q.1)=(if lf q.2=mxI (lf p.1) (lf p.2)then mnI (lf p.1) (lf p.2)else lf q.2)
  rw[<-hlo,<-hhi];rcases zAM.mp hq with z|z
  .have:=R.l q z
   dsimp only at this;rw[this]
  .rw[zAo.mp z,pl,pl2]
 .show nq (λ z=>if lf z=mxI (lf p.1) (lf p.2)then mnI (lf p.1) (lf p.2)else lf z) (qs++[p]) (if lf x=mxI (lf p.1) (lf p.2)then mnI (lf p.1) (lf p.2)else lf x)+1=nc n (λ z=>if lf z=mxI (lf p.1) (lf p.2)then mnI (lf p.1) (lf p.2)else lf z) (if lf x=mxI (lf p.1) (lf p.2)then mnI (lf p.1) (lf p.2)else lf x)
  rw[<-hlo,<-hhi];have hv:=nohi x;have hw:(if lf x=hi then lo else lf x)=lo\/(if lf x=hi then lo else lf x)=lf x:=by
   split
   .exact .inl rfl
   .exact .inr rfl
  have cx:=R.c x x0 x1;dsimp only at cx;generalize (if lf x=hi then lo else lf x)=w at hv hw ⊢;unfold nq nc at*;rw[zB0,zAC];by_cases c:w=lo
  .subst c
   have e1:(qs.filter λ q=>decide ((if lf q.1=hi then w else lf q.1)=w))=qs.filter λ q=>decide (lf q.1=w)||decide (lf q.1=hi):=zBm λ q _=>by
    rw[zCt,decide_eq_true_eq,zCu,decide_eq_true_eq,decide_eq_true_eq];exact lab q.1
   have e2:((upI n).filter λ z=>decide ((if lf z=hi then w else lf z)=w))=(upI n).filter λ z=>decide (lf z=w)||decide (lf z=hi):=zBm λ z _=>by
    rw[zCt,decide_eq_true_eq,zCu,decide_eq_true_eq,decide_eq_true_eq];exact lab z
   have no:∀z:Int,¬(decide (lf z=w)=true/\decide (lf z=hi)=true):=λ z q=>by
    rw[decide_eq_true_eq,decide_eq_true_eq]at q;exact hne (q.1.symm.trans q.2)
   rw[e1,e2,qN λ q _=>no q.1,qN λ z _=>no z,zAw,if_pos (decide_eq_true pl)];simp only[zCx,zAS,zBX];lia
  .have hwx:=hw.resolve_left c
   have e1:(qs.filter λ q=>decide ((if lf q.1=hi then lo else lf q.1)=w))=qs.filter λ q=>decide (lf q.1=w):=zBm λ q _=>by
    rw[zCt,decide_eq_true_eq,decide_eq_true_eq];exact labv q.1 w c hv
   have e2:((upI n).filter λ z=>decide ((if lf z=hi then lo else lf z)=w))=(upI n).filter λ z=>decide (lf z=w):=zBm λ z _=>by
    rw[zCt,decide_eq_true_eq,decide_eq_true_eq];exact labv z w c hv
   rw[e1,e2,zAw,if_neg (by rw[decide_eq_true_eq];exact λ e=>c (e.symm.trans pl)),hwx];simp only[zCx,zBX];exact cx
def wV(hp:∀p∈ps,(0<=p.1/\p.1<n)/\(0<=p.2/\p.2<n)):∀t∈cO ps,RI n t/\t.1.Sublist ps/\∀x,dgr t.1 x<=2:=by
 induction ps using snoc_ind with
 |h0=>
  intro t ht;rw[zAo.mp ht];refine⟨⟨λ q hq=>(nomatch hq),λ x=>rfl,λ q hq=>(nomatch hq),λ x x0 x1=>?_⟩,zFG _,λ x=>zAc _⟩;show 0+1=nc n id x;unfold nc;have h1:(upI n).filter (λ z=>decide (id z=x))=[x]:=by
   have nd:=(lC n).filter λ z=>decide (id z=x)
   have hm:∀z,z∈(upI n).filter (λ z=>decide (id z=x))↔z∈[x]:=λ z=>by
    rw[zA0,zAo,decide_eq_true_eq,gZ];exact⟨λ q=>q.2,λ q=>⟨by rw[q];exact⟨x0,x1⟩,q⟩⟩
   exact List.perm_singleton.mp ((zEu nd (by simp)).mpr hm)
  rw[h1];rfl
 |h1 l a ih=>
  intro t ht;have hl:∀p∈l,(0<=p.1/\p.1<n)/\(0<=p.2/\p.2<n):=λ p h=>hp p (zAQ _ h)
  rw[jP]at ht;rcases zAM.mp ht with z|z
  .obtain⟨h1,h2,h3⟩:=ih hl t z
   exact⟨h1,h2.trans (List.sublist_append_left _ _),h3⟩
  .obtain⟨s,hs,rfl⟩:=zA4.mp z
   obtain⟨hs1,hs2⟩:=zA0.mp hs;obtain⟨h1,h2,h3⟩:=ih hl s hs1;refine⟨h1.step (hp a (by simp)) hs2,h2.append (zFG _),λ x=>?_⟩;show dgr (s.1++[a]) x<=2;rw[lr];simp only[cnd,zAK,decide_eq_true_eq]at hs2;obtain⟨c1,c2,_⟩:=hs2;rw[h1.u]at c1 c2;split
   .rename_i e
    rcases e with rfl|rfl<;>lia
   .have:=h3 x;lia
def Ac.pre{l:gX}{a:Int×Int}(A:Ac (l++[a])):Ac l:=λ S nd ne=>by
 have:=A S nd ne
 unfold inN at this ⊢;rw[zB0,zAC]at this;lia
def aDB(hp:∀p∈ps,(0<=p.1/\p.1<n)/\(0<=p.2/\p.2<n)):∀sub:gX,sub.Sublist ps->Ac sub->(∀x,dgr sub x<=2)->∃t∈cO ps,t.1=sub:=by
 induction ps using snoc_ind with
 |h0=>
  intro sub hs _ _;rw[List.sublist_nil.mp hs];exact⟨_,zAo.mpr rfl,rfl⟩
 |h1 l a ih=>
  intro sub hs A hd;have hl:∀p∈l,(0<=p.1/\p.1<n)/\(0<=p.2/\p.2<n):=λ p h=>hp p (zAQ _ h)
  have ih:=ih hl;rw[jP];obtain⟨s1,s2,rfl,h1,h2⟩:=List.sublist_append_iff.mp hs;have h2':s2=[]\/s2=[a]:=by
   cases s2 with
   |nil=>exact .inl rfl
   |cons b r=>
    right;have hl:=h2.length_le;have hm:=h2.subset zAD;rw[zAS,zBD]at hl;rw[zC1.mp (show r.length=0 by lia),zAo.mp hm]
  rcases h2' with rfl|rfl
  .rw[zAb]at hd A ⊢
   obtain⟨t,ht,e⟩:=ih s1 h1 A hd;exact⟨t,zAQ _ ht,e⟩
  .have hd1:∀x,dgr s1 x<=2:=λ x=>by
    have:=hd x
    rw[lr]at this;lia
   obtain⟨t,ht,rfl⟩:=ih s1 h1 A.pre hd1;obtain⟨R,_,_⟩:=wV hl t ht;have ha:=hp a (by simp);refine⟨nwT a t,zAZ _ (zA4.mpr ⟨t,zA0.mpr ⟨ht,?_⟩,rfl⟩),rfl⟩;simp only[cnd,zAK,decide_eq_true_eq,zBS,decide_eq_false_iff_not];have d1:=hd a.1;have d2:=hd a.2;rw[lr,if_pos (.inl rfl)]at d1;rw[lr,if_pos (.inr rfl)]at d2;refine⟨by rw[R.u];lia,by rw[R.u];lia,λ e=>?_⟩;have c:=R.c a.1 ha.1.1 ha.1.2;have hS:=A ((upI n).filter λ z=>decide (t.2.1 z=t.2.1 a.1)) ((lC n).filter _) (zDF (zA0.mpr ⟨gZ.mpr ha.1,by simp⟩));unfold inN at hS;rw[zB0,zAC,zAw,if_pos (by
    rw[zAK,decide_eq_true_eq,decide_eq_true_eq,zA0,zA0,decide_eq_true_eq,decide_eq_true_eq,gZ,gZ];exact⟨⟨ha.1,rfl⟩,ha.2,e.symm⟩)]at hS
   have hf:(t.1.filter λ q=>decide (t.2.1 q.1=t.2.1 a.1))=t.1.filter λ p=>decide (p.1∈(upI n).filter λ z=>decide (t.2.1 z=t.2.1 a.1))&&decide (p.2∈(upI n).filter λ z=>decide (t.2.1 z=t.2.1 a.1)):=zBm λ q hq=>by
    have:=R.inn q hq
    have hl:=R.l q hq;rw[zCt,zAK,decide_eq_true_eq,decide_eq_true_eq,decide_eq_true_eq,zA0,zA0,decide_eq_true_eq,decide_eq_true_eq,gZ,gZ,<-hl];exact⟨λ z=>⟨⟨this.1,z⟩,this.2,z⟩,λ z=>z.1.2⟩
   unfold nq nc at c;rw[hf]at c;simp only[zCx,zAS,zBX]at hS;lia
def aFI(hp:∀p∈ps,(0<=p.1/\p.1<n)/\(0<=p.2/\p.2<n)):∀t∈cO ps,Ac t.1:=by
 induction ps using snoc_ind with
 |h0=>
  intro t ht S _ ne;rw[zAo.mp ht]
  have:=zDA.mpr ne
  show 0+1<=_;lia
 |h1 l a ih=>
  intro t ht;have hl:∀p∈l,(0<=p.1/\p.1<n)/\(0<=p.2/\p.2<n):=λ p h=>hp p (zAQ _ h)
  rw[jP]at ht;rcases zAM.mp ht with z|z
  .exact ih hl t z
  .obtain⟨s,hs,rfl⟩:=zA4.mp z
   obtain⟨hs1,hs2⟩:=zA0.mp hs;have A:=ih hl s hs1;obtain⟨R,_,_⟩:=wV hl s hs1;simp only[cnd,zAK,decide_eq_true_eq,zBS,decide_eq_false_iff_not]at hs2;obtain⟨_,_,hne⟩:=hs2;intro S nd ne;show inN S (s.1++[a])+1<=_;have h0:=A S nd ne;unfold inN at h0 ⊢;rw[zB0,zAC,zAw];split
   .rename_i ha
    rw[zAK,decide_eq_true_eq,decide_eq_true_eq]at ha;have A1:=A (S.filter λ z=>decide (s.2.1 z=s.2.1 a.1)) (nd.filter _) (zDF (zA0.mpr ⟨ha.1,by simp⟩));have A2:=A (S.filter λ z=>!decide (s.2.1 z=s.2.1 a.1)) (nd.filter _) (zDF (zA0.mpr ⟨ha.2,by simpa using zCf hne⟩));have hsum:(S.filter λ z=>decide (s.2.1 z=s.2.1 a.1)).length+(S.filter λ z=>!decide (s.2.1 z=s.2.1 a.1)).length=S.length:=by
     have h2:=(qN (P:=λ z=>decide (s.2.1 z=s.2.1 a.1)) (Q:=λ z=>!decide (s.2.1 z=s.2.1 a.1)) (l:=S) λ x _=>by simp).symm;rw[h2];exact congrArg zCz (zGD.mpr λ x _=>by simp)
    have hin:(s.1.filter λ p=>decide (p.1∈S)&&decide (p.2∈S)).length=inN (S.filter λ z=>decide (s.2.1 z=s.2.1 a.1)) s.1+inN (S.filter λ z=>!decide (s.2.1 z=s.2.1 a.1)) s.1:=by
     unfold inN;rw[<-qN λ p _=>by simp only[zA0];simp;intro _ h1 _ _ _ h2;exact absurd h1 h2];refine congrArg zCz (zBm λ p hp=>?_)
     have:=R.l p hp
     simp only[zA0,<-this];by_cases c:s.2.1 p.1=s.2.1 a.1<;>simp[c]
    rw[hin];simp only[zCx,zAS,zBX];lia
   .simp only[zCx,zBX]
    lia
end
def j9(a b:Int):Int×Int:=(mnI a b,mxI a b)
def egs:List Int->List (Int×Int)
 |a::b::r=>j9 a b::egs (b::r)
 |_=>[]
def sI(a b:Int):((j9 a b).1=a/\(j9 a b).2=b)\/((j9 a b).1=b/\(j9 a b).2=a):=aDd a b
def aAi{a b x:Int}:((j9 a b).1=x\/(j9 a b).2=x)↔(a=x\/b=x):=by
 rcases sI a b with ⟨h1,h2⟩|⟨h1,h2⟩<;>rw[h1,h2]
 exact Or.comm
theorem aB4:∀{w:List Int},w≠[]->(egs w).length+1=w.length
 |[],h=>absurd rfl h
 |[a],_=>rfl
 |a::b::r,_=>by
  have:=aB4 (w:=b::r) (List.cons_ne_nil _ _)
  simp only[egs,zAS]at this ⊢;lia
theorem uT:∀{w:List Int} {p:Int×Int},p∈egs w->p.1∈w/\p.2∈w
 |[],p,h=>(nomatch h)
 |[a],p,h=>(nomatch h)
 |a::b::r,p,h=>by
  rw[egs]at h;rcases zAX.mp h with rfl|h
  .rcases sI a b with ⟨h1,h2⟩|⟨h1,h2⟩<;>rw[h1,h2]<;>simp
  .have:=uT h
   exact⟨zAF _ this.1,zAF _ this.2⟩
theorem aEZ:∀{w:List Int},w.Nodup->(egs w).Nodup
 |[],_=>zBC
 |[a],_=>zBC
 |a::b::r,h=>by
  obtain⟨h1,h2⟩:=zBB.mp h;rw[egs,zBB];refine⟨λ hm=>?_,aEZ h2⟩
  have:=uT hm
  rcases sI a b with ⟨e1,e2⟩|⟨e1,e2⟩<;>rw[e1,e2]at this
  .exact h1 this.1
  .exact h1 this.2
theorem aB5(x:Int):∀{w:List Int},w.Nodup->dgr (egs w) x<=2/\(x∉w->dgr (egs w) x=0)/\(w.head?=some x->dgr (egs w) x<=1)
 |[],_=>⟨zAc _,λ _=>rfl,λ _=>zAc _⟩
 |[a],_=>⟨zAc _,λ _=>rfl,λ _=>zAc _⟩
 |a::b::r,h=>by
  obtain⟨h1,h2⟩:=zBB.mp h;obtain⟨i1,i2,i3⟩:=aB5 x h2;rw[egs,zH];have hc:(if (j9 a b).1=x\/(j9 a b).2=x then 1 else 0)=(if a=x\/b=x then 1 else 0):=by
   by_cases c:a=x\/b=x
   .rw[if_pos c,if_pos (aAi.mpr c)]
   .rw[if_neg c,if_neg λ z=>c (aAi.mp z)]
  rw[hc];by_cases ca:a=x
  .subst ca
   have:=i2 h1
   rw[if_pos (.inl rfl)];exact⟨by lia,λ z=>absurd zAD z,λ _=>by lia⟩
  .by_cases cb:b=x
   .subst cb
    have:=i3 rfl
    rw[if_pos (.inr rfl)];exact⟨by lia,λ z=>absurd (zAF _ zAD) z,λ z=>by
     simp only[zG7,zCA]at z;exact absurd z ca⟩
   .rw[if_neg (by rintro(z|z);exact ca z;exact cb z)]
    refine⟨by lia,λ z=>?_,λ z=>?_⟩
    .have:=i2 λ q=>z (zAF _ q)
     lia
    .simp only[zG7,zCA]at z
     exact absurd z ca
def mts(S w:List Int):Nat:=if (w.any λ x=>decide (x∈S))=true then 1 else 0
def aED(S:List Int)(p:Int×Int)(F:gX):inN S (p::F)=inN S F+(if p.1∈S/\p.2∈S then 1 else 0):=by
 unfold inN;rw[zAw];by_cases c:p.1∈S/\p.2∈S
 .rw[if_pos (by simpa using c),if_pos c,zAS]
 .rw[if_neg (by simpa using c),if_neg c]
  rfl
def aFy(S:List Int)(F G:gX):inN S (F++G)=inN S F+inN S G:=by
 unfold inN;rw[zB0,zAC]
def aGL(F G:gX)(x:Int):dgr (F++G) x=dgr F x+dgr G x:=by
 unfold dgr;rw[zB0,zAC]
theorem aE0(S:List Int):∀w:List Int,inN S (egs w)+mts S w<=(w.filter λ x=>decide (x∈S)).length
 |[]=>zAL _
 |[a]=>by
  show 0+mts S [a]<=_;unfold mts;by_cases c:a∈S<;>simp[c]
 |a::b::r=>by
  have ih:=aE0 S (b::r);rw[egs,aED];have fc:((a::b::r).filter λ x=>decide (x∈S)).length=((b::r).filter λ x=>decide (x∈S)).length+(if a∈S then 1 else 0):=by
   rw[zAw];by_cases c:a∈S
   .rw[if_pos (decide_eq_true c),if_pos c,zAS]
   .rw[if_neg (by rw[decide_eq_true_eq];exact c),if_neg c];rfl
  rw[fc];have hc:((j9 a b).1∈S/\(j9 a b).2∈S)↔(a∈S/\b∈S):=by
   rcases sI a b with ⟨h1,h2⟩|⟨h1,h2⟩<;>rw[h1,h2]
   exact And.comm
  by_cases ca:a∈S
  .rw[if_pos ca]
   have m1:mts S (a::b::r)=1:=by simp[mts,ca]
   rw[m1];by_cases cb:b∈S
   .rw[if_pos (hc.mpr ⟨ca,cb⟩)]
    have m2:mts S (b::r)=1:=by simp[mts,cb]
    lia
   .rw[if_neg λ z=>cb (hc.mp z).2]
    lia
  .rw[if_neg ca,if_neg λ z=>ca (hc.mp z).1]
   have m1:mts S (a::b::r)=mts S (b::r):=by simp[mts,ca]
   rw[m1];exact ih
section
variable{n:Int}{ps:gX}{W:gV}
def aJ5:∀{W:gV} {p:Int×Int},p∈W.flatMap egs->p.1∈W.flatten/\p.2∈W.flatten:=by
 intro W p h;obtain⟨w,hw,h⟩:=zBM.mp h
 have:=uT h
 exact⟨zBy.mpr ⟨w,hw,this.1⟩,zBy.mpr ⟨w,hw,this.2⟩⟩
theorem aGv:∀{W:gV},W.flatten.Nodup->(W.flatMap egs).Nodup
 |[],_=>zBC
 |w::W,h=>by
  rw[zA5,zAu]at h;rw[zAt,zAu];exact⟨aEZ h.1,aGv h.2.1,λ p hp q hq e=>by
   subst e;exact h.2.2 _ (uT hp).1 _ (aJ5 hq).1 rfl⟩
theorem aEU(x:Int):∀{W:gV},W.flatten.Nodup->dgr (W.flatMap egs) x<=2/\(x∉W.flatten->dgr (W.flatMap egs) x=0)
 |[],_=>⟨zAc _,λ _=>rfl⟩
 |w::W,h=>by
  rw[zA5,zAu]at h;obtain⟨i1,i2⟩:=aEU x h.2.1;obtain⟨j1,j2,_⟩:=aB5 x h.1;rw[zAt,aGL,zA5];refine⟨?_,λ z=>?_⟩
  .by_cases c:x∈w
   .have:=i2 λ z=>h.2.2 x c x z rfl
    lia
   .have:=j2 c
    lia
  .rw[zAM,not_or]at z
   have:=i2 z.2
   have:=j2 z.1
   lia
theorem aGw(S:List Int):∀W:gV,inN S (W.flatMap egs)+(W.map (mts S)).sum<=(W.flatten.filter λ x=>decide (x∈S)).length
 |[]=>zAL _
 |w::W=>by
  have:=aGw S W
  have:=aE0 S w
  rw[zAt,aFy,zA5,zB0,zAC,zAU,zBV];lia
theorem aET:∀{W:gV},(∀w∈W,w≠[])->(W.flatMap egs).length+W.length=W.flatten.length
 |[],_=>rfl
 |w::W,h=>by
  have:=aET λ v hv=>h v (zAF _ hv)
  have:=aB4 (h w zAD)
  rw[zAt,zAC,zA5,zAC,zAS];lia
def aEk(hW:W.flatten.Nodup):Ac (W.flatMap egs):=λ S nd ne=>by
 have h:=aGw S W;have h2:(W.flatten.filter λ x=>decide (x∈S)).length<=S.length:=lL (hW.filter _) λ x hx=>by simpa using(zA0.mp hx).2
 have h3:=zDA.mpr ne;by_cases z:inN S (W.flatMap egs)=0
 .lia
 .have:1<=(W.map (mts S)).sum:=by
   have bP:0<inN S (W.flatMap egs):=Nat.pos_of_ne_zero z;unfold inN at bP;obtain⟨p,hp⟩:=List.exists_mem_of_length_pos bP;obtain⟨hp1,hp2⟩:=zA0.mp hp;obtain⟨w,hw,hpw⟩:=zBM.mp hp1;rw[zAK,decide_eq_true_eq,decide_eq_true_eq]at hp2
   have:mts S w=1:=by
    unfold mts;rw[if_pos (List.any_eq_true.mpr ⟨p.1,(uT hpw).1,decide_eq_true hp2.1⟩)]
   have hs:∀{W:gV},w∈W->mts S w<=(W.map (mts S)).sum:=by
    intro W hw;induction W with
    |nil=>cases hw
    |cons v W ih=>
     rw[zAU,zBV];rcases zAX.mp hw with rfl|hw
     .lia
     .have:=ih hw
      lia
   have:=hs hw
   lia
  lia
def aE8(O:Ow n ps)(hW:W.flatten.Nodup)(ne:∀w∈W,w≠[])(hE:∀p∈W.flatMap egs,p∈ps)(nd:ps.Nodup)(hf:W.flatten.length=n.toNat):∃t∈cO ps,n.toNat<=t.1.length+W.length:=by
 have hp:∀p∈ps,(0<=p.1/\p.1<n)/\(0<=p.2/\p.2<n):=λ p h=>by
  have:=O.pr p h
  exact⟨⟨this.1,this.2.1⟩,this.2.2.1,this.2.2.2.1⟩
 have aI:∀p∈ps.filter (λ p=>decide (p∈W.flatMap egs)),p∈W.flatMap egs:=λ p h=>by simpa using(zA0.mp h).2
 have ndf:=nd.filter λ p=>decide (p∈W.flatMap egs)
 obtain⟨t,ht,e⟩:=aDB hp (ps.filter λ p=>decide (p∈W.flatMap egs)) List.filter_sublist (λ S n1 n2=>by
  have:=aEk hW S n1 n2
  have h2:inN S (ps.filter λ p=>decide (p∈W.flatMap egs))<=inN S (W.flatMap egs):=by
   unfold inN;exact lL (ndf.filter _) λ p hp=>by
    obtain⟨a,b⟩:=zA0.mp hp;exact zA0.mpr ⟨aI p a,b⟩
  lia) (λ x=>by
  have:=(aEU x hW).1
  have h2:dgr (ps.filter λ p=>decide (p∈W.flatMap egs)) x<=dgr (W.flatMap egs) x:=by
   unfold dgr;exact lL (ndf.filter _) λ p hp=>by
    obtain⟨a,b⟩:=zA0.mp hp;exact zA0.mpr ⟨aI p a,b⟩
  lia)
 refine⟨t,ht,?_⟩;rw[e];have h1:=aET ne;have h2:(W.flatMap egs).length<=(ps.filter λ p=>decide (p∈W.flatMap egs)).length:=lL (aGv hW) λ p hp=>zA0.mpr ⟨hE p hp,decide_eq_true hp⟩
 lia
theorem aBP{f:Int->Nat}:∀{ks:List Nat} {X:List Int},ks.Nodup->(ks.map λ k=>(X.filter λ x=>decide (f x=k)).length).sum<=X.length
 |[],X,_=>zAc _
 |k::ks,X,h=>by
  obtain⟨h1,h2⟩:=zBB.mp h;have ih:=aBP (f:=f) (X:=X.filter λ x=>!decide (f x=k)) h2;have e:(ks.map λ k'=>((X.filter λ x=>!decide (f x=k)).filter λ x=>decide (f x=k')).length)=ks.map λ k'=>(X.filter λ x=>decide (f x=k')).length:=zBT λ k' hk=>by
   rw[zGL];refine congrArg zCz (zBm λ x _=>?_);by_cases c:f x=k'
   .have:¬f x=k:=λ z=>h1 (z▸c▸hk)
    simp[c];exact λ z=>this (c.trans z)
   .simp[c]
  rw[e]at ih;have hs:(X.filter λ x=>decide (f x=k)).length+(X.filter λ x=>!decide (f x=k)).length=X.length:=by
   rw[<-qN λ x _=>by simp];exact congrArg zCz (zGD.mpr λ x _=>by simp)
  rw[zAU,zBV];lia
theorem aB7{α:Type}{P:Nat->α->Bool}{ks:List Nat}:∀{F:List α},(∀p∈F,∃k∈ks,P k p=true)->F.length<=(ks.map λ k=>(F.filter (P k)).length).sum
 |[],_=>zAc _
 |p::F,h=>by
  have ih:=aB7 (F:=F) λ q hq=>h q (zAF _ hq)
  obtain⟨k,hk,hp⟩:=h p zAD;have mono:∀k,(F.filter (P k)).length<=((p::F).filter (P k)).length:=λ k=>by
   rw[zAw];split
   .rw[zAS];lia
   .exact zAL _
  have key:∀{ks:List Nat},k∈ks->(ks.map λ k=>(F.filter (P k)).length).sum+1<=(ks.map λ k=>((p::F).filter (P k)).length).sum:=by
   intro ks hk;induction ks with
   |nil=>cases hk
   |cons j ks ihk=>
    rw[zAU,zAU,zBV,zBV];have all:∀ks:List Nat,(ks.map λ k=>(F.filter (P k)).length).sum<=(ks.map λ k=>((p::F).filter (P k)).length).sum:=λ ks=>by
     induction ks with
     |nil=>exact zAL _
     |cons i ks ii=>
      have:=mono i
      rw[zAU,zAU,zBV,zBV];lia
    rcases zAX.mp hk with e|hk
    .subst e
     have:=all ks
     have hl:((p::F).filter (P k)).length=(F.filter (P k)).length+1:=by rw[zAw,if_pos hp,zAS]
     lia
    .have:=ihk hk
     have:=mono j
     lia
  have:=key hk
  rw[zAS];lia
structure Br(n:Int)(ps:gX)(B reps:List Int)(f:Int->Nat):Prop where
 bn:B.Nodup
 bi:∀x∈B,0<=x/\x<n
 lb:∀p∈ps,p.1∉B->p.2∉B->f p.1=f p.2
 ri:∀r∈reps,(0<=r/\r<n)/\r∉B
 rn:(reps.map f).Nodup
 cv:∀x,0<=x->x<n->x∉B->f x∈reps.map f
def aGT{B reps:List Int}{f:Int->Nat}(O:Ow n ps)(b:Br n ps B reps f){t:Tr}(ht:t∈cO ps):t.1.length+reps.length<=n.toNat+B.length:=by
 have hp:∀p∈ps,(0<=p.1/\p.1<n)/\(0<=p.2/\p.2<n):=λ p h=>by
  have:=O.pr p h
  exact⟨⟨this.1,this.2.1⟩,this.2.2.1,this.2.2.2.1⟩
 obtain⟨R,hs,hd⟩:=wV hp t ht;have A:=aFI hp t ht;have h1:=aAk B t.1;have h2:(B.map (dgr t.1)).sum<=2*B.length:=by
  have h:=yH (f:=dgr t.1) (g:=λ _=>2) (l:=B) λ x _=>hd x
  have e:(B.map λ _=>2).sum=2*B.length:=by
   clear h h1;induction B with
   |nil=>rfl
   |cons x B ih=>rw[zEn,zF3,zAS];lia
  lia
 have hX:((upI n).filter λ x=>!decide (x∈B)).length+B.length<=n.toNat:=by
  have hn:(((upI n).filter λ x=>!decide (x∈B))++B).Nodup:=zAu.mpr ⟨(lC n).filter _,b.bn,λ x hx y hy e=>by
   subst e
   have:=(zA0.mp hx).2
   simp[hy]at this⟩
  have:=lL (m:=upI n) hn λ x hx=>by
   rcases zAM.mp hx with hx|hx
   .exact(zA0.mp hx).1
   .exact gZ.mpr (b.bi x hx)
  rw[zAC,rm]at this;exact this
 have h3:=aBP (f:=f) (X:=(upI n).filter λ x=>!decide (x∈B)) b.rn;have h4:=aB7 (P:=λ k p=>decide (f p.1=k)) (ks:=reps.map f) (F:=t.1.filter (o9 B)) λ p hp'=>by
  obtain⟨q1,q2⟩:=zA0.mp hp';unfold o9 at q2;simp only[zBS,zFs,decide_eq_false_iff_not]at q2
  have:=hp p (hs.subset q1)
  exact⟨f p.1,b.cv p.1 this.1.1 this.1.2 q2.1,decide_eq_true rfl⟩
 have h5:∀r∈reps,((t.1.filter (o9 B)).filter λ p=>decide (f p.1=f r)).length+1<=(((upI n).filter λ x=>!decide (x∈B)).filter λ x=>decide (f x=f r)).length:=λ r hr=>by
  obtain⟨r1,r2⟩:=b.ri r hr
  have:=A (((upI n).filter λ x=>!decide (x∈B)).filter λ x=>decide (f x=f r)) (((lC n).filter _).filter _) (zDF (zA0.mpr ⟨zA0.mpr ⟨gZ.mpr r1,by simpa using r2⟩,decide_eq_true rfl⟩))
  refine zAe (Nat.succ_le_succ ?_) this;unfold inN;rw[zGL,<-zEa,<-zEa];refine List.countP_mono_left λ p hp2 q=>?_
  rw[zAK,decide_eq_true_eq]at q;obtain⟨q1,q2⟩:=q;unfold o9 at q2;simp only[zBS,zFs,decide_eq_false_iff_not]at q2;have hpp:=hs.subset hp2;have hr2:=hp p hpp;have hl:=b.lb p hpp q2.1 q2.2;simp only[zA0,gZ,zAK,decide_eq_true_eq,zBS,decide_eq_false_iff_not];exact⟨⟨⟨hr2.1,q2.1⟩,q1⟩,⟨hr2.2,q2.2⟩,hl▸q1⟩
 have sum_pt:∀{a c:Int->Nat} {l:List Int},(∀r∈l,a r+1<=c r)->(l.map a).sum+l.length<=(l.map c).sum:=by
  intro a c l h;induction l with
  |nil=>exact zAL _
  |cons x l ih=>
   have:=ih λ r hr=>h r (zAF _ hr)
   have:=h x zAD
   rw[zAU,zAU,zBV,zBV,zAS];lia
 have h6:=sum_pt h5;rw[zAq]at h3 h4;have e3:((λ k=>(((upI n).filter λ x=>!decide (x∈B)).filter λ x=>decide (f x=k)).length)∘f)=λ r=>(((upI n).filter λ x=>!decide (x∈B)).filter λ x=>decide (f x=f r)).length:=rfl
 have e4:((λ k=>((t.1.filter (o9 B)).filter ((λ k p=>decide (f p.1=k)) k)).length)∘f)=λ r=>((t.1.filter (o9 B)).filter λ p=>decide (f p.1=f r)).length:=rfl
 rw[e3]at h3;rw[e4]at h4;lia
end
def sJ(a b:Int):j9 a b=j9 b a:=by
 unfold j9 mnI mxI;by_cases h1:b<a<;>by_cases h2:a<b<;>simp[h1,h2]<;>lia
theorem xR:∀{u v:List Int} {p:Int×Int},p∈egs (u++v)->p∈egs u\/p∈egs v\/∃a∈u,∃b,v.head?=some b/\p=j9 a b
 |[],v,p,h=>.inr (.inl h)
 |[a],[],p,h=>.inl h
 |[a],b::v,p,h=>by
  rw[zFo,egs]at h;rcases zAX.mp h with rfl|h
  .exact .inr (.inr ⟨a,zAD,b,rfl,rfl⟩)
  .exact .inr (.inl h)
 |a::c::u,v,p,h=>by
  rw[zCj,zCj,egs]at h;rcases zAX.mp h with rfl|h
  .exact .inl (by rw[egs];exact zAD)
  .rcases xR (u:=c::u) (v:=v) h with h|h|⟨x,hx,b,hb,e⟩
   .exact .inl (by rw[egs];exact zAF _ h)
   .exact .inr (.inl h)
   .exact .inr (.inr ⟨x,zAF _ hx,b,hb,e⟩)
def fW:gV->List (List Int)->List Int
 |[],_=>[]
 |w::ws,[]=>w++fW ws []
 |w::ws,b::bs=>w++(b++fW ws bs)
theorem jR:∀{ws bs:gV},bs.length<=ws.length->(fW ws bs).Perm (ws.flatten++bs.flatten)
 |[],[],_=>.refl _
 |[],b::bs,h=>by simp at h
 |w::ws,[],h=>by
  have:=jR (ws:=ws) (bs:=[]) (zAc _)
  rw[fW,zA5,zAk];exact this.append_left w
 |w::ws,b::bs,h=>by
  have:=jR (ws:=ws) (bs:=bs) (by simpa using h)
  rw[fW,zA5,zA5,zAk];refine zEs w ?_;refine(this.append_left b).trans ?_;rw[<-zAk,<-zAk];exact List.Perm.append_right _ zCd
def aCH{w:List Int}{ws bs:gV}{x:Int}(hw:w≠[])(h:(fW (w::ws) bs).head?=some x):x∈w:=by
 cases w with
 |nil=>exact absurd rfl hw
 |cons a w=>
  cases bs<;>simp[fW]at h<;>simp[h]
theorem uD:∀{ws bs:gV} {p:Int×Int},ws.length<=bs.length+1->(∀w∈ws,w≠[])->(∀w∈bs,w≠[])->p∈egs (fW ws bs)->p∈ws.flatMap egs\/p∈bs.flatMap egs\/∃a∈ws.flatten,∃b∈bs.flatten,p=j9 a b
 |[],bs,p,_,_,_,h=>(nomatch h)
 |w::ws,[],p,hl,_,_,h=>by
  have:ws=[]:=zC1.mp (by simpa using hl)
  subst this;rw[fW,fW,zAb]at h;exact .inl (by simpa using h)
 |w::ws,b::bs,p,hl,h1,h2,h=>by
  have ih:=@uD ws bs p (by simpa using hl) (λ v hv=>h1 v (zAF _ hv)) (λ v hv=>h2 v (zAF _ hv));have hb:=h2 b zAD;rw[fW]at h;simp only[zAt,zA5,zAM];rcases xR h with h|h|⟨x,hx,y,hy,e⟩
  .exact .inl (.inl h)
  .rcases xR h with h|h|⟨x,hx,y,hy,e⟩
   .exact .inr (.inl (.inl h))
   .rcases ih h with h|h|⟨x,hx,y,hy,e⟩
    .exact .inl (.inr h)
    .exact .inr (.inl (.inr h))
    .exact .inr (.inr ⟨x,.inr hx,y,.inr hy,e⟩)
   .cases ws with
    |nil=>simp[fW]at hy
    |cons v ws=>
     have:=aCH (h1 v (zAF _ zAD)) hy
     exact .inr (.inr ⟨y,.inr (zBy.mpr ⟨v,zAD,this⟩),x,.inl hx,by rw[e,sJ]⟩)
  .cases b with
   |nil=>exact absurd rfl hb
   |cons c b=>
    simp at hy;subst hy;exact .inr (.inr ⟨x,.inl hx,c,.inl zAD,e⟩)
structure Kn(T:gX)(lo hi:Int)(P:List Int)(W:gV)(B:List Int):Prop where
 pn:P.Nodup
 pm:∀x,x∈P↔lo<=x/\x<hi
 fl:W.flatten.Perm P
 ne:∀w∈W,w≠[]
 ad:∀p∈W.flatMap egs,p∈T
 bn:B.Nodup
 bs:∀x∈B,x∈P
 lb:∃(reps:List Int) (f:Int->Nat),(∀p∈T,p.1∉B->p.2∉B->f p.1=f p.2)/\(∀r∈reps,r∈P/\r∉B)/\(reps.map f).Nodup/\(∀x∈P,x∉B->f x∈reps.map f)/\reps.length=W.length+B.length
def Tin(lo hi:Int)(T:gX):Prop:=∀p∈T,(lo<=p.1/\p.1<hi)/\(lo<=p.2/\p.2<hi)
def aIK(s:Int):Kn [] s s [] [] []:=⟨zBC,λ x=>by simp,.refl _,λ w h=>(nomatch h),λ p h=>(nomatch h),zBC,λ x h=>(nomatch h),[],λ _=>0,λ p h=>(nomatch h),λ r h=>(nomatch h),zBC,λ x h=>(nomatch h),rfl⟩
def aIJ(s:Int):Kn [] s (s+1) [s] [[s]] []:=⟨by simp,λ x=>by simp;lia,.refl _,by simp,λ p h=>(nomatch h),zBC,λ x h=>(nomatch h),[s],λ _=>0,λ p h=>(nomatch h),by simp,by simp,by simp,rfl⟩
section
variable{T T':gX}{lo mid hi:Int}{P P' B B':List Int}{W W':gV}
def Kn.len(K:Kn T lo hi P W B):P.length=(hi-lo).toNat:=by
 have h:P.Perm ((upI (hi-lo)).map λ x=>lo+x):=(zEu K.pn (tW (lC _) λ a _ b _ e=>by lia)).mpr λ x=>by
  rw[K.pm,zA4];constructor
  .intro h
   exact⟨x-lo,gZ.mpr (by lia),by lia⟩
  .rintro⟨y,hy,rfl⟩
   have:=gZ.mp hy
   lia
 rw[h.length_eq,zAE,rm]
def Kn.app(K:Kn T lo mid P W B)(K':Kn T' mid hi P' W' B')(h1:lo<=mid)(h2:mid<=hi):(P++P').Nodup/\(∀x,x∈P++P'↔lo<=x/\x<hi)/\(P'++P).Nodup/\∀x,x∈P'++P↔lo<=x/\x<hi:=by
 have nd:(P++P').Nodup:=zAu.mpr ⟨K.pn,K'.pn,λ x hx y hy e=>by
  subst e
  have:=(K.pm x).mp hx
  have:=(K'.pm x).mp hy
  lia⟩
 have mm:∀x,x∈P++P'↔lo<=x/\x<hi:=λ x=>by
  rw[zAM,K.pm,K'.pm];lia
 exact⟨nd,mm,zCd.nodup_iff.mp nd,λ x=>by rw[zCd.mem_iff];exact mm x⟩
def aCL(K:Kn T lo mid P W B)(K':Kn T' mid hi P' W' B')(h1:lo<=mid)(h2:mid<=hi)(t1:Tin lo mid T)(t2:Tin mid hi T'):Kn (T++T') lo hi (P++P') (W++W') (B++B'):=by
 obtain⟨nd,mm,_,_⟩:=K.app K' h1 h2;obtain⟨rp,f,l1,l2,l3,l4,l5⟩:=K.lb;obtain⟨rp',f',m1,m2,m3,m4,m5⟩:=K'.lb;have hB:∀x,x<mid->(x∉B++B'↔x∉B):=λ x hx=>by
  rw[zAM,not_or];exact⟨λ z=>z.1,λ z=>⟨z,λ q=>by have:=(K'.pm x).mp (K'.bs x q);lia⟩⟩
 have hB':∀x,mid<=x->(x∉B++B'↔x∉B'):=λ x hx=>by
  rw[zAM,not_or];exact⟨λ z=>z.2,λ z=>⟨λ q=>by have:=(K.pm x).mp (K.bs x q);lia,z⟩⟩
 refine⟨nd,mm,by rw[zCy];exact K.fl.append K'.fl,λ w h=>?_,λ p h=>?_,zAu.mpr ⟨K.bn,K'.bn,λ x hx y hy e=>?_⟩,λ x h=>?_,rp++rp',λ x=>if x<mid then 2*f x else 2*f' x+1,λ p h q1 q2=>?_,λ r h=>?_,?_,λ x h q=>?_,?_⟩
 .rcases zAM.mp h with h|h
  .exact K.ne w h
  .exact K'.ne w h
 .rw[zDu]at h
  rcases zAM.mp h with h|h
  .exact zAQ _ (K.ad p h)
  .exact zAZ _ (K'.ad p h)
 .subst e
  have:=(K.pm x).mp (K.bs x hx)
  have:=(K'.pm x).mp (K'.bs x hy)
  lia
 .rcases zAM.mp h with h|h
  .exact zAQ _ (K.bs x h)
  .exact zAZ _ (K'.bs x h)
 .rcases zAM.mp h with h|h
  .have:=t1 p h
   rw[hB p.1 this.1.2]at q1;rw[hB p.2 this.2.2]at q2;dsimp only;rw[if_pos this.1.2,if_pos this.2.2,l1 p h q1 q2]
  .have:=t2 p h
   rw[hB' p.1 this.1.1]at q1;rw[hB' p.2 this.2.1]at q2;dsimp only;rw[if_neg (by lia),if_neg (by lia),m1 p h q1 q2]
 .rcases zAM.mp h with h|h
  .have:=l2 r h
   have hr:=(K.pm r).mp this.1;exact⟨zAQ _ this.1,(hB r hr.2).mpr this.2⟩
  .have:=m2 r h
   have hr:=(K'.pm r).mp this.1;exact⟨zAZ _ this.1,(hB' r hr.1).mpr this.2⟩
 .have e1:rp.map (λ x=>if x<mid then 2*f x else 2*f' x+1)=(rp.map f).map λ k=>2*k:=by
   rw[zAq];exact zBT λ r hr=>if_pos ((K.pm r).mp (l2 r hr).1).2
  have e2:rp'.map (λ x=>if x<mid then 2*f x else 2*f' x+1)=(rp'.map f').map λ k=>2*k+1:=by
   rw[zAq];exact zBT λ r hr=>if_neg (by have:=(K'.pm r).mp (m2 r hr).1;lia)
  rw[zAi,e1,e2];refine zAu.mpr ⟨tW l3 λ a _ b _ e=>by lia,tW m3 λ a _ b _ e=>by lia,λ x hx y hy e=>?_⟩;obtain⟨a,_,rfl⟩:=zA4.mp hx;obtain⟨b,_,rfl⟩:=zA4.mp hy;lia
 .rw[zAi,zAM]
  rcases zAM.mp h with h|h
  .have hx:=(K.pm x).mp h
   rw[hB x hx.2]at q;obtain⟨r,hr,e⟩:=zA4.mp (l4 x h q);refine .inl (zA4.mpr ⟨r,hr,?_⟩);dsimp only;rw[if_pos ((K.pm r).mp (l2 r hr).1).2,if_pos hx.2,e]
  .have hx:=(K'.pm x).mp h
   rw[hB' x hx.1]at q;obtain⟨r,hr,e⟩:=zA4.mp (m4 x h q);refine .inr (zA4.mpr ⟨r,hr,?_⟩);have hr2:=(K'.pm r).mp (m2 r hr).1;dsimp only;rw[if_neg (by lia),if_neg (by lia),e]
 .rw[zAC,zAC,zAC,l5,m5]
  lia
def Crs(P P':List Int)(C:gX):Prop:=∀p,p∈C↔∃a∈P,∃b∈P',p=j9 a b
def Crs.symm{C:gX}(h:Crs P P' C):Crs P' P C:=λ p=>by
 rw[h p];constructor
 .rintro⟨a,ha,b,hb,e⟩;exact⟨b,hb,a,ha,by rw[e,sJ]⟩
 .rintro⟨a,ha,b,hb,e⟩;exact⟨b,hb,a,ha,by rw[e,sJ]⟩
def vY{lo hi:Int}{C Q:gX}(pn:(P++P').Nodup)(pm:∀x,x∈P++P'↔lo<=x/\x<hi)(fl:W.flatten.Perm P)(ne:∀w∈W,w≠[])(ad:∀p∈W.flatMap egs,p∈Q)(bn:B.Nodup)(bs:∀x∈B,x∈P)
  (lb:∃(reps:List Int) (f:Int->Nat),(∀p∈T,p.1∉B->p.2∉B->f p.1=f p.2)/\(∀r∈reps,r∈P/\r∉B)/\(reps.map f).Nodup/\(∀x∈P,x∉B->f x∈reps.map f)/\reps.length=W.length+B.length)
  (hc:Crs P P' C)(hQ:∀p∈Q,p∈T\/p.1∈P'\/p.2∈P')(hC:∀p∈C,p∈Q)(hl:P'.length<W.length):
  Kn Q lo hi (P++P') ([fW (W.take (P'.length+1)) (P'.map λ j=>[j])]++W.drop (P'.length+1)) (B++P'):=by
 have hb1:(P'.map λ j=>[j]).length=P'.length:=zAE _;have htl:(W.take (P'.length+1)).length=P'.length+1:=by rw[zB2];lia
 have hfb:(P'.map λ j=>[j]).flatten=P':=by
  clear pn pm hc hQ hl hb1 htl;induction P' with
  |nil=>rfl
  |cons a P' ih=>rw[zAU,zA5,ih];rfl
 have hnd:=zAu.mp pn;obtain⟨rp,f,l1,l2,l3,l4,l5⟩:=lb;have split:W=W.take (P'.length+1)++W.drop (P'.length+1):=(zBE _ _).symm;refine⟨pn,pm,?_,λ w h=>?_,λ p h=>?_,zAu.mpr ⟨bn,hnd.2.1,λ x hx y hy e=>hnd.2.2 x (bs x hx) y hy e⟩,λ x h=>?_,rp,f,λ p h q1 q2=>?_,λ r h=>?_,l3,λ x h q=>?_,?_⟩
 .rw[zCy,zA5,zEY,zAb]
  have h1:=jR (ws:=W.take (P'.length+1)) (bs:=P'.map λ j=>[j]) (by rw[hb1,htl];lia);rw[hfb]at h1;refine(h1.append_right _).trans ?_;rw[zAk];refine(zEs _ zCd).trans ?_;rw[<-zAk,<-zCy,zBE];exact fl.append_right _
 .rcases zAM.mp h with h|h
  .rw[zAo.mp h]
   intro e;have h1:=jR (ws:=W.take (P'.length+1)) (bs:=P'.map λ j=>[j]) (by rw[hb1,htl];lia);rw[e]at h1;have h2:=h1.symm.eq_nil;rw[zC7]at h2;obtain⟨w,ws,ew⟩:=List.exists_cons_of_length_pos (show 0<(W.take (P'.length+1)).length by lia);have hw:=ne w (zCn (by rw[ew];exact zAD));rw[ew,zA5,zC7]at h2;exact hw h2.1.1
  .exact ne w (zFv h)
 .rw[zDu]at h
  rcases zAM.mp h with h|h
  .rw[zAt,zGZ,zAb]at h
   rcases uD (by rw[hb1,htl];lia) (λ w hw=>ne w (zCn hw)) (λ w hw=>by obtain⟨j,_,rfl⟩:=zA4.mp hw;simp) h with h|h|⟨a,ha,b,hb,e⟩
   .obtain⟨w,hw,h⟩:=zBM.mp h
    exact ad p (zBM.mpr ⟨w,zCn hw,h⟩)
   .obtain⟨w,hw,h⟩:=zBM.mp h
    obtain⟨j,_,rfl⟩:=zA4.mp hw;cases h
   .rw[hfb]at hb
    obtain⟨w,hw,ha⟩:=zBy.mp ha;exact hC p ((hc p).mpr ⟨a,fl.mem_iff.mp (zBy.mpr ⟨w,zCn hw,ha⟩),b,hb,e⟩)
  .obtain⟨w,hw,h⟩:=zBM.mp h
   exact ad p (zBM.mpr ⟨w,zFv hw,h⟩)
 .rcases zAM.mp h with h|h
  .exact zAQ _ (bs x h)
  .exact zAZ _ h
 .rw[zAM,not_or]at q1 q2
  rcases hQ p h with h|h|h
  .exact l1 p h q1.1 q2.1
  .exact absurd h q1.2
  .exact absurd h q2.2
 .have:=l2 r h
  exact⟨zAQ _ this.1,by rw[zAM,not_or];exact⟨this.2,λ z=>hnd.2.2 r this.1 r z rfl⟩⟩
 .rw[zAM,not_or]at q
  rcases zAM.mp h with h|h
  .exact l4 x h q.1
  .exact absurd h q.2
 .rw[l5,zAC,zAC,zBD,zBx]
  lia
def aFn{C Q:gX}{U U':gV}(pn:(P++P').Nodup)(pm:∀x,x∈P++P'↔lo<=x/\x<hi)(fl:U.flatten.Perm P)(fl':U'.flatten.Perm P')(ne:∀w∈U,w≠[])(ne':∀w∈U',w≠[])(ad:∀p∈U.flatMap egs,p∈Q)(ad':∀p∈U'.flatMap egs,p∈Q)
  (hc:Crs P P' C)(hC:∀p∈C,p∈Q)(hl:U.length=U'.length)(h0:U≠[]):Kn Q lo hi (P++P') [fW U U'] []:=by
 have hp:=jR (ws:=U) (bs:=U') (by lia);obtain⟨w,ws,ew⟩:=zEt h0;have hw:=ne w (by rw[ew];exact zAD);obtain⟨x,xs,ex⟩:=zEt hw;have hx:x∈P:=fl.mem_iff.mp (zBy.mpr ⟨w,by rw[ew];exact zAD,by rw[ex];exact zAD⟩);refine⟨pn,pm,?_,λ v h=>?_,λ p h=>?_,zBC,λ x h=>(nomatch h),[x],λ _=>0,λ p _ _ _=>rfl,λ r h=>⟨by rw[zAo.mp h];exact zAQ _ hx,λ z=>(nomatch z)⟩,by simp,λ y _ _=>by simp,rfl⟩
 .rw[zA5,zEY,zAb]
  exact hp.trans (fl.append fl')
 .rw[zAo.mp h]
  intro e;rw[e]at hp;have h2:=hp.symm.eq_nil;rw[zC7,ew,zA5,zC7]at h2;exact hw h2.1.1
 .rw[zAt,zGZ,zAb]at h
  rcases uD (by lia) ne ne' h with h|h|⟨a,ha,b,hb,e⟩
  .exact ad p h
  .exact ad' p h
  .exact hC p ((hc p).mpr ⟨a,fl.mem_iff.mp ha,b,fl'.mem_iff.mp hb,e⟩)
structure Cu(W U:gV):Prop where
 fl:U.flatten=W.flatten
 ne:∀w∈U,w≠[]
 ad:∀p∈U.flatMap egs,p∈W.flatMap egs
def Cu.refl(h:∀w∈W,w≠[]):Cu W W:=⟨rfl,h,λ _ h=>h⟩
def Cu.cut{A Z:gV}{a b:Int}{r:List Int}(h:Cu W (A++(a::b::r)::Z)):Cu W (A++([a]::(b::r)::Z)):=by
 refine⟨?_,λ w hw=>?_,λ p hp=>h.ad p ?_⟩
 .rw[<-h.fl]
  simp
 .rcases zAM.mp hw with hw|hw
  .exact h.ne w (zAQ _ hw)
  .rcases zAX.mp hw with rfl|hw
   .simp
   .rcases zAX.mp hw with rfl|hw
    .simp
    .exact h.ne w (zAZ _ (zAF _ hw))
 .rw[zDu,zAM]at hp ⊢
  rcases hp with hp|hp
  .exact .inl hp
  .right
   rw[zAt,zAt]at hp;rw[zAt];rcases zAM.mp hp with hp|hp
   .cases hp
   .rcases zAM.mp hp with hp|hp
    .exact zAQ _ (by rw[egs];exact zAF _ hp)
    .exact zAZ _ hp
end
theorem aDy{c:En->Rs Bool}{b:En->Ou}{I:Nat->En->Prop}(st:∀m Y,I m Y->c Y= .ok false\/(c Y= .ok true/\∃Y' m',b Y= .nx Y'/\m'<m/\I m' Y')):
  ∀(n m:Nat) (Y:En),m<n->I m Y->∃Y' m',itW c b n Y= .nx Y'/\I m' Y'/\c Y'= .ok false
 |0,_,_,h,_=>absurd h (zGh _)
 |n+1,m,Y,h,hI=>by
  rcases st m Y hI with e|⟨e,Y',m',e2,hm,hI'⟩
  .exact⟨Y,m,by unfold itW;rw[e];rfl,hI,e⟩
  .obtain⟨Y2,m2,e3,r⟩:=aDy st n m' Y' (by lia) hI'
   refine⟨Y2,m2,?_,r⟩;unfold itW;rw[e,dB,if_pos rfl,e2];exact e3
def aC5{c:En->Rs Bool}{b:En->Ou}(I:Nat->En->Prop)(st:∀m Y,I m Y->c Y= .ok false\/(c Y= .ok true/\∃Y' m',b Y= .nx Y'/\m'<m/\I m' Y')){m:Nat}{Y:En}(hm:m<1000000)(h:I m Y):
  ∃Y' m',lB c b Y= .nx Y'/\I m' Y'/\c Y'= .ok false:=aDy st fuel m Y hm h
def knT(P:List Int)(W:gV)(B:List Int):D:=.tup [.lst (P.map .int),.lst (W.map tupI),.lst (B.map .int)]
def mW(ws:gV):cF (ws.map tupI)=true:=mX λ d hd=>by
 obtain⟨w,_,rfl⟩:=zA4.mp hd;unfold tupI;simp only[imm];exact dI w
def aE9{u v:List Int}(h:u.length+v.length<=100000):adT (tupI u) (tupI v)= .ok (tupI (u++v)):=by
 unfold adT tupI;dsimp only;rw[if_pos ⟨by rw[zAE,zAE,szl];lia,dI u,dI v⟩,zAi]
def lu{u v:List Int}(h:u.length+v.length<=100000):adJ (.lst (u.map .int)) (.lst (v.map .int))= .ok (.lst ((u++v).map .int)):=by
 unfold adJ;dsimp only;rw[if_pos ⟨by rw[zAE,zAE,szl];lia,dI u,dI v⟩,zAi]
def zT{u v:gV}(h:u.length+v.length<=100000):adJ (.lst (u.map tupI)) (.lst (v.map tupI))= .ok (.lst ((u++v).map tupI)):=by
 unfold adJ;dsimp only;rw[if_pos ⟨by rw[zAE,zAE,szl];lia,mW u,mW v⟩,zAi]
abbrev laE(l:D)(bs:gV)(acc:List Int)(s3 s4:Slot):En:=[.sh l,.sh (.lst (bs.map tupI)),.sh (tupI acc),s3,s4]
def aIH{l:D}{bs:gV}{acc w:List Int}{k:Nat}(h1:acc.length+w.length<=10000)(h2:∀b∈bs,b.length<=10000)(hb:bs.length<=10000):laB (laE l bs acc (.sh (.int k)) (.sh (tupI w)))= .nx (laE l bs (acc++(w++(bs[k]?).getD [])) (.sh (.int k)) (.sh (tupI w))):=by
 have a1:rD adT 2 (aD 4) (laE l bs acc (.sh (.int k)) (.sh (tupI w)))= .nx (laE l bs (acc++w) (.sh (.int k)) (.sh (tupI w))):=by
  show(okD (adT (tupI acc) (tupI w))).bo _=_
  rw[aE9 (by lia)];rfl
 have a2:tsb (op2 ltD (aD 3) (opA cJ (aA (aD 1) aG))) (laE l bs (acc++w) (.sh (.int k)) (.sh (tupI w)))= .ok (decide (k<bs.length)):=by
  simp[szl]
 rw[laB,aO,a1,bI,fX,a2,dB];by_cases c:k<bs.length
 .rw[decide_eq_true c,if_pos rfl,zAR c]
  have a3:op2 ixD (aD 1) (aD 3) (laE l bs (acc++w) (.sh (.int k)) (.sh (tupI w)))= .ok (tupI bs[k]):=by
   show okD (atD (bs.map tupI) (k:Int))=_;rw[kJ (d:=tupI bs[k]) (by rw[zAW,zAR c];rfl)];rfl
  have hk:=h2 bs[k] (zE0 c)
  show(op2 adT (iu 2) (op2 ixD (aD 1) (aD 3)) (laE l bs (acc++w) (.sh (.int k)) (.sh (tupI w)))).bo _=_
  rw[fO,show iu 2 (laE l bs (acc++w) (.sh (.int k)) (.sh (tupI w)))= .ok (tupI (acc++w))from rfl,aN,a3,aN,aE9 (by rw[zAC];lia)];rw[zAk];rfl
 .rw[decide_eq_false c,if_neg zAT,zD6 (by lia)]
  show Ou.nx _=Ou.nx (laE l bs (acc++(w++[])) _ _);rw[zAb]
theorem aBO{l:D}{bs:gV}(h2:∀b∈bs,b.length<=1000)(hb:bs.length<=1000):∀(ws:gV) (k:Nat) (acc:List Int) (s3 s4:Slot),acc.length+ws.flatten.length+(bs.drop k).flatten.length<=10000->
  ∃t3 t4,forL (iU 2 (bJ (gnm 3) (bJ (gnm 4) iw))) laB (((ws.map tupI).zipIdx k).map λ p=>.tup [.int (p.2:Int),p.1]) (laE l bs acc s3 s4)= .nx (laE l bs (acc++fW ws (bs.drop k)) t3 t4)
 |[],k,acc,s3,s4,_=>⟨s3,s4,by rw[zD8,List.zipIdx_nil,zD8,fW,zAb];rfl⟩
 |w::ws,k,acc,s3,s4,h=>by
  rw[zA5,zAC]at h;have step:=aIH (l:=l) (bs:=bs) (acc:=acc) (w:=w) (k:=k) (by lia) (λ b hb=>by have:=h2 b hb;lia) (by lia);have hd:(acc++(w++(bs[k]?).getD [])).length+ws.flatten.length+(bs.drop (k+1)).flatten.length<=10000/\acc++fW (w::ws) (bs.drop k)=(acc++(w++(bs[k]?).getD []))++fW ws (bs.drop (k+1)):=by
   by_cases c:k<bs.length
   .rw[zBA c]at h ⊢
    rw[zA5,zAC]at h;rw[zAR c,fW];refine⟨by simp only[Option.getD_some,zAC];lia,by simp⟩
   .rw[zF1 (by lia),zF1 (by lia),zD6 (by lia),fW]
    refine⟨by simp only[zEP,zAC,zAb,zEY,zBX];lia,by simp⟩
  obtain⟨t3,t4,e⟩:=aBO h2 hb ws (k+1) (acc++(w++(bs[k]?).getD [])) (.sh (.int k)) (.sh (tupI w)) hd.1;refine⟨t3,t4,?_⟩;rw[zAU,List.zipIdx_cons,zAU,gw];have g:iU 2 (bJ (gnm 3) (bJ (gnm 4) iw)) (.tup [.int (k:Int),tupI w]) (laE l bs acc s3 s4)= .ok (laE l bs acc (.sh (.int k)) (.sh (tupI w))):=rfl;rw[g,iQ,step,yD,e,hd.2]
def yr{ws bs:gV}(h2:∀b∈bs,b.length<=1000)(hb:bs.length<=1000)(h:ws.flatten.length+bs.flatten.length<=10000):kY [.lst (ws.map tupI),.lst (bs.map tupI)]= .ok (tupI (fW ws bs)):=by
 obtain⟨t3,t4,e⟩:=aBO (l:=.lst (ws.map tupI)) h2 hb ws 0 [] .no .no (by rw[zDJ];simpa using h);rw[zDJ,zEo]at e;have st:bG 5 [.lst (ws.map tupI),.lst (bs.map tupI)]=[.sh (.lst (ws.map tupI)),.sh (.lst (bs.map tupI)),.no,.no,.no]:=rfl;have c1:bz 2 (bC aG) [.sh (.lst (ws.map tupI)),.sh (.lst (bs.map tupI)),.no,.no,.no]= .nx (laE (.lst (ws.map tupI)) bs [] .no .no):=rfl;have hi:km aEY (aA (aD 0) aG) (laE (.lst (ws.map tupI)) bs [] .no .no)= .ok (aA2 (ws.map tupI)):=rfl;have e':forL (iU 2 (bJ (gnm 3) (bJ (gnm 4) iw))) laB (aA2 (ws.map tupI)) (laE (.lst (ws.map tupI)) bs [] .no .no)= .nx (laE (.lst (ws.map tupI)) bs (fW ws bs) t3 t4):=e;have r:bV (aD 2) (laE (.lst (ws.map tupI)) bs (fW ws bs) t3 t4)= .ok (tupI (fW ws bs)):=rY (by unfold tupI;simp only[imm];exact dI _);simp only[kY,m7,cH,st];rw[aO,c1,bI,aO,pL,hi,dB,e',bI,mL,r];rfl
abbrev cuE(l:D)(k:Nat)(U:gV)(i:Nat):En:=[.sh l,.sh (.int k),.ow (.lst (U.map tupI)),.sh (.int i)]
def aI4{l:D}{k:Nat}{A Z:gV}{a b:Int}{r:List Int}(h:A.length+Z.length<=1000)(hr:r.length<=1000):cuS (cuE l k (A++(a::b::r)::Z) A.length)= .nx (cuE l k (A++([a]::(b::r)::Z)) A.length):=by
 have ix:op2 ixD (iu 2) (aD 3) (cuE l k (A++(a::b::r)::Z) A.length)= .ok (tupI (a::b::r)):=by
  show okD (atD ((A++(a::b::r)::Z).map tupI) (A.length:Int))=_;rw[kJ (d:=tupI (a::b::r)) (by rw[zAW,zDE (zAL _),zFw];rfl)];rfl
 have i1:bV (bw (op2 ixD (iu 2) (aD 3)) fB (cZ (cD (.int 1)))) (cuE l k (A++(a::b::r)::Z) A.length)= .ok (tupI [a]):=by
  have:bw (op2 ixD (iu 2) (aD 3)) fB (cZ (cD (.int 1))) (cuE l k (A++(a::b::r)::Z) A.length)= .ok (tupI [a]):=by
   unfold bw;rw[ix,aN];show okD (.ok (.tup (cutD ((a::b::r).map D.int) none (some ((1:Nat):Int)))))=_;rw[aA4];rfl
  show(bw _ _ _ _).bd qM=_
  rw[this,aN];rfl
 have i2:bV (bw (op2 ixD (iu 2) (aD 3)) (cZ (cD (.int 1))) fB) (cuE l k (A++(a::b::r)::Z) A.length)= .ok (tupI (b::r)):=by
  have:bw (op2 ixD (iu 2) (aD 3)) (cZ (cD (.int 1))) fB (cuE l k (A++(a::b::r)::Z) A.length)= .ok (tupI (b::r)):=by
   unfold bw;rw[ix,aN];show okD (.ok (.tup (cutD ((a::b::r).map D.int) (some ((1:Nat):Int)) none)))=_;rw[uZ];rfl
  show(bw _ _ _ _).bd qM=_
  rw[this,aN];exact rY (by unfold tupI;simp only[imm];exact dI _)
 have e1:cM (aA (bV (bw (op2 ixD (iu 2) (aD 3)) fB (cZ (cD (.int 1))))) (aA (bV (bw (op2 ixD (iu 2) (aD 3)) (cZ (cD (.int 1))) fB)) aG)) (cuE l k (A++(a::b::r)::Z) A.length)= .ok (.lst [tupI [a],tupI (b::r)]):=by
  rw[aBM,aj,i1,aN,aj,i2,aN,cP,aN,aN,aN];rfl
 have e2:cZ (aD 3) (cuE l k (A++(a::b::r)::Z) A.length)= .ok (some (A.length:Int)):=rfl;have e3:cZ (op2 bL (aD 3) (cD (.int 1))) (cuE l k (A++(a::b::r)::Z) A.length)= .ok (some ((A.length:Int)+1)):=rfl;have hl:((A++(a::b::r)::Z).map tupI).length=A.length+Z.length+1:=by rw[zAE,zAC,zAS];lia
 unfold cuS aEv;simp only[zCZ,zC0];rw[e1,dB,e2,dB,e3,dB];dsimp only;have s1:HT.sIx ((A++(a::b::r)::Z).map tupI).length 0 (some (A.length:Int))=A.length:=by
  simp only[HT.sIx,hl];rw[if_neg (by lia)];lia
 have s2:HT.sIx ((A++(a::b::r)::Z).map tupI).length ((A++(a::b::r)::Z).map tupI).length (some ((A.length:Int)+1))=A.length+1:=by
  simp only[HT.sIx,hl];rw[if_neg (by lia)];lia
 rw[s1,s2,if_pos ⟨by rw[hl,szl,zAS,zAS,zBX];lia,mW [[a],b::r]⟩,show max A.length (A.length+1)=A.length+1 by lia];have t1:((A++(a::b::r)::Z).map tupI).take A.length=A.map tupI:=by
  rw[zAi,List.take_left' (zAE _)]
 have t2:((A++(a::b::r)::Z).map tupI).drop (A.length+1)=Z.map tupI:=by
  rw[zAi,zAU,show A.map tupI++tupI (a::b::r)::Z.map tupI=(A.map tupI++[tupI (a::b::r)])++Z.map tupI by simp,List.drop_left' (by simp)]
 rw[t1,t2];simp[cuE]
theorem aBZ:∀{U:gV},(∀w∈U,w≠[])->U.length<=U.flatten.length
 |[],_=>zAL _
 |w::U,h=>by
  have:=aBZ λ v hv=>h v (zAF _ hv)
  have:=zDA.mpr (h w zAD)
  rw[zA5,zAC,zAS];lia
theorem aBY:∀{U:gV},(∀w∈U,w.length=1)->U.flatten.length=U.length
 |[],_=>rfl
 |w::U,h=>by
  have:=aBY λ v hv=>h v (zAF _ hv)
  have:=h w zAD
  rw[zA5,zAC,zAS];lia
def vm{W:gV}{k:Nat}(ne:∀w∈W,w≠[])(h1:W.length<=k)(h2:k<=W.flatten.length)(h3:W.flatten.length<=500):∃U,fj [.lst (W.map tupI),.int k]= .ok (.lst (U.map tupI))/\Cu W U/\U.length=k:=by
 have hc:∀(U:gV) (i:Nat),cuC (cuE (.lst (W.map tupI)) k U i)= .ok (decide (U.length<k)):=λ U i=>by
  unfold cuC;simp
 obtain⟨Y',m',e,⟨U,i,rfl,C,_,_,h6,_⟩,ec⟩:=aC5 (c:=cuC) (b:=cuB) (λ m Y=>∃U i,Y=cuE (.lst (W.map tupI)) k U i/\Cu W U/\(∀w∈U.take i,w.length=1)/\i<=U.length/\U.length<=k/\m=W.flatten.length+1-i) (by
  rintro m Y ⟨U,i,rfl,C,h4,h5,h6,rfl⟩;rw[hc];by_cases c:U.length<k
  .have hU:=aBZ C.ne
   rw[C.fl]at hU;have hi:i<U.length:=by
    rcases Nat.lt_or_ge i U.length with q|q
    .exact q
    .rw[zAz q]at h4
     have:=aBY h4
     rw[C.fl]at this;lia
   obtain⟨w,ew⟩:∃w,U[i]? =some w:=⟨U[i],zAR hi⟩
   have hs:U=U.take i++w::U.drop (i+1):=by
    have:=zBA hi
    rw[zAR hi]at ew;cases ew;rw[<-this,zBE]
   have hA:(U.take i).length=i:=by rw[zB2];lia
   have hZ:(U.drop (i+1)).length=U.length-(i+1):=zBx;have hw:w≠[]:=C.ne w (zAy ew);have hwl:w.length<=500:=by
    have:w.length<=U.flatten.length:=(zEp (zAy ew)).length_le
    rw[C.fl]at this;lia
   have aug:∀V:gV,rD (i2 (λ _ _=>true) λ a b=>.int (a+b)) 3 (cD (.int 1)) (cuE (.lst (W.map tupI)) k V i)= .nx (cuE (.lst (W.map tupI)) k V (i+1)):=λ V=>rfl
   have ix:op2 ixD (iu 2) (aD 3) (cuE (.lst (W.map tupI)) k U i)= .ok (tupI w):=by
    show okD (atD (U.map tupI) (i:Int))=_;rw[kJ (d:=tupI w) (by rw[zAW,ew];rfl)];rfl
   have ht:tsb (op2 gtD (opA cJ (aA (op2 ixD (iu 2) (aD 3)) aG)) (cD (.int 1))) (cuE (.lst (W.map tupI)) k U i)= .ok (decide (1<w.length)):=by
    rw[wC,fO,gY,aj,ix,aN,cP,aN,aN]
    show((okD (cJ [tupI w])).bd _).bd _=_
    simp[tupI];lia
   by_cases cw:1<w.length
   .obtain⟨a,b,r,rfl⟩:∃a b r,w=a::b::r:=by
     match w,cw with
     |a::b::r,_=>exact⟨a,b,r,rfl⟩
    have es:=aI4 (l:=.lst (W.map tupI)) (k:=k) (A:=U.take i) (Z:=U.drop (i+1)) (a:=a) (b:=b) (r:=r) (by lia) (by simp only[zAS]at hwl;lia);rw[<-hs,hA]at es;have C2:Cu W (U.take i++([a]::(b::r)::U.drop (i+1))):=Cu.cut (by rw[<-hs];exact C);have l2:(U.take i++([a]::(b::r)::U.drop (i+1))).length=U.length+1:=by
     rw[zAC,zAS,zAS,hA,hZ];lia
    refine .inr ⟨by rw[decide_eq_true c],cuE (.lst (W.map tupI)) k (U.take i++([a]::(b::r)::U.drop (i+1))) (i+1),W.flatten.length+1-(i+1),?_,by lia,_,_,rfl,C2,λ v hv=>?_,by lia,by lia,rfl⟩
    .rw[cuB,aO,fX,ht,decide_eq_true cw,dB,if_pos rfl,es,bI,aug]
    .rw[show i+1=(U.take i).length+1 by lia,List.take_length_add_append]at hv
     rcases zAM.mp hv with hv|hv
     .exact h4 v hv
     .simp at hv
      rw[hv];rfl
   .have w1:w.length=1:=by
     have:=zDA.mpr hw
     lia
    refine .inr ⟨by rw[decide_eq_true c],cuE (.lst (W.map tupI)) k U (i+1),W.flatten.length+1-(i+1),?_,by lia,U,i+1,rfl,C,λ v hv=>?_,by lia,h6,rfl⟩
    .rw[cuB,aO,fX,ht,decide_eq_false cw,dB,if_neg zAT]
     exact aug U
    .rw[zGU,ew]at hv
     rcases zAM.mp hv with hv|hv
     .exact h4 v hv
     .simp at hv
      rw[hv];exact w1
  .exact .inl (by rw[decide_eq_false c])) (m:=W.flatten.length+1-0) (Y:=cuE (.lst (W.map tupI)) k W 0) (by lia) ⟨W,0,rfl,Cu.refl ne,λ w h=>by simp at h,zAc _,h1,rfl⟩
 rw[hc]at ec;have hk:U.length=k:=by
  injection ec with ec
  rw[decide_eq_false_iff_not]at ec;lia
 refine⟨U,?_,C,hk⟩;have st:bG 4 [.lst (W.map tupI),.int k]=[.sh (.lst (W.map tupI)),.sh (.int k),.no,.no]:=rfl;have c1:uq 2 (opA ym (aA (aD 0) aG)) [.sh (.lst (W.map tupI)),.sh (.int k),.no,.no]= .nx [.sh (.lst (W.map tupI)),.sh (.int k),.ow (.lst (W.map tupI)),.no]:=by
  have:opA ym (aA (aD 0) aG) [.sh (.lst (W.map tupI)),.sh (.int k),.no,.no]= .ok (.lst (W.map tupI)):=by
   show okD (ym [.lst (W.map tupI)])=_;unfold ym;dsimp only;rw[if_pos (mW W)];rfl
  rw[aFA,this];rfl
 have c2:bz 3 (cD (.int 0)) [.sh (.lst (W.map tupI)),.sh (.int k),.ow (.lst (W.map tupI)),.no]= .nx (cuE (.lst (W.map tupI)) k W 0):=rfl;simp only[fj,jU,cH,st];rw[aO,c1,bI,aO,c2,bI,aO,e,bI];rfl
section
variable{P P' B B':List Int}{W W':gV}
def nu{Y:En}{i:Nat}{f:En->Rs D}(h:f Y= .ok (knT P W B)):op2 ixD f (cD (.int 0)) Y= .ok (.lst (P.map .int)):=by
 rw[fO,h,aN];rfl
def lO{Y:En}{f:En->Rs D}(h:f Y= .ok (knT P W B)):op2 ixD f (cD (.int 1)) Y= .ok (.lst (W.map tupI)):=by
 rw[fO,h,aN];rfl
def aDv{Y:En}{f:En->Rs D}(h:f Y= .ok (knT P W B)):op2 ixD f (cD (.int 2)) Y= .ok (.lst (B.map .int)):=by
 rw[fO,h,aN];rfl
def oH{f g:En->Rs D}{Y:En}{x y z:D}(h1:f Y= .ok x)(h2:g Y= .ok y)(h:adJ x y= .ok z):op2 adJ f g Y= .ok z:=by
 rw[fO,h1,aN,h2,aN,h];rfl
def aHE{f g h:En->Rs D}{Y:En}{x y z:D}(h1:f Y= .ok x)(h2:g Y= .ok y)(h3:h Y= .ok z):retS (bC (aA f (aA g (aA h aG)))) Y= .rt (.tup [x,y,z]):=by
 rw[mL,aAf,aj,h1,aN,aj,h2,aN,aj,h3,aN,cP,aN,aN,aN,aN];rfl
def aFj(h:P.length+P'.length<=500)(h2:W.length+W'.length<=500)(h3:B.length+B'.length<=500):cY [knT P W B,knT P' W' B']= .ok (knT (P++P') (W++W') (B++B')):=by
 have st:bG 2 [knT P W B,knT P' W' B']=[.sh (knT P W B),.sh (knT P' W' B')]:=rfl;simp only[cY,dM,cH,st];rw[aHE (oH (nu (i:=0) rfl) (nu (i:=0) rfl) (lu (by lia))) (oH (lO rfl) (lO rfl) (zT (by lia))) (oH (aDv rfl) (aDv rfl) (lu (by lia)))];rfl
def vZ(h:P.length+P'.length<=500)(h2:W.flatten.length<=500)(h2':W.length<=500)(h3:B.length+P'.length<=500):bR [knT P W B,knT P' W' B']= .ok (knT (P++P') ([fW (W.take (P'.length+1)) (P'.map λ j=>[j])]++W.drop (P'.length+1)) (B++P')):=by
 have st:bG 8 [knT P W B,knT P' W' B']=[.sh (knT P W B),.sh (knT P' W' B'),.no,.no,.no,.no,.no,.no]:=rfl;have hfb:(P'.map λ j=>[j]).flatten=P':=by
  clear h h2 h2' h3 st;induction P' with
  |nil=>rfl
  |cons a P' ih=>rw[zAU,zA5,ih];rfl
 have c1:ue (aD 0) (iU 3 (bJ (gnm 2) (bJ (gnm 3) (bJ (gnm 4) iw)))) [.sh (knT P W B),.sh (knT P' W' B'),.no,.no,.no,.no,.no,.no]= .nx [.sh (knT P W B),.sh (knT P' W' B'),.sh (.lst (P.map .int)),.sh (.lst (W.map tupI)),.sh (.lst (B.map .int)),.no,.no,.no]:=rfl;have c2:bz 5 (op2 ixD (aD 1) (cD (.int 0))) [.sh (knT P W B),.sh (knT P' W' B'),.sh (.lst (P.map .int)),.sh (.lst (W.map tupI)),.sh (.lst (B.map .int)),.no,.no,.no]= .nx [.sh (knT P W B),.sh (knT P' W' B'),.sh (.lst (P.map .int)),.sh (.lst (W.map tupI)),.sh (.lst (B.map .int)),.sh (.lst (P'.map .int)),.no,.no]:=rfl;have c3:bz 6 (op2 bL (opA cJ (aA (aD 5) aG)) (cD (.int 1))) [.sh (knT P W B),.sh (knT P' W' B'),.sh (.lst (P.map .int)),.sh (.lst (W.map tupI)),.sh (.lst (B.map .int)),.sh (.lst (P'.map .int)),.no,.no]= .nx [.sh (knT P W B),.sh (knT P' W' B'),.sh (.lst (P.map .int)),.sh (.lst (W.map tupI)),.sh (.lst (B.map .int)),.sh (.lst (P'.map .int)),.sh (.int ((P'.length+1:Nat):Int)),.no]:=by simp
 have s1:bw (aD 3) fB (cZ (aD 6)) [.sh (knT P W B),.sh (knT P' W' B'),.sh (.lst (P.map .int)),.sh (.lst (W.map tupI)),.sh (.lst (B.map .int)),.sh (.lst (P'.map .int)),.sh (.int ((P'.length+1:Nat):Int)),.no]= .ok (.lst ((W.take (P'.length+1)).map tupI)):=by
  show okD (.ok (.lst (cutD (W.map tupI) none (some ((P'.length+1:Nat):Int)))))=_;rw[aA4,List.map_take];rfl
 have s2:∀s7,bw (aD 3) (cZ (aD 6)) fB [.sh (knT P W B),.sh (knT P' W' B'),.sh (.lst (P.map .int)),.sh (.lst (W.map tupI)),.sh (.lst (B.map .int)),.sh (.lst (P'.map .int)),.sh (.int ((P'.length+1:Nat):Int)),s7]= .ok (.lst ((W.drop (P'.length+1)).map tupI)):=λ s7=>by
  show okD (.ok (.lst (cutD (W.map tupI) (some ((P'.length+1:Nat):Int)) none)))=_;rw[uZ,List.map_drop];rfl
 have s3:lcD (gm (aD 5)) [none] (gnm 0) gh (bC (aA (bV (aD 0)) aG)) [.sh (knT P W B),.sh (knT P' W' B'),.sh (.lst (P.map .int)),.sh (.lst (W.map tupI)),.sh (.lst (B.map .int)),.sh (.lst (P'.map .int)),.sh (.int ((P'.length+1:Nat):Int)),.no]= .ok (.lst ((P'.map λ j=>[j]).map tupI)):=by
  rw[zAq];exact nj (ds:=P'.map .int) rfl (by rw[zAE];lia) (lN P' λ x _=>⟨[.sh (.int x)],rfl,rfl⟩)
 have tl:(W.take (P'.length+1)).flatten.length<=W.flatten.length:=by
  have h:=congrArg (λ l=>l.flatten.length) (zBE (P'.length+1) W);simp only[zCy,zAC]at h;lia
 have e:=yr (ws:=W.take (P'.length+1)) (bs:=P'.map λ j=>[j]) (λ b hb=>by obtain⟨j,_,rfl⟩:=zA4.mp hb;simp) (by rw[zAE];lia) (by rw[hfb];lia);have c4:bz 7 (aW kY (aA (bw (aD 3) fB (cZ (aD 6))) (aA (lcD (gm (aD 5)) [none] (gnm 0) gh (bC (aA (bV (aD 0)) aG))) aG))) [.sh (knT P W B),.sh (knT P' W' B'),.sh (.lst (P.map .int)),.sh (.lst (W.map tupI)),.sh (.lst (B.map .int)),.sh (.lst (P'.map .int)),.sh (.int ((P'.length+1:Nat):Int)),.no]= .nx [.sh (knT P W B),.sh (knT P' W' B'),.sh (.lst (P.map .int)),.sh (.lst (W.map tupI)),.sh (.lst (B.map .int)),.sh (.lst (P'.map .int)),.sh (.int ((P'.length+1:Nat):Int)),.sh (tupI (fW (W.take (P'.length+1)) (P'.map λ j=>[j])))]:=by
  rw[jf,jX,aj,s1,aN,aj,s3,aN,cP,aN,aN,aN,e];rfl
 generalize fW (W.take (P'.length+1)) (P'.map λ j=>[j])=X at c4 ⊢;have e1:op2 adJ (aD 2) (aD 5) [.sh (knT P W B),.sh (knT P' W' B'),.sh (.lst (P.map .int)),.sh (.lst (W.map tupI)),.sh (.lst (B.map .int)),.sh (.lst (P'.map .int)),.sh (.int ((P'.length+1:Nat):Int)),.sh (tupI X)]= .ok (.lst ((P++P').map .int)):=oH rfl rfl (lu (by lia));have e2:op2 adJ (cM (aA (aD 7) aG)) (bw (aD 3) (cZ (aD 6)) fB) [.sh (knT P W B),.sh (knT P' W' B'),.sh (.lst (P.map .int)),.sh (.lst (W.map tupI)),.sh (.lst (B.map .int)),.sh (.lst (P'.map .int)),.sh (.int ((P'.length+1:Nat):Int)),.sh (tupI X)]= .ok (.lst (([X]++W.drop (P'.length+1)).map tupI)):=oH (x:=.lst ([X].map tupI)) rfl (s2 _) (zT (by rw[zBD,zBx];lia));have e3:op2 adJ (aD 4) (aD 5) [.sh (knT P W B),.sh (knT P' W' B'),.sh (.lst (P.map .int)),.sh (.lst (W.map tupI)),.sh (.lst (B.map .int)),.sh (.lst (P'.map .int)),.sh (.int ((P'.length+1:Nat):Int)),.sh (tupI X)]= .ok (.lst ((B++P').map .int)):=oH rfl rfl (lu (by lia));simp only[bR,bh,cH,st];rw[aO,c1,bI,aO,c2,bI,aO,c3,bI,aO,c4,bI,aHE e1 e2 e3];rfl
end
section
variable{T T' C Q:gX}{lo mid hi:Int}{P P' B B':List Int}{W W':gV}
def Kn.wl(K:Kn T lo hi P W B):W.length<=P.length/\B.length<=P.length/\W.flatten.length=P.length:=by
 have h:=aBZ K.ne;rw[K.fl.length_eq]at h;exact⟨h,lL K.bn K.bs,K.fl.length_eq⟩
def aEo(K:Kn T lo mid P W B)(K':Kn T' mid hi P' W' B')(h1:lo<=mid)(h2:mid<=hi)(hm:hi-lo<=100)(t1:Tin lo mid T)(t2:Tin mid hi T')(hc:Crs P P' C)(hQ:∀p,p∈Q↔p∈T\/p∈T'\/p∈C)(hW':1<=W'.length):
  ∃P2 W2 B2,bu [knT P W B,knT P' W' B']= .ok (knT P2 W2 B2)/\Kn Q lo hi P2 W2 B2:=by
 obtain⟨pn,pm,pn',pm'⟩:=K.app K' h1 h2;have l1:=K.len;have l2:=K'.len;obtain⟨w1,w2,w3⟩:=K.wl;obtain⟨w4,w5,w6⟩:=K'.wl;have st:bG 3 [knT P W B,knT P' W' B']=[.sh (knT P W B),.sh (knT P' W' B'),.no]:=rfl;have cT:∀p∈C,(p.1∈P'\/p.2∈P')/\(p.1∈P\/p.2∈P):=λ p hp=>by
  obtain⟨a,ha,b,hb,rfl⟩:=(hc p).mp hp;rcases sI a b with ⟨e1,e2⟩|⟨e1,e2⟩<;>rw[e1,e2]
  .exact⟨.inr hb,.inl ha⟩
  .exact⟨.inl hb,.inr ha⟩
 have g1:tsb (op2 gtD (opA cJ (aA (op2 ixD (aD 0) (cD (.int 1))) aG)) (opA cJ (aA (op2 ixD (aD 1) (cD (.int 0))) aG))) [.sh (knT P W B),.sh (knT P' W' B'),.no]= .ok (decide (P'.length<W.length)):=by
  rw[wC,fO,gY,aj,lO (P:=P) (W:=W) (B:=B) rfl,aN,cP,aN,aN,gY,aj,nu (i:=0) (P:=P') (W:=W') (B:=B') rfl,aN,cP,aN,aN];simp
 have g2:tsb (op2 gtD (opA cJ (aA (op2 ixD (aD 1) (cD (.int 1))) aG)) (opA cJ (aA (op2 ixD (aD 0) (cD (.int 0))) aG))) [.sh (knT P W B),.sh (knT P' W' B'),.no]= .ok (decide (P.length<W'.length)):=by
  rw[wC,fO,gY,aj,lO (P:=P') (W:=W') (B:=B') rfl,aN,cP,aN,aN,gY,aj,nu (i:=0) (P:=P) (W:=W) (B:=B) rfl,aN,cP,aN,aN];simp
 by_cases c1:P'.length<W.length
 .refine⟨_,_,_,?_,vY (T:=T) pn pm K.fl K.ne (λ p hp=>(hQ p).mpr (.inl (K.ad p hp))) K.bn K.bs K.lb hc (λ p hp=>?_) (λ p hp=>(hQ p).mpr (.inr (.inr hp))) c1⟩
  .have e:=vZ (P:=P) (P':=P') (W:=W) (W':=W') (B:=B) (B':=B') (by lia) (by lia) (by lia) (by lia)
   have a:aW bR (aA (aD 0) (aA (aD 1) aG)) [.sh (knT P W B),.sh (knT P' W' B'),.no]= .ok _:=e;simp only[bu,cC,cH,st];rw[aO,fX,g1,decide_eq_true c1,dB,if_pos rfl,mL,a];rfl
  .rcases(hQ p).mp hp with h|h|h
   .exact .inl h
   .exact .inr (.inl ((K'.pm p.1).mpr (t2 p h).1))
   .exact .inr (cT p h).1
 .by_cases c2:P.length<W'.length
  .refine⟨_,_,_,?_,vY (T:=T') pn' pm' K'.fl K'.ne (λ p hp=>(hQ p).mpr (.inr (.inl (K'.ad p hp)))) K'.bn K'.bs K'.lb hc.symm (λ p hp=>?_) (λ p hp=>(hQ p).mpr (.inr (.inr hp))) c2⟩
   .have e:=vZ (P:=P') (P':=P) (W:=W') (W':=W) (B:=B') (B':=B) (by lia) (by lia) (by lia) (by lia)
    have a:aW bR (aA (aD 1) (aA (aD 0) aG)) [.sh (knT P W B),.sh (knT P' W' B'),.no]= .ok _:=e;simp only[bu,cC,cH,st];rw[aO,fX,g1,decide_eq_false c1,dB,if_neg zAT,bI,aO,fX,g2,decide_eq_true c2,dB,if_pos rfl,mL,a];rfl
   .rcases(hQ p).mp hp with h|h|h
    .exact .inr (.inl ((K.pm p.1).mpr (t1 p h).1))
    .exact .inl h
    .exact .inr (cT p h).2
  .have hmm:∃k:Nat,k=max W.length W'.length:=⟨_,rfl⟩
   obtain⟨k,hk⟩:=hmm;obtain⟨U,eU,CU,lU⟩:=vm (k:=k) K.ne (by lia) (by lia) (by lia);obtain⟨U',eU',CU',lU'⟩:=vm (k:=k) K'.ne (by lia) (by lia) (by lia);have fU:U.flatten.Perm P:=by rw[CU.fl];exact K.fl
   have fU':U'.flatten.Perm P':=by rw[CU'.fl];exact K'.fl
   have hUl:=aBZ CU'.ne;rw[fU'.length_eq]at hUl;have e:=yr (ws:=U) (bs:=U') (λ b hb=>by
    have:b.length<=U'.flatten.length:=(zEp hb).length_le
    rw[fU'.length_eq]at this;lia) (by lia) (by rw[fU.length_eq,fU'.length_eq];lia)
   refine⟨P++P',[fW U U'],[],?_,aFn pn pm fU fU' CU.ne CU'.ne (λ p hp=>(hQ p).mpr (.inl (K.ad p (CU.ad p hp)))) (λ p hp=>(hQ p).mpr (.inr (.inl (K'.ad p (CU'.ad p hp))))) hc (λ p hp=>(hQ p).mpr (.inr (.inr hp))) (by lia) (λ z=>by rw[z]at lU;simp at lU;lia)⟩;have c3:bz 2 (opA (mmD λ i j=>if j>i then j else i) (aA (opA cJ (aA (op2 ixD (aD 0) (cD (.int 1))) aG)) (aA (opA cJ (aA (op2 ixD (aD 1) (cD (.int 1))) aG)) aG))) [.sh (knT P W B),.sh (knT P' W' B'),.no]= .nx [.sh (knT P W B),.sh (knT P' W' B'),.sh (.int k)]:=by
    have a1:opA cJ (aA (op2 ixD (aD 0) (cD (.int 1))) aG) [.sh (knT P W B),.sh (knT P' W' B'),.no]= .ok (.int W.length):=by
     rw[gY,aj,lO (P:=P) (W:=W) (B:=B) rfl,aN,cP,aN,aN];simp
    have a2:opA cJ (aA (op2 ixD (aD 1) (cD (.int 1))) aG) [.sh (knT P W B),.sh (knT P' W' B'),.no]= .ok (.int W'.length):=by
     rw[gY,aj,lO (P:=P') (W:=W') (B:=B') rfl,aN,cP,aN,aN];simp
    rw[jf,gY,aj,a1,aN,aj,a2,aN,cP,aN,aN,aN]
    have:(if (W'.length:Int)>W.length then(W'.length:Int)else W.length)=(k:Int):=by split<;>lia
    show(okD (.ok (.int (if (W'.length:Int)>W.length then(W'.length:Int)else W.length)))).bo _=_
    rw[this];rfl
   have v1:aW fj (aA (op2 ixD (aD 0) (cD (.int 1))) (aA (aD 2) aG)) [.sh (knT P W B),.sh (knT P' W' B'),.sh (.int k)]= .ok (.lst (U.map tupI)):=by
    rw[jX,aj,lO (P:=P) (W:=W) (B:=B) rfl,aN];exact eU
   have v2:aW fj (aA (op2 ixD (aD 1) (cD (.int 1))) (aA (aD 2) aG)) [.sh (knT P W B),.sh (knT P' W' B'),.sh (.int k)]= .ok (.lst (U'.map tupI)):=by
    rw[jX,aj,lO (P:=P') (W:=W') (B:=B') rfl,aN];exact eU'
   have v3:cM (aA (aW kY (aA (aW fj (aA (op2 ixD (aD 0) (cD (.int 1))) (aA (aD 2) aG))) (aA (aW fj (aA (op2 ixD (aD 1) (cD (.int 1))) (aA (aD 2) aG))) aG))) aG) [.sh (knT P W B),.sh (knT P' W' B'),.sh (.int k)]= .ok (.lst ([fW U U'].map tupI)):=by
    rw[aBM,aj,jX,aj,v1,aN,aj,v2,aN,cP,aN,aN,aN,e,aN,aN,aN];rfl
   have v4:op2 adJ (op2 ixD (aD 0) (cD (.int 0))) (op2 ixD (aD 1) (cD (.int 0))) [.sh (knT P W B),.sh (knT P' W' B'),.sh (.int k)]= .ok (.lst ((P++P').map .int)):=oH (nu (i:=0) (P:=P) (W:=W) (B:=B) rfl) (nu (i:=0) (P:=P') (W:=W') (B:=B') rfl) (lu (by lia));simp only[bu,cC,cH,st];rw[aO,fX,g1,decide_eq_false c1,dB,if_neg zAT,bI,aO,fX,g2,decide_eq_false c2,dB,if_neg zAT,bI,aO,c3,bI,aHE v4 v3 (z:=.lst []) rfl];rfl
end
def uK(R:List D->Rs D):En->Ou:=
   (aa (bz 4 (aW R (aA (aD 3) (aA (op2 bL (aD 1) (opA cJ (aA (op2 ixD (dz 2) (cD (.int 0))) aG))) aG))))
   (ifS (tsb (op2 (eqR false) (op2 ixD (aD 0) (cD (.int 0))) (cD (.str "across"))))
    (jg 2 (aW bu (aA (dz 2) (aA (aD 4) aG))))
    (jg 2 (aW cY (aA (dz 2) (aA (aD 4) aG))))))
def vX(R:List D->Rs D):cG R=aa (ifS (tsb (op2 (eqR false) (aD 0) (cD bF)))
   (retS (bC (aA (cM (aA (bV (aD 1)) aG)) (aA (cM (aA (bC (aA (bV (aD 1)) aG)) aG)) (aA (cM aG) aG)))))
   Ou.nx)
  (aa (jg 2 (bC (aA (cM aG) (aA (cM aG) (aA (cM aG) aG)))))
  (aa (ju (gm (op2 ixD (aD 0) (cD (.int 1)))) (gnm 3) (uK R))
  (retS (dz 2)))):=rfl
def aJd(n:Nat):Prop:=∀(x:D) (d o:Nat) (s:Int),lk x=some (d,o)->d<=n->Sm x->0<=s->s+o<=100->1<=o/\∃P W B,cB n [x,.int s]= .ok (knT P W B)/\Kn ((tw x).map (shf s)) s (s+o) P W B
def Kn.w1{T:gX}{lo hi:Int}{P B:List Int}{W:gV}(K:Kn T lo hi P W B)(h:lo<hi):1<=W.length:=by
 have hm:lo∈P:=(K.pm lo).mpr ⟨Int.le_refl _,h⟩
 have:=K.fl.mem_iff.mpr hm
 obtain⟨w,hw,_⟩:=zBy.mp this;exact zF2 hw
def aAh{m o:Nat}{s:Int}{T:gX}(h:∀p∈T,0<=p.1/\p.1<p.2/\p.2<((m:Nat):Int)):Tin s (s+m) (T.map (shf s)):=λ p hp=>by
 obtain⟨q,hq,rfl⟩:=zA4.mp hp
 have:=h q hq
 simp only[shf];lia
def aAq(s:Int)(m:Nat)(T:gX):(T.map (shf m)).map (shf s)=T.map (shf (s+m)):=by
 rw[zAq];refine zBT λ p _=>?_
 simp only[Function.comp,shf];exact zEf (by dsimp only;lia) (by dsimp only;lia)
def aGP{m o:Nat}{s:Int}{P P':List Int}(hP:∀x,x∈P↔s<=x/\x<s+m)(hP':∀x,x∈P'↔s+m<=x/\x<s+m+o):Crs P P' ((crs m o).map (shf s)):=λ p=>by
 have tl:∀a b:Int,a<b->j9 a b=(a,b):=λ a b h=>by
  unfold j9 mnI mxI;rw[if_neg (by lia),if_pos h]
 rw[zA4];constructor
 .rintro⟨q,hq,rfl⟩
  have:=rT.mp hq
  refine⟨s+q.1,(hP _).mpr (by lia),s+q.2,(hP' _).mpr (by lia),?_⟩;rw[tl _ _ (by lia)];rfl
 .rintro⟨a,ha,b,hb,rfl⟩
  have h1:=(hP a).mp ha;have h2:=(hP' b).mp hb;refine⟨(a-s,b-s),rT.mpr (by dsimp only;lia),?_⟩;rw[tl _ _ (by lia)];simp only[shf];exact zEf (by dsimp only;lia) (by dsimp only;lia)
theorem uF{n:Nat}(IH:aJd n){w:Str}{z:D}{s:Int}(h0:0<=s):∀(ys:List D) (m d o:Nat) (T:gX) (P B:List Int) (W:gV) (t3 t4:Slot),lks ys=some (d,o)->d<=n->s+m+o<=100->(∀y∈ys,Sm y)->(∀p∈T,0<=p.1/\p.1<p.2/\p.2<((m:Nat):Int))->Kn (T.map (shf s)) s (s+m) P W B->
  ∃P2 W2 B2 u3 u4,forL (gnm 3) (uK (cB n)) ys [.sh (.tup [.str w,z]),.sh (.int s),.nw (knT P W B),t3,t4]= .nx [.sh (.tup [.str w,z]),.sh (.int s),.nw (knT P2 W2 B2),u3,u4]/\Kn ((T++tws ys (w=="across") m).map (shf s)) s (s+m+o) P2 W2 B2
 |[],m,d,o,T,P,B,W,t3,t4,h,_,_,_,_,K=>by
  simp only[lks,zCA,zEw]at h;obtain⟨rfl,rfl⟩:=h;exact⟨P,W,B,t3,t4,by simp[forL],by rw[tws,zAb];simpa using K⟩
 |y::ys,m,d,o,T,P,B,W,t3,t4,h,hd,hm,hS,hT,K=>by
  obtain⟨d1,o1,d2,o2,e1,e2,l1,l2,rfl,ew⟩:=pB h;obtain⟨ho1,P',W',B',eR,K'⟩:=IH y d1 o1 (s+m) e1 (by omega) (hS y zAD) (by lia) (by lia);have ty:=aAd d1 y d1 o1 e1 (zAL _);have ty2:∀p∈tw y,0<=p.1/\p.1<p.2/\p.2<((o1:Nat):Int):=λ p hp=>by
   have:=ty.rg p hp
   lia
  have tin1:=aAh (o:=0) (s:=s) hT;have tin2:Tin (s+m) (s+m+o1) ((tw y).map (shf (s+m))):=aAh (o:=0) (s:=s+m) ty2;have lP:=K.len;have lP':=K'.len;have w1:=K.wl;have w2:=K'.wl;have c1:bz 4 (aW (cB n) (aA (aD 3) (aA (op2 bL (aD 1) (opA cJ (aA (op2 ixD (dz 2) (cD (.int 0))) aG))) aG))) [.sh (.tup [.str w,z]),.sh (.int s),.nw (knT P W B),.sh y,t4]= .nx [.sh (.tup [.str w,z]),.sh (.int s),.nw (knT P W B),.sh y,.sh (knT P' W' B')]:=by
   have a:op2 bL (aD 1) (opA cJ (aA (op2 ixD (dz 2) (cD (.int 0))) aG)) [.sh (.tup [.str w,z]),.sh (.int s),.nw (knT P W B),.sh y,t4]= .ok (.int (s+m)):=by
    have b:opA cJ (aA (op2 ixD (dz 2) (cD (.int 0))) aG) [.sh (.tup [.str w,z]),.sh (.int s),.nw (knT P W B),.sh y,t4]= .ok (.int m):=by
     rw[gY,aj,nu (i:=0) (P:=P) (W:=W) (B:=B) rfl,aN,cP,aN,aN,aDl,zAE,lP,show(s+(m:Int)-s).toNat=m by lia];rfl
    rw[fO,b];rfl
   rw[jf,jX,aj,show aD 3 [.sh (.tup [.str w,z]),.sh (.int s),.nw (knT P W B),.sh y,t4]= .ok y from rfl,aN,aj,a,aN,cP,aN,aN,aN,eR];rfl
  have tq:tsb (op2 (eqR false) (op2 ixD (aD 0) (cD (.int 0))) (cD (.str "across"))) [.sh (.tup [.str w,z]),.sh (.int s),.nw (knT P W B),.sh y,.sh (knT P' W' B')]= .ok (w=="across"):=by
   show(okD (eqR false (.str w) (.str "across"))).bd blD=_
   rw[xQ];rfl
  have et:tws (y::ys) (w=="across") m=((tw y).map (shf m)++(if (w=="across")=true then crs m o1 else[]))++tws ys (w=="across") (m+o1):=by
   rw[tws,ew]
  have hT2:∀p∈T++((tw y).map (shf m)++(if (w=="across")=true then crs m o1 else[])),0<=p.1/\p.1<p.2/\p.2<((m+o1:Nat):Int):=λ p hp=>by
   rcases zAM.mp hp with hp|hp
   .have:=hT p hp
    lia
   .rcases zAM.mp hp with hp|hp
    .obtain⟨q,hq,rfl⟩:=zA4.mp hp
     have:=ty2 q hq
     simp only[shf];lia
    .split at hp
     .have:=rT.mp hp
      lia
     .cases hp
  obtain⟨P1,W1,B1,c2,K1⟩:∃P1 W1 B1,ifS (tsb (op2 (eqR false) (op2 ixD (aD 0) (cD (.int 0))) (cD (.str "across"))))
    (jg 2 (aW bu (aA (dz 2) (aA (aD 4) aG))))
    (jg 2 (aW cY (aA (dz 2) (aA (aD 4) aG)))) [.sh (.tup [.str w,z]),.sh (.int s),.nw (knT P W B),.sh y,.sh (knT P' W' B')]= .nx [.sh (.tup [.str w,z]),.sh (.int s),.nw (knT P1 W1 B1),.sh y,.sh (knT P' W' B')]/\Kn ((T++((tw y).map (shf m)++(if (w=="across")=true then crs m o1 else[]))).map (shf s)) s (s+((m+o1:Nat):Int)) P1 W1 B1:=by
   rw[fX,tq,dB];by_cases c:(w=="across")=true
   .obtain⟨P1,W1,B1,e,K1⟩:=aEo (C:=(crs m o1).map (shf s)) (Q:=(T++((tw y).map (shf m)++crs m o1)).map (shf s)) K K' (by lia) (by lia) (by lia) tin1 tin2 (aGP (by intro x;rw[K.pm]) (by intro x;rw[K'.pm])) (λ p=>by
     rw[zAi,zAi,aAq,zAM,zAM]) (K'.w1 (by lia))
    refine⟨P1,W1,B1,?_,?_⟩
    .have a:aW bu (aA (dz 2) (aA (aD 4) aG)) [.sh (.tup [.str w,z]),.sh (.int s),.nw (knT P W B),.sh y,.sh (knT P' W' B')]= .ok (knT P1 W1 B1):=e
     rw[if_pos c,aAr,a];rfl
    .rw[if_pos c,show s+((m+o1:Nat):Int)=s+m+o1 by lia]
     exact K1
   .have K1:=aCL K K' (by lia) (by lia) tin1 tin2
    refine⟨P++P',W++W',B++B',?_,?_⟩
    rotate_left
    .rw[if_neg c,zAb,zAi,aAq,show s+((m+o1:Nat):Int)=s+m+o1 by lia]
     exact K1
    .have e:=aFj (P:=P) (P':=P') (W:=W) (W':=W') (B:=B) (B':=B') (by lia) (by lia) (by lia)
     have a:aW cY (aA (dz 2) (aA (aD 4) aG)) [.sh (.tup [.str w,z]),.sh (.int s),.nw (knT P W B),.sh y,.sh (knT P' W' B')]= .ok _:=e;rw[if_neg c,aAr,a];rfl
  obtain⟨P2,W2,B2,u3,u4,e,K2⟩:=uF IH (w:=w) (z:=z) h0 ys (m+o1) d2 o2 (T++((tw y).map (shf m)++(if (w=="across")=true then crs m o1 else[]))) P1 B1 W1 (.sh y) (.sh (knT P' W' B')) e2 (by omega) (by lia) (λ q hq=>hS q (zAF _ hq)) hT2 K1;refine⟨P2,W2,B2,u3,u4,?_,?_⟩
  .rw[gw,lV,iQ]
   have hu:uK (cB n) [.sh (.tup [.str w,z]),.sh (.int s),.nw (knT P W B),.sh y,t4]= .nx [.sh (.tup [.str w,z]),.sh (.int s),.nw (knT P1 W1 B1),.sh y,.sh (knT P' W' B')]:=by
    rw[uK,aO,c1,bI,c2]
   show(uK (cB n) [.sh (.tup [.str w,z]),.sh (.int s),.nw (knT P W B),.sh y,t4]).tn _=_
   rw[hu,yD,e]
  .rw[et,<-zAk,show s+(m:Int)+((o1+o2:Nat):Int)=s+((m+o1:Nat):Int)+o2 by lia]
   exact K2
theorem uE:∀n,aJd n
 |0,x,d,o,s,h,hd,_,_,_=>by have:=xM h;omega
 |n+1,x,d,o,s,h,hd,hS,h0,h1=>by
  have hq:eqR false x bF= .ok (.bl (nW x)):=aD5 hS;have tq:tsb (op2 (eqR false) (aD 0) (cD bF)) [.sh x,.sh (.int s),.no,.no,.no]= .ok (nW x):=by
   show(okD (eqR false x bF)).bd blD=_
   rw[hq];rfl
  have st:bG 5 [x,.int s]=[.sh x,.sh (.int s),.no,.no,.no]:=rfl;have key:∀r,cG (cB n) [.sh x,.sh (.int s),.no,.no,.no]= .rt r->cB (n+1) [x,.int s]= .ok r:=λ r hr=>by
   show fu 5 (cG (cB n)) [x,.int s]=_;rw[cH,st,hr]
  cases c1:nW x with
  |true=>
   have:=qG c1
   subst this;rw[ni]at h;cases h;have e:tw bF=[]:=by simp[bF,tw]
   rw[e];refine⟨zAL _,[s],[[s]],[],key _ ?_,aIJ s⟩;rw[vX,aO,fX,tq,c1,dB,if_pos rfl];rfl
  |false=>
   cases c2:iM x with
   |false=>rw[pF c1 c2]at h;cases h
   |true=>
    obtain⟨w,ys,rfl,h2,hl⟩:=lH c2;rw[hl]at h;cases hy:lks ys with
    |none=>rw[hy]at h;cases h
    |some q=>
     rw[hy]at h;obtain⟨q1,q2⟩:=q;cases h;have ho:1<=q2:=by
      match ys,h2,hy with
      |y::ys,_,hy=>
       obtain⟨d1,o1,d2,o2,e1,e2,l1,l2,rfl,ew⟩:=pB hy
       have:=(uE n y d1 o1 s e1 (by omega) (wM hS y zAD) h0 (by lia)).1
       omega
     obtain⟨P2,W2,B2,u3,u4,e,K⟩:=uF (uE n) (w:=w) (z:=.tup ys) h0 ys 0 q1 q2 [] [] [] [] .no .no hy (by omega) (by lia) (wM hS) (λ p hp=>(nomatch hp)) (by simpa using aIK s);have et:tw (.tup [.str w,.tup ys])=tws ys (w=="across") 0:=by rw[tw]
     refine⟨ho,P2,W2,B2,key _ ?_,?_⟩
     .have c3:jg 2 (bC (aA (cM aG) (aA (cM aG) (aA (cM aG) aG)))) [.sh (.tup [.str w,.tup ys]),.sh (.int s),.no,.no,.no]= .nx [.sh (.tup [.str w,.tup ys]),.sh (.int s),.nw (knT [] [] []),.no,.no]:=rfl
      have hi:gm (op2 ixD (aD 0) (cD (.int 1))) [.sh (.tup [.str w,.tup ys]),.sh (.int s),.nw (knT [] [] []),.no,.no]= .ok ys:=rfl;rw[vX,aO,fX,tq,c1,dB,if_neg zAT,bI,aO,c3,bI,aO,pL,hi,dB,e,bI];rfl
     .rw[et]
      simpa using K
def aJt(T:gX):T.map (shf 0)=T:=by
 conv=>rhs;rw[<-List.map_id T]
 exact zBT λ p _=>by simp[shf]
def aCP{x:D}{d o:Nat}(h:lk x=some (d,o))(hS:Sm x)(hn:nd x<90000)(hd:d<=24)(ho:o<=40):∃P W B,aZ [x]= .ok (.int W.length)/\Kn (tw x) 0 o P W B/\1<=o:=by
 obtain⟨o1,P,W,B,e,K⟩:=uE 64 x d o 0 h (by omega) hS (by decide) (by lia);rw[aJt,Int.zero_add]at K;have e':oK [x,.int 0]= .ok (knT P W B):=e;have hp:gK [x]= .ok (.bl true):=by
  rw[aBD hS hn];simp[oZ,h,hd,ho]
 have hc:du [x]= .ok .non:=by
  have st:bG 1 [x]=[.sh x]:=rfl;simp only[du,dG,cH,st];simp[hp]
 have hk:cN [x]= .ok (knT P W B):=by
  have st:bG 1 [x]=[.sh x]:=rfl;simp only[cN,cA,cH,st];simp[hc,e']
 refine⟨P,W,B,?_,K,o1⟩;have st:bG 4 [x]=[.sh x,.no,.no,.no]:=rfl;simp only[aZ,cV,cH,st];simp[hk,knT]
def aAZ{x:D}(hp:gK [x]= .ok (.bl false)):aZ [x]= .ex "NoPlan":=by
 have hc:du [x]= .ex "NoPlan":=by
  have st:bG 1 [x]=[.sh x]:=rfl;simp only[du,dG,cH,st];simp[hp]
 have hk:cN [x]= .ex "NoPlan":=by
  have st:bG 1 [x]=[.sh x]:=rfl;simp only[cN,cA,cH,st];simp[hc]
 have st:bG 4 [x]=[.sh x,.no,.no,.no]:=rfl;simp only[aZ,cV,cH,st];simp[hk]
def iB{x:D}(hS:Sm x)(hn:nd x<90000)(h:oZ x=false):aZ [x]= .ex "NoPlan":=aAZ (by rw[aBD hS hn,h])
def pl(p:Int×Int):List Int:=[p.1,p.2]
def aFg:gX:=(zAj 7).flatMap λ(b:Nat)=>(zAj b).map λ(a:Nat)=>((a:Int),(b:Int))
def aDj:aFg.length=21:=by decide
def aDi{p:Int×Int}(h:0<=p.1/\p.1<p.2/\p.2<7):p∈aFg:=by
 unfold aFg;refine zBM.mpr ⟨p.2.toNat,zAx.mpr (by lia),zA4.mpr ⟨p.1.toNat,zAx.mpr (by lia),zEf ?_ ?_⟩⟩<;>dsimp only<;>lia
def aAQ{x:D}{d o:Nat}(h:lk x=some (d,o))(hS:Sm x)(hd:d<=60)(ho:o<=7):∃ps:gX,fZ [x]= .ok (owD o ps)/\Ow o ps/\ps.Perm (tw x)/\ps.Nodup/\ps.length<=21:=by
 have e:kW [x]= .ok (.tup [.int o,.lst ((tw x).map pD)]):=aC6 64 x d o h (by omega) hS (by omega);have T:=aAd d x d o h (zAL _);obtain⟨ps,q1,q2⟩:=o4 (f:=pl) (nO ((tw x).map pl)) rfl;have hl:(tw x).length<=21:=by
  have:=lL (m:=aFg) T.nd λ p hp=>aDi (by have:=T.rg p hp;lia)
  rwa [aDj]at this
 have hs:vO [.lst ((tw x).map pD)]= .ok (.lst (ps.map pD)):=by
  have e:(tw x).map pD=((tw x).map pl).map tupI:=by
   rw[zAq];rfl
  unfold vO;dsimp only;rw[e,rz (by intro ns hn;obtain⟨p,_,rfl⟩:=zA4.mp hn;simp[pl])];dsimp only;rw[if_pos (by rw[zAE];lia),q2,zAq];rfl
 refine⟨ps,?_,⟨by lia,by lia,λ p hp=>?_⟩,q1,q1.nodup_iff.mpr T.nd,by rw[q1.length_eq];exact hl⟩
 .have st:bG 3 [x]=[.sh x,.no,.no]:=rfl
  simp only[fZ,cu,cH,st];simp[ue,e,hs,owD]
 .have:=T.rg p (q1.mem_iff.mp hp)
  lia
def aGJ{x:D}{o:Nat}{ps:gX}{P B:List Int}{W:gV}(K:Kn (tw x) 0 o P W B)(O:Ow o ps)(hp:ps.Perm (tw x))(nd:ps.Nodup):((cO ps).map λ t=>(t.1.length:Int)).max?=some ((o:Int)-W.length):=by
 obtain⟨rp,f,l1,l2,l3,l4,l5⟩:=K.lb;have hb:∀t∈cO ps,t.1.length+W.length<=o:=λ t ht=>by
  have:=aGT (B:=B) (reps:=rp) (f:=f) O ⟨K.bn,λ x hx=>(K.pm x).mp (K.bs x hx),λ p h=>l1 p (hp.mem_iff.mp h),λ r h=>⟨(K.pm r).mp (l2 r h).1,(l2 r h).2⟩,l3,λ x h0 h1 h2=>l4 x ((K.pm x).mpr ⟨h0,h1⟩) h2⟩ ht
  lia
 have hl:=K.len;obtain⟨t,ht,h⟩:=aE8 (W:=W) O (K.fl.nodup_iff.mpr K.pn) K.ne (λ p h=>hp.mem_iff.mpr (K.ad p h)) nd (by rw[K.fl.length_eq,hl];lia);rw[zFn]
 have:=hb t ht
 refine⟨zA4.mpr ⟨t,ht,by lia⟩,λ b hbm=>?_⟩;obtain⟨u,hu,rfl⟩:=zA4.mp hbm
 have:=hb u hu
 lia
def lLn:En->Rs D:=(lcD (gm (aW il (aA (aD 6) aG))) [none] (gnm 0) gh (opA cJ (aA (aD 0) aG)))
def aII{Y:En}{o:Nat}{ps:gX}(h6:aD 6 (shE Y)= .ok (owD o ps))(O:Ow o ps)(ho:o<=7)(hl:ps.length<=21):lLn Y= .ok (.lst (((cO ps).map λ t=>(t.1.length:Int)).map .int)):=by
 have e:=yq O (by lia) (by lia);have hle:2^ps.length<=2^21:=zDm (by decide) hl;have hr:=(tE ps).1;rw[zAq];refine nj (ds:=(cO ps).map λ t=>rwD t.1) ?_ (by rw[zAE];lia) (lN (cO ps) λ t _=>⟨[.sh (rwD t.1)],rfl,?_⟩)
 .rw[aFr,jX,aj,h6,aN,cP,aN,aN,e]
  rfl
 .simp[rwD]
structure Pn(x:D)(d o:Nat):Prop where
 im:imm x=true
 no:aV x=true
 nn:nd x<=1000
 dp:gB x<=55
 l:lk x=some (d,o)
 d24:d<=24
 o7:o<=7
def Pn.sm{x:D}{d o:Nat}(P:Pn x d o):Sm x:=⟨P.no,by have:=P.dp;omega⟩
def aAC{x y:D}{d1 o1 d2 o2:Nat}(w:Str)(hw:(w=="beside"||w=="across")=true)(P:Pn x d1 o1)(Q:Pn y d2 o2)(h1:d1<=20)(h2:d2<=20)(h3:o1+o2<=7)(n1:nd x<=200)(n2:nd y<=200)(p1:gB x<=49)(p2:gB y<=49):Pn (.tup [.str w,.tup [x,y]]) (max d1 d2+1) (o1+o2) where
 im:=by simp[imm,cF,P.im,Q.im]
 no:=by simp[aV,au,P.no,Q.no]
 nn:=by simp[nd,nds];omega
 dp:=by simp[gB,bU];omega
 l:=by simp only[lk];rw[hw];simp[lks,P.l,Q.l]
 d24:=by omega
 o7:=by omega
def aJY{a b c e f g h:Slot}{x:D}{d o:Nat}(P:Pn x d o)(s6 s7 s8:Slot):∃t6 t7 t8,lT [a,b,c,e,f,.sh x,s6,s7,s8,g,h]= .nx [a,b,c,e,f,.sh x,t6,t7,t8,g,h]:=by
 have h24:=P.d24;have h7:=P.o7;obtain⟨ps,e1,O,hp,hnd,hl⟩:=aAQ P.l P.sm (by omega) P.o7;obtain⟨PP,W,B,e2,K,_⟩:=aCP P.l P.sm (by have:=P.nn;omega) P.d24 (by omega);have em:=aGJ K O hp hnd;have w1:=K.wl.1;have w2:=K.len;refine⟨.sh (owD o ps),.sh (.int W.length),.sh (.int W.length),?_⟩;have c0:lT0 [a,b,c,e,f,.sh x,s6,s7,s8,g,h]= .nx [a,b,c,e,f,.sh x,.sh (owD o ps),s7,s8,g,h]:=by simp[lT0,e1]
 have c1:lT1 [a,b,c,e,f,.sh x,.sh (owD o ps),s7,s8,g,h]= .nx [a,b,c,e,f,.sh x,.sh (owD o ps),.sh (.int W.length),s8,g,h]:=by
  have u:lT1=bz 7 (op2 aBh (op2 ixD (aD 6) (cD (.int 0))) (opA (o8 zFm) (aA lLn aG))):=rfl;have el:=aII (Y:=[a,b,c,e,f,.sh x,.sh (owD o ps),s7,s8,g,h]) rfl O h7 hl;have en:opA (o8 zFm) (aA lLn aG) [a,b,c,e,f,.sh x,.sh (owD o ps),s7,s8,g,h]= .ok (.int ((o:Int)-W.length)):=by
   rw[gY,aj,el,aN,cP,aN,aN];unfold o8;dsimp only;rw[oA];dsimp only;rw[em];rfl
  rw[u,jf,fO,show op2 ixD (aD 6) (cD (.int 0)) [a,b,c,e,f,.sh x,.sh (owD o ps),s7,s8,g,h]= .ok (.int o)from rfl,aN,en,aN,aCd,show(o:Int)-((o:Int)-W.length)=W.length by lia];rfl
 have c2:lT2 [a,b,c,e,f,.sh x,.sh (owD o ps),.sh (.int W.length),s8,g,h]= .nx [a,b,c,e,f,.sh x,.sh (owD o ps),.sh (.int W.length),.sh (.int W.length),g,h]:=by simp[lT2,e2]
 have c3:lT3 [a,b,c,e,f,.sh x,.sh (owD o ps),.sh (.int W.length),.sh (.int W.length),g,h]= .nx [a,b,c,e,f,.sh x,.sh (owD o ps),.sh (.int W.length),.sh (.int W.length),g,h]:=by
  simp[lT3]
 rw[lT,aO,c0,bI,aO,c1,bI,aO,c2,bI,c3]
def aH1{fe:En->Rs D}{Y:En}{c w:Str}(h:fe (Y.map shS)= .ex c)(hw:wdN c=some w):aBp wdN "told" fe Y= .ok (.str w):=by
 unfold aBp;rw[h];dsimp only;rw[hw]
def aD7(p:D):List D:=[.non,.tup [.str "two"],.tup [.str "across",.tup [p]],.lst [.str "one"],.tup [.str "beside",.tup [p,.int 0]],.tup []]
def aHz{x p:D}{d1 o1:Nat}(P:Pn p d1 o1)(h:x∈aD7 p):aZ [x]= .ex "NoPlan":=by
 have n1:=P.nn;have p1:=P.dp;have nn:∀{x:D},lk x=none->oZ x=false:=λ h=>by simp[oZ,h]
 unfold aD7 at h;simp only[zAX,zE2,or_false]at h;rcases h with rfl|rfl|rfl|rfl|rfl|rfl
 .exact iB ⟨rfl,by decide⟩ (by decide) (nn (by simp[lk]))
 .exact iB ⟨rfl,by decide⟩ (by decide) (nn (by simp[lk];decide))
 .exact iB ⟨by simp[aV,au,P.no],by simp[gB,bU];omega⟩ (by simp[nd,nds];omega) (nn (by simp[lk]))
 .exact iB ⟨rfl,by decide⟩ (by decide) (nn (by simp[lk]))
 .exact iB ⟨by simp[aV,au,P.no],by simp[gB,bU];omega⟩ (by simp[nd,nds];omega) (nn (by simp[lk,lks,P.l]))
 .exact iB ⟨rfl,by decide⟩ (by decide) (nn (by simp[lk]))
def aIF{ns:List Int}{k:Int}(k0:0<=k){s2 s3 s4 s5 s6 s7 s8 s9 s10:Slot}:∃t2 t3 t4 t5 t6 t7 t8 t9 t10,lwK [.sh (.scr ns),.sh (.int k),s2,s3,s4,s5,s6,s7,s8,s9,s10]= .nx [.sh (.scr ns),.sh (.int k),t2,t3,t4,t5,t6,t7,t8,t9,t10]:=by
 obtain⟨c,ec⟩:=aGR (ns:=ns) (k:=k) k0;obtain⟨r1,er1,hr1⟩:=m6 (c:=c) (k:=0) (b:=5) (by decide) (by decide) (by decide) (by decide);obtain⟨r2,er2,hr2⟩:=m6 (c:=c) (k:=1) (b:=2) (by decide) (by decide) (by decide) (by decide);obtain⟨r3,er3,hr3⟩:=m6 (c:=c) (k:=8000) (b:=6) (by decide) (by decide) (by decide) (by decide);obtain⟨p,ep,p1,p2,p3,pd,po,p4,p5,p6⟩:=qg (c:=c) (a:=5000) (m:=1+r1) (by decide) (by decide) (by omega) (by omega);rw[show((1+r1:Nat):Int)=1+(r1:Int)by omega]at ep;obtain⟨q,eq,q1,q2,q3,qd,qo,q4,q5,q6⟩:=qg (c:=c) (a:=6000) (m:=1+r2) (by decide) (by decide) (by omega) (by omega);rw[show((1+r2:Nat):Int)=1+(r2:Int)by omega]at eq;have hp:=aAE p p1;have hq:=aAE q q1;have P:Pn p pd po:=⟨hp.1,hp.2,by omega,by omega,p4,by omega,by omega⟩;have Q:Pn q qd qo:=⟨hq.1,hq.2,by omega,by omega,q4,by omega,by omega⟩;have O1:Pn bF 1 1:=⟨rfl,rfl,by decide,by decide,ni,by decide,by decide⟩;have gp:qM p= .ok p:=rY hp.1;have gq:qM q= .ok q:=rY hq.1;have c2:bz 2 (aW dN (aA (aD 0) (aA (aD 1) aG))) [.sh (.scr ns),.sh (.int k),s2,s3,s4,s5,s6,s7,s8,s9,s10]= .nx [.sh (.scr ns),.sh (.int k),.sh (.int c),s3,s4,s5,s6,s7,s8,s9,s10]:=by simp[ec]
 have c3:bz 3 (aW eY (aA (aD 2) (aA (cD (.int 5000)) (aA (op2 bL (cD (.int 1)) (aW bH (aA (aD 2) (aA (cD (.int 0)) (aA (cD (.int 5)) aG))))) aG)))) [.sh (.scr ns),.sh (.int k),.sh (.int c),s3,s4,s5,s6,s7,s8,s9,s10]= .nx [.sh (.scr ns),.sh (.int k),.sh (.int c),.sh p,s4,s5,s6,s7,s8,s9,s10]:=by simp[er1,ep]
 have c4:bz 4 (aW eY (aA (aD 2) (aA (cD (.int 6000)) (aA (op2 bL (cD (.int 1)) (aW bH (aA (aD 2) (aA (cD (.int 1)) (aA (cD (.int 2)) aG))))) aG)))) [.sh (.scr ns),.sh (.int k),.sh (.int c),.sh p,s4,s5,s6,s7,s8,s9,s10]= .nx [.sh (.scr ns),.sh (.int k),.sh (.int c),.sh p,.sh q,s5,s6,s7,s8,s9,s10]:=by simp[er2,eq]
 obtain⟨Y',ef,t5,t6,t7,t8,rfl⟩:=pM (a:=gnm 5) (u:=lT) (ds:=[p,.tup [.str "beside",.tup [p,q]],.tup [.str "across",.tup [q,p]],.tup [.str "across",.tup [p,bF]]]) (λ _ Y=>∃t5 t6 t7 t8,Y=[.sh (.scr ns),.sh (.int k),.sh (.int c),.sh p,.sh q,t5,t6,t7,t8,s9,s10]) (by
   rintro i d Y hd ⟨t5,t6,t7,t8,rfl⟩;have hm:=zAy hd;have hP:∃d' o',Pn d d' o':=by
    simp only[zAX,zE2,or_false]at hm;rcases hm with rfl|rfl|rfl|rfl
    .exact⟨_,_,P⟩
    .exact⟨_,_,aAC "beside" rfl P Q (by omega) (by omega) (by omega) p2 q2 p3 q3⟩
    .exact⟨_,_,aAC "across" rfl Q P (by omega) (by omega) (by omega) q2 p2 q3 p3⟩
    .exact⟨_,_,aAC "across" rfl P O1 (by omega) (by decide) (by omega) p2 (by decide) p3 (by decide)⟩
   obtain⟨d',o',hP⟩:=hP;obtain⟨u6,u7,u8,e⟩:=aJY (a:=.sh (.scr ns)) (b:=.sh (.int k)) (c:=.sh (.int c)) (e:=.sh p) (f:=.sh q) (g:=s9) (h:=s10) hP t6 t7 t8;exact⟨_,by rw[lV,iQ];exact e,.sh d,u6,u7,u8,rfl⟩) (Y:=[.sh (.scr ns),.sh (.int k),.sh (.int c),.sh p,.sh q,s5,s6,s7,s8,s9,s10]) ⟨_,_,_,_,rfl⟩
 have c5:ju lPs (gnm 5) lT [.sh (.scr ns),.sh (.int k),.sh (.int c),.sh p,.sh q,s5,s6,s7,s8,s9,s10]= .nx [.sh (.scr ns),.sh (.int k),.sh (.int c),.sh p,.sh q,t5,t6,t7,t8,s9,s10]:=by
  have hi:lPs [.sh (.scr ns),.sh (.int k),.sh (.int c),.sh p,.sh q,s5,s6,s7,s8,s9,s10]= .ok [p,.tup [.str "beside",.tup [p,q]],.tup [.str "across",.tup [q,p]],.tup [.str "across",.tup [p,bF]]]:=rfl;rw[pL,hi,dB,ef]
 obtain⟨b,eb,mb,_⟩:=aA7 (l:=aD7 p) (i:=(r3:Int)) (by omega) (by simpa[aD7]using hr3);have c6:jg 9 w9 [.sh (.scr ns),.sh (.int k),.sh (.int c),.sh p,.sh q,t5,t6,t7,t8,s9,s10]= .nx [.sh (.scr ns),.sh (.int k),.sh (.int c),.sh p,.sh q,t5,t6,t7,t8,.nw b,s10]:=by
  have eb':=eb;unfold aD7 at eb';unfold w9;simp[gp,er3,eb']
 have hb:=aHz P mb;have c7:lIf [.sh (.scr ns),.sh (.int k),.sh (.int c),.sh p,.sh q,t5,t6,t7,t8,.nw b,s10]= .nx [.sh (.scr ns),.sh (.int k),.sh (.int c),.sh p,.sh q,t5,t6,t7,t8,.nw b,s10]:=by
  have hr:aBp wdN "told" (aW aZ (aA (aD 9) aG)) [.sh (.scr ns),.sh (.int k),.sh (.int c),.sh p,.sh q,t5,t6,t7,t8,.nw b,s10]= .ok (.str "plan"):=aH1 (c:="NoPlan") (by simp[shS,hb]) (by kernel_rfl);have hE:eqR true (.str "plan") (.str "plan")= .ok (.bl false):=rfl;unfold lIf;simp[hr,hE]
 refine⟨.sh (.int c),.sh p,.sh q,t5,t6,t7,t8,.nw b,s10,?_⟩;unfold lwK;rw[aO,c2,bI,aO,c3,bI,aO,c4,bI,aO,c5,bI,aO,c6,bI,c7]
def aDn(ns:List Int)(hn:ns.length<=63):aEc [.scr ns]= .ok (.bl true):=by
 have st:bG 11 [.scr ns]=[.sh (.scr ns),.no,.no,.no,.no,.no,.no,.no,.no,.no,.no]:=rfl;have hk:∃m:Int,(if (if (4:Int)<(ns.length:Int)then(4:Int)else(ns.length:Int))>1 then(if (4:Int)<(ns.length:Int)then(4:Int)else(ns.length:Int))else 1)=m/\0<=m/\m<=4:=⟨_,rfl,by split<;>split<;>omega,by split<;>split<;>omega⟩
 obtain⟨m,hm,m0,m1⟩:=hk;have hr:=mK (j:=m) (by omega) (by omega);obtain⟨Y',e,t1,t2,t3,t4,t5,t6,t7,t8,t9,t10,rfl⟩:=pM (a:=gnm 1) (u:=lwK) (ds:=gk 0 m) (λ _ Y=>∃t1 t2 t3 t4 t5 t6 t7 t8 t9 t10,Y=[.sh (.scr ns),t1,t2,t3,t4,t5,t6,t7,t8,t9,t10]) (by
  rintro i d Y hd ⟨t1,t2,t3,t4,t5,t6,t7,t8,t9,t10,rfl⟩;obtain⟨rfl,_⟩:=yS hd;obtain⟨u2,u3,u4,u5,u6,u7,u8,u9,u10,e⟩:=aIF (ns:=ns) (k:=0+(i:Int)) (by omega) (s2:=t2) (s3:=t3) (s4:=t4) (s5:=t5) (s6:=t6) (s7:=t7) (s8:=t8) (s9:=t9) (s10:=t10);exact⟨_,by rw[lV,iQ];exact e,_,_,_,_,_,_,_,_,_,_,rfl⟩) (Y:=[.sh (.scr ns),.no,.no,.no,.no,.no,.no,.no,.no,.no,.no]) ⟨_,_,_,_,_,_,_,_,_,_,rfl⟩
 have c1:ju lwR (gnm 1) lwK [.sh (.scr ns),.no,.no,.no,.no,.no,.no,.no,.no,.no,.no]= .nx [.sh (.scr ns),t1,t2,t3,t4,t5,t6,t7,t8,t9,t10]:=by
  have hi:lwR [.sh (.scr ns),.no,.no,.no,.no,.no,.no,.no,.no,.no,.no]= .ok (gk 0 m):=by
   rw[<-hr,<-hm];rfl
  rw[pL,hi,dB,e]
 have mw:xF (.tup [.tup [.str "one"]]) (.int 9)= .ok (.tup (zAO 9 bF)):=by kernel_rfl
 have c2:lWd [.sh (.scr ns),t1,t2,t3,t4,t5,t6,t7,t8,t9,t10]= .nx [.sh (.scr ns),t1,t2,t3,t4,t5,t6,t7,t8,t9,.sh (.tup [.str "beside",.tup (zAO 9 bF)])]:=by
  unfold lWd;have v:op2 xF (bC (aA (bC (aA (cD (.str "one")) aG)) aG)) (cD (.int 9)) [.sh (.scr ns),t1,t2,t3,t4,t5,t6,t7,t8,t9,t10]= .ok (.tup (zAO 9 bF)):=by
   show okD (xF (.tup [.tup [.str "one"]]) (.int 9))=_;rw[mw];rfl
  rw[jf,aAf,aj,aHA,aN,aj,v,aN,cP,aN,aN,aN];rfl
 have z1:aZ [.tup [.str "across",.tup [.tup [.str "beside",.tup (zAO 9 bF)],.tup [.str "one"]]]]= .ok (.int 8):=by kernel_rfl
 have z2:aZ [.tup [.str "across",.tup [.tup [.str "beside",.tup (zAO 9 bF)],.tup [.str "beside",.tup (zAO 9 bF)]]]]= .ok (.int 1):=by kernel_rfl
 generalize D.tup [.str "beside",.tup (zAO 9 bF)]=X at c2 z1 z2;have cz:lwZ [.sh (.scr ns),t1,t2,t3,t4,t5,t6,t7,t8,t9,.sh X]= .ok (.bl true):=by
  have a1:aW aZ (aA (bC (aA (cD (.str "across")) (aA (bC (aA (aD 10) (aA (bC (aA (cD (.str "one")) aG)) aG))) aG))) aG) [.sh (.scr ns),t1,t2,t3,t4,t5,t6,t7,t8,t9,.sh X]= .ok (.int 8):=z1;have a2:aW aZ (aA (bC (aA (cD (.str "across")) (aA (bC (aA (aD 10) (aA (aD 10) aG))) aG))) aG) [.sh (.scr ns),t1,t2,t3,t4,t5,t6,t7,t8,t9,.sh X]= .ok (.int 1):=z2;have q1:eqR false (.int 8) (.int 8)= .ok (.bl true):=rfl;have q2:eqR false (.int 1) (.int 1)= .ok (.bl true):=rfl;unfold lwZ;simp only[aGX,fO,a1,a2,aHA,aN,q1,q2,aD6,aIa]
 have key:uY [.sh (.scr ns),.no,.no,.no,.no,.no,.no,.no,.no,.no,.no]= .rt (.bl true):=by
  rw[uY,aO,c1,bI,aO,c2,bI,mL,cz,dB]
 unfold aEc;rw[cH,st,key]
local macro_rules|`(tactic|walk_at "sc")=>`(tactic|exact⟨rfl,rfl,rfl,by decide+kernel,rfl,by decide+kernel,by decide+kernel⟩)
def top(i:Nat):Stmt:=PySem.Challenge.pw_fewways_k45_fewest_ways_of_plans.main.body.getD i (.Pass ⟨0,0,0,0⟩)
abbrev fL:Stmt:=top 20
abbrev qC:Stmt:=top 21
abbrev jk:Stmt:=top 22
abbrev jM:Stmt:=top 24
abbrev wU:Stmt:=top 25
abbrev tD:Stmt:=top 26
abbrev eH:Stmt:=top 27
abbrev jH:Stmt:=top 28
abbrev iK:Stmt:=top 29
abbrev gW:Stmt:=top 30
abbrev jJ:Stmt:=top 31
abbrev jL:Stmt:=top 33
abbrev nU:Stmt:=top 34
abbrev nR:Stmt:=top 35
abbrev nT:Stmt:=top 36
abbrev fK:Stmt:=top 37
abbrev iJ:Stmt:=top 38
abbrev lF:Stmt:=top 39
abbrev jK:Stmt:=top 40
abbrev q9:Stmt:=top 41
def nQ:bA ["thing"] ["thing"] (aH fL):=by walk_at "sc"
def zq:bA ["thing","left","ones","here","deep"] ["thing"] (aH qC):=by walk_at "sc"
def ut:bA ["thing"] ["thing"] (aH jk):=by walk_at "sc"
def sy:bA ["one","other"] ["one","other"] (aH jM):=by walk_at "sc"
def aCu:bA ["ways","between","found","at","way"] ["ways","between"] (aH wU):=by walk_at "sc"
def aBn:bA ["ways","many","found","at"] ["ways","many"] (aH tD):=by walk_at "sc"
def m8:bA ["one","other","places","ways","bar","joints","behind","way"] ["one","other"] (aH eH):=by walk_at "sc"
def sY:bA ["one","other","many"] ["one","other"] (aH jH):=by walk_at "sc"
def yQ:bA ["plan","start","known","inner","other"] ["plan","start"] (aH iK):=by walk_at "sc"
def pZ:bA ["plan"] ["plan"] (aH gW):=by walk_at "sc"
def sZ:bA ["plan","places","ways","bar"] ["plan"] (aH jJ):=by walk_at "sc"
def su:bA ["_law_script","_law_k"] ["_law_script","_law_k"] (aH jL):=by walk_at "sc"
def yP:bA ["_law_cell","_law_k","_law_bound","_law_left","_law_j","_law_stir"] ["_law_cell","_law_k","_law_bound"] (aH nU):=by walk_at "sc"
def yN:bA ["_law_web","_law_found","_law_one","_law_other","_law_longer","_law_some","_law_least","_law_uses","_law_low","_law_high","_law_more","_law_used"] ["_law_web"] (aH nR):=by walk_at "sc"
def yO:bA ["_law_cell","_law_at","_law_many","_law_some","_law_turn","_law_wide","_law_first","_law_word"] ["_law_cell","_law_at","_law_many"] (aH nT):=by walk_at "sc"
def ur:bA ["_law_plan_here","_law_many","_law_ties","_law_one","_law_wide","_law_more","_law_place"] ["_law_plan_here"] (aH fK):=by walk_at "sc"
def qw:bA ["_law_plan_here","_law_many","_law_ties"] ["_law_plan_here"] (aH iJ):=by walk_at "sc"
def wR:bA ["_law_error","_law_kinds","_law_words"] ["_law_error"] (aH lF):=by walk_at "sc"
def sr:bA ["_law_call","_law_word","_law_error"] ["_law_call"] (aH jK):=by walk_at "sc"
def aHU:bA ["_law_script","_law_k","_law_cell","_law_plan_here","_law_other","_law_some","_law_web","_law_due","_law_found","_law_bad","_law_wide"] ["_law_script"] (aH q9):=by walk_at "sc"
set_option genInjectivity false in
set_option genSizeOf false in
structure Adr where
 jD:Addr
 aq:zAh
 v9:Addr
 iC:zAh
 pN:Addr
 dG:zAh
 nA:Addr
 dM:zAh
 aB1:Addr
 m7:zAh
 zE:Addr
 jU:zAh
 iW:Addr
 bh:zAh
 mj:Addr
 cC:zAh
 iV:Addr
 cG:zAh
 kh:Addr
 cA:zAh
 mq:Addr
 cV:zAh
 mz:Addr
 cX:zAh
 uN:Addr
 dY:zAh
 uL:Addr
 gC:zAh
 uM:Addr
 gD:zAh
 fY:Addr
 bj:zAh
 lY:Addr
 cu:zAh
 ql:Addr
 qm:zAh
 my:Addr
 nG:zAh
 aB0:Addr
 uY:zAh
 aG9:Value
 aG8:V
 xr:Value
 xu:Value
 qU:Value
 qW:Value
 gJ:Addr
 jz:Addr
 gG:Addr
 kE:Addr
 dZ:Addr
 gF:Addr
 eX:Addr
 ie:Addr
 eV:Addr
 gH:Addr
 iZ:Addr
 ig:Addr
 kI:Addr
def wdA(t:Adr):Addr->Option Str:=λ C=>(([t.jz,t.gG,t.kE,t.dZ,t.gF,t.eX,t.ie,t.eV,t.gH,t.iZ,t.ig,t.kI]:List Addr).zip (["web","place","way","parting","many","forest","plan","one way","order","text","deed","row"]:List Str)).lookup C
structure Txt(K:zAA)(mg:Str->Option Value)(t:Adr):Prop where
 jF:Dnr K mg "is_put_together" fL ["thing"] t.jD t.aq
 vf:Dnr K mg "is_plan" qC ["thing"] t.v9 t.iC
 pO:Dnr K mg "check_plan" jk ["thing"] t.pN t.dG
 nF:Dnr K mg "laid_beside" jM ["one","other"] t.nA t.dM
 xT:Dnr K mg "laced" wU ["ways","between"] t.aB1 t.m7
 uX:Dnr K mg "cut_up" tD ["ways","many"] t.zE t.jU
 eQ:Dnr K mg "joined_by_places" eH ["one","other"] t.iW t.bh
 nC:Dnr K mg "tied_across" jH ["one","other"] t.mj t.cC
 oF:Dnr K mg "known_of" iK ["plan","start"] t.iV t.cG
 kj:Dnr K mg "checked_known" gW ["plan"] t.kh t.cA
 eF:Dnr K mg "plan_fewest" jJ ["plan"] t.mq t.cV
 nD:Dnr K mg "_law_cell_at" jL ["_law_script","_law_k"] t.mz t.cX
 eO:Dnr K mg "_law_draw" nU ["_law_cell","_law_k","_law_bound"] t.uN t.dY
 uU:Dnr K mg "_law_rows" nR ["_law_web"] t.uL t.gC
 oE:Dnr K mg "_law_plan" nT ["_law_cell","_law_at","_law_many"] t.uM t.gD
 jw:Dnr K mg "_law_web_of" fK ["_law_plan_here"] t.fY t.bj
 lq:Dnr K mg "_law_plan_web" iJ ["_law_plan_here"] t.lY t.cu
 jE:Dnr K mg "_law_class" lF ["_law_error"] t.ql t.qm
 gO:Dnr K mg "_law_refused" jK ["_law_call"] t.my t.nG
 aGy:Dnr K mg "law" q9 ["_law_script"] t.aB0 t.uY
 zA:mg "ONE"=some t.aG9
 aGg:RelV t.aG8 t.aG9
 bF:∀A H,Rp K A H t.aG8 bF
 pK:mg "BESIDE"=some t.xr
 aDH:RelV (.str "beside") t.xr
 lW:mg "ACROSS"=some t.xu
 yW:RelV (.str "across") t.xu
 jB:mg "MOST_ONES"=some t.qU
 yU:RelV (.int 40) t.qU
 jC:mg "MOST_DEEP"=some t.qW
 yV:RelV (.int 24) t.qW
 tX:mg "FewError"=some (.ref t.gJ)
 l_FewError:az mg "FewError"=t.gJ
 iD:bx K t.gJ
 aFc:mg "NoWeb"=some (.ref t.jz)
 aFk:az mg "NoWeb"=t.jz
 rF:bx K t.jz
 aCC:mg "NoPlace"=some (.ref t.gG)
 aCJ:az mg "NoPlace"=t.gG
 mC:bx K t.gG
 aFd:mg "NoWay"=some (.ref t.kE)
 aFl:az mg "NoWay"=t.kE
 rG:bx K t.kE
 yj:mg "NoParting"=some (.ref t.dZ)
 yu:az mg "NoParting"=t.dZ
 iy:bx K t.dZ
 aCB:mg "TooMany"=some (.ref t.gF)
 aCI:az mg "TooMany"=t.gF
 lz:bx K t.gF
 aAM:mg "NoForest"=some (.ref t.eX)
 aAS:az mg "NoForest"=t.eX
 j7:bx K t.eX
 yh:mg "NoPlan"=some (.ref t.ie)
 yt:az mg "NoPlan"=t.ie
 lA:bx K t.ie
 aAL:mg "NoOneWay"=some (.ref t.eV)
 aAR:az mg "NoOneWay"=t.eV
 j6:bx K t.eV
 aCD:mg "NoOrder"=some (.ref t.gH)
 aCK:az mg "NoOrder"=t.gH
 mD:bx K t.gH
 aDf:mg "NoText"=some (.ref t.iZ)
 aDr:az mg "NoText"=t.iZ
 oM:bx K t.iZ
 aDg:mg "NoDeed"=some (.ref t.ig)
 aDs:az mg "NoDeed"=t.ig
 oN:bx K t.ig
 aFe:mg "NoRow"=some (.ref t.kI)
 aFm:az mg "NoRow"=t.kI
 rJ:bx K t.kI
 wz:mg "ValueError"=none
 aIB:mg "bool"=none
 yg:mg "enumerate"=none
 aJV:mg "int"=none
 ao:mg "isinstance"=none
 fV:mg "len"=none
 aIA:mg "list"=none
 yf:mg "max"=none
 aGs:mg "min"=none
 jt:mg "range"=none
 aDa:mg "sorted"=none
 jr:mg "tuple"=none
 cb:aA5 K t.gJ [t.jz,t.gG,t.kE,t.dZ,t.gF,t.eX,t.ie,t.eV,t.gH,t.iZ,t.ig,t.kI]=true
open PySem.Spec PyProof.Rows
section
variable{P:zAP}{w:World}{K:zAA}{mg:Str->Option Value}{base:Heap}{t:Adr}
def nY(T:Txt K mg t):dH P w K mg base (CX1 P w) 1 t.jD t.aq ["thing"] (spF K (az mg) 1 bB):=
 cR (k:=0) (f:=aq) T.jF nQ λ n _ _ _ _ _ _ _=>
  (aK (fD (SW.st (aAj (aCe (sU (zp (aC 0) T.ao T.jr))) (aAj (aAm (dD T.fV (aB (aC 0) aF)) aJ) (zb (aHJ (aL (aC 0) aJ) (aY (aB (ji T.pK T.aDH (λ _ _=>.str _)) (aB (ji T.lW T.yW (λ _ _=>.str _)) aF))))))))
   (aQ (bY vP))
   cg)
  (aQ (bY (aCt (zp (aL (aC 0) aJ) T.ao T.jr) (zm (aJC (dD T.fV (aB (aL (aC 0) aJ) aF)) aJ))))))
def tQ(T:Txt K mg t):dH P w K mg base (CX1 P w) 1 t.nA t.dM ["one","other"] (spF K (az mg) 2 cY):=
 cR (k:=0) (f:=dM) T.nF sy λ n _ _ _ _ _ _ _=>
  (aQ (bY (aY (aB (nP (aL (aC 0) aJ) (aL (aC 1) aJ)) (aB (nP (aL (aC 0) aJ) (aL (aC 1) aJ)) (aB (nP (aL (aC 0) aJ) (aL (aC 1) aJ)) aF))))))
def yd(T:Txt K mg t):dH P w K mg base (CX1 P w) 1 t.aB1 t.m7 ["ways","between"] (spF K (az mg) 2 kY):=
 cR (k:=0) (f:=m7) T.xT aCu λ n _ _ _ _ _ _ _=>
  (aK (bW (i:=2) (dh (aY aF)))
  (aK (jc (aCo (aB (aC 0) aF) T.yg) (je (n:=2) (bN (bK (ks:=[3,4])) (bN (bK (ks:=[3,4])) gj)))
   (aK (aAn (i:=2) (aC 4))
   (aQ (fD (yI (aC 3) (dD T.fV (aB (aC 1) aF)))
    (aQ (aAn (i:=2) (aL (aC 1) (aC 3))))
    cg))))
  (aQ (bY (bZ (aC 2))))))
def vU(T:Txt K mg t):dH P w K mg base (CX1 P w) 1 t.zE t.jU ["ways","many"] (spF K (az mg) 2 fj):=
 cR (k:=0) (f:=jU) T.uX aBn λ n _ _ _ _ _ _ _=>
  (aK (rO (i:=2) (yG (aJu (aCr T.aIA (aB (aC 0) aF)))))
  (aK (bW (i:=3) (dh aJ))
  (aK (yK (yI (dD T.fV (aB (sW 2) aF)) (aC 1))
   (aK (fD (vJ (dD T.fV (aB (aL (sW 2) (aC 3)) aF)) aJ)
    (aQ (aHN 2 (dU (aB (bZ (iH (aL (sW 2) (aC 3)) mG (gM aJ))) (aB (bZ (iH (aL (sW 2) (aC 3)) (gM aJ) mG)) aF))) (gM (aC 3)) (gM (bf (aC 3) aJ))))
    cg)
   (aQ (aCh (i:=3) aJ (λ _=>aEA)))))
  (aQ (bY (aAs 2))))))
def tO(T:Txt K mg t):dH P w K mg base (CX1 P w) 1 t.mz t.cX ["_law_script","_law_k"] (spF K (az mg) 2 dN):=
 cR (k:=0) (f:=cX) T.nD su λ n _ _ _ _ _ _ _=>
  (aK (fD (yI (aC 1) (dD T.fV (aB (aC 0) aF)))
   (aQ (bY (bZ (aL (aC 0) (aC 1)))))
   cg)
  (aQ (bY aJ)))
def eZ(T:Txt K mg t):dH P w K mg base (CX1 P w) 1 t.uN t.dY ["_law_cell","_law_k","_law_bound"] (spF K (az mg) 3 bH):=
 cR (k:=0) (f:=dY) T.eO yP λ n _ _ _ _ _ _ _=>
  (aK (fD (aIy (aC 0) (aHQ aJ aJ))
   (aK (bW (i:=3) (dh (aC 0)))
   (aK (jc (mH (aB (aC 1) aF) T.jt) (bK (ks:=[4]))
    (aK (fD (vK (aC 3) aJ)
     (aQ (bY aJ))
     cg)
    (aQ (bW (i:=3) (dh (aAu (aC 3) (aC 2)))))))
   (aQ (bY (pY (aC 3) (aC 2))))))
   cg)
  (aK (bW (i:=5) (dh (pY (jh (bf (bf (pY (aC 0) aJ) (jh aJ (aC 1))) aJ) aJ) aJ)))
  (aK (bW (i:=5) (dh (pY (bf (bf (jh (aC 5) (aC 5)) (jh aJ (aC 1))) aJ) aJ)))
  (aQ (bY (pY (aAu (pY (jh (aC 5) aJ) aJ) aJ) (aC 2)))))))
def yc(T:Txt K mg t):dH P w K mg base (CX1 P w) 1 t.uL t.gC ["_law_web"] (spF K (az mg) 1 il):=
 cR (k:=0) (f:=gC) T.uU yN λ n _ _ _ _ _ _ _=>
  (aK (rO (i:=1) (yG (wQ (aB (aY (aB (aY aF) (aB (aBk T.jr T.jt (aL (aC 0) aJ)) (aB (aFB (aY (aB aJ aF)) (bZ (aL (aC 0) aJ))) aF)))) aF))))
  (aK (jc (jG (aL (aC 0) aJ)) (je (n:=2) (bN (bK (ks:=[2,3])) (bN (bK (ks:=[2,3])) gj)))
   (aK (rO (i:=4) (yG (wQ aF)))
   (aK (aEt 1 (je (n:=3) (bN (bK (ks:=[5,6,7])) (bN (bK (ks:=[5,6,7])) (bN (bK (ks:=[5,6,7])) gj))))
    (yJ (aHM (SW.st (aCc (yI (aL (aC 7) (aC 2)) aJ) (aCc (yI (aL (aC 7) (aC 3)) aJ) (aEq (aAm (aL (aC 6) (aC 2)) (aL (aC 6) (aC 3)))))))
     (mF (oV (i:=8) (dh (aAt T.aGs (aB (aL (aC 6) (aC 2)) (aB (aL (aC 6) (aC 3)) aF)))))
     (mF (oV (i:=9) (dh (rP T.yf (aB (aL (aC 6) (aC 2)) (aB (aL (aC 6) (aC 3)) aF)))))
     (mF (oV (i:=10) (dh (oW T.jr (aB (sX (N:=["_law_here","_law_high","_law_low"]) (js:=[none,some 9,some 8]) (ks:=[0]) (jG (aC 6)) fG lE (aJB (vK (aC 0) (aC 1)) (bZ (aC 2)) (bZ (aC 0)))) aF))))
     (mF (oV (i:=11) (dh (oW T.jr (aB (sX (N:=["_law_k","_law_uses","_law_one","_law_other"]) (js:=[none,some 7,some 2,some 3]) (ks:=[0]) (mH (aB (aL (aC 0) aJ) aF) T.jt) fG lE (bf (bZ (aL (aC 1) (aC 0))) (aFE T.aJV (aB (aJA (aAv (aC 0) (aC 2)) (zm (aAv (aC 0) (aC 3)))) aF)))) aF))))
     (yJ (zc 4 (aY (aB (bf (bZ (aC 5)) (aY (aB (aY (aB (bZ (aC 2)) (aB (bZ (aC 3)) aF))) aF))) (aB (bZ (aC 10)) (aB (bZ (aC 11)) aF))))))))))
     aCf)))
   (aQ (zg 1 4)))))
  (aQ (bY (sX (N:=["_law_row"]) (js:=[none]) (ks:=[0]) (jG (aC 1)) fG lE (bZ (aL (aC 0) aJ)))))))
def ww(T:Txt K mg t):FnH P w K mg base 1 t.ql t.qm ["_law_error"] (spW (wdA t)):=
 aCS (c1:=.ref t.gJ) (c2:=.ty "ValueError") (k1:=[.ref t.jz,.ref t.gG,.ref t.kE]) (k2:=[.ref t.dZ,.ref t.gF,.ref t.eX]) (k3:=[.ref t.ie,.ref t.eV,.ref t.gH]) (k4:=[.ref t.iZ,.ref t.ig,.ref t.kI]) (l1:=["web","place","way","parting","many","forest","plan","one way"]) (l2:=["order","text","deed","row"]) T.jE.F wR rfl rfl rfl rfl (λ cdv A outer s H=>⟨(fM rfl rfl rfl T.ao (dR (v:=.ref t.gJ) rfl T.tX rfl)),(fM rfl rfl rfl T.ao (aBF (v:=.ty "ValueError") (u:=.type "ValueError") rfl T.wz rfl rfl)),(aX (fM rfl rfl rfl T.ao (dR (v:=.ref t.jz) rfl T.aFc rfl)) (aX (fM rfl rfl rfl T.ao (dR (v:=.ref t.gG) rfl T.aCC rfl)) (aX (fM rfl rfl rfl T.ao (dR (v:=.ref t.kE) rfl T.aFd rfl)) dF))),(aX (fM rfl rfl rfl T.ao (dR (v:=.ref t.dZ) rfl T.yj rfl)) (aX (fM rfl rfl rfl T.ao (dR (v:=.ref t.gF) rfl T.aCB rfl)) (aX (fM rfl rfl rfl T.ao (dR (v:=.ref t.eX) rfl T.aAM rfl)) dF))),(aX (fM rfl rfl rfl T.ao (dR (v:=.ref t.ie) rfl T.yh rfl)) (aX (fM rfl rfl rfl T.ao (dR (v:=.ref t.eV) rfl T.aAL rfl)) (aX (fM rfl rfl rfl T.ao (dR (v:=.ref t.gH) rfl T.aCD rfl)) dF))),(aX (fM rfl rfl rfl T.ao (dR (v:=.ref t.iZ) rfl T.aDf rfl)) (aX (fM rfl rfl rfl T.ao (dR (v:=.ref t.ig) rfl T.aDg rfl)) (aX (fM rfl rfl rfl T.ao (dR (v:=.ref t.kI) rfl T.aFe rfl)) dF))),(aX eE (aX eE (aX eE (aX eE (aX eE (aX eE (aX eE (aX eE dF)))))))),(aX eE (aX eE (aX eE (aX eE dF))))⟩) rfl rfl (by decide) λ C w h=>(aG7 T.cb h).1
def aAG(T:Txt K mg t):dH P w K mg base (CX1 P w) 2 t.v9 t.iC ["thing"] (spF K (az mg) 1 gK):=
 cR (k:=1) (f:=iC) T.vf zq λ n _ _ _ _ _ _ _=>
  (aK (aEr (i:=1) (yG (wQ (aB (aY (aB (aC 0) (aB aJ aF))) aF))))
  (aK (bW (i:=2) (dh aJ))
  (aK (yK (sU (sW 1))
   (aK (aEs 1 (je (n:=2) (bN (bK (ks:=[3,4])) (bN (bK (ks:=[3,4])) gj))))
   (aK (fD (aHK (aC 3) (ji T.zA T.aGg T.bF))
    (aQ (aCh (i:=2) aJ (λ _=>aEA)))
    (aQ (fD (sU (bO (nY T) T.jF (aB (aC 3) aF)))
     (aQ (zf 1 (aHS (N:=["inner","deep"]) (js:=[none,some 4]) (ks:=[0]) (jG (aL (aC 3) aJ)) fG lE (aY (aB (aC 0) (aB (bf (aC 1) aJ) aF))))))
     (aQ (bY vP)))))
   (aQ (fD (SW.st (aAj (vJ (aC 2) (ji T.jB T.yU (λ _ _=>.int _))) (zb (vJ (aC 4) (ji T.jC T.yV (λ _ _=>.int _))))))
    (aQ (bY vP))
    cg)))))
  (aQ (bY vP)))))
def gf(T:Txt K mg t):dH P w K mg base (CX1 P w) 2 t.iW t.bh ["one","other"] (spF K (az mg) 2 bR):=
 cR (k:=1) (f:=bh) T.eQ m8 λ n _ _ _ _ _ _ _=>
  (aK (wJ (aC 0) (je (n:=3) (bN (bK (ks:=[2,3,4])) (bN (bK (ks:=[2,3,4])) (bN (bK (ks:=[2,3,4])) gj)))))
  (aK (bW (i:=5) (dh (aL (aC 1) aJ)))
  (aK (bW (i:=6) (dh (bf (dD T.fV (aB (aC 5) aF)) aJ)))
  (aK (bW (i:=7) (dh (bO (yd T) T.xT (aB (iH (aC 3) mG (gM (aC 6))) (aB (sX (N:=["joint"]) (js:=[none]) (ks:=[0]) (jG (aC 5)) fG lE (aY (aB (bZ (aC 0)) aF))) aF)))))
  (aQ (bY (aY (aB (nP (aC 2) (aC 5)) (aB (nP (dU (aB (aC 7) aF)) (iH (aC 3) (gM (aC 6)) mG)) (aB (nP (aC 4) (aC 5)) aF))))))))))
def qe(T:Txt K mg t):dH P w K mg base (CX1 P w) 2 t.uM t.gD ["_law_cell","_law_at","_law_many"] (spF K (az mg) 3 eY):=
 cR (k:=1) (f:=gD) T.oE yO λ n _ _ _ _ _ _ _=>
  (aK (jb (i:=3) (dh (jh (dU (aB (aY (aB cj aF)) aF)) (bZ (aC 2)))))
  (aK (jc (mH (aB (aC 2) aF) T.jt) (bK (ks:=[4]))
   (aQ (fD (vJ (dD T.fV (aB (fH 3) aF)) aJ)
    (aK (bW (i:=5) (dh (bf aJ (bO (eZ T) T.eO (aB (aC 0) (aB (bf (aC 1) (jh aJ (aC 4))) (aB aJ aF)))))))
    (aK (bW (i:=6) (dh (bO (eZ T) T.eO (aB (aC 0) (aB (bf (bf (aC 1) (jh aJ (aC 4))) aJ) (aB (rP T.yf (aB aJ (aB (bf (aCq (dD T.fV (aB (fH 3) aF)) (aC 5)) aJ) aF))) aF))))))
    (aK (jb (i:=7) (dh (aL (dU (aB cj (aB cj aF))) (bO (eZ T) T.eO (aB (aC 0) (aB (bf (bf (aC 1) (jh aJ (aC 4))) aJ) (aB aJ aF)))))))
    (aQ (jb (i:=3) (dh (bf (bf (iH (fH 3) mG (gM (aC 6))) (dU (aB (aY (aB (fH 7) (aB (oW T.jr (aB (iH (fH 3) (gM (aC 6)) (gM (bf (aC 6) (aC 5)))) aF)) aF))) aF))) (iH (fH 3) (gM (bf (aC 6) (aC 5))) mG))))))))
    cg)))
  (aQ (bY (aL (fH 3) aJ)))))
def ux(T:Txt K mg t):dH P w K mg base (CX1 P w) 3 t.pN t.dG ["thing"] (spF K (az mg) 1 du):=
 cR (k:=2) (f:=dG) T.pO ut λ n _ _ _ _ _ _ _=>
  (aQ (fD (aCe (sU (bO (aAG T) T.vf (aB (aC 0) aF))))
   (aQ (aCg rfl T.yh T.yt T.lA (aB cj aF)))
   cg))
def tL(T:Txt K mg t):dH P w K mg base (CX1 P w) 3 t.mj t.cC ["one","other"] (spF K (az mg) 2 bu):=
 cR (k:=2) (f:=cC) T.nC sY λ n _ _ _ _ _ _ _=>
  (aK (fD (vJ (dD T.fV (aB (aL (aC 0) aJ) aF)) (dD T.fV (aB (aL (aC 1) aJ) aF)))
   (aQ (bY (bO (gf T) T.eQ (aB (aC 0) (aB (aC 1) aF)))))
   cg)
  (aK (fD (vJ (dD T.fV (aB (aL (aC 1) aJ) aF)) (dD T.fV (aB (aL (aC 0) aJ) aF)))
   (aQ (bY (bO (gf T) T.eQ (aB (aC 1) (aB (aC 0) aF)))))
   cg)
  (aK (bW (i:=2) (dh (rP T.yf (aB (dD T.fV (aB (aL (aC 0) aJ) aF)) (aB (dD T.fV (aB (aL (aC 1) aJ) aF)) aF)))))
  (aQ (bY (aY (aB (nP (aL (aC 0) aJ) (aL (aC 1) aJ)) (aB (dU (aB (bO (yd T) T.xT (aB (bO (vU T) T.uX (aB (aL (aC 0) aJ) (aB (aC 2) aF))) (aB (bO (vU T) T.uX (aB (aL (aC 1) aJ) (aB (aC 2) aF))) aF))) aF)) (aB (dU aF) aF)))))))))
def xf(T:Txt K mg t){R:List D->Rs D}{k:Nat}(hk:1<=k)(hR:dH P w K mg base (CX1 P w) k t.fY t.bj ["_law_plan_here"] (spF K (az mg) 1 R))(nd:zFK (["_law_plan_here","_law_many","_law_ties","_law_one","_law_wide","_law_more","_law_place"]:List Str))(cdv A outer s H E hr):SSs (ctD P w K mg base ["_law_plan_here","_law_many","_law_ties","_law_one","_law_wide","_law_more","_law_place"] "_law_web_of" (aH fK) t.fY cdv A outer s H E k hr) (cI fK) (bj R):=
  (aK (fD (vK (aC 0) (aY (aB cj aF)))
   (aQ (bY (aY (aB aJ (aB (dU aF) aF)))))
   cg)
  (aK (bW (i:=1) (dh aJ))
  (aK (rO (i:=2) (yG (wQ aF)))
  (aK (jc (jG (aL (aC 0) aJ)) (bK (ks:=[3]))
   (aK (wJ (bO hR T.jw (aB (aC 3) aF) (zAL _)) (je (n:=2) (bN (bK (ks:=[4,5])) (bN (bK (ks:=[4,5])) gj))))
   (aK (vL 2 (sX (N:=["_law_first","_law_second","_law_many"]) (js:=[none,none,some 1]) (ks:=[0,1]) (jG (aC 5)) (je (n:=2) (bN fG (bN fG gj))) lE (aY (aB (bf (bZ (aC 2)) (bZ (aC 0))) (aB (bf (bZ (aC 2)) (bZ (aC 1))) aF)))))
   (aK (fD (vK (aL (aC 0) aJ) cj)
    (aQ (jc (mH (aB (aC 1) aF) T.jt) (bK (ks:=[6]))
     (aQ (vL 2 (sX (N:=["_law_other","_law_place","_law_many"]) (js:=[none,some 6,some 1]) (ks:=[0]) (mH (aB (aC 4) aF) T.jt) fG lE (aY (aB (bZ (aC 1)) (aB (bf (bZ (aC 2)) (bZ (aC 0))) aF))))))))
    cg)
   (aQ (bW (i:=1) (dh (bf (aC 1) (aC 4)))))))))
  (aQ (bY (aY (aB (bZ (aC 1)) (aB (aAs 2) aF)))))))))
theorem lK(T:Txt K mg t):∀n,dH P w K mg base (CX1 P w) (1+n) t.fY t.bj ["_law_plan_here"] (spF K (az mg) 1 (cU n))
 |0=>zB
 |n+1=>cR (k:=1+n) (f:=bj (cU n)) T.jw ur λ nd cdv A outer s H E hr=>xf T (zG9 _ _) (lK T n) nd cdv A outer s H E hr
def uw(T:Txt K mg t):dH P w K mg base (CX1 P w) 65 t.fY t.bj ["_law_plan_here"] (spF K (az mg) 1 kW):=lK T 64
def qy(T:Txt K mg t):dH P w K mg base (CX1 P w) 66 t.lY t.cu ["_law_plan_here"] (spF K (az mg) 1 fZ):=
 cR (k:=65) (f:=cu) T.lq qw λ n _ _ _ _ _ _ _=>
  (aK (wJ (bO (uw T) T.jw (aB (aC 0) aF)) (je (n:=2) (bN (bK (ks:=[1,2])) (bN (bK (ks:=[1,2])) gj))))
  (aQ (bY (aY (aB (bZ (aC 1)) (aB (oW T.jr (aB (aBl T.aDa (aB (aC 2) aF)) aF)) aF))))))
def aA6(T:Txt K mg t){R:List D->Rs D}{k:Nat}(hk:4<=k)(hR:dH P w K mg base (CX1 P w) k t.iV t.cG ["plan","start"] (spF K (az mg) 2 R))(nd:zFK (["plan","start","known","inner","other"]:List Str))(cdv A outer s H E hr):SSs (ctD P w K mg base ["plan","start","known","inner","other"] "known_of" (aH iK) t.iV cdv A outer s H E k hr) (cI iK) (cG R):=
  (aK (fD (vK (aC 0) (ji T.zA T.aGg T.bF))
   (aQ (bY (aY (aB (dU (aB (bZ (aC 1)) aF)) (aB (dU (aB (aY (aB (bZ (aC 1)) aF)) aF)) (aB (dU aF) aF))))))
   cg)
  (aK (jb (i:=2) (dh (aY (aB (dU aF) (aB (dU aF) (aB (dU aF) aF))))))
  (aK (jc (jG (aL (aC 0) aJ)) (bK (ks:=[3]))
   (aK (bW (i:=4) (dh (bO hR T.oF (aB (aC 3) (aB (bf (aC 1) (dD T.fV (aB (aL (fH 2) aJ) aF))) aF)) (zAL _))))
   (aQ (fD (vK (aL (aC 0) aJ) (ji T.lW T.yW (λ _ _=>.str _)))
    (aQ (jb (i:=2) (dh (bO (tL T) T.nC (aB (fH 2) (aB (aC 4) aF)) (zAe (zCi rfl) hk)))))
    (aQ (jb (i:=2) (dh (bO (tQ T) T.nF (aB (fH 2) (aB (aC 4) aF)) (zAe (zCi rfl) hk)))))))))
  (aQ (bY (fH 2))))))
theorem o6(T:Txt K mg t):∀n,dH P w K mg base (CX1 P w) (4+n) t.iV t.cG ["plan","start"] (spF K (az mg) 2 (cB n))
 |0=>zB
 |n+1=>cR (k:=4+n) (f:=cG (cB n)) T.oF yQ λ nd cdv A outer s H E hr=>aA6 T (zG9 _ _) (o6 T n) nd cdv A outer s H E hr
def ye(T:Txt K mg t):dH P w K mg base (CX1 P w) 68 t.iV t.cG ["plan","start"] (spF K (az mg) 2 oK):=o6 T 64
def qH(T:Txt K mg t):dH P w K mg base (CX1 P w) 69 t.kh t.cA ["plan"] (spF K (az mg) 1 cN):=
 cR (k:=68) (f:=cA) T.kj pZ λ n _ _ _ _ _ _ _=>
  (aK (aEu (bO (ux T) T.pO (aB (aC 0) aF)))
  (aQ (bY (bO (ye T) T.oF (aB (aC 0) (aB aJ aF))))))
def fP(T:Txt K mg t):dH P w K mg base (CX1 P w) 70 t.mq t.cV ["plan"] (spF K (az mg) 1 aZ):=
 cR (k:=69) (f:=cV) T.eF sZ λ n _ _ _ _ _ _ _=>
  (aK (wJ (bO (qH T) T.kj (aB (aC 0) aF)) (je (n:=3) (bN (bK (ks:=[1,2,3])) (bN (bK (ks:=[1,2,3])) (bN (bK (ks:=[1,2,3])) gj)))))
  (aQ (bY (dD T.fV (aB (aC 2) aF)))))
def tM(T:Txt K mg t):dH P w K mg base (CX1 P w) 72 t.my t.nG ["_law_call"] (spR P w K mg base 71 "told" (wdA t)):=
 zr T.gO.F sr rfl rfl rfl rfl rfl rfl T.tX T.iD (ww T) T.jE.m T.jE.F.kp T.jE.b (by decide) λ C w h=>(aG7 T.cb h).2
def aIm(T:Txt K mg t):∀c w,wdN c=some w->wdA t (az mg c)=some w:=aIn (ns:=["NoWeb","NoPlace","NoWay","NoParting","TooMany","NoForest","NoPlan","NoOneWay","NoOrder","NoText","NoDeed","NoRow"]) T.cb (by simp only[List.map,T.aFk,T.aCJ,T.aFl,T.yu,T.aCI,T.aAS,T.yt,T.aAR,T.aCK,T.aDr,T.aDs,T.aFm])
def aJ8(T:Txt K mg t){c Pt:Addr}{s:zAB}{H:Hp}(hr:dq 72 (zCH.deeper (zCV "law" (aH q9) s.heap.objs.size t.aB0 (.ref c))))(Lx:qt (cxW P w K mg base ["_law_script","_law_k","_law_cell","_law_plan_here","_law_other","_law_some","_law_web","_law_due","_law_found","_law_bad","_law_wide"] "law" (aH q9) t.aB0 (.ref c) zCH s H Pt) Pt)(n:zFK (["_law_script","_law_k","_law_cell","_law_plan_here","_law_other","_law_some","_law_web","_law_due","_law_found","_law_bad","_law_wide"]:List Str)):
  SSs (ctW P w K mg base ["_law_script","_law_k","_law_cell","_law_plan_here","_law_other","_law_some","_law_web","_law_due","_law_found","_law_bad","_law_wide"] "law" (aH q9) t.aB0 (.ref c) zCH s H Pt 72 hr) (cI q9) uY:=
  (aK (jc (mH (aB (rP T.yf (aB aJ (aB (aAt T.aGs (aB (dD T.fV (aB (aC 0) aF)) (aB aJ aF))) aF))) aF) T.jt) (bK (ks:=[1]))
   (aK (bW (i:=2) (dh (bO (tO T) T.nD (aB (aC 0) (aB (aC 1) aF)))))
   (aK (bW (i:=3) (dh (bO (qe T) T.oE (aB (aC 2) (aB aJ (aB (bf aJ (bO (eZ T) T.eO (aB (aC 2) (aB aJ (aB aJ aF))))) aF))))))
   (aK (bW (i:=4) (dh (bO (qe T) T.oE (aB (aC 2) (aB aJ (aB (bf aJ (bO (eZ T) T.eO (aB (aC 2) (aB aJ (aB aJ aF))))) aF))))))
   (aK (jc (jG (dU (aB (aC 3) (aB (aY (aB cj (aB (aY (aB (aC 3) (aB (aC 4) aF))) aF))) (aB (aY (aB cj (aB (aY (aB (aC 4) (aB (aC 3) aF))) aF))) (aB (aY (aB cj (aB (aY (aB (aC 3) (aB (aY (aB cj aF)) aF))) aF))) aF)))))) (bK (ks:=[5]))
    (aK (bW (i:=6) (dh (bO (qy T) T.lq (aB (aC 5) aF))))
    (aK (bW (i:=7) (dh (aCq (aL (aC 6) aJ) (aFD T.yf (aB (sX (N:=["_law_row"]) (js:=[none]) (ks:=[0]) (jG (bO (yc T) T.uU (aB (aC 6) aF))) fG lE (dD T.fV (aB (aC 0) aF))) aF)))))
    (aK (bW (i:=8) (dh (bO (fP T) T.eF (aB (aC 5) aF))))
    (aQ (fD (SW.st (aAj (sU (zp (aC 8) T.ao T.aIB)) (zb (aAm (aC 8) (aC 7)))))
     (aQ (bY vP))
     cg))))))
   (aK (jb (i:=9) (dh (aL (dU (aB aHR (aB (aY (aB cj aF)) (aB (aY (aB cj (aB (aY (aB (bZ (aC 3)) aF)) aF))) (aB (dU (aB cj aF)) (aB (aY (aB cj (aB (aY (aB (bZ (aC 3)) (aB aJ aF))) aF))) (aB (aY aF) aF))))))) (bO (eZ T) T.eO (aB (aC 2) (aB aJ (aB aJ aF)))))))
   (aQ (fD (aAm (aHP (k:=72) (k0:=71) (kb:=70) (wn:=wdN) (wd:=wdA t) (λ _=>tM T) (zCi rfl) T.gO.m T.gO.F.kp T.gO.b (λ _=>⟨⟨_,Lx⟩,rfl,rfl,rfl⟩) ⟨rfl,rfl,rfl,by decide+kernel,by decide+kernel⟩ rfl (aIm T) (by decide) (λ _ _ _ _ _ _ _ _ _ _=>(bO (fP T) T.eF (aB (aC 9) aF))) (hfree:=λ _=>aDq (sc:=aH q9) (by decide+kernel))) cj)
    (aQ (bY vP))
    cg))))))))
  (aK (bW (i:=10) (dh (aY (aB cj (aB (aFC (aY (aB (aY (aB cj aF)) aF)) aJ) aF)))))
  (aQ (bY (aCt (aAv (bO (fP T) T.eF (aB (aY (aB cj (aB (aY (aB (aC 10) (aB (aY (aB cj aF)) aF))) aF))) aF)) aJ) (zm (aAv (bO (fP T) T.eF (aB (aY (aB cj (aB (aY (aB (aC 10) (aB (aC 10) aF))) aF))) aF)) aJ)))))))
end
def aHC{K:zAA}{h:Heap}{mg:Str->Option Value}{qc_ONE:Addr}{qs_ONE:Array (Option Value)}{qn_ONE:Nat}{tk_ONE_0:Tok}{tk_BESIDE:Tok}{tk_ACROSS:Tok}{tk_MOST_ONES:Tok}{tk_MOST_DEEP:Tok}{q_FewError:Addr}{q_NoWeb:Addr}{q_NoPlace:Addr}{q_NoWay:Addr}{q_NoParting:Addr}{q_TooMany:Addr}{q_NoForest:Addr}{q_NoPlan:Addr}{q_NoOneWay:Addr}{q_NoOrder:Addr}{q_NoText:Addr}{q_NoDeed:Addr}{q_NoRow:Addr}(X:K.In h)(G:h.Ns zA1 mg)
  (h0:∃f d,Enr K "is_put_together" fL f d)
  (h1:∃f d,Enr K "is_plan" qC f d)
  (h2:∃f d,Enr K "check_plan" jk f d)
  (h3:∃f d,Enr K "laid_beside" jM f d)
  (h4:∃f d,Enr K "laced" wU f d)
  (h5:∃f d,Enr K "cut_up" tD f d)
  (h6:∃f d,Enr K "joined_by_places" eH f d)
  (h7:∃f d,Enr K "tied_across" jH f d)
  (h8:∃f d,Enr K "known_of" iK f d)
  (h9:∃f d,Enr K "checked_known" gW f d)
  (h10:∃f d,Enr K "plan_fewest" jJ f d)
  (h11:∃f d,Enr K "_law_cell_at" jL f d)
  (h12:∃f d,Enr K "_law_draw" nU f d)
  (h13:∃f d,Enr K "_law_rows" nR f d)
  (h14:∃f d,Enr K "_law_plan" nT f d)
  (h15:∃f d,Enr K "_law_web_of" fK f d)
  (h16:∃f d,Enr K "_law_plan_web" iJ f d)
  (h17:∃f d,Enr K "_law_class" lF f d)
  (h18:∃f d,Enr K "_law_refused" jK f d)
  (h19:∃f d,Enr K "law" q9 f d)
  (zA:zA9 K zA1 "ONE"=some (some (.ref qc_ONE)))
  (h_ONE:K.lookup qc_ONE=some ⟨.type "tuple",none,.seq #[.str "one" tk_ONE_0] qn_ONE,qs_ONE⟩)
  (pK:zA9 K zA1 "BESIDE"=some (some (.str "beside" tk_BESIDE)))
  (lW:zA9 K zA1 "ACROSS"=some (some (.str "across" tk_ACROSS)))
  (jB:zA9 K zA1 "MOST_ONES"=some (some (.int 40 tk_MOST_ONES)))
  (jC:zA9 K zA1 "MOST_DEEP"=some (some (.int 24 tk_MOST_DEEP)))
  (y_FewError:zA9 K zA1 "FewError"=some (some (.ref q_FewError)))
  (iD:bx K q_FewError)
  (y_NoWeb:zA9 K zA1 "NoWeb"=some (some (.ref q_NoWeb)))
  (rF:bx K q_NoWeb)
  (y_NoPlace:zA9 K zA1 "NoPlace"=some (some (.ref q_NoPlace)))
  (mC:bx K q_NoPlace)
  (y_NoWay:zA9 K zA1 "NoWay"=some (some (.ref q_NoWay)))
  (rG:bx K q_NoWay)
  (y_NoParting:zA9 K zA1 "NoParting"=some (some (.ref q_NoParting)))
  (iy:bx K q_NoParting)
  (y_TooMany:zA9 K zA1 "TooMany"=some (some (.ref q_TooMany)))
  (lz:bx K q_TooMany)
  (y_NoForest:zA9 K zA1 "NoForest"=some (some (.ref q_NoForest)))
  (j7:bx K q_NoForest)
  (y_NoPlan:zA9 K zA1 "NoPlan"=some (some (.ref q_NoPlan)))
  (lA:bx K q_NoPlan)
  (y_NoOneWay:zA9 K zA1 "NoOneWay"=some (some (.ref q_NoOneWay)))
  (j6:bx K q_NoOneWay)
  (y_NoOrder:zA9 K zA1 "NoOrder"=some (some (.ref q_NoOrder)))
  (mD:bx K q_NoOrder)
  (y_NoText:zA9 K zA1 "NoText"=some (some (.ref q_NoText)))
  (oM:bx K q_NoText)
  (y_NoDeed:zA9 K zA1 "NoDeed"=some (some (.ref q_NoDeed)))
  (oN:bx K q_NoDeed)
  (y_NoRow:zA9 K zA1 "NoRow"=some (some (.ref q_NoRow)))
  (rJ:bx K q_NoRow)
  (cb:L2.aA5 K q_FewError [q_NoWeb,q_NoPlace,q_NoWay,q_NoParting,q_TooMany,q_NoForest,q_NoPlan,q_NoOneWay,q_NoOrder,q_NoText,q_NoDeed,q_NoRow]=true)
  (z_ValueError:zA9 K zA1 "ValueError"=some none)
  (z_bool:zA9 K zA1 "bool"=some none)
  (z_enumerate:zA9 K zA1 "enumerate"=some none)
  (z_int:zA9 K zA1 "int"=some none)
  (z_isinstance:zA9 K zA1 "isinstance"=some none)
  (z_len:zA9 K zA1 "len"=some none)
  (z_list:zA9 K zA1 "list"=some none)
  (z_max:zA9 K zA1 "max"=some none)
  (z_min:zA9 K zA1 "min"=some none)
  (z_range:zA9 K zA1 "range"=some none)
  (z_sorted:zA9 K zA1 "sorted"=some none)
  (z_tuple:zA9 K zA1 "tuple"=some none):
  ∃t,Txt K mg t:=by
 obtain⟨f0,d0,F0,a0⟩:=dnr X G h0 ["thing"];obtain⟨f1,d1,F1,a1⟩:=dnr X G h1 ["thing"];obtain⟨f2,d2,F2,a2⟩:=dnr X G h2 ["thing"];obtain⟨f3,d3,F3,a3⟩:=dnr X G h3 ["one","other"];obtain⟨f4,d4,F4,a4⟩:=dnr X G h4 ["ways","between"];obtain⟨f5,d5,F5,a5⟩:=dnr X G h5 ["ways","many"];obtain⟨f6,d6,F6,a6⟩:=dnr X G h6 ["one","other"];obtain⟨f7,d7,F7,a7⟩:=dnr X G h7 ["one","other"];obtain⟨f8,d8,F8,a8⟩:=dnr X G h8 ["plan","start"];obtain⟨f9,d9,F9,a9⟩:=dnr X G h9 ["plan"];obtain⟨f10,d10,F10,a10⟩:=dnr X G h10 ["plan"];obtain⟨f11,d11,F11,a11⟩:=dnr X G h11 ["_law_script","_law_k"];obtain⟨f12,d12,F12,a12⟩:=dnr X G h12 ["_law_cell","_law_k","_law_bound"];obtain⟨f13,d13,F13,a13⟩:=dnr X G h13 ["_law_web"];obtain⟨f14,d14,F14,a14⟩:=dnr X G h14 ["_law_cell","_law_at","_law_many"];obtain⟨f15,d15,F15,a15⟩:=dnr X G h15 ["_law_plan_here"];obtain⟨f16,d16,F16,a16⟩:=dnr X G h16 ["_law_plan_here"];obtain⟨f17,d17,F17,a17⟩:=dnr X G h17 ["_law_error"];obtain⟨f18,d18,F18,a18⟩:=dnr X G h18 ["_law_call"];obtain⟨f19,d19,F19,a19⟩:=dnr X G h19 ["_law_script"]
 exact⟨⟨f0,_,f1,_,f2,_,f3,_,f4,_,f5,_,f6,_,f7,_,f8,_,f9,_,f10,_,f11,_,f12,_,f13,_,f14,_,f15,_,f16,_,f17,_,f18,_,f19,_,_,.ref qc_ONE,_,_,_,_,q_FewError,q_NoWeb,q_NoPlace,q_NoWay,q_NoParting,q_TooMany,q_NoForest,q_NoPlan,q_NoOneWay,q_NoOrder,q_NoText,q_NoDeed,q_NoRow⟩,⟨F0,F1,F2,F3,F4,F5,F6,F7,F8,F9,F10,F11,F12,F13,F14,F15,F16,F17,F18,F19,zA8 X G zA,rfl,λ A H=>.tup (show SqT K H qc_ONE [V.str "one"]from .inr ⟨_,_,_,h_ONE,rfl,rfl,rfl,(by show 1<=zAN;decide),(.cons ⟨_,rfl⟩ .nil)⟩) (.cons (.str _) .nil),zA8 X G pK,⟨_,rfl⟩,zA8 X G lW,⟨_,rfl⟩,zA8 X G jB,⟨_,rfl⟩,zA8 X G jC,⟨_,rfl⟩,zA8 X G y_FewError,(by unfold az;rw[zA8 X G y_FewError]),iD,zA8 X G y_NoWeb,(by unfold az;rw[zA8 X G y_NoWeb]),rF,zA8 X G y_NoPlace,(by unfold az;rw[zA8 X G y_NoPlace]),mC,zA8 X G y_NoWay,(by unfold az;rw[zA8 X G y_NoWay]),rG,zA8 X G y_NoParting,(by unfold az;rw[zA8 X G y_NoParting]),iy,zA8 X G y_TooMany,(by unfold az;rw[zA8 X G y_TooMany]),lz,zA8 X G y_NoForest,(by unfold az;rw[zA8 X G y_NoForest]),j7,zA8 X G y_NoPlan,(by unfold az;rw[zA8 X G y_NoPlan]),lA,zA8 X G y_NoOneWay,(by unfold az;rw[zA8 X G y_NoOneWay]),j6,zA8 X G y_NoOrder,(by unfold az;rw[zA8 X G y_NoOrder]),mD,zA8 X G y_NoText,(by unfold az;rw[zA8 X G y_NoText]),oM,zA8 X G y_NoDeed,(by unfold az;rw[zA8 X G y_NoDeed]),oN,zA8 X G y_NoRow,(by unfold az;rw[zA8 X G y_NoRow]),rJ,zAm X G z_ValueError,zAm X G z_bool,zAm X G z_enumerate,zAm X G z_int,zAm X G z_isinstance,zAm X G z_len,zAm X G z_list,zAm X G z_max,zAm X G z_min,zAm X G z_range,zAm X G z_sorted,zAm X G z_tuple,cb⟩⟩
def aIb{l:zEV}{w:World}{K:zAA}{h:Heap}{mg:Str->Option Value}{fa Pt:Addr}(X:K.In h)(G:h.Ns zA1 mg)(hfa:mg "law"=some (.ref fa))(hB:xN K "law" Pt=true)(ht:∃t,Txt K mg t):L2.aBc l.prog w K mg fa Pt 72 63:=by
 obtain⟨t,T⟩:=ht;have e:=hfa.symm.trans T.aGy.m;cases e;exact aFi (f:=uY) (F:=aEc) X G hB T.aGy aHU (λ _ _ _ _ _ _ _ _=>.of_eq rfl) (λ base c s H hr Lx nd=>aJ8 T hr Lx nd) rfl aDn
def walk{l:zEV}{q:zAP}{loose:List Str}{XP:(Str->Option Value)->Heap->Prop}{YP:World->Heap->Prop}{d:DefRec}{K:Params->zAA}{Pt:Addr}(hn:l.most=some 63)(hdf:d.params.defaults=[])
  (hY:∀(w:World) (h:Heap),YP w h->(K w.params).In h/\h.get? Pt=some (zBs #[]))
  (F:∀(w:World) (mg:Str->Option Value) (fa:Addr) (h:Heap),(K w.params).In h->h.Ns zA1 mg->mg d.name=some (.ref fa)->L2.aBc l.prog w (K w.params) mg fa Pt 72 63):
  zG2 q loose XP YP l.row.toRowW d [] (λ f vs=>zGP f vs):=
 L2.aC7 hn (by decide) hdf ⟨rfl,by decide,by decide⟩ hY F
end VL.My
open PySem PySem.W PyProof.Rows
set_option maxRecDepth 100000 in
set_option maxHeartbeats 0 in
theorem PySem.Challenge.cw_fewways_k45_fewest_ways_of_plans_holds : PySem.Challenge.rw_fewways_k45_fewest_ways_of_plans.Holds := by
 w_on; o_law; k_head; (case hw=>w_witness2)
 k_fill
 refine VL.My.walk (l:=PySem.Challenge.rw_fewways_k45_fewest_ways_of_plans) rfl rfl (fun w h Y=>⟨PySem.W.km_in_of Y,PySem.W.km_tabs_of Y _ zAD⟩) ?F
 case F =>
  intro w mg fa h KX G hmg
  refine VL.My.aIb KX G hmg ?B ?T
  (case B=>kernel_rfl)
  case T =>
   refine' VL.My.aHC KX G (VL.enr ?a0 ?l0 ?c0 ?k0) (VL.enr ?a1 ?l1 ?c1 ?k1) (VL.enr ?a2 ?l2 ?c2 ?k2) (VL.enr ?a3 ?l3 ?c3 ?k3) (VL.enr ?a4 ?l4 ?c4 ?k4) (VL.enr ?a5 ?l5 ?c5 ?k5) (VL.enr ?a6 ?l6 ?c6 ?k6) (VL.enr ?a7 ?l7 ?c7 ?k7) (VL.enr ?a8 ?l8 ?c8 ?k8) (VL.enr ?a9 ?l9 ?c9 ?k9) (VL.enr ?a10 ?l10 ?c10 ?k10) (VL.enr ?a11 ?l11 ?c11 ?k11) (VL.enr ?a12 ?l12 ?c12 ?k12) (VL.enr ?a13 ?l13 ?c13 ?k13) (VL.enr ?a14 ?l14 ?c14 ?k14) (VL.enr ?a15 ?l15 ?c15 ?k15) (VL.enr ?a16 ?l16 ?c16 ?k16) (VL.enr ?a17 ?l17 ?c17 ?k17) (VL.enr ?a18 ?l18 ?c18 ?k18) (VL.enr ?a19 ?l19 ?c19 ?k19) ?zA ?h_ONE ?pK ?lW ?jB ?jC ?y_FewError ?iD ?y_NoWeb ?rF ?y_NoPlace ?mC ?y_NoWay ?rG ?y_NoParting ?iy ?y_TooMany ?lz ?y_NoForest ?j7 ?y_NoPlan ?lA ?y_NoOneWay ?j6 ?y_NoOrder ?mD ?y_NoText ?oM ?y_NoDeed ?oN ?y_NoRow ?rJ ?cb ?z_ValueError ?z_bool ?z_enumerate ?z_int ?z_isinstance ?z_len ?z_list ?z_max ?z_min ?z_range ?z_sorted ?z_tuple
   (case y_FewError=>k_is); (case iD=>unfold L2.bx; k_exc)
   (case y_NoWeb=>k_is); (case rF=>unfold L2.bx; k_exc)
   (case y_NoPlace=>k_is); (case mC=>unfold L2.bx; k_exc)
   (case y_NoWay=>k_is); (case rG=>unfold L2.bx; k_exc)
   (case y_NoParting=>k_is); (case iy=>unfold L2.bx; k_exc)
   (case y_TooMany=>k_is); (case lz=>unfold L2.bx; k_exc)
   (case y_NoForest=>k_is); (case j7=>unfold L2.bx; k_exc)
   (case y_NoPlan=>k_is); (case lA=>unfold L2.bx; k_exc)
   (case y_NoOneWay=>k_is); (case j6=>unfold L2.bx; k_exc)
   (case y_NoOrder=>k_is); (case mD=>unfold L2.bx; k_exc)
   (case y_NoText=>k_is); (case oM=>unfold L2.bx; k_exc)
   (case y_NoDeed=>k_is); (case oN=>unfold L2.bx; k_exc)
   (case y_NoRow=>k_is); (case rJ=>unfold L2.bx; k_exc)
   (case cb=>kernel_rfl)
   any_goals k_is
