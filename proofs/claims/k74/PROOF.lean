import PyProof.Rows.All
import KE.KDictOf
import PyProof.DictWalks
import Wide.All
import OpenK.AllK
import Wide.FinOn
import Lean
import PyProof.EqAt
import PyProof.EqKinds
import PyProof.TupleCall
import KE.LcSums
import PySem.Challenge.RW_fewways_k74_what_places_reach
open And renaming intro->zEm
open Array renaming length_toList->zAW,getElem?_toList->zB4,getD_eq_getD_getElem?->zB9,getD->zCJ,getElem?_eq_some_iff->zCN,getElem?_eq_getElem->zCT,toList_push->zEM,replicate->zE6,getElem?_eq_none->zFR,toArray_toList->zF7,append_assoc->zFy,toList->zHJ
open Array.Perm renaming refl->zF6
open Bool renaming and_eq_true->zAQ,false_ne_true->zAY,false_eq_true->zAs,not_eq_true'->zCd,eq_iff_iff->zDA,and_true->zD0,and_false->zDr,or_eq_true->zEe,and_assoc->zFB,false_and->zFC,not_true->zFS,not_false->zHB,true_and->zHK
open False renaming elim->zAJ
open ForInStep renaming yield->zBY
open Int renaming toNat_of_nonneg->zBt,toNat_natCast->zCP,emod_lt_of_pos->zC9,emod_nonneg->zDE
open LawfulBEq renaming eq_of_beq->zEB
open LawfulMonad renaming bind_assoc->zGC
open List renaming getElem?_eq_getElem->zAB,length_map->zAD,size_toArray->zAG,replicate->zAI,getElem?_map->zAK,getElem?_eq_some_iff->zAL,mem_cons_of_mem->zAM,mem_cons_self->zAN,mem_cons->zAR,map_cons->zAT,mem_append_right->zAZ,getD_eq_getElem?_getD->zA0,mem_append_left->zA1,range->zA3,pairwise_cons->zA4,length_append->zAb,mem_map->zAd,mem_append->zAe,length_cons->zAf,append_nil->zAg,mem_of_getElem?->zAh,getElem?_cons_succ->zAj,nodup_cons->zAl,mem_singleton->zAt,length_set->zAw,getElem?_cons_zero->zAy,getElem?_set_ne->zBC,getElem?_set_self->zBD,length_replicate->zBF,map_map->zBG,all_eq_true->zBJ,lookup_cons->zBK,filterMap_cons->zBM,append_assoc->zBO,nodup_append->zB0,replicate_succ->zB1,drop_eq_getElem_cons->zB3,mem_filter->zB5,length_take->zB7,getElem?_inj->zB8,getElem?_append_right->zBe,mem_reverse->zBf,zip_cons_cons->zBg,getElem?_append_left->zBj,mem_range->zBk,length_nil->zBm,getElem?_replicate->zBp,getElem_of_mem->zBq,mem_filterMap->zCA,foldl_cons->zCG,getElem?_eq_none->zCH,flatten_cons->zCO,nodup_iff_pairwise_ne->zCQ,getElem_toArray->zCS,pairwise_iff_getElem->zCZ,drop_length->zC0,map_append->zC6,nil_append->zC7,reverse_cons->zCf,filter_cons->zCo,getElem_map->zCp,getElem_mem->zCq,mem_flatMap->zCr,not_mem_nil->zCs,getElem?_range->zDB,length_reverse->zDC,map_congr_left->zDD,mem_or_eq_of_mem_set->zDL,length_range->zDT,pairwise_map->zDU,length_eq_zero_iff->zD2,any_eq_true->zD8,length_drop->zD9,filter_eq_nil_iff->zDb,of_mem_zip->zDi,lookup_append->zEH,mem_replicate->zEI,erase_eq_eraseIdx_of_idxOf->zEQ,ext_getElem?->zER,map_nil->zEU,isEmpty_nil->zE0,map_reverse->zE1,min?->zEg,getElem?_take_of_lt->zFI,idxOf_lt_length_iff->zFJ,all_cons->zFU,length_filter_le->zFb,length_singleton->zFc,mem_of_mem_erase->zFd,singleton_append->zFe,getElem?_zipIdx->zFl,length_eraseIdx->zFm,mem_erase_of_ne->zFn,mem_of_mem_take->zFo,range_eq_range'->zFp,mem_map_of_mem->zFz,range'->zGA,contains_cons->zGI,zip_nil_right->zGJ,all_eq_false->zGV,any_eq_false->zGW,foldl->zGX,take_add_one->zGY,zip_nil_left->zGZ,append_inj'->zGe,ext_getElem->zGf,map_flatMap->zGg,nodup_range->zGh,range'_succ->zGi,take_length->zGj,length_zip->zGu,range_succ->zGv,any_cons->zHL,all_map->zHZ,any_map->zH0,map_set->zH1
open List.Pairwise renaming nil->zEo,imp_of_mem->zHY
open List.Perm renaming refl->zBE,swap->zCz
open Nat renaming le_refl->zAO,lt_of_lt_of_le->zAV,le_trans->zA5,ne_of_lt->zA6,zero_le->zAc,lt_irrefl->zBL,le_of_lt->zBP,lt_succ_self->zBz,le_of_lt_succ->zCR,ne_of_gt->zC5,le_succ->zDF,succ_pos->zDM,mod_lt->zDX,not_lt_zero->zDn,lt_of_le_of_lt->zEN,lt_trans->zE2,min_self->zE3,not_lt->zFV,le_of_eq->zFq,zero_add->zFr,lt_trichotomy->zGk,le_max_right->zGw,le_of_not_lt->zGx,le_max_left->zHC
open Ne renaming symm->zDH
open Option renaming map_eq_some_iff->zBy,map_some->zCC,bind_some->zCU,getD_none->zGK,getD_some->zGL,map_none->zG0,none->zHM
open Option.some renaming inj->zA9
open Or renaming inr->zB2,inl->zBu
open Prod renaming ext->zD3,fst->zE8,snd->zFW
open PyProof.Rows renaming slot_tuple_getitem->zAi,IntsAre->zBH,seqObj->zBV,step_dedup->zBX,callWith_type1->zBr,get?_update_seq->zCi,envOfC->zDp,kindOf->zDq,AllBare->zDv,slicePart_none->zET,entry_tuple_getitem->zEY,args_tuple_getitem->zE9,listUpdate_at->zEb,subscriptTail->zEc,KeyOrd->zEh,lt_int->zEi,sortedHeap->zEx,Subscript_->zGB,tupleItemsOf_->zGT,subscriptTail_builtinR->zG7,listItems_at->zGt,seqEpoch_at->zHE,tail_any->zHR
open PyProof.Rows.IsTup renaming new->zF0
open PyProof.Rows.KeyOrd renaming kle_refl->zC4,kle_trans->zDW,kle_of_klt->zEG,kle_antisymm->zFa
open PyProof.Rows.LSm renaming kept_iter->zHX
open PySem renaming wpAny_bind->zAC,wpAny_pure->zAF,Shared->zAH,sizeLine->zAP,starEach->zAU,Program->zA2,mainGlobals->zA7,FuncData->zA8,mem_of_lookup->zAk,Around->zAm,bootBuiltins->zAo,compareOp->zAr,foldedSetIterable->zAu,wpAny_newObj_type->zAv,wpAny_mono->zBN,wpAny_call_entry->zBQ,wpAny_holding->zB6,wpAny_callSpecial?_slot->zBb,binaryOp->zBs,wpAny_truthy_bool->zBw,behindInMarks->zCB,backTo->zCF,assignEach->zCI,Keyword->zCL,codeAny->zCM,sizeLine_eq->zCV,swapsWith->zCW,wpAny_passesOwn->zCX,wpAny_setState_of->zC1,wpAny_standAt->zC2,wpAny_askSetting->zC8,SetTable->zCh,holding->zCj,letOwnedTupleGo->zCk,intKind->zCw,keywordEach->zCx,wpAny_loadPart_at->zCy,NameKind->zDI,attributeBase->zDK,cellsFrom->zDP,codeAny_builtin->zDQ,sliceBounds->zDR,wpAny_field->zDS,wpAny_Call_Name_kw->zD5,wpAny_typeOf->zD6,assign->zDd,sysModules->zDe,wpAny_comprehension_free->zDf,Builtin->zDw,codeAny_mono->zEA,getItem->zEC,standAt->zED,wpAny_execs_nil->zEE,wpAny_loadPart'->zEF,backToKw->zEK,call_meets->zEL,newFunctionEnv->zES,callerA->zEX,newList->zEZ,evalPart_none->zEa,wpAny_newList->zEd,BindsTo->zEn,closureFor->zEt,intKind_is->zEu,relabel->zEv,slot_list_getitem->zEw,typeLookup->zEy,wpAny_pyIter_list->zEz,wpAny_sequenceKey->zFA,IsPart->zFD,Paired->zFE,pyNext->zFG,seqIndex_neg->zFH,noFill_tuple_add->zFP,wpAny_isInstance->zFQ,GenState->zFT,Result->zF2,excClassObj->zF4,seqIndex_of->zF5,isSubtype_type->zFv,recursionLimit->zFw,wpAny_setField->zFx,setsByText->zGD,wpAny_getItem_list_slice->zGE,wpAny_rule->zGF,call->zGM,compTurn->zGO,evalPart_some->zGP,seq_tuple_add->zGQ,swappedStores->zGR,swapsWithSole->zGS,wpAny_attempt->zGU,richCompare_meets_room->zG6,wpAny_getItem_list_neg->zG8,Arguments->zG9,PassesOwn->zGm,builtinLookup_eq_fast->zGq,concat_meets->zGr,lastMarks->zGs,codeAny_call_builtin->zHA,collect->zHD,setItem->zHF,unsupported->zHG,wpAny_Slice->zHH,wpAny_isSubtype_exc->zHI,Within->zHP,pyIter->zHQ,builtinsNs->zH6,typeIs_int->zH7,wpAny_Name->zH8,wpAny_assign_Name->zH9,wpAny_load->zHa,wpAny_pyIter_enum->zHb,wpAny_pyIter_slot->zHc
open PySem.Around renaming under_plainId->zFY
open PySem.AutoSeq1 renaming sub_tuple_tuple->zE7,list_insert_list_int_val_1->zHN
open PySem.Builtin.Frozenset renaming addrOf->zDo,oneOther->zGa,sizeOf->zGb,slot0->zGc
open PySem.Builtin.List renaming listTooLong->zCK,listExtendWith->zCe,listFitsIndex->zCl,listLengthHint->zDu
open PySem.Builtin.Range renaming rangeSize->zHS
open PySem.Builtin.Slice renaming slicePlaces->zAx,sliceAdjust->zBT,sliceApplied->zBx,sliceFields->zDx,slicePartIndex->zHT
open PySem.Builtin.Tuple renaming tupleExact->zBB,tupleItemsOf->zCg,tupleCompareSizes->zDc,tupleHashOf->zHU,tupleIsExact->zHV
open PySem.Calls renaming Name_function_global->zEf,evalArgs_plain->zF8
open PySem.Code renaming quiet_builtin->zGG
open PySem.F renaming plainAttrs_list->zBo,args_tuple_add_2->zDJ,entry_tuple_add->zDO,slot_tuple_add->zDY,slot_list_append->zD7,typeOf_object_class->zDs,slot_list_insert->zEj,slot_list_remove->zEk,type_list_append->zEl,plain_list_iadd->zEp,slot_set_iter->zFK,slot_list_extend->zF9,slot_gs_get->zFk,slot_enumerate_next->zGH,slot_int_rmul->zHW
open PySem.Heap renaming get?_push_of_some->zAE,lt_size->zAS,get?_push_size->zAX,get?_update_ne->zBa,size_push->zCY,SameBut->zDg,get?_update_self->zDh,get?_update_other->zFZ,size_update->zGd
open PySem.Heap.IsSliceOf renaming new->zD1
open PySem.Heap.SameBut renaming update->zBi
open PySem.MeetsSeq renaming list_remove->zHO
open PySem.MeetsSeq.EqGives renaming int->zFf
open PySem.NameKind renaming free->zBc,cell->zCm
open PySem.Obj renaming mapSeq->zBU,putSet->zGl,mapFields->zH2
open PySem.Paired renaming length->zGy
open PySem.SeqAt renaming EqAt->zDk
open PySem.SeqAt.EqAt renaming of_refs->zDl,same->zEJ,int_int->zFM,int_str->zFN,str_int->zFO
open PySem.SeqAt.RcAt renaming lists_lengths->zEW,tuples->zFX,lists->zF3
open PySem.SetTable renaming below->zAa,bits->zAn,insertAt->zBA,leap->zBI,runEnd->zBS,turns->zCa,has->zD4,Probe->zE4,grown->zE5,insertAt_perm->zEq,layClean->zFi,advance->zFu,fresh->zGN,fill->zG3,fits->zG4,slot->zG5
open PySem.SetTable.below renaming go->zCt
open PySem.SetTable.layClean renaming free->zBh
open PySem.SetTable.probe renaming go->zBd
open PySem.Str renaming ofString->zDN
open PySem.Value renaming none->zBZ,ref->zBv,int->zCE,type->zC3,builtin->zDZ,bool->zDm,notImplemented->zFj,str->zGp,float->zH5
open PySem.W renaming Frag->zAA,mg_none_of->zAp,nsIn->zAq,kia_one->zAz,findIn->zBR,emptyDict->zBW,instObj->zBl,fnOf->zBn,mg_of->zCD,keepIn->zCb,kitOne->zCc,looks_findIn->zCn,hideAll->zCu,hideAll_get->zCv,codeIn->zDG,kas_rev->zDa,lookIn->zDj,Looks->zDt,kitx_dict->zDy,methodObj->zDz,ksm_same->zEO,plainGet->zEP,OpenLaw->zEV,cellsFrom_some->zFF,KasT->zFL,plainGet_of->zF1,kitx_tuple->zFg,of_hideAll->zFh,kas_place->zFs,kitx_list->zFt,InstAt->zG1,KdlSrc->zG2,WalkO->zGn,excIn->zGo,isFn->zGz
open PySem.W.Looks renaming ld->zH3,now->zH4
open Sum renaming inl->zEr,inr->zEs
open True renaming intro->zDV
noncomputable section
namespace PySem.W.Fast
def tw5658514415013472461:=0
def tw10969334024868891533:=0
def tw8047783471892994477:=0
def tw2127965968983608461:=0
def tw527850207439966349:=0
def tw7207045194842194029:=0
def tw1005108307931079341:=0
def tw12276416597328728180:=0
def tw16348749658144194388:=0
def tw14997680013842461204:=0
def tw12662122073345437012:=0
def tw11702917980398929940:=0
def tw15381282265511079380:=0
def tw14808568982502185375:=0
def tw9251836616741736415:=0
def tw8830455360535418207:=0
def tw9750417529295348326:=0
def tw208860403814338886:=0
def tw11677499278055909542:=0
def tw12613053540846347846:=0
def tw10453558390461302054:=0
def tw12527156117230316038:=0
def tw11453750114457059558:=0
def tw16599612404898307750:=0
def tw9491466057997962918:=0
def tw8698877546570326694:=0
def tw9986371739307552337:=0
def tw16517514147550017041:=0
def tw99822170830465521:=0
def tw15106997295550290417:=0
def tw15523472513168264817:=0
def tw967260440270451025:=0
def tw8674630712267757617:=0
def tw13705903103022193672:=0
def tw12702366509319379816:=0
def tw10510769889698221768:=0
def tw12643466656076373096:=0
def tw7849669423735435624:=0
def tw15915144030690711459:=0
def tw4849149030528961859:=0
def tw11634845609179890723:=0
def tw6188651323128525091:=0
def tw15359737537780982915:=0
def tw14210126243616626819:=0
def tw13328250243804399459:=0
def tw6951908068658007875:=0
def tw15874230857155919811:=0
def tw100059889316993498:=0
def tw16870865523874555610:=0
def tw10923626124946298426:=0
def tw2801914950822038938:=0
def tw2560328808361162874:=0
def tw1545772419733976890:=0
def tw14928052087888256218:=0
def tw9073445499856407749:=0
def tw10562489538450683813:=0
def tw608027715644060229:=0
def tw1035392782215790277:=0
def tw10724998500134432581:=0
def tw5674863071891480517:=0
def tw217227523600702853:=0
def tw3384898425342237356:=0
def tw10510376039283428140:=0
def tw9965394152872933900:=0
def tw17899707266423057612:=0
def tw12403614253227933100:=0
def tw5378174260296097207:=0
def tw3856301882724107799:=0
def tw6206356856811759575:=0
def tw6546079740422952599:=0
def tw5689585610739136887:=0
def tw13996337981777330263:=0
def tw12825983879286683735:=0
def tw14532713847928076215:=0
def tw13840356106761185175:=0
def tw16829406877555858327:=0
def tw10822027463419012727:=0
def tw12703877554380610423:=0
def tw10716323707171828478:=0
def tw16589471907212786398:=0
def tw11271301976470062078:=0
def tw12259595447150687646:=0
def tw14420728319983252702:=0
def tw1054565772359482718:=0
def tw8119134905791921449:=0
def tw9214137707765349065:=0
def tw658622517276590921:=0
def tw13379084353000730889:=0
def tw1800979282818446441:=0
def tw8273276245327851625:=0
def tw4712703831392653385:=0
def tw7403054524421451561:=0
def tw6016463026734315264:=0
def tw11151155448581860064:=0
def tw16334803062706209952:=0
def tw12194389197113480768:=0
def tw11840881508716489819:=0
def tw2831470401189911163:=0
def tw1982899566959323323:=0
def tw541132705978074299:=0
def tw12644955797044258523:=0
def tw7862428008756359547:=0
def tw17885917833170889202:=0
def tw9781817546477211634:=0
def tw2450246295962636978:=0
def tw10370470716559342834:=0
def tw3116298262112533458:=0
def tw14281496844863972445:=0
def tw9099603185260220925:=0
def tw13435715669434720157:=0
def tw825469870091620701:=0
def tw6435576796837958685:=0
def tw14695463442383125981:=0
def tw14995049475630694685:=0
def tw6803937513153196445:=0
def tw2056616418161040509:=0
def tw12016970762618709533:=0
def tw15562697849108842468:=0
def tw17776713292388257412:=0
def tw11187152979881230948:=0
def tw113594639091760868:=0
def tw18312999478783246468:=0
def tw6318398026069673071:=0
def tw3681855119577552239:=0
def tw5497799707022774191:=0
def tw8943600665948883247:=0
def tw16396304015714102294:=0
def tw11839517890978741398:=0
def tw2884122678902311926:=0
def tw16520301984536124950:=0
def tw18015913076076295382:=0
def tw3869284564794978198:=0
def tw12160447384078561857:=0
def tw4805213434690500129:=0
def tw12583215854472620577:=0
def tw12707430531326442113:=0
def tw10392693698672687704:=0
def tw17832013255146229912:=0
def tw4955967128494186360:=0
def tw439093342996519480:=0
def tw12375867277609329624:=0
def tw15751874725306481336:=0
def tw283316348521601144:=0
def tw2332877764302873688:=0
def tw7116692012657265176:=0
def tw16641498725051562200:=0
def tw8032513719116772408:=0
def tw2720685938681740760:=0
def tw1518421239933197235:=0
def tw13542245075714505363:=0
def tw8630638038059891443:=0
def tw16752810328812113363:=0
def tw12196851553003670995:=0
def tw1756799577834420083:=0
def tw9401704602618003283:=0
def tw7762735261845046547:=0
def tw11554442982838847155:=0
def tw15952717808762096426:=0
def tw3360406035055469482:=0
def tw9899596229305439242:=0
def tw2449694938619840522:=0
def tw4759518565068019146:=0
def tw641662154606437514:=0
def tw2548268668181839274:=0
def tw17217677096408817482:=0
def tw3874762719619415093:=0
def tw4672520192915030037:=0
def tw7063198280621758613:=0
def tw15534026942915392053:=0
def tw7555441572760011317:=0
def tw11155973446929136028:=0
def tw11271051313315258748:=0
def tw12599659656874332:=0
def tw6378802208923364540:=0
def tw10304017440138401404:=0
def tw9546608392548462300:=0
def tw915774812824020231:=0
def tw3786472231690966375:=0
def tw5288415784210427463:=0
def tw4838356908632418311:=0
def tw5848667076373614599:=0
def tw2185036644476007118:=0
def tw11903622169380442830:=0
def tw503531434070556590:=0
def tw11752779869813042222:=0
def tw8526644167158942318:=0
def tw7998401781005765497:=0
def tw6454231147131606745:=0
def tw3697315627543735545:=0
def tw4516633956842361209:=0
def tw5752860792336725337:=0
def tw78182551608299824:=0
def tw17923025099076132880:=0
def tw18213632980548785904:=0
def tw5617950697158622800:=0
def tw7066468912805764208:=0
def tw10931126013761731824:=0
def tw17669497246606571568:=0
def tw7214652544022448176:=0
def tw16513440479442023600:=0
def tw12112077414592888907:=0
def tw3685352026246510091:=0
def tw9837503608536356331:=0
def tw7758517563628514347:=0
def tw1073390792360908843:=0
def tw15714909212574327691:=0
def tw18421141861431083595:=0
def tw3428807426751138635:=0
def tw9365978095297853707:=0
def tw730645210344003851:=0
def tw16442979016381134219:=0
def tw15187033307955198882:=0
def tw1834008999412495970:=0
def tw1042227443229051330:=0
def tw9092927358933133154:=0
def tw3900761802007537634:=0
def tw11019189938949531042:=0
def tw14189141762555610946:=0
def tw14651089910224646370:=0
def tw6391138585607165890:=0
def tw15672123332597285824:=0
def tw17653819684396051208:=0
end PySem.W.Fast
set_option bootstrap.genMatcherCode false
set_option compiler.extract_closed false
set_option Elab.async false
set_option linter.all false
set_option maxRecDepth 100000
namespace L2
open PySem PySem.Spec PyProof.Rows
abbrev Key:=Sum Int Str
def aHt:Key->Value->Bool
 | .inl k,v=>Value.isInt k v
 | .inr x,v=>Value.isStrOf x v
def aLB(w:World):Key->Int
 | .inl k=>hashInt k
 | .inr x=>hashStr w x
def cH:∀{k:Key} {v:Value},aHt k v=true->(∃i t,k=zEr i/\v=zCE i t)\/(∃x t,k=zEs x/\v=zGp x t)
 | .inl i,v,h=>by
  obtain⟨t,e⟩:=Value.isInt_shape (k:=i) (v:=v) h;exact .inl ⟨i,t,rfl,e⟩
 | .inr x,v,h=>by
  obtain⟨t,e⟩:=Value.isStrOf_shape (x:=x) (v:=v) h;exact .inr ⟨x,t,rfl,e⟩
def aJV(a b:Int):decide ((zEr a:Key)=zEr b)=(a==b):=by
 by_cases e:a=b
 .subst e;simp
 .have h:¬(zEr a:Key)=zEr b:=λ q=>e (Sum.inl.inj q)
  rw[decide_eq_false h];exact(beq_eq_false_iff_ne.mpr e).symm
def aJS(a b:Str):decide ((zEs a:Key)=zEs b)=decide (a=b):=by
 by_cases e:a=b
 .subst e;simp
 .have h:¬(zEs a:Key)=zEs b:=λ q=>e (Sum.inr.inj q)
  rw[decide_eq_false h,decide_eq_false e]
def aJU(a:Int)(b:Str):decide ((zEr a:Key)=zEs b)=false:=decide_eq_false (λ q=>nomatch q)
def aJT(a:Str)(b:Int):decide ((zEs a:Key)=zEr b)=false:=decide_eq_false (λ q=>nomatch q)
def yp(prog:zA2)(w:World):PySem.KeyKind prog w Key where
 is:=aHt
 hash:=aLB w
 inj:=λ v a b ha hb=>by
  rcases cH ha with ⟨i,t,rfl,rfl⟩|⟨x,t,rfl,rfl⟩
  .rcases cH hb with ⟨j,u,rfl,e⟩|⟨y,u,rfl,e⟩
   .injection e with e1 _;rw[e1]
   .exact nomatch e
  .rcases cH hb with ⟨j,u,rfl,e⟩|⟨y,u,rfl,e⟩
   .exact nomatch e
   .injection e with e1 _;rw[e1]
 byValue:=λ k v h=>by
  rcases cH h with ⟨i,t,rfl,rfl⟩|⟨x,t,rfl,rfl⟩<;>rfl
 pyHash:=λ hv h=>by
  rcases cH hv with ⟨i,t,rfl,rfl⟩|⟨x,t,rfl,rfl⟩
  .exact wpAny_pyHash_int h
  .exact wpAny_pyHash_str h
 eqBool:=λ hu hv h=>by
  rcases cH hu with ⟨i,t,rfl,rfl⟩|⟨x,t,rfl,rfl⟩
  .rcases cH hv with ⟨j,u,rfl,rfl⟩|⟨y,u,rfl,rfl⟩
   .rw[aJV]at h;exact wpAny_eqBool_int h
   .rw[aJU]at h;exact zFN i t y u _ _ _ _ h
  .rcases cH hv with ⟨j,u,rfl,rfl⟩|⟨y,u,rfl,rfl⟩
   .rw[aJT]at h;exact zFO x t j u _ _ _ _ h
   .rw[aJS]at h;exact wpAny_eqBool_str h
 «strs»:=λ k x t v h=>by
  rcases cH h with ⟨i,u,rfl,e⟩|⟨y,u,rfl,e⟩
  .exact nomatch e
  .injection e with e1 _
   subst e1;cases v<;>rfl
inductive V where
 |non|bl (b:Bool)|int (i:Int)|str (x:Str)|byt (b:Array UInt8)|flt (b:UInt64)|ref (a:Addr)|ty (n:String)
 deriving DecidableEq
def RelV:V->Value->Prop
 | .non,u=>u=zBZ
 | .bl b,u=>u=zDm b
 | .int i,u=>∃t,u=zCE i t
 | .str x,u=>∃t,u=zGp x t
 | .byt b,u=>∃t,u=Value.bytes b t
 | .flt b,u=>∃t,u=zH5 b t
 | .ref a,u=>u=zBv a
 | .ty n,u=>u=zC3 n
abbrev Vals:List V->List Value->Prop:=zFE RelV
theorem Vals.length(r:Vals xs us):xs.length=us.length:=zGy r
theorem Vals.get:∀{xs:List V} {us:List Value} {i:Nat} {x:V},Vals xs us->xs[i]? =some x->∃u,us[i]? =some u/\RelV x u
 |_,_,_,_,.nil,e=>by simp at e
 |_,_,0,_,.cons r _,e=>by simp at e;subst e;exact⟨_,rfl,r⟩
 |_,_,i+1,x,.cons _ t,e=>by
  obtain⟨u,h1,h2⟩:=Vals.get (i:=i) (x:=x) t (by simpa using e);exact⟨u,by simpa using h1,h2⟩
theorem Vals.set(r:RelV x u):∀{xs:List V} {us:List Value} (i:Nat),Vals xs us->Vals (xs.set i x) (us.set i u)
 |_,_,_,.nil=>.nil
 |_,_,0,.cons _ t=>.cons r t
 |_,_,i+1,.cons q t=>.cons q (Vals.set r i t)
theorem Vals.append:∀{xs ys:List V} {us ws:List Value},Vals xs us->Vals ys ws->Vals (xs++ys) (us++ws)
 |_,_,_,_,.nil,s=>s
 |_,_,_,_,.cons r t,s=>.cons r (Vals.append t s)
theorem Vals.take:∀{xs:List V} {us:List Value} (n:Nat),Vals xs us->Vals (xs.take n) (us.take n)
 |_,_,0,_=>.nil
 |_,_,_+1,.nil=>.nil
 |_,_,n+1,.cons r t=>.cons r (Vals.take n t)
theorem Vals.drop:∀{xs:List V} {us:List Value} (n:Nat),Vals xs us->Vals (xs.drop n) (us.drop n)
 |_,_,0,r=>r
 |_,_,_+1,.nil=>.nil
 |_,_,n+1,.cons _ t=>Vals.drop n t
def aDY:Option V->Option Value->Prop
 |some v,some u=>RelV v u
 |none,none=>True
 |_,_=>False
def KV{κ:Type}:List (κ×V)->List (κ×Value)->Prop:=zFE λ(p:κ×V) (q:κ×Value)=>p.1=q.1/\RelV p.2 q.2
def kV:Key->V
 | .inl i=>.int i
 | .inr x=>.str x
inductive HO where
 |lst (xs:List V)
 |tup (xs:List V)
 |dK (kvs:List (Key×V))|dT (kvs:List (List Key×V))
 |set (S:Int->Bool) (n:Nat)
 |ins (C dx:Addr) (fs:List (Str×V))
 |own (x:Addr)
 |xd (fs:List (Str×V))
 |met (f x:Addr)
 |rng (lo hi:Int)
 |frz (o:Obj) (u:HO)
 |tbl (ps:Array Value)
 |ext (φ:Heap->Prop)
abbrev Hp:=Addr->Option HO
def upd(H:Hp)(a:Addr)(o:HO):Hp:=λ b=>if b=a then some o else H b
def aY:upd H a o a=some o:=by unfold upd;rw[if_pos rfl]
def aj(h:b≠a):upd H a o b=H b:=by unfold upd;rw[if_neg h]
def bu{H:Hp}{a b:Addr}{o:HO}(h:H a=some o)(h':H b=none):a≠b:=by
 intro e;subst e;rw[h]at h';cases h'
def NoD(h:Heap)(a:Addr):Prop:=∀o,h.get? a=some o->o.dict=none
theorem NoD.push(h:Heap){o:Obj}(hl:o.isFreed=false:=by rfl)(hd:o.dict=none:=by rfl):NoD (h.push o) h.objs.size:=λ u e=>by rw[zAX _ hl]at e;cases e;exact hd
def NoD.keep{h h':Heap}{a:Addr}{o:Obj}(n:NoD h a)(e:h.get? a=some o)(e':h'.get? a=some o):NoD h' a:=λ u q=>by rw[e']at q;cases q;exact n o e
section
variable(P:zA2)(w:World)
def dD(H:Hp)(h:Heap)(a:Addr):HO->Prop
 | .lst xs=>xs.length<=zAP/\∃(its:List Value) (n:Nat),Vals xs its/\h.get? a=some {cls:=.type "list",data:=.seq its.toArray n}
 | .tup xs=>(xs.length<=zAP/\NoD h a)/\∃its:List Value,Vals xs its/\IsTup h a its.toArray
 | .dK kvs=>kvs.length<=zAP/\(a==zDe)=false/\∃vs,KV kvs vs/\h.DictOf (yp P w) a vs
 | .dT kvs=>kvs.length<=zAP/\(a==zDe)=false/\∃xs:List (List Key×Addr×Value),
   zFE (λ(p:List Key×V) (q:List Key×Addr×Value)=>p.1=q.1/\H q.2.1=some (.tup (p.1.map kV))/\RelV p.2 q.2.2) kvs xs/\
   ∃o es ep,h.get? a=some o/\o.ExactDict/\o.data= .dict es ep/\es.toList=xs.map (entryOfKey (tupleKind (yp P w)))/\(xs.map (·.1)).Nodup
 | .set S n=>h.SetOf (zCw P w) a S n
 | .ins C dx fs=>H dx=some (.own a)/\fs.length<=1000/\dx≠a/\h.get? a=some (zBl C dx)/\
   ∃mA,h.Ns1 dx mA/\(∀f,aDY (fs.lookup f) (mA f))/\zHP mA (fs.map (·.1))
 | .own _=>∃o,h.get? a=some o
 | .xd fs=>∃mA,h.Ns1 a mA/\∀f,aDY (fs.lookup f) (mA f)
 | .rng lo hi=>∃t u v,h.get? a=some {cls:=.type "range",data:=.fields #[.int lo t,.int hi u,.int 1 v]}
 | .frz o u=>h.get? a=some o/\dD H h a u
 | .tbl ps=>h.get? a=some {cls:=.none,data:=.fields ps}
 | .met f x=>h.get? a=some (zDz (.ref f) (.ref x))
 | .ext φ=>φ h/\(∃o,h.get? a=some o)/\∀h1 h2:Heap,φ h1->(∀o,h1.get? a=some o->h2.get? a=some o)->φ h2
def HOk(H:Hp)(h:Heap):Prop:=∀a o,H a=some o->dD P w H h a o
end
section
variable{P:zA2}{w:World}{H H':Hp}{h h':Heap}{a:Addr}{o:HO}
theorem dD.lt(x:dD P w H h a o):a<h.objs.size:=by
 cases o with
 |lst xs=>obtain⟨_,_,_,_,e⟩:=x;exact zAS e
 |tup xs=>obtain⟨_,_,_,p⟩:=x;exact p.lt
 |dK kvs=>obtain⟨_,_,_,_,o,_,_,e,_⟩:=x;exact zAS e
 |dT kvs=>obtain⟨_,_,_,_,o,_,_,e,_⟩:=x;exact zAS e
 |set S n=>obtain⟨o,_,_,_,e,_⟩:=x;exact zAS e
 |ins C dx fs=>obtain⟨_,_,_,e,_⟩:=x;exact zAS e
 |own y=>obtain⟨_,e⟩:=x;exact zAS e
 |xd fs=>obtain⟨_,⟨_,_,_,e,_⟩,_⟩:=x;exact zAS e
 |rng lo hi=>obtain⟨_,_,_,e⟩:=x;exact zAS e
 |frz ob u=>obtain⟨e,_⟩:=x;exact zAS e
 |tbl ps=>exact zAS (show h.get? a=some _ from x)
 |met f y=>exact zAS (show h.get? a=some _ from x)
 |ext φ=>obtain⟨_,⟨_,e⟩,_⟩:=x;exact zAS e
theorem Paired.mapP:∀{l₁:List α} {l₂:List β},zFE F l₁ l₂->(∀a b,F a b->G a b)->zFE G l₁ l₂
 |_,_,.nil,_=>.nil
 |_,_,.cons r t,f=>.cons (f _ _ r) (Paired.mapP t f)
def dD.stay(x:dD P w H h a o)(k:∀b u,(b=a\/H b=some (.own a))->h.get? b=some u->h'.get? b=some u)
  (ho:∀b,H b=some (.own a)->H' b=some (.own a))(ht:∀b xs,H b=some (.tup xs)->H' b=some (.tup xs)):dD P w H' h' a o:=by
 induction o with
 |lst xs=>obtain⟨z,its,n,r,e⟩:=x;exact⟨z,its,n,r,k _ _ (.inl rfl) e⟩
 |tup xs=>obtain⟨z,its,r,ob,e,c⟩:=x;exact⟨⟨z.1,z.2.keep e (k _ _ (.inl rfl) e)⟩,its,r,ob,k _ _ (.inl rfl) e,c⟩
 |dK kvs=>obtain⟨z,y,vs,r,ob,es,ep,e,c⟩:=x;exact⟨z,y,vs,r,ob,es,ep,k _ _ (.inl rfl) e,c⟩
 |dT kvs=>
  obtain⟨z,y,xs,r,ob,es,ep,e,c⟩:=x;exact⟨z,y,xs,Paired.mapP r λ p q z=>⟨z.1,ht _ _ z.2.1,z.2.2⟩,ob,es,ep,k _ _ (.inl rfl) e,c⟩
 |set S n=>obtain⟨ob,es,ep,t,e,c⟩:=x;exact⟨ob,es,ep,t,k _ _ (.inl rfl) e,c⟩
 |ins C dx fs=>
  obtain⟨d,z,ne,e,mA,⟨od,es,ep,e2,c⟩,r⟩:=x;exact⟨ho _ d,z,ne,k _ _ (.inl rfl) e,mA,⟨od,es,ep,k _ _ (.inr d) e2,c⟩,r⟩
 |own y=>obtain⟨ob,e⟩:=x;exact⟨ob,k _ _ (.inl rfl) e⟩
 |xd fs=>obtain⟨mA,⟨od,es,ep,e,c⟩,r⟩:=x;exact⟨mA,⟨od,es,ep,k _ _ (.inl rfl) e,c⟩,r⟩
 |rng lo hi=>obtain⟨t,u,v,e⟩:=x;exact⟨t,u,v,k _ _ (.inl rfl) e⟩
 |frz ob u ih=>obtain⟨e,q⟩:=x;exact⟨k _ _ (.inl rfl) e,ih q⟩
 |tbl ps=>
  have e:h.get? a=some {cls:=.none,data:=.fields ps}:=x;show h'.get? a=some {cls:=.none,data:=.fields ps};exact k a _ (.inl rfl) e
 |met f y=>
  have e:h.get? a=some (zDz (.ref f) (.ref y)):=x;show h'.get? a=some (zDz (.ref f) (.ref y));exact k a _ (.inl rfl) e
 |ext φ=>obtain⟨p,⟨o,e⟩,st⟩:=x;exact⟨st _ _ p λ o q=>k _ _ (.inl rfl) q,⟨o,k _ _ (.inl rfl) e⟩,st⟩
theorem HOk.lt(x:HOk P w H h)(e:H a=some o):a<h.objs.size:=(x a o e).lt
def HOk.fresh(x:HOk P w H h)(e:h.objs.size<=a):H a=none:=by
 cases q:H a with
 |none=>rfl
 |some u=>exact absurd (zAV (x.lt q) e) (zBL _)
def HOk.kept(x:HOk P w H h)(k:∀b u,h.get? b=some u->h'.get? b=some u):HOk P w H h':=λ a o e=>
 (x a o e).stay (λ b u _ q=>k b u q) (λ _ q=>q) λ _ _ q=>q
def HOk.laid(x:HOk P w H h)(k:∀b u,h.get? b=some u->h'.get? b=some u)(hp:h.objs.size<=a)(new:dD P w (upd H a o) h' a o):HOk P w (upd H a o) h':=λ b u e=>by
 have hn:=x.fresh hp;by_cases hb:b=a
 .subst hb;rw[aY]at e;cases e;exact new
 .rw[aj hb]at e
  exact(x b u e).stay (λ c v _ q=>k c v q) (λ c q=>by rw[aj (bu q hn)];exact q) λ c xs q=>by rw[aj (bu q hn)];exact q
end
def Rd(H:Hp)(a:Addr)(u:HO):Prop:=H a=some u\/∃o,H a=some (.frz o u)
def Rd.ok(r:Rd H a u)(x:HOk P w H h):dD P w H h a u:=by
 rcases r with r|⟨o,r⟩
 .exact x a u r
 .obtain⟨_,q⟩:=x a _ r
  exact q
def Mut:Option HO->Prop
 |some (.lst _)=>True
 |some (.dK _)=>True
 |some (.dT _)=>True
 |some (.set _ _)=>True
 |some (.ins _ _ _)=>True
 |some (.ext _)=>True
 |_=>False
section
variable{P:zA2}{w:World}{H:Hp}{h h':Heap}{x e:Addr}{o':HO}
def HOk.write(ok:HOk P w H h)(mu:Mut (H x))(he:e=x\/H e=some (.own x))(k:∀b u,b≠e->h.get? b=some u->h'.get? b=some u)(heo:∃u,h'.get? e=some u)
  (new:dD P w (upd H x o') h' x o'):HOk P w (upd H x o') h':=λ b u q=>by
 have nown:∀c y,H c=some (.own y)->c≠x:=λ c y r z=>by subst z;rw[r]at mu;exact mu
 have ntup:∀c xs,H c=some (.tup xs)->c≠x:=λ c xs r z=>by subst z;rw[r]at mu;exact mu
 by_cases hb:b=x
 .subst hb;rw[aY]at q;cases q;exact new
 .rw[aj hb]at q
  by_cases hbe:b=e
  .have q':H b=some (.own x):=by
    rcases he with z|z
    .exact absurd (hbe.trans z) hb
    .rw[hbe];exact z
   rw[q]at q';cases q';obtain⟨v,hv⟩:=heo;exact⟨v,by rw[hbe];exact hv⟩
  .refine(ok b u q).stay (λ c v hc r=>k c v ?_ r) (λ c r=>by rw[aj (nown c b r)];exact r) λ c xs r=>by rw[aj (ntup c xs r)];exact r
   rcases hc with rfl|hc
   .exact hbe
   .rintro rfl
    rcases he with z|z
    .exact nown c b hc z
    .rw[hc]at z;cases z;exact hb rfl
end
structure Un(fs ex:List Addr)(H H':Hp)(h h':Heap):Prop where
 keep:∀b o,h.get? b=some o->H b=none->b∉fs->b∉ex->h'.get? b=some o
 slot:∀b o,h.get? b=some o->H b=none->b∈fs->b∉ex->∃sl,h'.get? b=some {o with slots:=sl}
 free:∀b o,h.get? b=some o->H b=none->b∉ex->H' b=none
 there:∀b o,h.get? b=some o->b∉ex->∃o',h'.get? b=some o'
 tups:∀b xs,H b=some (.tup xs)->H' b=some (.tup xs)
 frzs:∀b o u,H b=some (.frz o u)->H' b=some (.frz o u)
 tbls:∀b ps,H b=some (.tbl ps)->∃more,H' b=some (.tbl (ps++more))
section
variable{fs ex:List Addr}{H H1:Hp}{h h1 h':Heap}{a x e:Addr}{o:HO}
def Un.any(u:Un fs ex H H1 h h1)(q:h.get? b=some ob)(n:H b=none)(hx:b∉ex):∃sl,h1.get? b=some {ob with slots:=sl}:=by
 by_cases hb:b∈fs
 .exact u.slot b ob q n hb hx
 .exact⟨ob.slots,u.keep b ob q n hb hx⟩
def Un.kept(k:∀b u,h.get? b=some u->h'.get? b=some u):Un fs ex H H h h':=
 ⟨λ b ob q _ _ _=>k b ob q,λ b ob q _ _ _=>⟨ob.slots,k b ob q⟩,λ _ _ _ n _=>n,λ b ob q _=>⟨ob,k b ob q⟩,λ _ _ q=>q,λ _ _ _ q=>q,λ _ ps q=>⟨#[],by rw[q];simp⟩⟩
def Un.refl:Un fs ex H H h h:=Un.kept λ _ _ q=>q
def Un.laid(k:∀b u,h.get? b=some u->h'.get? b=some u)(hp:h.objs.size<=a)(hn:H a=none):Un fs ex H (upd H a o) h h' where
 keep:=λ b u q _ _ _=>k b u q
 slot:=λ b u q _ _ _=>⟨u.slots,k b u q⟩
 free:=λ b u q n _=>by rw[aj (zA6 (zAV (zAS q) hp))];exact n
 there:=λ b u q _=>⟨u,k b u q⟩
 tups:=λ b xs q=>by rw[aj (bu q hn)];exact q
 frzs:=λ b u xs q=>by rw[aj (bu q hn)];exact q
 tbls:=λ b ps q=>⟨#[],by rw[aj (bu q hn),q];simp⟩
def Un.write(mu:Mut (H x))(he:e=x\/H e=some (.own x))(k:∀b u,b≠e->h.get? b=some u->h'.get? b=some u)(heo:∃u,h'.get? e=some u):Un fs ex H (upd H x o) h h':=by
 have hx:∀b,H b=none->b≠x:=λ b n z=>by subst z;rw[n]at mu;exact mu
 have hb:∀b,H b=none->b≠e:=λ b n z=>by
  subst z;rcases he with r|r
  .exact hx b n r
  .rw[n]at r;cases r
 have hm:∀b u,H b=some u->¬Mut (some u)->b≠x:=λ b u q nm z=>by subst z;rw[q]at mu;exact nm mu
 refine⟨λ b u q n _ _=>k b u (hb b n) q,λ b u q n _ _=>⟨u.slots,k b u (hb b n) q⟩,λ b u q n _=>by rw[aj (hx b n)];exact n,λ b u q _=>?_,
  λ b xs q=>by rw[aj (hm b _ q λ z=>z)];exact q,λ b u xs q=>by rw[aj (hm b _ q λ z=>z)];exact q,λ b ps q=>⟨#[],by rw[aj (hm b _ q λ z=>z),q];simp⟩⟩
 by_cases hbe:b=e
 .subst hbe;exact heo
 .exact⟨u,k b u hbe q⟩
end
def trk(h:Heap)(H:Hp):List Addr:=(zA3 h.objs.size).filter λ a=>(H a).isSome
def zK(h:Heap)(H:Hp):Heap:=zCu h (trk h H)
def aDK(h:Heap)(H:Hp):(zK h H).objs.size=h.objs.size:=PySem.W.hideAll_size _ _
def aFB(e:h.get? b=some o)(n:H b=none):(zK h H).get? b=some o:=
 zCv _ e λ hm=>by
  have q:(H b).isSome=true:=(zB5.mp hm).2;rw[n]at q;simp at q
def aGj(e:(zK h H).get? b=some o):h.get? b=some o/\H b=none:=by
 have e':h.get? b=some o:=zFh (trk h H) e;refine⟨e',?_⟩;cases q:H b with
 |none=>rfl
 |some x=>
  have hm:b∈trk h H:=zB5.mpr ⟨zBk.mpr (zAS e'),by simp[q]⟩;have z:(zK h H).get? b=none:=PySem.W.hideAll_none (trk h H) hm;rw[z]at e;cases e
def aHV(g h:Heap)(L:Addr):List (Addr×Obj):=(zA3 h.objs.size).filterMap λ a=>if a=L\/(g.get? a).isSome=true then none else(h.get? a).map λ o=>(a,o)
def rest(g h:Heap)(L d:Addr):List (Addr×Obj):=(aHV g h L).filter λ p=>decide (p.1≠d)
structure Mod(K:zAA)(mg:Str->Option Value)(base:Heap):Prop where
 kin:K.In base
 glob:base.Ns zA7 mg
 blt:∃mb,base.Ns zH6 mb/\∀x:Str,x≠"__name__"->mb x=zAo x
 nolimit:base.NoLimit
structure Cx where
 prog:zA2
 w:World
 K:zAA
 mg:Str->Option Value
 base:Heap
 A:zAm
 N:List Str
 z0:zAH
 zS:Hp
 env:Env
 outer:List Env
 stack:List Env
 ex:List Addr
 fn:Str->Bool
 calm:Bool
 pn:List (Addr×Obj)
 xe:Value->zAH->Prop
 ta:List (Addr×Obj):=[]
 tq:Str:=""
def frs(l:List Env):List Addr:=l.filterMap (·.frame)
abbrev Cx.fs(X:Cx):List Addr:=frs X.outer
def Vis(sc:Scope)(x:Str):Prop:=sc.names.lookup x=some .local\/sc.names.lookup x=some .cell\/sc.names.lookup x=some .free
def Loc(sc:Scope)(x:Str):Prop:=sc.names.lookup x=some .local\/sc.names.lookup x=some .cell
def Look(env:Env)(h:Heap)(m:Str->Option Value)(x:Str)(u:Value):Prop:=
 (env.kindOf x=some .local/\m x=some u)\/((env.kindOf x=some .cell\/env.kindOf x=some .free)/\∃c,env.cells.lookup x=some c/\h.IsCell c (some u))
structure Cx.Ok(X:Cx):Prop where
 mod:Mod X.K X.mg X.base
 kind:X.env.scope.kind= .function
 glob:X.env.globals=zA7
 blt:X.env.builtins=zH6
 above:X.z0.heap.objs.size<=X.env.locals
 inj:∀x y c,X.env.cells.lookup x=some c->X.env.cells.lookup y=some c->x=y
 has:∀x,(X.env.kindOf x=some .cell\/X.env.kindOf x=some .free)->∃c,X.env.cells.lookup x=some c
 cab:∀x c,X.fn x=true->X.env.cells.lookup x=some c->X.z0.heap.objs.size<=c
 hd:X.calm=true->X.A.handled=none
 frames:X.A.frames=some X.stack
 stk:X.stack=X.outer\/(X.stack=X.env::X.outer/\X.env.frame=some X.env.locals)
 exf:∀b∈X.ex,b≠X.env.locals/\∀x c,X.env.cells.lookup x=some c->c≠b
 bs:∀b o,X.base.get? b=some o->X.z0.heap.get? b=some o/\X.zS b=none
 bsz:X.base.objs.size<=X.z0.heap.objs.size
 noex:∀b o,X.base.get? b=some o->b∉X.ex
 exfs:∀b∈X.ex,b∉X.fs
 funs:X.z0.heap.FunFrames X.base X.outer
 frf:∀b∈X.fs,X.zS b=none
def aKl(q:Str)(oc:Obj):Prop:=∃vs t,oc.data= .fields vs/\vs[1]? =some (.str q t)
def TabOk(q:Str)(H:Hp)(ps:Array Value):Prop:=TriplesOk ps.toList/\∀pos cv,codeAmong pos ps.toList=some cv->∃c' oc,cv= .ref c'/\H c'=some (.frz oc (.own c'))/\aKl q oc
def TabOk.mono(t:TabOk q H ps)(f:∀b o u,H b=some (.frz o u)->H' b=some (.frz o u)):TabOk q H' ps:=⟨t.1,λ pos cv hc=>let⟨c',oc,z,a,b⟩:=t.2 pos cv hc;⟨c',oc,z,f _ _ _ a,b⟩⟩
structure Inv(X:Cx)(pins:List (Addr×Obj))(Z:List (Option V))(H:Hp)(s:zAH):Prop where
 ok:X.Ok
 os:s.os=X.z0.os
 bare:zDv s.gens
 base:Un X.fs X.ex X.zS H X.z0.heap s.heap
 loc:∃m,s.heap.Ns X.env.locals m/\∀(i:Nat) (x:Str) (v:V),X.N[i]? =some x->Z[i]? =some (some v)->Vis X.env.scope x->∃u,RelV v u/\Look X.env s.heap m x u
 cell:∀x c,X.env.cells.lookup x=some c->∃v,s.heap.IsCell c v
 free:H X.env.locals=none
 freeC:∀x c,X.env.cells.lookup x=some c->H c=none
 pin:∀p∈X.pn++pins,s.heap.get? p.1=some p.2/\H p.1=none/\p.1≠X.env.locals/\p.1∉X.fs/\∀v,p.2.data≠.cell v
 hok:HOk X.prog X.w H s.heap
 len:Z.length=X.N.length
 tab:∀p∈X.ta,H p.1=none/\p.1≠X.env.locals/\p.1∉X.fs/\(∀q∈X.pn++pins,q.1≠p.1)/\∃ps,s.heap.get? p.1=some {cls:=.none,data:=.fields ps}/\TabOk X.tq H ps
section
variable{X:Cx}{pins:List (Addr×Obj)}{Z:List (Option V)}{H H':Hp}{s:zAH}{h':Heap}
def Cx.Ok.nofr(ok:X.Ok)(e:X.base.get? b=some o):b∉X.fs:=λ hb=>by
 have:=(ok.funs.mem hb).1
 rw[e]at this;cases this
theorem Inv.bs(I:Inv X pins Z H s):∀b o,X.base.get? b=some o->s.heap.get? b=some o/\H b=none:=λ b o e=>
 ⟨I.base.keep b o (I.ok.bs b o e).1 (I.ok.bs b o e).2 (I.ok.nofr e) (I.ok.noex b o e),I.base.free b o (I.ok.bs b o e).1 (I.ok.bs b o e).2 (I.ok.noex b o e)⟩
def Inv.bk(I:Inv X pins Z H s):∀b o,X.base.get? b=some o->s.heap.get? b=some o:=λ b o e=>(I.bs b o e).1
theorem Inv.mod(I:Inv X pins Z H s):Mod X.K X.mg X.base:=I.ok.mod
def Inv.kIn(I:Inv X pins Z H s):X.K.In s.heap:=I.ok.mod.kin.keeps I.bk
def Inv.fr(I:Inv X pins Z H s):∃m,Fr X.base X.env.locals s.heap m:=
 let⟨m,hn,_⟩:=I.loc
 ⟨m,hn,I.bk,zA5 I.ok.bsz I.ok.above⟩
theorem Inv.lt(I:Inv X pins Z H s):X.env.locals<s.heap.objs.size:=let⟨_,hn,_⟩:=I.loc;hn.lt
def Inv.sz(I:Inv X pins Z H s):X.z0.heap.objs.size<=s.heap.objs.size:=zA5 I.ok.above (zBP I.lt)
def Inv.nofs(I:Inv X pins Z H s)(h:s.heap.objs.size<=a):a∉X.fs:=λ hb=>by
 obtain⟨_,o,ho,_⟩:=I.ok.funs.mem hb;exact absurd (zAV (zAS ho) (zA5 I.sz h)) (zBL _)
def Inv.cne(I:Inv X pins Z H s):∀x c,X.env.cells.lookup x=some c->c≠X.env.locals:=λ x c e z=>by
 obtain⟨v,o,ho,hd⟩:=I.cell x c e;obtain⟨m,⟨o',es,ep,ho',hd',_⟩,_⟩:=I.loc;rw[z,ho']at ho;cases ho;rw[hd']at hd;cases hd
theorem Inv.funs(I:Inv X pins Z H s):s.heap.FunFrames X.base X.outer:=by
 have all:∀(l:List Env),(∀b∈frs l,b∈X.fs)->X.z0.heap.FunFrames X.base l->s.heap.FunFrames X.base l:=by
  intro l;induction l with
  |nil=>intro _ _;trivial
  |cons env r ih=>
   intro hs hl;obtain⟨hk,⟨L,o,hf,hn,ho,hd⟩,hr⟩:=hl;have hL:L∈X.fs:=hs L (by unfold frs;rw[zBM,hf];exact zAN);obtain⟨sl,e⟩:=I.base.slot L o ho (I.ok.frf L hL) hL λ z=>I.ok.exfs L z hL
   exact⟨hk,⟨L,_,hf,hn,e,hd⟩,ih (λ b hb=>hs b (by unfold frs;rw[zBM,hf];exact zAM _ hb)) hr⟩
 exact all X.outer (λ _ hb=>hb) I.ok.funs
theorem Inv.stack(I:Inv X pins Z H s):s.heap.FunFrames X.base X.stack:=by
 rcases I.ok.stk with e|⟨e,hf⟩
 .rw[e];exact I.funs
 .rw[e]
  obtain⟨m,hn,_⟩:=I.loc;refine .cons (by rw[I.ok.kind];decide) hf hn ?_ I.funs;exact Heap.get?_none_of_le (zA5 I.ok.bsz I.ok.above)
def Inv.stkSub(I:Inv X pins Z H s):∀b∈frs X.stack,b∈X.env.locals::X.fs:=λ b hb=>by
 rcases I.ok.stk with e|⟨e,hf⟩
 .rw[e]at hb;exact zAM _ hb
 .rw[e]at hb
  unfold frs at hb;rw[zBM,hf]at hb;exact hb
def Inv.stkFree(I:Inv X pins Z H s):∀b∈frs X.stack,H b=none:=λ b hb=>by
 rcases zAR.mp (I.stkSub b hb)with e|hb
 .rw[e];exact I.free
 .obtain⟨_,o,ho,_⟩:=I.ok.funs.mem hb
  exact I.base.free b o ho (I.ok.frf b hb) λ z=>I.ok.exfs b z hb
def Inv.step{g':Array zFT}{t':Nat}{d':Drawn}{ch:List Addr}(I:Inv X pins Z H s)
  (hch:∀b∈ch,(b∈X.ex\/X.z0.heap.objs.size<=b)/\b≠X.env.locals/\(∀x c,X.env.cells.lookup x=some c->c≠b)/\∀p∈X.ta++(X.pn++pins),p.1≠b)
  (keep:∀b o,b≠X.env.locals->b∉X.fs->b∉ch->s.heap.get? b=some o->H b=none->h'.get? b=some o)
  (slot:∀b o,b≠X.env.locals->b∈X.fs->b∉ch->s.heap.get? b=some o->H b=none->∃sl,h'.get? b=some {o with slots:=sl})(free:∀b o,b∉ch->s.heap.get? b=some o->H b=none->H' b=none)
  (there:∀b o,b∉ch->s.heap.get? b=some o->∃o',h'.get? b=some o')
  (tups:∀b xs,H b=some (.tup xs)->H' b=some (.tup xs))(frzs:∀b o u,H b=some (.frz o u)->H' b=some (.frz o u))(tbls:∀b ps,H b=some (.tbl ps)->∃more,H' b=some (.tbl (ps++more)))
  (ns:∀m,s.heap.Ns X.env.locals m->h'.Ns X.env.locals m)(hok:HOk X.prog X.w H' h')(hg:zDv g'):
  Inv X pins Z H' {s with heap:=h',gens:=g',drawn:=d',toks:=t'}:=by
 have neL:∀b o,X.z0.heap.get? b=some o->b≠X.env.locals:=λ b o e=>zA6 (zAV (zAS e) I.ok.above)
 have neC:∀b o,X.z0.heap.get? b=some o->b∉X.ex->b∉ch:=λ b o e hx hb=>by
  rcases(hch b hb).1 with z|z
  .exact hx z
  .exact absurd (zAV (zAS e) z) (zBL _)
 have cellK:∀x c,X.env.cells.lookup x=some c->∀v,s.heap.IsCell c v->h'.IsCell c v:=λ x c e v ⟨o,ho,hd⟩=>by
  have nch:c∉ch:=λ z=>(hch c z).2.2.1 x c e rfl
  by_cases hc:c∈X.fs
  .obtain⟨sl,q⟩:=slot c o (I.cne x c e) hc nch ho (I.freeC x c e)
   exact⟨_,q,hd⟩
  .exact⟨o,keep c o (I.cne x c e) hc nch ho (I.freeC x c e),hd⟩
 refine⟨I.ok,I.os,hg,⟨λ b o e n hb hx=>?_,λ b o e n hb hx=>?_,λ b o e n hx=>?_,λ b o e hx=>?_,λ b xs e=>tups b xs (I.base.tups b xs e),λ b o xs e=>frzs b o xs (I.base.frzs b o xs e),λ b ps e=>?_⟩,?_,λ x c e=>?_,?_,λ x c e=>?_,λ p hp=>?_,hok,I.len,λ p hp=>?_⟩
 .exact keep b o (neL b o e) hb (neC b o e hx) (I.base.keep b o e n hb hx) (I.base.free b o e n hx)
 .obtain⟨sl,e1⟩:=I.base.slot b o e n hb hx
  obtain⟨sl',e2⟩:=slot b _ (neL b o e) hb (neC b o e hx) e1 (I.base.free b o e n hx);exact⟨sl',e2⟩
 .obtain⟨o',e1⟩:=I.base.there b o e hx
  exact free b o' (neC b o e hx) e1 (I.base.free b o e n hx)
 .obtain⟨o',e1⟩:=I.base.there b o e hx
  exact there b o' (neC b o e hx) e1
 .obtain⟨m1,e1⟩:=I.base.tbls b ps e
  obtain⟨m2,e2⟩:=tbls b _ e1;exact⟨m1++m2,by rw[e2,zFy]⟩
 .obtain⟨m,hn,hl⟩:=I.loc
  refine⟨m,ns m hn,λ i x v e1 e2 e3=>?_⟩;obtain⟨u,r,l⟩:=hl i x v e1 e2 e3;refine⟨u,r,?_⟩;rcases l with l|⟨k,c,e,z⟩
  .exact .inl l
  .exact .inr ⟨k,c,e,cellK x c e _ z⟩
 .obtain⟨v,z⟩:=I.cell x c e
  exact⟨v,cellK x c e v z⟩
 .obtain⟨m,⟨o,_,_,ho,_⟩,_⟩:=I.loc
  exact free _ o (λ z=>(hch _ z).2.1 rfl) ho I.free
 .obtain⟨v,o,ho,hd⟩:=I.cell x c e
  exact free c o (λ z=>(hch c z).2.2.1 x c e rfl) ho (I.freeC x c e)
 .obtain⟨e,n,ne,nf,d⟩:=I.pin p hp
  have nch:p.1∉ch:=λ z=>(hch p.1 z).2.2.2 p (zAZ _ hp) rfl
  exact⟨keep p.1 p.2 ne nf nch e n,free p.1 p.2 nch e n,ne,nf,d⟩
 .obtain⟨n,ne,nf,np,ps,e,t⟩:=I.tab p hp
  have nch:p.1∉ch:=λ z=>(hch p.1 z).2.2.2 p (zA1 _ hp) rfl
  exact⟨free p.1 _ nch e n,ne,nf,np,ps,keep p.1 _ ne nf nch e n,t.mono frzs⟩
def Inv.pinL(I:Inv X pins Z H s)(hp:p∈X.ta++(X.pn++pins)):p.1<s.heap.objs.size:=by
 rcases zAe.mp hp with z|z
 .obtain⟨_,_,_,_,_,e,_⟩:=I.tab p z
  exact zAS e
 .exact zAS (I.pin p z).1
def Inv.un{t':Nat}(I:Inv X pins Z H s)(u:Un X.fs [] H H' s.heap h')(hok:HOk X.prog X.w H' h'):Inv X pins Z H' {s with heap:=h',toks:=t'}:=by
 obtain⟨m,⟨o,es,ep,ho,r⟩,_⟩:=id I.loc;obtain⟨sl,hL⟩:=u.any ho I.free (by simp);exact I.step (g':=s.gens) (d':=s.drawn) (ch:=[]) (λ _ z=>nomatch z) (λ b o _ hb _ e n=>u.keep b o e n hb (by simp)) (λ b o _ hb _ e n=>u.slot b o e n hb (by simp)) (λ b o _ e n=>u.free b o e n (by simp)) (λ b o _ e=>u.there b o e (by simp)) u.tups u.frzs u.tbls (λ m' hm=>by
  obtain⟨o',es',ep',ho',r'⟩:=hm;rw[ho]at ho';cases ho';exact⟨_,es',ep',hL,r'⟩) hok I.bare
def Inv.call{g':Array zFT}{t':Nat}{d':Drawn}{ch:List Addr}(I:Inv X pins Z H s)(u:Un (frs X.stack) ch H H' s.heap h')(hok:HOk X.prog X.w H' h')(hg:zDv g')
  (hch:∀b∈ch,(b∈X.ex\/X.z0.heap.objs.size<=b)/\b≠X.env.locals/\(∀x c,X.env.cells.lookup x=some c->c≠b)/\∀p∈X.ta++(X.pn++pins),p.1≠b):
  Inv X pins Z H' {s with heap:=h',gens:=g',drawn:=d',toks:=t'}:=by
 obtain⟨m,⟨o,es,ep,ho,r⟩,_⟩:=id I.loc;obtain⟨sl,hL⟩:=u.any ho I.free λ z=>(hch _ z).2.1 rfl
 exact I.step (ch:=ch) hch (λ b o hL hb hc e n=>u.keep b o e n (λ z=>(zAR.mp (I.stkSub b z)).elim hL hb) hc) (λ b o _ _ hc e n=>u.any e n hc) (λ b o hc e n=>u.free b o e n hc) (λ b o hc e=>u.there b o e hc) u.tups u.frzs u.tbls (λ m' hm=>by
  obtain⟨o',es',ep',ho',r'⟩:=hm;rw[ho]at ho';cases ho';exact⟨_,es',ep',hL,r'⟩) hok hg
def Inv.turned{t':Nat}{it:Addr}(I:Inv X pins Z H s)(k:∀b o,b≠it->s.heap.get? b=some o->h'.get? b=some o)(hn:H it=none)(hL:it≠X.env.locals)
  (h1:it∈X.ex\/X.z0.heap.objs.size<=it)(h2:∀x c,X.env.cells.lookup x=some c->c≠it)(h3:∀p∈X.ta++(X.pn++pins),p.1≠it):Inv X pins Z H {s with heap:=h',toks:=t'}:=by
 have nit:∀b u,H b=some u->b≠it:=λ b u e z=>by rw[z,hn]at e;cases e
 refine I.step (g':=s.gens) (d':=s.drawn) (ch:=[it]) (λ b hb=>?_) (λ b o _ _ hc e _=>k b o (λ z=>hc (by simp[z])) e) (λ b o _ _ hc e _=>⟨o.slots,k b o (λ z=>hc (by simp[z])) e⟩) (λ _ _ _ _ n=>n)
  (λ b o hc e=>⟨o,k b o (λ z=>hc (by simp[z])) e⟩) (λ _ _ e=>e) (λ _ _ _ e=>e) (λ b ps e=>⟨#[],by rw[e];simp⟩) (λ m hm=>?_) (λ b u e=>?_) I.bare
 .have e:b=it:=by simpa using hb
  subst e;exact⟨h1,hL,h2,h3⟩
 .obtain⟨o,es,ep,ho,r⟩:=hm
  exact⟨o,es,ep,k _ o (zDH hL) ho,r⟩
 .refine(I.hok b u e).stay (λ c v hc q=>k c v ?_ q) (λ _ q=>q) λ _ _ q=>q
  rcases hc with z|z
  .rw[z];exact nit b u e
  .exact nit c _ z
def Inv.tok(I:Inv X pins Z H s)(t:Nat):Inv X pins Z H {s with toks:=t}:=I.un (h':=s.heap) (t':=t) Un.refl I.hok
theorem Inv.kept(I:Inv X pins Z H s)(k:∀b u,s.heap.get? b=some u->h'.get? b=some u):Inv X pins Z H {s with heap:=h',toks:=t'}:=I.un (Un.kept k) (I.hok.kept k)
theorem Inv.laid(I:Inv X pins Z H s)(k:∀b u,s.heap.get? b=some u->h'.get? b=some u)(hp:s.heap.objs.size<=a)(new:dD X.prog X.w (upd H a o) h' a o):
  Inv X pins Z (upd H a o) {s with heap:=h',toks:=t'}:=I.un (Un.laid k hp (I.hok.fresh hp)) (I.hok.laid k hp new)
theorem Inv.write(I:Inv X pins Z H s)(mu:Mut (H x))(he:e=x\/H e=some (.own x))(k:∀b u,b≠e->s.heap.get? b=some u->h'.get? b=some u)(heo:∃u,h'.get? e=some u)
  (new:dD X.prog X.w (upd H x o) h' x o):Inv X pins Z (upd H x o) {s with heap:=h',toks:=t'}:=I.un (Un.write mu he k heo) (I.hok.write mu he k heo new)
def Inv.weak(I:Inv X pins Z H s)(hl:Z'.length=Z.length)(w:∀(i:Nat) v,Z'[i]? =some (some v)->Z[i]? =some (some v)):Inv X pins Z' H s:=
 ⟨I.ok,I.os,I.bare,I.base,let⟨m,hn,hl'⟩:=I.loc;⟨m,hn,λ i x v e1 e2 e3=>hl' i x v e1 (w i v e2) e3⟩,I.cell,I.free,I.freeC,I.pin,I.hok,hl.trans I.len,I.tab⟩
def Inv.pins_of(I:Inv X pins Z H s)(h:∀p∈pins',s.heap.get? p.1=some p.2/\H p.1=none/\p.1≠X.env.locals/\p.1∉X.fs/\∀v,p.2.data≠.cell v)(h2:∀q∈pins',∀p∈X.ta,q.1≠p.1):Inv X pins' Z H s:=
 ⟨I.ok,I.os,I.bare,I.base,I.loc,I.cell,I.free,I.freeC,λ p hp=>(zAe.mp hp).elim (λ z=>I.pin p (zA1 _ z)) (h p),I.hok,I.len,λ p hp=>let⟨a,b,c,d,e⟩:=I.tab p hp;⟨a,b,c,λ q hq=>(zAe.mp hq).elim (λ z=>d q (zA1 _ z)) (λ z=>h2 q z p hp),e⟩⟩
def aAU{N:List Str}(hN:N.Nodup){i j:Nat}{x:Str}(a:N[i]? =some x)(b:N[j]? =some x):i=j:=by
 obtain⟨h1,e1⟩:=zAL.mp a;obtain⟨h2,e2⟩:=zAL.mp b;exact(List.getElem_inj hN).mp (e1.trans e2.symm)
def ww{M:Model}{A:zAm}{E:Value->zAH->Prop}{i:Nat}{x:Str}{v:V}{u:Value}{Q:Unit->zAH->Prop}(I:Inv X pins Z H s)(hN:X.N.Nodup)(hi:X.N[i]? =some x)(hx:Loc X.env.scope x)(r:RelV v u)
  (h:∀s',Inv X pins (Z.set i (some v)) H s'->(∃a,zDg a s.heap s'.heap/\(a=X.env.locals\/X.env.cells.lookup x=some a))->Q () s')(hf:X.fn x=true\/X.env.scope.names.lookup x=some .local:=by first|exact .inl rfl|exact .inr rfl|assumption):wpAny M A (storeName X.env x u) Q E s:=by
 obtain⟨m,hn,hl⟩:=id I.loc;have hcls:(X.env.scope.kind== .class||(X.env.scope.kind== .module&&X.env.locals !=X.env.globals))=false:=by rw[I.ok.kind];rfl
 have hiZ:i<Z.length:=by rw[I.len];exact(zAL.mp hi).1
 have cne:=I.cne;have tracked:∀{a:Addr} {h':Heap},(∃o,s.heap.get? a=some o/\H a=none)->zDg a s.heap h'->HOk X.prog X.w H h':=λ{a h'} ha hs b ob e=>by
  obtain⟨_,_,hfree⟩:=ha;refine(I.hok b ob e).stay (λ c w' hc q=>(hs.2 c ?_).trans q) (λ _ q=>q) λ _ _ q=>q
  rintro rfl;rcases hc with rfl|hc
  .rw[hfree]at e;cases e
  .rw[hfree]at hc;cases hc
 rcases hx with hk|hk
 .refine wpAny_storeName_local hk hn (λ h' hn' hs=>?_) hcls
  obtain⟨oL,_,_,hoL,_⟩:=id hn;refine h _ ⟨I.ok,I.os,I.bare,⟨λ b o e n hb hx=>?_,λ b o e n hb hx=>?_,I.base.free,λ b o e hx=>?_,I.base.tups,I.base.frzs,I.base.tbls⟩,⟨_,hn',λ j y v' e1 e2 e3=>?_⟩,λ y c e=>?_,I.free,I.freeC,λ p hp=>?_,tracked ⟨oL,hoL,I.free⟩ hs,by simpa using I.len,λ p hp=>?_⟩ ⟨_,hs,.inl rfl⟩
  .exact(hs.2 b (zA6 (zAV (zAS e) I.ok.above))).trans (I.base.keep b o e n hb hx)
  .obtain⟨sl,e1⟩:=I.base.slot b o e n hb hx
   exact⟨sl,(hs.2 b (zA6 (zAV (zAS e) I.ok.above))).trans e1⟩
  .obtain⟨o',e1⟩:=I.base.there b o e hx
   exact⟨o',(hs.2 b (zA6 (zAV (zAS e) I.ok.above))).trans e1⟩
  .by_cases hj:j=i
   .subst hj
    rw[hi]at e1;cases e1;rw[zBD hiZ]at e2;cases e2;exact⟨u,r,.inl ⟨hk,by simp⟩⟩
   .rw[zBC (zDH hj)]at e2
    obtain⟨u',r',q⟩:=hl j y v' e1 e2 e3;refine⟨u',r',?_⟩;rcases q with ⟨k,e⟩|⟨k,c,e,z⟩
    .refine .inl ⟨k,?_⟩
     have:y≠x:=λ e=>hj (aAU hN e1 (e▸hi))
     simp[this,e]
    .exact .inr ⟨k,c,e,z.sameBut hs (cne y c e)⟩
  .obtain⟨w',z⟩:=I.cell y c e
   exact⟨w',z.sameBut hs (cne y c e)⟩
  .obtain⟨e,n,ne,nf,d⟩:=I.pin p hp
   exact⟨(hs.2 p.1 ne).trans e,n,ne,nf,d⟩
  .obtain⟨n,ne,nf,np,ps,e,t⟩:=I.tab p hp
   exact⟨n,ne,nf,np,ps,(hs.2 p.1 ne).trans e,t⟩
 .have hfn:X.fn x=true:=by
   rcases hf with z|z
   .exact z
   .rw[z]at hk;cases hk
  obtain⟨c,hc⟩:=I.ok.has x (.inl hk);obtain⟨w',z⟩:=I.cell x c hc;refine wpAny_storeName_cell I.ok.kind hk hc z (λ h' hc' hs=>?_);obtain⟨oc,hoc,hocd⟩:=id z;refine h {s with heap:=h'} ⟨I.ok,I.os,I.bare,⟨λ b o e n hb hx=>?_,λ b o e n hb hx=>?_,I.base.free,λ b o e hx=>?_,I.base.tups,I.base.frzs,I.base.tbls⟩,⟨m,hn.sameBut hs (zDH (cne x c hc)),λ j y v' e1 e2 e3=>?_⟩,λ y c' e=>?_,I.free,I.freeC,λ p hp=>?_,tracked ⟨oc,hoc,I.freeC x c hc⟩ hs,by simpa using I.len,λ p hp=>?_⟩ ⟨c,hs,.inr hc⟩
  .exact(hs.2 b (zA6 (zAV (zAS e) (I.ok.cab x c hfn hc)))).trans (I.base.keep b o e n hb hx)
  .obtain⟨sl,e1⟩:=I.base.slot b o e n hb hx
   exact⟨sl,(hs.2 b (zA6 (zAV (zAS e) (I.ok.cab x c hfn hc)))).trans e1⟩
  .obtain⟨o',e1⟩:=I.base.there b o e hx
   exact⟨o',(hs.2 b (zA6 (zAV (zAS e) (I.ok.cab x c hfn hc)))).trans e1⟩
  .by_cases hj:j=i
   .subst hj
    rw[hi]at e1;cases e1;rw[zBD hiZ]at e2;cases e2;exact⟨u,r,.inr ⟨.inl hk,c,hc,hc'⟩⟩
   .rw[zBC (zDH hj)]at e2
    obtain⟨u',r',q⟩:=hl j y v' e1 e2 e3;refine⟨u',r',?_⟩;rcases q with q|⟨k,c',e,z'⟩
    .exact .inl q
    .refine .inr ⟨k,c',e,z'.sameBut hs ?_⟩
     rintro rfl;exact hj (aAU hN e1 (I.ok.inj _ _ _ e hc▸hi))
  .by_cases hcc:c'=c
   .subst hcc;exact⟨_,hc'⟩
   .obtain⟨w2,z2⟩:=I.cell y c' e
    exact⟨w2,z2.sameBut hs hcc⟩
  .obtain⟨e,n,ne,nf,d⟩:=I.pin p hp
   refine⟨(hs.2 p.1 ?_).trans e,n,ne,nf,d⟩;intro q;rw[q,hoc]at e;have q':oc=p.2:=zA9 e;exact d w' (by rw[<-q'];exact hocd)
  .obtain⟨n,ne,nf,np,ps,e,t⟩:=I.tab p hp
   refine⟨n,ne,nf,np,ps,(hs.2 p.1 ?_).trans e,t⟩;intro q;rw[q,hoc]at e;rw[zA9 e]at hocd;cases hocd
def zc(I:Inv X pins Z H s)(hN:X.N.Nodup)(hi:X.N[i]? =some x)(hx:Loc X.env.scope x)(r:RelV v u)
  (h:∀s',Inv X pins (Z.set i (some v)) H s'->Q () s')(hf:X.fn x=true\/X.env.scope.names.lookup x=some .local:=by first|exact .inl rfl|exact .inr rfl|assumption):wpAny M A (storeName X.env x u) Q E s:=
 ww I hN hi hx r (λ s' I' _=>h s' I') hf
def Inv.call'(I:Inv X pins Z H s)(ho:s'.os=s.os)(u:Un (frs X.stack) ch H H' s.heap s'.heap)(hok:HOk X.prog X.w H' s'.heap)(hg:zDv s'.gens)
  (hch:∀b∈ch,(b∈X.ex\/X.z0.heap.objs.size<=b)/\b≠X.env.locals/\(∀x c,X.env.cells.lookup x=some c->c≠b)/\∀p∈X.ta++(X.pn++pins),p.1≠b):Inv X pins Z H' s':=by
 obtain⟨h',g',d',t',o'⟩:=s';have e:o'=s.os:=ho;subst e;exact I.call (g':=g') (t':=t') (d':=d') u hok hg hch
end
abbrev XK:=Value->Option Addr->Hp->Prop
abbrev St:=List (Option V)
abbrev VK:=V->Hp->Prop
abbrev TE:=St->Hp->VK->Prop
abbrev TT:=St->Hp->(Bool->Hp->Prop)->Prop
abbrev TA:=St->Hp->(List V->Hp->Prop)->Prop
structure Ends where
 nx:St->Hp->Prop
 rt:VK
 bk:St->Hp->Prop:=λ _ _=>False
 ct:St->Hp->Prop:=λ _ _=>False
abbrev TS:=Ends->St->Hp->Prop
def EP(X:Cx)(pins:List (Addr×Obj))(Z:St)(Q:VK)(u:Value)(s':zAH):Prop:=∃v H',Inv X pins Z H' s'/\RelV v u/\Q v H'
def TP(X:Cx)(pins:List (Addr×Obj))(Z:St)(Q:Bool->Hp->Prop)(b:Bool)(s':zAH):Prop:=∃H',Inv X pins Z H' s'/\Q b H'
def AP(X:Cx)(pins:List (Addr×Obj))(Z:St)(Q:List V->Hp->Prop)(us:List Value)(s':zAH):Prop:=∃vs H',Inv X pins Z H' s'/\Vals vs us/\Q vs H'
def SP(X:Cx)(pins:List (Addr×Obj))(D:Ends)(f:Flow)(s':zAH):Prop:=
 match f with
 | .next=>∃Z' H',Inv X pins Z' H' s'/\D.nx Z' H'
 | .brk=>∃Z' H',Inv X pins Z' H' s'/\D.bk Z' H'
 | .cont=>∃Z' H',Inv X pins Z' H' s'/\D.ct Z' H'
 | .ret u=>∃v Z' H',Inv X pins Z' H' s'/\RelV v u/\D.rt v H'
def PE(X:Cx)(e:Expr)(t:TE):Prop:=
 ∀(pins:List (Addr×Obj)) (s:zAH) (Z:St) (H:Hp) (Q:VK),Inv X pins Z H s->t Z H Q->wpAny (model X.prog X.w) X.A (eval e X.env) (EP X pins Z Q) X.xe s
def PT(X:Cx)(e:Expr)(t:TT):Prop:=
 ∀(pins:List (Addr×Obj)) (s:zAH) (Z:St) (H:Hp) (Q:Bool->Hp->Prop),Inv X pins Z H s->t Z H Q->wpAny (model X.prog X.w) X.A (isTrue e X.env (eval e X.env)) (TP X pins Z Q) X.xe s
def PW(X:Cx)(e:Expr)(t:TT):Prop:=
 ∀(whole:Sem Value) (pins:List (Addr×Obj)) (s:zAH) (Z:St) (H:Hp) (Q:Bool->Hp->Prop),Inv X pins Z H s->t Z H Q->wpAny (model X.prog X.w) X.A (isTrue e X.env whole) (TP X pins Z Q) X.xe s
def PW.pt(h:PW X e t):PT X e t:=h _
def PA(X:Cx)(es:List Expr)(t:TA):Prop:=
 ∀(pos:Pos) (pins:List (Addr×Obj)) (s:zAH) (Z:St) (H:Hp) (Q:List V->Hp->Prop),Inv X pins Z H s->t Z H Q->wpAny (model X.prog X.w) X.A (spliced (zCF pos (zAU es X.env))) (AP X pins Z Q) X.xe s
def PS(X:Cx)(st:Stmt)(t:TS):Prop:=
 ∀(pins:List (Addr×Obj)) (s:zAH) (Z:St) (H:Hp) (D:Ends),Inv X pins Z H s->t D Z H->wpAny (model X.prog X.w) X.A (exec st X.env) (SP X pins D) X.xe s
def PSs(X:Cx)(st:List Stmt)(t:TS):Prop:=
 ∀(pins:List (Addr×Obj)) (s:zAH) (Z:St) (H:Hp) (D:Ends),Inv X pins Z H s->t D Z H->wpAny (model X.prog X.w) X.A (execs st X.env) (SP X pins D) X.xe s
def thn(h:wpAny M A t Q E s)(hQ:∀a s,Q a s->Q' a s):wpAny M A t Q' E s:=zBN h hQ λ _ _ x=>x
section
variable{X:Cx}
def qg(i:Nat):TE:=λ Z H Q=>∃v,Z[i]? =some (some v)/\Q v H
def tC(v:V):TE:=λ _ H Q=>Q v H
abbrev _root_.Nd(x:PySem.Str):Prop:=(x==("__debug__":PySem.Str))=false
def gj(hN:X.N[i]? =some x)(hv:Vis X.env.scope x)(hd:Nd x:=by decide)(hcd:(x==("__classdict__":Str))=false:=by decide):PE X (.Name x pos) (qg i):=by
 intro pins s Z H Q I h;obtain⟨v,e,h⟩:=h;obtain⟨m,hn,hl⟩:=I.loc;obtain⟨u,r,l⟩:=hl i x v hN e hv;have fin:EP X pins Z Q u s:=⟨v,H,I,r,h⟩;rcases l with ⟨hk,hm⟩|⟨hk,c,hc,hcell⟩
 .exact zH8 (wpAny_loadName_local I.ok.kind hk hn hm fin) hd
 .rcases hk with hk|hk
  .exact zH8 (wpAny_loadName_cell I.ok.kind hk hc hcell fin) hd
  .exact zH8 (wpAny_loadName_free I.ok.kind hk hc hcell fin hcd) hd
def aBZ{i j pos}:PE X (.Constant (.int i) j pos) (tC (.int i)):=λ _ _ _ H _ I h=>wpAny_Constant_int ⟨.int i,H,I.tok _,⟨_,rfl⟩,h⟩
def aKQ{b j pos}:PE X (.Constant (.bool b) j pos) (tC (.bl b)):=λ _ _ _ H _ I h=>Constant_bool ⟨.bl b,H,I,rfl,h⟩
def aIh{j pos}:PE X (.Constant .none j pos) (tC .non):=λ _ _ _ H _ I h=>Constant_none ⟨.non,H,I,rfl,h⟩
def aIe{x j pos}:PE X (.Constant (.str x) j pos) (tC (.str x)):=λ _ _ _ H _ I h=>Calls.Constant_str ⟨.str x,H,I.tok _,⟨_,rfl⟩,h⟩
def Gl(X:Cx)(x:Str):Prop:=X.env.kindOf x=some .globalImplicit
def yt(I:Inv X pins Z H s)(hg:Gl X x)(hm:X.mg x=some u)(h:Q u s)
  (hd:Nd x:=by decide):wpAny (model X.prog X.w) X.A (eval (.Name x pos) X.env) Q E s:=
 zEf I.ok.kind hg (Calls.loadGlobal_global (by rw[I.ok.glob];exact I.mod.glob.keeps I.bk) hm h) hd
def rO(I:Inv X pins Z H s)(hg:Gl X x)(hm:X.mg x=none)(hv:zAo x=some u)(h:Q u s)
  (hn:x≠"__name__":=by decide)(hd:Nd x:=by decide):wpAny (model X.prog X.w) X.A (eval (.Name x pos) X.env) Q E s:=by
 obtain⟨mb,h1,h2⟩:=I.mod.blt;exact zEf I.ok.kind hg (Calls.loadGlobal_builtin (by rw[I.ok.glob];exact I.mod.glob.keeps I.bk) hm (by rw[I.ok.blt];exact h1.keeps I.bk) ((h2 x hn).trans hv) h) hd
def aG3(hg:Gl X x)(hm:X.mg x=some u)(r:RelV v u)(hd:Nd x:=by decide):PE X (.Name x pos) (tC v):=
 λ _ _ _ H _ I h=>yt I hg hm ⟨v,H,I,r,h⟩ hd
def aG7(hg:Gl X x)(hm:X.mg x=none)(hv:zAo x=some u)(r:RelV v u)(hn:x≠"__name__":=by decide)(hd:Nd x:=by decide):PE X (.Name x pos) (tC v):=
 λ _ _ _ H _ I h=>rO I hg hm hv ⟨v,H,I,r,h⟩ hn hd
variable{a b:Expr}{ta tb:TE}{pos:Pos}
variable{tA tB':TT}{rest:List Expr}
def aKx(t u:TT):TT:=λ Z H Q=>t Z H λ c H1=>if c=true then u Z H1 Q else Q false H1
def tOr(t u:TT):TT:=λ Z H Q=>t Z H λ c H1=>if c=true then Q true H1 else u Z H1 Q
def aKs(t:TT):TT:=λ Z H Q=>t Z H λ c H1=>Q (!c) H1
def aGQ(ha:PT X a tA):PW X (.BoolOp .And [a] pos) tA:=by
 intro wh pins s Z H Q I h;refine isTrue_and (thn (ha pins s Z H Q I h) λ c s1 e=>?_);cases c with
 |true=>exact isTrue_and_nil e
 |false=>exact e
def aI0(ha:PT X a tA):PW X (.BoolOp .Or [a] pos) tA:=by
 intro wh pins s Z H Q I h;refine isTrue_or (thn (ha pins s Z H Q I h) λ c s1 e=>?_);cases c with
 |false=>exact isTrue_or_nil e
 |true=>exact e
def aI1(ha:PT X a tA)(hb:PW X (.BoolOp .And (b::rest) pos) tB'):PW X (.BoolOp .And (a::b::rest) pos) (aKx tA tB'):=by
 intro wh pins s Z H Q I h;refine isTrue_and (thn (ha pins s Z H _ I h) λ c s1 ⟨H1,I1,q1⟩=>?_);cases c with
 |true=>exact hb wh pins s1 Z H1 Q I1 q1
 |false=>exact⟨H1,I1,q1⟩
def aKM(ha:PT X a tA)(hb:PW X (.BoolOp .Or (b::rest) pos) tB'):PW X (.BoolOp .Or (a::b::rest) pos) (tOr tA tB'):=by
 intro wh pins s Z H Q I h;refine isTrue_or (thn (ha pins s Z H _ I h) λ c s1 ⟨H1,I1,q1⟩=>?_);cases c with
 |true=>exact⟨H1,I1,q1⟩
 |false=>exact hb wh pins s1 Z H1 Q I1 q1
def aI3(ha:PT X a tA):PT X (.UnaryOp .Not a pos) (aKs tA):=by
 intro pins s Z H Q I h;exact isTrue_not (ha pins s Z H (λ c H1=>Q (!c) H1) I h)
def aJw(ta tb:TE):TE:=λ Z H Q=>ta Z H λ x H1=>∃c,x= .bl c/\if c=true then tb Z H1 Q else Q (.bl false) H1
def aJt(ta:TE):TE:=λ Z H Q=>ta Z H λ x H1=>∃c,x= .bl c/\Q (.bl (!c)) H1
def aIf{op}(h:PE X a t):PE X (.BoolOp op [a] pos) t:=λ pins s Z H Q I hw=>BoolOp_one (h pins s Z H Q I hw)
def aIj(ha:PE X a ta)(hb:PE X (.BoolOp .And (b::rest) pos) tb):PE X (.BoolOp .And (a::b::rest) pos) (aJw ta tb):=by
 intro pins s Z H Q I h;refine BoolOp_and (thn (ha pins s Z H _ I h) λ v s1 ⟨x,H1,I1,r1,q1⟩=>?_);obtain⟨c,rfl,q1⟩:=q1;cases r1;refine zBw ?_;cases c with
 |true=>exact hb pins s1 Z H1 Q I1 q1
 |false=>exact⟨.bl false,H1,I1,rfl,q1⟩
def aIg(ha:PE X a ta):PE X (.UnaryOp .Not a pos) (aJt ta):=by
 intro pins s Z H Q I h;refine UnaryOp_ (thn (ha pins s Z H _ I h) λ v s1 ⟨x,H1,I1,r1,q1⟩=>?_);obtain⟨c,rfl,q1⟩:=q1;cases r1;exact not_of (zBw ⟨.bl (!c),H1,I1,rfl,q1⟩)
def tIf(t:TT)(ta tb:TE):TE:=λ Z H Q=>t Z H λ c H1=>if c=true then ta Z H1 Q else tb Z H1 Q
def aET(hc:PT X c tA)(ha:PE X a ta)(hb:PE X b tb):PE X (.IfExp c a b pos) (tIf tA ta tb):=by
 intro pins s Z H Q I h;refine wpAny_IfExp (thn (hc pins s Z H _ I h) λ d s1 ⟨H1,I1,q1⟩=>?_);cases d with
 |true=>exact ha pins s1 Z H1 Q I1 q1
 |false=>exact hb pins s1 Z H1 Q I1 q1
end
def SqL(K:zAA)(H:Hp)(a:Addr)(xs:List V):Prop:=
 Rd H a (.lst xs)\/
  ∃(o:Obj) (its:Array Value) (n:Nat),K.lookup a=some o/\o.cls= .type "list"/\o.dict=none/\o.data= .seq its n/\its.size<=zAP/\Vals xs its.toList
def SqT(K:zAA)(H:Hp)(a:Addr)(xs:List V):Prop:=
 Rd H a (.tup xs)\/
  ∃(o:Obj) (its:Array Value) (n:Nat),K.lookup a=some o/\o.cls= .type "tuple"/\o.dict=none/\o.data= .seq its n/\its.size<=zAP/\Vals xs its.toList
def aLE:Value->Option V
 | .none=>some .non
 | .bool b=>some (.bl b)
 | .int i _=>some (.int i)
 | .str x _=>some (.str x)
 | .bytes b _=>some (.byt b)
 | .float b _=>some (.flt b)
 | .ref a=>some (.ref a)
 | .type n=>some (.ty n)
 |_=>none
def RelV.abs(r:RelV x u):aLE u=some x:=by
 cases x with
 |non=>cases r;rfl
 |bl _=>cases r;rfl
 |int _=>obtain⟨t,rfl⟩:=r;rfl
 |str _=>obtain⟨t,rfl⟩:=r;rfl
 |byt _=>obtain⟨t,rfl⟩:=r;rfl
 |flt _=>obtain⟨t,rfl⟩:=r;rfl
 |ref _=>cases r;rfl
 |ty _=>cases r;rfl
def RelV.inj(r:RelV x u)(q:RelV y u):x=y:=zA9 (r.abs.symm.trans q.abs)
theorem Vals.inj:∀{xs ys:List V} {us:List Value},Vals xs us->Vals ys us->xs=ys
 |_,_,_,.nil,.nil=>rfl
 |_,_,_,.cons r t,.cons r' t'=>by rw[r.inj r',Vals.inj t t']
section
variable{X:Cx}{pins:List (Addr×Obj)}{Z:St}{H:Hp}{s:zAH}{a:Addr}{xs ys:List V}
def SqL.of{K:zAA}(h:H a=some (.lst xs)):SqL K H a xs:=.inl (.inl h)
def SqT.of{K:zAA}(h:H a=some (.tup xs)):SqT K H a xs:=.inl (.inl h)
def Inv.list(I:Inv X pins Z H s)(h:SqL X.K H a xs):∃its:List Value,Vals xs its/\PlainL s.heap a its.toArray/\xs.length<=zAP:=by
 rcases h with h|⟨o,its,n,hk,hc,hd,hs,hz,r⟩
 .obtain⟨z,its,n,r,e⟩:=h.ok I.hok
  exact⟨its,r,⟨_,n,e,rfl,rfl,rfl⟩,z⟩
 .refine⟨its.toList,r,⟨o,n,I.kIn a o hk,hc,hd,by simpa using hs⟩,?_⟩
  have e:=r.length;simp only[zAW]at e;lia
def Inv.tuple(I:Inv X pins Z H s)(h:SqT X.K H a xs):∃its:List Value,Vals xs its/\IsTup s.heap a its.toArray/\xs.length<=zAP:=by
 rcases h with h|⟨o,its,n,hk,hc,hd,hs,hz,r⟩
 .obtain⟨z,its,r,p⟩:=h.ok I.hok
  exact⟨its,r,p,z.1⟩
 .refine⟨its.toList,r,⟨o,I.kIn a o hk,hc,n,by simpa using hs⟩,?_⟩
  have e:=r.length;simp only[zAW]at e;lia
def Inv.list_inj(I:Inv X pins Z H s)(h:SqL X.K H a xs)(h':SqL X.K H a ys):xs=ys:=by
 obtain⟨its,r,⟨o,n,e,_,_,d⟩,_⟩:=I.list h;obtain⟨its',r',⟨o',n',e',_,_,d'⟩,_⟩:=I.list h';rw[e]at e';cases e';rw[d]at d';injection d' with d1 _
 have:its=its':=by simpa using congrArg zHJ d1
 subst this;exact r.inj r'
def Inv.tuple_inj(I:Inv X pins Z H s)(h:SqT X.K H a xs)(h':SqT X.K H a ys):xs=ys:=by
 obtain⟨its,r,⟨o,e,_,n,d⟩,_⟩:=I.tuple h;obtain⟨its',r',⟨o',e',_,n',d'⟩,_⟩:=I.tuple h';rw[e]at e';cases e';rw[d]at d';injection d' with d1 _
 have:its=its':=by simpa using congrArg zHJ d1
 subst this;exact r.inj r'
end
section
variable{X:Cx}{st:Stmt}{rest:List Stmt}{t u:TS}{e:Expr}{te:TE}{pos:Pos}
def aJu:TS:=λ D Z H=>D.nx Z H
def aKq(t u:TS):TS:=λ D Z H=>t {D with nx:=u D} Z H
def aGT:PSs X [] aJu:=λ _ _ Z H _ I h=>zEE ⟨Z,H,I,h⟩
def aEG(h1:PS X st t)(h2:PSs X rest u):PSs X (st::rest) (aKq t u):=by
 intro pins s Z H D I h;refine wpAny_execs_cons (thn (h1 pins s Z H {D with nx:=u D} I h) λ f s1 q=>?_);cases f with
 |next=>
  obtain⟨Z',H',I',q⟩:=q;exact h2 pins s1 Z' H' D I' q
 |ret v=>exact q
 |brk=>exact q
 |cont=>exact q
def aGS(h1:PS X st t):PSs X [st] t:=by
 intro pins s Z H D I h;refine wpAny_execs_cons (thn (h1 pins s Z H D I h) λ f s1 q=>?_);cases f with
 |next=>exact zEE q
 |ret v=>exact q
 |brk=>exact q
 |cont=>exact q
def Inv.quiet(I:Inv X pins Z H s):interactive X.env=false:=by simp[interactive,I.ok.kind]
def wj(te:TE):TS:=λ D Z H=>te Z H λ _ H1=>D.nx Z H1
def nC(he:PE X e te)(hs:zCW e none pos.line X.env=pure false:=by rfl):PS X (.Expr e pos) (wj te):=by
 intro pins s Z H D I h;exact wpAny_Expr_any (thn (he pins s Z H _ I h) λ v s1 ⟨x,H1,I1,r1,q1⟩=>⟨Z,H1,I1,q1⟩) I.quiet hs
def aKr(te:TE):TS:=λ D Z H=>te Z H D.rt
def aI4(he:PE X e te):PS X (.Return (some e) pos) (aKr te):=by
 intro pins s Z H D I h;exact wpAny_Return_some (thn (he pins s Z H _ I h) λ v s1 ⟨x,H1,I1,r1,q1⟩=>⟨x,Z,H1,I1,r1,q1⟩)
def aKv(c:TT)(t u:TS):TS:=λ D Z H=>c Z H λ b H1=>if b=true then t D Z H1 else u D Z H1
def aKN(hc:PT X c tc)(ha:PSs X a t)(hb:PSs X b u):PS X (.If c a b pos) (aKv tc t u):=by
 intro pins s Z H D I h;refine wpAny_If (thn (hc pins s Z H _ I h) λ d s1 ⟨H1,I1,q1⟩=>?_);cases d with
 |true=>exact ha pins s1 Z H1 D I1 q1
 |false=>exact hb pins s1 Z H1 D I1 q1
end
abbrev TG:=V->St->Hp->(St->Hp->Prop)->Prop
abbrev TGs:=List V->St->Hp->(St->Hp->Prop)->Prop
def PG(X:Cx)(target:Expr)(t:TG):Prop:=
 ∀(pins:List (Addr×Obj)) (s:zAH) (Z:St) (H:Hp) (v:V) (u:Value) (Q:St->Hp->Prop),Inv X pins Z H s->RelV v u->t v Z H Q->
  wpAny (model X.prog X.w) X.A (zDd target X.env u) (λ _ s'=>∃Z' H',Inv X pins Z' H' s'/\Q Z' H') X.xe s
def PGs(X:Cx)(ts:List Expr)(t:TGs):Prop:=
 ∀(pins:List (Addr×Obj)) (s:zAH) (Z:St) (H:Hp) (vs:List V) (us:List Value) (Q:St->Hp->Prop),Inv X pins Z H s->Vals vs us->t vs Z H Q->
  wpAny (model X.prog X.w) X.A (assignInOrder ((zCI ts X.env).map (·.2)) us) (λ _ s'=>∃Z' H',Inv X pins Z' H' s'/\Q Z' H') X.xe s
abbrev aJl:=V->V->V->Hp->(Hp->Prop)->Prop
def aJn(X:Cx)(t:aJl):Prop:=
 ∀(pins:List (Addr×Obj)) (s:zAH) (Z:St) (H:Hp) (o i v:V) (ov iv u:Value) (Q:Hp->Prop),Inv X pins Z H s->RelV o ov->RelV i iv->RelV v u->t o i v H Q->
  wpAny (model X.prog X.w) X.A (zHF ov iv u) (λ _ s'=>∃H',Inv X pins Z H' s'/\Q H') X.xe s
abbrev TIp:=V->V->Hp->VK->Prop
def PIp(X:Cx)(op:Operator)(t:TIp):Prop:=
 ∀(pins:List (Addr×Obj)) (s:zAH) (Z:St) (H:Hp) (x y:V) (v u:Value) (Q:VK),Inv X pins Z H s->RelV x v->RelV y u->t x y H Q->
  wpAny (model X.prog X.w) X.A (inplaceOp op v u) (EP X pins Z Q) X.xe s
section
variable{X:Cx}{pos:Pos}
def sW(i:Nat):TG:=λ v Z H Q=>Q (Z.set i (some v)) H
def aGZ(hN:X.N.Nodup)(hi:X.N[i]? =some x)(hx:Loc X.env.scope x)(hf:X.fn x=true\/X.env.scope.names.lookup x=some .local:=by first|exact .inl rfl|exact .inr rfl|assumption):PG X (.Name x pos) (sW i):=by
 intro pins s Z H v u Q I r h;exact zH9 (zc I hN hi hx r (λ s' I'=>⟨_,H,I',h⟩) hf)
def aJ7:TGs:=λ vs Z H Q=>vs=[]/\Q Z H
def aFK(t:TG)(u:TGs):TGs:=λ vs Z H Q=>∃v r,vs=v::r/\t v Z H λ Z' H'=>u r Z' H' Q
def aGY:PGs X [] aJ7:=by
 intro pins s Z H vs us Q I r h;obtain⟨e,h⟩:=h;subst e;cases r;exact assignInOrder_nil ⟨Z,H,I,h⟩
def aEQ(h1:PG X e t)(h2:PGs X es u)
  (hs:(zCI (e::es) X.env).map (·.2)=zDd e X.env::(zCI es X.env).map (·.2):=by rfl):PGs X (e::es) (aFK t u):=by
 intro pins s Z H vs us Q I r h;obtain⟨v,vr,e1,h⟩:=h;subst e1;cases r with
 |cons r rr=>
  rw[hs];refine assignInOrder_cons (thn (h1 pins s Z H _ _ _ I r h) λ _ s1 ⟨Z1,H1,I1,q1⟩=>?_);exact h2 pins s1 Z1 H1 _ _ Q I1 rr q1
def aHJ(K:zAA)(n:Nat)(t:TGs):TG:=λ v Z H Q=>∃a xs,v= .ref a/\SqT K H a xs/\xs.length=n/\t xs Z H Q
def aI8(hc:X.calm=true)(h:PGs X es t)
  (hn:(zCI es X.env).length=n:=by rfl)(hst:(zCI es X.env).findIdx? (·.1)=none:=by rfl):PG X (.Tuple es k pos) (aHJ X.K n t):=by
 intro pins s Z H v u Q I r hw;obtain⟨a,xs,e1,hq,hl,hw⟩:=hw;subst e1;cases r;obtain⟨its,rv,ht,hz⟩:=I.tuple hq;refine assign_Tuple_tuple (I.ok.hd hc) ht (by simp[hn,<-hl,rv.length]) hst λ h' hx=>?_
 have I1:Inv X pins Z H {s with heap:=h'}:=I.kept (t':=s.toks) λ b o e=>hx b o (zA6 (zAS e)) e
 exact h pins _ Z H xs _ Q I1 (by simpa using rv) hw
def aK7(to ti:TE)(t:aJl):TG:=λ v Z H Q=>to Z H λ o H1=>ti Z H1 λ i H2=>t o i v H2 λ H3=>Q Z H3
def aI9(ho:PE X o to)(hi:PE X i ti)(hs:aJn X t)
  (ha:∀v,zDd (.Subscript o i pos) X.env v=(do
   let ov <-zCj [v] (eval o X.env);let iv <-zCj [v,ov] (eval i X.env)
   zED pos
   zCj [v,ov,iv] (zHF ov iv v)
   release [v,ov,iv] []):=by intro _;rfl):PG X (.Subscript o i pos) (aK7 to ti t):=by
 intro pins s Z H v u Q I r h;rw[ha];refine zAC (zB6 (thn (ho pins s Z H _ I h) λ ov s1 ⟨x,H1,I1,r1,q1⟩=>?_));refine zAC (zB6 (thn (hi pins s1 Z H1 _ I1 q1) λ iv s2 ⟨y,H2,I2,r2,q2⟩=>?_));refine zAC (zC2 (zAC (zB6 (thn (hs pins s2 Z H2 x y v ov iv u _ I2 r1 r2 r q2) λ _ s3 ⟨H3,I3,q3⟩=>?_))));exact wpAny_release ⟨Z,H3,I3,q3⟩
def aCf(te:TE)(g:TG):TS:=λ D Z H=>te Z H λ x H1=>g x Z H1 D.nx
def aEK(he:PE X e te)(hg:PG X tg g)(hs:zGS [tg] e pos.line X.env=pure false:=by rfl)(hw:zGR [tg] e X.env=pure none:=by rfl)
  (h1:(zCI [tg] X.env).map (·.2)=[zDd tg X.env]:=by rfl):PS X (.Assign [tg] e pos) (aCf te g):=by
 intro pins s Z H D I h;refine wpAny_Assign_stores (thn (he pins s Z H _ I h) λ v s1 ⟨x,H1,I1,r1,q1⟩=>?_) hs hw;rw[h1];exact thn (hg pins s1 Z H1 x v _ I1 r1 q1) λ _ s2 q=>q
def aEI(hN:X.N.Nodup)(hi:X.N[i]? =some x)(hx:Loc X.env.scope x)(he:PE X e te)(hs:zCW e (some (.Name x pos')) pos.line X.env=pure false:=by rfl)(hf:X.fn x=true\/X.env.scope.names.lookup x=some .local:=by first|exact .inl rfl|exact .inr rfl|assumption):
  PS X (.Assign [.Name x pos'] e pos) (aCf te (sW i)):=by
 intro pins s Z H D I h;refine wpAny_Assign_Name (thn (he pins s Z H _ I h) λ v s1 ⟨y,H1,I1,r1,q1⟩=>?_) hs;exact zc I1 hN hi hx r1 (λ s2 I2=>⟨_,H1,I2,q1⟩) hf
def aHa(to ti te:TE)(tget:V->V->Hp->VK->Prop)(tip:TIp)(tset:aJl):TS:=λ D Z H=>to Z H λ o H1=>ti Z H1 λ i H2=>tget o i H2 λ x H3=>te Z H3 λ y H4=>tip x y H4 λ z H5=>tset o i z H5 λ H6=>D.nx Z H6
def aKh(X:Cx)(t:V->V->Hp->VK->Prop):Prop:=
 ∀(pins:List (Addr×Obj)) (s:zAH) (Z:St) (H:Hp) (o i:V) (ov iv:Value) (Q:VK),Inv X pins Z H s->RelV o ov->RelV i iv->t o i H Q->
  wpAny (model X.prog X.w) X.A (zEC ov iv) (EP X pins Z Q) X.xe s
def aGU(ho:PE X o to)(hi:PE X i ti)(hg:aKh X tget)(he:PE X e te)(hp:PIp X op tip)(hs:aJn X tset)
  (ha:∀ov iv new,augStore i ov iv new=(do zCj [new,ov,iv] (zHF ov iv new);release [new,ov,iv] [];pure .next):=by intros;rfl):PS X (.AugAssign (.Subscript o i tpos) op e pos) (aHa to ti te tget tip tset):=by
 intro pins s Z H D I h;refine wpAny_AugAssign_SubscriptAny (thn (ho pins s Z H _ I h) λ ov s1 ⟨x1,H1,I1,r1,q1⟩=>?_) ha;refine thn (hi pins s1 Z H1 _ I1 q1) λ iv s2 ⟨x2,H2,I2,r2,q2⟩=>?_
 refine thn (hg pins s2 Z H2 x1 x2 ov iv _ I2 r1 r2 q2) λ old s3 ⟨x3,H3,I3,r3,q3⟩=>?_
 refine thn (he pins s3 Z H3 _ I3 q3) λ v s4 ⟨x4,H4,I4,r4,q4⟩=>?_
 refine thn (hp pins s4 Z H4 x3 x4 old v _ I4 r3 r4 q4) λ new s5 ⟨x5,H5,I5,r5,q5⟩=>?_
 exact thn (hs pins s5 Z H5 x1 x2 x5 ov iv new _ I5 r1 r2 r5 q5) λ _ s6 ⟨H6,I6,q6⟩=>⟨Z,H6,I6,q6⟩
def ipI(f:Int->Int->Int):TIp:=λ x y H Q=>∃i j,x= .int i/\y= .int j/\Q (.int (f i j)) H
def aJ1:PIp X .Sub (ipI λ i j=>i-j):=by
 intro pins s Z H x y v u Q I r1 r2 h;obtain⟨i,j,e1,e2,q⟩:=h;subst e1;subst e2;obtain⟨t,rfl⟩:=r1;obtain⟨t',rfl⟩:=r2;exact isub_int ⟨.int _,H,I.tok _,⟨_,rfl⟩,q⟩
end
section
variable{X:Cx}{pos:Pos}
def aIG(c:TT)(tb:TS):TS:=λ D Z H=>∃W:Nat->St->Hp->Prop,(∃m,W m Z H)/\∀m Z H,W m Z H->
 c Z H λ b H1=>if b=true then∃N:St->Hp->Prop,(∀Z' H',N Z' H'->∃m',m'<m/\W m' Z' H')/\tb {D with nx:=N,ct:=N,bk:=D.nx} Z H1 else D.nx Z H1
def aEH(hp:zGm (model X.prog X.w) X.A X.env X.xe)(hc:PT X c tc)(hb:PSs X body tb):PS X (.While c body [] pos) (aIG tc tb):=by
 intro pins s Z H D I h;obtain⟨W,⟨m0,w0⟩,turn⟩:=h;refine wpAny_While (codeAny_whileLoop (λ n s'=>∃Z' H',Inv X pins Z' H' s'/\W n Z' H') ?_ m0 ⟨Z,H,I,w0⟩);rintro n s1 ⟨Z1,H1,I1,w1⟩;refine zCX hp (thn (hc pins s1 Z1 H1 _ I1 (turn n Z1 H1 w1)) λ b s2 ⟨H2,I2,q2⟩=>?_);cases b with
 |true=>
  obtain⟨N,hN,q2⟩:=q2;rw[if_pos rfl];refine zCX hp (thn (hb pins s2 Z1 H2 _ I2 q2) λ f s3 q3=>?_);cases f with
  |next=>
   obtain⟨Z3,H3,I3,n3⟩:=q3;obtain⟨m',hm,w3⟩:=hN Z3 H3 n3;exact⟨m',hm,Z3,H3,I3,w3⟩
  |cont=>
   obtain⟨Z3,H3,I3,n3⟩:=q3;obtain⟨m',hm,w3⟩:=hN Z3 H3 n3;exact⟨m',hm,Z3,H3,I3,w3⟩
  |brk=>exact q3
  |ret v=>exact q3
 |false=>
  rw[if_neg zAY];exact zEE ⟨Z1,H2,I2,q2⟩
end
structure It where
 go:Nat->Hp->Prop
 yld:Nat->Hp->V->Hp->Prop
 stop:Nat->Hp->Prop
def pL(X:Cx)(pins:List (Addr×Obj))(H:Hp)(b:Addr):Prop:=
 H b=none/\b≠X.env.locals/\b∉X.fs/\(b∈X.ex\/X.z0.heap.objs.size<=b)/\(∀x c,X.env.cells.lookup x=some c->c≠b)/\∀p∈X.ta++(X.pn++pins),p.1≠b
def Inv.fpOk(I:Inv X pins Z H s)(hb:s.heap.objs.size<=b)(hn:H' b=none):pL X pins H' b:=by
 refine⟨hn,zC5 (zAV I.lt hb),I.nofs hb,.inr (zA5 I.sz hb),λ x c e z=>?_,λ p hp z=>?_⟩
 .obtain⟨v,q⟩:=I.cell x c e
  exact absurd (zAV q.lt (by rw[z];exact hb)) (zBL _)
 .exact absurd (zAV (I.pinL hp) (by rw[z];exact hb)) (zBL _)
structure Turn(P:zA2)(w:World)(K:zAA)(tg:Expr)(J:It)(fp:List Addr)(it:Addr)(tn:Nat->Heap->Prop):Prop where
 mem:it∈fp
 obj:∀i h,tn i h->∀b∈fp,∃o,h.get? b=some o/\∀v,o.data≠.cell v
 keep:∀i h h',tn i h->(∀b∈fp,∀o,h.get? b=some o->h'.get? b=some o)->tn i h'
 item:∀(X:Cx),X.prog=P->X.w=w->X.K=K->X.calm=true->∀(i:Nat) (pins:List (Addr×Obj)) (s:zAH) (Z:St) (H:Hp) (E:Value->zAH->Prop),Inv X pins Z H s->(∀b∈fp,pL X pins H b)->tn i s.heap->J.go i H->
  wpAny (model P w) X.A (zFG (.ref it)) (λ r s1=>∃u,r=some u/\
   wpAny (model P w) X.A (zCk tg (.ref it) u) (λ _ s2=>∃x H',Inv X pins Z H' s2/\RelV x u/\J.yld i H x H'/\tn (i+1) s2.heap/\∀b∈fp,H' b=none) E s1) E s
 done:∀(X:Cx),X.prog=P->X.w=w->X.K=K->X.calm=true->∀(i:Nat) (pins:List (Addr×Obj)) (s:zAH) (Z:St) (H:Hp) (E:Value->zAH->Prop),Inv X pins Z H s->(∀b∈fp,pL X pins H b)->tn i s.heap->J.stop i H->
  wpAny (model P w) X.A (zFG (.ref it)) (λ r s1=>r=none/\Inv X pins Z H s1) E s
 self:∀(A:zAm) (i:Nat) (s:zAH) (Q:Value->zAH->Prop) (E:Value->zAH->Prop),tn i s.heap->Q (.ref it) s->wpAny (model P w) A (zHQ (.ref it)) Q E s
abbrev TI:=St->Hp->(It->Hp->Prop)->Prop
def PIE(X:Cx)(pins:List (Addr×Obj))(Z:St)(tg:Expr)(R:It->Hp->Prop)(itv:Value)(s2:zAH):Prop:=
 ∃(it:Addr) (fp:List Addr) (tn:Nat->Heap->Prop) (J:It) (H':Hp),itv= .ref it/\Inv X pins Z H' s2/\Turn X.prog X.w X.K tg J fp it tn/\tn 0 s2.heap/\(∀b∈fp,pL X pins H' b)/\R J H'
def PI(X:Cx)(tg iter:Expr)(wi:TI):Prop:=
 ∀(pins:List (Addr×Obj)) (s:zAH) (Z:St) (H:Hp) (R:It->Hp->Prop),Inv X pins Z H s->wi Z H R->
  wpAny (model X.prog X.w) X.A (eval iter X.env) (λ v s1=>wpAny (model X.prog X.w) X.A (zHQ v) (PIE X pins Z tg R) X.xe s1) X.xe s
def aFG(ho:s.heap.get? it=some o)(hc:o.cls= .type n)(hd:o.data= .fields vs)
    (hn:["enumerate","zip","dict_itemiterator","dict_reverseitemiterator","odict_iterator","itertools.zip_longest","itertools.pairwise"].contains n=false)(hQ:Q () s):wpAny M A (zCk tg (.ref it) u) Q E s:=by
  unfold zCk;cases tg<;>first
    |exact zAF hQ
    | (cases u <;> first
        |exact zAF hQ
        | (refine zAC (zHa ho ?_)
           rw[hc,hd];show wpAny M A (if (["enumerate","zip","dict_itemiterator","dict_reverseitemiterator","odict_iterator","itertools.zip_longest","itertools.pairwise"].contains n&&vs[0]? ==some (rawInt _))=true then _ else _) Q E s;rw[if_neg (by intro h;rw[hn,zFC]at h;cases h)];exact zAF hQ))
def Itl(K:zAA)(a:Addr):It:=
 ⟨λ i H=>∃xs x,SqL K H a xs/\xs[i]? =some x,λ i H x H'=>H'=H/\∀xs,SqL K H a xs->xs[i]? =some x,λ i H=>∃xs,SqL K H a xs/\xs.length<=i⟩
def Itt(K:zAA)(a:Addr):It:=
 ⟨λ i H=>∃xs x,SqT K H a xs/\xs[i]? =some x,λ i H x H'=>H'=H/\∀xs,SqT K H a xs->xs[i]? =some x,λ i H=>∃xs,SqT K H a xs/\xs.length<=i⟩
def Itr(lo:Int)(n:Nat):It:=⟨λ i _=>i<n,λ i H x H'=>H'=H/\x= .int (lo+i),λ i _=>n<=i⟩
def aCd{P:zA2}{w:World}{K:zAA}{tg:Expr}(a it:Addr):Turn P w K tg (Itl K a) [it] it (λ i h=>h.IsListIter it a i) where
 mem:=by simp
 obj:=λ i h st b hb=>by
  have e:b=it:=by simpa using hb
  subst e;obtain⟨o,e,c,d⟩:=st;exact⟨o,e,λ v z=>by rw[d]at z;cases z⟩
 keep:=λ i h h' st k=>st.at λ o e=>k it (by simp) o e
 item:=by
  intro X hP hw hK hc i pins s Z H E I hf st hg;subst hP hw hK;obtain⟨xs,x,hq,hx⟩:=hg;obtain⟨its,rv,p,hz⟩:=I.list hq;obtain⟨u,hu,ru⟩:=rv.get hx;obtain⟨f0,f1,f2,f3,f4,f5⟩:=hf it (by simp);refine wpAny_pyNext_list_item st p.isList (x:=u) (by simpa using hu) λ h' st' sb=>?_
  have I1:Inv X pins Z H {s with heap:=h'}:=I.turned (t':=s.toks) (λ b o hb e=>(sb.2 b hb).trans e) f0 f1 f3 f4 f5;obtain⟨o,e,c,d⟩:=id st';exact⟨u,rfl,aFG (s:={s with heap:=h'}) e c d (by decide) ⟨x,H,I1,ru,⟨rfl,λ ys hy=>by rw[I.list_inj hy hq];exact hx⟩,st',λ b hb=>(hf b hb).1⟩⟩
 done:=by
  intro X hP hw hK hc i pins s Z H E I hf st hg;subst hP hw hK;obtain⟨xs,hq,hx⟩:=hg;obtain⟨its,rv,p,hz⟩:=I.list hq;obtain⟨f0,f1,f2,f3,f4,f5⟩:=hf it (by simp);have hl:=rv.length;exact wpAny_pyNext_list_end (I.ok.hd hc) st p.isList (by simp;lia) λ h' eb=>⟨rfl,I.turned (t':=s.toks) (λ b o hb e=>eb b o hb e) f0 f1 f3 f4 f5⟩
 self:=λ _ _ _ _ _ st h=>wpAny_pyIter_listiter st h
def aAy{P:zA2}{w:World}{K:zAA}{tg:Expr}(a it:Addr):Turn P w K tg (Itt K a) [it] it (λ i h=>h.IsTupleIter it a i) where
 mem:=by simp
 obj:=λ i h st b hb=>by
  have e:b=it:=by simpa using hb
  subst e;obtain⟨o,e,c,d⟩:=st;exact⟨o,e,λ v z=>by rw[d]at z;cases z⟩
 keep:=λ i h h' st k=>st.at λ o e=>k it (by simp) o e
 item:=by
  intro X hP hw hK hc i pins s Z H E I hf st hg;subst hP hw hK;obtain⟨xs,x,hq,hx⟩:=hg;obtain⟨its,rv,p,hz⟩:=I.tuple hq;obtain⟨u,hu,ru⟩:=rv.get hx;obtain⟨f0,f1,f2,f3,f4,f5⟩:=hf it (by simp);refine wpAny_pyNext_tuple_item st (show s.heap.IsTuple a its.toArray from p) (x:=u) (by simpa using hu) λ h' st' sb=>?_
  have I1:Inv X pins Z H {s with heap:=h'}:=I.turned (t':=s.toks) (λ b o hb e=>(sb.2 b hb).trans e) f0 f1 f3 f4 f5;obtain⟨o,e,c,d⟩:=id st';exact⟨u,rfl,aFG (s:={s with heap:=h'}) e c d (by decide) ⟨x,H,I1,ru,⟨rfl,λ ys hy=>by rw[I.tuple_inj hy hq];exact hx⟩,st',λ b hb=>(hf b hb).1⟩⟩
 done:=by
  intro X hP hw hK hc i pins s Z H E I hf st hg;subst hP hw hK;obtain⟨xs,hq,hx⟩:=hg;obtain⟨its,rv,p,hz⟩:=I.tuple hq;obtain⟨f0,f1,f2,f3,f4,f5⟩:=hf it (by simp);have hl:=rv.length;exact wpAny_pyNext_tuple_end (I.ok.hd hc) st (show s.heap.IsTuple a its.toArray from p) (by simp;lia) λ h' eb=>⟨rfl,I.turned (t':=s.toks) (λ b o hb e=>eb b o hb e) f0 f1 f3 f4 f5⟩
 self:=λ _ _ _ _ _ st h=>wpAny_pyIter_tupleiter st h
def aAz{P:zA2}{w:World}{K:zAA}{tg:Expr}(it:Addr)(lo:Int)(n:Nat):Turn P w K tg (Itr lo n) [it] it (λ i h=>IsRangeIter h it (lo+(i:Nat)*1) ((n:Int)-(i:Nat)) 1) where
 mem:=by simp
 obj:=λ i h st b hb=>by
  have e:b=it:=by simpa using hb
  subst e;exact⟨_,st,λ v z=>by
   have z':Data.fields _=Data.cell v:=z;cases z'⟩
 keep:=λ i h h' st k=>k it (by simp) _ st
 item:=by
  intro X hP hw hK hc i pins s Z H E I hf st hg;subst hP hw hK;obtain⟨f0,f1,f2,f3,f4,f5⟩:=hf it (by simp);have W:=Walks.range (prog:=X.prog) (w:=X.w) (I.ok.hd hc) it lo 1 n;refine W.item i s _ _ hg st λ v h' tk hv st' kk=>?_
  obtain⟨t,rfl⟩:=hv;have I1:Inv X pins Z H {s with heap:=h',toks:=tk}:=I.turned (λ b o hb e=>kk b o (by simpa using hb) e) f0 f1 f3 f4 f5;refine⟨_,rfl,aFG (s:={s with heap:=h',toks:=tk}) (n:="range_iterator") st' rfl rfl (by decide) ⟨.int (lo+i),H,I1,⟨t,?_⟩,⟨rfl,rfl⟩,st',λ b hb=>(hf b hb).1⟩⟩;rw[Int.mul_one]
 done:=by
  intro X hP hw hK hc i pins s Z H E I hf st hg;subst hP hw hK;obtain⟨f0,f1,f2,f3,f4,f5⟩:=hf it (by simp);exact wpAny_pyNext_range_end (I.ok.hd hc) st (by have:n<=i:=hg;lia) λ h' eb=>⟨rfl,I.turned (t':=s.toks) (λ b o hb e=>eb b o hb e) f0 f1 f3 f4 f5⟩
 self:=λ _ _ _ _ _ st h=>wpAny_pyIter_rangeiter st h
section
variable{X:Cx}{tg:Expr}
def aAJ{pins:List (Addr×Obj)}{Z:St}{H:Hp}{s:zAH}{R:It->Hp->Prop}{E:Value->zAH->Prop}{lo hi:Int}{t u v:Tok}{tk:Nat}(I:Inv X pins Z H s)(h1: -(2^62)<=lo)(h2:lo<2^62)(h3: -(2^62)<=hi)(h4:hi<2^62)
  (q:R (Itr lo (hi-lo).toNat) H):wpAny (model X.prog X.w) X.A (zHQ (.ref s.heap.objs.size)) (PIE X pins Z tg R) E {s with heap:=s.heap.push {cls:=.type "range",data:=.fields #[.int lo t,.int hi u,.int 1 v]},toks:=tk}:=by
 refine wpAny_pyIter_range (IsRange.new ..) (small_one h1 h2 h3 h4) ?_;have I1:Inv X pins Z H {s with heap:=s.heap.push {cls:=.type "range",data:=.fields #[.int lo t,.int hi u,.int 1 v]},toks:=tk}:=I.kept λ b o e=>zAE _ e
 refine⟨(s.heap.push {cls:=.type "range",data:=.fields #[.int lo t,.int hi u,.int 1 v]}).objs.size,[(s.heap.push {cls:=.type "range",data:=.fields #[.int lo t,.int hi u,.int 1 v]}).objs.size],_,_,H,rfl,
  I1.kept (t':=tk) λ b o e=>zAE _ e,aAz _ lo (hi-lo).toNat,?_,λ b hb=>?_,q⟩
 .have e1:lo+((0:Nat):Int)*1=lo:=by simp
  have e2:(((hi-lo).toNat:Nat):Int)-((0:Nat):Int)=zHS lo hi 1:=by rw[rangeSize_one];split<;>lia
  show IsRangeIter _ _ (lo+((0:Nat):Int)*1) ((((hi-lo).toNat:Nat):Int)-((0:Nat):Int)) 1;rw[e1,e2];exact zAX _ rfl
 .have e:b=(s.heap.push {cls:=.type "range",data:=.fields #[.int lo t,.int hi u,.int 1 v]}).objs.size:=by simpa using hb
  subst e;exact I1.fpOk (zAO _) (I1.hok.fresh (zAO _))
def aK6(ta:TA):TI:=λ Z H R=>ta Z H λ vs H1=>∃j:Int,vs=[.int j]/\-(2^62)<=j/\j<2^62/\R (Itr 0 j.toNat) H1
def aK5(ta:TA):TI:=λ Z H R=>ta Z H λ vs H1=>∃i j:Int,vs=[.int i,.int j]/\(-(2^62)<=i/\i<2^62/\-(2^62)<=j/\j<2^62)/\R (Itr i (j-i).toNat) H1
def aCr{a:Expr}{ta:TA}{p pos:Pos}(hg:Gl X "range")(hm:X.mg "range"=none)(ha:PA X [a] ta)(hs:zAU [a] X.env=[(false,eval a X.env)]:=by rfl):PI X tg (.Call (.Name "range" p) [a] [] pos) (aK6 ta):=by
 intro pins s Z H R I h;refine Call_ (rO I hg hm boot_range (zBr (thn (ha pos pins s Z H _ I h) λ us s1 ⟨vs,H1,I1,r1,q1⟩=>?_) hs rfl));obtain⟨j,e,q1,q2,q⟩:=q1;subst e;cases r1 with
 |cons r rr=>
  cases rr;obtain⟨t,rfl⟩:=r;exact call_range_1 (aAJ I1 (by lia) (by lia) q1 q2 (by simpa using q))
def aCq(hg:Gl X "range")(hm:X.mg "range"=none)(ha:PA X [a,b] ta)(hs:zAU [a,b] X.env=[(false,eval a X.env),(false,eval b X.env)]:=by rfl)(hs2:zAU [b] X.env=[(false,eval b X.env)]:=by rfl):
  PI X tg (.Call (.Name "range" p) [a,b] [] pos) (aK5 ta):=by
 intro pins s Z H R I h;refine Call_ (rO I hg hm boot_range (zBr (thn (ha pos pins s Z H _ I h) λ us s1 ⟨vs,H1,I1,r1,q1⟩=>?_) (by rw[hs,hs2]) (by rw[hs2];rfl)));obtain⟨i,j,e,⟨q1,q2,q3,q4⟩,q⟩:=q1;subst e;cases r1 with
 |cons r rr=>
  cases rr with
  |cons r' rr=>
   cases rr;obtain⟨t,rfl⟩:=r;obtain⟨t',rfl⟩:=r';exact call_range_2 (aAJ I1 q1 q2 q3 q4 q)
def aKw(wi:TI)(g:TG)(tb:TS):TS:=λ D Z H=>wi Z H λ J H1=>∃W:Nat->Nat->St->Hp->Prop,(∃m,W 0 m Z H1)/\∀i m Z H,W i m Z H->
 (J.stop i H/\D.nx Z H)\/(J.go i H/\∃N:St->Hp->Prop,(∀Z' H',N Z' H'->∃m',m'<m/\W (i+1) m' Z' H')/\∀x H',J.yld i H x H'->g x Z H' λ Z2 H2=>tb {D with nx:=N,ct:=N,bk:=D.nx} Z2 H2)
def ou(fp:List Addr)(h:Heap):List (Addr×Obj):=fp.filterMap λ b=>(h.get? b).map λ o=>(b,o)
def ik(hb:b∈fp)(e:h.get? b=some o):(b,o)∈ou fp h:=zCA.mpr ⟨b,hb,by rw[e];rfl⟩
def xJ(hp:p∈ou fp h):p.1∈fp/\h.get? p.1=some p.2:=by
 obtain⟨b,hb,e⟩:=zCA.mp hp;cases q:h.get? b with
 |none=>rw[q]at e;cases e
 |some o=>
  rw[q]at e;have e':(b,o)=p:=zA9 e;subst e';exact⟨hb,q⟩
def Inv.pinned(I:Inv X pins Z H s)(hf:∀b∈fp,pL X pins H b)(ho:∀b∈fp,∃o,s.heap.get? b=some o/\∀v,o.data≠.cell v):Inv X (pins++ou fp s.heap) Z H s:=
 I.pins_of (λ p hp=>(zAe.mp hp).elim (λ z=>I.pin p (zAZ _ z)) λ z=>by
  obtain⟨hb,e⟩:=xJ z;obtain⟨f0,f1,f2,_⟩:=hf p.1 hb;obtain⟨o,e',d⟩:=ho p.1 hb;rw[e]at e';cases e';exact⟨e,f0,f1,f2,d⟩) λ q hq p hp=>(zAe.mp hq).elim (λ z=>(I.tab p hp).2.2.2.1 q (zAZ _ z)) λ z=>((hf q.1 (xJ z).1).2.2.2.2.2 p (zA1 _ hp)).symm
def Inv.unpinned(I:Inv X (pins++pl) Z H s):Inv X pins Z H s:=I.pins_of (λ p hp=>I.pin p (zAZ _ (zA1 _ hp))) λ q hq p hp=>(I.tab p hp).2.2.2.1 q (zAZ _ (zA1 _ hq))
def aI5(hp:zGm (model X.prog X.w) X.A X.env X.xe)(hc:X.calm=true)(hi:PI X tg iter wi)(hg:PG X tg g)(hb:PSs X body tb)
  (hs:∀x,zAu iter X.env x=pure x:=by intro _;rfl):PS X (.For tg iter body [] pos) (aKw wi g tb):=by
 intro pins s Z H D I h;refine wpAny_For (thn (hi pins s Z H _ I h) λ v s1 h1=>thn h1 λ itv s2 h2=>?_) hs;obtain⟨it,fp,tn,J,H2,e,I2,T,st2,f2,W,⟨m0,w0⟩,turn⟩:=h2;subst e;have stat:∀{H':Hp},(∀b∈fp,H' b=none)->∀b∈fp,pL X pins H' b:=λ hn b hb=>⟨hn b hb,(f2 b hb).2⟩
 refine codeAny_forLoop_any (λ n s'=>∃i Z' H',Inv X pins Z' H' s'/\tn i s'.heap/\(∀b∈fp,H' b=none)/\W i n Z' H') ?_ m0 ⟨0,Z,H2,I2,st2,λ b hb=>(f2 b hb).1,w0⟩;rintro n s3 ⟨i,Z3,H3,I3,st3,fr3,w3⟩;rcases turn i n Z3 H3 w3 with ⟨stop,qn⟩|⟨go,N,hN,step⟩
 .refine zCX hp (thn (T.done X rfl rfl rfl hc i pins s3 Z3 H3 X.xe I3 (stat fr3) st3 stop) λ r s4 ⟨hr,I4⟩=>?_)
  subst hr;exact zEE ⟨Z3,H3,I4,qn⟩
 .refine zCX hp (thn (T.item X rfl rfl rfl hc i pins s3 Z3 H3 X.xe I3 (stat fr3) st3 go) λ r s4 ⟨u,hr,h4⟩=>?_)
  subst hr;refine zCX hp (thn h4 λ _ s5 ⟨x,H5,I5,r5,y5,st5,fr5⟩=>?_);have I5':=I5.pinned (stat fr5) (T.obj _ _ st5);refine zCX hp (thn (hg _ s5 Z3 H5 x u _ I5' r5 (step x H5 y5)) λ _ s6 ⟨Z6,H6,I6,q6⟩=>?_);refine zCX hp (thn (hb _ s6 Z6 H6 _ I6 q6) λ f s7 q7=>?_);have again:∀{Z7:St} {H7:Hp},Inv X (pins++ou fp s5.heap) Z7 H7 s7->N Z7 H7->∃m,m<n/\∃i Z' H',Inv X pins Z' H' s7/\tn i s7.heap/\(∀b∈fp,H' b=none)/\W i m Z' H':=λ{Z7 H7} I7 n7=>by
   obtain⟨m',hm,w7⟩:=hN Z7 H7 n7;refine⟨m',hm,i+1,Z7,H7,I7.unpinned,T.keep _ _ _ st5 λ b hb o e=>(I7.pin (b,o) (zAZ _ (zAZ _ (ik hb e)))).1,λ b hb=>?_,w7⟩;obtain⟨o,e,d⟩:=T.obj _ _ st5 b hb;exact(I7.pin (b,o) (zAZ _ (zAZ _ (ik hb e)))).2.1
  cases f with
  |next=>obtain⟨Z7,H7,I7,n7⟩:=q7;exact again I7 n7
  |cont=>obtain⟨Z7,H7,I7,n7⟩:=q7;exact again I7 n7
  |brk=>obtain⟨Z7,H7,I7,q7⟩:=q7;exact⟨Z7,H7,I7.unpinned,q7⟩
  |ret v=>obtain⟨x7,Z7,H7,I7,r7,q7⟩:=q7;exact⟨x7,Z7,H7,I7.unpinned,r7,q7⟩
end
abbrev R2:=V->V->Hp->VK->Prop
def OpR(X:Cx)(f:Value->Value->Sem Value)(r:R2):Prop:=
 ∀(pins:List (Addr×Obj)) (s:zAH) (Z:St) (H:Hp) (x y:V) (v u:Value) (Q:VK),Inv X pins Z H s->RelV x v->RelV y u->r x y H Q->
  wpAny (model X.prog X.w) X.A (f v u) (EP X pins Z Q) X.xe s
def UnR(X:Cx)(f:Value->Sem Value)(r:V->Hp->VK->Prop):Prop:=
 ∀(pins:List (Addr×Obj)) (s:zAH) (Z:St) (H:Hp) (x:V) (v:Value) (Q:VK),Inv X pins Z H s->RelV x v->r x H Q->
  wpAny (model X.prog X.w) X.A (f v) (EP X pins Z Q) X.xe s
def dI(X:Cx)(f:Value)(r:List V->Hp->VK->Prop):Prop:=
 ∀(pins:List (Addr×Obj)) (s:zAH) (Z:St) (H:Hp) (xs:List V) (us:List Value) (Q:VK),Inv X pins Z H s->Vals xs us->r xs H Q->
  wpAny (model X.prog X.w) X.A (call f us) (EP X pins Z Q) X.xe s
def aLF(X:Cx)(r:V->Hp->(Bool->Hp->Prop)->Prop):Prop:=
 ∀(pins:List (Addr×Obj)) (s:zAH) (Z:St) (H:Hp) (x:V) (v:Value) (Q:Bool->Hp->Prop),Inv X pins Z H s->RelV x v->r x H Q->
  wpAny (model X.prog X.w) X.A (truthy v) (TP X pins Z Q) X.xe s
def tOp(r:R2)(ta tb:TE):TE:=λ Z H Q=>ta Z H λ x H1=>tb Z H1 λ y H2=>r x y H2 Q
def tUn(r:V->Hp->VK->Prop)(ta:TE):TE:=λ Z H Q=>ta Z H λ x H1=>r x H1 Q
def rI(C:Int->Int->Prop)(g:Int->Int->V):R2:=λ x y H Q=>∃i j,x= .int i/\y= .int j/\C i j/\Q (g i j) H
def rI0(g:Int->Int->V):R2:=λ x y H Q=>∃i j,x= .int i/\y= .int j/\Q (g i j) H
def rU(g:Int->V):V->Hp->VK->Prop:=λ x H Q=>∃i,x= .int i/\Q (g i) H
section
variable{X:Cx}{a b:Expr}{ta tb:TE}{pos:Pos}
def aJe(ha:PE X a ta)(hb:PE X b tb){pins:List (Addr×Obj)}{s:zAH}{Z:St}{H:Hp}{R:V->V->Hp->Prop}(I:Inv X pins Z H s)
  (h:ta Z H λ x H1=>tb Z H1 λ y H2=>R x y H2){Q:Value->zAH->Prop}{f:Value->Value->Sem Value}
  (hf:∀v u s2 x y H2,Inv X pins Z H2 s2->RelV x v->RelV y u->R x y H2->wpAny (model X.prog X.w) X.A (f v u) Q X.xe s2):
  wpAny (model X.prog X.w) X.A (eval a X.env) (λ v zD=>wpAny (model X.prog X.w) X.A (eval b X.env) (λ u zI=>wpAny (model X.prog X.w) X.A (f v u) Q X.xe zI) X.xe zD) X.xe s:=by
 refine thn (ha pins s Z H _ I h) λ v s1 ⟨x,H1,I1,r1,q1⟩=>?_
 refine thn (hb pins s1 Z H1 _ I1 q1) λ u s2 ⟨y,H2,I2,r2,q2⟩=>?_
 exact hf v u s2 x y H2 I2 r1 r2 q2
def aKO{op:Operator}{r:R2}(ho:OpR X (zBs op) r)(ha:PE X a ta)(hb:PE X b tb):PE X (.BinOp a op b pos) (tOp r ta tb):=by
 intro pins s Z H Q I h;exact wpAny_BinOp (aJe ha hb I h λ v u s2 x y H2 I2 rx ry q=>ho pins s2 Z H2 x y v u Q I2 rx ry q)
def aER(ho:UnR X (unaryOp op) r)(ha:PE X a ta):PE X (.UnaryOp op a pos) (tUn r ta):=by
 intro pins s Z H Q I h;exact UnaryOp_ (thn (ha pins s Z H _ I h) λ v s1 ⟨x,H1,I1,r1,q1⟩=>ho pins s1 Z H1 x v Q I1 r1 q1)
def opI{f:Value->Value->Sem Value}{C:Int->Int->Prop}{g:Int->Int->Int}
  (rule:∀(i j:Int) (t u:Tok) (s:zAH) (Q:Value->zAH->Prop) (E:Value->zAH->Prop),C i j->Q (.int (g i j) s.toks) {s with toks:=s.toks+1}->wpAny (model X.prog X.w) X.A (f (.int i t) (.int j u)) Q E s):
  OpR X f (rI C λ i j=>.int (g i j)):=by
 intro pins s Z H x y v u Q I rx ry h;obtain⟨i,j,rfl,rfl,hc,q⟩:=h;obtain⟨t,rfl⟩:=rx;obtain⟨t',rfl⟩:=ry;exact rule i j t t' s _ _ hc ⟨.int (g i j),H,I.tok _,⟨_,rfl⟩,q⟩
def aKW{f:Value->Value->Sem Value}{g:Int->Int->Int}
  (rule:∀(i j:Int) (t u:Tok) (s:zAH) (Q:Value->zAH->Prop) (E:Value->zAH->Prop),Q (.int (g i j) s.toks) {s with toks:=s.toks+1}->wpAny (model X.prog X.w) X.A (f (.int i t) (.int j u)) Q E s):
  OpR X f (rI0 λ i j=>.int (g i j)):=by
 intro pins s Z H x y v u Q I rx ry h;obtain⟨i,j,rfl,rfl,q⟩:=h;obtain⟨t,rfl⟩:=rx;obtain⟨t',rfl⟩:=ry;exact rule i j t t' s _ _ ⟨.int (g i j),H,I.tok _,⟨_,rfl⟩,q⟩
def aJD{f:Value->Value->Sem Value}{g:Int->Int->Bool}
  (rule:∀(i j:Int) (t u:Tok) (s:zAH) (Q:Value->zAH->Prop) (E:Value->zAH->Prop),Q (.bool (g i j)) s->wpAny (model X.prog X.w) X.A (f (.int i t) (.int j u)) Q E s):
  OpR X f (rI0 λ i j=>.bl (g i j)):=by
 intro pins s Z H x y v u Q I rx ry h;obtain⟨i,j,rfl,rfl,q⟩:=h;obtain⟨t,rfl⟩:=rx;obtain⟨t',rfl⟩:=ry;exact rule i j t t' s _ _ ⟨.bl (g i j),H,I,rfl,q⟩
def aKm(i j:Int):Prop:=0<j/\j<1073741824
def aLH(i j:Int):Prop:=0<=j/\j<=1000000/\i.natAbs<2^64
def aH3(i j:Int):Prop:=(-(2^64)<i/\i<2^64)\/(-(2^64)<j/\j<2^64)
def aH3.ok(h:aH3 i j):IntMulOk i j:=by
 rcases h with ⟨h1,h2⟩|⟨h1,h2⟩
 .exact .of_left (intBits_le_64 h1 h2)
 .exact .of_right (intBits_le_64 h1 h2)
def aJC:OpR X (zBs .Add) (rI0 λ i j=>.int (i+j)):=aKW λ _ _ _ _ _ _ _ q=>add_int q
def aIn:OpR X (zBs .Sub) (rI0 λ i j=>.int (i-j)):=aKW λ _ _ _ _ _ _ _ q=>sub_int q
def aIr:OpR X (zBs .Mult) (rI aH3 λ i j=>.int (i*j)):=opI λ _ _ _ _ _ _ _ hc q=>mul_int q hc.ok
def aGe:OpR X (zBs .FloorDiv) (rI aKm λ i j=>.int (i / j)):=opI λ i j _ _ _ _ _ hc q=>by
 have h1:(0:Int)<j:=hc.1;have h2:j<1073741824:=hc.2;exact floordiv_int (by lia) (by rw[Int.fdiv_eq_ediv_of_nonneg i (by lia)];exact q) (.inl (PyProof.noPylong_small (by lia)))
def aIs:OpR X (zBs .Mod) (rI (λ _ j=>0<j) λ i j=>.int (i%j)):=opI λ i j _ _ _ _ _ hc q=>by
 have h1:(0:Int)<j:=hc;exact mod_int' (by lia) (by rw[Int.fmod_eq_emod_of_nonneg i (by lia)];exact q)
def aIp:OpR X (zBs .Pow) (rI aLH λ i j=>.int (i^j.toNat)):=opI λ _ _ _ _ _ _ _ hc q=>pow_int_small hc.1 hc.2.1 hc.2.2 q
def unI{f:Value->Sem Value}{g:Int->Int}
  (rule:∀(i:Int) (t:Tok) (s:zAH) (Q:Value->zAH->Prop) (E:Value->zAH->Prop),Q (.int (g i) s.toks) {s with toks:=s.toks+1}->wpAny (model X.prog X.w) X.A (f (.int i t)) Q E s):
  UnR X f (rU λ i=>.int (g i)):=by
 intro pins s Z H x v Q I rx h;obtain⟨i,rfl,q⟩:=h;obtain⟨t,rfl⟩:=rx;exact rule i t s _ _ ⟨.int (g i),H,I.tok _,⟨_,rfl⟩,q⟩
def aAx:UnR X (unaryOp .USub) (rU λ i=>.int (-i)):=unI λ _ _ _ _ _ q=>neg_int q
end
section
variable{X:Cx}{a b c:Expr}{ta tb tc:TE}{pos:Pos}
def aFO(I:Inv X pins Z H s)(q:Q (.bl k) H)(e:k=k'):EP X pins Z Q (.bool k') s:=by
 subst e;exact⟨.bl k,H,I,rfl,q⟩
def aKT:OpR X (zAr .Lt) (rI0 λ i j=>.bl (decide (i<j))):=aJD λ _ _ _ _ _ _ _ q=>lt_int q
def aKU:OpR X (zAr .LtE) (rI0 λ i j=>.bl (decide (i<=j))):=aJD λ _ _ _ _ _ _ _ q=>le_int q
def aKV:OpR X (zAr .GtE) (rI0 λ i j=>.bl (decide (j<=i))):=aJD λ _ _ _ _ _ _ _ q=>ge_int q
def aIy:OpR X (zAr .Is) (λ x y H Q=>y= .non/\Q (.bl (decide (x= .non))) H):=by
 intro pins s Z H x y v u Q I rx ry h;obtain⟨rfl,q⟩:=h;cases ry;refine is_none_gen (aFO I q ?_);cases x<;>first
  |(cases rx;rfl)
  |(obtain⟨t,rfl⟩:=rx;rfl)
def isObj:HO->Bool
 | .lst _=>true
 | .ins _ _ _=>true
 |_=>false
def aE9(b:Expr)(h:op≠.In:=by decide)(h2:op≠.NotIn:=by decide):zCB op b=false:=by
 have e1:(op==CmpOp.In)=false:=by cases op<;>first|rfl|exact absurd rfl h
 have e2:(op==CmpOp.NotIn)=false:=by cases op<;>first|rfl|exact absurd rfl h2
 cases b<;>simp[zCB,e1,e2]
def aG5{op:CmpOp}{r:R2}(ho:OpR X (zAr op) r)(ha:PE X a ta)(hb:PE X b tb)(hm:zCB op b=false):PE X (.Compare a [op] [b] pos) (tOp r ta tb):=by
 intro pins s Z H Q I h;exact wpAny_Compare1 (aJe ha hb I h λ v u s2 x y H2 I2 rx ry q=>ho pins s2 Z H2 x y v u Q I2 rx ry q) hm
def aH5(t:TE):TT:=λ Z H Q=>t Z H λ x H'=>∃k,x= .bl k/\Q k H'
def aGR(ho:OpR X (zAr op) r)(ha:PE X a ta)(hb:PE X b tb)(hm:zCB op b=false):PT X (.Compare a [op] [b] pos) (aH5 (tOp r ta tb)):=by
 intro pins s Z H Q I h;refine wpAny_isTrue_Compare1 (thn (ha pins s Z H _ I h) λ v s1 ⟨x,H1,I1,r1,q1⟩=>thn (hb pins s1 Z H1 _ I1 q1) λ u s2 ⟨y,H2,I2,r2,q2⟩=>
  thn (ho pins s2 Z H2 x y v u _ I2 r1 r2 q2) λ c s3 ⟨z,H3,I3,r3,k,e,q3⟩=>?_) hm
 subst e;cases r3;exact zBw ⟨H3,I3,q3⟩
def aD8(r r':R2)(ta tb tc:TE):TE:=λ Z H Q=>ta Z H λ x H1=>tb Z H1 λ y H2=>r x y H2 λ z H3=>∃k,z= .bl k/\
 (if k=true then tc Z H3 λ w' H4=>r' y w' H4 Q else Q (.bl false) H3)
def aEV(ho:OpR X (zAr op) r)(ho':OpR X (zAr op') r')(ha:PE X a ta)(hb:PE X b tb)(hc:PE X c tc)
  (hm:zGs [op,op'] [b,c]=false:=by with_unfolding_all rfl):PE X (.Compare a [op,op'] [b,c] pos) (aD8 r r' ta tb tc):=by
 intro pins s Z H Q I h;refine Compare_chain (thn (ha pins s Z H _ I h) λ v s1 ⟨x,H1,I1,r1,q1⟩=>chain_link (thn (hb pins s1 Z H1 _ I1 q1) λ u s2 ⟨y,H2,I2,r2,q2⟩=>
  thn (ho pins s2 Z H2 x y v u _ I2 r1 r2 q2) λ d s3 ⟨z,H3,I3,r3,k,e,q3⟩=>?_)) hm
 subst e;cases r3;refine zBw ?_;cases k with
 |false=>exact ite_ff ⟨.bl false,H3,I3,rfl,q3⟩
 |true=>exact ite_tt (chain_last (thn (hc pins s3 Z H3 _ I3 q3) λ w' s4 ⟨z',H4,I4,r4,q4⟩=>ho' pins s4 Z H4 y z' u w' Q I4 r2 r4 q4))
def aJk(K:zAA)(x:V)(H:Hp)(k:Bool):Prop:=
 match x with
 | .non=>k=false
 | .bl b=>k=b
 | .int i=>k=(i !=0)
 | .str y=>y.length<=zAP/\k=((y.length:Int)!=0)
 | .byt y=>y.size<=zAP/\k=((y.size:Int)!=0)
 | .ref p=>(∃xs,SqL K H p xs/\k= !xs.isEmpty)\/(∃xs,SqT K H p xs/\k= !xs.isEmpty)\/∃kvs,H p=some (.dK kvs)/\k= !kvs.isEmpty
 |_=>False
def aBm(r:KV kvs vs):(!vs.isEmpty)= !kvs.isEmpty:=by
 cases r<;>rfl
def vJ(r:Vals xs its):(!its.toArray.isEmpty)= !xs.isEmpty:=by
 cases r<;>simp
def pC:(zAP:Nat)<2^63:=by rw[zCV];decide
def aID:aLF X (λ x H Q=>∃k,aJk X.K x H k/\Q k H):=by
 intro pins s Z H x v Q I rx h;obtain⟨k,e,q⟩:=h;have hl:=pC;have hs:zAP=16777216:=zCV;cases x with
 |non=>
  cases rx;have e':k=false:=e;subst e';exact truthy_none ⟨H,I,q⟩
 |bl b=>
  cases rx;have e':k=b:=e;subst e';exact zBw ⟨H,I,q⟩
 |int i=>
  obtain⟨t,rfl⟩:=rx;have e':k=(i !=0):=e;subst e';exact PySem.P.truthy_int ⟨H,I,q⟩
 |str y=>
  obtain⟨t,rfl⟩:=rx;obtain⟨hy,e'⟩:y.length<=zAP/\k=((y.length:Int)!=0):=e;subst e';exact PySem.P.truthy_str (by lia) ⟨H,I.tok _,q⟩
 |byt y=>
  obtain⟨t,rfl⟩:=rx;obtain⟨hy,e'⟩:y.size<=zAP/\k=((y.size:Int)!=0):=e;subst e';exact PySem.W.truthy_bytes (by lia) ⟨H,I.tok _,q⟩
 |ref p=>
  cases rx;have e':(∃xs,SqL X.K H p xs/\k= !xs.isEmpty)\/(∃xs,SqT X.K H p xs/\k= !xs.isEmpty)\/∃kvs,H p=some (.dK kvs)/\k= !kvs.isEmpty:=e
  rcases e' with ⟨xs,hx,e'⟩|⟨xs,hx,e'⟩|⟨kvs,hx,e'⟩
  .subst e'
   obtain⟨its,r,pl,hz⟩:=I.list hx;have hlen:=r.length;exact wpAny_truthy_list pl.isList (by simp only[zAG];lia) ⟨H,I.tok _,by rw[vJ r];exact q⟩
  .subst e'
   obtain⟨its,r,pl,hz⟩:=I.tuple hx;have hlen:=r.length;exact truthy_tuple pl (by simp only[zAG];lia) ⟨H,I.tok _,by rw[vJ r];exact q⟩
  .subst e'
   obtain⟨hz,hS,vs,r,m⟩:kvs.length<=zAP/\(p==zDe)=false/\∃vs,KV kvs vs/\s.heap.DictOf (yp X.prog X.w) p vs:=I.hok p _ hx
   have hlen:kvs.length=vs.length:=zGy r;exact wpAny_truthy_dict hS m (by lia) ⟨H,I.tok _,by rw[aBm r];exact q⟩
 |_=>exact(show False from e).elim
def aEF(ha:PE X a ta)(he:∀whole,isTrue a X.env whole=(do let v <-whole;zED a.pos;zCj [v] (truthy v))):
  PT X a (λ Z H Q=>ta Z H λ x H'=>∃k,aJk X.K x H' k/\Q k H'):=by
 intro pins s Z H Q I h;exact isTrue_plain (thn (ha pins s Z H _ I h) λ v s1 ⟨x,H1,I1,r1,q1⟩=>aID pins s1 Z H1 x v Q I1 r1 q1) (he _)
def vals1(r:Vals [x] us):∃u,us=[u]/\RelV x u:=by
 cases r with
 |cons r1 r2=>cases r2;exact⟨_,rfl,r1⟩
def vals2(r:Vals [x,y] us):∃u w',us=[u,w']/\RelV x u/\RelV y w':=by
 cases r with
 |cons r1 r2=>
  cases r2 with
  |cons r3 r4=>cases r4;exact⟨_,_,rfl,r1,r3⟩
def aDR(hc:X.calm=true):dI X (.builtin "max") (λ xs H Q=>∃i j,xs=[.int i,.int j]/\Q (.int (if j>i then j else i)) H):=by
 intro pins s Z H xs us Q I r h;obtain⟨i,j,rfl,q⟩:=h;obtain⟨u,w',rfl,⟨t,rfl⟩,⟨t',rfl⟩⟩:=vals2 r;refine max_two_ints (I.ok.hd hc) λ h' tk k=>⟨_,H,I.kept k,?_,q⟩
 by_cases hj:j>i
 .rw[if_pos hj,if_pos hj];exact⟨_,rfl⟩
 .rw[if_neg hj,if_neg hj];exact⟨_,rfl⟩
def aDQ(hc:X.calm=true):dI X (.builtin "min") (λ xs H Q=>∃i j,xs=[.int i,.int j]/\Q (.int (if j<i then j else i)) H):=by
 intro pins s Z H xs us Q I r h;obtain⟨i,j,rfl,q⟩:=h;obtain⟨u,w',rfl,⟨t,rfl⟩,⟨t',rfl⟩⟩:=vals2 r;refine min_two_ints (I.ok.hd hc) λ h' tk k=>⟨_,H,I.kept k,?_,q⟩
 by_cases hj:j<i
 .rw[if_pos hj,if_pos hj];exact⟨_,rfl⟩
 .rw[if_neg hj,if_neg hj];exact⟨_,rfl⟩
end
structure aHZ(h:Heap)(x dx C:Addr)(mA:Str->Option Value):Prop where
 obj:h.get? x=some (zBl C dx)
 ns:h.Ns1 dx mA
 ne:dx≠x
def aDA{h:Heap}{dx:Addr}{mA:Str->Option Value}(n:h.Ns1 dx mA):∃od,h.get? dx=some od/\∀name,zDj name od=some (mA name):=by
 obtain⟨o,es,ep,ho,hd,hk,_,hm⟩:=n;refine⟨o,ho,λ name=>?_⟩;have e:=hm name;unfold nsFind findBy at e;rw[<-Array.find?_toList]at e;unfold zDj;rw[hd];dsimp only;split
 .rename_i y q
  rw[q]at e;exact congrArg some e
 .rename_i q
  rw[q]at e;have a:es.toList.any (·.refKey)=false:=by
   rw[zGW];intro y hy;obtain⟨z,t,hkey⟩:=hk y (Array.mem_toList_iff.mp hy);simp[DictEntry.refKey,hkey]
  have a':¬es.toList.any (·.refKey)=true:=by rw[a];exact zAY
  rw[if_neg a'];exact congrArg some e
def aHZ.look(I:aHZ h x dx C mA):∃od,zG1 h x (zBl C dx) C (some od)/\∀name,zDj name od=some (mA name):=
 let⟨od,ho,hl⟩:=aDA I.ns
 ⟨od,⟨I.obj,rfl,rfl,ho⟩,hl⟩
section
variable{prog:zA2}{w:World}{A:zAm}{E:Value->zAH->Prop}{s:zAH}{K:zAA}{x dx C f:Addr}{mA:Str->Option Value}{name:Str}
def aFI(X:K.In s.heap)(I:aHZ s.heap x dx C mA)(hg:zEP K C name=true)
  (hf:zBR K (.ref C) name=some (some (.ref f)))(ht:zGz K (.ref f)=true)(hv:mA name=none)(h:Q (.ref f,[.ref x]) s):
  wpAny (model prog w) A (getMethod (.ref x) name pl) Q E s:=by
 obtain⟨od,J,hl⟩:=I.look;exact PySem.W.method_fn X J (zF1 hg).1 (zF1 hg).2 hf (beq_iff_eq.mp ht) (by show(zDj name od).map (·.isSome)=some false;rw[hl,hv];rfl) h
def make_map(X:K.In s.heap)(hm:PySem.W.makesIn K C=true)
  (hi:zBR K (.ref C) "__init__"=some (some (.ref f)))(hf:PySem.W.typeIn K (.ref f)=some (.type "function"))
  (h:zCM (model prog w) (A.under (.builtin "type.__call__" ⟨.ref C::vs,kw⟩)) (.call (.ref f) ⟨.ref (s.heap.objs.size+1)::vs,kw⟩) (PySem.W.InitBack (s.heap.objs.size+1) R)
   {s with heap:=(s.heap.push zBW).push (zBl C s.heap.objs.size)}):
  zCM (model prog w) A (.call (.ref C) ⟨vs,kw⟩) R s:=by
 obtain⟨hh,g,d,t,os⟩:=s;exact PySem.W.make_core (PySem.W.makes_of X hm) (zCn X hi) (λ self=>PySem.W.bind_fn X self hf) (.inl rfl) h
end
def aDY.none_of(r:aDY none o):o=none:=by
 cases o with
 |none=>rfl
 |some u=>exact(show False from r).elim
section
variable{P:zA2}{w:World}{H:Hp}{h:Heap}{a C dx:Addr}{fs:List (Str×V)}
def uE(hok:HOk P w H h)(e:H a=some (.ins C dx fs)):∃mA,aHZ h a dx C mA/\(∀f,aDY (fs.lookup f) (mA f))/\zHP mA (fs.map (·.1))/\fs.length<=1000/\H dx=some (.own a):=by
 obtain⟨d,z,ne,ob,mA,n,r,q⟩:=(show dD P w H h a (.ins C dx fs)from hok a _ e);exact⟨mA,⟨ob,n,ne⟩,r,q,z,d⟩
end
structure Cls(K:zAA)(C:Addr):Prop where
 pg:zEP K C Str.empty=true
 hd:PySem.W.hasDictIn K C=true
 po:PySem.W.plainOver K C=true
 sa:zBR K (.ref C) "__setattr__"=some (some (.builtin "object.__setattr__"))
def Cls.get{K:zAA}{C:Addr}(c:Cls K C)(f:Str):zEP K C f=true:=c.pg
def aJo(K:zAA)(C:Addr)(f:Str):Prop:=zBR K (.ref C) f=some none
structure Meth(K:zAA)(C:Addr)(m:Str)(f:Addr):Prop where
 at_:zBR K (.ref C) m=some (some (.ref f))
 fn:zGz K (.ref f)=true
 kp:zCb K (.ref f)=true
section
variable{X:Cx}{pins:List (Addr×Obj)}{Z:St}{H:Hp}{s:zAH}{a C dx:Addr}{fs:List (Str×V)}{A:zAm}{E:Value->zAH->Prop}
def aBn(I:Inv X pins Z H s)(e:H a=some (.ins C dx fs))(c:Cls X.K C)(k:Meth X.K C m g)(l:fs.lookup m=none)
  (h:Q (.ref g,[.ref a]) s):wpAny (model X.prog X.w) A (getMethod (.ref a) m pl) Q E s:=by
 obtain⟨mA,O,r,_,_,_⟩:=uE I.hok e;have hn:mA m=none:=aDY.none_of (by rw[<-l];exact r m);exact aFI I.kIn O (c.get m) k.at_ k.fn hn h
def Inv.made(I:Inv X pins Z H s):Inv X pins Z (upd (upd H s.heap.objs.size (.own (s.heap.objs.size+1))) (s.heap.objs.size+1) (.ins C s.heap.objs.size []))
  {s with heap:=(s.heap.push zBW).push (zBl C s.heap.objs.size)}:=by
 have e1:(s.heap.push zBW).get? s.heap.objs.size=some zBW:=zAX s.heap rfl;have e2:((s.heap.push zBW).push (zBl C s.heap.objs.size)).get? (s.heap.objs.size+1)=some (zBl C s.heap.objs.size):=by
  have:=zAX (s.heap.push zBW) (o:=zBl C s.heap.objs.size) rfl
  rwa [zCY]at this
 have e3:(s.heap.push zBW).Ns s.heap.objs.size (λ _=>none):=⟨zBW,#[],_,e1,rfl,(λ e he=>absurd he (by simp)),λ _=>rfl⟩;have I1:=I.laid (a:=s.heap.objs.size) (o:=.own (s.heap.objs.size+1)) (h':=s.heap.push zBW) (t':=s.toks) (λ b u q=>zAE _ q) (zAO _) ⟨_,e1⟩;refine I1.laid (a:=s.heap.objs.size+1) (o:=.ins C s.heap.objs.size []) (t':=s.toks) (λ b u q=>zAE _ q) (zFq (zCY _ _)) ?_;have ne:s.heap.objs.size≠s.heap.objs.size+1:=zA6 (zBz _);refine⟨by rw[aj ne,aY],zAc _,ne,e2,λ _=>none,(Heap.Ns1.of_empty e3).at λ o q=>zAE _ q,λ _=>zDV,λ y hy=>absurd rfl hy⟩
end
def tFld(K:zAA)(ta:TE)(f:Str):TE:=λ Z H Q=>ta Z H λ x H1=>∃a C dx fs v,x= .ref a/\H1 a=some (.ins C dx fs)/\Cls K C/\aJo K C f/\fs.lookup f=some v/\Q v H1
section
variable{X:Cx}{e:Expr}{f:Str}{pos:Pos}
def methcall_of(he:PE X e te)(I:Inv X pins Z H s)
  (h:te Z H λ x H1=>∃a C dx fs g,x= .ref a/\H1 a=some (.ins C dx fs)/\Cls X.K C/\Meth X.K C m g/\fs.lookup m=none/\
   ∀s1,Inv X pins Z H1 s1->wpAny (model X.prog X.w) X.A (callWith pos (.ref g) [.ref a] (zCF pos (zAU args X.env)) (zEK pos (zCx [] X.env))) Q X.xe s1)
  (ht:eval (.Call (.Attribute e m apos) args [] pos) X.env=(do
   let ov <-eval e X.env
   zED apos.atName
   let(f,first) <-zCj [ov] (getMethod ov m pl)
   callWith pos f first (zCF pos (zAU args X.env)) (zEK pos (zCx [] X.env)))):
  wpAny (model X.prog X.w) X.A (eval (.Call (.Attribute e m apos) args [] pos) X.env) Q X.xe s:=by
 refine PySem.W.methodCall_KW (pl:=pl) (thn (he pins s Z H _ I h) λ u s1 ⟨x,H1,I1,rx,a,C,dx,fs,g,ex,ea,c,k,l,q⟩=>?_) ht;subst ex;obtain rfl:u=zBv a:=rx;exact aBn I1 ea c k l (q s1 I1)
end
section
variable{X:Cx}{pins:List (Addr×Obj)}{Z:St}{H:Hp}{s:zAH}{A:zAm}{E:Value->zAH->Prop}{Q:Value->zAH->Prop}{c:Value}{b:Bool}
inductive sG(K:zAA)(H:Hp):V->Value->Prop where
 |non:sG K H .non (.type "NoneType")
 |bl (x:Bool):sG K H (.bl x) (.type "bool")
 |int (i:Int):sG K H (.int i) (.type "int")
 |str (x:Str):sG K H (.str x) (.type "str")
 |flt (x:UInt64):sG K H (.flt x) (.type "float")
 |lst {a:Addr} {xs:List V} (e:H a=some (.lst xs)):sG K H (.ref a) (.type "list")
 |frz {a:Addr} {o:Obj} {xs:List V} (e:H a=some (.frz o (.lst xs))):sG K H (.ref a) (.type "list")
 |tup {a:Addr} {xs:List V} (e:H a=some (.tup xs)):sG K H (.ref a) (.type "tuple")
 |dK {a:Addr} {kvs:List (Key×V)} (e:H a=some (.dK kvs)):sG K H (.ref a) (.type "dict")
 |dT {a:Addr} {kvs:List (List Key×V)} (e:H a=some (.dT kvs)):sG K H (.ref a) (.type "dict")
 |ins {a C dx:Addr} {fs:List (Str×V)} (e:H a=some (.ins C dx fs)) (cl:Cls K C) (ha:zBR K (.ref C) "__class__"=some (some (.builtin "object.__class__")))
   (hn:PySem.W.specialIn K (.builtin "object.__class__") "__get__"=some (some (.builtin "getset_descriptor.__get__"))) (htk:PySem.W.takesIn K (.builtin "object.__class__")=some true)
   (hm:PySem.W.mroIn K C (.type "object")=some true):sG K H (.ref a) (.ref C)
def aDF(I:Inv X pins Z H s)(rx:RelV x u)(ty:sG X.K H x t)(e:zCc X.K t c=some b)(h:∀tk,Q (.bool b) {s with toks:=tk}):
  wpAny (model X.prog X.w) A (call (.builtin "isinstance") [u,c]) Q E s:=by
 cases ty with
 |non=>cases (show u=zBZ from rx);exact zAz PySem.W.kitx_none I.kIn zDV e (λ z=>nomatch z) h
 |bl y=>cases (show u=zDm y from rx);exact zAz PySem.W.kitx_bool I.kIn zDV e (λ z=>nomatch z) h
 |int i=>obtain⟨t,q⟩:=(show∃t,u=zCE i t from rx);cases q;exact zAz PySem.W.kitx_int I.kIn zDV e (λ z=>nomatch z) h
 |str y=>obtain⟨t,q⟩:=(show∃t,u=zGp y t from rx);cases q;exact zAz PySem.W.kitx_str I.kIn zDV e (λ z=>nomatch z) h
 |flt y=>obtain⟨t,q⟩:=(show∃t,u=zH5 y t from rx);cases q;exact zAz PySem.W.kitx_float I.kIn zDV e (λ z=>nomatch z) h
 |@lst a xs ea=>
  cases (show u=zBv a from rx);obtain⟨_,_,n,_,h1⟩:=(show dD X.prog X.w H s.heap a (.lst xs)from I.hok a _ ea);exact zAz zFt I.kIn ⟨_,h1,rfl⟩ e (λ z=>nomatch z) h
 |@frz a ob xs ea=>
  cases (show u=zBv a from rx);obtain⟨_,_,_,n,_,h1⟩:=(show dD X.prog X.w H s.heap a (.frz ob (.lst xs))from I.hok a _ ea);exact zAz zFt I.kIn ⟨_,h1,rfl⟩ e (λ z=>nomatch z) h
 |@tup a xs ea=>
  cases (show u=zBv a from rx);obtain⟨_,_,_,p⟩:=(show dD X.prog X.w H s.heap a (.tup xs)from I.hok a _ ea);obtain⟨o,h1,h2,_⟩:=p;exact zAz zFg I.kIn ⟨o,h1,h2⟩ e (λ z=>nomatch z) h
 |@dK a kvs ea=>
  cases (show u=zBv a from rx);obtain⟨_,_,vs,_,p⟩:=(show dD X.prog X.w H s.heap a (.dK kvs)from I.hok a _ ea);obtain⟨o,es,ep,h1,h2,_⟩:=p;exact zAz zDy I.kIn ⟨o,h1,h2.1⟩ e (λ z=>nomatch z) h
 |@dT a kvs ea=>
  cases (show u=zBv a from rx);obtain⟨_,_,xs,_,o,es,ep,h1,h2,_⟩:=(show dD X.prog X.w H s.heap a (.dT kvs)from I.hok a _ ea);exact zAz zDy I.kIn ⟨o,h1,h2.1⟩ e (λ z=>nomatch z) h
 |@ins a C dx fs ea cl ha hn htk hm=>
  cases (show u=zBv a from rx);obtain⟨mA,O,_⟩:=uE I.hok ea;obtain⟨od,J,_⟩:=O.look;exact zAz (PySem.W.kitx_own (cl.get _) cl.hd ha hn htk hm) I.kIn J e (λ z=>nomatch z) h
end
structure jG(k:Nat)(A:zAm):Prop where
 hd:A.handled=none
 dp:A.depth+3*k+5<zFw
 un:A.units+16*k+200<cLine
def jG.mono(r:jG k A)(h:j<=k):jG j A:=⟨r.hd,by have:=r.dp;lia,by have:=r.un;lia⟩
theorem jG.deeper(r:jG (k+1) A)(env:Env):jG k (A.deeper env):=
 ⟨r.hd,by have:=r.dp;show A.depth+1+3*k+5<_;lia,by have:=r.un;show A.units+3+16*k+200<_;lia⟩
theorem jG.depth(r:jG k A):A.depth<zFw:=by have:=r.dp;lia
theorem jG.units(r:jG k A):A.units+64<cLine:=by have:=r.un;lia
def jG.units0(r:jG k A):A.units<cLine:=by have:=r.un;lia
def uN:TA:=λ _ H Q=>Q [] H
def lN(ta:TE)(tr:TA):TA:=λ Z H Q=>ta Z H λ x H1=>tr Z H1 λ xs H2=>Q (x::xs) H2
section
variable{X:Cx}{e:Expr}{es:List Expr}{te:TE}{t:TA}{pos:Pos}
def jc:PA X [] uN:=λ _ _ _ _ H Q I h=>Calls.spliced_nil ⟨[],H,I,.nil,h⟩
def eE(ha:PE X e te)(hr:PA X es t)(hs:zAU (e::es) X.env=(false,eval e X.env)::zAU es X.env:=by rfl):PA X (e::es) (lN te t):=by
 intro pos pins s Z H Q I h;rw[hs];show wpAny _ _ (spliced ((false,eval e X.env)::zCF pos (zAU es X.env))) _ _ s;refine Calls.spliced_cons (thn (ha pins s Z H _ I h) λ u s1 ⟨x,H1,I1,r1,q1⟩=>?_);exact thn (hr pos pins s1 Z H1 _ I1 q1) λ us s2 ⟨xs,H2,I2,r2,q2⟩=>⟨x::xs,H2,I2,.cons r1 r2,q2⟩
def aKp(t:TA):TE:=λ Z H Q=>t Z H λ xs H1=>xs.length<=zAP/\∀p,H1 p=none->Q (.ref p) (upd H1 p (.tup xs))
def aKt(t:TA):TE:=λ Z H Q=>t Z H λ xs H1=>xs.length<=zAP/\∀p,H1 p=none->Q (.ref p) (upd H1 p (.lst xs))
def aIc{x1}(h:PA X es t):PE X (.Tuple es x1 pos) (aKp t):=by
 intro pins s Z H Q I hq;refine wpAny_Tuple_spliced (thn (h pos pins s Z H _ I hq) λ us s1 ⟨xs,H1,I1,r,z,q⟩=>⟨by rw[<-r.length];exact z,?_⟩);have hf:H1 s1.heap.objs.size=none:=I1.hok.fresh (zAO _);refine⟨.ref s1.heap.objs.size,upd H1 s1.heap.objs.size (.tup xs),I1.laid (t':=s1.toks) (λ b u e=>zAE _ e) (zAO _) ?_,rfl,q _ hf⟩;exact⟨⟨z,NoD.push _⟩,us,r,⟨_,zAX _ rfl,rfl,_,rfl⟩⟩
def aIi(h:PA X es t):PE X (.List es pos) (aKt t):=by
 intro pins s Z H Q I hq;refine wpAny_List_spliced (thn (h pos pins s Z H _ I hq) λ us s1 ⟨xs,H1,I1,r,z,q⟩=>⟨by rw[<-r.length];exact z,?_⟩);have hf:H1 s1.heap.objs.size=none:=I1.hok.fresh (zAO _);refine⟨.ref s1.heap.objs.size,upd H1 s1.heap.objs.size (.lst xs),I1.laid (t':=s1.toks) (λ b u e=>zAE _ e) (zAO _) ?_,rfl,q _ hf⟩;exact⟨z,us,0,r,zAX _ rfl⟩
end
abbrev Sp:=List V->Hp->VK->XK->Prop
abbrev CXT:=List Env->Hp->zAH->XK->Value->zAH->Prop
structure aFg(P:zA2)(w:World)(K:zAA)(mg:Str->Option Value)(base:Heap)(A:zAm)(outer:List Env)(s:zAH)(H:Hp):Prop where
 frames:A.frames=some outer
 mod:Mod K mg base
 bs:∀b o,base.get? b=some o->s.heap.get? b=some o/\H b=none
 bsz:base.objs.size<=s.heap.objs.size
 funs:s.heap.FunFrames base outer
 frf:∀b∈frs outer,H b=none
 hok:HOk P w H s.heap
 bare:zDv s.gens
def CE(outer:List Env)(P:zA2)(w:World)(H:Hp)(s:zAH)(Q:VK)(u:Value)(s':zAH):Prop:=
 ∃v H',s'.os=s.os/\zDv s'.gens/\Un (frs outer) [] H H' s.heap s'.heap/\HOk P w H' s'.heap/\RelV v u/\Q v H'
def CR(CX:CXT)(outer:List Env)(P:zA2)(w:World)(H:Hp)(s:zAH)(Q:VK)(E:XK)(r:zF2)(s':zAH):Prop:=
 match r with
 | .ok (.ret u)=>CE outer P w H s Q u s'
 | .ok _=>False
 | .error e=>CX outer H s E e s'
structure bz(P:zA2)(w:World)(K:zAA)(mg:Str->Option Value)(base:Heap)(CX:CXT)(k:Nat)(f:Addr)(fd:zA8)(ps:List Str)(sp:Sp):Prop where
 len:∀vs H Q E,sp vs H Q E->vs.length=ps.length
 run:∀(A:zAm) (outer:List Env) (s:zAH) (H:Hp) (args:Args) (us:List Value) (vs:List V) (Q:VK) (E:XK),jG k A->aFg P w K mg base A outer s H->zEn s fd args (ps.zip us)->Vals vs us->sp vs H Q E->
  zCM (model P w) A (.call (.ref f) args) (CR CX outer P w H s Q E) s
def bz.imp{P:zA2}{w:World}{K:zAA}{mg:Str->Option Value}{base:Heap}{CX:CXT}{k:Nat}{f:Addr}{fd:zA8}{ps:List Str}{sp sp':Sp}(F:bz P w K mg base CX k f fd ps sp)
  (h:∀vs H Q E,sp' vs H Q E->sp vs H Q E):bz P w K mg base CX k f fd ps sp':=
 ⟨λ vs H Q E q=>F.len vs H Q E (h _ _ _ _ q),λ A outer s H args us vs Q E hr he hb hv hs=>F.run A outer s H args us vs Q E hr he hb hv (h _ _ _ _ hs)⟩
section
variable{X:Cx}{pins:List (Addr×Obj)}{Z:St}{H:Hp}{s s':zAH}
def Inv.env0(I:Inv X pins Z H s):aFg X.prog X.w X.K X.mg X.base X.A X.stack s H:=
 ⟨I.ok.frames,I.ok.mod,I.bs,zA5 I.ok.bsz I.sz,I.stack,I.stkFree,I.hok,I.bare⟩
def Inv.after(I:Inv X pins Z H s)(h:CE X.stack X.prog X.w H s Q u s'):EP X pins Z Q u s':=by
 obtain⟨v,H',os,bare,un,hok,r,q⟩:=h;obtain⟨hh,g,d,t,os'⟩:=s';obtain rfl:os'=s.os:=os;exact⟨v,H',I.call (h':=hh) (g':=g) (d':=d) (t':=t) (ch:=[]) un hok bare (λ b z=>absurd z (by simp)),r,q⟩
end
def aH9(sp:Sp)(dvs:List V)(E:XK)(t:TA):TE:=λ Z H Q=>t Z H λ vs H1=>sp (vs++dvs) H1 Q E
def tMeth(C:Addr)(m:Str)(sp:Sp)(dvs:List V)(E:XK)(ta:TE)(t:TA):TE:=λ Z H Q=>ta Z H λ x H1=>∃a dx fs,x= .ref a/\H1 a=some (.ins C dx fs)/\fs.lookup m=none/\
 t Z H1 λ vs H2=>sp (x::(vs++dvs)) H2 Q E
def tMake(C:Addr)(sp:Sp)(dvs:List V)(E:XK)(t:TA):TE:=λ Z H Q=>t Z H λ vs H1=>∀x dx,H1 x=none->H1 dx=none->dx≠x->
 sp (.ref x::(vs++dvs)) (upd (upd H1 dx (.own x)) x (.ins C dx [])) (λ v H2=>v= .non/\Q (.ref x) H2) E
def Binds(K:zAA)(fd:zA8)(ps:List Str)(ds:List Value):Prop:=
 ∀(s:zAH) (us:List Value),K.In s.heap->(us++ds).length=ps.length->zEn s fd ⟨us,[]⟩ (ps.zip (us++ds))
def Binds.all{K:zAA}{fd:zA8}{ps:List Str}(h:∀us:List Value,us.length=ps.length->bindArgs fd ⟨us,[]⟩=pure (ps.zip us)):Binds K fd ps []:=λ s us _ hl=>by
 rw[zAg]at hl ⊢;exact .of_eq (h us hl)
def z6(CX:CXT)(X:Cx)(E:XK):Prop:=∀(pins:List (Addr×Obj)) (Z:St) (H:Hp) (s:zAH) (e:Value) (s':zAH),Inv X pins Z H s->CX X.stack H s E e s'->X.xe e s'
section
variable{X:Cx}{CX:CXT}{k:Nat}{f:Addr}{fd:zA8}{ps:List Str}{sp:Sp}{dvs:List V}{ds:List Value}{E:XK}{x:Str}{p pos:Pos}{e:Expr}{es:List Expr}{t:TA}
def aIU(F:bz X.prog X.w X.K X.mg X.base CX k f fd ps sp)(hr:jG k X.A)(hb:Binds X.K fd ps ds)(hd:Vals dvs ds)(hx:z6 CX X E)
  (I:Inv X pins Z H s)(r:Vals vs us)(h:sp (vs++dvs) H Q E):wpAny (model X.prog X.w) X.A (call (.ref f) us) (EP X pins Z Q) X.xe s:=by
 have r2:Vals (vs++dvs) (us++ds):=r.append hd;have hl:(us++ds).length=ps.length:=by rw[<-r2.length];exact F.len _ _ _ _ h
 refine wpAny_call (zEA (F.run X.A X.stack s H ⟨us,[]⟩ (us++ds) (vs++dvs) Q E hr I.env0 (hb s us I.kIn hl) r2 h) λ r s' hq=>?_);cases r with
 |error e=>exact hx pins Z H s e s' I hq
 |ok fl=>
  cases fl with
  |ret u=>exact I.after hq
  |next=>exact zAJ hq
  |brk=>exact zAJ hq
  |cont=>exact zAJ hq
def aG6(F:bz X.prog X.w X.K X.mg X.base CX k f fd ps sp)(hr:jG k X.A)(hg:Gl X x)(hm:X.mg x=some (.ref f))(hk:zCb X.K (.ref f)=true)(hb:Binds X.K fd ps ds)(hd:Vals dvs ds)(hx:z6 CX X E)
  (ha:PA X (e::es) t)(hdb:Nd x:=by decide)(he:zAU (e::es) X.env=(false,eval e X.env)::zAU es X.env:=by rfl)(hpl:(zCF pos (zAU es X.env)).any (·.1)=false:=by rfl):
  PE X (.Call (.Name x p) (e::es) [] pos) (aH9 sp dvs E t):=by
 intro pins s Z H Q I h;refine zD5 (yt I hg hm ?_ hdb);refine PySem.W.callWith_K (h₀:=X.base) I.ok.mod.kin hk (thn (ha pos pins s Z H _ I h) λ us s1 ⟨vs,H1,I1,r,q⟩=>⟨I1.kIn,?_⟩) he hpl;exact aIU F hr hb hd hx I1 r q
end
structure aW(N P:List Str)(sc:Scope):Prop where
 kind:sc.kind= .function
 co:sc.isCoroutine=false
 gen:sc.isGenerator=false
 nd:N.Nodup
 pre:N.take P.length=P
 par:∀x∈P,sc.names.lookup x=some .local\/sc.names.lookup x=some .cell
 nofree:∀y∈sc.names,y.2≠.free
theorem xu{zDq:Str->Option zDI}{x:Str}:∀{binds:List (Str×Value)} {m:Str->Option Value},(∀v,(x,v)∉binds)->bindL zDq binds m x=m x
 |[],_,_=>rfl
 |(n,v)::r,m,h=>by
  unfold bindL;rw[xu λ w hw=>h w (zAM _ hw)];split
  .have:x≠n:=by rintro rfl;exact h v zAN
   simp[this]
  .rfl
theorem yC{zDq:Str->Option zDI}{x:Str}:∀{binds:List (Str×Value)} {m:Str->Option Value},(∀v,(x,v)∉binds)->bindC zDq binds m x=m x
 |[],_,_=>rfl
 |(n,v)::r,m,h=>by
  unfold bindC;rw[yC λ w hw=>h w (zAM _ hw)];split
  .rfl
  .have:x≠n:=by rintro rfl;exact h v zAN
   simp[this]
theorem xx{zDq:Str->Option zDI}{x:Str}{v:Value}:∀{P:List Str} {vs:List Value} {i:Nat} {m:Str->Option Value},P.Nodup->P[i]? =some x->vs[i]? =some v->zDq x=some .local->
  bindL zDq (P.zip vs) m x=some v
 |[],_,_,_,_,h,_,_=>by simp at h
 |_::_,[],_,_,_,_,h,_=>by simp at h
 |p::P,w::vs,0,m,nd,h1,h2,hk=>by
  simp at h1 h2;subst h1;subst h2;show bindL zDq ((p,w)::P.zip vs) m p=_;unfold bindL;rw[xu λ v hv=>(zAl.mp nd).1 (zDi hv).1,if_pos hk];simp
 |p::P,w::vs,i+1,m,nd,h1,h2,hk=>by
  show bindL zDq ((p,w)::P.zip vs) m x=_;unfold bindL;exact xx (i:=i) (zAl.mp nd).2 (by simpa using h1) (by simpa using h2) hk
theorem yD{zDq:Str->Option zDI}{x:Str}{v:Value}:∀{P:List Str} {vs:List Value} {i:Nat} {m:Str->Option Value},P.Nodup->P[i]? =some x->vs[i]? =some v->zDq x≠some .local->
  bindC zDq (P.zip vs) m x=some v
 |[],_,_,_,_,h,_,_=>by simp at h
 |_::_,[],_,_,_,_,h,_=>by simp at h
 |p::P,w::vs,0,m,nd,h1,h2,hk=>by
  simp at h1 h2;subst h1;subst h2;show bindC zDq ((p,w)::P.zip vs) m p=_;unfold bindC;rw[yC λ v hv=>(zAl.mp nd).1 (zDi hv).1,if_neg hk];simp
 |p::P,w::vs,i+1,m,nd,h1,h2,hk=>by
  show bindC zDq ((p,w)::P.zip vs) m x=_;unfold bindC;exact yD (i:=i) (zAl.mp nd).2 (by simpa using h1) (by simpa using h2) hk
def start(N:List Str)(vs:List V):St:=vs.map some++zAI (N.length-vs.length) none
def aAk(CX:CXT)(P:zA2)(w:World)(K:zAA)(mg:Str->Option Value)(base:Heap)(N:List Str)(qual:Str)(scope:Scope)(f:Addr)(cd:Value)(A:zAm)(outer:List Env)(s:zAH)(H:Hp)(E:XK):Cx where
 prog:=P
 w:=w
 K:=K
 mg:=mg
 base:=base
 A:=A.deeper (zDp qual scope s.heap.objs.size f cd)
 N:=N
 z0:=s
 zS:=H
 env:=zDp qual scope s.heap.objs.size f cd
 outer:=outer
 stack:=zDp qual scope s.heap.objs.size f cd::outer
 ex:=[]
 calm:=true
 fn:=λ _=>true
 pn:=[]
 xe:=λ e s'=>wpAny (model P w) (A.deeper (zDp qual scope s.heap.objs.size f cd)) (leaving (zDp qual scope s.heap.objs.size f cd) e) (λ _ s''=>CX outer H s E e s'') (λ e' s''=>CX outer H s E e' s'') s'
def qU{sc:Scope}{n:Nat}{x:Str}(h:sc.names.lookup x=some .cell):∃c,(zDP n sc.names []).lookup x=some c:=by
 have q:=zFF sc.names n [] (.inl h);exact Option.isSome_iff_exists.mp q
def aDG{CX:CXT}{P:zA2}{w:World}{K:zAA}{mg:Str->Option Value}{base:Heap}{N ps:List Str}{qual:Str}{scope:Scope}{f:Addr}{cd:Value}{A:zAm}{outer:List Env}{s s1:zAH}{H:Hp}{E:XK}{us:List Value}{vs:List V}
  (S:aW N ps scope)(hd:A.handled=none)(e0:aFg P w K mg base A outer s H)(hl:vs.length=ps.length)(r:Vals vs us)
  (x:InCallC s s.heap.objs.size (bindL (zDp qual scope s.heap.objs.size f cd).kindOf (ps.zip us) λ _=>none) (zDP (s.heap.objs.size+1) scope.names []) (bindC (zDp qual scope s.heap.objs.size f cd).kindOf (ps.zip us) λ _=>none) s1):
  Inv (aAk CX P w K mg base N qual scope f cd A outer s H E) [] (start N vs) H s1:=by
 have hpl:ps.length<=N.length:=by have:=congrArg List.length S.pre;rw[zB7]at this;lia
 obtain⟨h1,tk,rfl,hk⟩:=x.done;have noA:∀b:Addr,b∉(aAk CX P w K mg base N qual scope f cd A outer s H E).ex:=λ b z=>absurd (show b∈([]:List Addr)from z) (by simp)
 refine⟨⟨e0.mod,S.kind,rfl,rfl,zAO _,λ y z c h1 h2=>?_,λ y hy=>?_,λ y c _ h=>?_,λ _=>hd,Around.frames_deeper e0.frames,.inr ⟨rfl,rfl⟩,λ b z=>absurd z (noA b),e0.bs,e0.bsz,λ b _ _=>noA b,λ b z=>absurd z (noA b),e0.funs,e0.frf⟩,
  rfl,e0.bare,Un.kept hk,⟨_,x.toInCall.ns,λ i y v h1 h2 h3=>?_⟩,λ y c h=>⟨_,x.cell y c h⟩,e0.hok.fresh (zAO _),λ y c h=>?_,λ p hp=>absurd (show p∈([]:List (Addr×Obj))from hp) (by simp),e0.hok.kept hk,?_,λ p hp=>absurd (show p∈([]:List (Addr×Obj))from hp) (by simp)⟩
 .exact name_of_addr x.apart (zAk h1) (zAk h2)
 .have hy:scope.names.lookup y=some .cell\/scope.names.lookup y=some .free:=hy
  rcases hy with hy|hy
  .exact qU hy
  .exact absurd rfl (S.nofree _ (zAk hy))
 .exact zBP (x.above y c (zAk h))
 .have hi:i<vs.length:=by
   unfold start at h2;by_cases hi:i<vs.length
   .exact hi
   .rw[zBe (by simpa using hi)]at h2
    rw[zBp]at h2;split at h2<;>cases h2
  have ha:vs[i]? =some v:=by
   unfold start at h2;rw[zBj (by simpa using hi),zAK]at h2;cases e:vs[i]? with
   |none=>rw[e]at h2;cases h2
   |some a=>rw[e]at h2;cases h2;rfl
  obtain⟨u,hu,rv⟩:=r.get ha;have hp:ps[i]? =some y:=by
   rw[<-S.pre,zFI (by lia)];exact h1
  have ndP:ps.Nodup:=by rw[<-S.pre];exact S.nd.sublist (List.take_sublist _ _)
  refine⟨u,rv,?_⟩;rcases S.par y (zAh hp)with k|k
  .exact .inl ⟨k,xx ndP hp hu k⟩
  .obtain⟨c,e⟩:=qU (n:=s.heap.objs.size+1) k
   refine .inr ⟨.inl k,c,e,?_⟩;have q:=x.cell y c e;rw[yD ndP hp hu (by show scope.names.lookup y≠_;rw[k];decide)]at q;exact q
 .exact e0.hok.fresh (zBP (x.above y c (zAk h)))
 .unfold start
  show _=N.length;rw[zAb,zAD,zBF];lia
def aK8{CX:CXT}{P:zA2}{w:World}{K:zAA}{mg:Str->Option Value}{base:Heap}{k:Nat}{f:Addr}{name qual:Str}{params:zG9}{body:List Stmt}{scope:Scope}{dV kV doc pm cdv ct oc:Value}{an od:Option Addr}
  {osl:Array (Option Value)}{N ps:List Str}{sp:Sp}(lk:K.lookup f=some ⟨oc,od,.func (zBn name qual params body scope dV kV doc pm an cdv ct),osl⟩)(hcd:zDG K cdv qual=true)(S:aW N ps scope)
  (len:∀vs H Q E,sp vs H Q E->vs.length=ps.length)
  (hbody:∀(A:zAm) (outer:List Env) (s:zAH) (H:Hp) (vs:List V) (Q:VK) (E:XK),jG k (A.deeper (zDp qual scope s.heap.objs.size f cdv))->sp vs H Q E->
   ∃t,PSs (aAk CX P w K mg base N qual scope f cdv A outer s H E) body t/\t {nx:=λ _ H'=>Q .non H',rt:=Q} (start N vs) H):
  bz P w K mg base CX (k+1) f (zBn name qual params body scope dV kV doc pm an cdv ct) ps sp:=by
 refine⟨len,λ A outer s H args us vs Q E hr e0 hb r hsp=>?_⟩;have hl:=len _ _ _ _ hsp;have KX:K.In s.heap:=e0.mod.kin.keeps λ b o e=>(e0.bs b o e).1
 have lim:s.heap.NoLimit:=e0.mod.nolimit.keeps λ b o e=>(e0.bs b o e).1
 have hkind:∀y∈ps.zip us,scope.names.lookup y.1=some .local\/(scope.names.lookup y.1=some .cell/\((zDP (s.heap.objs.size+1) scope.names []).lookup y.1).isSome=true):=λ⟨n,v⟩ hy=>by
  rcases S.par n (zDi hy).1 with q|q
  .exact .inl q
  .exact .inr ⟨q,zFF _ _ _ (.inl q)⟩
 refine codeAny_call_function hr.depth (KX _ _ lk) rfl S.co S.gen rfl (PySem.W.codeRec_of KX hcd) (hb _ _ _ _ ?_);refine wpAny_newFunctionEnv_cells S.kind hkind λ env he s1 x=>?_
 subst he;refine⟨lim.keeps x.toInCall.keep,codeAny_func ?_⟩;obtain⟨t,ht,hq⟩:=hbody A outer s H vs Q E (hr.deeper _) hsp;have I:Inv (aAk CX P w K mg base N qual scope f cdv A outer s H E) [] (start N vs) H s1:=aDG S hr.hd e0 hl r x;refine zBN (ht [] s1 (start N vs) H _ I hq) (λ fl s' hs=>?_) λ e s' hs=>hs
 have fin:∀{Z':St} {H':Hp} {v:V} {u:Value},Inv (aAk CX P w K mg base N qual scope f cdv A outer s H E) [] Z' H' s'->RelV v u->Q v H'->CE outer P w H s Q u s':=
  λ{Z' H' v u} J rv q=>⟨v,H',J.os,J.bare,J.base,J.hok,rv,q⟩
 cases fl with
 |ret u=>
  obtain⟨v,Z',H',J,rv,q⟩:=hs;exact fin J rv q
 |next=>
  obtain⟨Z',H',J,q⟩:=hs;exact fin (v:=V.non) (u:=zBZ) J rfl q
 |brk=>
  obtain⟨_,_,_,q⟩:=hs;exact zAJ q
 |cont=>
  obtain⟨_,_,_,q⟩:=hs;exact zAJ q
section
variable{X:Cx}{x:Str}{p pos:Pos}{e:Expr}{es:List Expr}{t:TA}{id T:String}{r:List V->Hp->VK->Prop}
def tCB(r:List V->Hp->VK->Prop)(t:TA):TE:=λ Z H Q=>t Z H λ vs H1=>r vs H1 Q
def jo(hc:dI X (.builtin id) r)(hg:Gl X x)(hm:X.mg x=none)(hv:zAo x=some (.builtin id))(ha:PA X (e::es) t)(hn:x≠"__name__":=by decide)(hdb:Nd x:=by decide)
  (he:zAU (e::es) X.env=(false,eval e X.env)::zAU es X.env:=by rfl)(hpl:(zCF pos (zAU es X.env)).any (·.1)=false:=by rfl):PE X (.Call (.Name x p) (e::es) [] pos) (tCB r t):=by
 intro pins s Z H Q I h;refine zD5 (rO I hg hm hv ?_ hn hdb);exact PyProof.Rows.callWith_builtin1 (thn (ha pos pins s Z H _ I h) λ us s1 ⟨vs,H1,I1,r1,q1⟩=>hc pins s1 Z H1 vs us Q I1 r1 q1) he hpl
def aCs(hc:dI X (.type T) r)(hg:Gl X x)(hm:X.mg x=none)(hv:zAo x=some (.type T))(ha:PA X (e::es) t)(hn:x≠"__name__":=by decide)(hdb:Nd x:=by decide)
  (he:zAU (e::es) X.env=(false,eval e X.env)::zAU es X.env:=by rfl)(hpl:(zCF pos (zAU es X.env)).any (·.1)=false:=by rfl):PE X (.Call (.Name x p) (e::es) [] pos) (tCB r t):=by
 intro pins s Z H Q I h;refine zD5 (rO I hg hm hv ?_ hn hdb);exact zBr (thn (ha pos pins s Z H _ I h) λ us s1 ⟨vs,H1,I1,r1,q1⟩=>hc pins s1 Z H1 vs us Q I1 r1 q1) he hpl
end
end L2
namespace HT
open PySem PyProof.Rows
def lexLt:List Int->List Int->Bool
 |[],[]=>false
 |[],_::_=>true
 |_::_,[]=>false
 |x::xs,y::ys=>if x=y then lexLt xs ys else decide (x<y)
def il(x y:Int)(xs ys:List Int):lexLt (x::xs) (y::ys)=if x=y then lexLt xs ys else decide (x<y):=rfl
def wQ:lexLt [] []=false:=rfl
def vB(y:Int)(ys:List Int):lexLt [] (y::ys)=true:=rfl
def vC(x:Int)(xs:List Int):lexLt (x::xs) []=false:=rfl
def aAh(A:zAm)(s:zAH)(a:Int)(t:Tok)(c:Int)(u:Tok):∃e,zDk A s (.int a t) (.int c u) e/\(e=true↔a=c):=
 ⟨(a==c),zFM a t c u,by simp⟩
def aDy(A:zAm)(s:zAH)(a:Int)(t:Tok)(c:Int)(u:Tok)(prog:zA2)(w:World)(E:Value->zAH->Prop)(Q:Value->zAH->Prop)(h:Q (.bool (decide (a<c))) s):
  wpAny (model prog w) A (richCompare .Lt (.int a t) (.int c u)) Q E s:=
 (zEi h:wpAny (model prog w) A (zAr .Lt (.int a t) (.int c u)) Q E s)
section
open PySem.SeqAt
open PySem.AutoSeq1(wpAny_loadPart')
open PySem.MeetsSeq PySem.MeetsSeq2 PySem.MeetsSeq3
def wB(l b:Addr)(items items2:Array Value)(n n2:Nat)(dd dd2:Option Addr)(sl sl2:Array (Option Value))(ns ms:List Int)(hi:zBH items.toList ns)(hj:zBH items2.toList ms):
  Meets (zDw.«tuple.__lt__» ⟨[.ref l,.ref b],[]⟩)
   (λ _ R s=>s.heap.get? l=some {cls:=.type "tuple",dict:=dd,data:=.seq items n,slots:=sl}/\s.heap.get? b=some {cls:=.type "tuple",dict:=dd2,data:=.seq items2 n2,slots:=sl2}/\
    R (.ok (.ret (.bool (lexLt ns ms)))) s):=
 .of_wp λ prog w A R s h=>by
  obtain⟨hp,g,d,tk,os⟩:=s;obtain⟨hl,hb,h⟩:=h;have f2:=zE7;have z1:items.size=ns.length:=by rw[<-hi.length];simp
  have z2:items2.size=ms.length:=by rw[<-hj.length];simp
  wp_walk using zEF hl,zEF hb,wpAny_forIn_list _ (λ rest b s'=>b.1=none/\s'=⟨hp,g,d,tk,os⟩/\∃(vs ws:List Value) (ns' ms':List Int),rest=vs.zip ws/\
   zBH vs ns'/\zBH ws ms'/\ns'.length+items2.size=ms'.length+items.size/\R (.ok (.ret (.bool (lexLt ns' ms')))) ⟨hp,g,d,tk,os⟩) _
  case turn=>
   rintro⟨y,x⟩ rest b s' ⟨hb',rfl,vs,ws,ns',ms',hz,hvi,hwi,hlen,hR⟩;cases hvi with
   |nil=>rw[zGZ]at hz;cases hz
   |cons a t hvi'=>
    cases hwi with
    |nil=>rw[zGJ]at hz;cases hz
    |cons c u hwi'=>
     rw[zBg]at hz;injection hz with hyx hrest
     injection hyx with hy hx
     subst hy hx;rw[il]at hR;simp only[zAf]at hlen;obtain⟨e,he,hiff⟩:=aAh A.in1 ⟨hp,g,d,tk,os⟩ a t c u;refine zAC (he prog w _ _ ?_);cases e with
     |true=>
      rw[if_pos (hiff.mp rfl)]at hR;wp_walk;exact⟨rfl,rfl,_,_,_,_,hrest,hvi',hwi',by lia,hR⟩
     |false=>
      rw[if_neg (λ q=>absurd (hiff.mpr q) zAY)]at hR;have hri:=aDy A.in1 ⟨hp,g,d,tk,os⟩ a t c u prog w;wp_walk using hri;exact⟨_,rfl,by simpa using hR⟩
  case fin=>
   rintro⟨b1,b2⟩ s' ⟨hb',rfl,vs,ws,ns',ms',hz,hvi,hwi,hlen,hR⟩;simp only at hb';subst hb';have hv:lexLt ns' ms'=decide (items.size<items2.size):=by
    cases hvi with
    |nil=>
     cases hwi with
     |nil=>
      simp only[zBm]at hlen;rw[wQ];exact(decide_eq_false (by lia)).symm
     |cons c u hw=>
      simp only[zBm,zAf]at hlen;rw[vB];exact(decide_eq_true (by lia)).symm
    |cons a t hv=>
     cases hwi with
     |nil=>
      simp only[zBm,zAf]at hlen;rw[vC];exact(decide_eq_false (by lia)).symm
     |cons c u hw=>
      rw[zBg]at hz;cases hz
   rw[hv]at hR;wp_walk;exact⟨_,rfl,by simpa[zDc]using hR⟩
  case h=>
   exact⟨rfl,rfl,items.toList,items2.toList,ns,ms,rfl,hi,hj,by lia,h⟩
end
section
variable{prog:zA2}{w:World}{A:zAm}{E:Value->zAH->Prop}{s:zAH}
def aBa(hl:IsTup s.heap l items)(hb:IsTup s.heap b items2)(hi:zBH items.toList ns)(hj:zBH items2.toList ms)
  (hu:A.units<cLine)(h:Q (.bool (lexLt ns ms)) s):wpAny (model prog w) A (zAr .Lt (.ref l) (.ref b)) Q E s:=by
 obtain⟨⟨cls,dd,data,sl⟩,ho,hc,n,hd⟩:=id hl;obtain⟨⟨cls2,dd2,data2,sl2⟩,ho2,hc2,n2,hd2⟩:=id hb;simp only at hc hd hc2 hd2;subst hc hd hc2 hd2;exact zG6 (op:=.Lt) ⟨_,ho,rfl⟩ ⟨_,ho2,rfl⟩ PySem.F.slot_tuple_lt PySem.F.entry_tuple_lt (PySem.F.args_tuple_lt_2 _ _) (wB l b items items2 n n2 dd dd2 sl sl2 ns ms hi hj)
  ⟨ho,ho2,show zDm (lexLt ns ms)≠zFj/\Q (.bool (lexLt ns ms)) s from⟨(λ x=>nomatch x),h⟩⟩ hu
def aHP(ht:IsTup s.heap t vs.toArray)(hb:IsTup s.heap b ws.toArray)(hv:vs≠[])
  (h1:ws=[]->Q (.ref t) s)(h2:ws≠[]->Q (.ref s.heap.objs.size) {s with heap:=s.heap.push {cls:=.type "tuple",data:=.seq (vs++ws).toArray}})
  (hsz:vs.length+ws.length<=zAP):wpAny (model prog w) A (zBs .Add (.ref t) (.ref b)) Q E s:=by
 obtain⟨⟨cls,dd,data,sl⟩,ho,hc,n,hd⟩:=id ht;obtain⟨⟨cls2,dd2,data2,sl2⟩,ho2,hc2,n2,hd2⟩:=id hb;simp only at hc hd hc2 hd2;subst hc hd hc2 hd2;have e:vs.toArray++ws.toArray=(vs++ws).toArray:=by simp
 by_cases hw:ws=[]
 .exact zGr ⟨_,ho,rfl⟩ ⟨_,ho2,rfl⟩ zFP zGQ zDY zDO (zDJ _ _)
   (tuple_addW1 t b vs.toArray ws.toArray n n2 dd dd2 sl sl2 (by simpa using hv) (by simp[hw])) ⟨ho,ho2,h1 hw⟩
 .refine zGr ⟨_,ho,rfl⟩ ⟨_,ho2,rfl⟩ zFP zGQ zDY zDO (zDJ _ _)
   (tuple_addW2 t b vs.toArray ws.toArray n n2 dd dd2 sl sl2 (by simpa using hv) (by simpa using hw) (by rw[zAG,zAG];exact hsz)) ⟨ho,ho2,?_⟩
  rw[e];exact h2 hw
def sIx(n d:Nat):Option Int->Nat
 |none=>d
 |some v=>if v<0 then(v+(n:Int)).toNat else min v.toNat n
def aIT(n d:Nat)(hd:d<=n)(o:Option Int):sIx n d o<=n:=by
 cases o with
 |none=>exact hd
 |some v=>
  show(if v<0 then(v+(n:Int)).toNat else min v.toNat n)<=n
  by_cases hv:v<0
  .rw[if_pos hv];lia
  .rw[if_neg hv];exact Nat.min_le_right _ _
def aC8(v:Int)(n d:Nat):(if v<0 then max (v+(n:Int)) 0 else min v (n:Int))=((sIx n d (some v):Nat):Int):=by
 show(if v<0 then max (v+(n:Int)) 0 else min v (n:Int))=(((if v<0 then(v+(n:Int)).toNat else min v.toNat n):Nat):Int)
 by_cases hv:v<0
 .simp only[if_pos hv];lia
 .simp only[if_neg hv];lia
def aBs(lo hi:Option Int)(n:Nat):zBT lo hi 1 (n:Int)=(((sIx n 0 lo:Nat):Int),((sIx n n hi:Nat):Int)):=by
 have h1:¬((1:Int)<0):=by lia
 unfold zBT;simp only[h1,if_false];refine zD3 ?_ ?_
 .cases lo with
  |none=>rfl
  |some v=>exact aC8 v n 0
 .cases hi with
  |none=>rfl
  |some v=>exact aC8 v n n
def aBY(i j:Nat):zAx (i:Int) (j:Int) 1=j-i:=by
 unfold zAx;have h1:(1:Int)>0:=by lia
 simp only[h1,if_true,Int.ediv_one];split<;>lia
def uU(p:zFD v o)(h:Q o s):wpAny (model prog w) A (zHT v) Q E s:=by
 cases p with
 |none=>exact zET h
 |int i t=>exact slicePart_int h
def jh{sl:Addr}{vl vu:Value}{lo hi:Option Int}{n:Nat}{Q:Int×Int×Nat->zAH->Prop}(hs:s.heap.IsSliceOf sl vl vu .none)(pl:zFD vl lo)(pu:zFD vu hi)
  (h:Q (((sIx n 0 lo:Nat):Int),1,sIx n n hi-sIx n 0 lo) s):wpAny (model prog w) A (zBx (.ref sl) (pure (n:Int))) Q E s:=by
 obtain⟨os,hos,hcs,hds⟩:=id hs;unfold zBx zDx;refine zAC (zAC (zDS hos hds (x:=vl) rfl (zAC (zDS hos hds (x:=vu) rfl (zAC (zDS hos hds (x:=.none) rfl (zAF ?_)))))));refine zAC (zET ?_);show wpAny _ _ (if ((1:Int)==0)=true then _ else _) _ _ s;rw[if_neg (by decide)];refine zAC (uU pl (zAC (uU pu (zAC (zAF ?_)))));show wpAny _ _ (match zBT lo hi 1 (n:Int)with|(lo,hi)=>pure (lo,(1:Int),zAx lo hi 1)) _ _ s;rw[aBs lo hi n];show wpAny _ _ (pure (((sIx n 0 lo:Nat):Int),(1:Int),zAx ((sIx n 0 lo:Nat):Int) ((sIx n n hi:Nat):Int) 1)) _ _ s;rw[aBY];exact zAF h
def aEO(xs:Array Value)(i k:Nat):((zA3 k).filterMap λ(m:Nat)=>xs[((i:Int)+(m:Int)*1).toNat]?).toArray=((xs.toList.drop i).take k).toArray:=by
 have e:(λ(m:Nat)=>xs[((i:Int)+(m:Int)*1).toNat]?)=λ m=>xs[i+m]?:=by
  funext m
  have:((i:Int)+(m:Int)*1).toNat=i+m:=by lia
  rw[this]
 rw[e]
 have:=pick_run xs i k
 rw[List.filterMap_map]at this;have e2:((λ x=>xs[x]?)∘λ x=>i+x)=λ m=>xs[i+m]?:=rfl
 rw[e2]at this;rw[this]
def qF{t sl:Addr}{items:Array Value}{vl vu:Value}{lo hi:Option Int}{Q:Value->zAH->Prop}(ht:IsTup s.heap t items)(hs:s.heap.IsSliceOf sl vl vu .none)(pl:zFD vl lo)(pu:zFD vu hi)
  (hw:¬(sIx items.size 0 lo=0/\sIx items.size items.size hi=items.size))
  (h:Q (.ref s.heap.objs.size) {s with heap:=s.heap.push {cls:=.type "tuple",data:=.seq ((items.toList.drop (sIx items.size 0 lo)).take (sIx items.size items.size hi-sIx items.size 0 lo)).toArray}})
  (hsz:items.size<=zAP):wpAny (model prog w) A (zEC (.ref t) (.ref sl)) Q E s:=by
 have htake:sizeOk (.seq ((items.toList.drop (sIx items.size 0 lo)).take (sIx items.size items.size hi-sIx items.size 0 lo)).toArray):=by
  show((items.toList.drop (sIx items.size 0 lo)).take (sIx items.size items.size hi-sIx items.size 0 lo)).toArray.size<=zAP
  rw[zAG,zB7,zD9,zAW];lia
 have hj:sIx items.size items.size hi<=items.size:=aIT _ _ (zAO _) hi;obtain⟨os,hos,hcs,hds⟩:=id hs;have hTs:s.TypeIs (.ref sl) "slice":=⟨os,hos,hcs⟩;unfold zEC
 try with_reducible refine zB6 ?_
 first|refine zAC (zAF ?_)|skip
 refine zAC (zFA ht.typeIs (by decide) ?_);refine zAC (zBb (name:=zDN "__getitem__") ht.typeIs zAi
  (zBQ zAi ht.typeIs zEY ?_ (zE9 _ _)))
 show wpAny _ _ (zCg (.ref t)>>=_) _ _ s;refine zAC (zGT ht ?_);refine zAC (zD6 hTs ?_);rw[if_pos (by decide)];refine zAC (jh hs pl pu ?_);have hno:¬((((sIx items.size 0 lo:Nat):Int)==0&&(1:Int)==1&&(sIx items.size items.size hi-sIx items.size 0 lo)==items.size)=true):=by
  intro q;rw[zAQ,zAQ]at q;have q1:((sIx items.size 0 lo:Nat):Int)=0:=zEB q.1.1;have q2:sIx items.size items.size hi-sIx items.size 0 lo=items.size:=zEB q.2;exact hw ⟨by lia,by lia⟩
 show wpAny _ _ (if (((sIx items.size 0 lo:Nat):Int)==0&&(1:Int)==1&&(sIx items.size items.size hi-sIx items.size 0 lo)==items.size)=true then _ else _) _ _ s;rw[if_neg hno,aEO]
 first
  |exact zAC (m:=zBB _) (zAv (zAF ⟨_,rfl,zAF h⟩) htake)
  |exact zAC (m:=zBB _) (zAv (zAC (zAF (zAF ⟨_,rfl,zAF h⟩))) htake)
  |exact zAC (zAC (m:=zBB _) (zAv (zAF (zAF ⟨_,rfl,zAF h⟩)) htake))
  |exact zAC (zAC (m:=zBB _) (zAv (zAF ⟨_,rfl,zAF h⟩) htake))
end
end HT
namespace L2
open PySem PySem.Spec PyProof.Rows
abbrev TO:=St->Hp->(Option Int->Hp->Prop)->Prop
def PO(X:Cx)(e:Option Expr)(t:TO):Prop:=
 ∀(pins:List (Addr×Obj)) (s:zAH) (Z:St) (H:Hp) (Q:Option Int->Hp->Prop),Inv X pins Z H s->t Z H Q->
  wpAny (model X.prog X.w) X.A (evalPart e X.env) (λ u s'=>∃o H',Inv X pins Z H' s'/\zFD u o/\Q o H') X.xe s
def aFp:TO:=λ _ H Q=>Q none H
def aJs(t:TE):TO:=λ Z H Q=>t Z H λ x H1=>∃i,x= .int i/\Q (some i) H1
def intsAre_of:∀{us:List Value},Vals (ns.map V.int) us->zBH us ns:=by
 induction ns with
 |nil=>intro us r;rw[zEU]at r;cases r;exact .nil
 |cons n ns ih=>
  intro us r;rw[zAT]at r;cases r with
  |cons r1 r2=>
   obtain⟨t,e⟩:=r1;subst e;exact .cons n t (ih r2)
section
variable{X:Cx}{e:Expr}{te:TE}{lo hi:Option Expr}{tl th:TO}{pos p2:Pos}
def aGX:PO X none aFp:=by
 intro pins s Z H Q I h;rw[zEa];exact zAF ⟨none,H,I,.none,h⟩
def aGW(h:PE X e te):PO X (some e) (aJs te):=by
 intro pins s Z H Q I hw;rw[zGP];refine thn (h pins s Z H _ I hw) λ u s1 ⟨x,H1,I1,r1,q1⟩=>?_
 obtain⟨i,rfl,q⟩:=q1;obtain⟨t,rfl⟩:=r1;exact⟨some i,H1,I1,.int i t,q⟩
def SlR(X:Cx)(r:V->Option Int->Option Int->Hp->VK->Prop):Prop:=
 ∀(pins:List (Addr×Obj)) (s:zAH) (Z:St) (H:Hp) (x:V) (v vl vu:Value) (lo hi:Option Int) (sl:Addr) (Q:VK),Inv X pins Z H s->RelV x v->s.heap.IsSliceOf sl vl vu .none->zFD vl lo->zFD vu hi->r x lo hi H Q->
  ∃T id,zEy (.type T) "__getitem__"=pure (some (.builtin id))/\s.TypeIs v T/\wpAny (model X.prog X.w) X.A (zEC v (.ref sl)) (EP X pins Z Q) X.xe s
def SlR.or(h:SlR X r)(h':SlR X r'):SlR X (λ x lo hi H Q=>r x lo hi H Q\/r' x lo hi H Q):=by
 intro pins s Z H x v vl vu lo hi sl Q I rx hs pl pu q;rcases q with q|q
 .exact h pins s Z H x v vl vu lo hi sl Q I rx hs pl pu q
 .exact h' pins s Z H x v vl vu lo hi sl Q I rx hs pl pu q
def tSl(r:V->Option Int->Option Int->Hp->VK->Prop)(te:TE)(tl th:TO):TE:=λ Z H Q=>te Z H λ x H1=>tl Z H1 λ l H2=>th Z H2 λ u H3=>r x l u H3 Q
def aES(hr:SlR X r)(he:PE X e te)(hl:PO X lo tl)(hu:PO X hi th):PE X (.Subscript e (.Slice lo hi none p2) pos) (tSl r te tl th):=by
 intro pins s Z H Q I h;refine zGB (thn (he pins s Z H _ I h) λ v s1 ⟨x,H1,I1,r1,q1⟩=>?_);refine zHH (thn (hl pins s1 Z H1 _ I1 q1) λ vl s2 ⟨l,H2,I2,pl,q2⟩=>thn (hu pins s2 Z H2 _ I2 q2) λ vu s3 ⟨u,H3,I3,pu,q3⟩=>?_);rw[zEa];refine zAF ?_;have I4:Inv X pins Z H3 {s3 with heap:=s3.heap.push {cls:=.type "slice",data:=.fields #[vl,vu,.none]}}:=I3.kept (t':=s3.toks) λ b ob q=>zAE _ q
 obtain⟨T,id,hT,ht,hg⟩:=hr pins {s3 with heap:=s3.heap.push {cls:=.type "slice",data:=.fields #[vl,vu,.none]}} Z H3 x v vl vu l u s3.heap.objs.size Q I4 r1 (zD1 ..) pl pu q3;show wpAny (model X.prog X.w) X.A (zEc e (.Slice lo hi none p2) v (.ref s3.heap.objs.size)) (EP X pins Z Q) X.xe {s3 with heap:=s3.heap.push {cls:=.type "slice",data:=.fields #[vl,vu,.none]}};exact zHR (ops:=[.ref s3.heap.objs.size,v]) ht hT hg (by with_unfolding_all rfl)
def vg(xs:List V)(lo hi:Option Int):List V:=(xs.drop (HT.sIx xs.length 0 lo)).take (HT.sIx xs.length xs.length hi-HT.sIx xs.length 0 lo)
def tD(xs:List V)(lo hi:Option Int):(vg xs lo hi).length<=xs.length:=by
 unfold vg;rw[zB7,zD9];lia
def aGM(K:zAA):R2:=λ x y H Q=>∃a b ns ms,x= .ref a/\y= .ref b/\SqT K H a (ns.map V.int)/\SqT K H b (ms.map V.int)/\Q (.bl (HT.lexLt ns ms)) H
def aIu(hu:X.A.units<cLine):OpR X (zAr .Lt) (aGM X.K):=by
 intro pins s Z H x y v u Q I rx ry h;obtain⟨a,b,ns,ms,rfl,rfl,ha,hb,q⟩:=h;cases rx;cases ry;obtain⟨its,r1,p1,_⟩:=I.tuple ha;obtain⟨its2,r2,p2,_⟩:=I.tuple hb;have i1:zBH its.toArray.toList ns:=intsAre_of r1;have i2:zBH its2.toArray.toList ms:=intsAre_of r2;exact HT.aBa p1 p2 i1 i2 hu ⟨.bl (HT.lexLt ns ms),H,I,rfl,q⟩
def aKL(K:zAA):R2:=λ x y H Q=>∃a b xs ys,x= .ref a/\y= .ref b/\SqT K H a xs/\SqT K H b ys/\xs≠[]/\xs.length+ys.length<=zAP/\
 (ys=[]->Q (.ref a) H)/\(ys≠[]->∀p,H p=none->Q (.ref p) (upd H p (.tup (xs++ys))))
def Vals.nil_iff(r:Vals xs us):us=[]↔xs=[]:=by
 cases r with
 |nil=>simp
 |cons _ _=>simp
def aGg:OpR X (zBs .Add) (aKL X.K):=by
 intro pins s Z H x y v u Q I rx ry h;obtain⟨a,b,xs,ys,rfl,rfl,ha,hb,hx,hz,q1,q2⟩:=h;cases rx;cases ry;obtain⟨its,r1,p1,_⟩:=I.tuple ha;obtain⟨its2,r2,p2,_⟩:=I.tuple hb;refine HT.aHP p1 p2 (λ z=>hx (r1.nil_iff.mp z)) (λ z=>⟨.ref a,H,I,rfl,q1 (r2.nil_iff.mp z)⟩) (λ z=>?_) (by rw[<-r1.length,<-r2.length];exact hz);refine⟨.ref s.heap.objs.size,_,I.laid (t':=s.toks) (o:=.tup (xs++ys)) (λ b ob q=>zAE _ q) (zAO _) ?_,rfl,q2 (λ w=>z (r2.nil_iff.mpr w)) _ (I.hok.fresh (zAO _))⟩;exact⟨⟨by rw[zAb];exact hz,NoD.push _⟩,_,r1.append r2,zF0 _ _⟩
end
def ixN(n:Nat)(i:Int):Option Nat:=if 0<=i then(if i<n then some i.toNat else none)else if -(n:Int)<=i then some (i+n).toNat else none
def atI{α:Type}(xs:List α)(i:Int):Option α:=(ixN xs.length i).bind λ j=>xs[j]?
def zE(h:ixN n i=some j):seqIndex? i n=some j/\j<n/\-(n:Int)<=i/\i<n:=by
 unfold ixN at h;by_cases h0:0<=i
 .rw[if_pos h0]at h
  by_cases h1:i<n
  .rw[if_pos h1]at h
   have e:i.toNat=j:=zA9 h;exact⟨by rw[zF5 h0 h1,e],by lia,by lia,h1⟩
  .rw[if_neg h1]at h;cases h
 .rw[if_neg h0]at h
  by_cases h1: -(n:Int)<=i
  .rw[if_pos h1]at h
   have e:(i+n).toNat=j:=zA9 h;exact⟨by rw[zFH (by lia) h1,e],by lia,h1,by lia⟩
  .rw[if_neg h1]at h;cases h
def zW(h:atI xs i=some v):∃j,seqIndex? i xs.length=some j/\xs[j]? =some v/\j<xs.length/\-(xs.length:Int)<=i/\i<xs.length:=by
 unfold atI at h;cases e:ixN xs.length i with
 |none=>rw[e]at h;cases h
 |some j=>
  rw[e]at h;obtain⟨h1,h2,h3,h4⟩:=zE e;exact⟨j,h1,h,h2,h3,h4⟩
def zZ(b:Expr):Prop:=∀o i,subscripted b false o i=operate [o,i] (zEC o i)
def IxR(X:Cx)(r:R2):Prop:=
 ∀(value slice:Expr) (pins:List (Addr×Obj)) (s:zAH) (Z:St) (H:Hp) (x y:V) (v u:Value) (Q:VK),Inv X pins Z H s->RelV x v->RelV y u->r x y H Q->
  subscripted slice false v u=operate [v,u] (zEC v u)->wpAny (model X.prog X.w) X.A (zEc value slice v u) (EP X pins Z Q) X.xe s
def MtR(X:Cx)(id:String)(r:V->List V->Hp->VK->Prop):Prop:=
 ∀(pins:List (Addr×Obj)) (s:zAH) (Z:St) (H:Hp) (x:V) (xs:List V) (v:Value) (us:List Value) (Q:VK),Inv X pins Z H s->RelV x v->Vals xs us->r x xs H Q->
  wpAny (model X.prog X.w) X.A (call (.builtin id) (v::us)) (EP X pins Z Q) X.xe s
section
variable{X:Cx}{a b:Expr}{ta tb:TE}{pos:Pos}
def IxR.or(h:IxR X r)(h':IxR X r'):IxR X (λ x y H Q=>r x y H Q\/r' x y H Q):=by
 intro value slice pins s Z H x y v u Q I rx ry q hs;rcases q with q|q
 .exact h value slice pins s Z H x y v u Q I rx ry q hs
 .exact h' value slice pins s Z H x y v u Q I rx ry q hs
def aHn{r:R2}(hr:IxR X r)(ha:PE X a ta)(hb:PE X b tb)(hs:zZ b):PE X (.Subscript a b pos) (tOp r ta tb):=by
 intro pins s Z H Q I h;exact zGB (aJe ha hb I h λ v u s2 x y H2 I2 rx ry q=>hr a b pins s2 Z H2 x y v u Q I2 rx ry q (hs _ _))
def aIZ(K:zAA):R2:=λ x y H Q=>∃p xs i v,x= .ref p/\y= .int i/\SqL K H p xs/\atI xs i=some v/\Q v H
def aKJ(K:zAA):R2:=λ x y H Q=>∃p xs i v,x= .ref p/\y= .int i/\SqT K H p xs/\atI xs i=some v/\Q v H
def aKK:R2:=λ x y H Q=>∃z i c,x= .str z/\y= .int i/\z.length<=zAP/\atI z.cps.toList i=some c/\Q (.str ⟨#[c]⟩) H
def aCY:IxR X (aIZ X.K):=by
 intro value slice pins s Z H x y v u Q I rx ry h hs;obtain⟨p,xs,i,z,rfl,rfl,hq,he,q⟩:=h;cases rx;obtain⟨t,rfl⟩:=ry;obtain⟨its,r,pl,hz⟩:=I.list hq;obtain⟨j,h1,h2,h3,h4,h5⟩:=zW he;obtain⟨w,ew,rw'⟩:=r.get h2;have hl:=r.length;have hn:=pC;have fin:EP X pins Z Q w s:=⟨z,H,I,rw',q⟩;by_cases h0:0<=i
 .have hj:i.toNat=j:=by
   rw[zF5 h0 h5]at h1;exact zA9 h1
  exact item_listR pl.isList h0 (by lia) (by rw[hj];simpa using ew) fin hs
 .have hj:(i+(its.toArray.size:Int)).toNat=j:=by
   rw[zFH (by lia) h4]at h1;rw[zAG,<-hl];exact zA9 h1
  exact zG7 (x:=w) pl.isList.typeIs zEw.lookup
   (zG8 (Q:=λ r s'=>r=w/\EP X pins Z Q r s') pl.isList (by lia) (by rw[zAG]<;>lia) (by lia) (by rw[hj];simpa using ew) ⟨rfl,fin⟩) hs
def aJX:IxR X (aKJ X.K):=by
 intro value slice pins s Z H x y v u Q I rx ry h hs;obtain⟨p,xs,i,z,rfl,rfl,hq,he,q⟩:=h;cases rx;obtain⟨t,rfl⟩:=ry;obtain⟨its,r,pl,hz⟩:=I.tuple hq;obtain⟨j,h1,h2,h3,h4,h5⟩:=zW he;obtain⟨w,ew,rw'⟩:=r.get h2;have hl:=r.length;have hn:=pC;have fin:EP X pins Z Q w s:=⟨z,H,I,rw',q⟩;exact zG7 (x:=w) pl.typeIs slot_tuple_getitem.lookup
  (getItem_tuple (j:=j) (Q:=λ r s'=>r=w/\EP X pins Z Q r s') pl (by lia) (by lia) (by rw[zAG,<-hl];exact h1) (by simpa using ew) ⟨rfl,fin⟩) hs
def aJY:IxR X aKK:=by
 intro value slice pins s Z H x y v u Q I rx ry h hs;obtain⟨z,i,c,rfl,rfl,hz,he,q⟩:=h;obtain⟨t,rfl⟩:=rx;obtain⟨t',rfl⟩:=ry;obtain⟨j,h1,h2,h3,h4,h5⟩:=zW he;have hl:z.cps.toList.length=z.length:=by simp[Str.length]
 rw[hl]at h1 h4 h5;have hn:=pC;exact zHR (typeIs_str s z t) slot_str_getitem.lookup (getItem_str (c:=c) (by
  have e1:decide (i < -(2^63:Int))=false:=decide_eq_false (by lia);have e2:decide (i ≥ 2^63)=false:=decide_eq_false (by lia);rw[e1,e2,Bool.or_false]) (by rw[h1];simpa using h2) ⟨.str ⟨#[c]⟩,H,I.tok _,⟨_,rfl⟩,q⟩) hs
def rIx(K:zAA):R2:=λ x y H Q=>aIZ K x y H Q\/aKJ K x y H Q\/aKK x y H Q
def aJZ:IxR X (rIx X.K):=aCY.or (aJX.or aJY)
def aB8(its:List Value)(n j:Nat)(u:Value):zBU (·.setIfInBounds j u) {cls:=.type "list",data:=.seq its.toArray n}={cls:=.type "list",data:=.seq (its.set j u).toArray n}:=by
 simp[zBU]
theorem Inv.lst(I:Inv X pins Z H s)(h:H p=some (.lst xs)):
  ∃(its:List Value) (n:Nat),Vals xs its/\s.heap.get? p=some {cls:=.type "list",data:=.seq its.toArray n}/\xs.length<=zAP:=by
 obtain⟨z,its,n,r,e⟩:=I.hok p _ h;exact⟨its,n,r,e,z⟩
def Inv.lstUpd{pins:List (Addr×Obj)}{Z:St}{H:Hp}{s:zAH}{p:Addr}{xs ys:List V}{its its':List Value}{n n':Nat}{f:Obj->Obj}(I:Inv X pins Z H s)(h:H p=some (.lst xs))
  (ho:s.heap.get? p=some {cls:=.type "list",data:=.seq its.toArray n})(hf:f {cls:=.type "list",data:=.seq its.toArray n}={cls:=.type "list",data:=.seq its'.toArray n'})(r:Vals ys its')(hz:ys.length<=zAP)(t:Nat):
  Inv X pins Z (upd H p (.lst ys)) {s with heap:=s.heap.update p f,toks:=t}:=by
 have e:(s.heap.update p f).get? p=some {cls:=.type "list",data:=.seq its'.toArray n'}:=by
  rw[zDh f ho (by rw[hf]<;>rfl),hf]
 refine I.write (x:=p) (e:=p) (by rw[h];trivial) (.inl rfl) (λ b u hb q=>(zFZ _ _ (zDH hb)).trans q) ⟨_,e⟩ ?_;exact⟨hz,its',n',r,e⟩
def aEB:V->V->V->Hp->(Hp->Prop)->Prop:=λ o i v H Q=>∃p xs k j,o= .ref p/\i= .int k/\H p=some (.lst xs)/\ixN xs.length k=some j/\Q (upd H p (.lst (xs.set j v)))
def set_list:aJn X aEB:=by
 intro pins s Z H o i v ov iv u Q I ro ri rv h;obtain⟨p,xs,k,j,rfl,rfl,hp,hj,q⟩:=h;cases ro;obtain⟨t,rfl⟩:=ri;obtain⟨its,n,r,ho,hz⟩:=I.lst hp;obtain⟨h1,h2,h3,h4⟩:=zE hj;have hl:=r.length;have hn:=pC;have I':Inv X pins Z (upd H p (.lst (xs.set j v))) {s with heap:=s.heap.update p (zBU (·.setIfInBounds j u))}:=
  I.lstUpd hp ho (aB8 its n j u) (r.set rv j) (by rw[zAw];exact hz) s.toks
 by_cases h0:0<=k
 .have hk:k.toNat=j:=by
   rw[zF5 h0 h4]at h1;exact zA9 h1
  exact PySem.W.ki_setAt ho h0 (by lia) (by rw[zAG,<-hl];exact h4) (by rw[hk];exact⟨_,I',q⟩)
 .have hk:(k+(its.toArray.size:Int)).toNat=j:=by
   rw[zFH (by lia) h3]at h1;rw[zAG,<-hl];exact zA9 h1
  exact PySem.W.ki_setBack ho (by lia) (by rw[zAG,<-hl];exact h3) (by lia) (by rw[hk];exact⟨_,I',q⟩)
def yL(lo hi:Option Int)(n:Nat):(zDR lo hi none n).1=((HT.sIx n 0 lo:Nat):Int)/\(zDR lo hi none n).2.1=((HT.sIx n n hi:Nat):Int)/\(zDR lo hi none n).2.2=1:=by
 refine⟨?_,?_,rfl⟩
 .cases lo with
  |none=>simp[zDR,HT.sIx]
  |some i=>
   simp only[zDR,HT.sIx,zGK,show(1:Int)>0 by decide,if_true];by_cases h:i<0
   .simp only[h,if_true]<;>lia
   .simp only[h,if_false]<;>lia
 .cases hi with
  |none=>simp[zDR,HT.sIx]
  |some i=>
   simp only[zDR,HT.sIx,zGK,show(1:Int)>0 by decide,if_true];by_cases h:i<0
   .simp only[h,if_true]<;>lia
   .simp only[h,if_false]<;>lia
def wF(its:List Value)(lo hi:Option Int):slicePick its.toArray lo hi none=((its.drop (HT.sIx its.length 0 lo)).take (HT.sIx its.length its.length hi-HT.sIx its.length 0 lo)).toArray:=by
 obtain⟨h1,h2,h3⟩:=yL lo hi its.toArray.size;unfold slicePick;rw[h1,h2,h3];simp only[sliceRange_one,pick_run,zAG]<;>rfl
def aKH(K:zAA):V->Option Int->Option Int->Hp->VK->Prop:=λ x lo hi H Q=>∃a xs,x= .ref a/\SqL K H a xs/\∀p,H p=none->Q (.ref p) (upd H p (.lst (vg xs lo hi)))
def aFu:SlR X (aKH X.K):=by
 intro pins s Z H x v vl vu lo hi sl Q I rx hs pl pu h;obtain⟨a,xs,rfl,hx,q⟩:=h;cases rx;obtain⟨its,r,ht,hz⟩:=I.list hx;have hlen:=r.length;refine⟨"list",_,zEw.lookup,ht.isList.typeIs,?_⟩;refine zGE ht.isList hs pl pu .none (by simp) ?_ (by rw[zAG]<;>lia);rw[wF,<-hlen];refine⟨.ref s.heap.objs.size,_,I.laid (t':=s.toks) (o:=.lst (vg xs lo hi)) (λ b ob q=>zAE _ q) (zAO _) ?_,rfl,q _ (I.hok.fresh (zAO _))⟩;exact⟨zA5 (tD xs lo hi) hz,_,0,(r.drop (HT.sIx xs.length 0 lo)).take (HT.sIx xs.length xs.length hi-HT.sIx xs.length 0 lo),zAX _ rfl⟩
def zT:dI X (.builtin "len") (λ xs H Q=>∃p ys,xs=[.ref p]/\(SqL X.K H p ys\/SqT X.K H p ys)/\Q (.int ys.length) H):=by
 intro pins s Z H xs us Q I r h;obtain⟨p,ys,rfl,hq,q⟩:=h;obtain⟨u,rfl,rx⟩:=vals1 r;cases rx;have hn:=pC;rcases hq with hq|hq
 .obtain⟨its,r',pl,hz⟩:=I.list hq
  have hlen:=r'.length;exact Calls.call_len_list pl.isList (by simp only[zAG]<;>lia) ⟨.int ys.length,H,I.tok _,⟨s.toks+1,by rw[zAG,hlen]⟩,q⟩
 .obtain⟨its,r',pl,hz⟩:=I.tuple hq
  have hlen:=r'.length;exact len_tuple pl (by simp only[zAG]<;>lia) ⟨.int ys.length,H,I.tok _,⟨s.toks+1,by rw[zAG,hlen]⟩,q⟩
def dI.or(h:dI X f r)(h':dI X f r'):dI X f (λ xs H Q=>r xs H Q\/r' xs H Q):=by
 intro pins s Z H xs us Q I rs q;rcases q with q|q
 .exact h pins s Z H xs us Q I rs q
 .exact h' pins s Z H xs us Q I rs q
def zR:dI X (.type "list") (λ xs H Q=>∃p ys,xs=[.ref p]/\(SqL X.K H p ys\/SqT X.K H p ys)/\∀l,H l=none->Q (.ref l) (upd H l (.lst ys))):=by
 intro pins s Z H xs us Q I r h;obtain⟨p,ys,rfl,hq,q⟩:=h;obtain⟨u,rfl,rx⟩:=vals1 r;cases rx;have fin:∀(its:List Value),Vals ys its->ys.length<=zAP->∀(h':Heap) (c':Nat),(∀b o',s.heap.get? b=some o'->h'.get? b=some o')->
   h'.get? s.heap.objs.size=some {cls:=.type "list",dict:=none,data:=.seq its.toArray c',slots:=#[]}->EP X pins Z Q (.ref s.heap.objs.size) {s with heap:=h'}:=λ its r' hz h' c' kp e=>
  ⟨.ref s.heap.objs.size,_,I.laid (t':=s.toks) kp (zAO _) (show dD X.prog X.w _ h' _ (.lst ys)from⟨hz,its,c',r',e⟩),rfl,q _ (I.hok.fresh (zAO _))⟩
 rcases hq with hq|hq
 .obtain⟨its,r',pl,hz⟩:=I.list hq
  have hlen:=r'.length;obtain⟨o,ho,hc,n,hd⟩:=pl.isList;exact call_list_seq p (.inl rfl) ho hc hd (λ h' c' kp e=>fin its r' hz h' c' kp e) (by simp only[zAG]<;>lia)
 .obtain⟨its,r',pl,hz⟩:=I.tuple hq
  have hlen:=r'.length;obtain⟨o,ho,hc,n,hd⟩:=pl;exact call_list_seq p (.inr rfl) ho hc hd (λ h' c' kp e=>fin its r' hz h' c' kp e) (by simp only[zAG]<;>lia)
def wW:dI X (.type "tuple") (λ xs H Q=>∃p ys,xs=[.ref p]/\((SqL X.K H p ys/\∀l,H l=none->Q (.ref l) (upd H l (.tup ys)))\/(SqT X.K H p ys/\Q (.ref p) H))):=by
 intro pins s Z H xs us Q I r h;obtain⟨p,ys,rfl,h⟩:=h;obtain⟨u,rfl,rx⟩:=vals1 r;cases rx;rcases h with ⟨hq,q⟩|⟨hq,q⟩
 .obtain⟨its,r',pl,hz⟩:=I.list hq
  have hlen:=r'.length;refine call_tuple_list pl.isList (λ h' kp=>?_) (by simp only[zAG]<;>lia);have I1:Inv X pins Z H {s with heap:=h'}:=I.kept (t':=s.toks) kp;have I2:Inv X pins Z (upd H h'.objs.size (.tup ys)) {s with heap:=h'.push {cls:=.type "tuple",data:=.seq its.toArray}}:=
   I1.laid (t':=s.toks) (λ b o e=>zAE _ e) (zAO _) (show dD X.prog X.w _ _ _ (.tup ys)from⟨⟨hz,NoD.push _⟩,its,r',zF0 _ _⟩)
  exact⟨.ref h'.objs.size,_,I2,rfl,q _ (I1.hok.fresh (zAO _))⟩
 .obtain⟨its,r',pl,hz⟩:=I.tuple hq
  exact call_tuple_same pl ⟨.ref p,H,I,rfl,q⟩
def tyV(K:zAA)(T:String)(x:V)(H:Hp):Prop:=match x with
 | .str _=>T="str"
 | .int _=>T="int"
 | .ref p=>(T="list"/\∃xs,SqL K H p xs)\/(T="tuple"/\∃o,K.lookup p=some o/\o.cls= .type "tuple"/\o.dict=none)\/
   (T="dict"/\((∃kvs,H p=some (.dK kvs))\/∃kvs,H p=some (.dT kvs)))\/(T="set"/\∃S n,H p=some (.set S n))
 |_=>False
def aIA(I:Inv X pins Z H s)(r:RelV x v)(ty:tyV X.K T x H):
  s.TypeIs v T/\∀a,v= .ref a->∃ob,s.heap.get? a=some ob/\ob.dict=none:=by
 cases x with
 |str z=>
  obtain⟨t,rfl⟩:=r;cases (show T="str" from ty);exact⟨typeIs_str s z t,λ _ e=>nomatch e⟩
 |int i=>
  obtain⟨t,rfl⟩:=r;cases (show T="int" from ty);exact⟨zH7 s i t,λ _ e=>nomatch e⟩
 |ref p=>
  cases r;rcases ty with ⟨rfl,xs,hq⟩|⟨rfl,o,hk,hc,hd⟩|⟨rfl,hk⟩|⟨rfl,S,n,hk⟩
  .obtain⟨its,_,pl,_⟩:=I.list hq
   refine⟨pl.isList.typeIs,λ a e=>?_⟩;cases e;obtain⟨o,n,e,c,hd,_⟩:=pl;exact⟨o,e,hd⟩
  .refine⟨⟨o,I.kIn p o hk,hc⟩,λ a e=>?_⟩
   cases e;exact⟨o,I.kIn _ o hk,hd⟩
  .have z:∃o,s.heap.get? p=some o/\o.ExactDict:=by
    rcases hk with ⟨kvs,hk⟩|⟨kvs,hk⟩
    .obtain⟨_,_,_,_,o,_,_,e,ex,_⟩:=I.hok p _ hk
     exact⟨o,e,ex⟩
    .obtain⟨_,_,_,_,o,_,_,e,ex,_⟩:=I.hok p _ hk
     exact⟨o,e,ex⟩
   obtain⟨o,e,ex⟩:=z;refine⟨⟨o,e,ex.1⟩,λ a e2=>?_⟩;cases e2;exact⟨o,e,ex.2.1⟩
  .obtain⟨o,_,_,_,e,ex,_⟩:=I.hok p _ hk
   refine⟨⟨o,e,ex.1⟩,λ a e2=>?_⟩;cases e2;exact⟨o,e,ex.2.1⟩
 |_=>exact zAJ ty
def tBM(K:zAA)(T:String)(r:V->List V->Hp->VK->Prop)(to:TE)(t:TA):TE:=λ Z H Q=>to Z H λ x H1=>tyV K T x H1/\t Z H1 λ xs H2=>r x xs H2 Q
variable{o e:Expr}{es:List Expr}{to:TE}{t:TA}{name:Str}{apos cpos:Pos}{T id:String}{r:V->List V->Hp->VK->Prop}
def aAN(pa:PlainAttrs T)(slot:Slot T name id)(hty:typeOf (.builtin id)=pure (.type "method_descriptor"))(hm:MtR X id r)(ho:PE X o to)(ha:PA X (e::es) t)
  (hbase:zDK o name X.env (eval o X.env)=eval o X.env:=by rfl)
  (hfew:((zCF cpos (zAU (e::es) X.env)).all (λ x=>!x.1)&&(zEK cpos (zCx [] X.env)).all (λ x=>x.1.isSome)
   &&decide ((e::es).length+([]:List zCL).length+(if ([]:List zCL).isEmpty then 0 else 1)<30))=true:=by rfl)
  (hline:(apos.endLine==cpos.line)=true:=by rfl)(hs:zAU (e::es) X.env=(false,eval e X.env)::zAU es X.env:=by rfl)(hplain:(zCF cpos (zAU es X.env)).any (·.1)=false:=by rfl):
  PE X (.Call (.Attribute o name apos) (e::es) [] cpos) (tBM X.K T r to t):=by
 intro pins s Z H Q I h;refine wpAny_Call_method_late hbase hfew hline rfl (thn (ho pins s Z H _ I h) λ v s1 ⟨x,H1,I1,r1,ty,q1⟩=>?_);obtain⟨h1,h2⟩:=aIA I1 r1 ty;refine⟨T,id,pa,slot,hty,h1,h2,?_⟩;have hA:=ha cpos pins s1 Z H1 _ I1 q1;rw[hs]at hA ⊢;refine Calls.callWith_builtin (by show(false||(zCF cpos (zAU es X.env)).any (·.1))=false;rw[hplain]<;>rfl) (zF8 ?_);exact thn hA λ us s2 ⟨vs,H2,I2,r2,q2⟩=>hm pins s2 Z H2 x vs v us Q I2 r1 r2 q2
end
def MtM(X:Cx)(id:String)(r:V->List V->Hp->VK->Prop):Prop:=
 ∀(pins:List (Addr×Obj)) (s:zAH) (Z:St) (H:Hp) (x:V) (xs:List V) (v:Value) (us:List Value) (Q:VK),Inv X pins Z H s->RelV x v->Vals xs us->r x xs H Q->
  wpAny (model X.prog X.w) X.A (call (.builtin id) (v::us)) (EP X pins Z Q) X.xe s
def Vals.one:∀{x:V} {us:List Value},Vals [x] us->∃u,us=[u]/\RelV x u
 |_,_,.cons r .nil=>⟨_,rfl,r⟩
theorem Vals.eraseIdx:∀{xs:List V} {us:List Value} (i:Nat),Vals xs us->Vals (xs.eraseIdx i) (us.eraseIdx i)
 |_,_,_,.nil=>.nil
 |_,_,0,.cons _ t=>t
 |_,_,i+1,.cons r t=>.cons r (Vals.eraseIdx i t)
theorem Vals.reverse(h:Vals xs us):Vals xs.reverse us.reverse:=by
 induction h with
 |nil=>exact .nil
 |cons r t ih=>rw[zCf,zCf];exact Vals.append ih (.cons r .nil)
theorem Vals.rep(h:Vals xs us):∀k:Nat,Vals (zAI k xs).flatten (zAI k us).flatten
 |0=>.nil
 |k+1=>by
  rw[zB1,zB1,zCO,zCO];exact Vals.append h (Vals.rep h k)
theorem foldl_rep(its:List Value):∀(k:Nat) (acc:List Value),
  zGX (λ x1 x2=>x1++x2) acc.toArray (zAI k its.toArray)=(acc++(zAI k its).flatten).toArray
 |0,acc=>by simp
 |k+1,acc=>by
  have e:acc.toArray++its.toArray=(acc++its).toArray:=by simp
  have e2:(acc++its)++(zAI k its).flatten=acc++(zAI (k+1) its).flatten:=by
   rw[zB1,zCO,zBO]
  rw[<-e2,<-foldl_rep its k (acc++its),<-e,zB1,zCG]
section
variable{X:Cx}{pins:List (Addr×Obj)}{Z:St}{H:Hp}{s:zAH}{l:Addr}{xs ys:List V}
def Inv.lset{its its':List Value}{n:Nat}{f:Array Value->Array Value}{t':Nat}(I:Inv X pins Z H s)(hH:H l=some (.lst xs))
  (e:s.heap.get? l=some {cls:=.type "list",data:=.seq its.toArray n})(hf:f its.toArray=its'.toArray)(hv:Vals ys its')(hz:ys.length<=zAP):
  Inv X pins Z (upd H l (.lst ys)) {s with heap:=s.heap.update l (zBU f),toks:=t'}:=by
 have q:=PySem.IsL.update e f;rw[hf]at q;refine I.write (x:=l) (e:=l) (by rw[hH];exact trivial) (.inl rfl) (λ b' u hb hu=>(zFZ s.heap (zBU f) (zDH hb)).trans hu) ⟨_,q⟩ ?_;exact⟨hz,its',_,hv,q⟩
def Inv.lnew(I:Inv X pins Z H s)(hv:Vals ys its)(hz:ys.length<=zAP):
  Inv X pins Z (upd H s.heap.objs.size (.lst ys)) {s with heap:=s.heap.push {cls:=.type "list",data:=.seq its.toArray},toks:=t'}:=
 I.laid (λ _ _ q=>zAE _ q) (zAO _) ⟨hz,its,0,hv,zAX _ rfl⟩
theorem Inv.fresh(I:Inv X pins Z H s):H s.heap.objs.size=none:=I.hok.fresh (zAO _)
def Inv.lstM(I:Inv X pins Z H s)(hH:H l=some (.lst xs)):xs.length<=zAP/\∃(its:List Value) (n:Nat),Vals xs its/\xs.length=its.length/\s.heap.get? l=some {cls:=.type "list",data:=.seq its.toArray n}:=by
 obtain⟨z,its,n,r,e⟩:=I.hok l _ hH;exact⟨z,its,n,r,r.length,e⟩
def aAT(h:n<=zAP):zCK n=false:=by
 unfold zCK;exact decide_eq_false (by lia)
end
section
variable{X:Cx}
def aGP:V->List V->Hp->VK->Prop:=λ x vs H Q=>∃l xs y,x= .ref l/\vs=[y]/\H l=some (.lst xs)/\xs.length<zAP/\Q .non (upd H l (.lst (xs++[y])))
def rK:MtM X "list.append" aGP:=by
 intro pins s Z H x vs v us Q I rx rv h;obtain⟨l,xs,y,rfl,rfl,hH,hz,q⟩:=h;cases rx;obtain⟨u,rfl,ru⟩:=rv.one;obtain⟨z,its,n,r,hl,e⟩:=I.lstM hH;refine zEL zD7 ⟨_,e,rfl⟩ F.entry_list_append (F.args_list_append_2 _ _) (PySem.list_append l its.toArray n u (by rw[zAG];lia)) ⟨e,?_⟩;refine⟨.non,_,I.lset (its':=its++[u]) hH e (by simp) (r.append (.cons ru .nil)) ?_,rfl,q⟩;rw[zAb,zFc];lia
def aGO:V->List V->Hp->VK->Prop:=λ x vs H Q=>∃l b xs zs,x= .ref l/\vs=[.ref b]/\H l=some (.lst xs)/\H b=some (.lst zs)/\xs.length+zs.length<=zAP/\Q .non (upd H l (.lst (xs++zs)))
def aCy:MtM X "list.extend" aGO:=by
 intro pins s Z H x vs v us Q I rx rv h;obtain⟨l,b,xs,zs,rfl,rfl,hH,hB,hz,q⟩:=h;cases rx;obtain⟨u,rfl,ru⟩:=rv.one;cases ru;obtain⟨z,its,n,r,hl,e⟩:=I.lstM hH;obtain⟨z2,its2,n2,r2,hl2,e2⟩:=I.lstM hB;have hsz:its.toArray.size+its2.toArray.size<=zAP:=by rw[zAG,zAG];lia
 have hlong:¬(!its.toArray.isEmpty&&zCK (its.toArray.size+its2.toArray.size))=true:=by
  rw[aAT hsz,zDr];exact zAY
 refine zEL zF9 ⟨_,e,rfl⟩ F.entry_list_extend (F.args_list_extend_2 _ _)
  (AutoSeq1.list_extend_list_list_0 l its.toArray n b its2.toArray n2 hlong (by rw[zAG];lia) (by lia)) ⟨e,e2,?_⟩
 refine⟨.non,_,I.lset (its':=its++its2) hH e (by simp) (r.append r2) ?_,rfl,q⟩;rw[zAb];lia
def aLA:R2:=λ x y H Q=>∃l b xs zs,x= .ref l/\y= .ref b/\H l=some (.lst xs)/\H b=some (.lst zs)/\xs.length+zs.length<=zAP/\∀p,H p=none->Q (.ref p) (upd H p (.lst (xs++zs)))
def aJB:OpR X (zBs .Add) aLA:=by
 intro pins s Z H x y v u Q I rx ry h;obtain⟨l,b,xs,zs,rfl,rfl,hH,hB,hz,q⟩:=h;cases rx;cases ry;obtain⟨z,its,n,r,hl,e⟩:=I.lstM hH;obtain⟨z2,its2,n2,r2,hl2,e2⟩:=I.lstM hB;refine PySem.P.add_list e e2 ?_ (by rw[zAG,zAG];lia);have ea:its.toArray++its2.toArray=(its++its2).toArray:=by simp
 rw[ea];exact⟨.ref _,_,I.lnew (t':=s.toks) (r.append r2) (by rw[zAb];lia),rfl,q _ I.fresh⟩
def aKI:R2:=λ x y H Q=>∃l k xs,x= .ref l/\y= .int k/\H l=some (.lst xs)/\-(2^63)<=k/\k<2^63/\xs.length*k.toNat<=zAP/\
 ∀p,H p=none->Q (.ref p) (upd H p (.lst (zAI k.toNat xs).flatten))
def len_rep(xs:List α)(k:Nat):(zAI k xs).flatten.length=k*xs.length:=by
 induction k with
 |zero=>simp
 |succ k ih=>rw[zB1,zCO,zAb,ih,Nat.succ_mul,Nat.add_comm]
def aIo:OpR X (zBs .Mult) aKI:=by
 intro pins s Z H x y v u Q I rx ry h;obtain⟨l,k,xs,rfl,rfl,hH,h1,h2,hz,q⟩:=h;cases rx;obtain⟨t,rfl⟩:=ry;obtain⟨z,its,n,r,hl,e⟩:=I.lstM hH;have hlen:its.toArray.size*k.toNat<=zAP:=by rw[zAG,<-hl];exact hz
 have hcap:¬its.toArray.size*k.toNat>(2^63-1) / 8:=by
  have:(zAP:Nat)<=(2^63-1) / 8:=by decide
  lia
 have hfit:¬(!zCl k)=true:=by
  rw[fitsIndex_both h1 h2];exact zAY
 have hlong:¬zCK (its.toArray.size*k.toNat)=true:=by
  rw[aAT hlen];exact zAY
 have hnew:zGX (λ x1 x2=>x1++x2) #[] (zAI (if its.toArray.isEmpty=true then 0 else k.toNat) its.toArray)=(zAI k.toNat its).flatten.toArray:=by
  have f0:∀m:Nat,zGX (λ x1 x2=>x1++x2) #[] (zAI m its.toArray)=(zAI m its).flatten.toArray:=λ m=>by
   have:=foldl_rep its m []
   rw[zC7]at this;exact this
  rw[f0];cases its with
  |nil=>simp
  |cons a r'=>rw[if_neg (by simp)]
 refine wpAny_binaryOp_repeat_ref (T:="list") (U:="int") (by decide) ⟨_,e,rfl⟩ (λ s'=>zH7 s' k t) noFill_list_mul F.fills_int_mul zHW repeat_list F.slot_int_index.lookup
  (zEL zHW (zH7 s k t) F.entry_int_rmul (F.args_int_rmul_2 _ _) (int___rmul___int_list k t l its.toArray n)
   ⟨e,rfl,⟨_,e,rfl⟩,zEL F.slot_list_mul ⟨_,e,rfl⟩ F.entry_list_mul (F.args_list_mul_2 _ _) (AutoListH.list___mul___list_int_3 l its.toArray n k t hfit hcap hlong) ⟨e,?_⟩⟩)
 rw[hnew];exact⟨.ref _,_,I.lnew (t':=s.toks) (r.rep k.toNat) (by rw[len_rep,Nat.mul_comm];exact hz),rfl,q _ I.fresh⟩
end
end L2
namespace Att
open PySem PySem.W PySem.Calls PyProof.Rows
def tR:∀(ns:List Int) (vs:List Value),WellAll P h vs (ns.map WData.int)->zBH vs ns:=by
 intro ns;induction ns with
 |nil=>
  intro vs w;rw[zEU]at w;cases w;exact .nil
 |cons n ns ih=>
  intro vs w;rw[zAT]at w;cases w with
  |cons a b=>
   cases a;exact .cons _ _ (ih _ b)
def aCl{l:OpenLaw}{n:Nat}(hn:l.most=some n){P:Params}{h:Heap}{args:List WData}{vals:List Value}
  (hpre:l.row.toRowW.claim.pre args=true)(hwl:WellAll P h vals args):
  ∃a vs ns,vals=[zBv a]/\args=[WData.list (ns.map WData.int)]/\h.get? a=some {cls:=.type "list",data:=.seq vs.toArray}/\zBH vs ns/\ns.length<=n:=by
 have hsh:WShape.hasAll [] args [.list .int]=true:=(pre_splitW hpre).1;have hc:l.pre.holds [] {args:=args}=true:=(pre_splitW hpre).2;obtain⟨d,r,rfl,h1,h2⟩:=hasAllW_cons hsh;obtain rfl:=hasAllW_nil h2;obtain⟨xs,rfl,h3⟩:=hasW_list h1;obtain⟨ns,rfl⟩:=items_int h3;have hlen:ns.length<=n:=by
  unfold OpenLaw.pre at hc;have h4:(WTm.not (.lt (.lit (.int (n:Int))) (.len (.arg 0)))).holds [] {args:=[.list (ns.map .int)]}=true:=by
   have h4:=(holds_andW hc).1;rw[hn]at h4;exact h4
  have h5:=condW_of h4 (w_not (w_lt w_lit (w_len_list (w_arg rfl))));rw[zAD]at h5;refine zGx λ q=>?_
  have q':(n:Int)<((ns.length:Nat):Int):=by lia
  first
   |(rw[decide_eq_true q']at h5;exact absurd h5 (by decide))
   |(simp at h5;lia)
 cases hwl with
 |cons w1 w2=>
  cases w2;cases w1 with
  |list ho hall=>exact⟨_,_,ns,rfl,rfl,ho,tR ns _ hall,hlen⟩
def aCo(l:OpenLaw)(args:List WData):l.row.toRowW.claim.post args (.bool true) args=true:=
 postW_of (r:=l.row.toRowW) (X:=(true==true))
  (show WShape.has [] (.bool true) .bool=true by first|rfl|decide|simp[WShape.has,WShape.arms,WShape.armsAll])
  (show(WTm.eq .res (.lit (.bool true))).value [] {args:=args,res:=some (.bool true),after:=args}=some (.bool (true==true))from w_eq_bool (w_res rfl) w_lit) rfl
def aAq{l:OpenLaw}{n:Nat}{q:zA2}{loose:List Str}{XP:(Str->Option Value)->Heap->Prop}{YP:World->Heap->Prop}{d:DefRec}
  (hn:l.most=some n)(hdf:d.params.defaults=[])
  (call:∀(w:World) (z0 zD:zAH) (mg mb:Str->Option Value) (fa:Addr) (o:Obj) (pm cd doc:Value) (a:Addr) (vs:List Value) (ns:List Int),
   Ground q loose [] XP w z0 mg mb zD.heap->YP w zD.heap->
   zD.heap.get? fa=some o->o.data= .func (docDef d.name d.params d.body d.scope pm cd doc)->zD.heap.CodeRec cd d.name->mg d.name=some (.ref fa)->
   zD.heap.get? a=some {cls:=.type "list",data:=.seq vs.toArray}->zBH vs ns->ns.length<=n->zD.gens=#[]->
   zCM (model l.prog w) zEX (.call (.ref fa) ⟨[.ref a],[]⟩) (λ r s'=>r= .ok (.ret (.bool true))/\OldK zD.heap s'.heap/\s'.os=zD.os/\zDv s'.gens) zD):
  WalkO q loose XP YP l.row.toRowW d [] (λ f vs=>zGM f vs):=by
 intro w z0 zD mg mb G Y fa o pm cd doc dV kV ho hd hcd hD hmg hg args vals as hpre hlay hrd hwl hlo;obtain rfl:dV= .none:=Dflts.none hD hdf;obtain rfl:kV= .none:=Dflts.noKw hD;obtain⟨a,vs,ns,rfl,rfl,hobj,hints,hlen⟩:=aCl hn hpre hwl;refine enter_call (zEA (call w z0 zD mg mb fa o pm cd doc a vs ns G Y ho (fd_plain hd) hcd hmg hobj hints hlen hg) λ r s' hq=>?_);obtain⟨rfl,h2,h3,h4⟩:=hq;exact⟨.inl ⟨.bool true,.bool true,[],rfl,λ _=>rfl,.bool true,aCo l _,λ _=>⟨zEo,λ _ hm=>(nomatch hm)⟩⟩,h2,h3,h4⟩
section
variable{prog:zA2}{w:World}{A:zAm}{E:Value->zAH->Prop}{s:zAH}{K:Frag}
def make_obj(X:K.In s.heap)(hm:makesIn K C=true)(hi:findIn K (.ref C) "__init__"=some (some (.ref fI)))(hf:isFn K (.ref fI)=true)
  (h:zCM (model prog w) (A.under (.builtin "type.__call__" ⟨.ref C::rest,kw⟩)) (.call (.ref fI) ⟨.ref (s.heap.objs.size+1)::rest,kw⟩) (InitBack (s.heap.objs.size+1) R)
   {s with heap:=(s.heap.push emptyDict).push (instObj C s.heap.objs.size)}):zCM (model prog w) A (.call (.ref C) ⟨rest,kw⟩) R s:=by
 obtain⟨hh,g,d,t,os⟩:=s;exact make_core (makes_of X hm) (looks_findIn X hi) (λ self=>bind_fn X self (beq_iff_eq.mp hf)) (.inl rfl) h
def get_field(X:K.In s.heap)(I:zG1 s.heap x ox C (some (dictOf es n)))(hg:plainGet K C name=true)(hh:hasDictIn K C=true)(ha:findIn K (.ref C) name=some none)
  (hl:getL name es=some (some v))(hv:handedIn v=true)(h:Q v {s with toks:=s.toks+1}):wpAny (model prog w) A (getAttr (.ref x) name expr) Q E s:=
 get_value X I (plainGet_of hg).1 (findObj_own hh ha rfl hl) hv h
def ledger(h:Heap)(L d:Addr):List (Addr×Obj):=(zA3 h.objs.size).filterMap λ a=>if a=L\/a=d then none else(h.get? a).map λ o=>(a,o)
end
end Att
namespace L2
open PySem PySem.Spec PyProof.Rows
theorem wg:∀{vs:List Value} {ns:List Int},zBH vs ns->Vals (ns.map V.int) vs
 |_,_,.nil=>.nil
 |_,_,.cons n t h=>.cons ⟨t,rfl⟩ (wg h)
def Only(H:Hp):Prop:=∀b,H b=none\/∃o xs,H b=some (.frz o (.lst xs))
def aEg{P:zA2}{w:World}{K:zAA}{mg mb:Str->Option Value}{CX:CXT}{k:Nat}{fa a:Addr}{fd:zA8}{x:Str}{sp:Sp}{zD:zAH}{vs:List Value}{ns:List Int}
  (KX:K.In zD.heap)(hns:zD.heap.Ns zA7 mg)(hb:zD.heap.Ns zH6 mb)(hbb:∀x:Str,x≠"__name__"->mb x=zAo x)(hlim:zD.heap.NoLimit)(hg:zD.gens=#[])
  (ha:zD.heap.get? a=some {cls:=.type "list",data:=.seq vs.toArray})(hi:zBH vs ns)(hl:ns.length<=zAP)(hr:jG k zEX)
  (F:∀base:Heap,K.In base->base.Ns zA7 mg->bz P w K mg base CX k fa fd [x] sp)(hbind:∀(s:zAH) (u:Value),zEn s fd ⟨[u],[]⟩ [(x,u)])
  (hsp:∀H:Hp,Only H->SqL K H a (ns.map V.int)->sp [.ref a] H (λ v _=>v= .bl true) λ _ _ _=>False)
  (hCX:∀H e s',CX [] H zD (λ _ _ _=>False) e s'->False):
  zCM (model P w) zEX (.call (.ref fa) ⟨[.ref a],[]⟩) (λ r s'=>r= .ok (.ret (.bool true))/\OldK zD.heap s'.heap/\s'.os=zD.os/\zDv s'.gens) zD:=by
 have rv:=wg hi;have lenV:=hi.length;have core:∀H:Hp,Only H->SqL K H a (ns.map V.int)->HOk P w H zD.heap->(∀b,H b≠none->b=a)->(H a≠none->K.lookup a=none)->
   zCM (model P w) zEX (.call (.ref fa) ⟨[.ref a],[]⟩) (λ r s'=>r= .ok (.ret (.bool true))/\OldK zD.heap s'.heap/\s'.os=zD.os/\zDv s'.gens) zD:=by
  intro H hO hS hok hA hK;have base_of:∀{b:Addr} {o:Obj},zD.heap.get? b=some o->H b=none->(zK zD.heap H).get? b=some o:=λ e n=>aFB e n
  have noA:∀{b:Addr} {o:Obj} {es:Array DictEntry} {ep:Nat},zD.heap.get? b=some o->o.data= .dict es ep->H b=none:=λ{b o es ep} e d=>by
   cases q:H b with
   |none=>rfl
   |some u=>
    have e':b=a:=hA b (by rw[q];simp);subst e';rw[ha]at e;cases e;have d':Data.seq vs.toArray _=Data.dict es ep:=d;cases d'
  have nsK:∀{b:Addr} {m:Str->Option Value},zD.heap.Ns b m->(zK zD.heap H).Ns b m:=λ{b m} ⟨o,es,ep,e,d,r⟩=>⟨o,es,ep,base_of e (noA e d),d,r⟩
  have hKb:K.In (zK zD.heap H):=λ b o e=>base_of (KX b o e) (by
   cases q:H b with
   |none=>rfl
   |some u=>
    have e':b=a:=hA b (by rw[q];simp);subst e';rw[hK (by rw[q];simp)]at e;cases e)
  have hM:Mod K mg (zK zD.heap H):=⟨hKb,nsK hns,⟨mb,nsK hb,hbb⟩,let⟨mc,h1,h2⟩:=hlim;⟨mc,nsK h1,h2⟩⟩;have e0:aFg P w K mg (zK zD.heap H) zEX [] zD H:=⟨rfl,hM,λ b o e=>aGj e,zFq (aDK _ _),trivial,λ b hb=>absurd (show b∈([]:List Addr)from hb) (by simp),hok,.of_eq hg⟩;refine zEA ((F _ hKb (nsK hns)).run zEX [] zD H ⟨[.ref a],[]⟩ [.ref a] [.ref a] _ _ hr e0 (hbind zD (.ref a)) (.cons rfl .nil) (hsp H hO hS)) λ r s' h=>?_
  cases r with
  |error e=>exact(hCX H e s' h).elim
  |ok fl=>
   cases fl with
   |next=>exact zAJ h
   |brk=>exact zAJ h
   |cont=>exact zAJ h
   |ret u=>
    obtain⟨v,H',os,bare,un,hok',r',q⟩:=h;have q':v= .bl true:=q;subst q';obtain rfl:u=zDm true:=r';refine⟨rfl,OldK.of_keep λ b o e=>?_,os,bare⟩;cases q:H b with
    |none=>exact un.keep b o e q (by intro z;exact absurd (show b∈([]:List Addr)from z) (by simp)) (by simp)
    |some u=>
     rcases hO b with z|⟨ob,xs,z⟩
     .rw[q]at z;cases z
     .have z2:=un.frzs b ob _ z
      obtain⟨e1,_⟩:=hok b _ z;obtain⟨e2,_⟩:=hok' b _ z2;rw[e]at e1;cases e1;exact e2
 cases hk:K.lookup a with
 |some o=>
  have e:=KX a o hk;rw[ha]at e;cases e;refine core (λ _=>none) (λ _=>.inl rfl) (.inr ⟨_,vs.toArray,_,hk,rfl,rfl,rfl,by rw[zAG,lenV];exact hl,by simpa using rv⟩) (λ b u z=>by have z':(none:Option HO)=some u:=z;cases z') (λ b z=>absurd rfl z) λ z=>absurd rfl z
 |none=>
  refine core (λ b=>if b=a then some (.frz {cls:=.type "list",data:=.seq vs.toArray} (.lst (ns.map V.int)))else none) (λ b=>?_) (.inl (.inr ⟨{cls:=.type "list",data:=.seq vs.toArray},if_pos rfl⟩)) (λ b u z=>?_) (λ b z=>?_) λ _=>hk
  .by_cases hb:b=a
   .exact .inr ⟨_,_,if_pos hb⟩
   .exact .inl (if_neg hb)
  .by_cases hb:b=a
   .have z':=(if_pos hb).symm.trans z
    cases z';subst hb;exact⟨ha,by rw[zAD];exact hl,vs,_,rv,ha⟩
   .have z':=(if_neg hb).symm.trans z
    cases z'
  .by_cases hb:b=a
   .exact hb
   .exact absurd (if_neg hb) z
def aFm{l:zEV}{n k:Nat}{q:zA2}{loose:List Str}{XP:(Str->Option Value)->Heap->Prop}{YP:World->Heap->Prop}{d:DefRec}{K:Params->zAA}{CX:World->CXT}{sp:World->Sp}{x:Str}
  (hn:l.most=some n)(hn2:n<=zAP)(hdf:d.params.defaults=[])(hr:jG k zEX)
  (hY:∀(w:World) (h:Heap),YP w h->(K w.params).In h)
  (F:∀(w:World) (mg:Str->Option Value) (fa:Addr) (h:Heap),(K w.params).In h->h.Ns zA7 mg->mg d.name=some (.ref fa)->
   ∃fd:zA8,(∀(s:zAH) (u:Value),zEn s fd ⟨[u],[]⟩ [(x,u)])/\
    ∀base:Heap,(K w.params).In base->base.Ns zA7 mg->bz l.prog w (K w.params) mg base (CX w) k fa fd [x] (sp w))
  (hsp:∀(w:World) (H:Hp) (a:Addr) (ns:List Int),ns.length<=n->Only H->SqL (K w.params) H a (ns.map V.int)->sp w [.ref a] H (λ v _=>v= .bl true) λ _ _ _=>False)
  (hCX:∀(w:World) (H:Hp) (s:zAH) (e:Value) (s':zAH),CX w [] H s (λ _ _ _=>False) e s'->False):
  zGn q loose XP YP l.row.toRowW d [] (λ f vs=>zGM f vs):=by
 refine Att.aAq hn hdf λ w z0 zD mg mb fa o pm cd doc a vs ns G Y ho hd hcd hmg hobj hints hlen hg=>?_
 have KX:=hY w _ Y;obtain⟨fd,hb,hF⟩:=F w mg fa _ KX G.T.g hmg;exact aEg KX G.T.g G.T.b G.T.builtins G.T.nolimit hg hobj hints (zA5 hlen hn2) hr hF hb (λ H hO hS=>hsp w H a ns hlen hO hS) λ H e s'=>hCX w H zD e s'
def nP(s:Stmt):zG9:=match s with
 | .FunctionDef _ a _ _ _ _ _ _ _ _=>a
 |_=>{posonlyargs:=[],args:=[],vararg:=none,kwonlyargs:=[],kw_defaults:=[],kwarg:=none,defaults:=[]}
def gK(s:Stmt):List Stmt:=match s with
 | .FunctionDef _ _ b _ _ _ _ _ _ _=>b
 |_=>[]
def aP(s:Stmt):Scope:=match s with
 | .FunctionDef _ _ _ _ _ _ sc _ _ _=>sc
 |_=>{kind:=.function,names:=[],isGenerator:=false,isCoroutine:=false}
abbrev CX0:CXT:=λ _ _ _ _ _ _=>False
abbrev E0:XK:=λ _ _ _=>False
structure Fun(K:zAA)(x qual:Str)(st:Stmt)(f:Addr)(fd:zA8):Prop where
 ex:∃(oc:Value) (od:Option Addr) (kV doc pm:Value) (an:Option Addr) (cdv ct:Value) (osl:Array (Option Value)),
  fd=zBn x qual (nP st) (gK st) (aP st) .none kV doc pm an cdv ct/\K.lookup f=some ⟨oc,od,.func fd,osl⟩/\zDG K cdv qual=true
 kp:zCb K (.ref f)=true
section
variable{K:zAA}
def Fun.binds{x qual:Str}{st:Stmt}{f:Addr}{fd:zA8}{ps:List Str}(F:Fun K x qual st f fd)
  (h:∀(kV doc pm:Value) (an:Option Addr) (cdv ct:Value) (us:List Value),us.length=ps.length->bindArgs (zBn x qual (nP st) (gK st) (aP st) .none kV doc pm an cdv ct) ⟨us,[]⟩=pure (ps.zip us)):Binds K fd ps []:=by
 obtain⟨oc,od,kV,doc,pm,an,cdv,ct,osl,rfl,lk,hcd⟩:=F.ex;exact .all (h kV doc pm an cdv ct)
def aJ8{x qual:Str}{st:Stmt}{f:Addr}{oc:Value}{od an:Option Addr}{osl:Array (Option Value)}{kV doc pm cdv ct:Value}(l:K.lookup f=some ⟨oc,od,.func (zBn x qual (nP st) (gK st) (aP st) .none kV doc pm an cdv ct),osl⟩)
  (c:zDG K cdv qual=true)(k:zCb K (.ref f)=true):Fun K x qual st f (zBn x qual (nP st) (gK st) (aP st) .none kV doc pm an cdv ct):=⟨⟨oc,od,kV,doc,pm,an,cdv,ct,osl,rfl,l,c⟩,k⟩
end
def aU(H H':Hp):Prop:=∀b o,H b=some o->H' b=some o
def aU.refl(H:Hp):aU H H:=λ _ _ h=>h
def aU.trans(a:aU H H1)(b:aU H1 H2):aU H H2:=λ c o h=>b c o (a c o h)
def aU.free(e:aU H H')(h:H' l=zHM):H l=zHM:=by
 cases q:H l with
 |none=>rfl
 |some o=>
  rw[e l o q]at h;cases h
end L2
set_option maxHeartbeats 4000000
namespace HT
open PySem PyProof.Rows
def lexLe:List Int->List Int->Bool
 |[],_=>true
 |_::_,[]=>false
 |x::xs,y::ys=>if x=y then lexLe xs ys else decide (x<=y)
def aBe(x y:Int)(xs ys:List Int):lexLe (x::xs) (y::ys)=if x=y then lexLe xs ys else decide (x<=y):=rfl
def aDz(A:zAm)(s:zAH)(a:Int)(t:Tok)(c:Int)(u:Tok)(prog:zA2)(w:World)(E:Value->zAH->Prop)(Q:Value->zAH->Prop)(h:Q (.bool (decide (a<=c))) s):
  wpAny (model prog w) A (richCompare .LtE (.int a t) (.int c u)) Q E s:=
 (PyProof.Rows.le_int h:wpAny (model prog w) A (zAr .LtE (.int a t) (.int c u)) Q E s)
section
open PySem.SeqAt
open PySem.AutoSeq1(wpAny_loadPart')
open PySem.MeetsSeq PySem.MeetsSeq2 PySem.MeetsSeq3
def wC(l b:Addr)(items items2:Array Value)(n n2:Nat)(dd dd2:Option Addr)(sl sl2:Array (Option Value))(ns ms:List Int)(hi:zBH items.toList ns)(hj:zBH items2.toList ms):
  Meets (zDw.«tuple.__le__» ⟨[.ref l,.ref b],[]⟩)
   (λ _ R s=>s.heap.get? l=some {cls:=.type "tuple",dict:=dd,data:=.seq items n,slots:=sl}/\s.heap.get? b=some {cls:=.type "tuple",dict:=dd2,data:=.seq items2 n2,slots:=sl2}/\
    R (.ok (.ret (.bool (lexLe ns ms)))) s):=
 .of_wp λ prog w A R s h=>by
  obtain⟨hp,g,d,tk,os⟩:=s;obtain⟨hl,hb,h⟩:=h;have f2:=zE7;have z1:items.size=ns.length:=by rw[<-hi.length];simp
  have z2:items2.size=ms.length:=by rw[<-hj.length];simp
  wp_walk using zEF hl,zEF hb,wpAny_forIn_list _ (λ rest b s'=>b.1=none/\s'=⟨hp,g,d,tk,os⟩/\∃(vs ws:List Value) (ns' ms':List Int),rest=vs.zip ws/\
   zBH vs ns'/\zBH ws ms'/\ns'.length+items2.size=ms'.length+items.size/\R (.ok (.ret (.bool (lexLe ns' ms')))) ⟨hp,g,d,tk,os⟩) _
  case turn=>
   rintro⟨y,x⟩ rest b s' ⟨hb',rfl,vs,ws,ns',ms',hz,hvi,hwi,hlen,hR⟩;cases hvi with
   |nil=>rw[zGZ]at hz;cases hz
   |cons a t hvi'=>
    cases hwi with
    |nil=>rw[zGJ]at hz;cases hz
    |cons c u hwi'=>
     rw[zBg]at hz;injection hz with hyx hrest
     injection hyx with hy hx
     subst hy hx;rw[aBe]at hR;simp only[zAf]at hlen;obtain⟨e,he,hiff⟩:=aAh A.in1 ⟨hp,g,d,tk,os⟩ a t c u;refine zAC (he prog w _ _ ?_);cases e with
     |true=>
      rw[if_pos (hiff.mp rfl)]at hR;wp_walk;exact⟨rfl,rfl,_,_,_,_,hrest,hvi',hwi',by lia,hR⟩
     |false=>
      rw[if_neg (λ q=>absurd (hiff.mpr q) zAY)]at hR;have hri:=aDz A.in1 ⟨hp,g,d,tk,os⟩ a t c u prog w;wp_walk using hri;exact⟨_,rfl,by simpa using hR⟩
  case fin=>
   rintro⟨b1,b2⟩ s' ⟨hb',rfl,vs,ws,ns',ms',hz,hvi,hwi,hlen,hR⟩;simp only at hb';subst hb';have hv:lexLe ns' ms'=decide (items.size<=items2.size):=by
    cases hvi with
    |nil=>
     simp only[zBm]at hlen;have e:lexLe [] ms'=true:=by cases ms'<;>rfl
     rw[e];exact(decide_eq_true (by lia)).symm
    |cons a t hv=>
     cases hwi with
     |nil=>
      simp only[zBm,zAf]at hlen;show false=_;exact(decide_eq_false (by lia)).symm
     |cons c u hw=>
      rw[zBg]at hz;cases hz
   rw[hv]at hR;wp_walk;exact⟨_,rfl,by simpa[zDc]using hR⟩
  case h=>
   exact⟨rfl,rfl,items.toList,items2.toList,ns,ms,rfl,hi,hj,by lia,h⟩
end
section
variable{prog:zA2}{w:World}{A:zAm}{E:Value->zAH->Prop}{s:zAH}
def aBf(hl:IsTup s.heap l items)(hb:IsTup s.heap b items2)(hi:zBH items.toList ns)(hj:zBH items2.toList ms)
  (hu:A.units<cLine)(h:Q (.bool (lexLe ns ms)) s):wpAny (model prog w) A (zAr .LtE (.ref l) (.ref b)) Q E s:=by
 obtain⟨⟨cls,dd,data,sl⟩,ho,hc,n,hd⟩:=id hl;obtain⟨⟨cls2,dd2,data2,sl2⟩,ho2,hc2,n2,hd2⟩:=id hb;simp only at hc hd hc2 hd2;subst hc hd hc2 hd2;exact zG6 (op:=.LtE) ⟨_,ho,rfl⟩ ⟨_,ho2,rfl⟩ PySem.F.slot_tuple_le PySem.F.entry_tuple_le (PySem.F.args_tuple_le_2 _ _) (wC l b items items2 n n2 dd dd2 sl sl2 ns ms hi hj)
  ⟨ho,ho2,show zDm (lexLe ns ms)≠zFj/\Q (.bool (lexLe ns ms)) s from⟨(λ x=>nomatch x),h⟩⟩ hu
def aF0{ws:List Value}(ht:IsTup s.heap t #[])(hb:IsTup s.heap b ws.toArray)(h1:Q (.ref b) s):wpAny (model prog w) A (zBs .Add (.ref t) (.ref b)) Q E s:=by
 obtain⟨⟨cls,dd,data,sl⟩,ho,hc,n,hd⟩:=id ht;obtain⟨⟨cls2,dd2,data2,sl2⟩,ho2,hc2,n2,hd2⟩:=id hb;simp only at hc hd hc2 hd2;subst hc hd hc2 hd2;exact zGr ⟨_,ho,rfl⟩ ⟨_,ho2,rfl⟩ zFP zGQ zDY zDO (zDJ _ _)
   (tuple_addW0 t b #[] ws.toArray n n2 dd dd2 sl sl2 (by simp)) ⟨ho,ho2,h1⟩
def qG{lo hi:Option Int}(ht:IsTup s.heap t items)(hs:s.heap.IsSliceOf sl vl vu .none)(pl:zFD vl lo)(pu:zFD vu hi)
  (h1:sIx items.size 0 lo=0)(h2:sIx items.size items.size hi=items.size)
  (h:Q (.ref t) s):wpAny (model prog w) A (zEC (.ref t) (.ref sl)) Q E s:=by
 obtain⟨os,hos,hcs,hds⟩:=id hs;have hTs:s.TypeIs (.ref sl) "slice":=⟨os,hos,hcs⟩;obtain⟨ot,hot,hct,hdt⟩:=id ht;unfold zEC
 try with_reducible refine zB6 ?_
 first|refine zAC (zAF ?_)|skip
 refine zAC (zFA ht.typeIs (by decide) ?_);refine zAC (zBb (name:=zDN "__getitem__") ht.typeIs zAi
  (zBQ zAi ht.typeIs zEY ?_ (zE9 _ _)))
 show wpAny _ _ (zCg (.ref t)>>=_) _ _ s;refine zAC (zGT ht ?_);refine zAC (zD6 hTs ?_);rw[if_pos (by decide)];refine zAC (jh hs pl pu ?_);have hyes:(((sIx items.size 0 lo:Nat):Int)==0&&(1:Int)==1&&(sIx items.size items.size hi-sIx items.size 0 lo)==items.size)=true:=by
  rw[h1,h2];simp
 show wpAny _ _ (if (((sIx items.size 0 lo:Nat):Int)==0&&(1:Int)==1&&(sIx items.size items.size hi-sIx items.size 0 lo)==items.size)=true then _ else _) _ _ s;rw[if_pos hyes];unfold zHV;refine zAC (zAC (zD6 ht.typeIs (zAF ?_)));rw[if_pos (by decide)];exact zAC (zGF (zAF ⟨_,rfl,zAF h⟩))
def aBP(n:Nat):zBT none none (-1) (n:Int)=((n:Int)-1,-1):=by
 unfold zBT;rfl
def aBO(n:Nat):zAx ((n:Int)-1) (-1) (-1)=n:=by
 unfold zAx;rw[if_neg (by decide)];by_cases h:n=0
 .subst h;rfl
 .rw[if_pos (by lia)]
  have e:((n:Int)-1 - -1-1) / (- -1)+1=n:=by
   rw[show(- -1:Int)=1 by decide,Int.ediv_one];lia
  rw[e];simp
def aDv(xs:Array Value):((zA3 xs.size).filterMap λ(m:Nat)=>xs[(((xs.size:Int)-1)+(m:Int)*(-1)).toNat]?)=xs.toList.reverse:=by
 apply zER;intro i;have key:∀n,n<=xs.size->((zA3 n).filterMap λ(m:Nat)=>xs[(((xs.size:Int)-1)+(m:Int)*(-1)).toNat]?)=xs.toList.reverse.take n:=by
  intro n;induction n with
  |zero=>intro _;simp
  |succ n ih=>
   intro hn;rw[zGv,List.filterMap_append,ih (by lia),zGY];congr 1;have e:(((xs.size:Int)-1)+(n:Int)*(-1)).toNat=xs.size-1-n:=by lia
   simp only[zBM,List.filterMap_nil,e];rw[List.getElem?_reverse (by rw[zAW];lia)];have e2:xs.toList.length-1-n=xs.size-1-n:=by simp
   rw[e2,zB4];have hlt:xs.size-1-n<xs.size:=by lia
   rw[zCT hlt];rfl
 rw[key xs.size (zAO _),List.take_of_length_le (by simp)]
def qj{n:Nat}(hs:s.heap.IsSliceOf sl .none .none (.int (-1) u))
  (h:Q ((n:Int)-1,-1,n) s):wpAny (model prog w) A (zBx (.ref sl) (pure (n:Int))) Q E s:=by
 obtain⟨os,hos,hcs,hds⟩:=id hs;unfold zBx zDx;refine zAC (zAC (zDS hos hds (x:=.none) rfl (zAC (zDS hos hds (x:=.none) rfl (zAC (zDS hos hds (x:=.int (-1) u) rfl (zAF ?_)))))));refine zAC (slicePart_int ?_);show wpAny _ _ (if ((-1:Int)==0)=true then _ else _) _ _ s;rw[if_neg (by decide)];refine zAC (zET (zAC (zET (zAC (zAF ?_)))));show wpAny _ _ (match zBT none none (-1) (n:Int)with|(lo,hi)=>pure (lo,(-1:Int),zAx lo hi (-1))) _ _ s;rw[aBP n];show wpAny _ _ (pure ((n:Int)-1,(-1:Int),zAx ((n:Int)-1) (-1) (-1))) _ _ s;rw[aBO];exact zAF h
def qD(ht:IsTup s.heap t items)(hs:s.heap.IsSliceOf sl .none .none (.int (-1) u))
  (h:Q (.ref s.heap.objs.size) {s with heap:=s.heap.push {cls:=.type "tuple",data:=.seq items.toList.reverse.toArray}})
  (hsz:items.size<=zAP):wpAny (model prog w) A (zEC (.ref t) (.ref sl)) Q E s:=by
 have htake:sizeOk (.seq items.toList.reverse.toArray):=by
  show items.toList.reverse.toArray.size<=zAP;rw[zAG,zDC,zAW];lia
 obtain⟨os,hos,hcs,hds⟩:=id hs;have hTs:s.TypeIs (.ref sl) "slice":=⟨os,hos,hcs⟩;unfold zEC
 try with_reducible refine zB6 ?_
 first|refine zAC (zAF ?_)|skip
 refine zAC (zFA ht.typeIs (by decide) ?_);refine zAC (zBb (name:=zDN "__getitem__") ht.typeIs zAi
  (zBQ zAi ht.typeIs zEY ?_ (zE9 _ _)))
 show wpAny _ _ (zCg (.ref t)>>=_) _ _ s;refine zAC (zGT ht ?_);refine zAC (zD6 hTs ?_);rw[if_pos (by decide)];refine zAC (qj hs ?_);show wpAny _ _ (if (((items.size:Int)-1==0&&(-1:Int)==1&&items.size==items.size))=true then _ else _) _ _ s;rw[if_neg (by simp)];rw[show((zA3 items.size).filterMap λ(k:Nat)=>items[(((items.size:Int)-1)+(k:Int)*(-1)).toNat]?)=items.toList.reverse from aDv items]
 first
  |exact zAC (m:=zBB _) (zAv (zAF ⟨_,rfl,zAF h⟩) htake)
  |exact zAC (m:=zBB _) (zAv (zAC (zAF (zAF ⟨_,rfl,zAF h⟩))) htake)
  |exact zAC (zAC (m:=zBB _) (zAv (zAF (zAF ⟨_,rfl,zAF h⟩)) htake))
  |exact zAC (zAC (m:=zBB _) (zAv (zAF ⟨_,rfl,zAF h⟩) htake))
end
end HT
namespace L2
open PySem PySem.Spec PyProof.Rows
def aGs(t T:String):Bool:=decide (t=T)||(decide (t="bool")&&decide (T="int"))
def aGr{K:zAA}(ht:t∈["NoneType","bool","int","str","list","tuple","dict"])(hT:T∈["bool","int","str","list","tuple","dict"]):
  zCc K (.type t) (.type T)=some (aGs t T):=by
 simp only[zAR,zCs,or_false]at ht hT;rcases ht with rfl|rfl|rfl|rfl|rfl|rfl|rfl<;>rcases hT with rfl|rfl|rfl|rfl|rfl|rfl<;>kernel_rfl
def nq(t T:String)(b:Bool):Bool:=decide (t∈["NoneType","bool","int","str","list","tuple","dict"])&&decide (T∈["bool","int","str","list","tuple","dict"])&&(aGs t T==b)
def aBi{K:zAA}(h:nq t T b=true):zCc K (.type t) (.type T)=some b:=by
 unfold nq at h;rw[zAQ,zAQ]at h;rw[aGr (of_decide_eq_true h.1.1) (of_decide_eq_true h.1.2),zEB h.2]
def aq(h:H p=none)(o:HO):aU H (upd H p o):=λ b u q=>by rw[aj (bu q h)];exact q
section
variable{X:Cx}
def aKz(K:zAA):List V->Hp->VK->Prop:=λ xs H Q=>∃x T t b,xs=[x,.ty T]/\sG K H x (.type t)/\nq t T b=true/\Q (.bl b) H
def kI:dI X (.builtin "isinstance") (aKz X.K):=by
 intro pins s Z H xs us Q I r h;obtain⟨x,T,t,b,rfl,ty,ok,q⟩:=h;obtain⟨u,w',rfl,r1,r2⟩:=vals2 r;obtain rfl:w'=zC3 T:=r2;exact aDF I r1 ty (aBi ok) λ tk=>⟨.bl b,H,I.tok tk,rfl,q⟩
def aGN(K:zAA):R2:=λ x y H Q=>∃a b ns ms,x= .ref a/\y= .ref b/\SqT K H a (ns.map V.int)/\SqT K H b (ms.map V.int)/\Q (.bl (HT.lexLe ns ms)) H
def aIw(hu:X.A.units<cLine):OpR X (zAr .LtE) (aGN X.K):=by
 intro pins s Z H x y v u Q I rx ry h;obtain⟨a,b,ns,ms,rfl,rfl,ha,hb,q⟩:=h;cases rx;cases ry;obtain⟨its,r1,p1,_⟩:=I.tuple ha;obtain⟨its2,r2,p2,_⟩:=I.tuple hb;have i1:zBH its.toArray.toList ns:=intsAre_of r1;have i2:zBH its2.toArray.toList ms:=intsAre_of r2;exact HT.aBf p1 p2 i1 i2 hu ⟨.bl (HT.lexLe ns ms),H,I,rfl,q⟩
def aE5:OpR X (zAr .Is) (λ x y H Q=>∃b c,x= .bl b/\y= .bl c/\Q (.bl (b==c)) H):=by
 intro pins s Z H x y v u Q I rx ry h;obtain⟨b,c,rfl,rfl,q⟩:=h;cases rx;cases ry;exact is_bool (aFO I q rfl)
def Inv.big'(I:Inv X pins Z H s):zDe<s.heap.objs.size:=by
 have h:zA7<s.heap.objs.size:=(I.mod.glob.keeps I.bk).lt;exact zE2 (by decide) h
def aJv:TE:=λ _ H Q=>∀p,H p=none->Q (.ref p) (upd H p (.dK []))
def aG4:PE X (.Dict [] [] pos) aJv:=λ pins s Z H Q I h=>
 wpAny_Dict_empty ⟨.ref s.heap.objs.size,_,I.laid (a:=s.heap.objs.size) (o:=.dK []) (t':=s.toks) (λ _ _ q=>zAE _ q) (zAO _)
  ⟨zAc _,beq_eq_false_iff_ne.mpr (zDH (zA6 I.big')),[],.nil,Heap.DictOf.new s.heap⟩,rfl,h _ (I.hok.fresh (zAO _))⟩
end
def iC(l:Addr)(H H':Hp):Prop:=∀b o,b≠l->H b=some o->H' b=some o
def aU.sqt{K:zAA}(e:aU H H')(h:SqT K H a xs):SqT K H' a xs:=by
 rcases h with (h|⟨o,h⟩)|h
 .exact .inl (.inl (e _ _ h))
 .exact .inl (.inr ⟨o,e _ _ h⟩)
 .exact .inr h
inductive D where
 |non|bl (b:Bool)|int (i:Int)|str (x:Str)|tup (l:List D)|lst (l:List D)|dct
mutual
inductive Rep(H:Hp):V->D->Prop where
 |non:Rep H .non .non
 |bl (b:Bool):Rep H (.bl b) (.bl b)
 |int (i:Int):Rep H (.int i) (.int i)
 |str (x:Str):Rep H (.str x) (.str x)
 |tup {a:Addr} {xs:List V} {ds:List D} (h:H a=some (.tup xs)) (r:aFb H xs ds):Rep H (.ref a) (.tup ds)
 |lst {a:Addr} {xs:List V} {ds:List D} (h:H a=some (.lst xs)) (r:aFb H xs ds):Rep H (.ref a) (.lst ds)
 |dct {a:Addr} (h:H a=some (.dK [])):Rep H (.ref a) .dct
inductive aFb(H:Hp):List V->List D->Prop where
 |nil:aFb H [] []
 |cons {x:V} {d:D} {xs:List V} {ds:List D} (h:Rep H x d) (r:aFb H xs ds):aFb H (x::xs) (d::ds)
end
def PE.weaken(h:PE X e t)(imp:∀Z H Q,t' Z H Q->t Z H Q):PE X e t':=λ pins s Z H Q I q=>h pins s Z H Q I (imp Z H Q q)
def OpR.weaken(h:OpR X f r)(imp:∀x y H Q,r' x y H Q->r x y H Q):OpR X f r':=λ pins s Z H x y v u Q I rx ry q=>h pins s Z H x y v u Q I rx ry (imp x y H Q q)
def New(H:Hp)(o:HO)(Q:VK):Prop:=∀p H',aU H H'->H' p=some o->H p=none->Q (.ref p) H'
def New.at(n:New H o Q)(hp:H p=none):Q (.ref p) (upd H p o):=n p _ (aq hp o) aY hp
section
variable{X:Cx}{es:List Expr}{t:TA}{pos:Pos}
def aJr(t:TA):TE:=λ Z H Q=>t Z H λ xs H1=>xs.length<=zAP/\New H1 (.tup xs) Q
def aH8(t:TA):TE:=λ Z H Q=>t Z H λ xs H1=>xs.length<=zAP/\New H1 (.lst xs) Q
def aG0{x1}(h:PA X es t):PE X (.Tuple es x1 pos) (aJr t):=by
 have h':PA X es (λ Z H Q=>∃R:List V->Hp->Prop,t Z H R/\∀xs H',R xs H'->Q xs H'):=by
  intro pos pins s Z H Q I ⟨R,q,imp⟩;exact thn (h pos pins s Z H R I q) λ us s' ⟨vs,H',I',r,q'⟩=>⟨vs,H',I',r,imp _ _ q'⟩
 exact(aIc h').weaken λ Z H Q q=>⟨_,q,λ xs H' ⟨z,n⟩=>⟨z,λ p hp=>n.at hp⟩⟩
def yf(h:PA X es t):PE X (.List es pos) (aH8 t):=by
 have h':PA X es (λ Z H Q=>∃R:List V->Hp->Prop,t Z H R/\∀xs H',R xs H'->Q xs H'):=by
  intro pos pins s Z H Q I ⟨R,q,imp⟩;exact thn (h pos pins s Z H R I q) λ us s' ⟨vs,H',I',r,q'⟩=>⟨vs,H',I',r,imp _ _ q'⟩
 exact(aIi h').weaken λ Z H Q q=>⟨_,q,λ xs H' ⟨z,n⟩=>⟨z,λ p hp=>n.at hp⟩⟩
def aII:TE:=λ _ H Q=>New H (.dK []) Q
def aEU:PE X (.Dict [] [] pos) aII:=aG4.weaken λ Z H Q n p hp=>n.at hp
def aHl:R2:=λ x y H Q=>∃l b xs zs,x= .ref l/\y= .ref b/\H l=some (.lst xs)/\H b=some (.lst zs)/\xs.length+zs.length<=zAP/\New H (.lst (xs++zs)) Q
def aGh:OpR X (zBs .Add) aHl:=aJB.weaken λ x y H Q ⟨l,b,xs,zs,e1,e2,h1,h2,z,n⟩=>⟨l,b,xs,zs,e1,e2,h1,h2,z,λ p hp=>n.at hp⟩
def ue:V->List V->Hp->VK->Prop:=λ x vs H Q=>∃l xs y,x= .ref l/\vs=[y]/\H l=some (.lst xs)/\xs.length<zAP/\∀H',iC l H H'->H' l=some (.lst (xs++[y]))->Q .non H'
def ux:MtM X "list.append" ue:=λ pins s Z H x xs v us Q I rx rv ⟨l,ys,y,e1,e2,h,z,n⟩=>
 rK pins s Z H x xs v us Q I rx rv ⟨l,ys,y,e1,e2,h,z,n _ (λ b o ne hb=>by rw[aj ne];exact hb) aY⟩
end
def bR(scope:Scope)(env:Env):List (Str×Addr):=(scope.names.filterMap λ y=>if y.2== .free then(env.cells.lookup y.1).map λ c=>(y.1,c)else none).reverse
theorem vm(env:Env):∀(names:List (Str×zDI)) (acc:List (Str×Addr)),(∀y∈names,y.2= .free->∃c,env.cells.lookup y.1=some c)->
  (forIn names acc λ(x:Str×zDI) r=>if (x.2== .free)=true then do let c <-cellOf env x.1;pure (zBY ((x.1,c)::r))else pure (zBY r):Sem (List (Str×Addr)))=
   pure ((names.filterMap λ y=>if y.2== .free then(env.cells.lookup y.1).map λ c=>(y.1,c)else none).reverse++acc)
 |[],acc,_=>rfl
 |(n,k)::r,acc,h=>by
  rw[List.forIn_cons];have ih:=λ acc'=>vm env r acc' λ y hy=>h y (zAM _ hy)
  by_cases hk:k= .free
  .subst hk
   obtain⟨c,hc⟩:=h (n,.free) zAN rfl;have hc':env.cells.lookup n=some c:=hc;simp only[beq_self_eq_true,if_true,cellOf,hc',zBM,zCC,zCf,zBO,zFe];exact ih _
  .have hb:(k==zBc)=false:=by simpa using hk
   simp only[hb,zAs,if_false,zBM];exact ih _
def je(h:∀y∈scope.names,y.2= .free->∃c,env.cells.lookup y.1=some c):zEt scope env=pure (bR scope env):=by
 have e:=vm env scope.names [] h;rw[zAg]at e;have e2:zEt scope env=((forIn scope.names ([]:List (Str×Addr)) λ(x:Str×zDI) r=>if (x.2== .free)=true then do let c <-cellOf env x.1;pure (zBY ((x.1,c)::r))else pure (zBY r):Sem (List (Str×Addr)))>>=λ r=>pure r):=rfl;rw[e2,e];rfl
def tE(h:(bR scope env).lookup x=some c):env.cells.lookup x=some c:=by
 have hm:=zAk h;unfold bR at hm;rw[zBf,zCA]at hm;obtain⟨y,hy,e⟩:=hm;split at e
 .cases q:env.cells.lookup y.1 with
  |none=>rw[q]at e;cases e
  |some c'=>
   rw[q]at e;have e':=zA9 e;injection e' with e1 e2
   subst e1 e2;exact q
 .cases e
def aAp(hx:scope.names.lookup x=some .free)(h:env.cells.lookup x=some c):(bR scope env).lookup x=some c:=by
 have hm:(x,zBc)∈scope.names:=zAk hx
 have:(x,c)∈bR scope env:=by
  unfold bR;rw[zBf,zCA];exact⟨_,hm,by simp[h]⟩
 cases q:(bR scope env).lookup x with
 |none=>
  exact absurd this (by
   intro hm'
   have:=List.lookup_eq_none_iff.mp q _ hm'
   simp at this)
 |some c'=>
  have:=tE q
  rw[h]at this;exact this.symm▸rfl
def tM(scope:Scope)(C:Addr):List (Str×Addr):=zDP (C+1) scope.names []
theorem kE:∀(names:List (Str×zDI)) (n:Nat) (acc:List (Str×Addr)),zDP n names acc=zDP n names []++acc
 |[],_,_=>rfl
 |(x,k)::r,n,acc=>by
  unfold zDP;split
  .rw[kE r (n+1) ((x,n)::acc),kE r (n+1) [(x,n)],zBO];rfl
  .exact kE r n acc
theorem pI:∀{names:List (Str×zDI)} {n:Nat} {x:Str} {c:Addr},(x,c)∈zDP n names []->(x,zCm)∈names
 |(y,k)::r,n,x,c,h=>by
  unfold zDP at h;split at h
  .rename_i hk
   rw[kE,zAe]at h;rcases h with h|h
   .exact zAM _ (pI h)
   .have e:=zAt.mp h
    cases e;rw[zEB hk];exact zAN
  .exact zAM _ (pI h)
 |[],_,_,_,h=>by cases h
def jr{l m:List (Str×Addr)}(h:(l++m).lookup x=some c):l.lookup x=some c\/(l.lookup x=none/\m.lookup x=some c):=by
 rw[zEH]at h;cases e:l.lookup x with
 |some c'=>rw[e]at h;exact .inl h
 |none=>rw[e]at h;exact .inr ⟨rfl,h⟩
def aCR{M:Model}{A:zAm}{E:Value->zAH->Prop}{s:zAH}{scope:Scope}{globals:Addr}{cl:List (Str×Addr)}{qual:Str}{env:Env}{Q:Env->zAH->Prop}
  (h:∀h':Heap,h'.Ns s.heap.objs.size (λ _=>none)->(∀b o,s.heap.get? b=some o->h'.get? b=some o)->CellsOk h' (s.heap.objs.size+1) (tM scope s.heap.objs.size)->
   Q {scope:=scope,locals:=s.heap.objs.size,globals:=globals,cells:=tM scope s.heap.objs.size++cl,qual:=qual,func:=none,code:=env.code,frame:=env.frame,builtins:=env.builtins} {s with heap:=h'}):
  wpAny M A (zES scope globals cl [] qual none .none (some env)) Q E s:=by
 simp only[zES,Option.isSome_some,if_true];refine zAC (wpAny_alloc ?_);refine zAC (wpAny_layCells _ (λ name kind cells=>by cases hkc:kind==zCm<;>simp[hkc]) _ _ _ _ ?_);have ok:=cellsFrom_ok scope.names (s.heap.push {cls:=.type "dict",data:=.dict #[]}) (s.heap.objs.size+1) [] ⟨λ _ _ hm=>(nomatch hm),zEo⟩ (by rw[zCY];exact zAO _);rw[zCY]at ok;rw[show({s with heap:=s.heap.push {cls:=.type "dict",data:=.dict #[]}}:zAH).heap.objs.size=s.heap.objs.size+1 from zCY ..,kE];refine zAF ?_;exact h _ ((Heap.Ns.new s.heap (.type "dict")).keeps (pushCells_keeps _ _)) (λ b o e=>pushCells_keeps _ _ b o (zAE _ e)) ok
def Cx.block(X:Cx)(scope:Scope)(C:Addr)(N:List Str)(fp:List Addr)(z0:zAH)(zS:Hp):Cx:=
  {prog:=X.prog,w:=X.w,K:=X.K,mg:=X.mg,base:=X.base,A:=X.A,N:=N,z0:=z0,zS:=zS,env:=compEnvC scope (tM scope C++bR scope X.env) C X.env,outer:=X.stack,stack:=X.stack,ex:=fp,
    fn:=λ x=>scope.names.lookup x==some .cell,calm:=X.calm,pn:=[],xe:=λ _ _=>False}
structure cU(X:Cx)(scope:Scope)(N:List Str)(st:St->St)(ks:List Nat):Prop where
 kind:scope.kind= .function
 sep:∀y∈scope.names,y.2= .cell->scope.names.lookup y.1=some .cell
 loc:∀y∈scope.names,y.2= .local->scope.names.lookup y.1=some .local
 free:∀y∈scope.names,y.2= .free->X.env.kindOf y.1=some .cell\/X.env.kindOf y.1=some .free
 len:∀Z,(st Z).length=N.length
 val:∀Z (i:Nat) x v,N[i]? =some x->(st Z)[i]? =some (some v)->scope.names.lookup x=some .free/\i∉ks/\∃j:Nat,X.N[j]? =some x/\Z[j]? =some (some v)
def yc(h:(zEv scope env).names.lookup x=some .cell\/(zEv scope env).names.lookup x=some .free):scope.names.lookup x=some .free\/scope.names.lookup x=some .cell:=by
 have go:∀names:List (Str×zDI),((names.map λ(n,k)=>if (k==zBc&&env.scope.kind== .function&&env.kindOf n==some .cell)then(n,zCm)else(n,k)).lookup x=some .cell\/
   (names.map λ(n,k)=>if (k==zBc&&env.scope.kind== .function&&env.kindOf n==some .cell)then(n,zCm)else(n,k)).lookup x=some .free)->names.lookup x=some .free\/names.lookup x=some .cell:=by
  intro names;induction names with
  |nil=>intro h;simp at h
  |cons y r ih=>
   obtain⟨n,k⟩:=y;intro h;rw[zAT]at h;by_cases hx:x==n
   .rw[zBK,hx]
    show some k=some .free\/some k=some .cell;by_cases hcc:(k==zBc&&env.scope.kind== .function&&env.kindOf n==some .cell)=true
    .rw[zAQ,zAQ]at hcc
     rw[zEB hcc.1.1];exact .inl rfl
    .simp only[if_neg hcc,zBK,hx]at h
     exact h.elim .inr .inl
   .have hx':(x==n)=false:=by simpa using hx
    rw[zBK,hx'];refine ih ?_;by_cases hcc:(k==zBc&&env.scope.kind== .function&&env.kindOf n==some .cell)=true
    .simp only[if_pos hcc,zBK,hx']at h
     exact h
    .simp only[if_neg hcc,zBK,hx']at h
     exact h
 exact go scope.names h
def yd(h:scope.names.lookup x=some .free):(zEv scope env).names.lookup x=some .cell\/(zEv scope env).names.lookup x=some .free:=by
 have go:∀names:List (Str×zDI),names.lookup x=some .free->((names.map λ(n,k)=>if (k==zBc&&env.scope.kind== .function&&env.kindOf n==some .cell)then(n,zCm)else(n,k)).lookup x=some .cell\/
   (names.map λ(n,k)=>if (k==zBc&&env.scope.kind== .function&&env.kindOf n==some .cell)then(n,zCm)else(n,k)).lookup x=some .free):=by
  intro names;induction names with
  |nil=>intro h;simp at h
  |cons y r ih=>
   obtain⟨n,k⟩:=y;intro h;rw[zAT];by_cases hx:x==n
   .rw[zBK,hx]at h
    have hk:k= .free:=zA9 h;by_cases hcc:(k==zBc&&env.scope.kind== .function&&env.kindOf n==some .cell)=true
    .simp only[if_pos hcc,zBK,hx]
     exact .inl trivial
    .simp only[if_neg hcc,zBK,hx]
     exact .inr (by rw[hk])
   .have hx':(x==n)=false:=by simpa using hx
    rw[zBK,hx']at h;by_cases hcc:(k==zBc&&env.scope.kind== .function&&env.kindOf n==some .cell)=true
    .simp only[if_pos hcc,zBK,hx']
     exact ih h
    .simp only[if_neg hcc,zBK,hx']
     exact ih h
 exact go scope.names h
section
variable{X:Cx}{pins:List (Addr×Obj)}{Z:St}{H:Hp}{s:zAH}
theorem Inv.block{st:St->St}{D C:Addr}(I:Inv X pins Z H s)(B:cU X scope N st ks)
  (hfp:∀b∈fp,pL X pins H b)(hob:∀b∈fp,∃ob,s.heap.get? b=some ob)
  (hD:s.heap.objs.size<=D)(hC:s.heap.objs.size<=C)(hDC:D≠C)(keep:∀b u,s.heap.get? b=some u->h'.get? b=some u)(hns:h'.Ns C λ _=>none)(hcs:CellsOk h' (C+1) (tM scope C))(hDo:∀c,C<c->D≠c)(hacc:dD X.prog X.w (upd H D o) h' D o):
  Inv (X.block scope C N fp s H) [] (st Z) (upd H D o) {s with heap:=h',toks:=tk}:=by
 have hHD:H D=none:=I.hok.fresh hD;have hcl:∀x c,(bR scope X.env).lookup x=some c->X.env.cells.lookup x=some c:=λ x c e=>tE e
 have hol:∀x c,(tM scope C).lookup x=some c->C<c/\h'.IsCell c none:=λ x c e=>let⟨q1,q2⟩:=hcs.empty x c (zAk e);⟨q2,q1⟩
 have hlt:∀x c,(bR scope X.env).lookup x=some c->c<s.heap.objs.size:=λ x c e=>let⟨v,ic⟩:=I.cell x c (hcl x c e);ic.lt
 have hfresh:∀b∈fp,b<s.heap.objs.size:=λ b hb=>by
  obtain⟨ob,e⟩:=hob b hb;exact zAS e
 refine⟨⟨I.mod,?_,I.ok.glob,I.ok.blt,hC,λ x y c e1 e2=>?_,λ x hx=>?_,λ x c hf e=>?_,I.ok.hd,I.ok.frames,.inl rfl,λ b hb=>⟨?_,λ x c e z=>?_⟩,
  I.bs,?_,λ b ob e hb=>?_,λ b hb hs=>?_,I.stack,I.stkFree⟩,rfl,I.bare,Un.laid keep hD hHD,⟨_,hns,λ i x v e1 e2 hv=>?_⟩,λ x c e=>?_,?_,λ x c e=>?_,λ p hp=>absurd (show p∈([]:List (Addr×Obj))from hp) (by simp),I.hok.laid keep hD hacc,B.len Z,λ p hp=>absurd (show p∈([]:List (Addr×Obj))from hp) (by simp)⟩
 .show(zEv scope X.env).kind= .function
  exact B.kind
 .rcases jr e1 with a1|⟨_,a1⟩<;>rcases jr e2 with a2|⟨_,a2⟩
  .exact PySem.name_of_addr hcs.apart (zAk a1) (zAk a2)
  .exact absurd (hlt y c a2) (zFV.mpr (zA5 hC (zBP (hol x c a1).1)))
  .exact absurd (hlt x c a1) (zFV.mpr (zA5 hC (zBP (hol y c a2).1)))
  .exact I.ok.inj x y c (hcl x c a1) (hcl y c a2)
 .show∃c,(tM scope C++bR scope X.env).lookup x=some c
  rw[zEH];cases e:(tM scope C).lookup x with
  |some c=>exact⟨c,rfl⟩
  |none=>
   rcases yc hx with hfree|hcell
   .obtain⟨c,hc⟩:=I.ok.has x (B.free (x,.free) (zAk hfree) rfl)
    exact⟨c,aAp hfree hc⟩
   .obtain⟨c,hc⟩:=qU (n:=C+1) hcell
    rw[show(tM scope C).lookup x=some c from hc]at e;cases e
 .rcases jr e with a1|⟨a0,_⟩
  .exact zA5 hC (zBP (hol x c a1).1)
  .obtain⟨c',hc'⟩:=qU (n:=C+1) (zEB hf)
   rw[show(tM scope C).lookup x=some c' from hc']at a0;cases a0
 .exact zA6 (zAV (hfresh b hb) hC)
 .rcases jr e with a1|⟨_,a1⟩
  .exact absurd (hfresh b hb) (zFV.mpr (by rw[<-z];exact zA5 hC (zBP (hol x c a1).1)))
  .exact(hfp b hb).2.2.2.2.1 x c (hcl x c a1) z
 .exact zA5 I.ok.bsz I.sz
 .rcases(hfp b hb).2.2.2.1 with z|z
  .exact I.ok.noex b ob e z
  .exact absurd (zAV (zAS (I.ok.bs b ob e).1) z) (zBL _)
 .rcases zAR.mp (I.stkSub b hs)with z|z
  .exact(hfp b hb).2.1 z
  .exact(hfp b hb).2.2.1 z
 .obtain⟨hfree,_,j,f1,f2⟩:=B.val Z i x v e1 e2
  obtain⟨m,hn,hl⟩:=I.loc;have hk:=B.free (x,.free) (zAk hfree) rfl;obtain⟨u,ru,hu⟩:=hl j x v f1 f2 (hk.elim (λ z=>.inr (.inl z)) λ z=>.inr (.inr z));rcases hu with ⟨k,_⟩|⟨_,c,ec,ic⟩
  .rcases hk with z|z
   .exact absurd (k.symm.trans z) (by decide)
   .exact absurd (k.symm.trans z) (by decide)
  .have hno:(tM scope C).lookup x=none:=by
    cases e:(tM scope C).lookup x with
    |none=>rfl
    |some c'=>
     have:=B.sep _ (pI (zAk e)) rfl
     rw[hfree]at this;cases this
   refine⟨u,ru,.inr ⟨?_,c,by show(tM scope C++bR scope X.env).lookup x=some c;rw[zEH,hno];exact aAp hfree ec,ic.keeps keep⟩⟩;rcases hv with z|z|z
   .have z':(zEv scope X.env).names.lookup x=some .local:=z
    rcases yd (env:=X.env) hfree with y|y
    .exact absurd (z'.symm.trans y) (by decide)
    .exact absurd (z'.symm.trans y) (by decide)
   .exact .inl z
   .exact .inr z
 .rcases jr e with a1|⟨_,a1⟩
  .exact⟨_,(hol x c a1).2⟩
  .obtain⟨v,ic⟩:=I.cell x c (hcl x c a1)
   exact⟨v,ic.keeps keep⟩
 .show upd H D o C=none
  rw[aj (zDH hDC)];exact I.hok.fresh hC
 .show upd H D o c=none
  rcases jr e with a1|⟨_,a1⟩
  .rw[aj (zDH (hDo c (hol x c a1).1))]
   exact I.hok.fresh (zA5 hC (zBP (hol x c a1).1))
  .obtain⟨v,ic⟩:=I.cell x c (hcl x c a1)
   rw[aj (zA6 (zAV ic.lt hD))];exact I.freeC x c (hcl x c a1)
end
section
variable{prog:zA2}{w:World}{A:zAm}{R:zF2->zAH->Prop}{s:zAH}
def zM(I:Nat->zAH->Prop)
  (turn:∀n s,I n s->wpAny (model prog w) A (zFG it) (λ r zD=>match r with
   |none=>R (.ok .next) zD
   |some v=>wpAny (model prog w) A (zCk target it v) (λ _ zD=>wpAny (model prog w) A (zDd target env v) (λ _ zI=>
     wpAny (model prog w) A (forIn ifs true λ c r=>if r=true then do let ok <-isTrue c env (eval c env);pure (zBY ok)else pure (zBY r)) (λ ok y9=>
      if ok=true then wpAny (model prog w) A (eval elt env) (λ x y3=>
       wpAny (model prog w) A (call (.builtin "list.append") [acc,x]) (λ _ s₅=>∃m,m<n/\I m s₅) (λ _ _=>False) y3) (λ _ _=>False) y9
      else∃m,m<n/\I m y9) (λ _ _=>False) zI) (λ _ _=>False) zD) (λ _ _=>False) zD) (λ _ _=>False) s)
  (n:Nat)(h:I n s):zCM (model prog w) A (.compLoop (.ListComp elt [⟨target,iter,ifs,0⟩] scope pos) 0 it acc env) R s:=by
 refine codeAny_loop rfl I (λ n s hI=>?_) n h;show wpAny _ A ((zGO (.ListComp elt [⟨target,iter,ifs,0⟩] scope pos) 0 it acc env).onRaise (λ x=>do noteFrame x env;theTreesLotGoes x)) _ _ s;refine wpAny_noted ?_;rw[compTurn_list];refine zAC (zC2 (zAC (zBN (turn n s hI) (λ r zD zC=>?_) λ _ _ h'=>h'.elim)));cases r with
 |none=>exact zAF zC
 |some v=>
  refine zAC (zBN zC (λ _ zD zC=>?_) λ _ _ h'=>h'.elim);refine zAC (zBN zC (λ _ zI yT=>zAC (zBN yT (λ ok y9 yB=>?_) λ _ _ h'=>h'.elim)) λ _ _ h'=>h'.elim);cases ok with
  |false=>exact zAF ⟨rfl,yB⟩
  |true=>
   exact zAC (zAC (zBN yB (λ x y3 h₄=>zAC (zBN h₄ (λ _ s₅ h₅=>zAF (zAF ⟨rfl,h₅⟩)) λ _ _ h'=>h'.elim)) λ _ _ h'=>h'.elim))
end
def jW(g:TG)(ks:List Nat):Prop:=∀v Z H (Q:St->Hp->Prop),g v Z H Q->g v Z H (λ Z' H'=>Q Z' H'/\Z'.length=Z.length/\∀k,k∉ks->Z'[k]? =Z[k]?)
def vz(g:TGs)(ks:List Nat):Prop:=∀vs Z H (Q:St->Hp->Prop),g vs Z H Q->g vs Z H (λ Z' H'=>Q Z' H'/\Z'.length=Z.length/\∀k,k∉ks->Z'[k]? =Z[k]?)
def aHG(h:i∈ks):jW (sW i) ks:=λ v Z H Q q=>⟨q,zAw,λ k hk=>zBC (λ(e:i=k)=>hk (e▸h))⟩
def aHF:vz aJ7 ks:=λ vs Z H Q ⟨e,q⟩=>⟨e,q,rfl,λ _ _=>rfl⟩
def wA(g:TG):Prop:=∀v Z H (Q Q':St->Hp->Prop),(∀Z' H',Q Z' H'->Q' Z' H')->g v Z H Q->g v Z H Q'
def sH(g:TGs):Prop:=∀v Z H (Q Q':St->Hp->Prop),(∀Z' H',Q Z' H'->Q' Z' H')->g v Z H Q->g v Z H Q'
def aHI:wA (sW i):=λ v Z H Q Q' imp q=>imp _ _ q
def aHH:sH aJ7:=λ v Z H Q Q' imp ⟨e,q⟩=>⟨e,imp _ _ q⟩
def aFH(h1:wA t)(h2:sH u):sH (aFK t u):=λ vs Z H Q Q' imp ⟨v,r,e,q⟩=>⟨v,r,e,h1 _ _ _ _ _ (λ Z' H' q'=>h2 _ _ _ _ _ imp q') q⟩
def aFD(h1:jW t ks)(m1:wA t)(h2:vz u ks)(m2:sH u):vz (aFK t u) ks:=λ vs Z H Q ⟨v,r,e,q⟩=>
 ⟨v,r,e,m1 _ _ _ _ _ (λ Z' H' ⟨q',l',k'⟩=>m2 _ _ _ _ _ (λ Z2 H2 ⟨q2,l2,k2⟩=>⟨q2,l2.trans l',λ k hk=>(k2 k hk).trans (k' k hk)⟩) (h2 _ _ _ _ q')) (h1 _ _ _ _ q)⟩
def aJ5{K:zAA}(h:vz t ks):jW (aHJ K n t) ks:=λ v Z H Q ⟨a,xs,e1,e2,e3,q⟩=>⟨a,xs,e1,e2,e3,h _ _ _ _ q⟩
def aJ6{K:zAA}(h:sH t):wA (aHJ K n t):=λ v Z H Q Q' imp ⟨a,xs,e1,e2,e3,q⟩=>⟨a,xs,e1,e2,e3,h _ _ _ _ _ imp q⟩
def z8(X:Cx)(ifs:List Expr)(t:TT):Prop:=
 ∀(pins:List (Addr×Obj)) (s:zAH) (Z:St) (H:Hp) (Q:Bool->Hp->Prop),Inv X pins Z H s->t Z H Q->
  wpAny (model X.prog X.w) X.A (forIn ifs true λ c r=>if r=true then do let ok <-isTrue c X.env (eval c X.env);pure (zBY ok)else pure (zBY r)) (TP X pins Z Q) X.xe s
def aKo:TT:=λ _ H Q=>Q true H
def aIb:z8 X [] aKo:=λ _ _ _ H _ I h=>wpAny_tests_nil ⟨H,I,h⟩
def aIa(h:PT X c t):z8 X [c] t:=λ pins s Z H Q I q=>wpAny_tests_one (h pins s Z H Q I q)
def tLC(wi:TI)(st:St->St)(g:TG)(tt:TT)(te:TE):TE:=λ Z H Q=>wi Z H λ J H1=>∀l,H1 l=none->∃W:Nat->Nat->List V->Hp->Prop,(∃m,W 0 m [] (upd H1 l (.lst [])))/\
 ∀i m acc H2,W i m acc H2->H2 l=some (.lst acc)/\acc.length<zAP/\((J.stop i H2/\Q (.ref l) H2)\/(J.go i H2/\∀x H3,J.yld i H2 x H3->g x (st Z) H3 λ Z4 H4=>tt Z4 H4 λ ok H5=>
  if ok=true then te Z4 H5 λ y H6=>H6 l=some (.lst acc)/\∃m',m'<m/\W (i+1) m' (acc++[y]) (upd H6 l (.lst (acc++[y])))else∃m',m'<m/\W (i+1) m' acc H5))
section
variable{X:Cx}{elt tg iter:Expr}{ifs:List Expr}{scope:Scope}{pos:Pos}{N:List Str}{st:St->St}{ks:List Nat}{wi:TI}{g:TG}{tt:TT}{te:TE}
def aA4(B:cU X scope N st ks)(hc:X.calm=true)(hg:∀C fp z0 zS,PG (X.block scope C N fp z0 zS) tg g)(hgo:jW g ks)(ht:∀C fp z0 zS,z8 (X.block scope C N fp z0 zS) ifs tt)
  (he:∀C fp z0 zS,PE (X.block scope C N fp z0 zS) elt te){H1:Hp}{Q:VK}{RR:Value->Addr->zF2->zAH->Prop}
  (I:Inv X pins Z H1 zI)(T:Turn X.prog X.w X.K tg J fp it tn)(h0:tn 0 zI.heap)(hfp:∀b∈fp,pL X pins H1 b)
  (h:∀l,H1 l=none->∃W:Nat->Nat->List V->Hp->Prop,(∃m,W 0 m [] (upd H1 l (.lst [])))/\
   ∀i m acc H2,W i m acc H2->H2 l=some (.lst acc)/\acc.length<zAP/\((J.stop i H2/\Q (.ref l) H2)\/(J.go i H2/\∀x H3,J.yld i H2 x H3->g x (st Z) H3 λ Z4 H4=>tt Z4 H4 λ ok H5=>
    if ok=true then te Z4 H5 λ y H6=>H6 l=some (.lst acc)/\∃m',m'<m/\W (i+1) m' (acc++[y]) (upd H6 l (.lst (acc++[y])))else∃m',m'<m/\W (i+1) m' acc H5)))
  (hRR:∀D C H' s',(∃Z',Inv (X.block scope C N fp zI H1) [] Z' H' s')->zI.heap.objs.size<=C->Q (.ref D) H'->RR (.ref D) C (.ok .next) s'):
  wpAny (model X.prog X.w) X.A (zEZ []) (λ acc y9=>wpAny (model X.prog X.w) X.A (zES scope X.env.globals (bR scope X.env) [] X.env.qual none .none (some X.env)) (λ cenv y3=>
   zCM (model X.prog X.w) X.A (.compStart (.ListComp elt [⟨tg,iter,ifs,0⟩] scope pos) 0 (.ref it) acc {cenv with scope:=zEv scope X.env}) (RR acc cenv.locals) y3) E y9) E zI:=by
 refine zAv (aCR λ zC y7 y8 y6=>?_);dsimp only at y7 y8 y6 ⊢;generalize hH2:zI.heap.push {cls:=.type "list",dict:=none,data:=.seq ([]:List Value).toArray}=P2 at y7 y8 y6 ⊢;have hC:P2.objs.size=zI.heap.objs.size+1:=by rw[<-hH2,zCY]
 have hDC:zI.heap.objs.size≠P2.objs.size:=by rw[hC];exact zA6 (zBz _)
 have hCle:zI.heap.objs.size<=P2.objs.size:=by rw[hC];exact zDF _
 have old:∀b o,zI.heap.get? b=some o->zC.get? b=some o:=λ b o e=>y8 b o (hH2▸zAE _ e)
 have hacc:zC.get? zI.heap.objs.size=some {cls:=.type "list",dict:=none,data:=.seq ([]:List Value).toArray}:=y8 _ _ (hH2▸zAX _ rfl);generalize hCe:P2.objs.size=C at y7 y8 y6 hDC hCle hC ⊢;have hHD:H1 zI.heap.objs.size=none:=I.hok.fresh (zAO _);have I0:Inv (X.block scope C N fp zI H1) [] (st Z) (upd H1 zI.heap.objs.size (.lst [])) {zI with heap:=zC,toks:=zI.toks}:=
  I.block B hfp (λ b hb=>by obtain⟨o,e,_⟩:=T.obj 0 _ h0 b hb;exact⟨o,e⟩) (zAO _) hCle hDC old y7 y6 (λ c hc=>zA6 (zEN hCle hc)) ⟨zAc _,[],0,.nil,hacc⟩
 obtain⟨W,⟨m0,w0⟩,step⟩:=h _ hHD;have h01:tn 0 zC:=T.keep 0 _ _ h0 λ b _ o e=>old b o e
 have stat:∀{H':Hp},(∀b∈fp,H' b=none)->∀b∈fp,pL (X.block scope C N fp zI H1) [] H' b:=λ{H'} hn b hb=>
  ⟨hn b hb,(I0.ok.exf b hb).1,I0.ok.exfs b hb,.inl hb,λ x c e=>(I0.ok.exf b hb).2 x c e,λ p hp=>absurd (show p∈([]:List (Addr×Obj))from hp) (by simp)⟩
 have fr0:∀b∈fp,upd H1 zI.heap.objs.size (.lst []) b=none:=λ b hb=>by
  obtain⟨o,e,_⟩:=T.obj 0 _ h0 b hb;rw[aj (zA6 (zAS e))];exact(hfp b hb).1
 have loop:∀y9:zAH,y9={zI with heap:=zC,toks:=zI.toks}->
   zCM (model X.prog X.w) X.A (.compLoop (.ListComp elt [⟨tg,iter,ifs,0⟩] scope pos) 0 (.ref it) (.ref zI.heap.objs.size) (X.block scope C N fp zI H1).env) (RR (.ref zI.heap.objs.size) C) y9:=by
  rintro y9 rfl;refine zM (λ n s'=>∃i acc H2,Inv (X.block scope C N fp zI H1) [] (st Z) H2 s'/\tn i s'.heap/\(∀b∈fp,H2 b=none)/\W i n acc H2) ?_ m0 ⟨0,[],_,I0,h01,fr0,w0⟩;rintro n s3 ⟨i,acc,H2,I2,st2,fr2,w2⟩;obtain⟨hl,hz,alt⟩:=step i n acc H2 w2;rcases alt with ⟨stop,q⟩|⟨go,nxt⟩
  .refine thn (T.done (X.block scope C N fp zI H1) rfl rfl rfl hc i [] s3 (st Z) H2 _ I2 (stat fr2) st2 stop) λ r s4 ⟨hr,I4⟩=>?_
   subst hr;exact hRR _ C H2 s4 ⟨_,I4⟩ hCle q
  .refine thn (T.item (X.block scope C N fp zI H1) rfl rfl rfl hc i [] s3 (st Z) H2 _ I2 (stat fr2) st2 go) λ r s4 ⟨u,hr,h4⟩=>?_
   subst hr;refine thn h4 λ _ s5 ⟨x,H5,I5,r5,y5,st5,fr5⟩=>?_
   have I5':=I5.pinned (stat fr5) (T.obj _ _ st5);refine thn (hg C fp zI H1 _ s5 (st Z) H5 x u _ I5' r5 (hgo _ _ _ _ (nxt x H5 y5))) λ _ s6 ⟨Z6,H6,I6,q6,aDB,ag6⟩=>?_
   refine thn (ht C fp zI H1 _ s6 Z6 H6 _ I6 q6) λ ok s7 ⟨H7,I7,q7⟩=>?_
   have again:∀{H9:Hp} {s9:zAH} {acc':List V},Inv (X.block scope C N fp zI H1) ([]++ou fp s5.heap) Z6 H9 s9->(∃m',m'<n/\W (i+1) m' acc' H9)->
     ∃m,m<n/\∃i acc H2,Inv (X.block scope C N fp zI H1) [] (st Z) H2 s9/\tn i s9.heap/\(∀b∈fp,H2 b=none)/\W i m acc H2:=λ{H9 s9 acc'} I9 ⟨m',hm,w9⟩=>by
    have pin9:∀b∈fp,∀o,s5.heap.get? b=some o->s9.heap.get? b=some o/\H9 b=none:=λ b hb o e=>by
     have z:=I9.pin (b,o) (zAZ _ (zAZ _ (ik hb e)));exact⟨z.1,z.2.1⟩
    refine⟨m',hm,i+1,acc',H9,I9.unpinned.weak (by rw[aDB]) (λ k v e=>?_),T.keep _ _ _ st5 λ b hb o e=>(pin9 b hb o e).1,λ b hb=>?_,w9⟩
    .have hk:k<(st Z).length:=(zAL.mp e).1
     have hkN:k<N.length:=by rw[<-B.len Z];exact hk
     obtain⟨_,hks,_⟩:=B.val Z k _ v (zAB hkN) e;rw[ag6 k hks];exact e
    .obtain⟨o,e,_⟩:=T.obj _ _ st5 b hb
     exact(pin9 b hb o e).2
   cases ok with
   |false=>
    rw[if_neg zAY]at q7 ⊢;exact again I7 q7
   |true=>
    rw[if_pos rfl]at q7 ⊢;refine thn (he C fp zI H1 _ s7 Z6 H7 _ I7 q7) λ u8 s8 ⟨y,H8,I8,r8,hl8,q8⟩=>?_
    refine thn (rK _ s8 Z6 H8 (.ref zI.heap.objs.size) [y] (.ref zI.heap.objs.size) [u8] (λ _ H9=>H9=upd H8 zI.heap.objs.size (.lst (acc++[y]))) I8 rfl (.cons r8 .nil) ⟨_,acc,y,rfl,rfl,hl8,hz,rfl⟩) λ _ s9 ⟨_,H9,I9,_,e9⟩=>?_
    subst e9;exact again I9 q8
 exact codeAny_compStart_list (loop _ rfl) (T.self X.A 0 _ _ _ h01 (loop _ rfl))
def zV(I:Inv X pins Z H1 zI)(hfp:∀b∈fp,pL X pins H1 b)(h:∃Z',Inv (X.block scope C N fp zI H1) [] Z' H' s'):Inv X pins Z H' s':=by
 obtain⟨Z',J⟩:=h;exact I.call' (ch:=fp) J.os J.base J.hok J.bare λ b hb=>⟨(hfp b hb).2.2.2.1,(hfp b hb).2.1,(hfp b hb).2.2.2.2.1,(hfp b hb).2.2.2.2.2⟩
def aKP(B:cU X scope N st ks)(hc:X.calm=true)(hi:PI X tg iter wi)(hg:∀C fp z0 zS,PG (X.block scope C N fp z0 zS) tg g)(hgo:jW g ks)(ht:∀C fp z0 zS,z8 (X.block scope C N fp z0 zS) ifs tt)
  (he:∀C fp z0 zS,PE (X.block scope C N fp z0 zS) elt te)(hs:∀x,zAu iter X.env x=pure x:=by intro _;rfl):PE X (.ListComp elt [⟨tg,iter,ifs,0⟩] scope pos) (tLC wi st g tt te):=by
 intro pins s Z H Q I h;have hcl:zEt scope X.env=pure (bR scope X.env):=je λ y hy hk=>I.ok.has _ (B.free y hy hk)
 rw[eval_ListComp];refine zDf (use:=none) rfl hs hcl B.kind B.loc (thn (hi pins s Z H _ I h) λ v s1 h1=>thn h1 λ itv s2 h2=>?_);obtain⟨it,fp,tn,J,H2,e,I2,T,st2,f2,hq⟩:=h2;subst e;refine aA4 (RR:=λ acc C=>compPost (model X.prog X.w) X.A X.xe none (EP X pins Z Q) acc C) B hc hg hgo ht he I2 T st2 f2 hq ?_;intro D C H' s' hJ hCle q;have I3:=zV I2 f2 hJ;obtain⟨Z',J'⟩:=hJ;obtain⟨m,hn,_⟩:=id J'.loc;have hHC:H' C=none:=J'.free;refine⟨m,hn,λ h'' hs''=>⟨.ref D,H',?_,rfl,q⟩⟩;exact I3.turned (t':=s'.toks) (λ b o ne e=>(hs''.2 b ne).trans e) hHC (zC5 (zAV I2.lt hCle)) (.inr (zA5 I2.sz hCle))
  (λ x c e z=>by obtain⟨v,ic⟩:=I2.cell x c e;exact absurd (zAV ic.lt (by rw[z];exact hCle)) (zBL _))
  (λ p hp z=>absurd (zAV (I2.pinL hp) (by rw[z];exact hCle)) (zBL _))
def aAL(hN:X.N.Nodup)(hx1:X.N[i]? =some x)(hx2:Loc X.env.scope x)(B:cU X scope N st ks)(hc:X.calm=true)(hi:PI X tg iter wi)(hg:∀C fp z0 zS,PG (X.block scope C N fp z0 zS) tg g)(hgo:jW g ks)
  (ht:∀C fp z0 zS,z8 (X.block scope C N fp z0 zS) ifs tt)(he:∀C fp z0 zS,PE (X.block scope C N fp z0 zS) elt te)(hsw:zCW (.ListComp elt [⟨tg,iter,ifs,0⟩] scope pos) (some (.Name x pos')) spos.line X.env=pure true)
  (hs:∀x,zAu iter X.env x=pure x:=by intro _;rfl)(hf:X.fn x=true\/X.env.scope.names.lookup x=some .local:=by first|exact .inl rfl|exact .inr rfl|assumption):
  PS X (.Assign [.Name x pos'] (.ListComp elt [⟨tg,iter,ifs,0⟩] scope pos) spos) (aCf (tLC wi st g tt te) (sW i)):=by
 intro pins s Z H D I h;have hcl:zEt scope X.env=pure (bR scope X.env):=je λ y hy hk=>I.ok.has _ (B.free y hy hk)
 rw[exec_Assign_Name_used _ _ _ _ hsw];refine zAC (zC2 (zAC ?_));show wpAny _ _ (do let _ <-comprehension (.ListComp elt [⟨tg,iter,ifs,0⟩] scope pos) scope X.env _ (zEZ []) false (eval iter X.env) (some (zDd (.Name x pos') X.env))) _ _ s;refine zAC (zBN (zDf (use:=some (zDd (.Name x pos') X.env)) (Q:=λ _ s'=>SP X pins D .next s') rfl hs hcl B.kind B.loc (thn (hi pins s Z H _ I h) λ v s1 h1=>thn h1 λ itv s2 h2=>?_)) (λ _ s' hq=>zAF (zAF hq)) λ _ _ e=>e);obtain⟨it,fp,tn,J,H2,e,I2,T,st2,f2,hq⟩:=h2;subst e;refine aA4 (Q:=λ x H1=>sW i x Z H1 D.nx) (RR:=λ acc C=>compPost (model X.prog X.w) X.A X.xe (some (zDd (.Name x pos') X.env)) (λ _ s'=>SP X pins D .next s') acc C) B hc hg hgo ht he I2 T st2 f2 hq ?_;intro DD C H' s' hJ hCle q;have I3:=zV I2 f2 hJ;obtain⟨Z',J'⟩:=hJ;obtain⟨m,hn,_⟩:=id J'.loc;have hHC:H' C=none:=J'.free;have neL:C≠X.env.locals:=zC5 (zAV I2.lt hCle);have neC:∀x c,X.env.cells.lookup x=some c->c≠C:=λ x c e z=>by obtain⟨v,ic⟩:=I2.cell x c e;exact absurd (zAV ic.lt (by rw[z];exact hCle)) (zBL _)
 show wpAny _ _ (zDd (.Name x pos') X.env (.ref DD)) _ _ _;refine zH9 ?_;refine ww I3 hN hx1 hx2 (show RelV (.ref DD) (.ref DD)from rfl) (λ s4 I4 ⟨a,hsa,ha⟩=>?_) hf;have nea:C≠a:=by
  rcases ha with z|z
  .rw[z];exact neL
  .exact zDH (neC _ _ z)
 refine⟨m,hn.sameBut hsa nea,λ h'' hs''=>⟨_,H',?_,q⟩⟩;exact I4.turned (t':=s4.toks) (λ b o ne e=>(hs''.2 b ne).trans e) hHC neL (.inr (zA5 I2.sz hCle)) neC
  (λ p hp z=>absurd (zAV (I2.pinL hp) (by rw[z];exact hCle)) (zBL _))
end
def CX1(P:zA2)(w:World):CXT:=λ outer H s E e s'=>∃(ea:Addr) (cls a0:Value) (B:Heap) (H':Hp),e= .ref ea/\s'.os=s.os/\zDv s'.gens/\Un (frs outer) [] H H' s.heap s'.heap/\HOk P w H' B/\Heap.FlyingW B outer ea cls a0 s'.heap/\
 (∀b o,s.heap.get? b=some o->H b=none->b∉frs outer->B.get? b=some o)/\(∀b o,s.heap.get? b=some o->b∉frs outer->∃o',B.get? b=some o')/\E cls none H'
structure jF(X:Cx)(E:XK):Prop where
 stk:X.stack=X.env::X.outer
 fr:X.env.frame=some X.env.locals
 ex:X.ex=[]
 xe:X.xe=λ e s'=>wpAny (model X.prog X.w) X.A (leaving X.env e) (λ _ s''=>CX1 X.prog X.w X.outer X.zS X.z0 E e s'') (λ e' s''=>CX1 X.prog X.w X.outer X.zS X.z0 E e' s'') s'
def jF.of{K:zAA}:
  jF (aAk (CX1 P w) P w K mg base N qual scope f cd A outer z0 zS E) E:=⟨rfl,rfl,rfl,rfl⟩
section
variable{X:Cx}{E:XK}
def aFN{B h':Heap}(hX:X.ex=[])(I:Inv X pins Z H s)
  (a1:∀b o,s.heap.get? b=some o->H b=none->b∉frs X.stack->B.get? b=some o)(a2:∀b o,s.heap.get? b=some o->b∉frs X.stack->∃o',B.get? b=some o')
  (a3:B.StaysIn h')(a4:∀b o,b∈frs X.outer->s.heap.get? b=some o->H b=none->(∀vs,o.data≠.fields vs)->∃sl,h'.get? b=some {o with slots:=sl})
  (a5:∀b o,s.heap.get? b=some o->H b=none->H' b=none)(a6:∀b xs,H b=some (.tup xs)->H' b=some (.tup xs))(a7:∀b o u,H b=some (.frz o u)->H' b=some (.frz o u))(a8:∀b ps,H b=some (.tbl ps)->∃more,H' b=some (.tbl (ps++more))):
  Un (frs X.outer) [] X.zS H' X.z0.heap h'/\(∀b o,X.z0.heap.get? b=some o->X.zS b=none->b∉frs X.outer->B.get? b=some o)/\(∀b o,X.z0.heap.get? b=some o->b∉frs X.outer->∃o',B.get? b=some o'):=by
 have nx:∀b,b∉X.ex:=λ b z=>by rw[hX]at z;cases z
 have noS:∀b o,X.z0.heap.get? b=some o->b∉frs X.outer->b∉frs X.stack:=λ b o e nf hb=>by
  rcases zAR.mp (I.stkSub b hb)with z|z
  .exact absurd z (zA6 (zAV (zAS e) I.ok.above))
  .exact nf z
 have bk:∀b o,X.z0.heap.get? b=some o->X.zS b=none->b∉frs X.outer->B.get? b=some o:=λ b o e n nf=>
  a1 b o (I.base.keep b o e n nf (nx b)) (I.base.free b o e n (nx b)) (noS b o e nf)
 have ba:∀b o,X.z0.heap.get? b=some o->b∉frs X.outer->∃o',B.get? b=some o':=λ b o e nf=>by
  obtain⟨o1,e1⟩:=I.base.there b o e (nx b);exact a2 b o1 e1 (noS b o e nf)
 have sl:∀b o,X.z0.heap.get? b=some o->X.zS b=none->b∈frs X.outer->∃sl,h'.get? b=some {o with slots:=sl}:=λ b o e n hb=>by
  obtain⟨sl1,e1⟩:=I.base.slot b o e n hb (nx b);obtain⟨_,o2,ho2,hnf⟩:=I.ok.funs.mem hb;rw[e]at ho2;cases ho2;obtain⟨sl2,e2⟩:=a4 b _ hb e1 (I.base.free b o e n (nx b)) hnf;exact⟨sl2,e2⟩
 refine⟨⟨λ b o e n nf _=>a3 b o (bk b o e n nf),λ b o e n hb _=>sl b o e n hb,λ b o e n _=>?_,λ b o e _=>?_,λ b xs e=>a6 b xs (I.base.tups b xs e),λ b o u e=>a7 b o u (I.base.frzs b o u e),λ b ps e=>?_⟩,bk,ba⟩
 .obtain⟨o1,e1⟩:=I.base.there b o e (nx b)
  exact a5 b o1 e1 (I.base.free b o e n (nx b))
 .by_cases hb:b∈frs X.outer
  .obtain⟨s2,e2⟩:=sl b o e (I.ok.frf b hb) hb
   exact⟨_,e2⟩
  .obtain⟨o',e'⟩:=ba b o e hb
   exact⟨o',a3 b o' e'⟩
 .obtain⟨m1,e1⟩:=I.base.tbls b ps e
  obtain⟨m2,e2⟩:=a8 b _ e1;exact⟨m1++m2,by rw[e2,zFy]⟩
def jF.pass(D:jF X E):z6 (CX1 X.prog X.w) X E:=by
 intro pins Z H s e s' I h;obtain⟨ea,cls,a0,B,H',rfl,os,bare,un,hok,fly,bk,ba,hE⟩:=h;rw[D.xe];have fly':=fly;rw[D.stk]at fly';have hfr:=I.ok.frames;rw[D.stk]at hfr;refine wpAny_leaves_onW (L:=X.env.locals) hfr D.fr fly' λ h' fl up=>?_
 have a4:∀b o,b∈frs X.outer->s.heap.get? b=some o->H b=none->(∀vs,o.data≠.fields vs)->∃sl,h'.get? b=some {o with slots:=sl}:=λ b o hb e n nf=>by
  have hb':b∈frs X.stack:=by
   rw[D.stk];unfold frs;rw[zBM,D.fr];exact zAM _ hb
  obtain⟨s1,e1⟩:=un.slot b o e n hb' (λ z=>nomatch z);obtain⟨s2,e2⟩:=up b _ e1 nf;exact⟨s2,e2⟩
 obtain⟨u1,u2,u3⟩:=aFN (B:=B) (h':=h') (H':=H') D.ex I bk ba fl.1 a4 (λ b o e n=>un.free b o e n (λ z=>nomatch z)) un.tups un.frzs un.tbls;exact⟨ea,cls,a0,B,H',rfl,os.trans I.os,bare,u1,hok,fl,u2,u3,hE⟩
def jF.raise(D:jF X E){ea:Addr}(I:Inv X pins Z H s)
  (hx:Heap.MadeExcOf s.heap h1 ea cls vs)(hE:E cls none H):X.xe (.ref ea) {s with heap:=h1}:=by
 rw[D.xe];have stk:s.heap.FunFrames X.base X.stack:=I.stack;have hin:∀env∈X.stack,∀a,env.frame=some a->a∈frs X.stack:=λ env he a ha=>zCA.mpr ⟨env,he,ha⟩
 have stk2:=PySem.W.funFrames_hide stk hin;have hfr:=I.ok.frames;rw[D.stk]at hfr;have stk3:s.heap.FunFrames (zCu s.heap (frs X.stack)) (X.env::X.outer):=by rw[<-D.stk];exact stk2
 refine wpAny_leaves_madeW (L:=X.env.locals) (base:=zCu s.heap (frs X.stack)) hfr D.fr (λ b o q=>zFh _ q) stk3 hx λ h' t fl tup bn up=>?_
 have hok:HOk X.prog X.w H (zCu s.heap (frs X.stack)):=λ a o e=>by
  refine(I.hok a o e).stay (λ b u hb q=>zCv _ q λ hm=>?_) (λ _ z=>z) λ _ _ z=>z
  have hn:=I.stkFree b hm;rcases hb with z|z
  .rw[z,e]at hn;cases hn
  .rw[z]at hn;cases hn
 obtain⟨u1,u2,u3⟩:=aFN (B:=zCu s.heap (frs X.stack)) (h':=h') (H':=H) D.ex I (λ b o e n nf=>zCv _ e nf) (λ b o e nf=>⟨o,zCv _ e nf⟩) fl.1
  (λ b o hb e n nf=>up b o (hx.keeps b o e) nf) (λ b o e n=>n) (λ _ _ e=>e) (λ _ _ _ e=>e) (λ b ps e=>⟨#[],by rw[e];simp⟩)
 exact⟨ea,cls,.ref t,_,H,rfl,I.os,I.bare,u1,hok,fl,u2,u3,hE⟩
def jF.own(D:jF X E):zGm (model X.prog X.w) X.A X.env X.xe:=λ e s' h=>by
 rw[D.xe]at h ⊢;exact wpAny_leaving_again (SameStack.refl _) h
end
section
variable{P:zA2}{w:World}{K:zAA}{mg:Str->Option Value}{base:Heap}
def Fun.okX{st:Stmt}(F:Fun K x q st f fd)(S:aW N ps (aP st))(len:∀vs H Q E,sp vs H Q E->vs.length=ps.length)
  (hbody:∀(cdv:Value) (A:zAm) (outer:List Env) (s:zAH) (H:Hp) (vs:List V) (Q:VK) (E:XK),jG k (A.deeper (zDp q (aP st) s.heap.objs.size f cdv))->sp vs H Q E->
   ∃t,PSs (aAk (CX1 P w) P w K mg base N q (aP st) f cdv A outer s H E) (gK st) t/\t {nx:=λ _ H'=>Q .non H',rt:=Q} (start N vs) H):bz P w K mg base (CX1 P w) (k+1) f fd ps sp:=by
 obtain⟨oc,od,kV,doc,pm,an,cdv,ct,osl,rfl,lk,hcd⟩:=F.ex;exact aK8 lk hcd S len λ A outer s H vs Q E hr hsp=>hbody cdv A outer s H vs Q E hr hsp
end
def pM(K:zAA)(C:Addr):Prop:=zGo K C [.type "ValueError",.type "Exception",.type "BaseException",.type "object"] "ValueError.__new__"=true
def yg{K:zAA}(X:K.In h)(hm:mg x=some (.ref C))(q:pM K C):OwnCls x C [.type "ValueError",.type "Exception",.type "BaseException",.type "object"] "ValueError.__new__" mg h:=by
 refine⟨hm,?_⟩;unfold pM zGo at q;split at q
 .rename_i dd cd sl ho
  split at q
  .rename_i C' bm k0 k1 k2 k3 n k5 hm' hs
   simp only[zAQ,beq_iff_eq,zCd]at q;obtain⟨⟨⟨⟨⟨rfl,rfl⟩,hdel⟩,ht⟩,hok⟩,hni⟩:=q;obtain⟨nm,bs,mro,ns,qn,hd,sn,sub,ab,col,del⟩:=cd;dsimp only at hm' hdel hok hni;subst hm' hdel;have hsl:sl=#[k0,k1,k2,k3,some (.builtin "ValueError.__new__"),k5]:=by
    obtain⟨l⟩:=sl;simp only at hs;rw[hs]
   subst hsl;exact⟨bm,ns,nm,qn,bs,hd,sn,sub,ab,col,dd,k0,k1,k2,k3,k5,_,X _ _ ho,.of_isNs (PySem.W.isNs_of_in X hok),PySem.W.nsMap_none_of_in X hok hni,PySem.W.tail_of_in X ht⟩
  .cases q
 .cases q
def aIH(C:Addr)(E:XK)(ta:TA):TS:=λ _ Z H=>ta Z H λ vs H1=>vs.length<=zAP/\E (.ref C) none H1
section
variable{X:Cx}{E:XK}
def aEJ(D:jF X E)(hc:X.calm=true){rest:List Expr}(hm:X.mg x=some (.ref C))(hC:pM X.K C)(hg:Gl X x)
  (ha:PA X (y0::rest) ta)(he:zAU (y0::rest) X.env=(false,eval y0 X.env)::zAU rest X.env:=by rfl)
  (hplain:(zCF cpos (zAU rest X.env)).any (·.1)=false:=by rfl)(hd:Nd x:=by decide):
  PS X (.Raise (some (.Call (.Name x np) (y0::rest) [] cpos)) none pos) (aIH C E ta):=by
 intro pins s Z H DD I h;obtain⟨tl,NN,nm,q,bs,hdct,sn,sub,ab,col,dd,k0,k1,k2,k3,k5,mN,hCo,hN,hni,T⟩:=(yg (h:=X.base) I.mod.kin hm hC).obj;have FB:=PySem.F.excBase_ValueError;refine wpAny_Raise_call_subU (C:=C) (nm:=nm) (q:=q) (N:=NN) (bs:=bs) (bm:=tl) (hdct:=hdct) (sn:=sn) (sub:=sub) (ab:=ab) (col:=col) (dd:=dd) (k0:=k0) (k1:=k1) (k2:=k2) (k3:=k3) (k5:=k5)
  FB FB.hasB FB (mN:=mN) (T.hasType FB.hasBase) (I.ok.hd hc) (by rw[he];show(false||(zCF cpos (zAU rest X.env)).any (·.1))=false;rw[hplain];rfl) hni
  (yt I hg hm ⟨rfl,?_⟩ hd)
 have harg:=ha cpos pins s Z H _ I h;rw[he]at harg ⊢;refine zF8 (zBN harg (λ vs zI yT=>?_) λ _ _ y=>y);obtain⟨xs,H2,I2,rv,hz,hE⟩:=yT;refine⟨rfl,by show vs.length<=zAP;rw[<-rv.length];exact hz,I2.bk _ _ hCo,hN.keeps I2.bk,T.keeps I2.bk,λ h' ea hx=>D.raise I2 hx hE⟩
end
section
variable{κ:Type}[DecidableEq κ]
end
end L2
namespace Att
open PySem PySem.W PySem.Calls PyProof.Rows
end Att
namespace L2
open PySem PySem.Spec PyProof.Rows
section
variable{κ:Type}[DecidableEq κ]
end
section
variable{X:Cx}
structure aKi(X:Cx)(P:Addr):Prop where
 ta:∃o,X.ta=[(P,o)]
 ex:P∈X.ex
 tq:X.tq=X.env.qual++"<lambda>"
 code:∃c,X.env.code= .ref c/\PySem.W.CodeHd X.base c P
 blt:X.base.BuiltinsAt X.mg P
 gne:zA7≠P
end
abbrev bmV:List Value:=[.type "ValueError",.type "Exception",.type "BaseException",.type "object"]
section
variable{prog:zA2}{w:World}{A:zAm}{E:Value->zAH->Prop}{h:Heap}{g:Array zFT}{d:Drawn}{t:Nat}{os:OsState}{a:Addr}{o:Obj}
 {nm q:Str}{C N:Addr}{bs bm:List Value}{hdct:Bool}{sn:List Str}{sub:List Value}{ab:Bool}{col:Option Bool}{dd:Option Addr}{k0 k1 k2 k3 k5:Option Value}{newId:String}{K:zAA}
def aAo{R:zF2->zAH->Prop}(hC:h.get? C=some (zF4 nm q C N bs bm hdct sn sub ab col dd k0 k1 k2 k3 k5 newId))(T:OwnTail h bmV bm)
  (hx:h.get? a=some o)(hc:o.cls= .ref C)(hq:R (.ok (.ret (.ref C))) ⟨h,g,d,t,os⟩):
  zCM (model prog w) A (.call (.builtin "getset_descriptor.__get__") ⟨[.builtin "object.__class__",.ref a,.ref C],[]⟩) R ⟨h,g,d,t,os⟩:=by
 have hT5:(⟨h,g,d,t,os⟩:zAH).TypeIs (.builtin "object.__class__") "getset_descriptor":=zDs;have hcB:(zBv C::bm).contains (.type (".".intercalate ("object.__class__".cutAt '.').dropLast))=true:=by
  rw[F.owner_object_class,zGI,T.hasType (X:="object") (b:=true) (by decide+kernel)];rfl
 refine zHA zFk.plain F.entry_gs_get (zFk.check _ _ _ _ _ _ _ _ hT5 (F.args_gs_get _ _ _) ?_)
 repeat (any_goals (first|assumption|(with_reducible refine zCy hx ?_;rw[hc])|(with_reducible refine zHI hC ?_;rw[hcB])|wp_step))
 refine⟨zGG _ (by decide+kernel),zDQ F.entry_object_class ?_⟩
 repeat (any_goals (first|assumption|(with_reducible refine zCy hx ?_;rw[hc])|wp_step))
def zO{M:Model}{nameV:Value}{Q:Unit->zAH->Prop}(hC:h.get? C=some (zF4 nm q C N bs bm hdct sn sub ab col dd k0 k1 k2 k3 k5 newId))(T:OwnTail h bmV bm)
  (hx:h.get? a=some o)(hc:o.cls= .ref C)(hq:Q () ⟨h,g,d,t,os⟩):wpAny M A (checkBuiltinCall "BaseException.__getattribute__" ⟨[.ref a,nameV],[]⟩) Q E ⟨h,g,d,t,os⟩:=by
 have hk:builtinKind "BaseException.__getattribute__"=some .slot:=by decide+kernel
 have hsplit:splitId "BaseException.__getattribute__"=some ("BaseException","__getattribute__"):=by decide+kernel
 have hcB:(zBv C::bm).contains (.type "BaseException")=true:=by rw[zGI,T.hasType (X:="BaseException") (b:=true) (by decide+kernel)];rfl
 have ha:=F.args_bexc_ga (.ref a) nameV;simp only[checkBuiltinCall,hk,hsplit];refine zAC ?_
 .unfold isInstance
  repeat (first|(with_reducible refine zCy hx ?_;rw[hc])|(with_reducible refine zHI hC ?_;rw[hcB])|wp_step)
  exact hq
def wV{tk:Tok}{Q:Fin->zAH->Prop}(hC:h.get? C=some (zF4 nm q C N bs bm hdct sn sub ab col dd k0 k1 k2 k3 k5 newId))(T:OwnTail h bmV bm)(lk:∀M:Model,zDt M h (zEy (.ref C) "__class__") (some (.builtin "object.__class__")))
  (hx:h.get? a=some o)(hc:o.cls= .ref C)(hq:Q (.done (.ret (.ref C))) ⟨h,g,d,t,os⟩):
  wpAny (model prog w) A (zDw.«object.__getattribute__» ⟨[.ref a,.str "__class__" tk],[]⟩) Q E ⟨h,g,d,t,os⟩:=by
 have hT5:(⟨h,g,d,t,os⟩:zAH).TypeIs (.builtin "object.__class__") "getset_descriptor":=zDs;have f5:=zDs;have f6:=zFk.lookup;have f7:=F.slot_gs_set.lookup
 repeat (any_goals (first|assumption|(with_reducible refine zCy hx ?_;rw[hc])|with_reducible refine(lk _).here ?_|wp_step))
 refine aAo hC T hx hc ?_
 repeat (any_goals (first|assumption|wp_step))
def zN{Q:Option Value->zAH->Prop}(hC:h.get? C=some (zF4 nm q C N bs bm hdct sn sub ab col dd k0 k1 k2 k3 k5 newId))(T:OwnTail h bmV bm)(lk:∀M:Model,zDt M h (zEy (.ref C) "__class__") (some (.builtin "object.__class__")))
  (lg:∀M:Model,zDt M h (zEy (.ref C) "__getattribute__") (some (.builtin "BaseException.__getattribute__")))(ln:∀M:Model,zDt M h (zEy (.ref C) "__getattr__") none)
  (hx:h.get? a=some o)(hc:o.cls= .ref C)(hq:Q (some (.ref C)) ⟨h,g,d,t+1,os⟩):wpAny (model prog w) A (getAttr? (.ref a) "__class__") Q E ⟨h,g,d,t,os⟩:=by
 have by_exc:∀{E:Value->zAH->Prop} {t:Nat} {tk:Tok} {Q:Value->zAH->Prop},Q (.ref C) ⟨h,g,d,t,os⟩->wpAny (model prog w) A (getAttrBy (.ref a) (.str "__class__" tk) false) Q E ⟨h,g,d,t,os⟩:=by
  intro E t tk Q hq;have FB:=PySem.F.excAttr_ValueError;have f3:=FB.ga.bind (.ref a);have hx0:(false&&onTheHeap (zDZ "BaseException.__getattribute__"))=false:=rfl;have hx2:(zDZ "BaseException.__getattribute__"==zDZ "object.__getattribute__")=false:=by decide+kernel
  have hx1:(onTheHeap (zBv C)&&zDZ "BaseException.__getattribute__"==zDZ "object.__getattribute__")=false:=by rw[hx2];rfl
  repeat (any_goals (first|assumption|(with_reducible refine zCy hx ?_;rw[hc])|with_reducible refine(lg _).here ?_|with_reducible refine(ln _).here ?_|wp_step))
  refine zHA FB.ga.plain F.entry_bexc_ga (zO hC T hx hc (wV hC T lk hx hc ?_))
  repeat (any_goals (first|assumption|wp_step))
 unfold getAttr? getAttrBy?
 repeat (any_goals (first|assumption|with_reducible apply by_exc|wp_step))
def aEi(hE:pM K C)(ha:zBR K (.ref C) "__class__"=some (some (.builtin "object.__class__")))(hgt:zBR K (.ref C) "__getattribute__"=some (some (.builtin "BaseException.__getattribute__")))
  (hga:zBR K (.ref C) "__getattr__"=some none):PySem.W.KitX K (.ref a) (.ref C) (λ h=>∃o,h.get? a=some o/\o.cls= .ref C) where
 ty:=λ M h _ ⟨o,h1,h2⟩=>h2▸(zH3 h1).andThen .now
 it:=λ M h X _=>by
  obtain⟨bm,NN,nm,q,bs,hdct,sn,sub,ab,col,dd,k0,k1,k2,k3,k5,mN,hC,_⟩:=(yg (h:=h) (mg:=λ _=>some (.ref C)) (x:="x") X rfl hE).obj;intro A' Q' E' s' k q;unfold isType loadHead;exact zAC (wpAny_loadPart (k _ _ hC) (zAF q))
 ne:=λ h tp dd its n sl X htp=>by
  obtain⟨bm,NN,nm,q,bs,hdct,sn,sub,ab,col,dd,k0,k1,k2,k3,k5,mN,hC,_⟩:=(yg (h:=h) (mg:=λ _=>some (.ref C)) (x:="x") X rfl hE).obj;refine Bool.eq_false_iff.mpr λ z=>?_
  have e:C=tp:=Value.ref.inj (beq_iff_eq.mp z);subst e;rw[hC]at htp;exact absurd (congrArg Obj.cls (zA9 htp)) (by show zC3 "type"≠zC3 "tuple";decide+kernel)
 ca:=λ{prog w A E Q s} X ⟨o,h1,h2⟩ k=>by
  obtain⟨h,g,d,t,os⟩:=s;obtain⟨bm,NN,nm,q,bs,hdct,sn,sub,ab,col,dd,k0,k1,k2,k3,k5,mN,hC,hN,hni,T⟩:=(yg (h:=h) (mg:=λ _=>some (.ref C)) (x:="x") X rfl hE).obj;exact zN hC T (λ M=>zCn X ha) (λ M=>zCn X hgt) (λ M=>zCn X hga) h1 h2 k
end
def excφ(a C:Addr):Heap->Prop:=λ h=>∃o,h.get? a=some o/\o.cls= .ref C
structure aKk(K:zAA)(C:Addr):Prop where
 ex:pM K C
 ca:zBR K (.ref C) "__class__"=some (some (.builtin "object.__class__"))
 gt:zBR K (.ref C) "__getattribute__"=some (some (.builtin "BaseException.__getattribute__"))
 ga:zBR K (.ref C) "__getattr__"=some none
section
variable{X:Cx}
def aHh(K:zAA):List V->Hp->VK->Prop:=λ xs H Q=>∃a C y c b,xs=[.ref a,y]/\RelV y c/\H a=some (.ext (excφ a C))/\aKk K C/\zCc K (.ref C) c=some b/\Q (.bl b) H
def aDT:dI X (.builtin "isinstance") (aHh X.K):=by
 intro pins s Z H xs us Q I r h;obtain⟨a,C,y,c,b,rfl,ry,ha,kc,e,q⟩:=h;obtain⟨u,w',rfl,r1,r2⟩:=vals2 r;cases r1;have hc:w'=c:=by
  cases y<;>first
   |(cases r2;cases ry;rfl)
   |(obtain⟨t1,rfl⟩:=r2;obtain⟨t2,rfl⟩:=ry;exact absurd e (by simp[zCc,PySem.W.kitCls]))
 subst hc;obtain⟨p,_⟩:excφ a C s.heap/\_:=I.hok a _ ha;exact zAz (aEi kc.ex kc.ca kc.gt kc.ga) I.kIn p e (λ z=>nomatch z) λ tk=>⟨.bl b,H,I.tok tk,rfl,q⟩
end
structure aKg(k:Nat)(A:zAm):Prop where
 dp:A.depth+3*k+5<zFw
 un:A.units+16*k+200<cLine
structure FnH(P:zA2)(w:World)(K:zAA)(mg:Str->Option Value)(base:Heap)(k:Nat)(f:Addr)(fd:zA8)(ps:List Str)(sp:Sp):Prop where
 len:∀vs H Q E,sp vs H Q E->vs.length=ps.length
 run:∀(A:zAm) (outer:List Env) (s:zAH) (H:Hp) (args:Args) (us:List Value) (vs:List V) (Q:VK) (E:XK),aKg k A->aFg P w K mg base A outer s H->zEn s fd args (ps.zip us)->Vals vs us->sp vs H Q E->
  zCM (model P w) A (.call (.ref f) args) (CR CX0 outer P w H s Q E) s
def aKu(K:zAA)(c:V):TE:=tCB (aHh K) (lN (qg 0) (lN (tC c) uN))
def Kt(K:zAA)(C:Addr)(c:V)(b:Bool):Prop:=∃u,RelV c u/\zCc K (.ref C) u=some b
structure Wd(K:zAA)(c1 c2:V)(ks:List (List V))(ws:List Str)(C:Addr)(w:Str):Prop where
 k:aKk K C
 q1:Kt K C c1 true
 q2:Kt K C c2 true
 bs:∃(b1 b2 b3 b4:List Bool) (j:Nat) (k1 k2 k3 k4:List V),ks=[k1,k2,k3,k4]/\zFE (Kt K C) k1 b1/\zFE (Kt K C) k2 b2/\zFE (Kt K C) k3 b3/\zFE (Kt K C) k4 b4/\(b1++b2++b3++b4).length<=100/\(b1++b2++b3++b4).count true=1/\
  (b1++b2++b3++b4)[j]? =some true/\(∀m,m<j->(b1++b2++b3++b4)[m]? =some false)/\ws[j]? =some w
section
variable{X:Cx}{n0 n1 n2 odd:Str}{c1 c2:V}{k1 k2 k3 k4:List V}{l1 l2:List Str}{a1 a2:Expr}{as1 as2 e1 e2 e3 e4 w1 w2:List Expr}{kw1 kw2:List zCL}{Q:VK}{H:Hp}{vs:List V}
 {p1 p2 p3 p4 p5 p6 p7 p8 p9 p10 p11 p12 p13 p14 p15 p16 p17 p18 p19 p20 p21 p22 p23 p24 p25 p26 p27 p28 p29 p30 p31 p32 p33 p34 p35 p36 p37 p38 p39 p40:Pos}{q1 q2 q3 q4 q5 q6 q7:Pos}{j1 j2 j3 j4 j5:Nat}{E0:XK}{wd:Addr->Option Str}
end
structure m9(d:Nat)(e tg iter:Expr)(ifs:List Expr)(body:Env->Addr->Sem Unit):Prop where
 under:∀(A:zAm) (it:Value) (D:Addr) (env:Env),A.under (.compLoop e d it (.ref D) env)=A
 den:∀(prog:zA2) (w:World) (it:Value) (D:Addr) (env:Env),(model prog w).den (.compLoop e d it (.ref D) env)=(zGO e d it (.ref D) env).onRaise (λ x=>do noteFrame x env;theTreesLotGoes x)
 turn:∀(it:Value) (D:Addr) (env:Env),zGO e d it (.ref D) env=(do
   zED iter.pos
   match <-zFG it with
   |none=>pure (.done .next)
   |some v=>
    zCk tg it v
    zDd tg env v
    let mut ok:=true
    for c in ifs do if ok then ok <-isTrue c env (eval c env)
    if ok then
     body env D
    again (.compLoop e d it (.ref D) env))
section
variable{s:zAH}{A:zAm}{prog:zA2}{w:World}{R:zF2->zAH->Prop}
def qT{D:Addr}(hb:m9 d e tg iter ifs body)(I:Nat->zAH->Prop)
  (one:∀n s,I n s->wpAny (model prog w) A (zFG it) (λ r zD=>match r with
   |none=>R (.ok .next) zD
   |some v=>wpAny (model prog w) A (zCk tg it v) (λ _ zD=>wpAny (model prog w) A (zDd tg env v) (λ _ zI=>
     wpAny (model prog w) A (forIn ifs true λ c r=>if r=true then do let ok <-isTrue c env (eval c env);pure (zBY ok)else pure (zBY r)) (λ ok y9=>if ok=true then wpAny (model prog w) A (body env D) (λ _ s₅=>∃m,m<n/\I m s₅) (λ _ _=>False) y9
      else∃m,m<n/\I m y9) (λ _ _=>False) zI) (λ _ _=>False) zD) (λ _ _=>False) zD) (λ _ _=>False) s)
  (n:Nat)(h:I n s):zCM (model prog w) A (.compLoop e d it (.ref D) env) R s:=by
 refine codeAny_loop rfl I (λ n s hJ=>?_) n h;rw[hb.under,hb.den];refine wpAny_noted ?_;rw[hb.turn];refine zAC (zC2 (zAC (zBN (one n s hJ) (λ r zD zC=>?_) λ _ _ h'=>h'.elim)));cases r with
 |none=>exact zAF zC
 |some v=>
  refine zAC (zBN zC (λ _ zD zC=>?_) λ _ _ h'=>h'.elim);refine zAC (zBN zC (λ _ zI yT=>zAC (zBN yT (λ ok y9 yB=>?_) λ _ _ h'=>h'.elim)) λ _ _ h'=>h'.elim);cases ok with
  |false=>exact zAF (zEm rfl yB)
  |true=>exact zAC (zBN yB (λ _ y3 h₄=>zAF ⟨rfl,h₄⟩) λ _ _ h'=>h'.elim)
end
def uH(d:Nat)(e:Expr):Prop:=∀{prog:zA2} {w:World} {A:zAm} {R:zF2->zAH->Prop} {s:zAH} {it acc:Value} {env:Env},
  zCM (model prog w) A (.compLoop e d it acc env) R s->
  wpAny (model prog w) A (zHQ it) (λ it' s'=>zCM (model prog w) A (.compLoop e d it' acc env) R s') (notedBy (model prog w) A env λ x s'=>R (.error x) s') s->
  zCM (model prog w) A (.compStart e d it acc env) R s
structure aCa(prog:zA2)(w:World)(mk:Sem Value)(obs:Obj->Prop)(o:Addr->HO):Prop where
 make:∀{A:zAm} {Q:Value->zAH->Prop} {E:Value->zAH->Prop} {s:zAH},(∀ob,obs ob->Q (.ref s.heap.objs.size) {s with heap:=s.heap.push ob})->wpAny (model prog w) A mk Q E s
 live:∀ob,obs ob->ob.isFreed=false
 ok:∀{H:Hp} {h:Heap} {a:Addr} {ob:Obj},obs ob->h.get? a=some ob->zDe<a->dD prog w H h a (o a)
def PB(X:Cx)(body:Env->Addr->Sem Unit)(tb:Addr->St->Hp->(Hp->Prop)->Prop):Prop:=
 ∀(D:Addr) (pins:List (Addr×Obj)) (s:zAH) (Z:St) (H:Hp) (Q:Hp->Prop),Inv X pins Z H s->tb D Z H Q->wpAny (model X.prog X.w) X.A (body X.env D) (λ _ s'=>∃H',Inv X pins Z H' s'/\Q H') X.xe s
def aLD(I:Inv X pins Z H s):zDe<s.heap.objs.size:=
 zE2 (by decide) (I.mod.glob.keeps I.bk).lt
def aD9(o:Addr->HO)(wi:TI)(st:St->St)(g:TG)(tt:TT)(tb:Addr->St->Hp->(Hp->Prop)->Prop):TE:=λ Z H Q=>wi Z H λ J H1=>∀l,H1 l=none->∃W:Nat->Nat->Hp->Prop,(∃m,W 0 m (upd H1 l (o l)))/\
 ∀i m H2,W i m H2->((J.stop i H2/\Q (.ref l) H2)\/(J.go i H2/\∀x H3,J.yld i H2 x H3->g x (st Z) H3 λ Z4 H4=>tt Z4 H4 λ ok H5=>
  if ok=true then tb l Z4 H5 λ H6=>∃m',m'<m/\W (i+1) m' H6 else∃m',m'<m/\W (i+1) m' H5))
section
variable{X:Cx}{e tg iter:Expr}{ifs:List Expr}{scope:Scope}{N:List Str}{st:St->St}{ks:List Nat}{wi:TI}{g:TG}{tt:TT}{body:Env->Addr->Sem Unit}{tb:Addr->St->Hp->(Hp->Prop)->Prop}{pos:Pos}{mk:Sem Value}{obs:Obj->Prop}{o:Addr->HO}
def aFZ(B:cU X scope N st ks)(hc:X.calm=true)(hT:m9 0 e tg iter ifs body)(hS:uH 0 e)(hA:aCa X.prog X.w mk obs o)(hg:∀C fp z0 zS,PG (X.block scope C N fp z0 zS) tg g)(hgo:jW g ks)(ht:∀C fp z0 zS,z8 (X.block scope C N fp z0 zS) ifs tt)
  (he:∀C fp z0 zS,PB (X.block scope C N fp z0 zS) body tb){Q:VK}{RR:Value->Addr->zF2->zAH->Prop}
  (I:Inv X pins Z H1 zI)(T:Turn X.prog X.w X.K tg J fp it tn)(h0:tn 0 zI.heap)(hfp:∀b∈fp,pL X pins H1 b)
  (h:∀l,H1 l=none->∃W:Nat->Nat->Hp->Prop,(∃m,W 0 m (upd H1 l (o l)))/\
   ∀i m H2,W i m H2->((J.stop i H2/\Q (.ref l) H2)\/(J.go i H2/\∀x H3,J.yld i H2 x H3->g x (st Z) H3 λ Z4 H4=>tt Z4 H4 λ ok H5=>
    if ok=true then tb l Z4 H5 λ H6=>∃m',m'<m/\W (i+1) m' H6 else∃m',m'<m/\W (i+1) m' H5)))
  (hRR:∀D C H' s',(∃Z',Inv (X.block scope C N fp zI H1) [] Z' H' s')->zI.heap.objs.size<=C->Q (.ref D) H'->RR (.ref D) C (.ok .next) s'):
  wpAny (model X.prog X.w) X.A mk (λ acc y9=>wpAny (model X.prog X.w) X.A (zES scope X.env.globals (bR scope X.env) [] X.env.qual none .none (some X.env)) (λ cenv y3=>
   zCM (model X.prog X.w) X.A (.compStart e 0 (.ref it) acc {cenv with scope:=zEv scope X.env}) (RR acc cenv.locals) y3) E y9) E zI:=by
 refine hA.make λ ob hob=>aCR λ zC y7 y8 y6=>?_
 dsimp only at y7 y8 y6 ⊢;generalize hH2:zI.heap.push ob=P2 at y7 y8 y6 ⊢;have hC:P2.objs.size=zI.heap.objs.size+1:=by rw[<-hH2,zCY]
 have hDC:zI.heap.objs.size≠P2.objs.size:=by rw[hC];exact zA6 (zBz _)
 have hCle:zI.heap.objs.size<=P2.objs.size:=by rw[hC];exact zDF _
 have old:∀b o,zI.heap.get? b=some o->zC.get? b=some o:=λ b o e=>y8 b o (hH2▸zAE _ e)
 have hacc:zC.get? zI.heap.objs.size=some ob:=y8 _ _ (hH2▸zAX _ (hA.live ob hob));generalize hCe:P2.objs.size=C at y7 y8 y6 hDC hCle hC ⊢;have hHD:H1 zI.heap.objs.size=none:=I.hok.fresh (zAO _);have I0:Inv (X.block scope C N fp zI H1) [] (st Z) (upd H1 zI.heap.objs.size (o zI.heap.objs.size)) {zI with heap:=zC,toks:=zI.toks}:=
  I.block B hfp (λ b hb=>by obtain⟨o,e,_⟩:=T.obj 0 _ h0 b hb;exact⟨o,e⟩) (zAO _) hCle hDC old y7 y6 (λ c hc=>zA6 (zEN hCle hc)) (hA.ok hob hacc (aLD I))
 obtain⟨W,⟨m0,w0⟩,step⟩:=h _ hHD;have h01:tn 0 zC:=T.keep 0 _ _ h0 λ b _ o e=>old b o e
 have stat:∀{H':Hp},(∀b∈fp,H' b=none)->∀b∈fp,pL (X.block scope C N fp zI H1) [] H' b:=λ{H'} hn b hb=>
  ⟨hn b hb,(I0.ok.exf b hb).1,I0.ok.exfs b hb,.inl hb,λ x c e=>(I0.ok.exf b hb).2 x c e,λ p hp=>absurd (show p∈([]:List (Addr×Obj))from hp) (by simp)⟩
 have fr0:∀b∈fp,upd H1 zI.heap.objs.size (o zI.heap.objs.size) b=none:=λ b hb=>by
  obtain⟨o,e,_⟩:=T.obj 0 _ h0 b hb;rw[aj (zA6 (zAS e))];exact(hfp b hb).1
 have loop:∀sx:zAH,sx={zI with heap:=zC,toks:=zI.toks}->
   zCM (model X.prog X.w) X.A (.compLoop e 0 (.ref it) (.ref zI.heap.objs.size) (X.block scope C N fp zI H1).env) (RR (.ref zI.heap.objs.size) C) sx:=by
  rintro sx rfl;refine qT hT (λ n s'=>∃i H2,Inv (X.block scope C N fp zI H1) [] (st Z) H2 s'/\tn i s'.heap/\(∀b∈fp,H2 b=none)/\W i n H2) ?_ m0 ⟨0,_,I0,h01,fr0,w0⟩;rintro n s3 ⟨i,H2,I2,st2,fr2,w2⟩;rcases step i n H2 w2 with ⟨stop,q⟩|⟨go,nxt⟩
  .refine thn (T.done (X.block scope C N fp zI H1) rfl rfl rfl hc i [] s3 (st Z) H2 _ I2 (stat fr2) st2 stop) λ r s4 ⟨hr,I4⟩=>?_
   subst hr;exact hRR _ C H2 s4 ⟨_,I4⟩ hCle q
  .refine thn (T.item (X.block scope C N fp zI H1) rfl rfl rfl hc i [] s3 (st Z) H2 _ I2 (stat fr2) st2 go) λ r s4 ⟨u,hr,h4⟩=>?_
   subst hr;refine thn h4 λ _ s5 ⟨x,H5,I5,r5,y5,st5,fr5⟩=>?_
   have I5p:=I5.pinned (stat fr5) (T.obj _ _ st5);refine thn (hg C fp zI H1 _ s5 (st Z) H5 x u _ I5p r5 (hgo _ _ _ _ (nxt x H5 y5))) λ _ s6 ⟨Z6,H6,I6,q6,aDB,ag6⟩=>?_
   refine thn (ht C fp zI H1 _ s6 Z6 H6 _ I6 q6) λ ok s7 ⟨H7,I7,q7⟩=>?_
   have again:∀{H9:Hp} {s9:zAH},Inv (X.block scope C N fp zI H1) ([]++ou fp s5.heap) Z6 H9 s9->(∃m',m'<n/\W (i+1) m' H9)->
     ∃m,m<n/\∃i H2,Inv (X.block scope C N fp zI H1) [] (st Z) H2 s9/\tn i s9.heap/\(∀b∈fp,H2 b=none)/\W i m H2:=λ{H9 s9} I9 ⟨m',hm,w9⟩=>by
    have pin9:∀b∈fp,∀o,s5.heap.get? b=some o->s9.heap.get? b=some o/\H9 b=none:=λ b hb o e=>by
     have z:=I9.pin (b,o) (zAZ _ (zAZ _ (ik hb e)));exact⟨z.1,z.2.1⟩
    refine⟨m',hm,i+1,H9,I9.unpinned.weak (by rw[aDB]) (λ k v e=>?_),T.keep _ _ _ st5 λ b hb o e=>(pin9 b hb o e).1,λ b hb=>?_,w9⟩
    .have hk:k<(st Z).length:=(zAL.mp e).1
     have hkN:k<N.length:=by rw[<-B.len Z];exact hk
     obtain⟨_,hks,_⟩:=B.val Z k _ v (zAB hkN) e;rw[ag6 k hks];exact e
    .obtain⟨o,e,_⟩:=T.obj _ _ st5 b hb
     exact(pin9 b hb o e).2
   cases ok with
   |false=>
    rw[if_neg zAY]at q7 ⊢;exact again I7 q7
   |true=>
    rw[if_pos rfl]at q7 ⊢;exact thn (he C fp zI H1 _ _ s7 Z6 H7 _ I7 q7) λ _ s8 ⟨H8,I8,q8⟩=>again I8 q8
 exact hS (loop _ rfl) (T.self X.A 0 _ _ _ h01 (loop _ rfl))
def aHo(B:cU X scope N st ks)(hc:X.calm=true)(hi:PI X tg iter wi)(hg:∀C fp z0 zS,PG (X.block scope C N fp z0 zS) tg g)(hgo:jW g ks)(ht:∀C fp z0 zS,z8 (X.block scope C N fp z0 zS) ifs tt)
  (hT:m9 0 e tg iter ifs body)(hS:uH 0 e)(hA:aCa X.prog X.w mk obs o)(he:∀C fp z0 zS,PB (X.block scope C N fp z0 zS) body tb)(hcs:clausesOf e=⟨tg,iter,ifs,0⟩::gs)(hev:eval e X.env=comprehension e scope X.env (firstIterPos (⟨tg,iter,ifs,0⟩::gs) pos) mk false (eval iter X.env))(hs:∀x,zAu iter X.env x=pure x:=by intro _;rfl):PE X e (aD9 o wi st g tt tb):=by
 intro pins s Z H Q I h;have hcl:zEt scope X.env=pure (bR scope X.env):=je λ y hy hk=>I.ok.has _ (B.free y hy hk)
 rw[hev];refine zDf (use:=none) hcs hs hcl B.kind B.loc (thn (hi pins s Z H _ I h) λ v s1 h1=>thn h1 λ itv s2 h2=>?_);obtain⟨it,fp,tn,J,H2,e,I2,T,st2,f2,hq⟩:=h2;subst e;refine aFZ (RR:=λ acc C=>compPost (model X.prog X.w) X.A X.xe none (EP X pins Z Q) acc C) B hc hT hS hA hg hgo ht he I2 T st2 f2 hq ?_;intro D C H' s' hJ hCle q;have I3:=zV I2 f2 hJ;obtain⟨Z',J'⟩:=hJ;obtain⟨m,hn,_⟩:=id J'.loc;have hHC:H' C=none:=J'.free;refine⟨m,hn,λ h'' hs''=>⟨.ref D,H',?_,rfl,q⟩⟩;exact I3.turned (t':=s'.toks) (λ b o ne e=>(hs''.2 b ne).trans e) hHC (zC5 (zAV I2.lt hCle)) (.inr (zA5 I2.sz hCle))
  (λ x c e z=>by obtain⟨v,ic⟩:=I2.cell x c e;exact absurd (zAV ic.lt (by rw[z];exact hCle)) (zBL _))
  (λ p hp z=>absurd (zAV (I2.pinL hp) (by rw[z];exact hCle)) (zBL _))
end
def yO(elt:Expr)(env:Env)(D:Addr):Sem Unit:=do
 let v <-eval elt env
 zED elt.pos
 let _ <-call (.builtin "set.add") [.ref D,v]
def yr(elt:Expr)(env:Env)(D:Addr):Sem Unit:=do let _ <-call (.builtin "list.append") [.ref D,<-eval elt env]
def aH4(te:TE):Addr->St->Hp->(Hp->Prop)->Prop:=λ D Z H Q=>te Z H λ y H1=>∃acc,H1 D=some (.lst acc)/\acc.length<zAP/\Q (upd H1 D (.lst (acc++[y])))
def aIk(he:PE X elt te):PB X (yr elt) (aH4 te):=by
 intro D pins s Z H Q I h;unfold yr;refine zAC (thn (he pins s Z H _ I h) λ u s1 ⟨y,H1,I1,r1,acc,hD,hz,q⟩=>zAC ?_);refine thn (rK _ s1 Z H1 (.ref D) [y] (.ref D) [u] (λ _ H9=>H9=upd H1 D (.lst (acc++[y]))) I1 rfl (.cons r1 .nil) ⟨_,acc,y,rfl,rfl,hD,hz,rfl⟩) λ _ s2 ⟨_,H2,I2,_,e⟩=>?_
 subst e;exact zAF ⟨_,I2,q⟩
def aHW:aCa prog w (zEZ []) (λ ob=>ob={cls:=.type "list",data:=.seq #[]}) (λ _=>.lst []) where
 make:=λ h=>zAv (h _ rfl)
 live:=by rintro ob rfl;rfl
 ok:=by
  rintro H h a ob rfl hg hb;exact⟨zAc _,[],_,.nil,hg⟩
def jq(e iter2:Expr)(env:Env)(D:Addr):Sem Unit:=do
 let x <-eval iter2 env
 zED iter2.pos
 let x <-zAu iter2 env x;let _ <-runOwn (.compStart e 1 (<-zCj [x] (zHQ x)) (.ref D) env) env
def aD5(elt tg iter tg2 iter2:Expr)(ifs ifs2:List Expr)(scope:Scope)(pos:Pos):m9 0 (.ListComp elt [⟨tg,iter,ifs,0⟩,⟨tg2,iter2,ifs2,0⟩] scope pos) tg iter ifs (jq (.ListComp elt [⟨tg,iter,ifs,0⟩,⟨tg2,iter2,ifs2,0⟩] scope pos) iter2):=
 ⟨λ _ _ _ _=>rfl,λ _ _ _ _ _=>rfl,λ _ _ _=>by unfold jq zGO;simp only[zGC];rfl⟩
def aD4(elt tg iter tg2 iter2:Expr)(ifs ifs2:List Expr)(scope:Scope)(pos:Pos):m9 1 (.ListComp elt [⟨tg,iter,ifs,0⟩,⟨tg2,iter2,ifs2,0⟩] scope pos) tg2 iter2 ifs2 (yr elt):=
 ⟨λ _ _ _ _=>rfl,λ _ _ _ _ _=>rfl,λ _ _ _=>rfl⟩
def aD3(elt tg iter tg2 iter2:Expr)(ifs ifs2:List Expr)(scope:Scope)(pos:Pos):m9 0 (.SetComp elt [⟨tg,iter,ifs,0⟩,⟨tg2,iter2,ifs2,0⟩] scope pos) tg iter ifs (jq (.SetComp elt [⟨tg,iter,ifs,0⟩,⟨tg2,iter2,ifs2,0⟩] scope pos) iter2):=
 ⟨λ _ _ _ _=>rfl,λ _ _ _ _ _=>rfl,λ _ _ _=>by unfold jq zGO;simp only[zGC];rfl⟩
def aD2(elt tg iter tg2 iter2:Expr)(ifs ifs2:List Expr)(scope:Scope)(pos:Pos):m9 1 (.SetComp elt [⟨tg,iter,ifs,0⟩,⟨tg2,iter2,ifs2,0⟩] scope pos) tg2 iter2 ifs2 (yO elt):=
 ⟨λ _ _ _ _=>rfl,λ _ _ _ _ _=>rfl,λ _ _ _=>rfl⟩
def pN(hcl:(clausesOf e)[d]? =some ⟨tg,iter,ifs,0⟩)(hu:∀(A:zAm) (it acc:Value) (env:Env),A.under (.compStart e d it acc env)=A)
  (hd:∀(prog:zA2) (w:World) (it acc:Value) (env:Env),(model prog w).den (.compStart e d it acc env)=(compStart e d it acc env).onRaise (λ x=>do noteFrame x env;zED theWindowsPlace)):uH d e:=by
 intro prog w A R s it acc env h0 h;refine codeAny_of_tree ?_;rw[hu,hd];refine wpAny_notedAt ?_;unfold compStart;rw[hcl];show wpAny _ A (ask>>=_) _ _ s;refine zAC (zC8 (wpAny_ite ?_));split
 .first|exact zAC (zAF (zAF (zEm rfl h0)))|exact zAF (zEm rfl h0)
 .first
   |exact zAC (zGF (zAC (zC2 (zAC (zBN h (λ it2 s2 h2=>zAF (zEm rfl h2)) λ _ _ x=>x)))))
   |(refine zAC (zGF ?_);(show wpAny _ _ (zED iter.pos>>=_) _ _ s);exact zAC (zC2 (zAC (zBN h (λ it2 s2 h2=>zAF (zEm rfl h2)) λ _ _ x=>x))))
def yH(ks:List Nat)(wi:TI)(g:TG)(tt:TT)(tb:Addr->St->Hp->(Hp->Prop)->Prop):Addr->St->Hp->(Hp->Prop)->Prop:=λ D Z H Q=>(∀k∈ks,∀v,Z[k]?≠some (some v))/\wi Z H λ J H1=>∃W:Nat->Nat->Hp->Prop,(∃m,W 0 m H1)/\
 ∀i m H2,W i m H2->((J.stop i H2/\Q H2)\/(J.go i H2/\∀x H3,J.yld i H2 x H3->g x Z H3 λ Z4 H4=>tt Z4 H4 λ ok H5=>
  if ok=true then tb D Z4 H5 λ H6=>∃m',m'<m/\W (i+1) m' H6 else∃m',m'<m/\W (i+1) m' H5))
def aCM(hc:X.calm=true)(hx:∀v s,X.xe v s->False)(hT:m9 1 e tg iter ifs body)(hS:uH 1 e)
  (hi:PI X tg iter wi)(hg:PG X tg g)(hgo:jW g ks)(ht:z8 X ifs tt)(he:PB X body tb)(hs:∀x,zAu iter X.env x=pure x:=by intro _;rfl):PB X (jq e iter) (yH ks wi g tt tb):=by
 have nf:∀{α:Type} {m:Sem α} {Q:α->zAH->Prop} {s:zAH},wpAny (model X.prog X.w) X.A m Q X.xe s->wpAny (model X.prog X.w) X.A m Q (λ _ _=>False) s:=λ h=>zBN h (λ _ _ q=>q) hx
 intro D pins s Z H Q I h;obtain⟨hno,h⟩:=h;unfold jq;refine zAC (thn (hi pins s Z H _ I h) λ v s1 h1=>zAC (zC2 (zAC (wpAny_of_eq (hs v) (zAC (zB6 (thn h1 λ itv s2 h2=>zAC ?_)))))));obtain⟨it,fp,tn,J,H1,e1,I1,T,st1,f1,W,⟨m0,w0⟩,step⟩:=h2;subst e1;have stat:∀{H':Hp},(∀b∈fp,H' b=none)->∀b∈fp,pL X pins H' b:=λ{H'} hn b hb=>⟨hn b hb,(f1 b hb).2⟩
 have loop:zCM (model X.prog X.w) X.A (.compLoop e 1 (.ref it) (.ref D) X.env) (λ r s'=>match r with| .ok _=>(∃H',Inv X pins Z H' s'/\Q H')| .error _=>False) s2:=by
  refine qT hT (λ n s'=>∃i H2,Inv X pins Z H2 s'/\tn i s'.heap/\(∀b∈fp,H2 b=none)/\W i n H2) ?_ m0 ⟨0,H1,I1,st1,λ b hb=>(f1 b hb).1,w0⟩;rintro n s3 ⟨i,H2,I2,st2,fr2,w2⟩;rcases step i n H2 w2 with ⟨stop,q⟩|⟨go,nxt⟩
  .refine thn (T.done X rfl rfl rfl hc i pins s3 Z H2 _ I2 (stat fr2) st2 stop) λ r s4 ⟨hr,I4⟩=>?_
   subst hr;exact⟨H2,I4,q⟩
  .refine thn (T.item X rfl rfl rfl hc i pins s3 Z H2 _ I2 (stat fr2) st2 go) λ r s4 ⟨u,hr,h4⟩=>?_
   subst hr;refine thn h4 λ _ s5 ⟨x,H5,I5,r5,y5,st5,fr5⟩=>?_
   have I5p:=I5.pinned (stat fr5) (T.obj _ _ st5);refine thn (nf (hg _ s5 Z H5 x u _ I5p r5 (hgo _ _ _ _ (nxt x H5 y5)))) λ _ s6 ⟨Z6,H6,I6,q6,aDB,ag6⟩=>?_
   refine thn (nf (ht _ s6 Z6 H6 _ I6 q6)) λ ok s7 ⟨H7,I7,q7⟩=>?_
   have again:∀{H9:Hp} {s9:zAH},Inv X (pins++ou fp s5.heap) Z6 H9 s9->(∃m',m'<n/\W (i+1) m' H9)->∃m,m<n/\∃i H2,Inv X pins Z H2 s9/\tn i s9.heap/\(∀b∈fp,H2 b=none)/\W i m H2:=λ{H9 s9} I9 ⟨m',hm,w9⟩=>by
    have pin9:∀b∈fp,∀o,s5.heap.get? b=some o->s9.heap.get? b=some o/\H9 b=none:=λ b hb o e=>by
     have z:=I9.pin (b,o) (zAZ _ (zAZ _ (ik hb e)));exact⟨z.1,z.2.1⟩
    refine⟨m',hm,i+1,H9,I9.unpinned.weak (by rw[aDB]) (λ k v e=>?_),T.keep _ _ _ st5 λ b hb o e=>(pin9 b hb o e).1,λ b hb=>?_,w9⟩
    .by_cases hk:k∈ks
     .exact absurd e (hno k hk v)
     .rw[ag6 k hk];exact e
    .obtain⟨o,e,_⟩:=T.obj _ _ st5 b hb
     exact(pin9 b hb o e).2
   cases ok with
   |false=>
    rw[if_neg zAY]at q7 ⊢;exact again I7 q7
   |true=>
    rw[if_pos rfl]at q7 ⊢;exact thn (nf (he D _ s7 Z6 H7 _ I7 q7)) λ _ s8 ⟨H8,I8,q8⟩=>again I8 q8
 refine wpAny_runOwn (h:=none) (zEA (hS loop (T.self X.A 0 _ _ _ st1 loop)) λ r s' hr=>?_);cases r with
 |ok f=>exact zAF hr
 |error x=>exact hr.elim
end L2
namespace VL
open PySem PySem.Spec PyProof.Rows L2
inductive D where
 |non|bl (b:Bool)|int (i:Int)|str (x:Str)|tup (l:List D)|lst (l:List D)|dct (ks vs:List D)|set (l:List Int)|scr (l:List Int)|fn (x:Str)
instance:Inhabited D:=⟨.non⟩
def kD:Key->D
 | .inl i=>.int i
 | .inr x=>.str x
variable{K:zAA}
def mq(K:zAA)(H:Hp)(a:Addr)(ns:List Int):Prop:=(∃o,H a=some (.frz o (.lst (ns.map V.int))))\/
 ∃(o:Obj) (its:Array Value) (n:Nat),K.lookup a=some o/\o.cls= .type "list"/\o.dict=none/\o.data= .seq its n/\its.size<=zAP/\Vals (ns.map V.int) its.toList
def mq.sq(h:mq K H a ns):SqL K H a (ns.map V.int):=by
 rcases h with h|h
 .exact .inl (.inr h)
 .exact .inr h
def hsh(ns:List Int):Int:=reduceHash (zHU (ns.map hashInt))
def dxO(a:Addr)(es:List (List Int×Addr×V)):HO:=.ext λ h=>es.length<=zAP/\(a==zDe)=false/\∃(xs:List (List Int×Addr×Value)) (o:Obj) (ts:Array DictEntry) (ep:Nat),zFE (λ e x=>e.1=x.1/\e.2.1=x.2.1/\RelV e.2.2 x.2.2) es xs/\
 h.get? a=some o/\o.ExactDict/\o.data= .dict ts ep/\ts.toList=xs.map λ x=>⟨hsh x.1,.ref x.2.1,x.2.2⟩
structure DxK(K:zAA)(H:Hp)(a:Addr)(es:List (List Int×Addr×V)):Prop where
 at_:H a=some (dxO a es)
 ks:∀e∈es,SqT K H e.2.1 (e.1.map V.int)
 nd:(es.map (·.1)).Nodup
mutual
inductive Rp(K:zAA):(Addr->Prop)->Hp->V->D->Prop where
 |non {A:Addr->Prop} {H:Hp}:Rp K A H .non .non
 |bl {A:Addr->Prop} {H:Hp} (b:Bool):Rp K A H (.bl b) (.bl b)
 |int {A:Addr->Prop} {H:Hp} (i:Int):Rp K A H (.int i) (.int i)
 |str {A:Addr->Prop} {H:Hp} (x:Str):Rp K A H (.str x) (.str x)
 |tup {A:Addr->Prop} {H:Hp} {a:Addr} {xs:List V} {ds:List D} (h:SqT K H a xs) (r:Rps K A H xs ds):Rp K A H (.ref a) (.tup ds)
 |lst {A:Addr->Prop} {H:Hp} {a:Addr} {xs:List V} {ds:List D} (h:H a=some (.lst xs)) (m:A a) (r:Rps K (λ p=>A p/\p≠a) H xs ds):Rp K A H (.ref a) (.lst ds)
 |dK {A:Addr->Prop} {H:Hp} {a:Addr} {kvs:List (Key×V)} {ds:List D} (h:H a=some (.dK kvs)) (m:A a) (r:Rps K (λ p=>A p/\p≠a) H (kvs.map (·.2)) ds):Rp K A H (.ref a) (.dct (kvs.map λ p=>kD p.1) ds)
 |dT {A:Addr->Prop} {H:Hp} {a:Addr} {es:List (List Int×Addr×V)} {ds:List D} (h:DxK K H a es) (m:A a) (r:Rps K (λ p=>A p/\p≠a) H (es.map (·.2.2)) ds):Rp K A H (.ref a) (.dct (.non::es.map λ e=>.tup (e.1.map .int)) ds)
 |set {A:Addr->Prop} {H:Hp} {a:Addr} {S:Int->Bool} {l:List Int} (h:H a=some (.set S l.length)) (m:A a) (hS:∀i,S i=decide (i∈l)) (nd:l.Nodup):Rp K A H (.ref a) (.set l)
 |scr {A:Addr->Prop} {H:Hp} {a:Addr} {ns:List Int} (h:mq K H a ns):Rp K A H (.ref a) (.scr ns)
 |fn {A:Addr->Prop} {H:Hp} {a:Addr} {x:Str} (h:zAq K zA7 x=some (some (.ref a))):Rp K A H (.ref a) (.fn x)
inductive Rps(K:zAA):(Addr->Prop)->Hp->List V->List D->Prop where
 |nil {A:Addr->Prop} {H:Hp}:Rps K A H [] []
 |cons {A:Addr->Prop} {H:Hp} {x:V} {d:D} {xs:List V} {ds:List D} (h:Rp K A H x d) (r:Rps K A H xs ds):Rps K A H (x::xs) (d::ds)
end
def mq.mono(s:aU H H')(h:mq K H a ns):mq K H' a ns:=by
 rcases h with ⟨o,h⟩|h
 .exact .inl ⟨o,s _ _ h⟩
 .exact .inr h
def DxK.mono(h:DxK K H a es)(s:aU H H'):DxK K H' a es:=⟨s _ _ h.at_,λ e he=>s.sqt (h.ks e he),h.nd⟩
def Rp.mono'(s:aU H H')(r:Rp K A H x d)(hA:∀p o,H p=some o->A p->A' p):Rp K A' H' x d:=
 Rp.rec (motive_1:=λ A H x d _=>∀H',aU H H'->∀A':Addr->Prop,(∀p o,H p=some o->A p->A' p)->Rp K A' H' x d) (motive_2:=λ A H xs ds _=>∀H',aU H H'->∀A':Addr->Prop,(∀p o,H p=some o->A p->A' p)->Rps K A' H' xs ds)
  (λ _ _ _ _=>.non) (λ b _ _ _ _=>.bl b) (λ i _ _ _ _=>.int i) (λ x _ _ _ _=>.str x) (λ h _ ih _ s _ hA=>.tup (s.sqt h) (ih _ s _ hA))
  (λ h m _ ih _ s _ hA=>.lst (s _ _ h) (hA _ _ h m) (ih _ s _ λ p o e z=>⟨hA p o e z.1,z.2⟩)) (λ h m _ ih _ s _ hA=>.dK (s _ _ h) (hA _ _ h m) (ih _ s _ λ p o e z=>⟨hA p o e z.1,z.2⟩))
  (λ h m _ ih _ s _ hA=>.dT (h.mono s) (hA _ _ h.at_ m) (ih _ s _ λ p o e z=>⟨hA p o e z.1,z.2⟩)) (λ h m hS nd _ s _ hA=>.set (s _ _ h) (hA _ _ h m) hS nd) (λ h _ s _ _=>.scr (h.mono s)) (λ h _ _ _ _=>.fn h) (λ _ _ _ _=>.nil) (λ _ _ ih ir _ s _ hA=>.cons (ih _ s _ hA) (ir _ s _ hA)) r H' s A' hA
def Rps.mono'(s:aU H H')(r:Rps K A H xs ds)(hA:∀p o,H p=some o->A p->A' p):Rps K A' H' xs ds:=
 Rps.rec (motive_1:=λ A H x d _=>∀H',aU H H'->∀A':Addr->Prop,(∀p o,H p=some o->A p->A' p)->Rp K A' H' x d) (motive_2:=λ A H xs ds _=>∀H',aU H H'->∀A':Addr->Prop,(∀p o,H p=some o->A p->A' p)->Rps K A' H' xs ds)
  (λ _ _ _ _=>.non) (λ b _ _ _ _=>.bl b) (λ i _ _ _ _=>.int i) (λ x _ _ _ _=>.str x) (λ h _ ih _ s _ hA=>.tup (s.sqt h) (ih _ s _ hA))
  (λ h m _ ih _ s _ hA=>.lst (s _ _ h) (hA _ _ h m) (ih _ s _ λ p o e z=>⟨hA p o e z.1,z.2⟩)) (λ h m _ ih _ s _ hA=>.dK (s _ _ h) (hA _ _ h m) (ih _ s _ λ p o e z=>⟨hA p o e z.1,z.2⟩))
  (λ h m _ ih _ s _ hA=>.dT (h.mono s) (hA _ _ h.at_ m) (ih _ s _ λ p o e z=>⟨hA p o e z.1,z.2⟩)) (λ h m hS nd _ s _ hA=>.set (s _ _ h) (hA _ _ h m) hS nd) (λ h _ s _ _=>.scr (h.mono s)) (λ h _ _ _ _=>.fn h) (λ _ _ _ _=>.nil) (λ _ _ ih ir _ s _ hA=>.cons (ih _ s _ hA) (ir _ s _ hA)) r H' s A' hA
def Rp.mono(s:aU H H')(hA:∀p o,H p=some o->A p->A' p)(r:Rp K A H x d):Rp K A' H' x d:=r.mono' s hA
def Rps.mono(s:aU H H')(hA:∀p o,H p=some o->A p->A' p)(r:Rps K A H x d):Rps K A' H' x d:=r.mono' s hA
def Rp.up(s:aU H H')(r:Rp K A H x d):Rp K A H' x d:=r.mono s λ _ _ _ h=>h
def Rp.wk(hA:∀p o,H p=some o->A p->A' p)(r:Rp K A H x d):Rp K A' H x d:=r.mono (aU.refl H) hA
def Rps.up(s:aU H H')(r:Rps K A H x d):Rps K A H' x d:=r.mono s λ _ _ _ h=>h
def Rps.wk(hA:∀p o,H p=some o->A p->A' p)(r:Rps K A H x d):Rps K A' H x d:=r.mono (aU.refl H) hA
def iu:HO->Bool
 | .lst _=>true| .dK _=>true| .dT _=>true| .set _ _=>true| .ext _=>true|_=>false
def yJ(s:iC l H H')(hl:H l=some o)(ho:iu o=true)(h:SqT K H a xs):SqT K H' a xs:=by
 rcases h with (h|⟨u,h⟩)|h
 .refine .inl (.inl (s _ _ (λ e=>?_) h))
  subst e;rw[hl]at h;cases h;cases ho
 .refine .inl (.inr ⟨u,s _ _ (λ e=>?_) h⟩)
  subst e;rw[hl]at h;cases h;cases ho
 .exact .inr h
def aCG(s:iC l H H')(hl:H l=some o)(ho:iu o=true)(h:mq K H a ns):mq K H' a ns:=by
 rcases h with ⟨u,h⟩|h
 .exact .inl ⟨u,s _ _ (λ e=>by subst e;rw[hl]at h;cases h;cases ho) h⟩
 .exact .inr h
def DxK.but(h:DxK K H a es)(s:iC l H H')(hl:H l=some o)(ho:iu o=true)(ne:a≠l):DxK K H' a es:=
 ⟨s _ _ ne h.at_,λ e he=>yJ s hl ho (h.ks e he),h.nd⟩
def Rp.but'(s:iC l H H')(hl:H l=some o)(ho:iu o=true)(r:Rp K A H x d)(hA:¬A l):Rp K A H' x d:=
 Rp.rec (motive_1:=λ A H x d _=>∀H',iC l H H'->∀o:HO,H l=some o->iu o=true->¬A l->Rp K A H' x d) (motive_2:=λ A H xs ds _=>∀H',iC l H H'->∀o:HO,H l=some o->iu o=true->¬A l->Rps K A H' xs ds)
  (λ _ _ _ _ _ _=>.non) (λ b _ _ _ _ _ _=>.bl b) (λ i _ _ _ _ _ _=>.int i) (λ x _ _ _ _ _ _=>.str x) (λ h _ ih _ s o hl ho hA=>.tup (yJ s hl ho h) (ih _ s o hl ho hA))
  (λ h m _ ih _ s o hl ho hA=>.lst (s _ _ (λ e=>hA (e▸m)) h) m (ih _ s o hl ho λ z=>hA z.1)) (λ h m _ ih _ s o hl ho hA=>.dK (s _ _ (λ e=>hA (e▸m)) h) m (ih _ s o hl ho λ z=>hA z.1))
  (λ h m _ ih _ s o hl ho hA=>.dT (h.but s hl ho λ e=>hA (e▸m)) m (ih _ s o hl ho λ z=>hA z.1)) (λ h m hS nd _ s o hl ho hA=>.set (s _ _ (λ e=>hA (e▸m)) h) m hS nd) (λ h _ s o hl ho _=>.scr (aCG s hl ho h)) (λ h _ _ _ _ _ _=>.fn h) (λ _ _ _ _ _ _=>.nil) (λ _ _ ih ir _ s o hl ho hA=>.cons (ih _ s o hl ho hA) (ir _ s o hl ho hA)) r H' s o hl ho hA
def Rps.but'(s:iC l H H')(hl:H l=some o)(ho:iu o=true)(r:Rps K A H xs ds)(hA:¬A l):Rps K A H' xs ds:=
 Rps.rec (motive_1:=λ A H x d _=>∀H',iC l H H'->∀o:HO,H l=some o->iu o=true->¬A l->Rp K A H' x d) (motive_2:=λ A H xs ds _=>∀H',iC l H H'->∀o:HO,H l=some o->iu o=true->¬A l->Rps K A H' xs ds)
  (λ _ _ _ _ _ _=>.non) (λ b _ _ _ _ _ _=>.bl b) (λ i _ _ _ _ _ _=>.int i) (λ x _ _ _ _ _ _=>.str x) (λ h _ ih _ s o hl ho hA=>.tup (yJ s hl ho h) (ih _ s o hl ho hA))
  (λ h m _ ih _ s o hl ho hA=>.lst (s _ _ (λ e=>hA (e▸m)) h) m (ih _ s o hl ho λ z=>hA z.1)) (λ h m _ ih _ s o hl ho hA=>.dK (s _ _ (λ e=>hA (e▸m)) h) m (ih _ s o hl ho λ z=>hA z.1))
  (λ h m _ ih _ s o hl ho hA=>.dT (h.but s hl ho λ e=>hA (e▸m)) m (ih _ s o hl ho λ z=>hA z.1)) (λ h m hS nd _ s o hl ho hA=>.set (s _ _ (λ e=>hA (e▸m)) h) m hS nd) (λ h _ s o hl ho _=>.scr (aCG s hl ho h)) (λ h _ _ _ _ _ _=>.fn h) (λ _ _ _ _ _ _=>.nil) (λ _ _ ih ir _ s o hl ho hA=>.cons (ih _ s o hl ho hA) (ir _ s o hl ho hA)) r H' s o hl ho hA
def Rp.but(s:iC l H H')(hl:H l=some o)(ho:iu o=true)(hA:¬A l)(r:Rp K A H x d):Rp K A H' x d:=r.but' s hl ho hA
def Rps.but(s:iC l H H')(hl:H l=some o)(ho:iu o=true)(hA:¬A l)(r:Rps K A H x d):Rps K A H' x d:=r.but' s hl ho hA
mutual
def imm:D->Bool
 | .tup l=>pq l
 | .lst _=>false
 | .dct _ _=>false
 | .set _=>false
 |_=>true
def pq:List D->Bool
 |[]=>true
 |d::r=>imm d&&pq r
end
def xN(e:pq (d::r)=true):imm d=true/\pq r=true:=by
 simp only[pq,zAQ]at e;exact e
def aGz(e:imm (.tup l)=true):pq l=true:=by simpa[imm]using e
def aHD(e:imm (.lst l)=true):False:=by simp[imm]at e
def aC2(e:imm (.dct l k)=true):False:=by simp[imm]at e
def aHA(e:imm (.set l)=true):False:=by simp[imm]at e
def Rp.imm'(r:Rp K A H x d)(e:VL.imm d=true):Rp K A' H x d:=
 Rp.rec (motive_1:=λ _ H x d _=>VL.imm d=true->Rp K A' H x d) (motive_2:=λ _ H xs ds _=>pq ds=true->Rps K A' H xs ds)
  (λ _=>.non) (λ b _=>.bl b) (λ i _=>.int i) (λ x _=>.str x) (λ h _ ih e=>.tup h (ih (aGz e)))
  (λ _ _ _ _ e=>(aHD e).elim) (λ _ _ _ _ e=>(aC2 e).elim) (λ _ _ _ _ e=>(aC2 e).elim) (λ _ _ _ _ e=>(aHA e).elim) (λ h _=>.scr h) (λ h _=>.fn h) (λ _=>.nil) (λ _ _ ih ir e=>.cons (ih (xN e).1) (ir (xN e).2)) r e
theorem Rp.imm(r:Rp K A H x d)(h:VL.imm d=true):Rp K A' H x d:=r.imm' h
def Rp.int_inv(r:Rp K A H v (.int i)):v= .int i:=by cases r;rfl
def Rp.tup_inv(r:Rp K A H v (.tup ds)):∃a xs,v= .ref a/\SqT K H a xs/\Rps K A H xs ds:=by cases r with|tup h r=>exact⟨_,_,rfl,h,r⟩
def Rp.lst_inv(r:Rp K A H v (.lst ds)):∃a xs,v= .ref a/\H a=some (.lst xs)/\A a/\Rps K (λ p=>A p/\p≠a) H xs ds:=by cases r with|lst h m r=>exact⟨_,_,rfl,h,m,r⟩
def Rp.scr_inv(r:Rp K A H v (.scr ns)):∃a,v= .ref a/\mq K H a ns:=by cases r with|scr h=>exact⟨_,rfl,h⟩
def Rps.one_inv(r:Rps K A H vs [d]):∃v,vs=[v]/\Rp K A H v d:=by cases r with|cons h r=>cases r;exact⟨_,rfl,h⟩
section
variable{A:Addr->Prop}{H:Hp}
theorem Rps.length:∀{xs:List V} {ds:List D},Rps K A H xs ds->xs.length=ds.length:=by
 intro xs ds h;induction xs generalizing ds with
 |nil=>cases h;rfl
 |cons x xs ih=>cases h with|cons _ r=>exact congrArg (·+1) (ih r)
theorem Rps.get:∀{xs:List V} {ds:List D} {i:Nat} {x:V},Rps K A H xs ds->xs[i]? =some x->∃d,ds[i]? =some d/\Rp K A H x d
 |_,_,_,_,.nil,e=>by simp at e
 |_,_,0,_,.cons h _,e=>by simp at e;subst e;exact⟨_,rfl,h⟩
 |_,_,i+1,x,.cons _ r,e=>by
  obtain⟨d,h1,h2⟩:=Rps.get (i:=i) (x:=x) r (by simpa using e);exact⟨d,by simpa using h1,h2⟩
theorem Rps.getD:∀{xs:List V} {ds:List D} {i:Nat} {d:D},Rps K A H xs ds->ds[i]? =some d->∃x,xs[i]? =some x/\Rp K A H x d
 |_,_,_,_,.nil,e=>by simp at e
 |_,_,0,_,.cons h _,e=>by simp at e;subst e;exact⟨_,rfl,h⟩
 |_,_,i+1,d,.cons _ r,e=>by
  obtain⟨x,h1,h2⟩:=Rps.getD (i:=i) (d:=d) r (by simpa using e);exact⟨x,by simpa using h1,h2⟩
def Rps.append:∀{xs ys:List V} {ds es:List D},Rps K A H xs ds->Rps K A H ys es->Rps K A H (xs++ys) (ds++es):=by
 intro xs ys ds es h s;induction xs generalizing ds with
 |nil=>cases h;exact s
 |cons x xs ih=>cases h with|cons h r=>exact .cons h (ih r)
theorem Rps.take:∀{xs:List V} {ds:List D} (n:Nat),Rps K A H xs ds->Rps K A H (xs.take n) (ds.take n)
 |_,_,0,_=>.nil
 |_,_,_+1,.nil=>.nil
 |_,_,n+1,.cons h r=>.cons h (Rps.take n r)
theorem Rps.drop:∀{xs:List V} {ds:List D} (n:Nat),Rps K A H xs ds->Rps K A H (xs.drop n) (ds.drop n)
 |_,_,0,r=>r
 |_,_,_+1,.nil=>.nil
 |_,_,n+1,.cons _ r=>Rps.drop n r
theorem Rps.reverse:∀{xs:List V} {ds:List D},Rps K A H xs ds->Rps K A H xs.reverse ds.reverse:=by
 intro xs ds h;induction xs generalizing ds with
 |nil=>cases h;exact .nil
 |cons x xs ih=>
  cases h with
  |cons h r=>
   rw[zCf,zCf];exact Rps.append (ih r) (.cons h .nil)
theorem Rps.set(h:Rp K A H x d):∀{xs:List V} {ds:List D} (n:Nat),Rps K A H xs ds->Rps K A H (xs.set n x) (ds.set n d)
 |_,_,_,.nil=>.nil
 |_,_,0,.cons _ r=>.cons h r
 |_,_,n+1,.cons k r=>.cons k (Rps.set h n r)
theorem Rps.ints:∀{ns:List Int},Rps K A H (ns.map V.int) (ns.map D.int)
 |[]=>.nil
 |n::ns=>.cons (.int n) Rps.ints
theorem Rps.ints_of:∀{xs:List V} {ns:List Int},Rps K A H xs (ns.map D.int)->xs=ns.map V.int
 |_,[],.nil=>rfl
 |_,n::ns,.cons h r=>by
  cases h;rw[zAT,Rps.ints_of r]
end
def aO(h:a=b):a=b:=h
inductive Rs(α:Type) where
 |ok (a:α)|ex (c:Str)|st
noncomputable def Rs.bd{α β:Type}:Rs α->(α->Rs β)->Rs β
 | .ok a,f=>f a
 | .ex c,_=>.ex c
 | .st,_=>.st
@[simp] def aK(a:α)(f:α->Rs β):(Rs.ok a).bd f=f a:=aO rfl
def bc{r:Rs α}(h:r.bd f= .ok b):∃a,r= .ok a/\f a= .ok b:=by
 cases r with
 |ok a=>exact⟨a,rfl,h⟩
 |ex c=>cases h
 |st=>cases h
inductive Slot where
 |no|sh (d:D)|nw (d:D)|ow (d:D)|oz (d:D)|o2 (l:List (List D))
abbrev En:=List Slot
abbrev Lab:=Addr->Nat×Nat
abbrev Mode:=Option (List Nat)
def inM(m:Mode)(n:Nat):Prop:=match m with
 |none=>True
 |some L=>n∈L
def jn:Mode->Mode->Mode
 |some a,some b=>some (a++b)
 |_,_=>none
def aK3(h:inM a n):inM (jn a b) n:=by
 cases a with
 |none=>cases b<;>exact trivial
 |some L=>
  cases b with
  |none=>exact trivial
  |some M=>exact zA1 _ h
def aK2(h:inM b n):inM (jn a b) n:=by
 cases a with
 |none=>cases b<;>exact trivial
 |some L=>
  cases b with
  |none=>exact trivial
  |some M=>exact zAZ _ h
def fpM(m:Mode)(lab:Lab)(H:Hp):Addr->Prop:=λ p=>H p=none\/inM m (lab p).1
def aFM(h:fpM a lab H p):fpM (jn a b) lab H p:=h.imp id aK3
def aFL(h:fpM b lab H p):fpM (jn a b) lab H p:=h.imp id aK2
def mY(s:aU H H')(h:fpM m lab H' p):fpM m lab H p:=h.imp (λ z=>s.free z) id
structure Gx where
 H0:Hp
 E:XK
 cl:Str->Addr
def aCx:D->Bool
 | .lst _=>true
 | .dct _ _=>true
 | .set _=>true
 |_=>false
def gD(K:zAA)(H:Hp)(lab:Lab)(i:Nat)(v:V):Slot->Prop
 | .no=>True
 | .sh d=>Rp K (λ p=>(lab p).1<=1) H v d
 | .nw d=>Rp K (λ p=>(lab p).1=1) H v d
 | .ow d=>Rp K (λ p=>(lab p).1=1\/(lab p).1=i+2) H v d/\(aCx d=true->∃a,v= .ref a/\(lab a).1=i+2)
 | .oz d=>∃a xs ds,v= .ref a/\d= .lst ds/\H a=some (.lst xs)/\(lab a).1=i+2/\Rps K (λ p=>(lab p).1<=1) H xs ds
 | .o2 l=>∃a xs,v= .ref a/\H a=some (.lst xs)/\lab a=(i+2,0)/\xs.length=l.length/\∀(j:Nat) x ds,xs[j]? =some x->l[j]? =some ds->Rp K (λ p=>lab p=(i+2,j+1)) H x (.lst ds)
structure RR(K:zAA)(G:Gx)(τ:List (V×D))(Y:En)(Z:L2.St)(H:Hp)(lab:Lab):Prop where
 len:Z.length=Y.length
 sl:∀(i:Nat) (s:Slot),Y[i]? =some s->s= .no\/∃v,Z[i]? =some (some v)/\gD K H lab i v s
 old:aU G.H0 H
 new:∀p,(lab p).1≠0->G.H0 p=none
 tm:∀q∈τ,Rp K (λ p=>(lab p).1<=1) H q.1 q.2
theorem gD.up(s:aU H H')(h:gD K H lab i v x):gD K H' lab i v x:=by
 cases x with
 |no=>exact trivial
 |sh d=>exact Rp.up s h
 |nw d=>exact Rp.up s h
 |ow d=>exact⟨Rp.up s h.1,h.2⟩
 |oz d=>
  obtain⟨a,xs,ds,e1,e2,e3,e4,e5⟩:=h;exact⟨a,xs,ds,e1,e2,s _ _ e3,e4,e5.up s⟩
 |o2 l=>
  obtain⟨a,xs,e1,e2,e3,e4,e5⟩:=h;exact⟨a,xs,e1,s _ _ e2,e3,e4,λ j x ds f1 f2=>(e5 j x ds f1 f2).up s⟩
def aDt(r:Rp K A H (.ref a) d)(hm:aCx d=true):∃o,H a=some o/\iu o=true/\A a:=by
 cases r with
 |lst h m _=>exact⟨_,h,rfl,m⟩
 |dK h m _=>exact⟨_,h,rfl,m⟩
 |dT h m _=>exact⟨_,h.at_,rfl,m⟩
 |set h m _ _=>exact⟨_,h,rfl,m⟩
 |tup _ _=>cases hm
 |scr _=>cases hm
 |fn _=>cases hm
def aIV(r:Rp K A H v d)(hm:aCx d=true):∃a,v= .ref a:=by
 cases r with
 |lst h m _=>exact⟨_,rfl⟩
 |dK h m _=>exact⟨_,rfl⟩
 |dT h m _=>exact⟨_,rfl⟩
 |set h m _ _=>exact⟨_,rfl⟩
 |_=>cases hm
theorem gD.lab{lab lab':Lab}(hl:∀p o,H p=some o->lab' p=lab p)(h:gD K H lab i v x):gD K H lab' i v x:=by
 cases x with
 |no=>exact trivial
 |sh d=>exact Rp.wk (λ p o e q=>(hl p o e).symm▸q) h
 |nw d=>exact Rp.wk (λ p o e q=>(hl p o e).symm▸q) h
 |ow d=>
  obtain⟨h,t⟩:=h;refine⟨Rp.wk (λ p o e q=>(hl p o e).symm▸q) h,λ m=>?_⟩;obtain⟨a,rfl,ea⟩:=t m;obtain⟨o,ho,_⟩:=aDt h m;exact⟨a,rfl,(congrArg (·.1) (hl a o ho)).trans ea⟩
 |oz d=>
  obtain⟨a,xs,ds,e1,e2,e3,e4,e5⟩:=h;exact⟨a,xs,ds,e1,e2,e3,(congrArg (·.1) (hl _ _ e3)).trans e4,Rps.wk (λ p o e q=>(hl p o e).symm▸q) e5⟩
 |o2 l=>
  obtain⟨a,xs,e1,e2,e3,e4,e5⟩:=h;exact⟨a,xs,e1,e2,(hl _ _ e2).trans e3,e4,λ j x ds f1 f2=>Rp.wk (λ p o e q=>(hl p o e).symm▸q) (e5 j x ds f1 f2)⟩
section
variable{G:Gx}{τ:List (V×D)}{Y:En}{Z:L2.St}{H H':Hp}{lab lab':Lab}
theorem RR.up(R:RR K G τ Y Z H lab)(s:aU H H'):RR K G τ Y Z H' lab:=
 ⟨R.len,λ i x e=>(R.sl i x e).imp id λ⟨v,e1,e2⟩=>⟨v,e1,e2.up s⟩,R.old.trans s,R.new,λ q hq=>(R.tm q hq).up s⟩
def RR.relab(R:RR K G τ Y Z H lab)(hl:∀p o,H p=some o->lab' p=lab p)(hn:∀p,(lab' p).1≠0->G.H0 p=none):RR K G τ Y Z H lab':=
 ⟨R.len,λ i x e=>(R.sl i x e).imp id λ⟨v,e1,e2⟩=>⟨v,e1,e2.lab hl⟩,R.old,hn,λ q hq=>Rp.wk (λ p o e z=>by rw[hl p o e];exact z) (R.tm q hq)⟩
def RR.drop(R:RR K G (τ'++τ) Y Z H lab):RR K G τ Y Z H lab:=⟨R.len,R.sl,R.old,R.new,λ z hz=>R.tm z (zAZ _ hz)⟩
def RR.put(R:RR K G τ Y Z H lab)(h:gD K H lab i v s):RR K G τ (Y.set i s) (Z.set i (some v)) H lab:=by
 refine⟨by rw[zAw,zAw,R.len],λ j x e=>?_,R.old,R.new,R.tm⟩;by_cases hj:i=j
 .subst hj
  have hi:i<Y.length:=by
   have:=(zAL.mp e).1
   rwa [zAw]at this
  rw[zBD hi]at e;cases e;exact .inr ⟨v,by rw[zBD (by rw[R.len];exact hi)],h⟩
 .rw[zBC hj]at e
  rcases R.sl j x e with z|⟨u,e1,e2⟩
  .exact .inl z
  .exact .inr ⟨u,by rw[zBC hj];exact e1,e2⟩
def bT(H:Hp)(n:Nat)(lab:Lab):Lab:=λ p=>match H p with
 |none=>(n,0)
 |some _=>lab p
def bA(h:H p=some o):bT H n lab p=lab p:=by unfold bT;rw[h]
def uw(h:H p=none):bT H n lab p=(n,0):=by unfold bT;rw[h]
def RR.fresh{P:Nat->Prop}(h1:P 1)(hm:∀k,inM m k->P k)(R:RR K G τ Y Z H lab)(s:aU H H')(r:Rp K (fpM m lab H) H' v d):
  RR K G τ Y Z H' (bT H 1 lab)/\Rp K (λ p=>P (bT H 1 lab p).1) H' v d:=by
 refine⟨(R.relab (λ p o e=>bA e) λ p hp=>?_).up s,Rp.wk (λ p o e z=>?_) r⟩
 .cases e:H p with
  |none=>exact R.old.free e
  |some o=>rw[bA e]at hp;exact R.new p hp
 .rcases z with z|z
  .rw[uw z];exact h1
  .cases e:H p with
   |none=>rw[uw e];exact h1
   |some o=>rw[bA e];exact hm _ z
def RR.freshO(i:Nat)(hm:∀k,inM m k->k=1\/k=i+2)(R:RR K G τ Y Z H lab)(s:aU H H')(r:Rp K (fpM m lab H) H' v d)(ht:aCx d=true->∃a,v= .ref a/\H a=none):
  ∃lab',RR K G τ Y Z H' lab'/\gD K H' lab' i v (.ow d):=by
 obtain⟨R',r'⟩:=R.fresh (P:=λ k=>k=1\/k=i+2) (.inl rfl) hm s r;cases hd:aCx d with
 |false=>exact⟨_,R',r',λ z=>absurd z (by simp[hd])⟩
 |true=>
  obtain⟨a,rfl,ha⟩:=ht hd;refine⟨λ p=>if p=a then(i+2,0)else bT H 1 lab p,?_,Rp.wk (λ p o e z=>?_) r',λ _=>⟨a,rfl,by show(if a=a then((i+2,0):Nat×Nat)else bT H 1 lab a).1=i+2;rw[if_pos rfl]⟩⟩
  .refine(R.relab (lab':=λ p=>if p=a then(i+2,0)else bT H 1 lab p) (λ p o e=>?_) λ p hp=>?_).up s
   .rw[if_neg (λ z=>by subst z;rw[ha]at e;cases e),bA e]
   .by_cases z:p=a
    .subst z;exact R.old.free ha
    .rw[if_neg z]at hp;exact R'.new p hp
  .dsimp only
   by_cases q:p=a
   .rw[if_pos q];exact .inr rfl
   .rw[if_neg q];exact z
def aHp(h:gD K H lab i v (.oz d)):Rp K (λ p=>(lab p).1<=1\/(lab p).1=i+2) H v d:=by
 obtain⟨a,xs,ds,rfl,rfl,h1,h2,h3⟩:=h;exact .lst h1 (.inr h2) (h3.wk λ p o e z=>⟨.inl z,λ q=>by subst q;lia⟩)
end
structure Ct where
 ι:Type
 X:ι->Cx
 prog:zA2
 w:World
 K:zAA
 mg:Str->Option Value
 base:Heap
 k:Nat
 G:Gx
 cx:∀i,(X i).prog=prog/\(X i).w=w/\(X i).K=K/\(X i).mg=mg/\(X i).base=base
 calm:∀i,(X i).calm=true
 room:∀i,jG k (X i).A
 own:∀i,zGm (model (X i).prog (X i).w) (X i).A (X i).env (X i).xe
 pass:∀i,z6 (CX1 (X i).prog (X i).w) (X i) G.E
 dOk:Bool
 dcx:dOk=true->∀i,jF (X i) G.E
def Ct.hK(C:Ct)(i:C.ι):(C.X i).K=C.K:=(C.cx i).2.2.1
def WR{α:Type}(G:Gx)(r:Rs α)(P:α->Prop):Prop:=match r with
 | .ok a=>P a
 | .ex c=>∀H',aU G.H0 H'->G.E (.ref (G.cl c)) none H'
 | .st=>False
theorem WR.bd(h:WR G (r.bd k) P):WR G r (λ a=>WR G (k a) P):=by
 cases r with
 |ok a=>exact h
 |ex c=>exact h
 |st=>exact h
def WR.imp(h:WR G r P)(f:∀a,r= .ok a->P a->P' a):WR G r P':=by
 cases r with
 |ok a=>exact f a rfl h
 |ex c=>exact h
 |st=>exact h
abbrev QE(K:zAA)(m:Mode)(lab:Lab)(H:Hp)(Q:VK):D->Prop:=λ d=>∀v H',aU H H'->Rp K (fpM m lab H) H' v d->Q v H'
abbrev QA(K:zAA)(m:Mode)(lab:Lab)(H:Hp)(Q:List V->Hp->Prop):List D->Prop:=λ ds=>∀vs H',aU H H'->Rps K (fpM m lab H) H' vs ds->Q vs H'
abbrev QT(H:Hp)(Q:Bool->Hp->Prop):Bool->Prop:=λ b=>∀H',aU H H'->Q b H'
def gY(K:zAA)(G:Gx)(m:Mode)(t:TE)(f:En->Rs D):Prop:=∀τ Z H Y lab (Q:VK),RR K G τ Y Z H lab->WR G (f Y) (QE K m lab H Q)->t Z H Q
def aHX(K:zAA)(G:Gx)(m:Mode)(t:TA)(f:En->Rs (List D)):Prop:=∀τ Z H Y lab (Q:List V->Hp->Prop),RR K G τ Y Z H lab->WR G (f Y) (QA K m lab H Q)->t Z H Q
def w5(K:zAA)(G:Gx)(t:TT)(f:En->Rs Bool):Prop:=∀τ Z H Y lab (Q:Bool->Hp->Prop),RR K G τ Y Z H lab->WR G (f Y) (QT H Q)->t Z H Q
def SE(C:Ct)(m:Mode)(e:Expr)(f:En->Rs D):Prop:=∃t,(∀i,PE (C.X i) e t)/\gY C.K C.G m t f
def SA(C:Ct)(m:Mode)(es:List Expr)(f:En->Rs (List D)):Prop:=∃t,(∀i,PA (C.X i) es t)/\aHX C.K C.G m t f
def ST(C:Ct)(e:Expr)(f:En->Rs Bool):Prop:=∃t,(∀i,PT (C.X i) e t)/\w5 C.K C.G t f
def SW(C:Ct)(e:Expr)(f:En->Rs Bool):Prop:=∃t,(∀i,PW (C.X i) e t)/\w5 C.K C.G t f
def SW.st(h:SW C e f):ST C e f:=let⟨t,h1,h2⟩:=h;⟨t,λ i=>(h1 i).pt,h2⟩
def fB(i:Nat):En->Rs D:=λ Y=>match Y[i]? with
 |some (.sh d)=>.ok d
 |some (.nw d)=>.ok d
 |some (.ow d)=>.ok d
 |some (.oz d)=>.ok d
 |some (.o2 l)=>.ok (.lst (l.map .lst))
 |_=>.st
def aD(i:Nat):En->Rs D:=λ Y=>match Y[i]? with
 |some (.sh d)=>.ok d
 |some (.nw d)=>.ok d
 |_=>.st
def jg(i:Nat):En->Rs D:=λ Y=>match Y[i]? with
 |some (.nw d)=>.ok d
 |_=>.st
def qe(i:Nat):En->Rs D:=λ Y=>match Y[i]? with
 |some (.ow d)=>.ok d
 |some (.o2 l)=>.ok (.lst (l.map .lst))
 |_=>.st
def cD(d:D):En->Rs D:=λ _=>.ok d
def aE8{K:zAA}{H:Hp}{lab:Lab}{i:Nat}{v:V}{l:List (List D)}(h:gD K H lab i v (.o2 l)):Rp K (λ p=>(lab p).1=i+2) H v (.lst (l.map .lst)):=by
 obtain⟨a,xs,rfl,ha,hla,hlen,hin⟩:=h;refine .lst ha (by rw[hla]) ?_;have go:∀(xs:List V) (l:List (List D)) (n:Nat),xs.length=l.length->0<n->(∀(j:Nat) x ds,xs[j]? =some x->l[j]? =some ds->Rp K (λ p=>lab p=(i+2,n+j)) H x (.lst ds))->Rps K (λ p=>(lab p).1=i+2/\p≠a) H xs (l.map .lst):=by
  intro xs;induction xs with
  |nil=>intro l n hl _ _;cases l with|nil=>exact .nil|cons _ _=>simp at hl
  |cons x xs ih=>
   intro l n hl hn h;cases l with
   |nil=>simp at hl
   |cons ds l=>
    refine .cons (Rp.wk (λ p o e z=>⟨by rw[z],λ e=>by rw[e,hla]at z;have z2:(0:Nat)=n+0:=congrArg zFW z;lia⟩) (h 0 x ds rfl rfl)) (ih l (n+1) (by simpa using hl) (by lia) λ j y es e1 e2=>?_);have z:=h (j+1) y es (by simpa using e1) (by simpa using e2);rw[show n+1+j=n+(j+1)by lia];exact z
 exact go xs l 1 hlen (by lia) λ j x ds e1 e2=>by have z:=hin j x ds e1 e2;rw[show 1+j=j+1 by lia];exact z
section
variable{C:Ct}{pos:Pos}
def aFv(K:zAA)(G:Gx)(i:Nat):gY K G (some [0,1,i+2]) (qg i) (fB i):=by
 intro τ Z H Y lab Q R W;unfold fB at W;cases e:Y[i]? with
 |none=>rw[e]at W;exact W.elim
 |some s=>
  rw[e]at W;rcases R.sl i s e with rfl|⟨v,ev,hv⟩
  .exact zAJ W
  .cases s with
   |no=>exact zAJ W
   |sh d=>exact⟨v,ev,W v H (aU.refl H) (Rp.wk (λ p o e z=>.inr (by show(lab p).1∈[0,1,i+2];rcases(show(lab p).1=0\/(lab p).1=1 by lia)with q|q<;>rw[q]<;>simp)) hv)⟩
   |nw d=>exact⟨v,ev,W v H (aU.refl H) (Rp.wk (λ p o e z=>.inr (by show(lab p).1∈[0,1,i+2];rw[z];simp)) hv)⟩
   |ow d=>exact⟨v,ev,W v H (aU.refl H) (Rp.wk (λ p o e z=>.inr (by show(lab p).1∈[0,1,i+2];rcases z with q|q<;>rw[q]<;>simp)) hv.1)⟩
   |oz d=>exact⟨v,ev,W v H (aU.refl H) (Rp.wk (λ p o e z=>.inr (by show(lab p).1∈[0,1,i+2];rcases(show(lab p).1=0\/(lab p).1=1\/(lab p).1=i+2 by lia)with q|q|q<;>rw[q]<;>simp)) (aHp hv))⟩
   |o2 l=>exact⟨v,ev,W v H (aU.refl H) (Rp.wk (λ p o e z=>.inr (by show(lab p).1∈[0,1,i+2];rw[z];simp)) (aE8 hv))⟩
def aDg(K:zAA)(G:Gx)(i:Nat):gY K G (some [0,1]) (qg i) (aD i):=by
 intro τ Z H Y lab Q R W;unfold aD at W;cases e:Y[i]? with
 |none=>rw[e]at W;exact W.elim
 |some s=>
  rw[e]at W;rcases R.sl i s e with rfl|⟨v,ev,hv⟩
  .exact zAJ W
  .cases s with
   |sh d=>exact⟨v,ev,W v H (aU.refl H) (Rp.wk (λ p o e z=>.inr (by show(lab p).1∈[0,1];rcases(show(lab p).1=0\/(lab p).1=1 by lia)with q|q<;>rw[q]<;>simp)) hv)⟩
   |nw d=>exact⟨v,ev,W v H (aU.refl H) (Rp.wk (λ p o e z=>.inr (by show(lab p).1∈[0,1];rw[z];simp)) hv)⟩
   |_=>exact zAJ W
def aDi(K:zAA)(G:Gx)(i:Nat):gY K G (some [1]) (qg i) (jg i):=by
 intro τ Z H Y lab Q R W;unfold jg at W;cases e:Y[i]? with
 |none=>rw[e]at W;exact W.elim
 |some s=>
  rw[e]at W;rcases R.sl i s e with rfl|⟨v,ev,hv⟩
  .exact zAJ W
  .cases s with
   |nw d=>exact⟨v,ev,W v H (aU.refl H) (Rp.wk (λ p o e z=>.inr (by show(lab p).1∈[1];rw[z];simp)) hv)⟩
   |_=>exact zAJ W
def aDh(K:zAA)(G:Gx)(i:Nat):gY K G (some [1,i+2]) (qg i) (qe i):=by
 intro τ Z H Y lab Q R W;unfold qe at W;cases e:Y[i]? with
 |none=>rw[e]at W;exact W.elim
 |some s=>
  rw[e]at W;rcases R.sl i s e with rfl|⟨v,ev,hv⟩
  .exact zAJ W
  .cases s with
   |ow d=>exact⟨v,ev,W v H (aU.refl H) (Rp.wk (λ p o e z=>.inr (by show(lab p).1∈[1,i+2];rcases z with q|q<;>rw[q]<;>simp)) hv.1)⟩
   |o2 l=>exact⟨v,ev,W v H (aU.refl H) (Rp.wk (λ p o e z=>.inr (by show(lab p).1∈[1,i+2];rw[z];simp)) (aE8 hv))⟩
   |_=>exact zAJ W
def oU(i:Nat)(hN:∀j,(C.X j).N[i]? =some x:=by intro _;rfl)(hv:∀j,Vis (C.X j).env.scope x:=by intro _;first|exact zBu rfl|exact zB2 (zBu rfl)|exact zB2 (zB2 rfl))(hd:Nd x:=by decide)
  (hcd:(x==("__classdict__":Str))=false:=by decide):SE C (some [0,1,i+2]) (.Name x pos) (fB i):=⟨_,λ j=>gj (hN j) (hv j) hd hcd,aFv _ _ i⟩
def aC(i:Nat)(hN:∀j,(C.X j).N[i]? =some x:=by intro _;rfl)(hv:∀j,Vis (C.X j).env.scope x:=by intro _;first|exact zBu rfl|exact zB2 (zBu rfl)|exact zB2 (zB2 rfl))(hd:Nd x:=by decide)
  (hcd:(x==("__classdict__":Str))=false:=by decide):SE C (some [0,1]) (.Name x pos) (aD i):=⟨_,λ j=>gj (hN j) (hv j) hd hcd,aDg _ _ i⟩
def fH(i:Nat)(hN:∀j,(C.X j).N[i]? =some x:=by intro _;rfl)(hv:∀j,Vis (C.X j).env.scope x:=by intro _;first|exact zBu rfl|exact zB2 (zBu rfl)|exact zB2 (zB2 rfl))(hd:Nd x:=by decide)
  (hcd:(x==("__classdict__":Str))=false:=by decide):SE C (some [1]) (.Name x pos) (jg i):=⟨_,λ j=>gj (hN j) (hv j) hd hcd,aDi _ _ i⟩
def mz(i:Nat)(hN:∀j,(C.X j).N[i]? =some x:=by intro _;rfl)(hv:∀j,Vis (C.X j).env.scope x:=by intro _;first|exact zBu rfl|exact zB2 (zBu rfl)|exact zB2 (zB2 rfl))(hd:Nd x:=by decide)
  (hcd:(x==("__classdict__":Str))=false:=by decide):SE C (some [1,i+2]) (.Name x pos) (qe i):=⟨_,λ j=>gj (hN j) (hv j) hd hcd,aDh _ _ i⟩
def aH:SE C (some []) (.Constant (.int i) j pos) (cD (.int i)):=⟨_,λ _=>aBZ,λ τ Z H Y lab Q R W=>W _ H (aU.refl H) (.int i)⟩
def iZ:SE C (some []) (.Constant (.bool b) j pos) (cD (.bl b)):=⟨_,λ _=>aKQ,λ τ Z H Y lab Q R W=>W _ H (aU.refl H) (.bl b)⟩
def qp:SE C (some []) (.Constant .none j pos) (cD .non):=⟨_,λ _=>aIh,λ τ Z H Y lab Q R W=>W _ H (aU.refl H) .non⟩
def oV:SE C (some []) (.Constant (.str x) j pos) (cD (.str x)):=⟨_,λ _=>aIe,λ τ Z H Y lab Q R W=>W _ H (aU.refl H) (.str x)⟩
def aGF(hm:C.mg x=some u)(r:RelV v u)(hd:∀A H,Rp C.K A H v d)(hdb:Nd x:=by decide)(hg:∀i,Gl (C.X i) x:=by intro _;rfl):SE C (some []) (.Name x pos) (cD d):=
 ⟨_,λ i=>aG3 (hg i) (by rw[(C.cx i).2.2.2.1];exact hm) r hdb,λ τ Z H Y lab Q R W=>W _ H (aU.refl H) (hd _ _)⟩
def qH(d:D):Rs D:=if imm d=true then .ok d else .st
def aa(f:En->Rs D):En->Rs D:=λ Y=>(f Y).bd qH
def aZ(h:SE C m e f):SE C (some []) e (aa f):=by
 obtain⟨t,h1,h2⟩:=h;refine⟨t,h1,λ τ Z H Y lab Q R W=>h2 τ Z H Y lab Q R (W.bd.imp λ d _ w v H' s r=>?_)⟩;unfold qH at w;by_cases hd:imm d=true
 .rw[if_pos hd]at w
  exact w v H' s (r.imm hd)
 .rw[if_neg hd]at w
  exact zAJ w
def aG:En->Rs (List D):=λ _=>.ok []
def aA(f:En->Rs D)(g:En->Rs (List D)):En->Rs (List D):=λ Y=>(f Y).bd λ d=>(g Y).bd λ ds=>.ok (d::ds)
variable{m m1 m2:Mode}{e a b:Expr}{es:List Expr}{f fa fb:En->Rs D}{g:En->Rs (List D)}
def aF:SA C (some []) [] aG:=⟨_,λ _=>jc,λ τ Z H Y lab Q R W=>W _ H (aU.refl H) .nil⟩
def aB(h:SE C m1 e f)(hr:SA C m2 es g)(hs:∀i,zAU (e::es) (C.X i).env=(false,eval e (C.X i).env)::zAU es (C.X i).env:=by intro _;rfl):SA C (jn m1 m2) (e::es) (aA f g):=by
 obtain⟨t,h1,h2⟩:=h;obtain⟨u,k1,k2⟩:=hr;refine⟨_,λ i=>eE (h1 i) (k1 i) (hs i),λ τ Z H Y lab Q R W=>?_⟩;refine h2 τ Z H Y lab _ R (W.bd.imp λ d _ w x H1 s1 r1=>?_);refine k2 τ Z H1 Y lab _ (R.up s1) (w.bd.imp λ ds _ w xs H2 s2 r2=>?_);exact w (x::xs) H2 (s1.trans s2) (.cons (r1.mono s2 λ p o _ z=>aFM z) (r2.wk λ p o _ z=>aFL (mY s1 z)))
def bY(g:En->Rs (List D)):En->Rs D:=λ Y=>(g Y).bd λ ds=>if ds.length<=zAP then .ok (.tup ds)else .st
def dR(g:En->Rs (List D)):En->Rs D:=λ Y=>(g Y).bd λ ds=>if ds.length<=zAP then .ok (.lst ds)else .st
def bD{x1}(h:SA C m es g):SE C m (.Tuple es x1 pos) (bY g):=by
 obtain⟨t,h1,h2⟩:=h;refine⟨_,λ i=>aG0 (h1 i),λ τ Z H Y lab Q R W=>h2 τ Z H Y lab _ R (W.bd.imp λ ds _ w xs H1 s1 r1=>?_)⟩;by_cases hz:ds.length<=zAP
 .rw[if_pos hz]at w
  exact⟨by rw[r1.length];exact hz,λ p H' s hp _=>w _ H' (s1.trans s) (.tup (SqT.of hp) (r1.up s))⟩
 .rw[if_neg hz]at w
  exact zAJ w
def fJ(h:SA C m es g):SE C m (.List es pos) (dR g):=by
 obtain⟨t,h1,h2⟩:=h;refine⟨_,λ i=>yf (h1 i),λ τ Z H Y lab Q R W=>h2 τ Z H Y lab _ R (W.bd.imp λ ds _ w xs H1 s1 r1=>?_)⟩;by_cases hz:ds.length<=zAP
 .rw[if_pos hz]at w
  exact⟨by rw[r1.length];exact hz,λ p H' s hp hn=>w _ H' (s1.trans s) (.lst hp (.inl (s1.free hn)) ((r1.wk λ q o e z=>⟨z,λ e'=>by subst e';rw[hn]at e;cases e⟩).up s))⟩
 .rw[if_neg hz]at w
  exact zAJ w
def aGG:SE C (some []) (.Dict [] [] pos) (cD (.dct [] [])):=
 ⟨_,λ _=>aEU,λ τ Z H Y lab Q R W p H' s hp hn=>W _ H' s (.dK (kvs:=[]) hp (.inl hn) .nil)⟩
def aKn(H:Hp)(v:V)(d:D):Prop:=aCx d=true->∃a,v= .ref a/\H a=none
def aJm(K:zAA)(G:Gx)(m:Mode)(t:TE)(f:En->Rs D):Prop:=∀τ Z H Y lab (Q:VK),RR K G τ Y Z H lab->WR G (f Y) (λ d=>∀v H',aU H H'->Rp K (fpM m lab H) H' v d->aKn H v d->Q v H')->t Z H Q
def SF(C:Ct)(m:Mode)(e:Expr)(f:En->Rs D):Prop:=∃t,(∀i,PE (C.X i) e t)/\aJm C.K C.G m t f
def gY.toF{K:zAA}{G:Gx}{t:TE}{f:En->Rs D}(h:gY K G (some []) t f):aJm K G (some []) t f:=λ τ Z H Y lab Q R W=>
 h τ Z H Y lab Q R (W.imp λ d _ w v H' s r=>w v H' s r λ hm=>by
  obtain⟨a,rfl⟩:=aIV r hm;obtain⟨o,_,_,z⟩:=aDt r hm;rcases z with z|z
  .exact⟨a,rfl,z⟩
  .cases z)
def aIP(h:SE C (some []) e f):SF C (some []) e f:=let⟨t,h1,h2⟩:=h;⟨t,h1,h2.toF⟩
def yN(h:SA C m es g):SF C m (.List es pos) (dR g):=by
 obtain⟨t,h1,h2⟩:=h;refine⟨_,λ i=>yf (h1 i),λ τ Z H Y lab Q R W=>h2 τ Z H Y lab _ R (W.bd.imp λ ds _ w xs H1 s1 r1=>?_)⟩;by_cases hz:ds.length<=zAP
 .rw[if_pos hz]at w
  exact⟨by rw[r1.length];exact hz,λ p H' s hp hn=>w _ H' (s1.trans s) (.lst hp (.inl (s1.free hn)) ((r1.wk λ q o e z=>⟨z,λ e'=>by subst e';rw[hn]at e;cases e⟩).up s)) λ _=>⟨p,rfl,s1.free hn⟩⟩
 .rw[if_neg hz]at w
  exact zAJ w
def OpS(K:zAA)(r:R2)(fd:D->D->Rs D):Prop:=∀(A:Addr->Prop) x y d e H (Q:VK) z,Rp K A H x d->Rp K A H y e->fd d e= .ok z->(∀v H',aU H H'->Rp K (λ p=>H p=none\/A p) H' v z->Q v H')->r x y H Q
def UnS(K:zAA)(r:V->Hp->VK->Prop)(fd:D->Rs D):Prop:=∀(A:Addr->Prop) x d H (Q:VK) z,Rp K A H x d->fd d= .ok z->(∀v H',aU H H'->Rp K (λ p=>H p=none\/A p) H' v z->Q v H')->r x H Q
def qd(K:zAA)(r:List V->Hp->VK->Prop)(fd:List D->Rs D):Prop:=∀(A:Addr->Prop) xs ds H (Q:VK) z,Rps K A H xs ds->fd ds= .ok z->(∀v H',aU H H'->Rp K (λ p=>H p=none\/A p) H' v z->Q v H')->r xs H Q
def okD(r:Rs D):Rs D:=match r with
 | .ok d=>.ok d
 |_=>.st
def op2(fd:D->D->Rs D)(fa fb:En->Rs D):En->Rs D:=λ Y=>(fa Y).bd λ x=>(fb Y).bd λ y=>okD (fd x y)
def op1(fd:D->Rs D)(fa:En->Rs D):En->Rs D:=λ Y=>(fa Y).bd λ x=>okD (fd x)
def opA(fd:List D->Rs D)(fa:En->Rs (List D)):En->Rs D:=λ Y=>(fa Y).bd λ x=>okD (fd x)
theorem WR.okD(h:WR G (okD r) P):∃z,r= .ok z/\P z:=by
 cases r with
 |ok z=>exact⟨z,rfl,h⟩
 |ex c=>exact zAJ h
 |st=>exact zAJ h
def yM{K:zAA}{G:Gx}{r:R2}{ta tb:TE}{fd:D->D->Rs D}(hs:OpS K r fd)(h1:gY K G m1 ta fa)(h2:gY K G m2 tb fb):gY K G (jn m1 m2) (tOp r ta tb) (op2 fd fa fb):=by
 intro τ Z H Y lab Q R W;refine h1 τ Z H Y lab _ R (W.bd.imp λ d _ w x H1 s1 r1=>?_);refine h2 τ Z H1 Y lab _ (R.up s1) (w.bd.imp λ e _ w y H2 s2 r2=>?_);obtain⟨z,ez,w⟩:=w.okD;refine hs (fpM (jn m1 m2) lab H) x y d e H2 Q z (r1.mono s2 λ p o _ q=>aFM q) (r2.wk λ p o _ q=>aFL (mY s1 q)) ez λ v H' s r=>w v H' ((s1.trans s2).trans s) (r.wk λ p o _ q=>?_)
 rcases q with q|q
 .exact .inl ((s1.trans s2).free q)
 .exact q
def aFx{K:zAA}{G:Gx}{r:V->Hp->VK->Prop}{ta:TE}{fd:D->Rs D}(hs:UnS K r fd)(h1:gY K G m ta fa):gY K G m (tUn r ta) (op1 fd fa):=by
 intro τ Z H Y lab Q R W;refine h1 τ Z H Y lab _ R (W.bd.imp λ d _ w x H1 s1 r1=>?_);obtain⟨z,ez,w⟩:=w.okD;refine hs (fpM m lab H) x d H1 Q z r1 ez λ v H' s r=>w v H' (s1.trans s) (r.wk λ p o _ q=>?_)
 rcases q with q|q
 .exact .inl (s1.free q)
 .exact q
def aCB{K:zAA}{G:Gx}{r:List V->Hp->VK->Prop}{ta:TA}{fd:List D->Rs D}(hs:qd K r fd)(h1:aHX K G m ta g):gY K G m (tCB r ta) (opA fd g):=by
 intro τ Z H Y lab Q R W;refine h1 τ Z H Y lab _ R (W.bd.imp λ d _ w x H1 s1 r1=>?_);obtain⟨z,ez,w⟩:=w.okD;refine hs (fpM m lab H) x d H1 Q z r1 ez λ v H' s r=>w v H' (s1.trans s) (r.wk λ p o _ q=>?_)
 rcases q with q|q
 .exact .inl (s1.free q)
 .exact q
def eG(h:SE C m e f)(hi:∀Y d,f Y= .ok d->imm d=true):SE C (some []) e f:=by
 obtain⟨t,h1,h2⟩:=h;exact⟨t,h1,λ τ Z H Y lab Q R W=>h2 τ Z H Y lab Q R (W.imp λ d ed w v H' s r=>w v H' s (r.imm (hi Y d ed)))⟩
def jU(h:∀x y z,fd x y= .ok z->imm z=true)(e:op2 fd fa fb Y= .ok d):imm d=true:=by
 obtain⟨x,_,e⟩:=bc e;obtain⟨y,_,e⟩:=bc e;unfold okD at e;split at e
 .rename_i z hz
  cases e;exact h x y _ hz
 .cases e
def aHB(h:∀x z,fd x= .ok z->imm z=true)(e:op1 fd fa Y= .ok d):imm d=true:=by
 obtain⟨x,_,e⟩:=bc e;unfold okD at e;split at e
 .rename_i z hz
  cases e;exact h x _ hz
 .cases e
def nG(h:∀x z,fd x= .ok z->imm z=true)(e:opA fd g Y= .ok d):imm d=true:=by
 obtain⟨x,_,e⟩:=bc e;unfold okD at e;split at e
 .rename_i z hz
  cases e;exact h x _ hz
 .cases e
def xF(ro:∀i,OpR (C.X i) (zBs op) r)(hs:OpS C.K r fd)(ha:SE C m1 a fa)(hb:SE C m2 b fb):SE C (jn m1 m2) (.BinOp a op b pos) (op2 fd fa fb):=by
 obtain⟨t,h1,h2⟩:=ha;obtain⟨u,k1,k2⟩:=hb;exact⟨_,λ i=>aKO (ro i) (h1 i) (k1 i),yM hs h2 k2⟩
def aKA(ro:∀i,UnR (C.X i) (unaryOp op) r)(hs:UnS C.K r fd)(ha:SE C m a fa):SE C m (.UnaryOp op a pos) (op1 fd fa):=by
 obtain⟨t,h1,h2⟩:=ha;exact⟨_,λ i=>aER (ro i) (h1 i),aFx hs h2⟩
def yP(ro:∀i,OpR (C.X i) (zAr op) r)(hs:OpS C.K r fd)(ha:SE C m1 a fa)(hb:SE C m2 b fb)(hm:zCB op b=false:=by first|exact aE9 _|(with_unfolding_all rfl)):
  SE C (jn m1 m2) (.Compare a [op] [b] pos) (op2 fd fa fb):=by
 obtain⟨t,h1,h2⟩:=ha;obtain⟨u,k1,k2⟩:=hb;exact⟨_,λ i=>aG5 (ro i) (h1 i) (k1 i) hm,yM hs h2 k2⟩
variable{p:Pos}{x:Str}{id T:String}
def ji(ro:∀i,dI (C.X i) (.builtin id) r)(hs:qd C.K r fd)(hg:∀i,Gl (C.X i) x)(hm:C.mg x=none)(hv:zAo x=some (.builtin id))(ha:SA C m (e::es) g)
  (hn:x≠"__name__":=by decide)(hdb:Nd x:=by decide)(he:∀i,zAU (e::es) (C.X i).env=(false,eval e (C.X i).env)::zAU es (C.X i).env:=by intro _;rfl)
  (hpl:∀i,(zCF pos (zAU es (C.X i).env)).any (·.1)=false:=by intro _;rfl):SE C m (.Call (.Name x p) (e::es) [] pos) (opA fd g):=by
 obtain⟨t,h1,h2⟩:=ha;exact⟨_,λ i=>jo (ro i) (hg i) (by rw[(C.cx i).2.2.2.1];exact hm) hv (h1 i) hn hdb (he i) (hpl i),aCB hs h2⟩
def zr(ro:∀i,dI (C.X i) (.type T) r)(hs:qd C.K r fd)(hg:∀i,Gl (C.X i) x)(hm:C.mg x=none)(hv:zAo x=some (.type T))(ha:SA C m (e::es) g)
  (hn:x≠"__name__":=by decide)(hdb:Nd x:=by decide)(he:∀i,zAU (e::es) (C.X i).env=(false,eval e (C.X i).env)::zAU es (C.X i).env:=by intro _;rfl)
  (hpl:∀i,(zCF pos (zAU es (C.X i).env)).any (·.1)=false:=by intro _;rfl):SE C m (.Call (.Name x p) (e::es) [] pos) (opA fd g):=by
 obtain⟨t,h1,h2⟩:=ha;exact⟨_,λ i=>aCs (ro i) (hg i) (by rw[(C.cx i).2.2.2.1];exact hm) hv (h1 i) hn hdb (he i) (hpl i),aCB hs h2⟩
def tV(f g:En->Rs D):En->Rs D:=λ Y=>(f Y).bd λ d=>match d with
 | .bl true=>g Y
 | .bl false=>.ok (.bl false)
 |_=>.st
def aCw:D->Rs D
 | .bl b=>.ok (.bl (!b))
 |_=>.st
variable{rest:List Expr}
def km{op}(h:SE C m a fa):SE C m (.BoolOp op [a] pos) fa:=by
 obtain⟨t,h1,h2⟩:=h;exact⟨_,λ i=>aIf (h1 i),h2⟩
def j6(ha:SE C m1 a fa)(hb:SE C m2 (.BoolOp .And (b::rest) pos) fb):SE C m2 (.BoolOp .And (a::b::rest) pos) (tV fa fb):=by
 obtain⟨t,h1,h2⟩:=ha;obtain⟨u,k1,k2⟩:=hb;refine⟨_,λ i=>aIj (h1 i) (k1 i),λ τ Z H Y lab Q R W=>h2 τ Z H Y lab _ R (W.bd.imp λ d _ w x H1 s1 r1=>?_)⟩;cases r1 with
 |bl c=>
  refine⟨c,rfl,?_⟩;cases c with
  |true=>
   rw[if_pos rfl];exact k2 τ Z H1 Y lab Q (R.up s1) (w.imp λ z _ w v H' s r=>w v H' (s1.trans s) (r.wk λ p o _ q=>mY s1 q))
  |false=>
   rw[if_neg zAY];exact w _ H1 s1 (.bl false)
 |_=>exact zAJ w
def aBG(ha:SE C m a fa):SE C (some []) (.UnaryOp .Not a pos) (op1 aCw fa):=by
 obtain⟨t,h1,h2⟩:=ha;refine⟨_,λ i=>aIg (h1 i),λ τ Z H Y lab Q R W=>h2 τ Z H Y lab _ R (W.bd.imp λ d _ w x H1 s1 r1=>?_)⟩;obtain⟨z,ez,w⟩:=w.okD;cases r1 with
 |bl c=>cases ez;exact⟨c,rfl,w _ H1 s1 (.bl _)⟩
 |_=>cases ez
def ifD(c:En->Rs Bool)(f g:En->Rs D):En->Rs D:=λ Y=>(c Y).bd λ k=>if k=true then f Y else g Y
def aKE(hc:ST C c fc)(ha:SE C m1 a fa)(hb:SE C m2 b fb):SE C (jn m1 m2) (.IfExp c a b pos) (ifD fc fa fb):=by
 obtain⟨tc,c1,c2⟩:=hc;obtain⟨t,h1,h2⟩:=ha;obtain⟨u,k1,k2⟩:=hb;refine⟨_,λ i=>aET (c1 i) (h1 i) (k1 i),λ τ Z H Y lab Q R W=>c2 τ Z H Y lab _ R (W.bd.imp λ k _ w H1 s1=>?_)⟩;cases k with
 |true=>
  rw[if_pos rfl]at w ⊢;exact h2 τ Z H1 Y lab Q (R.up s1) (w.imp λ z _ w v H' s r=>w v H' (s1.trans s) (r.wk λ p o _ q=>aFM (mY s1 q)))
 |false=>
  rw[if_neg zAY]at w ⊢;exact k2 τ Z H1 Y lab Q (R.up s1) (w.imp λ z _ w v H' s r=>w v H' (s1.trans s) (r.wk λ p o _ q=>aFL (mY s1 q)))
def chD(fd fd':D->D->Rs D)(fa fb fc:En->Rs D):En->Rs D:=λ Y=>(fa Y).bd λ x=>(fb Y).bd λ y=>(okD (fd x y)).bd λ z=>match z with
 | .bl true=>(fc Y).bd λ w=>okD (fd' y w)
 | .bl false=>.ok (.bl false)
 |_=>.st
def aCj{K:zAA}{G:Gx}{r r':R2}{ta tb tc:TE}{fd fd':D->D->Rs D}{fc:En->Rs D}{m3:Mode}(hs:OpS K r fd)(hs':OpS K r' fd')(hi:∀x y z,fd' x y= .ok z->imm z=true)(h1:gY K G m1 ta fa)(h2:gY K G m2 tb fb)(h3:gY K G m3 tc fc):
  gY K G (some []) (aD8 r r' ta tb tc) (chD fd fd' fa fb fc):=by
 intro τ Z H Y lab Q R W;refine h1 τ Z H Y lab _ R (W.bd.imp λ d _ w x H1 s1 r1=>?_);refine h2 τ Z H1 Y lab _ (R.up s1) (w.bd.imp λ e _ w y H2 s2 r2=>?_);obtain⟨z,ez,w⟩:=w.bd.okD;refine hs (λ _=>True) x y d e H2 _ z (r1.mono s2 λ p o _ q=>trivial) (r2.wk λ p o _ q=>trivial) ez λ v H3 s3 r3=>?_
 cases r3 with
 |bl c=>
  refine⟨c,rfl,?_⟩;cases c with
  |false=>
   rw[if_neg zAY];exact w _ H3 ((s1.trans s2).trans s3) (.bl false)
  |true=>
   rw[if_pos rfl];refine h3 τ Z H3 Y lab _ ((R.up s1).up (s2.trans s3)) (w.bd.imp λ e' _ w y' H4 s4 r4=>?_);obtain⟨z',ez',w⟩:=w.okD;exact hs' (λ _=>True) y y' e e' H4 Q z' (r2.mono (s3.trans s4) λ p o _ q=>trivial) (r4.wk λ p o _ q=>trivial) ez' λ v H5 s5 r5=>w v H5 ((((s1.trans s2).trans s3).trans s4).trans s5) (r5.imm (hi _ _ _ ez'))
 |_=>exact zAJ w
def zq(ro:∀i,OpR (C.X i) (zAr op) r)(hs:OpS C.K r fd)(ro':∀i,OpR (C.X i) (zAr op') r')(hs':OpS C.K r' fd')(hi:∀x y z,fd' x y= .ok z->imm z=true)
  (ha:SE C m1 a fa)(hb:SE C m2 b fb)(hc:SE C m3 c fc)(hm:zGs [op,op'] [b,c]=false:=by with_unfolding_all rfl):SE C (some []) (.Compare a [op,op'] [b,c] pos) (chD fd fd' fa fb fc):=by
 obtain⟨t,h1,h2⟩:=ha;obtain⟨u,k1,k2⟩:=hb;obtain⟨v,l1,l2⟩:=hc;exact⟨_,λ i=>aEV (ro i) (ro' i) (h1 i) (k1 i) (l1 i) hm,aCj hs hs' hi h2 k2 l2⟩
def aFo:D->Rs Bool
 | .non=>.ok false
 | .bl b=>.ok b
 | .int i=>.ok (i !=0)
 | .tup l=>.ok (!l.isEmpty)
 | .lst l=>.ok (!l.isEmpty)
 |_=>.st
def blD:D->Rs Bool
 | .bl b=>.ok b
 |_=>.st
def tst(f:En->Rs D):En->Rs Bool:=λ Y=>(f Y).bd aFo
def tsb(f:En->Rs D):En->Rs Bool:=λ Y=>(f Y).bd blD
def vI{K:zAA}{A:Addr->Prop}{H:Hp}{xs:List V}{ds:List D}(r:Rps K A H xs ds):(!ds.isEmpty)= !xs.isEmpty:=by cases r<;>rfl
def fV(ha:SE C m a fa)(he:∀i whole,isTrue a (C.X i).env whole=(do let v <-whole;zED a.pos;zCj [v] (truthy v)):=by intro _ _;rfl):ST C a (tst fa):=by
 obtain⟨t,h1,h2⟩:=ha;refine⟨λ Z H Q=>t Z H λ x H'=>∃k,aJk C.K x H' k/\Q k H',λ i=>by rw[<-C.hK i];exact aEF (h1 i) (he i),λ τ Z H Y lab Q R W=>h2 τ Z H Y lab _ R (W.bd.imp λ d _ w x H1 s1 r1=>?_)⟩;cases r1 with
 |non=>exact⟨false,rfl,w H1 s1⟩
 |bl b=>exact⟨b,rfl,w H1 s1⟩
 |int i=>exact⟨i !=0,rfl,w H1 s1⟩
 |tup h r=>exact⟨_,.inr (.inl ⟨_,h,rfl⟩),by rw[<-vI r];exact w H1 s1⟩
 |lst h m r=>exact⟨_,.inl ⟨_,SqL.of h,rfl⟩,by rw[<-vI r];exact w H1 s1⟩
 |_=>exact zAJ w
def aFw{K:zAA}{G:Gx}{t:TE}{f:En->Rs D}(h:gY K G m t f):w5 K G (aH5 t) (tsb f):=λ τ Z H Y lab Q R W=>h τ Z H Y lab _ R (W.bd.imp λ d _ w x H1 s1 r1=>by
 cases r1 with
 |bl b=>exact⟨b,rfl,w H1 s1⟩
 |_=>exact zAJ w)
def oO(ro:∀i,OpR (C.X i) (zAr op) r)(hs:OpS C.K r fd)(ha:SE C m1 a fa)(hb:SE C m2 b fb)(hm:zCB op b=false:=by first|exact aE9 _|(with_unfolding_all rfl)):
  ST C (.Compare a [op] [b] pos) (tsb (op2 fd fa fb)):=by
 obtain⟨t,h1,h2⟩:=ha;obtain⟨u,k1,k2⟩:=hb;exact⟨_,λ i=>aGR (ro i) (h1 i) (k1 i) hm,aFw (yM hs h2 k2)⟩
variable{ga gb:En->Rs Bool}
def aAr(f g:En->Rs Bool):En->Rs Bool:=λ Y=>(f Y).bd λ k=>if k=true then g Y else .ok false
def orT(f g:En->Rs Bool):En->Rs Bool:=λ Y=>(f Y).bd λ k=>if k=true then .ok true else g Y
def lX(f:En->Rs Bool):En->Rs Bool:=λ Y=>(f Y).bd λ k=>.ok (!k)
def tX(ha:ST C a ga):SW C (.BoolOp .And [a] pos) ga:=let⟨t,h1,h2⟩:=ha;⟨t,λ i=>aGQ (h1 i),h2⟩
def qi(ha:ST C a ga):SW C (.BoolOp .Or [a] pos) ga:=let⟨t,h1,h2⟩:=ha;⟨t,λ i=>aI0 (h1 i),h2⟩
def yI(ha:ST C a ga)(hb:SW C (.BoolOp .And (b::rest) pos) gb):SW C (.BoolOp .And (a::b::rest) pos) (aAr ga gb):=by
 obtain⟨t,h1,h2⟩:=ha;obtain⟨u,k1,k2⟩:=hb;refine⟨_,λ i=>aI1 (h1 i) (k1 i),λ τ Z H Y lab Q R W=>h2 τ Z H Y lab _ R (W.bd.imp λ k _ w H1 s1=>?_)⟩;cases k with
 |true=>
  rw[if_pos rfl]at w ⊢;exact k2 τ Z H1 Y lab Q (R.up s1) (w.imp λ z _ w H' s=>w H' (s1.trans s))
 |false=>
  rw[if_neg zAY]at w ⊢;exact w H1 s1
def wu(ha:ST C a ga)(hb:SW C (.BoolOp .Or (b::rest) pos) gb):SW C (.BoolOp .Or (a::b::rest) pos) (orT ga gb):=by
 obtain⟨t,h1,h2⟩:=ha;obtain⟨u,k1,k2⟩:=hb;refine⟨_,λ i=>aKM (h1 i) (k1 i),λ τ Z H Y lab Q R W=>h2 τ Z H Y lab _ R (W.bd.imp λ k _ w H1 s1=>?_)⟩;cases k with
 |false=>
  rw[if_neg zAY]at w ⊢;exact k2 τ Z H1 Y lab Q (R.up s1) (w.imp λ z _ w H' s=>w H' (s1.trans s))
 |true=>
  rw[if_pos rfl]at w ⊢;exact w H1 s1
def fW(ha:ST C a ga):ST C (.UnaryOp .Not a pos) (lX ga):=by
 obtain⟨t,h1,h2⟩:=ha;exact⟨_,λ i=>aI3 (h1 i),λ τ Z H Y lab Q R W=>h2 τ Z H Y lab _ R (W.bd.imp λ k _ w H1 s1=>w H1 s1)⟩
end
inductive Ou where
 |nx (Y:En)|rt (d:D)|bk (Y:En)|ct (Y:En)|ex (c:Str)|st
noncomputable def Rs.bo{α:Type}:Rs α->(α->Ou)->Ou
 | .ok a,f=>f a
 | .ex c,_=>.ex c
 | .st,_=>.st
@[simp] def bx(a:α)(f:α->Ou):(Rs.ok a).bo f=f a:=aO rfl
noncomputable def Ou.sq:Ou->(En->Ou)->Ou
 | .nx Y,f=>f Y
 |o,_=>o
@[simp] def az(Y:En)(f:En->Ou):(Ou.nx Y).sq f=f Y:=aO rfl
@[simp] def sq_rt(d:D)(f:En->Ou):(Ou.rt d).sq f= .rt d:=aO rfl
def WS(K:zAA)(G:Gx)(τ:List (V×D))(o:Ou)(De:Ends):Prop:=match o with
 | .nx Y=>∀Z H lab,RR K G τ Y Z H lab->De.nx Z H
 | .bk Y=>∀Z H lab,RR K G τ Y Z H lab->De.bk Z H
 | .ct Y=>∀Z H lab,RR K G τ Y Z H lab->De.ct Z H
 | .rt d=>∀v H,aU G.H0 H->Rp K (λ p=>G.H0 p=none) H v d->De.rt v H
 | .ex c=>∀H',aU G.H0 H'->G.E (.ref (G.cl c)) none H'
 | .st=>False
theorem WS.bo{K:zAA}(h:WS K G τ (r.bo k) De):WR G r (λ a=>WS K G τ (k a) De):=by
 cases r with
 |ok a=>exact h
 |ex c=>exact h
 |st=>exact h
def aKe(K:zAA)(G:Gx)(t:TS)(f:En->Ou):Prop:=∀τ Z H Y lab (De:Ends),RR K G τ Y Z H lab->WS K G τ (f Y) De->t De Z H
def SS(C:Ct)(s:Stmt)(f:En->Ou):Prop:=∃t,(∀i,PS (C.X i) s t)/\aKe C.K C.G t f
def SSs(C:Ct)(s:List Stmt)(f:En->Ou):Prop:=∃t,(∀i,PSs (C.X i) s t)/\aKe C.K C.G t f
section
variable{C:Ct}{pos:Pos}{s:Stmt}{ss:List Stmt}{f g:En->Ou}{e:Expr}{m:Mode}{fe:En->Rs D}
def bZ:SSs C [] .nx:=⟨_,λ _=>aGT,λ τ Z H Y lab De R W=>W Z H lab R⟩
def bB(f g:En->Ou):En->Ou:=λ Y=>(f Y).sq g
def aL(h:SS C s f):SSs C [s] f:=let⟨t,h1,h2⟩:=h;⟨t,λ i=>aGS (h1 i),h2⟩
def aJ(h:SS C s f)(k:SSs C ss g):SSs C (s::ss) (bB f g):=by
 obtain⟨t,h1,h2⟩:=h;obtain⟨u,k1,k2⟩:=k;refine⟨_,λ i=>aEG (h1 i) (k1 i),λ τ Z H Y lab De R W=>h2 τ Z H Y lab _ R ?_⟩;unfold bB at W;cases h:f Y with
 |nx Y'=>rw[h]at W;exact λ Z' H' lab' R'=>k2 τ Z' H' Y' lab' De R' W
 |rt d=>rw[h]at W;exact W
 |bk Y'=>rw[h]at W;exact W
 |ct Y'=>rw[h]at W;exact W
 |ex c=>rw[h]at W;exact W
 |st=>rw[h]at W;exact W
def frz(i:Nat)(Y:En):En:=match Y[i]? with
 |some (.ow d)=>Y.set i (.nw d)
 |some (.o2 l)=>Y.set i (.nw (.lst (l.map .lst)))
 |_=>Y
def aKX:Mode->Bool
 |some L=>L.all (·!=0)
 |none=>false
def retS(fe:En->Rs D):En->Ou:=λ Y=>(fe Y).bo .rt
def aX(he:SE C m e fe)(hm:aKX m=true:=by rfl):SS C (.Return (some e) pos) (retS fe):=by
 obtain⟨t,h1,h2⟩:=he;refine⟨_,λ i=>aI4 (h1 i),λ τ Z H Y lab De R W=>h2 τ Z H Y lab _ R (W.bo.imp λ d _ w v H' s r=>w v H' (R.old.trans s) (r.wk λ p o _ z=>?_))⟩;rcases z with z|z
 .exact R.old.free z
 .cases m with
  |none=>cases hm
  |some L=>
   refine R.new p λ e0=>?_
   have:=zBJ.mp hm _ z
   rw[e0]at this;simp at this
def xg(fe:En->Rs D):En->Ou:=λ Y=>(fe Y).bo λ _=>.nx Y
def aBy(he:SE C m e fe)(hs:∀i,zCW e none pos.line (C.X i).env=pure false:=by intro _;rfl):SS C (.Expr e pos) (xg fe):=by
 obtain⟨t,h1,h2⟩:=he;exact⟨_,λ i=>nC (h1 i) (hs i),λ τ Z H Y lab De R W=>h2 τ Z H Y lab _ R (W.bo.imp λ d _ w v H' s r=>w Z H' lab (R.up s))⟩
def ifS(c:En->Rs Bool)(f g:En->Ou):En->Ou:=λ Y=>(c Y).bo λ k=>if k=true then f Y else g Y
def eU{a b:List Stmt}(hc:ST C c fc)(ha:SSs C a f)(hb:SSs C b g):SS C (.If c a b pos) (ifS fc f g):=by
 obtain⟨tc,c1,c2⟩:=hc;obtain⟨t,h1,h2⟩:=ha;obtain⟨u,k1,k2⟩:=hb;refine⟨_,λ i=>aKN (c1 i) (h1 i) (k1 i),λ τ Z H Y lab De R W=>c2 τ Z H Y lab _ R (W.bo.imp λ k _ w H1 s1=>?_)⟩;cases k with
 |true=>rw[if_pos rfl]at w ⊢;exact h2 τ Z H1 Y lab De (R.up s1) w
 |false=>rw[if_neg zAY]at w ⊢;exact k2 τ Z H1 Y lab De (R.up s1) w
def SV(C:Ct)(i:Nat)(s:Stmt)(m:Mode)(f:En->Rs D):Prop:=∃t,(∀j,PS (C.X j) s (aCf t (sW i)))/\gY C.K C.G m t f
def fC(he:SE C m e fe)(hN:∀j,(C.X j).N[i]? =some x:=by intro _;rfl)(hx:∀j,Loc (C.X j).env.scope x:=by intro _;first|exact zBu rfl|exact zB2 rfl)(hs:∀j,zCW e (some (.Name x pos')) pos.line (C.X j).env=pure false:=by intro _;rfl)(hf:∀j,(C.X j).fn x=true\/(C.X j).env.scope.names.lookup x=some .local:=by intro _;first|exact .inl rfl|exact .inr rfl)(nd:∀j,(C.X j).N.Nodup:=by intro _;assumption):
  SV C i (.Assign [.Name x pos'] e pos) m fe:=by
 obtain⟨t,h1,h2⟩:=he;exact⟨t,λ j=>aEI (nd j) (hN j) (hx j) (h1 j) (hs j) (hf j),h2⟩
def SVF(C:Ct)(i:Nat)(s:Stmt)(m:Mode)(f:En->Rs D):Prop:=∃t,(∀j,PS (C.X j) s (aCf t (sW i)))/\aJm C.K C.G m t f
def uO(he:SF C m e fe)(hN:∀j,(C.X j).N[i]? =some x:=by intro _;rfl)(hx:∀j,Loc (C.X j).env.scope x:=by intro _;first|exact zBu rfl|exact zB2 rfl)(hs:∀j,zCW e (some (.Name x pos')) pos.line (C.X j).env=pure false:=by intro _;rfl)(hf:∀j,(C.X j).fn x=true\/(C.X j).env.scope.names.lookup x=some .local:=by intro _;first|exact .inl rfl|exact .inr rfl)(nd:∀j,(C.X j).N.Nodup:=by intro _;assumption):
  SVF C i (.Assign [.Name x pos'] e pos) m fe:=by
 obtain⟨t,h1,h2⟩:=he;exact⟨t,λ j=>aEI (nd j) (hN j) (hx j) (h1 j) (hs j) (hf j),h2⟩
def aJx(h:SV C i s (some []) fe):SVF C i s (some []) fe:=let⟨t,h1,h2⟩:=h;⟨t,h1,h2.toF⟩
def aCP(P:Nat->Bool):Mode->Bool
 |some L=>L.all P
 |none=>false
def jP(h:aCP P m=true):∀k,inM m k->P k=true:=by
 intro k hk;cases m with
 |none=>cases h
 |some L=>exact zBJ.mp h k hk
abbrev okS:Mode->Bool:=aCP λ k=>decide (k<=1)
abbrev okN:Mode->Bool:=aCP λ k=>k==1
abbrev okO(i:Nat):Mode->Bool:=aCP λ k=>k==1||k==i+2
def cG(i:Nat)(fe:En->Rs D):En->Ou:=λ Y=>(fe Y).bo λ d=>.nx (Y.set i (.sh d))
def qm(i:Nat)(fe:En->Rs D):En->Ou:=λ Y=>(fe Y).bo λ d=>.nx (Y.set i (.nw d))
def lu(i:Nat)(fe:En->Rs D):En->Ou:=λ Y=>(fe Y).bo λ d=>.nx (Y.set i (.ow d))
def RR.shared{K:zAA}(hm:okS m=true)(R:RR K G τ Y Z H lab)(s:aU H H')(r:Rp K (fpM m lab H) H' v d):
  RR K G τ Y Z H' (bT H 1 lab)/\Rp K (λ p=>(bT H 1 lab p).1<=1) H' v d:=R.fresh (P:=λ k=>k<=1) (by decide) (λ k hk=>of_decide_eq_true (jP hm k hk)) s r
def bO{i:Nat}(h:SV C i s m fe)(hm:okS m=true:=by rfl):SS C s (cG i fe):=by
 obtain⟨t,h1,h2⟩:=h;refine⟨_,h1,λ τ Z H Y lab De R W=>h2 τ Z H Y lab _ R (W.bo.imp λ d _ w v H' s r=>?_)⟩;obtain⟨R',r'⟩:=R.shared hm s r;exact w _ _ _ (R'.put (s:=.sh d) r')
def jJ(h:SV C i s m fe)(hm:okN m=true:=by rfl):SS C s (qm i fe):=by
 obtain⟨t,h1,h2⟩:=h;refine⟨_,h1,λ τ Z H Y lab De R W=>h2 τ Z H Y lab _ R (W.bo.imp λ d _ w v H' s r=>?_)⟩;obtain⟨R',r'⟩:=R.fresh (P:=λ k=>k=1) rfl (λ k hk=>beq_iff_eq.mp (jP hm k hk)) s r;exact w _ _ _ (R'.put (s:=.nw d) r')
def jH(h:SVF C i s m fe)(hm:okO i m=true:=by rfl):SS C s (lu i fe):=by
 obtain⟨t,h1,h2⟩:=h;refine⟨_,h1,λ τ Z H Y lab De R W=>h2 τ Z H Y lab _ R (W.bo.imp λ d _ w v H' s r ht=>?_)⟩;obtain⟨lab',R',r'⟩:=R.freshO i (λ k hk=>by have:=jP hm k hk;simpa using this) s r ht;exact w _ _ _ (R'.put (s:=.ow d) r')
def aBv(K:zAA)(G:Gx)(g:TG)(fg:D->En->Rs En):Prop:=∀τ v d Z H Y lab (Q:L2.St->Hp->Prop) Y',RR K G τ Y Z H lab->Rp K (λ p=>(lab p).1<=1) H v d->fg d Y= .ok Y'->(∀Z',RR K G τ Y' Z' H lab->Q Z' H)->g v Z H Q
def aKf(K:zAA)(G:Gx)(g:TGs)(fg:List D->En->Rs En):Prop:=∀τ vs ds Z H Y lab (Q:L2.St->Hp->Prop) Y',RR K G τ Y Z H lab->Rps K (λ p=>(lab p).1<=1) H vs ds->fg ds Y= .ok Y'->(∀Z',RR K G τ Y' Z' H lab->Q Z' H)->g vs Z H Q
def SG(C:Ct)(tg:Expr)(ks:List Nat)(fg:D->En->Rs En):Prop:=∃g,(∀i,PG (C.X i) tg g)/\aBv C.K C.G g fg/\jW g ks/\wA g
def SGs(C:Ct)(tg:List Expr)(ks:List Nat)(fg:List D->En->Rs En):Prop:=∃g,(∀i,PGs (C.X i) tg g)/\aKf C.K C.G g fg/\vz g ks/\sH g
def gnm(i:Nat):D->En->Rs En:=λ d Y=>.ok (Y.set i (.sh d))
def iw:List D->En->Rs En:=λ ds Y=>match ds with
 |[]=>.ok Y
 |_=>.st
def bJ(f:D->En->Rs En)(g:List D->En->Rs En):List D->En->Rs En:=λ ds Y=>match ds with
 |d::r=>(f d Y).bd (g r)
 |_=>.st
def gq(n:Nat)(g:List D->En->Rs En):D->En->Rs En:=λ d Y=>match d with
 | .tup ds=>if ds.length=n then g ds Y else .st
 |_=>.st
variable{ks:List Nat}{fg:D->En->Rs En}{fgs:List D->En->Rs En}{tg:Expr}{tgs:List Expr}
def bf(hN:∀j,(C.X j).N[i]? =some x:=by intro _;rfl)(hx:∀j,Loc (C.X j).env.scope x:=by intro _;first|exact zBu rfl|exact zB2 rfl)(hf:∀j,(C.X j).fn x=true\/(C.X j).env.scope.names.lookup x=some .local:=by intro _;first|exact .inl rfl|exact .inr rfl)(nd:∀j,(C.X j).N.Nodup:=by intro _;assumption)(hk:i∈ks:=by decide):SG C (.Name x pos) ks (gnm i):=
 ⟨_,λ j=>aGZ (nd j) (hN j) (hx j) (hf j),λ τ v d Z H Y lab Q Y' R r e q=>by cases e;exact q _ (R.put (s:=.sh d) r),aHG hk,aHI⟩
def jL:SGs C [] ks iw:=by
 refine⟨_,λ _=>aGY,λ τ vs ds Z H Y lab Q Y' R r e q=>?_,aHF,aHH⟩;cases r with
 |nil=>cases e;exact⟨rfl,q _ R⟩
 |cons _ _=>cases e
def b8(h:SG C tg ks fg)(k:SGs C tgs ks fgs)(hs:∀i,(zCI (tg::tgs) (C.X i).env).map (·.2)=zDd tg (C.X i).env::(zCI tgs (C.X i).env).map (·.2):=by intro _;rfl):SGs C (tg::tgs) ks (bJ fg fgs):=by
 obtain⟨g,h1,h2,h3,h4⟩:=h;obtain⟨u,k1,k2,k3,k4⟩:=k;refine⟨_,λ i=>aEQ (h1 i) (k1 i) (hs i),λ τ vs ds Z H Y lab Q Y' R r e q=>?_,aFD h3 h4 k3 k4,aFH h4 k4⟩;cases r with
 |nil=>cases e
 |cons h r=>
  obtain⟨Y1,e1,e2⟩:=bc e;exact⟨_,_,rfl,h2 τ _ _ Z H Y lab _ Y1 R h e1 λ Z1 R1=>k2 τ _ _ Z1 H Y1 lab Q Y' R1 r e2 q⟩
def lr(h:SGs C tgs ks fgs)(hn:∀i,(zCI tgs (C.X i).env).length=n:=by intro _;rfl)(hst:∀i,(zCI tgs (C.X i).env).findIdx? (·.1)=none:=by intro _;rfl):SG C (.Tuple tgs k pos) ks (gq n fgs):=by
 obtain⟨u,k1,k2,k3,k4⟩:=h;refine⟨aHJ C.K n u,λ i=>by rw[<-C.hK i];exact aI8 (C.calm i) (k1 i) (hn i) (hst i),λ τ v d Z H Y lab Q Y' R r e q=>?_,aJ5 k3,aJ6 k4⟩;cases r with
 |tup h r=>
  unfold gq at e;dsimp only at e;split at e
  .rename_i hl
   exact⟨_,_,rfl,h,by rw[r.length];exact hl,k2 τ _ _ Z H Y lab Q Y' R r e q⟩
  .cases e
 |_=>cases e
def aHT(fe:En->Rs D)(fg:D->En->Rs En):En->Ou:=λ Y=>(fe Y).bo λ d=>match fg d Y with
 | .ok Y'=>.nx Y'
 |_=>.st
def aIJ(he:SE C m e fe)(hg:SG C tg ks fg)(hm:okS m=true:=by rfl)(hs:∀i,zGS [tg] e pos.line (C.X i).env=pure false:=by intro _;rfl)(hw:∀i,zGR [tg] e (C.X i).env=pure none:=by intro _;rfl)
  (h1:∀i,(zCI [tg] (C.X i).env).map (·.2)=[zDd tg (C.X i).env]:=by intro _;rfl):SS C (.Assign [tg] e pos) (aHT fe fg):=by
 obtain⟨t,p1,p2⟩:=he;obtain⟨g,q1,q2,_,_⟩:=hg;refine⟨_,λ i=>aEK (p1 i) (q1 i) (hs i) (hw i) (h1 i),λ τ Z H Y lab De R W=>p2 τ Z H Y lab _ R (W.bo.imp λ d _ w v H' s r=>?_)⟩;obtain⟨R',r'⟩:=R.shared hm s r;cases hgd:fg d Y with
 |ok Y'=>rw[hgd]at w;exact q2 τ v d Z H' Y _ _ Y' R' r' hgd λ Z' R2=>w Z' H' _ R2
 |ex c=>rw[hgd]at w;exact zAJ w
 |st=>rw[hgd]at w;exact zAJ w
def JL(K:zAA)(lab:Lab)(J:It)(H:Hp)(ds:List D):Prop:=∀i,(ds.length<=i->J.stop i H)/\(i<ds.length->J.go i H/\∀x H',J.yld i H x H'->aU H H'/\∃d,ds[i]? =some d/\Rp K (λ p=>(lab p).1<=1) H' x d)
def aBu(K:zAA)(G:Gx)(wi:TI)(f:En->Rs (List D)):Prop:=∀τ Z H Y lab (Rr:It->Hp->Prop),RR K G τ Y Z H lab->
 WR G (f Y) (λ ds=>∀J H1 lab1 τ1,aU H H1->(∀p o,H p=some o->lab1 p=lab p)->RR K G (τ1++τ) Y Z H1 lab1->(∀lab' H',(∀q∈τ1,Rp K (λ p=>(lab' p).1<=1) H' q.1 q.2)->JL K lab' J H' ds)->Rr J H1)->wi Z H Rr
def SI(C:Ct)(tg iter:Expr)(f:En->Rs (List D)):Prop:=∃wi,(∀i,PI (C.X i) tg iter wi)/\aBu C.K C.G wi f
def aK4(K:zAA)(tl:TE):TI:=λ Z H R=>tl Z H λ x H1=>∃a,x= .ref a/\(((∃xs,SqL K H1 a xs)/\R (Itl K a) H1)\/((∃xs,SqT K H1 a xs)/\R (Itt K a) H1))
def aI7(hl:PE X l tl):PI X tg l (aK4 X.K tl):=by
 intro pins s Z H R I h;refine thn (hl pins s Z H _ I h) λ v s1 ⟨x,H1,I1,r1,a,e,q1⟩=>?_
 subst e;cases r1;have hp:∀b∈[s1.heap.objs.size],pL X pins H1 b:=λ b hb=>by
  have e:b=s1.heap.objs.size:=by simpa using hb
  rw[e];exact I1.fpOk (zAO _) (I1.hok.fresh (zAO _))
 rcases q1 with ⟨⟨xs,hq⟩,q⟩|⟨⟨xs,hq⟩,q⟩
 .obtain⟨its,rv,p,hz⟩:=I1.list hq
  refine zEz p.isList ?_;exact⟨_,_,_,_,H1,rfl,I1.kept (t':=s1.toks) λ b o e=>zAE _ e,aCd a _,⟨_,zAX _ rfl,rfl,rfl⟩,hp,q⟩
 .obtain⟨its,rv,p,hz⟩:=I1.tuple hq
  refine wpAny_pyIter_tuple (show s1.heap.IsTuple a its.toArray from p) ?_;exact⟨_,_,_,_,H1,rfl,I1.kept (t':=s1.toks) λ b o e=>zAE _ e,aAy a _,⟨_,zAX _ rfl,rfl,rfl⟩,hp,q⟩
def itD:D->Rs (List D)
 | .tup l=>.ok l
 | .lst l=>.ok l
 | .scr l=>.ok (l.map .int)
 |_=>.st
def dj(fe:En->Rs D):En->Rs (List D):=λ Y=>(fe Y).bd itD
def aCX{K:zAA}(h:SqL K H a xs)(r:Rps K (λ p=>(lab p).1<=1) H xs ds):JL K lab (Itl K a) H ds:=by
 have hl:=r.length;refine λ i=>⟨λ hi=>⟨xs,h,by lia⟩,λ hi=>⟨⟨xs,xs[i]'(by lia),h,by simp[hl,hi]⟩,λ x H' y=>?_⟩⟩
 obtain⟨e,y⟩:=y;subst e;obtain⟨d,h1,h2⟩:=r.get (y xs h);exact⟨aU.refl _,d,h1,h2⟩
def aJW{K:zAA}(h:SqT K H a xs)(r:Rps K (λ p=>(lab p).1<=1) H xs ds):JL K lab (Itt K a) H ds:=by
 have hl:=r.length;refine λ i=>⟨λ hi=>⟨xs,h,by lia⟩,λ hi=>⟨⟨xs,xs[i]'(by lia),h,by simp[hl,hi]⟩,λ x H' y=>?_⟩⟩
 obtain⟨e,y⟩:=y;subst e;obtain⟨d,h1,h2⟩:=r.get (y xs h);exact⟨aU.refl _,d,h1,h2⟩
def dh(he:SE C m e fe)(hm:okS m=true:=by rfl):SI C tg e (dj fe):=by
 obtain⟨t,p1,p2⟩:=he;refine⟨aK4 C.K t,λ i=>by rw[<-C.hK i];exact aI7 (p1 i),λ τ Z H Y lab Rr R W=>p2 τ Z H Y lab _ R (W.bd.imp λ d _ w v H1 s r=>?_)⟩;obtain⟨R',r'⟩:=R.shared hm s r;cases d with
 |tup l=>
  cases r' with
  |tup h q=>
   rename_i a xs;refine⟨_,rfl,.inr ⟨⟨_,h⟩,w _ H1 _ [(.ref a,.tup l)] s (λ p o e=>bA e) ⟨R'.len,R'.sl,R'.old,R'.new,λ z hz=>?_⟩ λ lab' H' hq=>?_⟩⟩
   .rcases zAR.mp hz with rfl|hz
    .exact .tup h q
    .exact R'.tm z hz
   .have z:=hq _ (zAN ..)
    cases z with
    |tup h' q'=>exact aJW h' q'
 |lst l=>
  cases r' with
  |lst h mm q=>
   rename_i a xs;refine⟨_,rfl,.inl ⟨⟨_,SqL.of h⟩,w _ H1 _ [(.ref a,.lst l)] s (λ p o e=>bA e) ⟨R'.len,R'.sl,R'.old,R'.new,λ z hz=>?_⟩ λ lab' H' hq=>?_⟩⟩
   .rcases zAR.mp hz with rfl|hz
    .exact .lst h mm q
    .exact R'.tm z hz
   .have z:=hq _ (zAN ..)
    cases z with
    |lst h' _ q'=>exact aCX (SqL.of h') (q'.wk λ _ _ _ z=>z.1)
 |scr l=>
  cases r' with
  |scr h=>
   rename_i a;refine⟨_,rfl,.inl ⟨⟨_,h.sq⟩,w _ H1 _ [(.ref a,.scr l)] s (λ p o e=>bA e) ⟨R'.len,R'.sl,R'.old,R'.new,λ z hz=>?_⟩ λ lab' H' hq=>?_⟩⟩
   .rcases zAR.mp hz with rfl|hz
    .exact .scr h
    .exact R'.tm z hz
   .have z:=hq _ (zAN ..)
    cases z with
    |scr h'=>exact aCX h'.sq Rps.ints
 |_=>exact zAJ w
end
section
variable{C:Ct}{pos:Pos}{s:Stmt}{ss:List Stmt}{f:En->Ou}{e a b:Expr}{es:List Expr}{m:Mode}{fa:En->Rs D}{ks:List Nat}{fg:D->En->Rs En}{tg:Expr}{fi:En->Rs (List D)}{ga:En->Rs (List D)}
def cu(lo hi:Int):List D:=(zA3 (hi-lo).toNat).map λ(k:Nat)=>.int (lo+(k:Int))
def fY:List D->Rs (List D)
 |[.int j]=>if -(2^62)<=j/\j<2^62 then .ok (cu 0 j)else .st
 |_=>.st
def yX:List D->Rs (List D)
 |[.int i,.int j]=>if (-(2^62)<=i/\i<2^62)/\(-(2^62)<=j/\j<2^62)then .ok (cu i j)else .st
 |_=>.st
def dJ(r:List D->Rs (List D))(ga:En->Rs (List D)):En->Rs (List D):=λ Y=>(ga Y).bd r
def aEj{K:zAA}{lo hi:Int}:JL K lab (Itr lo (hi-lo).toNat) H (cu lo hi):=by
 have hl:(cu lo hi).length=(hi-lo).toNat:=by unfold cu;simp
 refine λ i=>⟨λ h=>by show(hi-lo).toNat<=i;lia,λ h=>⟨by show i<(hi-lo).toNat;lia,λ x H' y=>?_⟩⟩
 obtain⟨e,rfl⟩:=y;subst e;refine⟨aU.refl _,.int (lo+i),?_,.int _⟩;unfold cu;rw[zAK,zDB (by lia)];rfl
def du(ha:SA C m [a] ga)(hm:C.mg "range"=none)(hs:∀i,zAU [a] (C.X i).env=[(false,eval a (C.X i).env)]:=by intro _;rfl)(hg:∀i,Gl (C.X i) "range":=by intro _;rfl):SI C tg (.Call (.Name "range" p) [a] [] pos) (dJ fY ga):=by
 obtain⟨t,h1,h2⟩:=ha;refine⟨_,λ i=>aCr (hg i) (by rw[(C.cx i).2.2.2.1];exact hm) (h1 i) (hs i),λ τ Z H Y lab Rr R W=>h2 τ Z H Y lab _ R (W.bd.imp λ ds _ w vs H1 s r=>?_)⟩;unfold fY at w;split at w
 .rename_i j _
  split at w
  .rename_i hj
   cases r with
   |cons h r=>
    cases h;cases r;refine⟨j,rfl,hj.1,hj.2,?_⟩;have z:=w (Itr 0 (j-0).toNat) H1 lab [] s (λ _ _ _=>rfl) (R.up s) λ lab' H' _=>aEj
    rwa [Int.sub_zero]at z
  .exact zAJ w
 .exact zAJ w
def aCC(ha:SA C m [a,b] ga)(hm:C.mg "range"=none)(hs:∀i,zAU [a,b] (C.X i).env=[(false,eval a (C.X i).env),(false,eval b (C.X i).env)]:=by intro _;rfl)(hs2:∀i,zAU [b] (C.X i).env=[(false,eval b (C.X i).env)]:=by intro _;rfl)(hg:∀i,Gl (C.X i) "range":=by intro _;rfl):SI C tg (.Call (.Name "range" p) [a,b] [] pos) (dJ yX ga):=by
 obtain⟨t,h1,h2⟩:=ha;refine⟨_,λ i=>aCq (hg i) (by rw[(C.cx i).2.2.2.1];exact hm) (h1 i) (hs i) (hs2 i),λ τ Z H Y lab Rr R W=>h2 τ Z H Y lab _ R (W.bd.imp λ ds _ w vs H1 s r=>?_)⟩;unfold yX at w;split at w
 .rename_i i j _
  split at w
  .rename_i hj
   cases r with
   |cons h r=>
    cases h;cases r with
    |cons h r=>
     cases h;cases r;exact⟨i,j,rfl,⟨hj.1.1,hj.1.2,hj.2.1,hj.2.2⟩,w (Itr i (j-i).toNat) H1 lab [] s (λ _ _ _=>rfl) (R.up s) λ lab' H' _=>aEj⟩
  .exact zAJ w
 .exact zAJ w
def forL(fg:D->En->Rs En)(b:En->Ou):List D->En->Ou
 |[],Y=>.nx Y
 |d::ds,Y=>match fg d Y with
  | .ok Y1=>match b Y1 with
   | .nx Y2=>forL fg b ds Y2
   | .ct Y2=>forL fg b ds Y2
   | .bk Y2=>.nx Y2
   |o=>o
  |_=>.st
def iy(fi:En->Rs (List D))(fg:D->En->Rs En)(b:En->Ou):En->Ou:=λ Y=>(fi Y).bo λ ds=>forL fg b ds Y
def fD(hi:SI C tg e fi)(hg:SG C tg ks fg)(hb:SSs C ss f)(hs:∀i,∀x,zAu e (C.X i).env x=pure x:=by intro _ _;rfl):SS C (.For tg e ss [] pos) (iy fi fg f):=by
 obtain⟨wi,i1,i2⟩:=hi;obtain⟨gg,g1,g2,_,g4⟩:=hg;obtain⟨tb,b1,b2⟩:=hb;refine⟨_,λ i=>aI5 (C.own i) (C.calm i) (i1 i) (g1 i) (b1 i) (hs i),λ τ Z H Y lab De R W=>i2 τ Z H Y lab _ R (W.bo.imp λ ds _ w J H1 lab1 τ1 s1 _ R1 jl=>?_)⟩;refine⟨λ i n Z' H'=>∃Y' lab',RR C.K C.G (τ1++τ) Y' Z' H' lab'/\n=ds.length-i/\i<=ds.length/\WS C.K C.G τ (forL fg f (ds.drop i) Y') De,⟨ds.length,Y,lab1,R1,by lia,by lia,w⟩,?_⟩;rintro i n Z' H' ⟨Y',lab',R',rfl,hi,w'⟩;have jj:=jl lab' H' λ q hq=>R'.tm q (zA1 _ hq)
 by_cases hlt:i<ds.length
 .obtain⟨go,yl⟩:=(jj i).2 hlt
  refine .inr ⟨go,λ Z2 H2=>∃Y2 lab2,RR C.K C.G (τ1++τ) Y2 Z2 H2 lab2/\WS C.K C.G τ (forL fg f (ds.drop (i+1)) Y2) De,λ Z2 H2 ⟨Y2,lab2,R2,w2⟩=>⟨ds.length-(i+1),by lia,Y2,lab2,R2,rfl,hlt,w2⟩,λ x H2 hy=>?_⟩;obtain⟨s2,d,ed,rx⟩:=yl x H2 hy;replace R':=R'.up s2;have ed2:ds.drop i=d::ds.drop (i+1):=by
   rw[zB3 hlt]
   have:=zAB hlt
   rw[ed]at this;cases this;rfl
  rw[ed2]at w';unfold forL at w';cases eg:fg d Y' with
  |ex c=>rw[eg]at w';exact zAJ w'
  |st=>rw[eg]at w';exact zAJ w'
  |ok Y1=>
   rw[eg]at w';refine g2 (τ1++τ) x d Z' H2 Y' lab' _ Y1 R' rx eg λ Z1 R1'=>b2 (τ1++τ) Z1 H2 Y1 lab' _ R1' ?_
   dsimp only at w';cases eb:f Y1 with
   |nx Y2=>rw[eb]at w';exact λ Z2 H3 lab2 R2=>⟨Y2,lab2,R2,w'⟩
   |ct Y2=>rw[eb]at w';exact λ Z2 H3 lab2 R2=>⟨Y2,lab2,R2,w'⟩
   |bk Y2=>rw[eb]at w';exact λ Z2 H3 lab2 R2=>w' Z2 H3 lab2 R2.drop
   |rt d=>rw[eb]at w';exact w'
   |ex c=>rw[eb]at w';exact w'
   |st=>rw[eb]at w';exact w'
 .have e:i=ds.length:=by lia
  subst e;rw[zC0]at w';exact .inl ⟨(jj _).1 (zAO _),w' Z' H' lab' R'.drop⟩
def itW(c:En->Rs Bool)(b:En->Ou):Nat->En->Ou
 |0,_=>.st
 |n+1,Y=>(c Y).bo λ k=>if k=true then(match b Y with
   | .nx Y2=>itW c b n Y2
   | .ct Y2=>itW c b n Y2
   | .bk Y2=>.nx Y2
   |o=>o)else .nx Y
def fuel:Nat:=1000000
def yE(c:En->Rs Bool)(b:En->Ou):En->Ou:=itW c b fuel
def zg(hc:ST C c fc)(hb:SSs C ss f):SS C (.While c ss [] pos) (yE fc f):=by
 obtain⟨tc,c1,c2⟩:=hc;obtain⟨tb,b1,b2⟩:=hb;refine⟨_,λ i=>aEH (C.own i) (c1 i) (b1 i),λ τ Z H Y lab De R W=>?_⟩;refine⟨λ n Z' H'=>∃Y' lab',RR C.K C.G τ Y' Z' H' lab'/\WS C.K C.G τ (itW fc f n Y') De,⟨fuel,Y,lab,R,W⟩,?_⟩;rintro n Z' H' ⟨Y',lab',R',w'⟩;cases n with
 |zero=>exact zAJ w'
 |succ n=>
  refine c2 τ Z' H' Y' lab' _ R' (WS.bo (show WS C.K C.G τ ((fc Y').bo _) De from w') |>.imp λ k _ w H1 s1=>?_);cases k with
  |false=>
   rw[if_neg zAY]at w ⊢;exact w Z' H1 lab' (R'.up s1)
  |true=>
   rw[if_pos rfl]at w ⊢;refine⟨λ Z2 H2=>∃Y2 lab2,RR C.K C.G τ Y2 Z2 H2 lab2/\WS C.K C.G τ (itW fc f n Y2) De,λ Z2 H2 ⟨Y2,lab2,R2,w2⟩=>⟨n,zBz n,Y2,lab2,R2,w2⟩,?_⟩;refine b2 τ Z' H1 Y' lab' _ (R'.up s1) ?_;cases eb:f Y' with
   |nx Y2=>rw[eb]at w;exact λ Z2 H3 lab2 R2=>⟨Y2,lab2,R2,w⟩
   |ct Y2=>rw[eb]at w;exact λ Z2 H3 lab2 R2=>⟨Y2,lab2,R2,w⟩
   |bk Y2=>rw[eb]at w;exact w
   |rt d=>rw[eb]at w;exact w
   |ex c=>rw[eb]at w;exact w
   |st=>rw[eb]at w;exact w
def ud(x:Str)(ga:En->Rs (List D)):En->Ou:=λ Y=>(ga Y).bo λ ds=>if ds.length<=zAP then .ex x else .st
def zj{rest:List Expr}(hd:C.dOk=true)(hm:C.mg x=some (.ref Ca))(hcl:C.G.cl x=Ca)(hC:pM C.K Ca)(ha:SA C m (y0::rest) ga)(he:∀i,zAU (y0::rest) (C.X i).env=(false,eval y0 (C.X i).env)::zAU rest (C.X i).env:=by intro _;rfl)(hplain:∀i,(zCF cpos (zAU rest (C.X i).env)).any (·.1)=false:=by intro _;rfl)(hdb:Nd x:=by decide)(hg:∀i,Gl (C.X i) x:=by intro _;rfl):SS C (.Raise (some (.Call (.Name x np) (y0::rest) [] cpos)) none pos) (ud x ga):=by
 obtain⟨t,h1,h2⟩:=ha;refine⟨_,λ i=>aEJ (C.dcx hd i) (C.calm i) (by rw[(C.cx i).2.2.2.1];exact hm) (by rw[C.hK i];exact hC) (hg i) (h1 i) (he i) (hplain i) hdb,λ τ Z H Y lab De R W=>h2 τ Z H Y lab _ R (W.bo.imp λ ds _ w vs H1 s r=>?_)⟩;by_cases hz:ds.length<=zAP
 .rw[if_pos hz]at w
  refine⟨by rw[r.length];exact hz,?_⟩
  have:=w H1 (R.old.trans s)
  rwa [hcl]at this
 .rw[if_neg hz]at w
  exact zAJ w
def spF(K:zAA)(cl:Str->Addr)(n:Nat)(F:List D->Rs D):Sp:=λ vs H Q E=>∃ds,vs.length=n/\Rps K (λ _=>True) H vs ds/\WR ⟨H,E,cl⟩ (F ds) (λ d=>∀v H',aU H H'->Rp K (λ p=>H p=none) H' v d->Q v H')
def aN(F:List D->Rs D)(ga:En->Rs (List D)):En->Rs D:=λ Y=>(ga Y).bd F
def aDk{K:zAA}(hn:∀Y ds,ga Y= .ok ds->ds.length=n)(h:aHX K G m t ga):gY K G (some []) (aH9 (spF K G.cl n F) [] G.E t) (aN F ga):=by
 intro τ Z H Y lab Q R W;refine h τ Z H Y lab _ R (W.bd.imp λ ds eds w vs H1 s r=>⟨ds,by rw[zAg,r.length];exact hn Y ds eds,by rw[zAg];exact r.wk λ _ _ _ _=>trivial,?_⟩);cases hF:F ds with
 |ok d=>
  rw[hF]at w;exact λ v H' s' r'=>w v H' (s.trans s') (r'.wk λ p o _ z=>.inl (s.free z))
 |ex c=>rw[hF]at w;exact λ H' s'=>w H' ((R.old.trans s).trans s')
 |st=>rw[hF]at w;exact w
variable{k:Nat}{fn:Addr}{fd:zA8}{ps:List Str}{x:Str}{p:Pos}{F:List D->Rs D}{n:Nat}
def aGH(hF:bz C.prog C.w C.K C.mg C.base (CX1 C.prog C.w) k fn fd ps (spF C.K C.G.cl n F))(hr:k<=C.k)(hm:C.mg x=some (.ref fn))(hk:zCb C.K (.ref fn)=true)(hb:Binds C.K fd ps [])(ha:SA C m (e::es) ga)(hn:∀Y ds,ga Y= .ok ds->ds.length=n)(hdb:Nd x:=by decide)(he:∀i,zAU (e::es) (C.X i).env=(false,eval e (C.X i).env)::zAU es (C.X i).env:=by intro _;rfl)(hpl:∀i,(zCF pos (zAU es (C.X i).env)).any (·.1)=false:=by intro _;rfl)(hg:∀i,Gl (C.X i) x:=by intro _;rfl):SE C (some []) (.Call (.Name x p) (e::es) [] pos) (aN F ga):=by
 obtain⟨t,h1,h2⟩:=ha;refine⟨_,λ i=>?_,aDk hn h2⟩;obtain⟨e1,e2,e3,e4,e5⟩:=C.cx i;refine aG6 (CX:=CX1 (C.X i).prog (C.X i).w) (by rw[e1,e2,e3,e4,e5];exact hF) ((C.room i).mono hr) (hg i) (by rw[e4];exact hm) (by rw[e3];exact hk) (by rw[e3];exact hb) .nil (C.pass i) (h1 i) hdb (he i) (hpl i)
def aGo(h:aG Y= .ok ds):ds.length=0:=by cases h;rfl
def aEe(h:∀Y ds,ga Y= .ok ds->ds.length=n):∀Y ds,aA fa ga Y= .ok ds->ds.length=n+1:=λ Y ds e=>by
 obtain⟨d,_,e⟩:=bc e;obtain⟨r,er,e⟩:=bc e;cases e;rw[zAf,h Y r er]
end
def bR(mg:Str->Option Value):Str->Addr:=λ x=>match mg x with
 |some (.ref a)=>a
 |_=>0
abbrev ctD(P:zA2)(w:World)(K:zAA)(mg:Str->Option Value)(base:Heap)(N:List Str)(q:Str)(sc:Scope)(f:Addr)(cdv:Value)(A:zAm)(outer:List Env)(s:zAH)(H:Hp)(E:XK)(k:Nat)(hr:jG k (A.deeper (zDp q sc s.heap.objs.size f cdv))):Ct where
 ι:=Unit
 X:=λ _=>aAk (CX1 P w) P w K mg base N q sc f cdv A outer s H E
 prog:=P
 w:=w
 K:=K
 mg:=mg
 base:=base
 k:=k
 G:=⟨H,E,bR mg⟩
 cx:=λ _=>⟨rfl,rfl,rfl,rfl,rfl⟩
 calm:=λ _=>rfl
 room:=λ _=>hr
 own:=λ _=>jF.own jF.of
 pass:=λ _=>jF.pass jF.of
 dOk:=true
 dcx:=λ _ _=>jF.of
def ak(n:Nat)(ds:List D):En:=ds.map .sh++zAI (n-ds.length) .no
def dF(n:Nat)(f:En->Ou):List D->Rs D:=λ ds=>match f (ak n ds)with
 | .nx _=>.ok .non
 | .rt d=>.ok d
 | .ex c=>.ex c
 |_=>.st
theorem RR.start{K:zAA}(r:Rps K (λ _=>True) H vs ds):RR K ⟨H,E,cl⟩ [] (ak N.length ds) (start N vs) H (λ _=>(0,0)):=by
 have hl:=r.length;refine⟨by unfold ak L2.start;simp[hl],λ i s e=>?_,aU.refl H,λ p hp=>absurd rfl hp,λ q hq=>by cases hq⟩;unfold ak at e;by_cases hi:i<ds.length
 .rw[zBj (by simpa using hi),zAK]at e
  cases ed:ds[i]? with
  |none=>rw[ed]at e;cases e
  |some d=>
   rw[ed]at e;cases e;obtain⟨x,ex,rx⟩:=r.getD ed;refine .inr ⟨x,?_,rx.wk λ _ _ _ _=>zAc _⟩;unfold L2.start;rw[zBj (by simpa[hl]using hi),zAK,ex];rfl
 .rw[zBe (by simpa using hi),zBp]at e
  split at e
  .cases e;exact .inl rfl
  .cases e
section
variable{P:zA2}{w:World}{K:zAA}{mg:Str->Option Value}{base:Heap}
def aJ9{x q:Str}{st:Stmt}(F:L2.Fun K x q st fn fd)(S:aW N ps (aP st))
  (hb:∀cdv A outer s H E hr,SSs (ctD P w K mg base N q (aP st) fn cdv A outer s H E k hr) (gK st) f):
  bz P w K mg base (CX1 P w) (k+1) fn fd ps (spF K (bR mg) ps.length (dF N.length f)):=by
 refine F.okX S (λ vs H Q E ⟨ds,hl,_⟩=>hl) λ cdv A outer s H vs Q E hr ⟨ds,hl,r,W⟩=>?_
 obtain⟨t,h1,h2⟩:=hb cdv A outer s H E hr;refine⟨t,h1 (),h2 [] _ H _ _ _ (RR.start r) ?_⟩;unfold dF at W;cases e:f (ak N.length ds)with
 |nx Y=>rw[e]at W;exact λ Z' H' lab R=>W .non H' R.old .non
 |rt d=>rw[e]at W;exact λ v H' s r=>W v H' s r
 |ex c=>rw[e]at W;exact W
 |bk Y=>rw[e]at W;exact zAJ W
 |ct Y=>rw[e]at W;exact zAJ W
 |st=>rw[e]at W;exact zAJ W
def aHK{st:Stmt}(F:L2.Fun K x q st fn fd)(S:aW N ps (aP st))
  (hb:∀cdv A outer s H E hr,SSs (ctD P w K mg base N q (aP st) fn cdv A outer s H E k hr) (gK st) f)(hn:ps.length=n)(hF:dF N.length f=FF):
  bz P w K mg base (CX1 P w) (k+1) fn fd ps (spF K (bR mg) n FF):=by
 subst hn hF;exact aJ9 F S hb
end
def OpR.or(h:OpR X f r)(h':OpR X f r'):OpR X f (λ x y H Q=>r x y H Q\/r' x y H Q):=by
 intro pins s Z H x y v u Q I rx ry q;rcases q with q|q
 .exact h pins s Z H x y v u Q I rx ry q
 .exact h' pins s Z H x y v u Q I rx ry q
def OpS.or{K:zAA}(h:OpS K r fd)(h':OpS K r' fd'):OpS K (λ x y H Q=>r x y H Q\/r' x y H Q) (λ d e=>match fd d e with
  | .ok z=>.ok z
  |_=>fd' d e):=by
 intro A x y d e H Q z rx ry ez q;dsimp only at ez;cases hd:fd d e with
 |ok w=>rw[hd]at ez;cases ez;exact .inl (h A x y d e H Q _ rx ry hd q)
 |ex c=>rw[hd]at ez;exact .inr (h' A x y d e H Q z rx ry ez q)
 |st=>rw[hd]at ez;exact .inr (h' A x y d e H Q z rx ry ez q)
section
variable{K:zAA}
def i2(p:Int->Int->Bool)(g:Int->Int->D):D->D->Rs D
 | .int i,.int j=>if p i j=true then .ok (g i j)else .st
 |_,_=>.st
def aB1{g:Int->Int->Int}(hp:∀i j,p i j=true->c i j):OpS K (rI c λ i j=>.int (g i j)) (i2 p λ i j=>.int (g i j)):=by
 intro A x y d e H Q z rx ry ez q;unfold i2 at ez;split at ez
 .rename_i i j
  split at ez
  .rename_i h
   cases ez;obtain rfl:=rx.int_inv;obtain rfl:=ry.int_inv;exact⟨i,j,rfl,rfl,hp i j h,q _ H (aU.refl H) (.int _)⟩
  .cases ez
 .cases ez
def aGb{g:Int->Int->Int}:OpS K (rI0 λ i j=>.int (g i j)) (i2 (λ _ _=>true) λ i j=>.int (g i j)):=by
 intro A x y d e H Q z rx ry ez q;unfold i2 at ez;split at ez
 .rename_i i j
  cases ez;obtain rfl:=rx.int_inv;obtain rfl:=ry.int_inv;exact⟨i,j,rfl,rfl,q _ H (aU.refl H) (.int _)⟩
 .cases ez
def aB2{g:Int->Int->Bool}:OpS K (rI0 λ i j=>.bl (g i j)) (i2 (λ _ _=>true) λ i j=>.bl (g i j)):=by
 intro A x y d e H Q z rx ry ez q;unfold i2 at ez;split at ez
 .rename_i i j
  cases ez;obtain rfl:=rx.int_inv;obtain rfl:=ry.int_inv;exact⟨i,j,rfl,rfl,q _ H (aU.refl H) (.bl _)⟩
 .cases ez
def zH{g:Int->Int->Int}:∀x y z,i2 p (λ i j=>.int (g i j)) x y= .ok z->imm z=true:=by
 intro x y z e;unfold i2 at e;split at e
 .split at e
  .cases e;rfl
  .cases e
 .cases e
def aEy{g:Int->Int->Bool}:∀x y z,i2 p (λ i j=>.bl (g i j)) x y= .ok z->imm z=true:=by
 intro x y z e;unfold i2 at e;split at e
 .split at e
  .cases e;rfl
  .cases e
 .cases e
def bN:D->D->Rs D
 | .int i,.int j=>.ok (.int (i+j))
 | .lst l,.lst m=>if l.length+m.length<=zAP then .ok (.lst (l++m))else .st
 | .tup l,.tup m=>if l.length+m.length<=zAP then .ok (.tup (l++m))else .st
 |_,_=>.st
def aHk(K:zAA):R2:=λ x y H Q=>∃a b xs ys,x= .ref a/\y= .ref b/\SqT K H a xs/\SqT K H b ys/\xs.length+ys.length<=zAP/\
 (xs=[]->Q (.ref b) H)/\(ys=[]->Q (.ref a) H)/\New H (.tup (xs++ys)) Q
def aGf:OpR X (zBs .Add) (aHk X.K):=by
 intro pins s Z H x y v u Q I rx ry h;obtain⟨a,b,xs,ys,rfl,rfl,ha,hb,hz,q0,q1,q2⟩:=h;by_cases hx:xs=[]
 .subst hx
  cases rx;cases ry;obtain⟨its,r1,p1,_⟩:=I.tuple ha;obtain⟨its2,r2,p2,_⟩:=I.tuple hb;cases r1;exact HT.aF0 p1 p2 ⟨.ref b,H,I,rfl,q0 rfl⟩
 .exact aGg pins s Z H _ _ v u Q I rx ry ⟨a,b,xs,ys,rfl,rfl,ha,hb,hx,hz,q1,λ _ p hp=>q2.at hp⟩
def aEE(K:zAA):R2:=λ x y H Q=>rI0 (λ i j=>.int (i+j)) x y H Q\/(aHl x y H Q\/aHk K x y H Q)
def aGi:OpR X (zBs .Add) (aEE X.K):=OpR.or aJC (OpR.or aGh aGf)
def aIm:OpS K (aEE K) bN:=by
 intro A x y d e H Q z rx ry ez q;unfold bN at ez;split at ez
 .cases ez;obtain rfl:=rx.int_inv;obtain rfl:=ry.int_inv;exact .inl ⟨_,_,rfl,rfl,q _ H (aU.refl H) (.int _)⟩
 .split at ez
  .rename_i hl
   cases ez;obtain⟨_,_,rfl,h1,m1,r1⟩:=rx.lst_inv;obtain⟨_,_,rfl,h2,m2,r2⟩:=ry.lst_inv;refine .inr (.inl ⟨_,_,_,_,rfl,rfl,h1,h2,by rw[r1.length,r2.length];exact hl,λ p H' s hp hn=>q _ H' s (.lst hp (.inl hn) ?_)⟩);exact(((r1.wk λ _ _ _ z=>z.1).append (r2.wk λ _ _ _ z=>z.1)).wk (A':=λ q=>(H q=none\/A q)/\q≠p) λ q o e z=>⟨.inr z,λ e'=>by subst e';rw[hn]at e;cases e⟩).up s
  .cases ez
 .split at ez
  .rename_i hl
   cases ez;obtain⟨_,_,rfl,h1,r1⟩:=rx.tup_inv;obtain⟨_,_,rfl,h2,r2⟩:=ry.tup_inv;have r1':=r1.wk (A':=λ p=>H p=none\/A p) λ _ _ _ z=>.inr z
   have r2':=r2.wk (A':=λ p=>H p=none\/A p) λ _ _ _ z=>.inr z
   refine .inr (.inr ⟨_,_,_,_,rfl,rfl,h1,h2,by rw[r1.length,r2.length];exact hl,λ e=>?_,λ e=>?_,λ p H' s hp hn=>q _ H' s (.tup (SqT.of hp) ((r1'.append r2').up s))⟩)
   .subst e
    cases r1';exact q _ H (aU.refl H) (.tup h2 r2')
   .subst e
    cases r2';rw[zAg]at q;exact q _ H (aU.refl H) (.tup h1 r1')
  .cases ez
 .cases ez
def gR:D->D->Rs D
 | .int i,.int j=>if (decide (-(2^64)<i)&&decide (i<2^64))||(decide (-(2^64)<j)&&decide (j<2^64))then .ok (.int (i*j))else .st
 | .lst l,.int k=>if decide (-(2^63)<=k)&&decide (k<2^63)&&decide (l.length*k.toNat<=zAP)&&pq l then .ok (.lst (zAI k.toNat l).flatten)else .st
 |_,_=>.st
theorem Rps.rep(r:Rps K A H xs ds):∀k:Nat,Rps K A H (zAI k xs).flatten (zAI k ds).flatten
 |0=>.nil
 |k+1=>by
  rw[zB1,zB1,zCO,zCO];exact r.append (Rps.rep r k)
def aHf:R2:=λ x y H Q=>rI aH3 (λ i j=>.int (i*j)) x y H Q\/aKI x y H Q
def aGd:OpR X (zBs .Mult) aHf:=OpR.or aIr aIo
def aIl:OpS K aHf gR:=by
 intro A x y d e H Q z rx ry ez q;unfold gR at ez;split at ez
 .split at ez
  .rename_i hc
   cases ez;obtain rfl:=rx.int_inv;obtain rfl:=ry.int_inv;refine .inl ⟨_,_,rfl,rfl,?_,q _ H (aU.refl H) (.int _)⟩;simp only[zEe,zAQ,decide_eq_true_eq]at hc;exact hc
  .cases ez
 .split at ez
  .rename_i hc
   simp only[zAQ,decide_eq_true_eq]at hc;cases ez;obtain⟨_,_,rfl,h1,m1,r1⟩:=rx.lst_inv;obtain rfl:=ry.int_inv;refine .inr ⟨_,_,_,rfl,rfl,h1,hc.1.1.1,hc.1.1.2,by rw[r1.length];exact hc.1.2,λ p hp=>q _ _ (aq hp _) (.lst aY (.inl hp) ?_)⟩;exact((r1.rep _).wk (A':=λ q=>(H q=none\/A q)/\q≠p) λ q o e z=>⟨.inr z.1,λ e'=>by subst e';rw[hp]at e;cases e⟩).up (aq hp _)
  .cases ez
 .cases ez
def intsOf:List D->Option (List Int)
 |[]=>some []
 | .int i::r=>(intsOf r).map (i::·)
 |_=>none
theorem cM:∀{l:List D} {ns:List Int},intsOf l=some ns->l=ns.map .int
 |[],ns,h=>by cases h;rfl
 | .int i::r,ns,h=>by
  simp only[intsOf,zBy]at h;obtain⟨ms,h1,rfl⟩:=h;rw[cM h1];rfl
 | .non::_,_,h=>by cases h
 | .bl _::_,_,h=>by cases h
 | .str _::_,_,h=>by cases h
 | .tup _::_,_,h=>by cases h
 | .lst _::_,_,h=>by cases h
 | .dct _ _::_,_,h=>by cases h
 | .set _::_,_,h=>by cases h
 | .scr _::_,_,h=>by cases h
theorem bw:∀ns:List Int,intsOf (ns.map .int)=some ns
 |[]=>rfl
 |n::ns=>by simp only[zAT,intsOf,bw ns,zCC]
def ltT(p:List Int->List Int->Bool):D->D->Rs D
 | .tup l,.tup m=>match intsOf l,intsOf m with
  |some ns,some ms=>.ok (.bl (p ns ms))
  |_,_=>.st
 |_,_=>.st
def aCI(r:Rp K A H x (.tup l))(e:intsOf l=some ns):∃a,x= .ref a/\SqT K H a (ns.map V.int):=by
 have:=cM e
 subst this;cases r with
 |tup h r=>
  have:=r.ints_of
  subst this;exact⟨_,rfl,h⟩
def aCN(hr:∀x y H Q,(∃a b ns ms,x= .ref a/\y= .ref b/\SqT K H a (ns.map V.int)/\SqT K H b (ms.map V.int)/\Q (.bl (p ns ms)) H)->r x y H Q):OpS K r (ltT p):=by
 intro A x y d e H Q z rx ry ez q;unfold ltT at ez;split at ez
 .split at ez
  .rename_i ns ms e1 e2
   cases ez;obtain⟨a,rfl,ha⟩:=aCI rx e1;obtain⟨b,rfl,hb⟩:=aCI ry e2;exact hr _ _ _ _ ⟨a,b,ns,ms,rfl,rfl,ha,hb,q _ H (aU.refl H) (.bl _)⟩
  .cases ez
 .cases ez
def ltD:D->D->Rs D:=λ d e=>match i2 (λ _ _=>true) (λ i j=>.bl (decide (i<j))) d e with
 | .ok z=>.ok z
 |_=>ltT HT.lexLt d e
def leD:D->D->Rs D:=λ d e=>match i2 (λ _ _=>true) (λ i j=>.bl (decide (i<=j))) d e with
 | .ok z=>.ok z
 |_=>ltT HT.lexLe d e
def geD:D->D->Rs D:=i2 (λ _ _=>true) (λ i j=>.bl (decide (j<=i)))
def aIt(hu:X.A.units<cLine):OpR X (zAr .Lt) (λ x y H Q=>rI0 (λ i j=>.bl (decide (i<j))) x y H Q\/aGM X.K x y H Q):=OpR.or aKT (aIu hu)
def aIv(hu:X.A.units<cLine):OpR X (zAr .LtE) (λ x y H Q=>rI0 (λ i j=>.bl (decide (i<=j))) x y H Q\/aGN X.K x y H Q):=OpR.or aKU (aIw hu)
def aEY:OpS K (λ x y H Q=>rI0 (λ i j=>.bl (decide (i<j))) x y H Q\/aGM K x y H Q) ltD:=OpS.or aB2 (aCN λ _ _ _ _ h=>h)
def aEZ:OpS K (λ x y H Q=>rI0 (λ i j=>.bl (decide (i<=j))) x y H Q\/aGN K x y H Q) leD:=OpS.or aB2 (aCN λ _ _ _ _ h=>h)
def aC1(e:ltT p x y= .ok z):imm z=true:=by
 unfold ltT at e;split at e
 .split at e
  .cases e;rfl
  .cases e
 .cases e
def aEw:∀x y z,ltD x y= .ok z->imm z=true:=by
 intro x y z e;unfold ltD at e;split at e
 .rename_i w hw;cases e;exact aEy _ _ _ hw
 .exact aC1 e
def aJ3:∀x y z,leD x y= .ok z->imm z=true:=by
 intro x y z e;unfold leD at e;split at e
 .rename_i w hw;cases e;exact aEy _ _ _ hw
 .exact aC1 e
def isD(neg:Bool):D->D->Rs D
 | .bl a,.bl b=>if neg then .st else .ok (.bl (a==b))
 |d,.non=>match d with
  | .non=>.ok (.bl (!neg))
  |_=>.ok (.bl neg)
 |_,_=>.st
def aIx:OpR X (zAr .Is) (λ x y H Q=>(∃b c,x= .bl b/\y= .bl c/\Q (.bl (b==c)) H)\/(y= .non/\Q (.bl (decide (x= .non))) H)):=OpR.or aE5 aIy
def aIW(r:Rp K A H x d)(h:d≠.non):x≠.non:=by
 cases r with
 |non=>exact absurd rfl h
 |_=>exact λ e=>by cases e
def aKS:OpS K (λ x y H Q=>(∃b c,x= .bl b/\y= .bl c/\Q (.bl (b==c)) H)\/(y= .non/\Q (.bl (decide (x= .non))) H)) (isD false):=by
 intro A x y d e H Q z rx ry ez q;unfold isD at ez;split at ez
 .cases ez;cases rx;cases ry;exact .inl ⟨_,_,rfl,rfl,q _ H (aU.refl H) (.bl _)⟩
 .cases ry
  split at ez
  .cases ez;cases rx;exact .inr ⟨rfl,by rw[decide_eq_true rfl];exact q _ H (aU.refl H) (.bl _)⟩
  .rename_i hn
   cases ez;exact .inr ⟨rfl,by rw[decide_eq_false (aIW rx hn)];exact q _ H (aU.refl H) (.bl _)⟩
 .cases ez
def aAV:D->Rs D
 | .int i=>.ok (.int (-i))
 |_=>.st
def aHz:UnS K (rU λ i=>.int (-i)) aAV:=by
 intro A x d H Q z rx ez q;cases rx with
 |int i=>cases ez;exact⟨i,rfl,q _ H (aU.refl H) (.int _)⟩
 |_=>cases ez
def aHC:∀x z,aAV x= .ok z->imm z=true:=by
 intro x z e;cases x with
 |int i=>cases e;rfl
 |_=>cases e
def atD(l:List D)(i:Int):Rs D:=match atI l i with
 |some d=>.ok d
 |none=>.st
def ixD:D->D->Rs D
 | .tup l,.int i=>atD l i
 | .lst l,.int i=>atD l i
 | .scr l,.int i=>atD (l.map .int) i
 |_,_=>.st
theorem Rps.at(r:Rps K A H xs ds)(e:atI ds i=some d):∃x,atI xs i=some x/\Rp K A H x d:=by
 unfold atI at e ⊢;rw[r.length];cases h:ixN ds.length i with
 |none=>rw[h]at e;cases e
 |some j=>
  rw[h]at e;obtain⟨x,e1,e2⟩:=r.getD (i:=j) (d:=d) e;exact⟨x,e1,e2⟩
def aKR:OpS K (rIx K) ixD:=by
 intro A x y d e H Q z rx ry ez q;unfold ixD at ez;split at ez
 .unfold atD at ez
  split at ez
  .rename_i w hw
   cases ez;obtain⟨_,_,rfl,h,r⟩:=rx.tup_inv;obtain rfl:=ry.int_inv;obtain⟨v,e1,e2⟩:=r.at hw;exact .inr (.inl ⟨_,_,_,v,rfl,rfl,h,e1,q v H (aU.refl H) (e2.wk λ _ _ _ z=>.inr z)⟩)
  .cases ez
 .unfold atD at ez
  split at ez
  .rename_i w hw
   cases ez;obtain⟨_,_,rfl,h,m,r⟩:=rx.lst_inv;obtain rfl:=ry.int_inv;obtain⟨v,e1,e2⟩:=r.at hw;exact .inl ⟨_,_,_,v,rfl,rfl,SqL.of h,e1,q v H (aU.refl H) (e2.wk λ _ _ _ z=>.inr z.1)⟩
  .cases ez
 .unfold atD at ez
  split at ez
  .rename_i w hw
   cases ez;obtain⟨_,rfl,h⟩:=rx.scr_inv;obtain rfl:=ry.int_inv;obtain⟨v,e1,e2⟩:=(Rps.ints (K:=K) (A:=A) (H:=H)).at hw;exact .inl ⟨_,_,_,v,rfl,rfl,h.sq,e1,q v H (aU.refl H) (e2.wk λ _ _ _ z=>.inr z)⟩
  .cases ez
 .cases ez
def gm:List D->Rs D
 |[.tup l]=>.ok (.int l.length)
 |[.lst l]=>.ok (.int l.length)
 |[.scr l]=>.ok (.int l.length)
 |_=>.st
def aJd:qd K (λ xs H Q=>∃p ys,xs=[.ref p]/\(SqL K H p ys\/SqT K H p ys)/\Q (.int ys.length) H) gm:=by
 intro A xs ds H Q z r ez q;unfold gm at ez;split at ez
 .cases ez
  obtain⟨_,rfl,h0⟩:=r.one_inv;obtain⟨_,_,rfl,h,r⟩:=h0.tup_inv;exact⟨_,_,rfl,.inr h,by rw[r.length];exact q _ H (aU.refl H) (.int _)⟩
 .cases ez
  obtain⟨_,rfl,h0⟩:=r.one_inv;obtain⟨_,_,rfl,h,m,r⟩:=h0.lst_inv;exact⟨_,_,rfl,.inl (SqL.of h),by rw[r.length];exact q _ H (aU.refl H) (.int _)⟩
 .cases ez
  obtain⟨_,rfl,h0⟩:=r.one_inv;obtain⟨_,rfl,h⟩:=h0.scr_inv;exact⟨_,_,rfl,.inl h.sq,by rw[zAD];exact q _ H (aU.refl H) (.int _)⟩
 .cases ez
def aHE:∀x z,gm x= .ok z->imm z=true:=by
 intro x z e;unfold gm at e;split at e<;>first|(cases e;rfl)|cases e
def tyD:D->String
 | .non=>"NoneType"| .bl _=>"bool"| .int _=>"int"| .str _=>"str"| .tup _=>"tuple"| .lst _=>"list"| .dct _ _=>"dict"| .set _=>"set"| .scr _=>"script"| .fn _=>"function"
def lJ(T:String):D->Rs D:=λ d=>if nq (tyD d) T true=true then .ok (.bl true)else if nq (tyD d) T false=true then .ok (.bl false)else .st
def aHg(K:zAA)(T:String):List V->Hp->VK->Prop:=λ xs H Q=>∃x d A b,xs=[x,.ty T]/\Rp K A H x d/\nq (tyD d) T b=true/\Q (.bl b) H
def aDS:dI X (.builtin "isinstance") (aHg X.K T):=by
 intro pins s Z H xs us Q I rv h;obtain⟨x,d,A,b,rfl,rd,ok,q⟩:=h;cases rd with
 |tup h r=>
  obtain⟨u,w',rfl,ru,rw'⟩:=vals2 rv;cases ru;cases rw';obtain⟨its,_,⟨o,h1,h2,_⟩,_⟩:=I.tuple h;exact zAz zFg I.kIn ⟨o,h1,h2⟩ (aBi ok) (λ z=>nomatch z) λ tk=>⟨.bl b,H,I.tok _,rfl,q⟩
 |set h m hS nd=>cases b<;>simp[nq,tyD]at ok
 |scr h=>cases b<;>simp[nq,tyD]at ok
 |fn h=>cases b<;>simp[nq,tyD]at ok
 |non=>exact kI pins s Z H _ us Q I rv ⟨_,T,_,b,rfl,.non,ok,q⟩
 |bl c=>exact kI pins s Z H _ us Q I rv ⟨_,T,_,b,rfl,.bl c,ok,q⟩
 |int c=>exact kI pins s Z H _ us Q I rv ⟨_,T,_,b,rfl,.int c,ok,q⟩
 |str c=>exact kI pins s Z H _ us Q I rv ⟨_,T,_,b,rfl,.str c,ok,q⟩
 |lst h m r=>exact kI pins s Z H _ us Q I rv ⟨_,T,_,b,rfl,.lst h,ok,q⟩
 |dK h m r=>exact kI pins s Z H _ us Q I rv ⟨_,T,_,b,rfl,.dK h,ok,q⟩
 |dT h m r=>
  obtain⟨u,w',rfl,ru,rw'⟩:=vals2 rv;cases ru;cases rw';obtain⟨⟨_,_,_,o,_,_,_,h1,h2,_⟩,_⟩:=(show dD X.prog X.w H s.heap _ (dxO _ _)from I.hok _ _ h.at_);exact zAz zDy I.kIn ⟨o,h1,h2.1⟩ (aBi ok) (λ z=>nomatch z) λ tk=>⟨.bl b,H,I.tok _,rfl,q⟩
end
section
variable{C:Ct}{pos p p2:Pos}{m:Mode}{a:Expr}{fa:En->Rs D}
def j0(ha:SE C m a fa)(hm:C.mg "isinstance"=none)(hmT:C.mg x=none)(hn:x≠"__name__":=by decide)(hd:Nd x:=by decide)(he:∀i,zAU [a,.Name x p2] (C.X i).env=(false,eval a (C.X i).env)::zAU [.Name x p2] (C.X i).env:=by intro _;rfl)(hpl:∀i,(zCF pos (zAU [.Name x p2] (C.X i).env)).any (·.1)=false:=by intro _;rfl)(hg:∀i,Gl (C.X i) "isinstance":=by intro _;rfl)(hv:zAo "isinstance"=some (.builtin "isinstance"):=by decide+kernel)(hgT:∀i,Gl (C.X i) x:=by intro _;rfl)(hvT:zAo x=some (.type T):=by decide+kernel):
  SE C (some []) (.Call (.Name "isinstance" p) [a,.Name x p2] [] pos) (op1 (lJ T) fa):=by
 obtain⟨t,h1,h2⟩:=ha;refine⟨tCB (aHg C.K T) (lN t (lN (tC (.ty T)) uN)),λ i=>?_,λ τ Z H Y lab Q R W=>?_⟩
 .rw[<-C.hK i]
  exact jo aDS (hg i) (by rw[(C.cx i).2.2.2.1];exact hm) hv (eE (h1 i) (eE (aG7 (v:=.ty T) (hgT i) (by rw[(C.cx i).2.2.2.1];exact hmT) hvT rfl hn hd) jc) (he i)) (by decide) (by decide) (he i) (hpl i)
 .refine h2 τ Z H Y lab _ R (W.bd.imp λ d _ w x H1 s1 r1=>?_)
  obtain⟨z,ez,w⟩:=w.okD;unfold lJ at ez;split at ez
  .rename_i h;cases ez;exact⟨x,d,_,true,rfl,r1,h,w _ H1 s1 (.bl _)⟩
  .split at ez
   .rename_i h;cases ez;exact⟨x,d,_,false,rfl,r1,h,w _ H1 s1 (.bl _)⟩
   .cases ez
end
def lV:Slot->Slot
 | .ow d=>.sh d
 | .nw d=>.sh d
 | .oz d=>.sh d
 | .o2 l=>.sh (.lst (l.map .lst))
 |s=>s
def shE(Y:En):En:=Y.map lV
def stV(js:List (Option Nat))(Z:L2.St):L2.St:=js.map λ o=>o.bind λ j=>(Z[j]?).join
def stE(js:List (Option Nat))(Y:En):En:=js.map λ o=>match o with
 |none=>.no
 |some j=>(Y[j]?).getD .no
def aGJ{K:zAA}(h:gD K H lab i v s):∃d,(s= .no\/lV s= .sh d)/\(s= .no\/Rp K (λ _=>True) H v d):=by
 cases s with
 |no=>exact⟨.non,.inl rfl,.inl rfl⟩
 |sh d=>exact⟨d,.inr rfl,.inr (Rp.wk (λ _ _ _ _=>trivial) h)⟩
 |nw d=>exact⟨d,.inr rfl,.inr (Rp.wk (λ _ _ _ _=>trivial) h)⟩
 |ow d=>exact⟨d,.inr rfl,.inr (Rp.wk (λ _ _ _ _=>trivial) h.1)⟩
 |oz d=>exact⟨d,.inr rfl,.inr (Rp.wk (λ _ _ _ _=>trivial) (aHp h))⟩
 |o2 l=>exact⟨_,.inr rfl,.inr (Rp.wk (λ _ _ _ _=>trivial) (aE8 h))⟩
theorem RR.shE{K:zAA}(R:RR K G τ Y Z H lab):RR K G τ (shE Y) Z H (λ _=>(0,0)):=by
 refine⟨by unfold VL.shE;rw[zAD];exact R.len,λ i s e=>?_,R.old,λ p hp=>absurd rfl hp,λ q hq=>(R.tm q hq).wk λ _ _ _ _=>zAc _⟩;unfold VL.shE at e;rw[zAK]at e;cases e0:Y[i]? with
 |none=>rw[e0]at e;cases e
 |some s0=>
  rw[e0]at e;cases e;rcases R.sl i s0 e0 with rfl|⟨v,ev,hv⟩
  .exact .inl rfl
  .obtain⟨d,h1,h2⟩:=aGJ hv
   rcases h1 with rfl|h1
   .exact .inl rfl
   .rcases h2 with rfl|h2
    .exact .inl rfl
    .exact .inr ⟨v,ev,by rw[h1];exact h2.wk λ _ _ _ _=>zAc _⟩
def aDd{i:Nat}(e:(stE js Y)[i]? =some s):s= .no\/∃j,js[i]? =some (some j)/\Y[j]? =some s:=by
 unfold stE at e;rw[zAK]at e;cases ej:js[i]? with
 |none=>rw[ej]at e;cases e
 |some o=>
  rw[ej]at e;cases o with
  |none=>cases e;exact .inl rfl
  |some j=>
   cases er:Y[j]? with
   |none=>simp[er]at e;exact .inl e.symm
   |some s'=>simp[er]at e;subst e;exact .inr ⟨j,rfl,er⟩
def RR.block{K:zAA}{τ:List (V×D)}(R:RR K G τ (VL.shE Y) Z H lab)(hz:∀p,(lab p).1<=1)(hl:H l=none):
  RR K G τ (stE js (VL.shE Y)) (stV js Z) H (λ p=>if p=l then(2,0)else(0,0)):=by
 have nl:∀p o,H p=some o->p≠l:=λ p o e z=>by subst z;rw[hl]at e;cases e
 refine⟨by unfold stE stV;rw[zAD,zAD],λ i s e=>?_,R.old,λ p hp=>?_,λ q hq=>(R.tm q hq).wk λ p o e _=>by rw[if_neg (nl p o e)];exact zAc _⟩
 .rcases aDd e with rfl|⟨j,ej,es⟩
  .exact .inl rfl
  .rcases R.sl j s es with rfl|⟨v,ev,hv⟩
   .exact .inl rfl
   .refine .inr ⟨v,?_,?_⟩
    .unfold stV
     rw[zAK,ej];simp[ev]
    .unfold VL.shE at es
     rw[zAK]at es;cases e0:Y[j]? with
     |none=>rw[e0]at es;cases es
     |some s0=>
      rw[e0]at es;cases es;cases s0 with
      |no=>trivial
      |oz d=>exact Rp.wk (λ p o e _=>by show(if p=l then((2,0):Nat×Nat)else(0,0)).1<=1;rw[if_neg (nl p o e)];exact zAc _) hv
      |nw d=>exact Rp.wk (λ p o e _=>by show(if p=l then((2,0):Nat×Nat)else(0,0)).1<=1;rw[if_neg (nl p o e)];exact zAc _) hv
      |sh d=>exact Rp.wk (λ p o e _=>by show(if p=l then((2,0):Nat×Nat)else(0,0)).1<=1;rw[if_neg (nl p o e)];exact zAc _) hv
      |ow d=>exact Rp.wk (λ p o e _=>by show(if p=l then((2,0):Nat×Nat)else(0,0)).1<=1;rw[if_neg (nl p o e)];exact zAc _) hv
      |o2 d=>exact Rp.wk (λ p o e _=>by show(if p=l then((2,0):Nat×Nat)else(0,0)).1<=1;rw[if_neg (nl p o e)];exact zAc _) hv
 .by_cases hp':p=l
  .subst hp';exact R.old.free hl
  .exact absurd (show(if p=l then((2,0):Nat×Nat)else(0,0)).1=0 by rw[if_neg hp']) hp
def aLC(XN N:List Str)(js:List (Option Nat))(ks:List Nat)(sc:Scope):Bool:=(zA3 js.length).all λ i=>match js[i]? with
 |some (some j)=>match N[i]?,XN[j]? with
  |some x,some y=>x==y&&sc.names.lookup x==some .free&& !ks.contains i
  |_,_=>false
 |_=>true
def vo(h1:sc.kind= .function)(h2:(sc.names.all λ y=>y.2 != .cell||sc.names.lookup y.1==some .cell)=true)(h3:(sc.names.all λ y=>y.2 != .local||sc.names.lookup y.1==some .local)=true)
  (h4:(sc.names.all λ y=>y.2 != .free||(X.env.kindOf y.1==some .cell||X.env.kindOf y.1==some .free))=true)(h5:js.length=N.length)(h6:aLC X.N N js ks sc=true):cU X sc N (stV js) ks:=by
 refine⟨h1,λ y hy e=>?_,λ y hy e=>?_,λ y hy e=>?_,λ Z=>by unfold stV;rw[zAD];exact h5,λ Z i x v e1 e2=>?_⟩
 .have:=zBJ.mp h2 y hy
  rw[e]at this;simpa using this
 .have:=zBJ.mp h3 y hy
  rw[e]at this;simpa using this
 .have:=zBJ.mp h4 y hy
  rw[e]at this;simpa using this
 .unfold stV at e2
  rw[zAK]at e2;cases ej:js[i]? with
  |none=>rw[ej]at e2;cases e2
  |some o=>
   rw[ej]at e2;cases o with
   |none=>cases e2
   |some j=>
    have hi:i<js.length:=(zAL.mp ej).1
    have:=zBJ.mp h6 i (zBk.mpr hi)
    rw[ej,e1]at this;dsimp only at this;cases ey:X.N[j]? with
    |none=>rw[ey]at this;cases this
    |some y=>
     rw[ey]at this;simp only[zAQ,beq_iff_eq,zCd]at this;obtain⟨⟨h,h'⟩,h''⟩:=this;subst h;refine⟨h',λ hk=>?_,j,ey,?_⟩
     .rw[List.contains_iff_mem.mpr hk]at h'';cases h''
     .simp only[zCC,zCU,Option.some.injEq]at e2
      cases es:Z[j]? with
      |none=>rw[es]at e2;cases e2
      |some w=>rw[es]at e2;simp at e2;subst e2;rfl
abbrev Ct.blk(C:Ct)(sc:Scope)(N:List Str):Ct where
 ι:=C.ι×Addr×List Addr×zAH×Hp
 X:=λ i=>(C.X i.1).block sc i.2.1 N i.2.2.1 i.2.2.2.1 i.2.2.2.2
 prog:=C.prog
 w:=C.w
 K:=C.K
 mg:=C.mg
 base:=C.base
 k:=C.k
 G:={C.G with E:=λ _ _ _=>False}
 cx:=λ i=>C.cx i.1
 calm:=λ i=>C.calm i.1
 room:=λ i=>C.room i.1
 own:=λ i=>PassesOwn.never
 pass:=λ i pins Z H s e s' I h=>by obtain⟨_,_,_,_,_,_,_,_,_,_,_,_,_,hE⟩:=h;exact hE
 dOk:=false
 dcx:=λ h=>absurd h zAY
def lcL(Y:En)(fg:D->En->Rs En)(ft:En->Rs Bool)(fe:En->Rs D):List D->Rs (List D)
 |[]=>.ok []
 |d::ds=>(fg d Y).bd λ Y1=>(ft Y1).bd λ k=>if k=true then(fe Y1).bd λ y=>(lcL Y fg ft fe ds).bd λ ys=>.ok (y::ys)else lcL Y fg ft fe ds
def lcD(fi:En->Rs (List D))(js:List (Option Nat))(fg:D->En->Rs En)(ft:En->Rs Bool)(fe:En->Rs D):En->Rs D:=λ Y=>(fi (shE Y)).bd λ ds=>
 if ds.length<zAP then(match lcL (stE js (shE Y)) fg ft fe ds with
  | .ok l=>.ok (.lst l)
  |_=>.st)else .st
def aAu(C:Ct)(ifs:List Expr)(f:En->Rs Bool):Prop:=∃t,(∀i,z8 (C.X i) ifs t)/\w5 C.K C.G t f
def fU:En->Rs Bool:=λ _=>.ok true
def iV:aAu C [] fU:=⟨_,λ _=>aIb,λ τ Z H Y lab Q R W=>W H (aU.refl H)⟩
def uV(h:ST C c f):aAu C [c] f:=let⟨t,h1,h2⟩:=h;⟨t,λ i=>aIa (h1 i),h2⟩
def vD(h:lcL Y fg ft fe (d::ds)= .ok l):
  ∃Y1 k,fg d Y= .ok Y1/\ft Y1= .ok k/\((k=true/\∃y ys,fe Y1= .ok y/\lcL Y fg ft fe ds= .ok ys/\l=y::ys)\/(k=false/\lcL Y fg ft fe ds= .ok l)):=by
 unfold lcL at h;obtain⟨Y1,e1,h⟩:=bc h;obtain⟨k,e2,h⟩:=bc h;refine⟨Y1,k,e1,e2,?_⟩;cases k with
 |true=>
  rw[if_pos rfl]at h;obtain⟨y,e3,h⟩:=bc h;obtain⟨ys,e4,h⟩:=bc h;cases h;exact .inl ⟨rfl,y,ys,e3,e4,rfl⟩
 |false=>
  rw[if_neg zAY]at h;exact .inr ⟨rfl,h⟩
def RR.but_blk{K:zAA}{τ:List (V×D)}(R:RR K G τ (stE js (VL.shE Y)) Z H (λ p=>if p=l then(2,0)else(0,0)))(B:iC l H H')(hl:H l=some o)(ho:iu o=true)(h0:G.H0 l=none):
  RR K G τ (stE js (VL.shE Y)) Z H' (λ p=>if p=l then(2,0)else(0,0)):=by
 have lab1l:¬((λ p=>if p=l then((2,0):Nat×Nat)else(0,0)) l).1<=1:=by simp
 refine⟨R.len,λ j s e=>?_,λ b o hb=>?_,R.new,λ q hq=>(R.tm q hq).but B hl ho lab1l⟩
 .rcases R.sl j s e with z|⟨u,e1,e2⟩
  .exact .inl z
  .refine .inr ⟨u,e1,?_⟩
   rcases aDd e with rfl|⟨jx,ej,es⟩
   .trivial
   .unfold VL.shE at es
    rw[zAK]at es;cases e0:Y[jx]? with
    |none=>rw[e0]at es;cases es
    |some s0=>rw[e0]at es;cases es;cases s0<;>first|trivial|exact Rp.but B hl ho lab1l e2
 .exact B b o (λ z=>by subst z;rw[h0]at hb;cases hb) (R.old b o hb)
def RR.blk0{K:zAA}(R:RR K G τ (VL.shE Y) Z H lab)(hG:G'.H0=G.H0):RR K G' τ (VL.shE Y) Z H (λ _=>(0,0)):=by
 refine⟨R.len,λ i s e=>?_,by rw[hG];exact R.old,λ p hp=>absurd rfl hp,λ q hq=>(R.tm q hq).wk λ _ _ _ _=>zAc _⟩;rcases R.sl i s e with rfl|⟨v,ev,hv⟩
 .exact .inl rfl
 .unfold VL.shE at e
  rw[zAK]at e;cases e0:Y[i]? with
  |none=>rw[e0]at e;cases e
  |some s0=>rw[e0]at e;cases e;cases s0<;>first|exact .inl rfl|exact .inr ⟨v,ev,Rp.wk (λ _ _ _ _=>zAc _) hv⟩
section
variable{K:zAA}{G:Gx}{wi:TI}{fi:En->Rs (List D)}{js:List (Option Nat)}{g:TG}{fg:D->En->Rs En}{tt:TT}{ft:En->Rs Bool}{te:TE}{fe:En->Rs D}
def aDj(hi:aBu K G wi fi)(hg:aBv K {G with E:=λ _ _ _=>False} g fg)(ht:w5 K {G with E:=λ _ _ _=>False} tt ft)(he:gY K {G with E:=λ _ _ _=>False} (some []) te fe):
  gY K G (some []) (tLC wi (stV js) g tt te) (lcD fi js fg ft fe):=by
 intro τ Z H Y lab Q R W;refine hi τ Z H _ _ _ R.shE (W.bd.imp λ ds _ w J H1 lab1 τ1 s1 _ R1 jl=>?_);intro l hl;obtain⟨hlen,out,hout,w⟩:ds.length<zAP/\∃out,lcL (stE js (VL.shE Y)) fg ft fe ds= .ok out/\QE K (some []) lab H Q (.lst out):=by
  by_cases hlen:ds.length<zAP
  .rw[if_pos hlen]at w
   cases hout:lcL (stE js (VL.shE Y)) fg ft fe ds with
   |ok out=>rw[hout]at w;exact⟨hlen,out,rfl,w⟩
   |ex c=>rw[hout]at w;exact zAJ w
   |st=>rw[hout]at w;exact zAJ w
  .rw[if_neg hlen]at w
   exact zAJ w
 have R0:RR K {G with E:=λ _ _ _=>False} (τ1++τ) (VL.shE Y) Z H1 (λ _=>(0,0)):=R1.blk0 rfl;have RB:=R0.block (js:=js) (λ _=>zAc _) hl;have hHl:H l=none:=s1.free hl;have lab1l:¬((λ p=>if p=l then((2,0):Nat×Nat)else(0,0)) l).1<=1:=by simp
 refine⟨λ i n acc H2=>∃pre,n=ds.length-i/\i<=ds.length/\H2 l=some (.lst acc)/\RR K {G with E:=λ _ _ _=>False} (τ1++τ) (stE js (VL.shE Y)) (stV js Z) H2 (λ p=>if p=l then(2,0)else(0,0))/\aU H H2/\acc.length<=i/\
  Rps K (λ p=>H p=none/\p≠l) H2 acc pre/\∃post,lcL (stE js (VL.shE Y)) fg ft fe (ds.drop i)= .ok post/\out=pre++post,⟨ds.length,[],by lia,by lia,aY,RB.up (aq hl _),s1.trans (aq hl _),zAO _,.nil,out,hout,rfl⟩,?_⟩
 rintro i n acc H2 ⟨pre,rfl,hi,hH2,R2,s2,hacc,rpre,post,hpost,eout⟩;refine⟨hH2,by lia,?_⟩;have jj:=jl _ H2 λ q hq=>R2.tm q (zA1 _ hq)
 by_cases hlt:i<ds.length
 .obtain⟨go,yl⟩:=(jj i).2 hlt
  refine .inr ⟨go,λ x H3 hy=>?_⟩;obtain⟨s3,d,ed,rx⟩:=yl x H3 hy;replace R2:=R2.up s3;replace hH2:=s3 _ _ hH2;replace s2:=s2.trans s3;replace rpre:=rpre.up s3;have ed2:ds.drop i=d::ds.drop (i+1):=by
   rw[zB3 hlt]
   have:=zAB hlt
   rw[ed]at this;cases this;rfl
  rw[ed2]at hpost;obtain⟨Y1,k,e1,e2,e3⟩:=vD hpost;refine hg (τ1++τ) x d _ H3 _ _ _ Y1 R2 rx e1 λ Z4 R4=>?_
  refine ht (τ1++τ) Z4 H3 Y1 _ _ R4 ?_;rw[e2];intro H5 s5;rcases e3 with ⟨rfl,y,ys,e3,e4,rfl⟩|⟨rfl,e4⟩
  .rw[if_pos rfl]
   refine he (τ1++τ) Z4 H5 Y1 _ _ (R4.up s5) ?_;rw[e3];intro v H6 s6 r6;have hl6:H6 l=some (.lst acc):=s6 _ _ (s5 _ _ hH2);have B:iC l H6 (upd H6 l (.lst (acc++[v]))):=λ b o ne hb=>by rw[aj ne];exact hb
   refine⟨hl6,ds.length-(i+1),by lia,pre++[y],rfl,hlt,aY,?_,?_,by rw[zAb];simp;lia,?_,ys,e4,by rw[eout];simp⟩
   .exact(R2.up (s5.trans s6)).but_blk B hl6 rfl (R1.old.free hl)
   .exact λ b o hb=>B b o (λ z=>by subst z;rw[hHl]at hb;cases hb) (((s2.trans s5).trans s6) b o hb)
   .refine((rpre.up (s5.trans s6)).append (.cons (r6.wk λ p o _ z=>?_) .nil)).but B hl6 rfl λ z=>z.2 rfl
    rcases z with z|z
    .exact⟨(s2.trans s5).free z,λ e=>by subst e;rw[s5 _ _ hH2]at z;cases z⟩
    .cases z
  .rw[if_neg zAY]
   exact⟨ds.length-(i+1),by lia,pre,rfl,hlt,s5 _ _ hH2,R2.up s5,s2.trans s5,by lia,rpre.up s5,post,e4,eout⟩
 .have ei:i=ds.length:=by lia
  subst ei;rw[zC0]at hpost;cases hpost;rw[zAg]at eout;subst eout;exact .inl ⟨(jj _).1 (zAO _),w _ H2 s2 (.lst hH2 (.inl hHl) (rpre.wk λ p o _ z=>⟨.inl z.1,z.2⟩))⟩
end
section
variable{C:Ct}{pos:Pos}{elt tg iter:Expr}{ifs:List Expr}{sc:Scope}{N:List Str}{js:List (Option Nat)}{ks:List Nat}{fi:En->Rs (List D)}{fg:D->En->Rs En}{ft:En->Rs Bool}{fe:En->Rs D}
def bG{C:Ct}(nd:N.Nodup:=by decide+kernel)(hk:i∈ks:=by decide)(hN:∀j,((C.blk sc N).X j).N[i]? =some x:=by intro _;rfl)(hx:∀j,Loc ((C.blk sc N).X j).env.scope x:=by intro _;first|exact zBu rfl|exact zB2 rfl)
  (hf:∀j,((C.blk sc N).X j).fn x=true\/((C.blk sc N).X j).env.scope.names.lookup x=some .local:=by intro _;first|exact .inl rfl|exact .inr rfl):SG (C.blk sc N) (.Name x pos) ks (gnm i):=
 bf hN hx hf (λ _=>nd) hk
def pO(hi:SI C tg iter fi)(hg:SG (C.blk sc N) tg ks fg)(ht:aAu (C.blk sc N) ifs ft)(he:SE (C.blk sc N) (some []) elt fe)(hs:∀i x,zAu iter (C.X i).env x=pure x:=by intro _ _;rfl)(hB:∀i,cU (C.X i) sc N (stV js) ks:=by intro _;exact vo rfl rfl rfl rfl rfl rfl):SE C (some []) (.ListComp elt [⟨tg,iter,ifs,0⟩] sc pos) (lcD fi js fg ft fe):=by
 obtain⟨wi,i1,i2⟩:=hi;obtain⟨g,g1,g2,g3,g4⟩:=hg;obtain⟨tt,t1,t2⟩:=ht;obtain⟨te,e1,e2⟩:=he;exact⟨_,λ i=>aKP (hB i) (C.calm i) (i1 i) (λ c fp z0 zS=>g1 (i,c,fp,z0,zS)) g3 (λ c fp z0 zS=>t1 (i,c,fp,z0,zS)) (λ c fp z0 zS=>e1 (i,c,fp,z0,zS)) (hs i),aDj i2 g2 t2 e2⟩
def aHb(hi:SI C tg iter fi)(hg:SG (C.blk sc N) tg ks fg)(ht:aAu (C.blk sc N) ifs ft)(he:SE (C.blk sc N) (some []) elt fe)(hN:∀j,(C.X j).N[i]? =some x:=by intro _;rfl)(hx:∀j,Loc (C.X j).env.scope x:=by intro _;first|exact zBu rfl|exact zB2 rfl)(hsw:∀j,zCW (.ListComp elt [⟨tg,iter,ifs,0⟩] sc pos) (some (.Name x pos')) spos.line (C.X j).env=pure true:=by intro _;rfl)(hs:∀i x,zAu iter (C.X i).env x=pure x:=by intro _ _;rfl)(hf:∀j,(C.X j).fn x=true\/(C.X j).env.scope.names.lookup x=some .local:=by intro _;first|exact .inl rfl|exact .inr rfl)(nd:∀j,(C.X j).N.Nodup:=by intro _;assumption)(hB:∀i,cU (C.X i) sc N (stV js) ks:=by intro _;exact vo rfl rfl rfl rfl rfl rfl):
  SV C i (.Assign [.Name x pos'] (.ListComp elt [⟨tg,iter,ifs,0⟩] sc pos) spos) (some []) (lcD fi js fg ft fe):=by
 obtain⟨wi,i1,i2⟩:=hi;obtain⟨g,g1,g2,g3,g4⟩:=hg;obtain⟨tt,t1,t2⟩:=ht;obtain⟨te,e1,e2⟩:=he;exact⟨_,λ j=>aAL (nd j) (hN j) (hx j) (hB j) (C.calm j) (i1 j) (λ c fp z0 zS=>g1 (j,c,fp,z0,zS)) g3 (λ c fp z0 zS=>t1 (j,c,fp,z0,zS)) (λ c fp z0 zS=>e1 (j,c,fp,z0,zS)) (hsw j) (hs j) (hf j),aDj i2 g2 t2 e2⟩
end
def RR.mut{K:zAA}(R:RR K G τ Y Z H lab)(ev:Z[i]? =some (some v))(hl:H l=some o)(ho:iu o=true)(hlab:(lab l).1=i+2)
  (B:iC l H H')(h':gD K H' lab i v s'):RR K G τ (Y.set i s') Z H' lab:=by
 refine⟨by rw[zAw];exact R.len,λ j x e=>?_,λ b u hb=>B b u (λ z=>?_) (R.old b u hb),R.new,λ q hq=>(R.tm q hq).but B hl ho λ z=>by lia⟩
 .by_cases hj:i=j
  .subst hj
   have hi:i<Y.length:=by
    have:=(zAL.mp e).1
    rwa [zAw]at this
   rw[zBD hi]at e;cases e;exact .inr ⟨v,ev,h'⟩
  .rw[zBC hj]at e
   rcases R.sl j x e with z|⟨u,e1,e2⟩
   .exact .inl z
   .refine .inr ⟨u,e1,?_⟩
    cases x with
    |no=>trivial
    |sh d=>exact Rp.but B hl ho (λ z=>by lia) e2
    |nw d=>exact Rp.but B hl ho (λ z=>by lia) e2
    |ow d=>exact⟨Rp.but B hl ho (λ z=>by lia) e2.1,e2.2⟩
    |oz d=>
     obtain⟨a,xs,ds,q1,q2,q3,q4,q5⟩:=e2;exact⟨a,xs,ds,q1,q2,B a _ (λ z=>by subst z;exact hj (by lia)) q3,q4,Rps.but B hl ho (λ z=>by lia) q5⟩
    |o2 ll=>
     obtain⟨a,xs,q1,q2,q3,q4,q5⟩:=e2;refine⟨a,xs,q1,B a _ (λ z=>?_) q2,q3,q4,λ jj y ds f1 f2=>(q5 jj y ds f1 f2).but B hl ho λ z=>?_⟩
     .rw[z]at q3;rw[q3]at hlab;exact hj (by simpa using hlab.symm)
     .rw[z]at hlab;exact hj (by simpa using hlab.symm)
 .subst z
  have:=R.new b (by rw[hlab];lia)
  rw[this]at hb;cases hb
section
variable{C:Ct}{pos apos cpos p:Pos}{e a:Expr}{fe fa:En->Rs D}{i:Nat}{x:Str}{m:Mode}
def vp(i:Nat)(fe:En->Rs D):En->Ou:=λ Y=>match Y[i]? with
 |some (.ow (.lst ds))=>(fe Y).bo λ d=>if ds.length<zAP then .nx (Y.set i (.ow (.lst (ds++[d]))))else .st
 |_=>.st
def my(i:Nat)(he:SE C m e fe)(hm:okN m=true:=by rfl)(hN:∀j,(C.X j).N[i]? =some x:=by intro _;rfl)(hv:∀j,Vis (C.X j).env.scope x:=by intro _;first|exact zBu rfl|exact zB2 (zBu rfl)|exact zB2 (zB2 rfl))(hd:Nd x:=by decide)
  (hcd:(x==("__classdict__":Str))=false:=by decide)(hs1:∀j,zAU [e] (C.X j).env=[(false,eval e (C.X j).env)]:=by intro _;rfl)
  (hbase:∀j,zDK (.Name x p) "append" (C.X j).env (eval (.Name x p) (C.X j).env)=eval (.Name x p) (C.X j).env:=by intro _;rfl)
  (hfew:∀j,((zCF cpos (zAU [e] (C.X j).env)).all (λ x=>!x.1)&&(zEK cpos (zCx [] (C.X j).env)).all (λ x=>x.1.isSome)&&decide ([e].length+([]:List zCL).length+(if ([]:List zCL).isEmpty then 0 else 1)<30))=true:=by intro _;rfl)
  (hline:(apos.endLine==cpos.line)=true:=by rfl)
  (hsw:∀j,zCW (.Call (.Attribute (.Name x p) "append" apos) [e] [] cpos) none pos.line (C.X j).env=pure false:=by intro _;rfl):
  SS C (.Expr (.Call (.Attribute (.Name x p) "append" apos) [e] [] cpos) pos) (vp i fe):=by
 obtain⟨t,h1,h2⟩:=he;refine⟨wj (tBM C.K "list" ue (qg i) (lN t uN)),λ j=>nC (by rw[<-C.hK j];exact aAN zBo zD7 zEl ux (gj (hN j) (hv j) hd hcd) (eE (h1 j) jc (hs1 j)) (hbase j) (hfew j) hline (hs1 j) rfl) (hsw j),λ τ Z H Y lab De R W=>?_⟩;unfold vp at W;cases es:Y[i]? with
 |none=>rw[es]at W;exact zAJ W
 |some s=>
  rw[es]at W;split at W
  .rename_i ds hs
   cases hs;rcases R.sl i _ es with z|⟨v,ev,hv'⟩
   .cases z
   .obtain⟨hv1,htop⟩:=hv'
    obtain⟨a0,ea0,la0⟩:=htop rfl;subst ea0;cases hv1 with
    |lst h mm r=>
     rename_i xs;refine⟨.ref a0,ev,.inl ⟨rfl,xs,SqL.of h⟩,h2 τ Z H Y lab _ R (W.bo.imp λ d _ w y H2 s2 r2=>?_)⟩;by_cases hz:ds.length<zAP
     .rw[if_pos hz]at w
      refine⟨a0,xs,y,rfl,rfl,s2 _ _ h,by rw[r.length];exact hz,λ H3 B h3=>?_⟩;obtain⟨R',r'⟩:=R.fresh (P:=λ k=>k=1) rfl (λ k hk=>beq_iff_eq.mp (jP hm k hk)) s2 r2;have la:(bT H 1 lab a0).1=i+2:=by rw[bA h];exact la0
      refine w Z H3 _ (R'.mut ev (s2 _ _ h) rfl la B ⟨.lst h3 (.inr la) ?_,λ _=>⟨a0,rfl,la⟩⟩);have ra:Rps C.K (λ p=>((bT H 1 lab p).1=1\/(bT H 1 lab p).1=i+2)/\p≠a0) H2 (xs++[y]) (ds++[d]):=by
       refine(r.mono s2 λ p o e z=>⟨by rw[bA e];exact z.1,z.2⟩).append (.cons (r'.wk λ p o e z=>⟨.inl z,λ q=>?_⟩) .nil);subst q;rw[la]at z;lia
      exact ra.but B (s2 _ _ h) rfl λ z=>z.2 rfl
     .rw[if_neg hz]at w
      exact zAJ w
  .exact zAJ W
def at2(ll:List (List D)):D->Option (Nat×List D)
 | .int n=>(ixN ll.length n).bind λ j=>(ll[j]?).map λ ds=>(j,ds)
 |_=>none
def eZ(i:Nat)(fa fe:En->Rs D):En->Ou:=λ Y=>match Y[i]? with
 |some (.o2 ll)=>(fa Y).bo λ k=>match at2 ll k with
  |some (j,ds)=>(fe Y).bo λ d=>if ds.length<zAP then .nx (Y.set i (.o2 (ll.set j (ds++[d]))))else .st
  |none=>.st
 |_=>.st
def aF6(h:at2 ll k=some (j,ds)):∃n,k= .int n/\ixN ll.length n=some j/\ll[j]? =some ds:=by
 cases k with
 |int n=>
  simp only[at2,Option.bind_eq_some_iff,zBy]at h;obtain⟨j',h1,ds',h2,h3⟩:=h;cases h3;exact⟨n,rfl,h1,h2⟩
 |_=>cases h
def uQ(i:Nat){p2:Pos}(ha:SE C m a fa)(he:SE C (some []) e fe)(hN:∀j,(C.X j).N[i]? =some x:=by intro _;rfl)(hv:∀j,Vis (C.X j).env.scope x:=by intro _;first|exact zBu rfl|exact zB2 (zBu rfl)|exact zB2 (zB2 rfl))(hd:Nd x:=by decide)
  (hcd:(x==("__classdict__":Str))=false:=by decide)(hs1:∀j,zAU [e] (C.X j).env=[(false,eval e (C.X j).env)]:=by intro _;rfl)(hp:zZ a:=by exact λ _ _=>rfl)
  (hbase:∀j,zDK (.Subscript (.Name x p) a p2) "append" (C.X j).env (eval (.Subscript (.Name x p) a p2) (C.X j).env)=eval (.Subscript (.Name x p) a p2) (C.X j).env:=by intro _;rfl)
  (hfew:∀j,((zCF cpos (zAU [e] (C.X j).env)).all (λ x=>!x.1)&&(zEK cpos (zCx [] (C.X j).env)).all (λ x=>x.1.isSome)&&decide ([e].length+([]:List zCL).length+(if ([]:List zCL).isEmpty then 0 else 1)<30))=true:=by intro _;rfl)
  (hline:(apos.endLine==cpos.line)=true:=by rfl)
  (hsw:∀j,zCW (.Call (.Attribute (.Subscript (.Name x p) a p2) "append" apos) [e] [] cpos) none pos.line (C.X j).env=pure false:=by intro _;rfl):
  SS C (.Expr (.Call (.Attribute (.Subscript (.Name x p) a p2) "append" apos) [e] [] cpos) pos) (eZ i fa fe):=by
 obtain⟨t,h1,h2⟩:=he;obtain⟨ta,a1,a2⟩:=ha;refine⟨wj (tBM C.K "list" ue (tOp (aIZ C.K) (qg i) ta) (lN t uN)),λ j=>nC (by rw[<-C.hK j];exact aAN zBo zD7 zEl ux (aHn aCY (gj (hN j) (hv j) hd hcd) (a1 j) hp) (eE (h1 j) jc (hs1 j)) (hbase j) (hfew j) hline (hs1 j) rfl) (hsw j),λ τ Z H Y lab De R W=>?_⟩;unfold eZ at W;cases es:Y[i]? with
 |none=>rw[es]at W;exact zAJ W
 |some s=>
  rw[es]at W;cases s with
  |o2 ll=>
   dsimp only at W;rcases R.sl i _ es with z|⟨v,ev,top,xs,rfl,ht,hlt,hlen,hin⟩
   .cases z
   .refine⟨.ref top,ev,a2 τ Z H Y lab _ R (W.bo.imp λ k _ w kv H1 s1 r1=>?_)⟩
    cases hk:at2 ll k with
    |none=>rw[hk]at w;exact zAJ w
    |some q=>
     obtain⟨j,ds⟩:=q;rw[hk]at w;dsimp only at w;obtain⟨n,rfl,hj,hds⟩:=aF6 hk;cases r1;have hjx:∃xj,xs[j]? =some xj:=by
      have:j<xs.length:=by rw[hlen];exact(zAL.mp hds).1
      exact⟨_,zAB this⟩
     obtain⟨xj,hxj⟩:=hjx;have hr:=hin j xj ds hxj hds;cases hr with
     |lst hl ml rl=>
      rename_i l ys;refine⟨top,xs,n,.ref l,rfl,rfl,SqL.of (s1 _ _ ht),by unfold atI;rw[hlen,hj];exact hxj,.inl ⟨rfl,ys,SqL.of (s1 _ _ hl)⟩,h2 τ Z H1 Y lab _ (R.up s1) (w.bo.imp λ d _ w y H2 s2 r2=>?_)⟩;by_cases hz:ds.length<zAP
      .rw[if_pos hz]at w
       have s12:=s1.trans s2;refine⟨l,ys,y,rfl,rfl,s12 _ _ hl,by rw[rl.length];exact hz,λ H3 B h3=>?_⟩;have ltop:l≠top:=λ e=>by rw[e,hlt]at ml;cases ml
       let lab':Lab:=λ p=>match H1 p with
        |none=>(i+2,j+1)
        |some _=>lab p
       have lo:∀{p o},H1 p=some o->lab' p=lab p:=λ{p o} e=>by show(match H1 p with|none=>_|some _=>_)=_;rw[e]
       have ln:∀{p},H1 p=none->lab' p=(i+2,j+1):=λ{p} e=>by show(match H1 p with|none=>_|some _=>_)=_;rw[e]
       have R':RR C.K C.G τ Y Z H2 lab':=((R.up s1).relab (λ p o e=>lo e) λ p hp=>by
        cases e:H1 p with
        |none=>exact(R.old.trans s1).free e
        |some o=>rw[lo e]at hp;exact R.new p hp).up s2
       have labl:lab' l=(i+2,j+1):=by rw[lo (s1 _ _ hl)];exact ml
       refine w Z H3 lab' (R'.mut ev (s12 _ _ hl) rfl (by rw[labl]) B ⟨top,xs,rfl,B _ _ (zDH ltop) (s12 _ _ ht),by rw[lo (s1 _ _ ht)];exact hlt,by rw[zAw];exact hlen,λ jj z dz f1 f2=>?_⟩);by_cases hjj:j=jj
       .subst hjj
        rw[hxj]at f1;cases f1;rw[zBD (zAL.mp hds).1]at f2;cases f2;refine .lst h3 labl ?_;have ra:Rps C.K (λ p=>lab' p=(i+2,j+1)/\p≠l) H2 (ys++[y]) (ds++[d]):=by
         refine(rl.mono s12 λ p o e z=>⟨by rw[lo (s1 _ _ e)];exact z.1,z.2⟩).append (.cons (r2.wk λ p o e z=>?_) .nil);rcases z with z|z
         .exact⟨ln z,λ q=>by subst q;rw[s1 _ _ hl]at z;cases z⟩
         .cases z
        exact ra.but B (s12 _ _ hl) rfl λ z=>z.2 rfl
       .rw[zBC hjj]at f2
        refine((hin jj z dz f1 f2).mono s12 (A':=λ p=>lab' p=(i+2,jj+1)) λ p o e q=>by rw[lo (s1 _ _ e)];exact q).but B (s12 _ _ hl) rfl λ q=>?_
        rw[labl]at q;simp only[Prod.mk.injEq]at q;lia
      .rw[if_neg hz]at w
       exact zAJ w
  |_=>exact zAJ W
end
mutual
def eqD:D->D->Bool
 | .non,.non=>true
 | .bl a,.bl b=>a==b
 | .bl a,.int b=>(if a then 1 else 0)==b
 | .int a,.bl b=>a==(if b then 1 else 0)
 | .int a,.int b=>a==b
 | .str a,.str b=>a==b
 | .tup l,.tup m=>nZ l m
 | .lst l,.lst m=>nZ l m
 |_,_=>false
def nZ:List D->List D->Bool
 |[],[]=>true
 |x::xs,y::ys=>eqD x y&&nZ xs ys
 |_,_=>false
end
mutual
def m8:D->Nat
 | .tup l=>fM l+1
 | .lst l=>fM l+1
 |_=>0
def fM:List D->Nat
 |[]=>0
 |d::r=>max (m8 d) (fM r)
end
mutual
def au:D->Bool
 | .tup l=>bL l
 | .lst l=>bL l
 | .dct _ _=>false
 | .set _=>false
 | .scr _=>false
 | .fn _=>false
 |_=>true
def bL:List D->Bool
 |[]=>true
 |d::r=>au d&&bL r
end
mutual
theorem qM:∀d:D,au d=true->eqD d d=true
 | .non,_=>by simp[eqD]
 | .bl b,_=>by simp[eqD]
 | .int i,_=>by simp[eqD]
 | .str x,_=>by simp[eqD]
 | .tup l,h=>by exact rT l (by simpa[au]using h)
 | .lst l,h=>by exact rT l (by simpa[au]using h)
 | .dct _ _,h=>by simp[au]at h
 | .set _,h=>by simp[au]at h
 | .scr _,h=>by simp[au]at h
theorem rT:∀l:List D,bL l=true->nZ l l=true
 |[],_=>by simp[nZ]
 |d::r,h=>by
  simp only[bL,zAQ]at h;simp only[nZ,zAQ];exact⟨qM d h.1,rT r h.2⟩
end
structure kJ(K:zAA)(H:Hp)(s:zAH):Prop where
 tup:∀{a:Addr} {xs:List V},SqT K H a xs->∃its:List Value,Vals xs its/\s.heap.IsTuple a its.toArray
 lst:∀{a:Addr} {xs:List V},H a=some (.lst xs)->∃its:List Value,Vals xs its/\s.heap.IsList a its.toArray
 inj:∀{a:Addr} {xs ys:List V},SqT K H a xs->SqT K H a ys->xs=ys
 ne:∀{a:Addr} {xs ys:List V},SqT K H a xs->H a=some (.lst ys)->False
def Inv.seqOk(I:L2.Inv X pins Z H s):kJ X.K H s where
 tup:=λ h=>let⟨its,r,p,_⟩:=I.tuple h;⟨its,r,p⟩
 lst:=λ h=>let⟨its,r,p,_⟩:=I.list (SqL.of h);⟨its,r,p.isList⟩
 inj:=λ h h'=>I.tuple_inj h h'
 ne:=λ h h'=>by
  obtain⟨its,_,⟨o,e,c,_⟩,_⟩:=I.tuple h;obtain⟨its2,_,⟨o2,n2,e2,c2,_⟩,_⟩:=I.list (SqL.of h');rw[e]at e2;cases e2;rw[c]at c2;injection c2 with c3
  exact absurd c3 (by decide)
section
variable{K:zAA}{H:Hp}{s:zAH}
def ndP:D->Prop
 | .dct _ _=>False
 | .set _=>False
 | .scr _=>False
 | .fn _=>False
 |_=>True
def ndx{d:D}(h:au d=true):ndP d:=by cases d<;>first|exact zDV|(simp[au]at h)
def bK(h:au (.dct a b)=true):False:=by simp[au]at h
def dM(h:au (.set a)=true):False:=by simp[au]at h
def dN(h:au (.scr a)=true):False:=by simp[au]at h
def fK(h:au (.fn a)=true):False:=by simp[au]at h
def iG(h:au (.tup a)=true):bL a=true:=by simpa[au]using h
def iH(h:au (.lst a)=true):bL a=true:=by simpa[au]using h
def jT(h:bL (d::a)=true):au d=true/\bL a=true:=by
 simp only[bL,zAQ]at h;exact h
def aH2(K:zAA)(s:zAH)(H:Hp)(x:V)(d:D):Prop:=kJ K H s->∀(A':Addr->Prop) (e:D),Rp K A' H x e->au d=true->au e=true->d=e
def aAv(K:zAA)(s:zAH)(H:Hp)(xs:List V)(ds:List D):Prop:=kJ K H s->∀(A':Addr->Prop) (es:List D),Rps K A' H xs es->bL ds=true->bL es=true->ds=es
def aGx(ha:SqT K H a xs)(ih:aAv K s H xs ds):aH2 K s H (.ref a) (.tup ds):=λ ok A' e h n1 n2=>by
 cases h with
 |tup hb r'=>
  have e:=ok.inj ha hb;subst e;rw[ih ok _ _ r' (iG n1) (iG n2)]
 |lst hb _ _=>exact(ok.ne ha hb).elim
 |_=>exact zAJ (ndx n2)
def aGy(ha:H a=some (.lst xs))(ih:aAv K s H xs ds):aH2 K s H (.ref a) (.lst ds):=λ ok A' e h n1 n2=>by
 cases h with
 |tup hb r'=>exact(ok.ne hb ha).elim
 |lst hb _ r'=>
  rw[ha]at hb;cases hb;rw[ih ok _ _ r' (iH n1) (iH n2)]
 |_=>exact zAJ (ndx n2)
def aEr(h1:aH2 K s H x d)(h2:aAv K s H xs ds):aAv K s H (x::xs) (d::ds):=λ ok A' es h n1 n2=>by
 cases h with
 |cons k r'=>rw[h1 ok _ _ k (jT n1).1 (jT n2).1,h2 ok _ _ r' (jT n1).2 (jT n2).2]
def Rp.inj(ok:kJ K H s)(r:Rp K A H x d)(h:Rp K A' H x e)(n1:au d=true)(n2:au e=true):d=e:=
 Rp.rec (motive_1:=λ _ H x d _=>aH2 K s H x d) (motive_2:=λ _ H xs ds _=>aAv K s H xs ds)
  (λ _ _ _ h _ _=>by cases h;rfl) (λ _ _ _ _ h _ _=>by cases h;rfl) (λ _ _ _ _ h _ _=>by cases h;rfl) (λ _ _ _ _ h _ _=>by cases h;rfl) (λ ha _ ih=>aGx ha ih) (λ ha _ _ ih=>aGy ha ih)
  (λ _ _ _ _ _ _ _ _ n1 _=>(bK n1).elim) (λ _ _ _ _ _ _ _ _ n1 _=>(bK n1).elim) (λ _ _ _ _ _ _ _ _ n1 _=>(dM n1).elim) (λ _ _ _ _ _ n1 _=>(dN n1).elim) (λ _ _ _ _ _ n1 _=>(fK n1).elim)
  (λ _ _ _ h _ _=>by cases h;rfl) (λ _ _ h1 h2=>aEr h1 h2) r ok A' e h n1 n2
end
theorem aAg:∀(l m:List D),nZ l m=((zA3 (min l.length m.length)).all (λ j=>match l[j]?,m[j]? with|some a,some b=>eqD a b|_,_=>true)&&l.length==m.length)
 |[],[]=>by simp[nZ]
 |[],y::ys=>by simp[nZ]
 |x::xs,[]=>by simp[nZ]
 |x::xs,y::ys=>by
  have ih:=aAg xs ys;simp only[nZ,ih,zAf,Nat.succ_min_succ,List.range_succ_eq_map,zFU,zHZ,zAy,Function.comp_def,zAj,Nat.succ_eq_add_one,Nat.add_one_inj,zFB];congr 1;congr 1;simp
theorem xn:∀{l:List D} {d:D},d∈l->m8 d<=fM l
 |x::r,d,h=>by
  simp only[fM];rcases zAR.mp h with rfl|h
  .exact zHC _ _
  .exact zA5 (xn h) (zGw _ _)
theorem pB:∀{l:List D} {d:D},d∈l->bL l=true->au d=true
 |x::r,d,h,n=>by
  simp only[bL,zAQ]at n;rcases zAR.mp h with rfl|h
  .exact n.1
  .exact pB h n.2
def jA(hn:n=ds.length)(hm:m=es.length):((zA3 (min n m)).all (λ j=>match ds[j]?,es[j]? with|some a,some b=>eqD a b|_,_=>true)&&n==m)=nZ ds es:=by
 subst hn hm;exact(aAg ds es).symm
section
variable{K:zAA}{H:Hp}{s:zAH}
def aFe(K:zAA)(H:Hp)(s:zAH)(n:Nat):Prop:=∀(A1 A2:Addr->Prop) (x y:V) (d e:D) (A:zAm) (u v:Value),Rp K A1 H x d->Rp K A2 H y e->RelV x u->RelV y v->m8 d<=n->au d=true->au e=true->A.units+n<cLine->zDk A s u v (eqD d e)
def aFf(K:zAA)(H:Hp)(s:zAH)(n:Nat):Prop:=∀(A1 A2:Addr->Prop) (xs ys:List V) (ds es:List D) (A:zAm) (us vs:List Value),Rps K A1 H xs ds->Rps K A2 H ys es->Vals xs us->Vals ys vs->fM ds<=n->bL ds=true->bL es=true->A.units+n<cLine->
  ∀(j:Nat) (h1:j<us.toArray.size) (h2:j<vs.toArray.size),zDk A s us.toArray[j] vs.toArray[j] (match ds[j]?,es[j]? with|some a,some b=>eqD a b|_,_=>true)
def vZ(ok:kJ K H s)(n:Nat)(IH:∀k,n=k+1->aFf K H s k):aFe K H s n:=by
 intro A1 A2 x y d e A u v r1 r2 ru rv hd nd ne hu;have hu0:A.units<cLine:=by lia
 cases r1 with
 |tup h1 q1=>
  rename_i a xs ds;cases ru;obtain⟨its,w1,t1⟩:=ok.tup h1;cases r2 with
  |tup h2 q2=>
   rename_i b ys es;cases rv;obtain⟨its2,w2,t2⟩:=ok.tup h2;by_cases hab:a=b
   .subst hab
    have e:=Rp.inj ok (Rp.tup h1 q1) (Rp.tup h2 q2) nd ne;rw[<-e,qM _ nd];exact zEJ _
   .simp only[m8]at hd
    obtain⟨k,rfl⟩:∃k,n=k+1:=⟨n-1,by lia⟩
    have z:=zFX t1 t2 hu0 (IH k rfl _ _ _ _ _ _ _ _ _ q1 q2 w1 w2 (by lia) (iG nd) (iG ne) (by show A.units+1+k<cLine;lia));rw[jA (by rw[zAG,<-w1.length,q1.length]) (by rw[zAG,<-w2.length,q2.length])]at z;simp only[eqD];exact zDl hab z
  |lst h2 mm2 q2=>
   cases rv;obtain⟨its2,w2,t2⟩:=ok.lst h2;simp only[eqD];exact SeqAt.EqAt.tuple_list t1 t2 hu0
  |non=>cases rv;exact SeqAt.EqAt.tuple_none t1 hu0
  |bl b=>cases rv;exact SeqAt.EqAt.tuple_bool b t1 hu0
  |int i=>obtain⟨tk,rfl⟩:=rv;exact SeqAt.EqAt.tuple_int i tk t1 hu0
  |str i=>obtain⟨tk,rfl⟩:=rv;exact SeqAt.EqAt.tuple_str i tk t1 hu0
  |_=>exact zAJ (ndx ne)
 |lst h1 mm1 q1=>
  rename_i a xs ds;cases ru;obtain⟨its,w1,t1⟩:=ok.lst h1;cases r2 with
  |lst h2 mm2 q2=>
   rename_i b ys es;cases rv;obtain⟨its2,w2,t2⟩:=ok.lst h2;by_cases hab:a=b
   .subst hab
    have e:=Rp.inj ok (Rp.lst h1 mm1 q1) (Rp.lst h2 mm2 q2) nd ne;rw[<-e,qM _ nd];exact zEJ _
   .simp only[m8]at hd
    obtain⟨k,rfl⟩:∃k,n=k+1:=⟨n-1,by lia⟩
    have l1:its.toArray.size=ds.length:=by rw[zAG,<-w1.length,q1.length]
    have l2:its2.toArray.size=es.length:=by rw[zAG,<-w2.length,q2.length]
    by_cases hl:its.toArray.size=its2.toArray.size
    .have z:=zF3 t1 t2 hl hu0 (IH k rfl _ _ _ _ _ _ _ _ _ q1 q2 w1 w2 (by lia) (iH nd) (iH ne) (by show A.units+1+k<cLine;lia))
     have z':=jA (ds:=ds) (es:=es) l1 l2;rw[<-hl,zE3,beq_self_eq_true,zD0]at z';rw[z']at z;simp only[eqD];exact zDl hab z
    .have z:=zEW t1 t2 (by simpa using hl) hu0
     have z':=jA (ds:=ds) (es:=es) l1 l2;rw[beq_eq_false_iff_ne.mpr hl,zDr]at z';simp only[eqD];rw[<-z'];exact zDl hab z
  |tup h2 q2=>
   cases rv;obtain⟨its2,w2,t2⟩:=ok.tup h2;simp only[eqD];exact SeqAt.EqAt.list_tuple t1 t2 hu0
  |non=>cases rv;exact SeqAt.EqAt.list_none t1 hu0
  |bl b=>cases rv;exact SeqAt.EqAt.list_bool b t1 hu0
  |int i=>obtain⟨tk,rfl⟩:=rv;exact SeqAt.EqAt.list_int i tk t1 hu0
  |str i=>obtain⟨tk,rfl⟩:=rv;exact SeqAt.EqAt.list_str i tk t1 hu0
  |_=>exact zAJ (ndx ne)
 |non=>
  cases ru;cases r2 with
  |tup h2 q2=>cases rv;obtain⟨_,_,t2⟩:=ok.tup h2;exact SeqAt.EqAt.none_tuple t2 hu0
  |lst h2 mm2 q2=>cases rv;obtain⟨_,_,t2⟩:=ok.lst h2;exact SeqAt.EqAt.none_list t2 hu0
  |dK _ _ _=>exact(bK ne).elim
  |dT _ _ _=>exact(bK ne).elim
  |set _ _ _ _=>exact(dM ne).elim
  |scr _=>exact(dN ne).elim
  |fn _=>exact(fK ne).elim
  |non=>cases rv;exact zEJ _
  |bl b=>cases rv;exact SeqAt.EqAt.none_bool b
  |int i=>obtain⟨tk,rfl⟩:=rv;exact SeqAt.EqAt.none_int i tk
  |str i=>obtain⟨tk,rfl⟩:=rv;exact SeqAt.EqAt.none_str i tk
 |bl a=>
  cases ru;cases r2 with
  |tup h2 q2=>cases rv;obtain⟨_,_,t2⟩:=ok.tup h2;exact SeqAt.EqAt.bool_tuple a t2 hu0
  |lst h2 mm2 q2=>cases rv;obtain⟨_,_,t2⟩:=ok.lst h2;exact SeqAt.EqAt.bool_list a t2 hu0
  |dK _ _ _=>exact(bK ne).elim
  |dT _ _ _=>exact(bK ne).elim
  |set _ _ _ _=>exact(dM ne).elim
  |scr _=>exact(dN ne).elim
  |fn _=>exact(fK ne).elim
  |non=>cases rv;exact SeqAt.EqAt.bool_none a
  |bl b=>cases rv;exact SeqAt.EqAt.bool_bool a b
  |int i=>obtain⟨tk,rfl⟩:=rv;exact SeqAt.EqAt.bool_int a i tk
  |str i=>obtain⟨tk,rfl⟩:=rv;exact SeqAt.EqAt.bool_str a i tk
 |int a=>
  obtain⟨tu,rfl⟩:=ru;cases r2 with
  |tup h2 q2=>cases rv;obtain⟨_,_,t2⟩:=ok.tup h2;exact SeqAt.EqAt.int_tuple a tu t2 hu0
  |lst h2 mm2 q2=>cases rv;obtain⟨_,_,t2⟩:=ok.lst h2;exact SeqAt.EqAt.int_list a tu t2 hu0
  |dK _ _ _=>exact(bK ne).elim
  |dT _ _ _=>exact(bK ne).elim
  |set _ _ _ _=>exact(dM ne).elim
  |scr _=>exact(dN ne).elim
  |fn _=>exact(fK ne).elim
  |non=>cases rv;exact SeqAt.EqAt.int_none a tu
  |bl b=>cases rv;exact SeqAt.EqAt.int_bool a tu b
  |int i=>obtain⟨tk,rfl⟩:=rv;exact zFM a tu i tk
  |str i=>obtain⟨tk,rfl⟩:=rv;exact zFN a tu i tk
 |str a=>
  obtain⟨tu,rfl⟩:=ru;cases r2 with
  |tup h2 q2=>cases rv;obtain⟨_,_,t2⟩:=ok.tup h2;exact SeqAt.EqAt.str_tuple a tu t2 hu0
  |lst h2 mm2 q2=>cases rv;obtain⟨_,_,t2⟩:=ok.lst h2;exact SeqAt.EqAt.str_list a tu t2 hu0
  |dK _ _ _=>exact(bK ne).elim
  |dT _ _ _=>exact(bK ne).elim
  |set _ _ _ _=>exact(dM ne).elim
  |scr _=>exact(dN ne).elim
  |fn _=>exact(fK ne).elim
  |non=>cases rv;exact SeqAt.EqAt.str_none a tu
  |bl b=>cases rv;exact SeqAt.EqAt.str_bool a tu b
  |int i=>obtain⟨tk,rfl⟩:=rv;exact zFO a tu i tk
  |str i=>obtain⟨tk,rfl⟩:=rv;exact SeqAt.EqAt.str_str a tu i tk
 |_=>exact zAJ (ndx nd)
def xX(ok:kJ K H s)(n:Nat)(IH:aFe K H s n):aFf K H s n:=by
 intro A1 A2 xs ys ds es A us vs q1 q2 w1 w2 hd nd ne hu j h1 h2;have hj1:j<us.length:=by simpa using h1
 have hj2:j<vs.length:=by simpa using h2
 have hx:j<xs.length:=by rw[w1.length];exact hj1
 have hy:j<ys.length:=by rw[w2.length];exact hj2
 have ex:=zAB hx;have ey:=zAB hy;obtain⟨d,ed,rd⟩:=q1.get ex;obtain⟨e,ee,re⟩:=q2.get ey;obtain⟨u,eu,ru⟩:=w1.get ex;obtain⟨v,ev,rv⟩:=w2.get ey;have e1:us.toArray[j]=u:=by
  rw[zCS];exact zA9 ((zAB hj1).symm.trans eu)
 have e2:vs.toArray[j]=v:=by
  rw[zCS];exact zA9 ((zAB hj2).symm.trans ev)
 rw[e1,e2,ed,ee];exact IH _ _ _ _ _ _ _ _ _ rd re ru rv (zA5 (xn (zAh ed)) hd) (pB (zAh ed) nd) (pB (zAh ee) ne) hu
theorem aFR(ok:kJ K H s):∀n,aFe K H s n
 |0=>vZ ok 0 λ k h=>absurd h (by simp)
 |n+1=>vZ ok (n+1) λ k h=>by
  have h':=Nat.succ.inj h;subst h';exact xX ok n (aFR ok n)
def aJb(ok:kJ K H s):∀{A1 A2:Addr->Prop} {x y:V} {d e:D} (n:Nat) {A:zAm} {u v:Value},Rp K A1 H x d->Rp K A2 H y e->RelV x u->RelV y v->m8 d<=n->au d=true->au e=true->A.units+n<cLine->zDk A s u v (eqD d e)
 |_,_,_,_,_,_,n,A,u,v,r1,r2,ru,rv,hd,nd,ne,hu=>aFR ok n _ _ _ _ _ _ _ _ _ r1 r2 ru rv hd nd ne hu
def aHv(ok:kJ K H s):∀{A1 A2:Addr->Prop} {xs ys:List V} {ds es:List D} (n:Nat) {A:zAm} {us vs:List Value},Rps K A1 H xs ds->Rps K A2 H ys es->Vals xs us->Vals ys vs->fM ds<=n->bL ds=true->bL es=true->A.units+n<cLine->
  ∀(j:Nat) (h1:j<us.toArray.size) (h2:j<vs.toArray.size),zDk A s us.toArray[j] vs.toArray[j] (match ds[j]?,es[j]? with|some a,some b=>eqD a b|_,_=>true)
 |_,_,xs,ys,ds,es,n,A,us,vs,q1,q2,w1,w2,hd,nd,ne,hu,j,h1,h2=>xX ok n (aFR ok n) _ _ _ _ _ _ _ _ _ q1 q2 w1 w2 hd nd ne hu j h1 h2
def aEA(ok:kJ K H s)(n:Nat)(r1:Rp K A1 H x d)(r2:Rp K A2 H y e)(ru:RelV x u)(rv:RelV y v)(hd:m8 d<=n)(nd:au d=true)(ne:au e=true)(hu:A.units+n<cLine):
  SeqAt.RcAt A s u v (eqD d e)/\SeqAt.RcNeAt A s u v (!eqD d e):=by
 have hu0:A.units<cLine:=by lia
 cases r1 with
 |tup h1 q1=>
  rename_i a xs ds;cases ru;obtain⟨its,w1,t1⟩:=ok.tup h1;cases r2 with
  |tup h2 q2=>
   rename_i b ys es;cases rv;obtain⟨its2,w2,t2⟩:=ok.tup h2;simp only[m8]at hd;obtain⟨k,rfl⟩:∃k,n=k+1:=⟨n-1,by lia⟩
   have he:=aHv ok (A:=A.in1) k q1 q2 w1 w2 (by lia) (iG nd) (iG ne) (by show A.units+1+k<cLine;lia);have z:=zFX t1 t2 hu0 he;have z2:=SeqAt.RcNeAt.tuples t1 t2 hu0 he;rw[jA (by rw[zAG,<-w1.length,q1.length]) (by rw[zAG,<-w2.length,q2.length])]at z z2;simp only[eqD];exact⟨z,z2⟩
  |lst h2 mm2 q2=>
   cases rv;obtain⟨its2,w2,t2⟩:=ok.lst h2;simp only[eqD];exact⟨SeqAt.RcAt.tuple_list t1 t2 hu0,SeqAt.RcNeAt.tuple_list t1 t2 hu0⟩
  |non=>cases rv;exact⟨SeqAt.RcAt.tuple_none t1 hu0,SeqAt.RcNeAt.tuple_none t1 hu0⟩
  |bl b=>cases rv;exact⟨SeqAt.RcAt.tuple_bool b t1 hu0,SeqAt.RcNeAt.tuple_bool b t1 hu0⟩
  |int i=>obtain⟨tk,rfl⟩:=rv;exact⟨SeqAt.RcAt.tuple_int i tk t1 hu0,SeqAt.RcNeAt.tuple_int i tk t1 hu0⟩
  |str i=>obtain⟨tk,rfl⟩:=rv;exact⟨SeqAt.RcAt.tuple_str i tk t1 hu0,SeqAt.RcNeAt.tuple_str i tk t1 hu0⟩
  |_=>exact zAJ (ndx ne)
 |lst h1 mm1 q1=>
  rename_i a xs ds;cases ru;obtain⟨its,w1,t1⟩:=ok.lst h1;cases r2 with
  |lst h2 mm2 q2=>
   rename_i b ys es;cases rv;obtain⟨its2,w2,t2⟩:=ok.lst h2;simp only[m8]at hd;obtain⟨k,rfl⟩:∃k,n=k+1:=⟨n-1,by lia⟩
   have l1:its.toArray.size=ds.length:=by rw[zAG,<-w1.length,q1.length]
   have l2:its2.toArray.size=es.length:=by rw[zAG,<-w2.length,q2.length]
   have z':=jA (ds:=ds) (es:=es) l1 l2;by_cases hl:its.toArray.size=its2.toArray.size
   .have he:=aHv ok (A:=A.in1) k q1 q2 w1 w2 (by lia) (iH nd) (iH ne) (by show A.units+1+k<cLine;lia)
    have z:=zF3 t1 t2 hl hu0 he;have z2:=SeqAt.RcNeAt.lists t1 t2 hl hu0 he;rw[<-hl,zE3,beq_self_eq_true,zD0]at z';rw[z']at z z2;simp only[eqD];exact⟨z,z2⟩
   .rw[beq_eq_false_iff_ne.mpr hl,zDr]at z'
    simp only[eqD];rw[<-z'];exact⟨zEW t1 t2 (by simpa using hl) hu0,SeqAt.RcNeAt.lists_lengths t1 t2 (by simpa using hl) hu0⟩
  |tup h2 q2=>
   cases rv;obtain⟨its2,w2,t2⟩:=ok.tup h2;simp only[eqD];exact⟨SeqAt.RcAt.list_tuple t1 t2 hu0,SeqAt.RcNeAt.list_tuple t1 t2 hu0⟩
  |non=>cases rv;exact⟨SeqAt.RcAt.list_none t1 hu0,SeqAt.RcNeAt.list_none t1 hu0⟩
  |bl b=>cases rv;exact⟨SeqAt.RcAt.list_bool b t1 hu0,SeqAt.RcNeAt.list_bool b t1 hu0⟩
  |int i=>obtain⟨tk,rfl⟩:=rv;exact⟨SeqAt.RcAt.list_int i tk t1 hu0,SeqAt.RcNeAt.list_int i tk t1 hu0⟩
  |str i=>obtain⟨tk,rfl⟩:=rv;exact⟨SeqAt.RcAt.list_str i tk t1 hu0,SeqAt.RcNeAt.list_str i tk t1 hu0⟩
  |_=>exact zAJ (ndx ne)
 |non=>
  cases ru;cases r2 with
  |tup h2 q2=>cases rv;obtain⟨_,_,t2⟩:=ok.tup h2;exact⟨SeqAt.RcAt.none_tuple t2 hu0,SeqAt.RcNeAt.none_tuple t2 hu0⟩
  |lst h2 mm2 q2=>cases rv;obtain⟨_,_,t2⟩:=ok.lst h2;exact⟨SeqAt.RcAt.none_list t2 hu0,SeqAt.RcNeAt.none_list t2 hu0⟩
  |dK _ _ _=>exact(bK ne).elim
  |dT _ _ _=>exact(bK ne).elim
  |set _ _ _ _=>exact(dM ne).elim
  |scr _=>exact(dN ne).elim
  |fn _=>exact(fK ne).elim
  |non=>cases rv;exact⟨SeqAt.RcAt.none_none,SeqAt.RcNeAt.none_none⟩
  |bl b=>cases rv;exact⟨SeqAt.RcAt.none_bool b,SeqAt.RcNeAt.none_bool b⟩
  |int i=>obtain⟨tk,rfl⟩:=rv;exact⟨SeqAt.RcAt.none_int i tk,SeqAt.RcNeAt.none_int i tk⟩
  |str i=>obtain⟨tk,rfl⟩:=rv;exact⟨SeqAt.RcAt.none_str i tk,SeqAt.RcNeAt.none_str i tk⟩
 |bl a=>
  cases ru;cases r2 with
  |tup h2 q2=>cases rv;obtain⟨_,_,t2⟩:=ok.tup h2;exact⟨SeqAt.RcAt.bool_tuple a t2 hu0,SeqAt.RcNeAt.bool_tuple a t2 hu0⟩
  |lst h2 mm2 q2=>cases rv;obtain⟨_,_,t2⟩:=ok.lst h2;exact⟨SeqAt.RcAt.bool_list a t2 hu0,SeqAt.RcNeAt.bool_list a t2 hu0⟩
  |dK _ _ _=>exact(bK ne).elim
  |dT _ _ _=>exact(bK ne).elim
  |set _ _ _ _=>exact(dM ne).elim
  |scr _=>exact(dN ne).elim
  |fn _=>exact(fK ne).elim
  |non=>cases rv;exact⟨SeqAt.RcAt.bool_none a,SeqAt.RcNeAt.bool_none a⟩
  |bl b=>cases rv;exact⟨SeqAt.RcAt.bool_bool a b,SeqAt.RcNeAt.bool_bool a b⟩
  |int i=>obtain⟨tk,rfl⟩:=rv;exact⟨SeqAt.RcAt.bool_int a i tk,SeqAt.RcNeAt.bool_int a i tk⟩
  |str i=>obtain⟨tk,rfl⟩:=rv;exact⟨SeqAt.RcAt.bool_str a i tk,SeqAt.RcNeAt.bool_str a i tk⟩
 |int a=>
  obtain⟨tu,rfl⟩:=ru;cases r2 with
  |tup h2 q2=>cases rv;obtain⟨_,_,t2⟩:=ok.tup h2;exact⟨SeqAt.RcAt.int_tuple a tu t2 hu0,SeqAt.RcNeAt.int_tuple a tu t2 hu0⟩
  |lst h2 mm2 q2=>cases rv;obtain⟨_,_,t2⟩:=ok.lst h2;exact⟨SeqAt.RcAt.int_list a tu t2 hu0,SeqAt.RcNeAt.int_list a tu t2 hu0⟩
  |dK _ _ _=>exact(bK ne).elim
  |dT _ _ _=>exact(bK ne).elim
  |set _ _ _ _=>exact(dM ne).elim
  |scr _=>exact(dN ne).elim
  |fn _=>exact(fK ne).elim
  |non=>cases rv;exact⟨SeqAt.RcAt.int_none a tu,SeqAt.RcNeAt.int_none a tu⟩
  |bl b=>cases rv;exact⟨SeqAt.RcAt.int_bool a tu b,SeqAt.RcNeAt.int_bool a tu b⟩
  |int i=>obtain⟨tk,rfl⟩:=rv;exact⟨SeqAt.RcAt.int_int a tu i tk,SeqAt.RcNeAt.int_int a tu i tk⟩
  |str i=>obtain⟨tk,rfl⟩:=rv;exact⟨SeqAt.RcAt.int_str a tu i tk,SeqAt.RcNeAt.int_str a tu i tk⟩
 |str a=>
  obtain⟨tu,rfl⟩:=ru;cases r2 with
  |tup h2 q2=>cases rv;obtain⟨_,_,t2⟩:=ok.tup h2;exact⟨SeqAt.RcAt.str_tuple a tu t2 hu0,SeqAt.RcNeAt.str_tuple a tu t2 hu0⟩
  |lst h2 mm2 q2=>cases rv;obtain⟨_,_,t2⟩:=ok.lst h2;exact⟨SeqAt.RcAt.str_list a tu t2 hu0,SeqAt.RcNeAt.str_list a tu t2 hu0⟩
  |dK _ _ _=>exact(bK ne).elim
  |dT _ _ _=>exact(bK ne).elim
  |set _ _ _ _=>exact(dM ne).elim
  |scr _=>exact(dN ne).elim
  |fn _=>exact(fK ne).elim
  |non=>cases rv;exact⟨SeqAt.RcAt.str_none a tu,SeqAt.RcNeAt.str_none a tu⟩
  |bl b=>cases rv;exact⟨SeqAt.RcAt.str_bool a tu b,SeqAt.RcNeAt.str_bool a tu b⟩
  |int i=>obtain⟨tk,rfl⟩:=rv;exact⟨SeqAt.RcAt.str_int a tu i tk,SeqAt.RcNeAt.str_int a tu i tk⟩
  |str i=>obtain⟨tk,rfl⟩:=rv;exact⟨SeqAt.RcAt.str_str a tu i tk,SeqAt.RcNeAt.str_str a tu i tk⟩
 |_=>exact zAJ (ndx nd)
end
section
variable{K:zAA}{H:Hp}{s:zAH}
open Classical in
def nY(K:zAA)(H:Hp)(d:D)(u:Value):Bool:=if h:∃e,au e=true/\∃y,RelV y u/\Rp K (λ _=>True) H y e then eqD (choose h) d else false
def aC7(ok:kJ K H s)(r:RelV y u)(h:Rp K A H y e)(ne:au e=true):nY K H d u=eqD e d:=by
 have hx:∃e,au e=true/\∃y,RelV y u/\Rp K (λ _=>True) H y e:=⟨e,ne,y,r,h.wk λ _ _ _ _=>trivial⟩
 unfold nY;rw[dif_pos hx];obtain⟨n',y',r',h'⟩:=Classical.choose_spec hx;have e1:=RelV.inj r r';subst e1;rw[Rp.inj ok h' h n' ne]
def inD(d:D)(es:List D):Bool:=es.any λ e=>eqD e d
def q9(ok:kJ K H s):∀{A:Addr->Prop} {xs:List V} {es:List D} {us:List Value},Rps K A H xs es->Vals xs us->bL es=true->us.any (nY K H d)=inD d es:=by
 intro A xs es us h v n;induction v generalizing es with
 |nil=>cases h;rfl
 |cons k t ih=>
  cases h with
  |cons h r=>
   simp only[bL,zAQ]at n;unfold inD;rw[zHL,zHL,aC7 ok k h n.1,ih r n.2];rfl
def uG(ok:kJ K H s)(rx:Rp K A0 H x d)(rv:RelV x v)(hu:A.units+n<cLine)(nd:au d=true):∀{A1:Addr->Prop} {xs:List V} {es:List D} {us:List Value},Rps K A1 H xs es->Vals xs us->fM es<=n->bL es=true->∀u∈us,zDk A s u v (nY K H d u):=by
 intro A1 xs es us h v' hd ne u hm;induction v' generalizing es with
 |nil=>cases hm
 |cons k t ih=>
  cases h with
  |cons h r=>
   simp only[fM]at hd;simp only[bL,zAQ]at ne;rcases zAR.mp hm with z|z
   .subst z
    rw[aC7 ok k h ne.1];exact aJb ok n h rx k rv (zA5 (zHC _ _) hd) ne.1 nd hu
   .exact ih r (zA5 (zGw _ _) hd) ne.2 z
end
section
variable{X:Cx}
def aED(K:zAA)(neg:Bool):R2:=λ x y H Q=>∃A B d e,Rp K A H x d/\Rp K B H y e/\m8 d<=60/\au d=true/\au e=true/\Q (.bl (if neg then !eqD d e else eqD d e)) H
def aJA(hu:X.A.units+64<cLine):OpR X (zAr .Eq) (aED X.K false):=by
 intro pins s Z H x y v u Q I rx ry h;obtain⟨A,B,d,e,r1,r2,hd,nd,ne,q⟩:=h;exact(aEA (Inv.seqOk I) 60 r1 r2 rx ry hd nd ne (by lia)).1 X.prog X.w X.xe _ ⟨.bl (eqD d e),H,I,rfl,q⟩
def aIq(hu:X.A.units+64<cLine):OpR X (zAr .NotEq) (aED X.K true):=by
 intro pins s Z H x y v u Q I rx ry h;obtain⟨A,B,d,e,r1,r2,hd,nd,ne,q⟩:=h;exact(aEA (Inv.seqOk I) 60 r1 r2 rx ry hd nd ne (by lia)).2 X.prog X.w X.xe _ ⟨.bl (!eqD d e),H,I,rfl,q⟩
def aEC(K:zAA)(neg:Bool):R2:=λ x y H Q=>∃A B d a es,Rp K A H x d/\y= .ref a/\(Rp K B H (.ref a) (.lst es)\/Rp K B H (.ref a) (.tup es))/\fM es<=60/\au d=true/\bL es=true/\Q (.bl (if neg then !inD d es else inD d es)) H
def aIz(hu:X.A.units+64<cLine):OpR X (zAr .In) (aEC X.K false):=by
 intro pins s Z H x y v u Q I rx ry h;obtain⟨A,B,d,a,es,rd,rfl,ra,hd,nd,ne,q⟩:=h;cases ry;have ok:=Inv.seqOk I;have hu1:X.A.in1.units+60<cLine:=by show X.A.units+1+60<cLine;lia
 rcases ra with ra|ra
 .cases ra with
  |lst ha _ r=>
   obtain⟨its,rv,tl⟩:=ok.lst ha;refine SeqAt.in_listAt (nY X.K H d) tl (λ w hw=>uG ok rd rx hu1 nd r rv hd ne w (by simpa using hw)) ⟨.bl _,H,I,rfl,?_⟩;rw[show its.toArray.any (nY X.K H d)=its.any (nY X.K H d)by simp,q9 ok r rv ne];exact q
 .cases ra with
  |tup ha r=>
   obtain⟨its,rv,tl⟩:=ok.tup ha;refine SeqAt.in_tupleAt (nY X.K H d) tl (λ w hw=>uG ok rd rx hu1 nd r rv hd ne w (by simpa using hw)) ⟨.bl _,H,I,rfl,?_⟩;rw[show its.toArray.any (nY X.K H d)=its.any (nY X.K H d)by simp,q9 ok r rv ne];exact q
def aCv(hu:X.A.units+64<cLine):OpR X (zAr .NotIn) (aEC X.K true):=by
 intro pins s Z H x y v u Q I rx ry h;obtain⟨A,B,d,a,es,rd,rfl,ra,hd,nd,ne,q⟩:=h;cases ry;have ok:=Inv.seqOk I;have hu1:X.A.in1.units+60<cLine:=by show X.A.units+1+60<cLine;lia
 rcases ra with ra|ra
 .cases ra with
  |lst ha _ r=>
   obtain⟨its,rv,tl⟩:=ok.lst ha;refine SeqAt.notIn_listAt (nY X.K H d) tl (λ w hw=>uG ok rd rx hu1 nd r rv hd ne w (by simpa using hw)) ⟨.bl _,H,I,rfl,?_⟩;rw[show its.toArray.any (nY X.K H d)=its.any (nY X.K H d)by simp,q9 ok r rv ne];exact q
 .cases ra with
  |tup ha r=>
   obtain⟨its,rv,tl⟩:=ok.tup ha;refine SeqAt.notIn_tupleAt (nY X.K H d) tl (λ w hw=>uG ok rd rx hu1 nd r rv hd ne w (by simpa using hw)) ⟨.bl _,H,I,rfl,?_⟩;rw[show its.toArray.any (nY X.K H d)=its.any (nY X.K H d)by simp,q9 ok r rv ne];exact q
end
section
variable{K:zAA}
def eqR(neg:Bool):D->D->Rs D:=λ d e=>if decide (m8 d<=60)&&au d&&au e then .ok (.bl (if neg then !eqD d e else eqD d e))else .st
def inR(neg:Bool):D->D->Rs D:=λ d e=>match e with
 | .lst es=>if decide (fM es<=60)&&au d&&bL es then .ok (.bl (if neg then !inD d es else inD d es))else .st
 | .tup es=>if decide (fM es<=60)&&au d&&bL es then .ok (.bl (if neg then !inD d es else inD d es))else .st
 |_=>.st
def os_eq:OpS K (aED K n) (eqR n):=by
 intro A x y d e H Q z rx ry ez q;unfold eqR at ez;split at ez
 .rename_i h
  simp only[zAQ,decide_eq_true_eq]at h;cases ez;exact⟨A,A,d,e,rx,ry,h.1.1,h.1.2,h.2,q _ H (aU.refl H) (.bl _)⟩
 .cases ez
def aE0:OpS K (aEC K n) (inR n):=by
 intro A x y d e H Q z rx ry ez q;unfold inR at ez;split at ez
 .split at ez
  .rename_i h
   simp only[zAQ,decide_eq_true_eq]at h;cases ez;cases ry with
   |lst ha mm r=>exact⟨A,A,d,_,_,rx,rfl,.inl (.lst ha mm r),h.1.1,h.1.2,h.2,q _ H (aU.refl H) (.bl _)⟩
  .cases ez
 .split at ez
  .rename_i h
   simp only[zAQ,decide_eq_true_eq]at h;cases ez;cases ry with
   |tup ha r=>exact⟨A,A,d,_,_,rx,rfl,.inr (.tup ha r),h.1.1,h.1.2,h.2,q _ H (aU.refl H) (.bl _)⟩
  .cases ez
 .cases ez
def aEx:∀x y z,eqR n x y= .ok z->imm z=true:=by
 intro x y z e;unfold eqR at e;split at e
 .cases e;rfl
 .cases e
def aJ4:∀x y z,inR n x y= .ok z->imm z=true:=by
 intro x y z e;unfold inR at e;split at e
 .split at e
  .cases e;rfl
  .cases e
 .split at e
  .cases e;rfl
  .cases e
 .cases e
end
section
variable{K:zAA}
def boolsOf:List D->Option (List Bool)
 |[]=>some []
 | .bl i::r=>(boolsOf r).map (i::·)
 |_=>none
theorem qW:∀{l:List D} {ns:List Bool},boolsOf l=some ns->l=ns.map .bl
 |[],ns,h=>by cases h;rfl
 | .bl i::r,ns,h=>by
  simp only[boolsOf,zBy]at h;obtain⟨ms,h1,rfl⟩:=h;rw[qW h1];rfl
 | .non::_,_,h=>by cases h
 | .int _::_,_,h=>by cases h
 | .str _::_,_,h=>by cases h
 | .tup _::_,_,h=>by cases h
 | .lst _::_,_,h=>by cases h
 | .dct _ _::_,_,h=>by cases h
 | .set _::_,_,h=>by cases h
 | .scr _::_,_,h=>by cases h
theorem tG:∀ns:List Bool,boolsOf (ns.map .bl)=some ns
 |[]=>rfl
 |n::ns=>by simp only[zAT,boolsOf,tG ns,zCC]
theorem sE{X:Cx}:∀{bs:List Bool} {us:List Value},Vals (bs.map V.bl) us->LSm.BoolsAre us bs
 |[],_,.nil=>.nil
 |b::bs,_,.cons r t=>by
  have e:_=zDm b:=r;subst e;exact .cons b (sE (X:=X) t)
theorem Rps.bools_of:∀{xs:List V} {bs:List Bool},Rps K A H xs (bs.map D.bl)->xs=bs.map V.bl
 |_,[],.nil=>rfl
 |_,n::ns,.cons h r=>by
  cases h;rw[zAT,Rps.bools_of r]
def n8(f:List Bool->Bool):List D->Rs D
 |[.lst l]=>match boolsOf l with
  |some bs=>.ok (.bl (f bs))
  |none=>.st
 |_=>.st
def aF2{X:Cx}(hc:X.calm=true):dI X (.builtin "all") (λ xs H Q=>∃(p:Addr) (bs:List Bool),xs=[.ref p]/\H p=some (.lst (bs.map V.bl))/\Q (.bl (bs.all id)) H):=by
 intro pins s Z H xs us Q I r h;obtain⟨p,bs,rfl,hp,q⟩:=h;obtain⟨u,rfl,ru⟩:=vals1 r;cases ru;obtain⟨its,rv,pl,hz⟩:=I.list (SqL.of hp);have hb:=sE (X:=X) rv;have hl:=pl.isList;have hlt:p<s.heap.objs.size:=by obtain⟨_,e,_⟩:=hl;exact zAS e
 refine call_all_walk (zEz hl ?_);refine⟨s.heap.objs.size,[s.heap.objs.size,p],[s.heap.objs.size],its.toArray.size,_,_,λ i=>(bs[i]?).getD true,rfl,Walks.list (A:=X.A.in1) (I.ok.hd hc) _ p (zA6 hlt) its.toArray,
  ⟨⟨_,zAX _ rfl,rfl,rfl⟩,hl.push _⟩,λ i v s' Q' E' hP hQ=>?_,λ h' tk hk=>?_⟩
 .obtain⟨b,e,rfl⟩:=hb.get i v (by simpa using hP)
  simp only[e,zGL]at hQ;exact zBw hQ
 .have e:((zA3 its.toArray.size).all λ i=>(bs[i]?).getD true)=bs.all id:=by
   rw[zAG,hb.length];exact LSm.range_all bs
  rw[e];exact⟨.bl _,H,I.kept (zHX hk),rfl,q⟩
def aF1{X:Cx}(hc:X.calm=true):dI X (.builtin "any") (λ xs H Q=>∃(p:Addr) (bs:List Bool),xs=[.ref p]/\H p=some (.lst (bs.map V.bl))/\Q (.bl (bs.any id)) H):=by
 intro pins s Z H xs us Q I r h;obtain⟨p,bs,rfl,hp,q⟩:=h;obtain⟨u,rfl,ru⟩:=vals1 r;cases ru;obtain⟨its,rv,pl,hz⟩:=I.list (SqL.of hp);have hb:=sE (X:=X) rv;have hl:=pl.isList;have hlt:p<s.heap.objs.size:=by obtain⟨_,e,_⟩:=hl;exact zAS e
 refine call_any_walk (zEz hl ?_);refine⟨s.heap.objs.size,[s.heap.objs.size,p],[s.heap.objs.size],its.toArray.size,_,_,λ i=>(bs[i]?).getD false,rfl,Walks.list (A:=X.A.in1) (I.ok.hd hc) _ p (zA6 hlt) its.toArray,
  ⟨⟨_,zAX _ rfl,rfl,rfl⟩,hl.push _⟩,λ i v s' Q' E' hP hQ=>?_,λ h' tk hk=>?_⟩
 .obtain⟨b,e,rfl⟩:=hb.get i v (by simpa using hP)
  simp only[e,zGL]at hQ;exact zBw hQ
 .have e:((zA3 its.toArray.size).any λ i=>(bs[i]?).getD false)=bs.any id:=by
   rw[zAG,hb.length];exact LSm.range_any bs
  rw[e];exact⟨.bl _,H,I.kept (zHX hk),rfl,q⟩
def aFY:qd K (λ xs H Q=>∃(p:Addr) (bs:List Bool),xs=[.ref p]/\H p=some (.lst (bs.map V.bl))/\Q (.bl (f bs)) H) (n8 f):=by
 intro A xs ds H Q z r ez q;unfold n8 at ez;split at ez
 .split at ez
  .rename_i l bs e
   cases ez
   have:=qW e
   subst this;cases r with
   |cons h r=>
    cases r;cases h with
    |lst h m r=>
     have:=r.bools_of
     subst this;exact⟨_,bs,rfl,h,q _ H (aU.refl H) (.bl _)⟩
  .cases ez
 .cases ez
def aC3:∀x z,n8 f x= .ok z->imm z=true:=by
 intro x z e;unfold n8 at e;split at e
 .split at e
  .cases e;rfl
  .cases e
 .cases e
def mmD(f:Int->Int->Int):List D->Rs D
 |[.int i,.int j]=>.ok (.int (f i j))
 |_=>.st
def aHw:qd K (λ xs H Q=>∃i j,xs=[.int i,.int j]/\Q (.int (f i j)) H) (mmD f):=by
 intro A xs ds H Q z r ez q;unfold mmD at ez;split at ez
 .cases ez
  cases r with
  |cons h r=>
   cases h;cases r with
   |cons h r=>
    cases h;cases r;exact⟨_,_,rfl,q _ H (aU.refl H) (.int _)⟩
 .cases ez
def aEv:∀x z,mmD f x= .ok z->imm z=true:=by
 intro x z e;unfold mmD at e;split at e
 .cases e;rfl
 .cases e
def cO:List D->Rs D
 |[.lst l]=>.ok (.tup l)
 |[.tup l]=>.ok (.tup l)
 |_=>.st
def vA:List D->Rs D
 |[.lst l]=>.ok (.lst l)
 |[.tup l]=>.ok (.lst l)
 |_=>.st
def aFX:qd K (λ xs H Q=>∃p ys,xs=[.ref p]/\((SqL K H p ys/\∀l,H l=none->Q (.ref l) (upd H l (.tup ys)))\/(SqT K H p ys/\Q (.ref p) H))) cO:=by
 intro A xs ds H Q z r ez q;unfold cO at ez;split at ez
 .cases ez
  cases r with
  |cons h r=>
   cases r;cases h with
   |lst h m r=>exact⟨_,_,rfl,.inl ⟨SqL.of h,λ l hl=>q _ _ (aq hl _) (.tup (SqT.of aY) ((r.wk λ _ _ _ z=>.inr z.1).up (aq hl _)))⟩⟩
 .cases ez
  cases r with
  |cons h r=>
   cases r;cases h with
   |tup h r=>exact⟨_,_,rfl,.inr ⟨h,q _ H (aU.refl H) (.tup h (r.wk λ _ _ _ z=>.inr z))⟩⟩
 .cases ez
def aHN:qd K (λ xs H Q=>∃p ys,xs=[.ref p]/\(SqL K H p ys\/SqT K H p ys)/\∀l,H l=none->Q (.ref l) (upd H l (.lst ys))) vA:=by
 intro A xs ds H Q z r ez q;unfold vA at ez;split at ez
 .cases ez
  cases r with
  |cons h r=>
   cases r;cases h with
   |lst h m r=>exact⟨_,_,rfl,.inl (SqL.of h),λ l hl=>q _ _ (aq hl _) (.lst aY (.inl hl) ((r.wk λ p o e z=>⟨.inr z.1,λ e'=>by subst e';rw[hl]at e;cases e⟩).up (aq hl _)))⟩
 .cases ez
  cases r with
  |cons h r=>
   cases r;cases h with
   |tup h r=>exact⟨_,_,rfl,.inr h,λ l hl=>q _ _ (aq hl _) (.lst aY (.inl hl) ((r.wk λ p o e z=>⟨.inr z,λ e'=>by subst e';rw[hl]at e;cases e⟩).up (aq hl _)))⟩
 .cases ez
end
def cutD(l:List D)(lo hi:Option Int):List D:=(l.drop (HT.sIx l.length 0 lo)).take (HT.sIx l.length l.length hi-HT.sIx l.length 0 lo)
def Rps.cut{K:zAA}(r:Rps K A H xs ds)(lo hi:Option Int):Rps K A H (vg xs lo hi) (cutD ds lo hi):=by
 unfold vg cutD;rw[r.length];exact(r.drop _).take _
def slD(d:D)(lo hi:Option Int):Rs D:=match d with
 | .tup l=>.ok (.tup (cutD l lo hi))
 | .lst l=>.ok (.lst (cutD l lo hi))
 |_=>.st
def aKG(K:zAA):V->Option Int->Option Int->Hp->VK->Prop:=λ x lo hi H Q=>(∃a xs,x= .ref a/\SqT K H a xs/\∀c H',aU H H'->SqT K H' c (vg xs lo hi)->Q (.ref c) H')\/aKH K x lo hi H Q
def aFt:SlR X (λ x lo hi H Q=>∃a xs,x= .ref a/\SqT X.K H a xs/\∀c H',aU H H'->SqT X.K H' c (vg xs lo hi)->Q (.ref c) H'):=by
 intro pins s Z H x v vl vu lo hi sl Q I rx hs pl pu h;obtain⟨a,xs,rfl,hx,q⟩:=h;cases rx;obtain⟨its,r,ht,hz⟩:=I.tuple hx;have hlen:its.toArray.size=xs.length:=by rw[zAG];exact r.length.symm
 refine⟨"tuple",_,zAi.lookup,ht.typeIs,?_⟩;by_cases hw:HT.sIx xs.length 0 lo=0/\HT.sIx xs.length xs.length hi=xs.length
 .refine HT.qG ht hs pl pu (by rw[hlen];exact hw.1) (by rw[hlen];exact hw.2) ⟨.ref a,H,I,rfl,q a H (aU.refl H) ?_⟩
  have:vg xs lo hi=xs:=by
   unfold vg;rw[hw.1,hw.2,List.drop_zero,Nat.sub_zero,zGj]
  rw[this];exact hx
 .refine HT.qF ht hs pl pu (by rw[hlen];exact hw) ?_ (by rw[hlen];exact hz)
  rw[hlen];refine⟨.ref s.heap.objs.size,_,I.laid (t':=s.toks) (o:=.tup (vg xs lo hi)) (λ b ob q=>zAE _ q) (zAO _) ?_,rfl,q _ _ (aq (I.hok.fresh (zAO _)) _) (SqT.of aY)⟩;exact⟨⟨zA5 (tD xs lo hi) hz,NoD.push _⟩,_,(r.drop (HT.sIx xs.length 0 lo)).take (HT.sIx xs.length xs.length hi-HT.sIx xs.length 0 lo),zF0 _ _⟩
def aKy:SlR X (aKG X.K):=aFt.or aFu
section
variable{C:Ct}{pos p2:Pos}{m:Mode}{a e:Expr}{fa fe:En->Rs D}{lo hi:Option Expr}
def aLG(K:zAA)(G:Gx)(t:TO)(f:En->Rs (Option Int)):Prop:=∀τ Z H Y lab (Q:Option Int->Hp->Prop),RR K G τ Y Z H lab->WR G (f Y) (λ o=>∀H',aU H H'->Q o H')->t Z H Q
def SO(C:Ct)(e:Option Expr)(f:En->Rs (Option Int)):Prop:=∃t,(∀i,PO (C.X i) e t)/\aLG C.K C.G t f
def jR:En->Rs (Option Int):=λ _=>.ok none
def jQ(fe:En->Rs D):En->Rs (Option Int):=λ Y=>(fe Y).bd λ d=>match d with
 | .int i=>.ok (some i)
 |_=>.st
def gH:SO C none jR:=⟨_,λ _=>aGX,λ τ Z H Y lab Q R W=>W H (aU.refl H)⟩
def gG(h:SE C m e fe):SO C (some e) (jQ fe):=by
 obtain⟨t,h1,h2⟩:=h;refine⟨_,λ i=>aGW (h1 i),λ τ Z H Y lab Q R W=>h2 τ Z H Y lab _ R (W.bd.imp λ d _ w x H1 s r=>?_)⟩;cases r with
 |int i=>exact⟨i,rfl,w H1 s⟩
 |_=>exact zAJ w
def fG(fa:En->Rs D)(fl fh:En->Rs (Option Int)):En->Rs D:=λ Y=>(fa Y).bd λ d=>(fl Y).bd λ l=>(fh Y).bd λ h=>okD (slD d l h)
def di{fl fh:En->Rs (Option Int)}(ha:SE C m a fa)(hl:SO C lo fl)(hh:SO C hi fh):SE C m (.Subscript a (.Slice lo hi none p2) pos) (fG fa fl fh):=by
 obtain⟨t,h1,h2⟩:=ha;obtain⟨tl,l1,l2⟩:=hl;obtain⟨th,k1,k2⟩:=hh;refine⟨tSl (aKG C.K) t tl th,λ i=>by rw[<-C.hK i];exact aES aKy (h1 i) (l1 i) (k1 i),λ τ Z H Y lab Q R W=>h2 τ Z H Y lab _ R (W.bd.imp λ d _ w x H1 s1 r1=>?_)⟩;refine l2 τ Z H1 Y lab _ (R.up s1) (w.bd.imp λ ol _ w H2 s2=>?_);refine k2 τ Z H2 Y lab _ ((R.up s1).up s2) (w.bd.imp λ oh _ w H3 s3=>?_);obtain⟨z,ez,w⟩:=w.okD;have s:=s1.trans (s2.trans s3);have r3:=r1.up (s2.trans s3);cases d with
 |tup l=>
  cases ez;cases r3 with
  |tup h r=>exact .inl ⟨_,_,rfl,h,λ c H' s' hc=>w _ H' (s.trans s') (.tup hc ((r.cut ol oh).up s'))⟩
 |lst l=>
  cases ez;cases r3 with
  |lst h mm r=>
   exact .inr ⟨_,_,rfl,SqL.of h,λ p hp=>w _ _ (s.trans (aq hp _)) (.lst aY (.inl (s.free hp)) (((r.cut ol oh).wk λ q o e z=>⟨z.1,λ e'=>by subst e';rw[hp]at e;cases e⟩).up (aq hp _)))⟩
 |_=>cases ez
def aCm:D->Rs D
 | .tup l=>.ok (.tup l.reverse)
 |_=>.st
def aH6(K:zAA)(te:TE):TE:=λ Z H Q=>te Z H λ x H1=>∃a xs,x= .ref a/\SqT K H1 a xs/\∀c H',aU H1 H'->H' c=some (.tup xs.reverse)->Q (.ref c) H'
def aG1(he:PE X e te):PE X (.Subscript e (.Slice none none (some (.UnaryOp .USub (.Constant (.int 1) j p3) p4)) p2) pos) (aH6 X.K te):=by
 intro pins s Z H Q I h;refine zGB (thn (he pins s Z H _ I h) λ v s1 ⟨x,H1,I1,r1,q1⟩=>?_);obtain⟨a,xs,rfl,hx,q⟩:=q1;cases r1;have hm:PE X (.UnaryOp .USub (.Constant (.int 1) j p3) p4) (tUn (rU λ i=>.int (-i)) (tC (.int 1))):=aER aAx aBZ;refine zHH ?_;rw[zEa];refine zAF (zAF ?_);rw[zGP];refine thn (hm pins s1 Z H1 (λ z H2=>z= .int (-1)/\H2=H1) I1 ⟨1,rfl,rfl,rfl⟩) λ u s2 ⟨z,H2,I2,r2,ez,eH⟩=>?_
 subst ez eH;obtain⟨tk,rfl⟩:=r2;have I4:Inv X pins Z H2 {s2 with heap:=s2.heap.push {cls:=.type "slice",data:=.fields #[.none,.none,.int (-1) tk]}}:=I2.kept (t':=s2.toks) λ b ob q=>zAE _ q
 obtain⟨its,r,ht,hz⟩:=I4.tuple hx;have hlen:its.toArray.size=xs.length:=by rw[zAG];exact r.length.symm
 show wpAny (model X.prog X.w) X.A (zEc e _ (.ref a) (.ref s2.heap.objs.size)) (EP X pins Z Q) X.xe _;refine zHR (ops:=[.ref a,.ref s2.heap.objs.size]) ht.typeIs zAi.lookup ?_ (by with_unfolding_all rfl);refine HT.qD ht (zD1 ..) ?_ (by rw[hlen];exact hz);refine⟨.ref _,_,I4.laid (t':=s2.toks) (o:=.tup xs.reverse) (λ b ob q=>zAE _ q) (zAO _) ?_,rfl,q _ _ (aq (I4.hok.fresh (zAO _)) _) aY⟩;exact⟨⟨by rw[zDC];exact hz,NoD.push _⟩,_,r.reverse,zF0 _ _⟩
def aDm(h:SE C m e fe):SE C m (.Subscript e (.Slice none none (some (.UnaryOp .USub (.Constant (.int 1) j p3) p4)) p2) pos) (op1 aCm fe):=by
 obtain⟨t,h1,h2⟩:=h;refine⟨aH6 C.K t,λ i=>by rw[<-C.hK i];exact aG1 (h1 i),λ τ Z H Y lab Q R W=>h2 τ Z H Y lab _ R (W.bd.imp λ d _ w x H1 s1 r1=>?_)⟩;obtain⟨z,ez,w⟩:=w.okD;cases d with
 |tup l=>
  cases ez;cases r1 with
  |tup h r=>exact⟨_,_,rfl,h,λ c H' s hc=>w _ H' (s1.trans s) (.tup (SqT.of hc) (r.reverse.up s))⟩
 |_=>cases ez
end
section
variable{C:Ct}{pos p:Pos}{m m1 m2 m3:Mode}{a b c e:Expr}{fa fb fc:En->Rs D}{ga:En->Rs (List D)}
def Ct.u0(C:Ct)(i:C.ι):(C.X i).A.units<cLine:=(C.room i).units0
def Ct.u64(C:Ct)(i:C.ι):(C.X i).A.units+64<cLine:=(C.room i).units
def Ct.ltR(C:Ct)(i:C.ι):OpR (C.X i) (zAr .Lt) (λ x y H Q=>rI0 (λ i j=>.bl (decide (i<j))) x y H Q\/aGM C.K x y H Q):=by have h:=aIt (X:=C.X i) (C.u0 i);rw[C.hK i]at h;exact h
def Ct.leR(C:Ct)(i:C.ι):OpR (C.X i) (zAr .LtE) (λ x y H Q=>rI0 (λ i j=>.bl (decide (i<=j))) x y H Q\/aGN C.K x y H Q):=by have h:=aIv (X:=C.X i) (C.u0 i);rw[C.hK i]at h;exact h
def Ct.eqRl(C:Ct)(i:C.ι):OpR (C.X i) (zAr .Eq) (aED C.K false):=by have h:=aJA (X:=C.X i) (C.u64 i);rw[C.hK i]at h;exact h
def Ct.neRl(C:Ct)(i:C.ι):OpR (C.X i) (zAr .NotEq) (aED C.K true):=by have h:=aIq (X:=C.X i) (C.u64 i);rw[C.hK i]at h;exact h
def Ct.inRl(C:Ct)(i:C.ι):OpR (C.X i) (zAr .In) (aEC C.K false):=by have h:=aIz (X:=C.X i) (C.u64 i);rw[C.hK i]at h;exact h
def Ct.ninRl(C:Ct)(i:C.ι):OpR (C.X i) (zAr .NotIn) (aEC C.K true):=by have h:=aCv (X:=C.X i) (C.u64 i);rw[C.hK i]at h;exact h
def Ct.aKd(C:Ct)(i:C.ι):OpR (C.X i) (zBs .Add) (aEE C.K):=by have h:=aGi (X:=C.X i);rw[C.hK i]at h;exact h
def aBC:D->D->Rs D:=i2 (λ _ _=>true) λ i j=>.int (i-j)
def vP:D->D->Rs D:=i2 (λ _ j=>decide (0<j)&&decide (j<1073741824)) λ i j=>.int (i / j)
def rM:D->D->Rs D:=i2 (λ _ j=>decide (0<j)) λ i j=>.int (i%j)
def aEL:D->D->Rs D:=i2 (λ i j=>decide (0<=j)&&decide (j<=1000000)&&decide (i.natAbs<2^64)) λ i j=>.int (i^j.toNat)
def bH(ha:SE C m1 a fa)(hb:SE C m2 b fb):SE C (jn m1 m2) (.BinOp a .Add b pos) (op2 bN fa fb):=xF C.aKd aIm ha hb
def oW(ha:SE C m1 a fa)(hb:SE C m2 b fb):SE C (jn m1 m2) (.BinOp a .Mult b pos) (op2 gR fa fb):=xF (λ _=>aGd) aIl ha hb
def aBF(ha:SE C m1 a fa)(hb:SE C m2 b fb):SE C (some []) (.BinOp a .Sub b pos) (op2 aBC fa fb):=eG (xF (λ _=>aIn) aGb ha hb) λ _ _ h=>jU zH h
def aCF(ha:SE C m1 a fa)(hb:SE C m2 b fb):SE C (some []) (.BinOp a .FloorDiv b pos) (op2 vP fa fb):=eG (xF (λ _=>aGe) (aB1 λ i j h=>by simpa[aKm]using h) ha hb) λ _ _ h=>jU zH h
def qt(ha:SE C m1 a fa)(hb:SE C m2 b fb):SE C (some []) (.BinOp a .Mod b pos) (op2 rM fa fb):=eG (xF (λ _=>aIs) (aB1 λ i j h=>by simpa using h) ha hb) λ _ _ h=>jU zH h
def aDn(ha:SE C m1 a fa)(hb:SE C m2 b fb):SE C (some []) (.BinOp a .Pow b pos) (op2 aEL fa fb):=eG (xF (λ _=>aIp) (aB1 λ i j h=>by simp only[zAQ,decide_eq_true_eq]at h;exact⟨h.1.1,h.1.2,h.2⟩) ha hb) λ _ _ h=>jU zH h
def aBH(ha:SE C m a fa):SE C (some []) (.UnaryOp .USub a pos) (op1 aAV fa):=eG (aKA (λ _=>aAx) aHz ha) λ _ _ h=>aHB aHC h
def aKC(ha:SE C m1 a fa)(hb:SE C m2 b fb):SE C (some []) (.Compare a [.Lt] [b] pos) (op2 ltD fa fb):=eG (yP C.ltR aEY ha hb) λ _ _ h=>jU aEw h
def aDo(ha:SE C m1 a fa)(hb:SE C m2 b fb):SE C (some []) (.Compare a [.Eq] [b] pos) (op2 (eqR false) fa fb):=eG (yP C.eqRl os_eq ha hb) λ _ _ h=>jU aEx h
def aKB(ha:SE C m1 a fa)(hb:SE C m2 b fb):SE C (some []) (.Compare a [.NotEq] [b] pos) (op2 (eqR true) fa fb):=eG (yP C.neRl os_eq ha hb) λ _ _ h=>jU aEx h
def aHd(ha:SE C m1 a fa)(hb:SE C m2 b fb)(hm:zCB .In b=false:=by with_unfolding_all rfl):SE C (some []) (.Compare a [.In] [b] pos) (op2 (inR false) fa fb):=eG (yP C.inRl aE0 ha hb hm) λ _ _ h=>jU aJ4 h
def zf(ha:SE C m1 a fa)(hb:SE C m2 b fb):ST C (.Compare a [.Lt] [b] pos) (tsb (op2 ltD fa fb)):=oO C.ltR aEY ha hb
def aJz(ha:SE C m1 a fa)(hb:SE C m2 b fb):ST C (.Compare a [.GtE] [b] pos) (tsb (op2 geD fa fb)):=oO (λ _=>aKV) aB2 ha hb
def uP(ha:SE C m1 a fa)(hb:SE C m2 b fb):ST C (.Compare a [.Eq] [b] pos) (tsb (op2 (eqR false) fa fb)):=oO C.eqRl os_eq ha hb
def wy(ha:SE C m1 a fa)(hb:SE C m2 b fb):ST C (.Compare a [.NotEq] [b] pos) (tsb (op2 (eqR true) fa fb)):=oO C.neRl os_eq ha hb
def aDc(ha:SE C m1 a fa)(hb:SE C m2 b fb)(hm:zCB .In b=false:=by with_unfolding_all rfl):ST C (.Compare a [.In] [b] pos) (tsb (op2 (inR false) fa fb)):=oO C.inRl aE0 ha hb hm
def aDb(ha:SE C m1 a fa)(hb:SE C m2 b fb)(hm:zCB .NotIn b=false:=by with_unfolding_all rfl):ST C (.Compare a [.NotIn] [b] pos) (tsb (op2 (inR true) fa fb)):=oO C.ninRl aE0 ha hb hm
def aJy(ha:SE C m1 a fa)(hb:SE C m2 b fb):ST C (.Compare a [.Is] [b] pos) (tsb (op2 (isD false) fa fb)):=oO (λ _=>aIx) aKS ha hb
def aGE(ha:SE C m1 a fa)(hb:SE C m2 b fb)(hc:SE C m3 c fc)(hm:zGs [.LtE,.LtE] [b,c]=false:=by with_unfolding_all rfl):SE C (some []) (.Compare a [.LtE,.LtE] [b,c] pos) (chD leD leD fa fb fc):=zq C.leR aEZ C.leR aEZ aJ3 ha hb hc hm
def aCE(ha:SE C m1 a fa)(hb:SE C m2 b fb)(hc:SE C m3 c fc)(hm:zGs [.LtE,.Lt] [b,c]=false:=by with_unfolding_all rfl):SE C (some []) (.Compare a [.LtE,.Lt] [b,c] pos) (chD leD ltD fa fb fc):=zq C.leR aEZ C.ltR aEY aEw ha hb hc hm
def aM(ha:SE C m1 a fa)(hb:SE C m2 b fb)(hp:zZ b:=by exact λ _ _=>rfl):SE C m1 (.Subscript a b pos) (op2 ixD fa fb):=by
 obtain⟨t,h1,h2⟩:=ha;obtain⟨u,k1,k2⟩:=hb;refine⟨tOp (rIx C.K) t u,λ i=>by rw[<-C.hK i];exact aHn aJZ (h1 i) (k1 i) hp,λ τ Z H Y lab Q R W=>?_⟩;refine h2 τ Z H Y lab _ R (W.bd.imp λ d _ w x H1 s1 r1=>?_);refine k2 τ Z H1 Y lab _ (R.up s1) (w.bd.imp λ e _ w y H2 s2 r2=>?_);obtain⟨z,ez,w⟩:=w.okD;have hi:imm e=true:=by
  unfold ixD at ez;split at ez<;>first|rfl|cases ez
 refine aKR (fpM m1 lab H) x y d e H2 Q z (r1.up s2) (r2.imm hi) ez λ v H' s r=>w v H' ((s1.trans s2).trans s) (r.wk λ p o _ q=>?_)
 rcases q with q|q
 .exact .inl ((s1.trans s2).free q)
 .exact q
def iY(hm:C.mg "len"=none)(ha:SA C m [a] ga)(he:∀i,zAU [a] (C.X i).env=[(false,eval a (C.X i).env)]:=by intro _;rfl)(hg:∀i,Gl (C.X i) "len":=by intro _;rfl):SE C (some []) (.Call (.Name "len" p) [a] [] pos) (opA gm ga):=
 eG (ji (λ i=>by have h:=zT (X:=C.X i);rw[C.hK i]at h;exact h) aJd hg hm PySem.boot_len ha (by decide) (by decide) he) λ _ _ h=>nG aHE h
def aDp(hm:C.mg "all"=none)(ha:SA C m [a] ga)(he:∀i,zAU [a] (C.X i).env=[(false,eval a (C.X i).env)]:=by intro _;rfl)(hg:∀i,Gl (C.X i) "all":=by intro _;rfl)(hv:zAo "all"=some (.builtin "all"):=by decide+kernel):SE C (some []) (.Call (.Name "all" p) [a] [] pos) (opA (n8 λ bs=>bs.all id) ga):=
 eG (ji (λ i=>aF2 (C.calm i)) aFY hg hm hv ha (by decide) (by decide) he) λ _ _ h=>nG aC3 h
def aGI(hm:C.mg "any"=none)(ha:SA C m [a] ga)(he:∀i,zAU [a] (C.X i).env=[(false,eval a (C.X i).env)]:=by intro _;rfl)(hg:∀i,Gl (C.X i) "any":=by intro _;rfl)(hv:zAo "any"=some (.builtin "any"):=by decide+kernel):SE C (some []) (.Call (.Name "any" p) [a] [] pos) (opA (n8 λ bs=>bs.any id) ga):=
 eG (ji (λ i=>aF1 (C.calm i)) aFY hg hm hv ha (by decide) (by decide) he) λ _ _ h=>nG aC3 h
def aGC(hm:C.mg "min"=none)(ha:SA C m [a,b] ga)(he:∀i,zAU [a,b] (C.X i).env=(false,eval a (C.X i).env)::zAU [b] (C.X i).env:=by intro _;rfl)(hpl:∀i,(zCF pos (zAU [b] (C.X i).env)).any (·.1)=false:=by intro _;rfl)(hg:∀i,Gl (C.X i) "min":=by intro _;rfl)(hv:zAo "min"=some (.builtin "min"):=by decide+kernel):SE C (some []) (.Call (.Name "min" p) [a,b] [] pos) (opA (mmD λ i j=>if j<i then j else i) ga):=
 eG (ji (λ i=>aDQ (C.calm i)) aHw hg hm hv ha (by decide) (by decide) he hpl) λ _ _ h=>nG aEv h
def aGD(hm:C.mg "max"=none)(ha:SA C m [a,b] ga)(he:∀i,zAU [a,b] (C.X i).env=(false,eval a (C.X i).env)::zAU [b] (C.X i).env:=by intro _;rfl)(hpl:∀i,(zCF pos (zAU [b] (C.X i).env)).any (·.1)=false:=by intro _;rfl)(hg:∀i,Gl (C.X i) "max":=by intro _;rfl)(hv:zAo "max"=some (.builtin "max"):=by decide+kernel):SE C (some []) (.Call (.Name "max" p) [a,b] [] pos) (opA (mmD λ i j=>if j>i then j else i) ga):=
 eG (ji (λ i=>aDR (C.calm i)) aHw hg hm hv ha (by decide) (by decide) he hpl) λ _ _ h=>nG aEv h
def iW(hm:C.mg "tuple"=none)(ha:SA C m [a] ga)(he:∀i,zAU [a] (C.X i).env=[(false,eval a (C.X i).env)]:=by intro _;rfl)(hg:∀i,Gl (C.X i) "tuple":=by intro _;rfl)(hv:zAo "tuple"=some (.type "tuple"):=by decide+kernel):SE C m (.Call (.Name "tuple" p) [a] [] pos) (opA cO ga):=
 zr (λ i=>by have h:=wW (X:=C.X i);rw[C.hK i]at h;exact h) aFX hg hm hv ha (by decide) (by decide) he
def aCD(hm:C.mg "list"=none)(ha:SA C m [a] ga)(he:∀i,zAU [a] (C.X i).env=[(false,eval a (C.X i).env)]:=by intro _;rfl)(hg:∀i,Gl (C.X i) "list":=by intro _;rfl)(hv:zAo "list"=some (.type "list"):=by decide+kernel):SE C m (.Call (.Name "list" p) [a] [] pos) (opA vA ga):=
 zr (λ i=>by have h:=zR (X:=C.X i);rw[C.hK i]at h;exact h) aHN hg hm hv ha (by decide) (by decide) he
def aBz(K:zAA):Sp:=λ vs H Q E=>∃a ns,vs=[.ref a]/\mq K H a ns/\ns.length<=63/\∀H',Q (.bl true) H'
def aGq{K:zAA}(h:∀ns:List Int,ns.length<=63->F [.scr ns]= .ok (.bl true)):∀vs H Q E,aBz K vs H Q E->spF K cl 1 F vs H Q E:=by
 rintro vs H Q E ⟨a,ns,rfl,hs,hl,q⟩;refine⟨[.scr ns],rfl,.cons (.scr hs) .nil,?_⟩;rw[h ns hl];intro v H' s r;cases r;exact q H'
def aIR{K:zAA}{a:Addr}(hO:Only H)(h:SqL K H a (ns.map V.int)):mq K H a ns:=by
 rcases h with (h|⟨o,h⟩)|h
 .rcases hO a with z|⟨o,xs,z⟩
  .rw[h]at z;cases z
  .rw[h]at z;cases z
 .exact .inl ⟨o,h⟩
 .exact .inr h
end
def aAK:V->List V->Hp->VK->Prop:=λ x vs H Q=>∃l b xs zs,x= .ref l/\vs=[.ref b]/\H l=some (.lst xs)/\H b=some (.lst zs)/\xs.length+zs.length<=zAP/\∀H',iC l H H'->H' l=some (.lst (xs++zs))->Q .non H'
def aB7:MtM X "list.extend" aAK:=λ pins s Z H x xs v us Q I rx rv ⟨l,b,ys,zs,e1,e2,h,h2,z,n⟩=>
 aCy pins s Z H x xs v us Q I rx rv ⟨l,b,ys,zs,e1,e2,h,h2,z,n _ (λ b o ne hb=>by rw[aj ne];exact hb) aY⟩
section
variable{C:Ct}{pos apos cpos p:Pos}{e:Expr}{fe:En->Rs D}{i:Nat}{x:Str}{m:Mode}
def aJa(ds:List D)(k:List D->Ou):D->Ou
 | .lst es=>if ds.length+es.length<=zAP then k (ds++es)else .st
 |_=>.st
def aFP(i:Nat)(fe:En->Rs D):En->Ou:=λ Y=>match Y[i]? with
 |some (.ow (.lst ds))=>(fe Y).bo (aJa ds λ l=>.nx (Y.set i (.ow (.lst l))))
 |_=>.st
def aCi(i:Nat)(he:SE C m e fe)(hm:okN m=true:=by rfl)(hN:∀j,(C.X j).N[i]? =some x:=by intro _;rfl)(hv:∀j,Vis (C.X j).env.scope x:=by intro _;first|exact zBu rfl|exact zB2 (zBu rfl)|exact zB2 (zB2 rfl))(hd:Nd x:=by decide)
  (hcd:(x==("__classdict__":Str))=false:=by decide)(hs1:∀j,zAU [e] (C.X j).env=[(false,eval e (C.X j).env)]:=by intro _;rfl)
  (hbase:∀j,zDK (.Name x p) "extend" (C.X j).env (eval (.Name x p) (C.X j).env)=eval (.Name x p) (C.X j).env:=by intro _;rfl)
  (hfew:∀j,((zCF cpos (zAU [e] (C.X j).env)).all (λ x=>!x.1)&&(zEK cpos (zCx [] (C.X j).env)).all (λ x=>x.1.isSome)&&decide ([e].length+([]:List zCL).length+(if ([]:List zCL).isEmpty then 0 else 1)<30))=true:=by intro _;rfl)
  (hline:(apos.endLine==cpos.line)=true:=by rfl)
  (hsw:∀j,zCW (.Call (.Attribute (.Name x p) "extend" apos) [e] [] cpos) none pos.line (C.X j).env=pure false:=by intro _;rfl):
  SS C (.Expr (.Call (.Attribute (.Name x p) "extend" apos) [e] [] cpos) pos) (aFP i fe):=by
 obtain⟨t,h1,h2⟩:=he;refine⟨wj (tBM C.K "list" aAK (qg i) (lN t uN)),λ j=>nC (by rw[<-C.hK j];exact aAN zBo zF9 PySem.F.type_list_extend aB7 (gj (hN j) (hv j) hd hcd) (eE (h1 j) jc (hs1 j)) (hbase j) (hfew j) hline (hs1 j) rfl) (hsw j),λ τ Z H Y lab De R W=>?_⟩;unfold aFP at W;cases es:Y[i]? with
 |none=>rw[es]at W;exact zAJ W
 |some s=>
  rw[es]at W;split at W
  .rename_i ds hs
   cases hs;rcases R.sl i _ es with z|⟨v,ev,hv'⟩
   .cases z
   .obtain⟨hv1,htop⟩:=hv'
    obtain⟨a0,ea0,la0⟩:=htop rfl;subst ea0;cases hv1 with
    |lst h mm r=>
     rename_i xs;refine⟨.ref a0,ev,.inl ⟨rfl,xs,SqL.of h⟩,h2 τ Z H Y lab _ R (W.bo.imp λ d _ w y H2 s2 r2=>?_)⟩;cases d with
     |lst es'=>
      dsimp only[aJa]at w;by_cases hz:ds.length+es'.length<=zAP
      .rw[if_pos hz]at w
       obtain⟨R',r'⟩:=R.fresh (P:=λ k=>k=1) rfl (λ k hk=>beq_iff_eq.mp (jP hm k hk)) s2 r2;have la:(bT H 1 lab a0).1=i+2:=by rw[bA h];exact la0
       cases r' with
       |lst hb mb rb=>
        rename_i b zs;refine⟨a0,b,xs,zs,rfl,rfl,s2 _ _ h,hb,by rw[r.length,rb.length];exact hz,λ H3 B h3=>?_⟩;refine w Z H3 _ (R'.mut ev (s2 _ _ h) rfl la B ⟨.lst h3 (.inr la) ?_,λ _=>⟨a0,rfl,la⟩⟩);have ra:Rps C.K (λ p=>((bT H 1 lab p).1=1\/(bT H 1 lab p).1=i+2)/\p≠a0) H2 (xs++zs) (ds++es'):=by
         refine(r.mono s2 λ p o e z=>⟨by rw[bA e];exact z.1,z.2⟩).append (rb.wk λ p o e z=>⟨.inl z.1,λ q=>?_⟩);subst q;have z1:(bT H 1 lab p).1=1:=z.1;omega
        exact ra.but B (s2 _ _ h) rfl λ z=>z.2 rfl
      .rw[if_neg hz]at w
       exact zAJ w
     |_=>exact zAJ w
  .exact zAJ W
end
section
variable{K:zAA}
theorem xK:∀{ns:List Int} {us:List Value},Vals (ns.map V.int) us->∃ts:List (Int×Tok),us=ts.map (λ q=>zCE q.1 q.2)/\ts.map zE8=ns
 |[],_,.nil=>⟨[],rfl,rfl⟩
 |n::ns,_,.cons r t=>by
  obtain⟨tk,e⟩:∃tk,_=zCE n tk:=r
  obtain⟨ts,e1,e2⟩:=xK t;subst e;exact⟨(n,tk)::ts,by rw[e1];rfl,by rw[<-e2];rfl⟩
def aDP(hc:X.calm=true):dI X (.builtin "min") (λ xs H Q=>∃(p:Addr) (ns:List Int) (m:Int),xs=[.ref p]/\H p=some (.lst (ns.map V.int))/\ns.min?=some m/\Q (.int m) H):=by
 intro pins s Z H xs us Q I r h;obtain⟨p,ns,m,rfl,hp,hm,q⟩:=h;obtain⟨u,rfl,ru⟩:=vals1 r;cases ru;obtain⟨its,rv,pl,hz⟩:=I.list (SqL.of hp);obtain⟨ts,rfl,rfl⟩:=xK rv;have hsz:0<ts.toArray.size:=by
  cases ts with
  |nil=>cases hm
  |cons a b=>simp
 refine min_intList (xs:=ts.toArray) (I.ok.hd hc) (by have:=pl.isList;simpa[intItems]using this) hsz λ v h' tk hv hk=>?_
 obtain⟨t,rfl⟩:=intItems_at hv;obtain⟨h1,h2⟩:=argBest_lt (numAt ts.toArray) (ts.toArray.size-1);have hM:(ts.map zE8).min?=some (numAt ts.toArray (argBest (λ i j=>decide (numAt ts.toArray i<numAt ts.toArray j)) (ts.toArray.size-1))):=by
  rw[List.min?_eq_some_iff];refine⟨?_,λ a ha=>?_⟩
  .rw[numAt_eq];exact getD_mem (by rw[zAD];simp at h1 hsz ⊢;omega)
  .obtain⟨j,hj,rfl⟩:=mem_getD ha
   have:=h2 j (by rw[zAD]at hj;simp;omega)
   rw[numAt_eq _ j]at this;exact this
 rw[hm]at hM;injection hM with hM
 exact⟨.int m,H,I.kept hk,⟨t,by rw[hM]⟩,q⟩
def nj(f:List Int->Option Int):List D->Rs D
 |[.lst l]=>match intsOf l with
  |some ns=>match f ns with
   |some m=>.ok (.int m)
   |none=>.st
  |none=>.st
 |_=>.st
def aHM:qd K (λ xs H Q=>∃(p:Addr) (ns:List Int) (m:Int),xs=[.ref p]/\H p=some (.lst (ns.map V.int))/\f ns=some m/\Q (.int m) H) (nj f):=by
 intro A xs ds H Q z r ez q;unfold nj at ez;split at ez
 .split at ez
  .rename_i l ns e
   split at ez
   .rename_i m em
    cases ez
    have:=cM e
    subst this;cases r with
    |cons h r=>
     cases r;cases h with
     |lst h _ r=>
      have:=r.ints_of
      subst this;exact⟨_,ns,m,rfl,h,em,q _ H (aU.refl H) (.int _)⟩
   .cases ez
  .cases ez
 .cases ez
def aEu:∀x z,nj f x= .ok z->imm z=true:=by
 intro x z e;unfold nj at e;split at e
 .split at e
  .split at e
   .cases e;rfl
   .cases e
  .cases e
 .cases e
end
section
variable{C:Ct}{pos p:Pos}{a:Expr}{ga:En->Rs (List D)}{m:Mode}
def aGB(hm:C.mg "min"=none)(ha:SA C m [a] ga)(he:∀i,zAU [a] (C.X i).env=[(false,eval a (C.X i).env)]:=by intro _;rfl)(hg:∀i,Gl (C.X i) "min":=by intro _;rfl)(hv:zAo "min"=some (.builtin "min"):=by decide+kernel):SE C (some []) (.Call (.Name "min" p) [a] [] pos) (opA (nj zEg) ga):=
 eG (ji (λ i=>aDP (C.calm i)) aHM hg hm hv ha (by decide) (by decide) he) λ _ _ h=>nG aEu h
end
end VL
namespace L2
open PySem PySem.Spec PyProof.Rows
def cxW(P:zA2)(w:World)(K:zAA)(mg:Str->Option Value)(base:Heap)(N:List Str)(qual:Str)(scope:Scope)(f:Addr)(cd:Value)(A:zAm)(s:zAH)(H:Hp)(Pt:Addr):Cx where
 prog:=P
 w:=w
 K:=K
 mg:=mg
 base:=base
 A:=A.deeper (zDp qual scope s.heap.objs.size f cd)
 N:=N
 z0:=s
 zS:=H
 env:=zDp qual scope s.heap.objs.size f cd
 outer:=[]
 stack:=[zDp qual scope s.heap.objs.size f cd]
 ex:=[Pt]
 calm:=true
 fn:=λ _=>true
 pn:=[]
 xe:=λ _ _=>False
 ta:=[(Pt,PySem.W.tabObj #[])]
 tq:=qual++".<locals>."++"<lambda>"
end L2
namespace VL
open PySem PySem.Spec PyProof.Rows L2
end VL
namespace L2
open PySem PySem.Spec PyProof.Rows
def pe_isi{X:Cx}{n0:Str}{e:Expr}{c:V}{p p' pos:Pos}(hN:X.N[0]? =some n0)(hv:X.env.scope.names.lookup n0=some .local)(hg:Gl X "isinstance")(hm:X.mg "isinstance"=none)(hc:PE X e (tC c))(hse:zAU [e] X.env=(false,eval e X.env)::zAU [] X.env:=by rfl)
  (hpl:(zCF pos (zAU [e] X.env)).any (·.1)=false:=by rfl)(d:Nd n0:=by decide)(d':(n0==("__classdict__":Str))=false:=by decide):PE X (.Call (.Name "isinstance" p) [.Name n0 p',e] [] pos) (aKu X.K c):=
 jo aDT hg hm rfl (eE (gj hN (.inl hv) d d') (eE hc jc hse)) (hpl:=hpl)
section
variable{P:zA2}{w:World}{K:zAA}{mg:Str->Option Value}{base:Heap}{x q n0 n1 n2 odd:Str}{st:Stmt}{f:Addr}{fd:zA8}{k:Nat}{wd:Addr->Option Str}{c1 c2:V}{k1 k2 k3 k4:List V}{l1 l2:List Str}{a1 a2:Expr}{as1 as2 e1 e2 e3 e4 w1 w2:List Expr}{kw1 kw2:List zCL}
 {p1 p2 p3 p4 p5 p6 p7 p8 p9 p10 p11 p12 p13 p14 p15 p16 p17 p18 p19 p20 p21 p22 p23 p24 p25 p26 p27 p28 p29 p30 p31 p32 p33 p34 p35 p36 p37 p38 p39 p40:Pos}{q1 q2 q3 q4 q5 q6 q7:Pos}{j1 j2 j3 j4 j5:Nat}
end
structure LawOk(P:zA2)(w:World)(K:zAA)(mg:Str->Option Value)(fa Pt:Addr)(k n:Nat):Prop where
 ex:∃(x name qual:Str) (params:zG9) (body:List Stmt) (scope:Scope) (dV kV doc pm ct oc:Value) (an od:Option Addr) (c:Addr) (osl:Array (Option Value)) (N:List Str),
  K.lookup Pt=none/\PySem.W.codeHdIn K c Pt=true/\K.lookup fa=some ⟨oc,od,.func (zBn name qual params body scope dV kV doc pm an (.ref c) ct),osl⟩/\zDG K (.ref c) qual=true/\aW N [x] scope/\
  (∀(s:zAH) (u:Value),zEn s (zBn name qual params body scope dV kV doc pm an (.ref c) ct) ⟨[u],[]⟩ [(x,u)])/\
  ∀(a:Addr) (ns:List Int),ns.length<=n->∀(base:Heap) (s:zAH) (H:Hp),jG k (callerA.deeper (zDp qual scope s.heap.objs.size fa (.ref c)))->aKi (cxW P w K mg base N qual scope fa (.ref c) zEX s H Pt) Pt->Only H->SqL K H a (ns.map V.int)->
   ∃t,PSs (cxW P w K mg base N qual scope fa (.ref c) zEX s H Pt) body t/\t {nx:=λ _ _=>False,rt:=λ v _=>v= .bl true} (start N [.ref a]) H
end L2
namespace VL
open PySem PySem.Spec PyProof.Rows L2
section
variable{O:zEh}{kz:Nat->O.α}{n:Nat}
def Wr{α:Type}(kz:Nat->O.α)(n:Nat):zFL α->(α->Prop)->Prop
 | .ret a,Q=>Q a
 | .ask i j k,Q=>i<n/\j<n/\Wr kz n (k (O.blt (kz i) (kz j))) Q
theorem Wr.bindI:∀{t:zFL α},Wr kz n t (λ a=>Wr kz n (g a) Q)->Wr kz n (t.bind g) Q
 | .ret _,h=>h
 | .ask _ _ _,⟨h1,h2,h3⟩=>⟨h1,h2,Wr.bindI h3⟩
abbrev Pm(n:Nat)(p:Array Nat):Prop:=p.Perm (zA3 n).toArray
def Pm.sz(h:Pm n p):p.size=n:=by
 have:=h.size_eq
 simpa using this
def Pm.in(h:Pm n p)(hi:i<n):p.getD i 0<n:=by
 have hs:i<p.size:=by rw[h.sz];exact hi
 have e:p.getD i 0=p[i]:=by simp[zCJ,hs]
 rw[e];have hm:p[i]∈(zA3 n).toArray:=h.mem_iff.mp (Array.getElem_mem hs);simpa using hm
def Kp(kz:Nat->O.α)(p:Array Nat)(i:Nat):O.α:=kz (p.getD i 0)
def aA9(h:p[i]? =q[j]?):Kp kz p i=Kp kz q j:=by
 unfold Kp;congr 1;rw[zB9,zB9,h]
def aEh(hs:c<p.size)(hd:d<=c)(k:Nat):
  Kp kz (bubble p c d) k=if k=c-d then Kp kz p c else if c-d<k/\k<=c then Kp kz p (k-1)else Kp kz p k:=by
 have e:=getElem?_bubble hs d hd k;by_cases u1:k=c-d
 .rw[if_pos u1]at e ⊢
  exact aA9 e
 .rw[if_neg u1]at e ⊢
  by_cases u2:c-d<k/\k<=c
  .rw[if_pos u2]at e ⊢
   exact aA9 e
  .rw[if_neg u2]at e ⊢
   exact aA9 e
def aBh(hj:j<=p.size)(k:Nat):Kp kz (zDa p i j) k=if i<=k/\k<j then Kp kz p (i+j-1-k)else Kp kz p k:=by
 unfold zDa;have e:=getElem?_mirror_all (i:=i) hj k;by_cases u1:i<=k/\k<j
 .rw[if_pos u1]at e ⊢
  exact aA9 e
 .rw[if_neg u1]at e ⊢
  exact aA9 e
def nF(hj:j<=p.size)(he:∀k,i<=k->k<j->Kp kz p k=Kp kz p (j-1))(k:Nat):Kp kz (zDa p i j) k=Kp kz p k:=by
 rw[aBh hj];split
 .rw[he _ (by lia) (by lia),he k (by lia) (by lia)]
 .rfl
def Up(kz:Nat->O.α)(p:Array Nat)(k:Nat):Prop:=∀i j,i<=j->j<k->O.kle (Kp kz p i) (Kp kz p j)
def Dn(kz:Nat->O.α)(p:Array Nat)(k:Nat):Prop:=∀i j,i<=j->j<k->O.kle (Kp kz p j) (Kp kz p i)
def uc(h:Pm n p)(i j:Nat):Pm n (zDa p i j):=(mirror_perm _ _ _ _).trans h
def Up.succ(h:Up kz p m)(hm:1<=m)(hl:O.kle (Kp kz p (m-1)) (Kp kz p m)):Up kz p (m+1):=by
 intro i j hij hj;by_cases q:j<m
 .exact h i j hij q
 .have q':j=m:=by lia
  subst q';by_cases q2:i=j
  .rw[q2];exact zC4 _
  .exact zDW (h i (j-1) (by lia) (by lia)) hl
def Dn.succ(h:Dn kz p m)(hm:1<=m)(hl:O.kle (Kp kz p m) (Kp kz p (m-1))):Dn kz p (m+1):=by
 intro i j hij hj;by_cases q:j<m
 .exact h i j hij q
 .have q':j=m:=by lia
  subst q';by_cases q2:i=j
  .rw[q2];exact zC4 _
  .exact zDW hl (h i (j-1) (by lia) (by lia))
theorem aAw(hp:Pm n p)(hr:r<=n):∀(f m:Nat),1<=m->m+f=r->Up kz p m->
  (∀m',1<=m'->m'<=r->Up kz p m'->(m'=r\/O.klt (Kp kz p m') (Kp kz p (m'-1)))->Q m')->Wr kz n (PySem.W.kas_asc p f m) Q
 |0,m,h1,hm,hu,k=>k m h1 (by lia) hu (.inl (by lia))
 |f+1,m,h1,hm,hu,k=>by
  refine⟨hp.in (by lia),hp.in (by lia),?_⟩;have hd:O.blt (kz (p.getD m 0)) (kz (p.getD (m-1) 0))=O.blt (Kp kz p m) (Kp kz p (m-1)):=rfl;rw[hd];cases hb:O.blt (Kp kz p m) (Kp kz p (m-1))with
  |true=>exact k m h1 (by lia) hu (.inr hb)
  |false=>exact aAw hp hr f (m+1) (by lia) (by lia) (hu.succ h1 hb) k
theorem tW(hr:r<=n):∀(f:Nat) (p:Array Nat) (m e:Nat),Pm n p->1<=m->m+f=r->Dn kz p m->e+1<=m->(∀i,m-(e+1)<=i->i<m->Kp kz p i=Kp kz p (m-1))->
  (∀p' m' e',Pm n p'->1<=m'->m'<=r->Dn kz p' m'->e'+1<=m'->(∀i,m'-(e'+1)<=i->i<m'->Kp kz p' i=Kp kz p' (m'-1))->Q (p',m',e'))->Wr kz n (PySem.W.kas_desc f p m e) Q
 |0,p,m,e,hp,h1,hm,hd,he,hq,k=>k p m e hp h1 (by lia) hd he hq
 |f+1,p,m,e,hp,h1,hm,hd,he,hq,k=>by
  have hsz:m<=p.size:=by rw[hp.sz];lia
  refine⟨hp.in (by lia),hp.in (by lia),?_⟩;have hx:O.blt (kz (p.getD m 0)) (kz (p.getD (m-1) 0))=O.blt (Kp kz p m) (Kp kz p (m-1)):=rfl;rw[hx];cases hb:O.blt (Kp kz p m) (Kp kz p (m-1))with
  |true=>
   have hd':Dn kz p (m+1):=hd.succ h1 (zEG hb);dsimp only;rw[if_pos rfl];by_cases hz:e>0
   .rw[if_pos hz]
    refine tW hr f _ (m+1) 0 (uc hp _ _) (by lia) (by lia) (λ i j hij hj=>?_) (by lia) (λ i u v=>by congr 1;lia) k;rw[nF hsz hq,nF hsz hq];exact hd' i j hij hj
   .rw[if_neg hz]
    exact tW hr f p (m+1) 0 hp (by lia) (by lia) hd' (by lia) (λ i u v=>by congr 1;lia) k
  |false=>
   dsimp only;rw[if_neg (by simp)];refine⟨hp.in (by lia),hp.in (by lia),?_⟩;have hy:O.blt (kz (p.getD (m-1) 0)) (kz (p.getD m 0))=O.blt (Kp kz p (m-1)) (Kp kz p m):=rfl;rw[hy];cases hc:O.blt (Kp kz p (m-1)) (Kp kz p m)with
   |true=>exact k p m e hp h1 (by lia) hd he hq
   |false=>
    dsimp only;rw[if_neg (by simp)];have hee:Kp kz p m=Kp kz p (m-1):=zFa hc hb;refine tW hr f p (m+1) (e+1) hp (by lia) (by lia) (hd.succ h1 hc) (by lia) (λ i u v=>?_) k;rw[show m+1-1=m by lia];by_cases hi:i=m
    .rw[hi]
    .rw[hee]
     exact hq i (by lia) (by lia)
def aBw(hr:r<=n)(hp:Pm n p)(h1:1<=m)(hm:m<=r)(hd:Dn kz p m)(k:∀m' p',Pm n p'->1<=m'->m'<=r->Up kz p' m'->Q (m',p')):Wr kz n (PySem.W.kas_tail3 m r p) Q:=by
 have hsz:m<=p.size:=by rw[hp.sz];lia
 refine Wr.bindI (aAw (uc hp 0 m) hr (r-m) m h1 (by lia) (λ i j hij hj=>?_) λ m' a1 a2 a3 _=>k m' _ (uc hp 0 m) a1 a2 a3);rw[aBh hsz,aBh hsz,if_pos (by lia),if_pos (by lia)];exact hd _ _ (by lia) (by lia)
def sI(hr:r<=n)(hp:Pm n p)(hm:m+1<=r)(hd:Dn kz p (m+1))(k:∀m' p',Pm n p'->1<=m'->m'<=r->Up kz p' m'->Q (m',p')):Wr kz n (PySem.W.kas_descPart m r p) Q:=by
 refine Wr.bindI (tW hr (r-(m+1)) p (m+1) 0 hp (by lia) (by lia) hd (by lia) (λ i u v=>by congr 1;lia) λ p' m' e' a1 a2 a3 a4 a5 a6=>?_);have hsz:m'<=p'.size:=by rw[a1.sz];lia
 dsimp only;by_cases hz:e'>0
 .rw[if_pos hz]
  refine aBw hr (uc a1 _ _) a2 a3 (λ i j hij hj=>?_) k;rw[nF hsz a6,nF hsz a6];exact a4 i j hij hj
 .rw[if_neg hz]
  exact aBw hr a1 a2 a3 a4 k
def aDZ(hr:r<=n)(hp:Pm n p)(h1:1<=r)(k:∀m' p',Pm n p'->1<=m'->m'<=r->Up kz p' m'->Q (m',p')):Wr kz n (PySem.W.kas_count r p) Q:=by
 refine Wr.bindI (aAw hp hr (r-1) 1 (zAO 1) (by lia) (λ i j hij hj=>by rw[show i=j by lia];exact zC4 _) λ m a1 a2 a3 a4=>?_);by_cases hm:m=r
 .rw[if_pos (by simpa using hm)]
  exact k m p hp a1 a2 a3
 .rw[if_neg (by simpa using hm)]
  have hl:O.klt (Kp kz p m) (Kp kz p (m-1)):=a4.resolve_left hm;by_cases hg:m>1
  .rw[if_pos hg]
   refine⟨hp.in (by lia),hp.in (by lia),?_⟩;have hx:O.blt (kz (p.getD 0 0)) (kz (p.getD (m-1) 0))=O.blt (Kp kz p 0) (Kp kz p (m-1)):=rfl;rw[hx];cases hb:O.blt (Kp kz p 0) (Kp kz p (m-1))with
   |true=>exact k m p hp a1 a2 a3
   |false=>
    dsimp only;rw[if_neg (by simp)];have hsz:m<=p.size:=by rw[hp.sz];lia
    have hall:∀i,0<=i->i<m->Kp kz p i=Kp kz p (m-1):=λ i _ hi=>zFa (a3 i (m-1) (by lia) (by lia)) (zDW hb (a3 0 i (by lia) hi))
    refine sI hr (uc hp 0 m) (by lia) (λ i j hij hj=>?_) k;rw[nF hsz hall,nF hsz hall];by_cases hjm:j<m
    .rw[hall i (by lia) (by lia),hall j (by lia) hjm];exact zC4 _
    .have hj':j=m:=by lia
     subst hj';by_cases hi:i=j
     .rw[hi];exact zC4 _
     .rw[hall i (by lia) (by lia)];exact zEG hl
  .rw[if_neg hg]
   have hm1:m=1:=by lia
   subst hm1;refine sI hr hp (by lia) (λ i j hij hj=>?_) k;by_cases hi:i=j
   .rw[hi];exact zC4 _
   .have e1:i=0:=by lia
    have e2:j=1:=by lia
    subst e1 e2;exact zEG hl
theorem uJ(hp:Pm n p)(hc:c<n)(hu:Up kz p c):∀(f l r:Nat),l<=r->r<=c->r-l<=f->(∀i,i<l->O.kle (Kp kz p i) (Kp kz p c))->(∀i,r<=i->i<c->O.klt (Kp kz p c) (Kp kz p i))->
  (∀l',l'<=c->(∀i,i<l'->O.kle (Kp kz p i) (Kp kz p c))->(∀i,l'<=i->i<c->O.klt (Kp kz p c) (Kp kz p i))->Q l')->Wr kz n (zFs p c f l r) Q
 |0,l,r,a1,a2,a3,a4,a5,k=>by
  have e:l=r:=by lia
  subst e;exact k l a2 a4 a5
 |f+1,l,r,a1,a2,a3,a4,a5,k=>by
  unfold zFs;by_cases hg:l ≥ r
  .rw[if_pos hg]
   have e:l=r:=by lia
   subst e;exact k l a2 a4 a5
  .rw[if_neg hg]
   refine⟨hp.in hc,hp.in (by lia),?_⟩;have hx:O.blt (kz (p.getD c 0)) (kz (p.getD ((l+r) / 2) 0))=O.blt (Kp kz p c) (Kp kz p ((l+r) / 2)):=rfl;rw[hx];cases hb:O.blt (Kp kz p c) (Kp kz p ((l+r) / 2))with
   |true=>exact uJ hp hc hu f l ((l+r) / 2) (by lia) (by lia) (by lia) a4 (λ i u v=>KeyOrd.klt_of_klt_of_kle hb (hu _ _ u v)) k
   |false=>exact uJ hp hc hu f ((l+r) / 2+1) r (by lia) a2 (by lia) (λ i u=>zDW (hu i ((l+r) / 2) (by lia) (by lia)) hb) a5 k
theorem aD0:∀(f:Nat) (p:Array Nat) (c:Nat),Pm n p->c+f=n->Up kz p c->(∀p',Pm n p'->Up kz p' n->Q p')->Wr kz n (PySem.W.kas_bin f p c) Q
 |0,p,c,hp,hc,hu,k=>k p hp (by rw[show n=c by lia];exact hu)
 |f+1,p,c,hp,hc,hu,k=>by
  refine Wr.bindI (uJ hp (by lia) hu c 0 c (by lia) (zAO c) (by lia) (λ i u=>by lia) (λ i u v=>by lia) λ l a1 a2 a3=>?_);refine aD0 f _ (c+1) ((bubble_perm _ _ _).trans hp) (by lia) (λ i j hij hj=>?_) k;have hs:c<p.size:=by rw[hp.sz];lia
  rw[aEh hs (by lia),aEh hs (by lia),show c-(c-l)=l by lia]
  repeat' split
  all_goals first
   |(exfalso;lia)
   |exact O.irrefl _
   |exact a2 _ (by lia)
   |exact KeyOrd.klt_asymm (a3 _ (by lia) (by lia))
   |exact hu _ _ (by lia) (by lia)
def aFl(h1:1<=n)(k:∀p,Pm n p->Up kz p n->Q p):Wr kz n (PySem.W.kas_sort n) Q:=by
 refine Wr.bindI (aDZ (zAO n) (zF6 _) h1 λ m p a1 a2 a3 a4=>?_);dsimp only;by_cases hm:m<n
 .rw[if_pos hm]
  exact aD0 _ p _ a1 (by lia) (by rw[show max m 1=m by lia];exact a4) k
 .rw[if_neg hm]
  exact k p a1 (by rw[show n=m by lia];exact a4)
theorem z9{I:zAH->Prop}(hc:∀i j (C:Bool->zAH->Prop) s,I s->i<n->j<n->(∀s',I s'->C (O.blt (kz i) (kz j)) s')->cmp i j C s):
  ∀(t:zFL α) (s:zAH),I s->Wr kz n t (λ a=>∀s',I s'->Q a s')->t.kasWp cmp Q s
 | .ret a,s,hI,h=>h s hI
 | .ask i j k,s,hI,⟨h1,h2,h3⟩=>hc i j _ s hI h1 h2 λ s' hI'=>z9 hc _ s' hI' h3
end
theorem yq:∀a:List Int,HT.lexLt a a=false
 |[]=>rfl
 |x::a=>by rw[HT.il,if_pos rfl];exact yq a
theorem pY:∀a b c:List Int,HT.lexLt a b=true->HT.lexLt b c=true->HT.lexLt a c=true
 |[],[],c,h,_=>by cases h
 |[],_::_,[],_,h=>by cases h
 |[],_::_,_::_,_,_=>rfl
 |_::_,[],_,h,_=>by cases h
 |_::_,_::_,[],_,h=>by cases h
 |x::a,y::b,z::c,h1,h2=>by
  rw[HT.il]at h1 h2 ⊢;by_cases e1:x=y
  .subst e1
   rw[if_pos rfl]at h1;by_cases e2:x=z
   .rw[if_pos e2]at h2 ⊢
    exact pY a b c h1 h2
   .rw[if_neg e2]at h2 ⊢
    exact h2
  .rw[if_neg e1]at h1
   simp only[decide_eq_true_eq]at h1;by_cases e2:y=z
   .subst e2
    rw[if_neg e1];simpa using h1
   .rw[if_neg e2]at h2
    simp only[decide_eq_true_eq]at h2;rw[if_neg (by lia)];simp only[decide_eq_true_eq];lia
theorem uz:∀a b:List Int,HT.lexLt a b=false->HT.lexLt b a=false->a=b
 |[],[],_,_=>rfl
 |[],_::_,h,_=>by cases h
 |_::_,[],_,h=>by cases h
 |x::a,y::b,h1,h2=>by
  rw[HT.il]at h1 h2;by_cases e:x=y
  .subst e
   rw[if_pos rfl]at h1 h2;rw[uz a b h1 h2]
  .rw[if_neg e]at h1
   rw[if_neg λ q=>e q.symm]at h2;simp only[decide_eq_false_iff_not]at h1 h2;lia
def aEd(a b c:List Int)(h:HT.lexLt a c=true):HT.lexLt a b=true\/HT.lexLt b c=true:=by
 cases e1:HT.lexLt a b with
 |true=>exact .inl rfl
 |false=>
  right;cases e2:HT.lexLt b a with
  |true=>exact pY b a c e2 h
  |false=>rw[<-uz a b e1 e2];exact h
def aBd:zEh:=⟨List Int,HT.lexLt,yq,pY,aEd,uz⟩
inductive dB(h:Heap):List Value->List (List Int)->Prop where
 |nil:dB h [] []
 |cons {x:Addr} {o:Obj} {xs:Array Value} {k:Nat} {ns:List Int} {vs:List Value} {nss:List (List Int)} (ho:h.get? x=some o) (hc:o.cls= .type "tuple") (hd:o.data= .seq xs k) (hi:zBH xs.toList ns) (hne:ns≠[]) (r:dB h vs nss):dB h (.ref x::vs) (ns::nss)
theorem dB.mono(k:∀x o,h.get? x=some o->o.cls= .type "tuple"->h'.get? x=some o):∀{vs:List Value} {nss:List (List Int)},dB h vs nss->dB h' vs nss
 |_,_,.nil=>.nil
 |_,_,.cons ho hc hd hi hne r=>.cons (k _ _ ho hc) hc hd hi hne (dB.mono k r)
theorem dB.at:∀{vs:List Value} {nss:List (List Int)} {i:Nat},dB h vs nss->i<vs.length->∃x o xs k,vs.getD i zBZ= .ref x/\h.get? x=some o/\o.cls= .type "tuple"/\o.data= .seq xs k/\zBH xs.toList (nss.getD i [])/\nss.getD i []≠[]
 |_,_,_,.nil,hi=>by simp at hi
 |_,_,0,.cons ho hc hd hi hne _,_=>⟨_,_,_,_,rfl,ho,hc,hd,hi,hne⟩
 |_,_,i+1,.cons _ _ _ _ _ r,hi=>by
  obtain⟨x,o,xs,k,q⟩:=dB.at (i:=i) r (by simpa using hi);exact⟨x,o,xs,k,by simpa using q⟩
theorem dB.firsts:∀{vs:List Value} {nss:List (List Int)},dB h vs nss->∃fs,PySem.W.KatTups h vs fs/\fs.length=vs.length/\∀f∈fs,∃n t,f=zCE n t
 |_,_,.nil=>⟨[],.nil,rfl,λ f hf=>by simp at hf⟩
 |_,_,.cons (xs:=xs) ho hc hd hi hne r=>by
  obtain⟨fs,h1,h2,h3⟩:=dB.firsts r;obtain⟨l,rfl⟩:∃l:List Value,xs=l.toArray:=⟨xs.toList,by simp⟩
  rw[show l.toArray.toList=l by simp]at hi;cases hi with
  |nil=>exact absurd rfl hne
  |cons n t q=>
   rename_i l' ns';refine⟨.int n t::fs,.cons ho hc hd (by simp) h1,by simp[h2],λ f hf=>?_⟩;rcases zAR.mp hf with rfl|hf
   .exact⟨n,t,rfl⟩
   .exact h3 f hf
section
variable{prog:zA2}{w:World}{A:zAm}{E:Value->zAH->Prop}{s:zAH}
def aAa:∀{xs ys:List Value} {ns ms:List Int} (i:Nat),zBH xs ns->zBH ys ms->fin=decide (xs.length<ys.length)->Q (HT.lexLt ns ms) s->PySem.W.KatLex prog w A b fin Q (xs.zip ys) i s:=by
 intro xs ys ns ms i hx;induction hx generalizing ys ms i with
 |nil=>intro hy hf q;cases hy<;>(subst hf;exact q)
 |@cons x t xs ns r ih=>
  intro hy hf q;cases hy with
  |nil=>subst hf;exact q
  |@cons y u ys ms r'=>?_
  rw[zBg];refine PySem.W.kat_cons (wpAny_eqBool_int ?_);rw[HT.il]at q;by_cases e:x=y
  .rw[if_pos e]at q
   rw[show(x==y)=true by simpa using e];exact PySem.W.kat_yes (ih (i+1) r' (by rw[hf];simp) q)
  .rw[if_neg e]at q
   rw[show(x==y)=false by simpa using e];refine PySem.W.kat_no ?_;cases hb:(b&&i==0)with
   |true=>exact oneLt_int q
   |false=>exact PySem.W.kat_one _ _ (zEi q)
def aBj(hx:s.heap.get? x=some ox)(dx:ox.data= .seq xs n)(hy:s.heap.get? y=some oy)(dy:oy.data= .seq ys k)(hi:zBH xs.toList ns)(hj:zBH ys.toList ms)
  (q:Q (HT.lexLt ns ms) s):wpAny (model prog w) A (keyLt' (tuples' b) (.ref x) (.ref y)) Q E s:=
 PySem.W.kat_lt hx dx hy dy (aAa 0 hi hj (by simp) q)
def nU(vs:List Value)(p:Array Nat):Array Value:=(p.toList.map λ i=>vs.getD i zBZ).toArray
def aFi(h:vs.length<2):(vs.toArray.zip vs.toArray).map (·.2)=nU vs (zA3 vs.length).toArray:=by
 cases vs with
 |nil=>simp[nU]
 |cons v t=>
  cases t with
  |nil=>simp[nU]
  |cons u t=>exact absurd h (zFV.mpr (Nat.le_add_left 2 t.length))
def aBc(ho:s.heap.get? a=some (zBV "list" vs.toArray c))(ht:dB s.heap vs nss)(h64:vs.length<64)
  (h:∀p:Array Nat,Pm vs.length p->Up (O:=aBd) (λ i=>nss.getD i []) p vs.length->P (.done (.ret .none)) {s with heap:=zEx s.heap a vs (nU vs p)}):
  wpAny (model prog w) A (zDw.«list.sort» ⟨[.ref a],[]⟩) P E s:=by
 have hlt:a<s.heap.objs.size:=zAS ho;have hz:vs.length<=zAP:=by rw[zCV];lia
 obtain⟨e1,ho1⟩:∃e1,(s.heap.update a (zBU λ _=>(#[]:Array Value))).get? a=some (zBV "list" #[] e1):=⟨_,zCi ho λ _=>#[]⟩
 have keep:∀x o,s.heap.get? x=some o->o.cls= .type "tuple"->(((s.heap.update a (zBU λ _=>(#[]:Array Value))).push (zBV "tuple" vs.toArray 0)).push (zBV "list" #[] 0)).get? x=some o:=λ x o e q=>by
  have hxa:x≠a:=λ z=>by
   subst z;rw[ho]at e;cases e;exact absurd q (show¬(zC3 "list"=zC3 "tuple")by decide)
  refine zAE _ (zAE _ ?_);rw[zBa _ _ _ _ hxa];exact e
 have ho6:(((s.heap.update a (zBU λ _=>(#[]:Array Value))).push (zBV "tuple" vs.toArray 0)).push (zBV "list" #[] 0)).get? a=some (zBV "list" #[] e1):=zAE _ (zAE _ ho1);have ht6:=ht.mono keep;rw[list_sort_plain];refine zAC (zGt ho rfl (zAC (zEb ho rfl ?_ (by rw[zAG];exact hz) (zAc _))));refine zAC (zHE ho1 rfl (zAC (wpAny_newTuple ?_ (by show vs.length<=_;exact hz))));refine zAC (zEd (zB6 ?_) (zAc _));show wpAny (model prog w) A _ P E {s with heap:=((s.heap.update a (zBU λ _=>(#[]:Array Value))).push (zBV "tuple" vs.toArray 0)).push (zBV "list" #[] 0)};dsimp only;have hsz:∀p:Array Nat,Pm vs.length p->(nU vs p).size=vs.length:=λ p a1=>by unfold nU;rw[zAG,zAD,zAW,a1.sz]
 by_cases h2:vs.toArray.size<2
 .rw[if_pos h2,if_pos h2]
  refine zAC (zAF ?_);rw[StateT.run_pure];refine zAC (zAF ?_);have h2':vs.length<2:=by simpa using h2
  have a1:Pm vs.length (zA3 vs.length).toArray:=zF6 _;have a3:=aFi h2';dsimp only;refine zAC (zHE ho6 rfl ?_);show wpAny (model prog w) A (Builtin.List.listUpdate (.ref a) (λ _=>(vs.toArray.zip vs.toArray).map (·.2))>>=_) P E _;rw[a3];refine zAC (zEb ho6 rfl ?_ (zAc _) (by show(nU vs _).size<=_;rw[hsz _ a1];lia));simp only[bne_self_eq_false,zAs,if_false];exact zAF (h _ a1 λ i j hij hj=>by rw[show i=j by lia];exact yq _)
 .rw[if_neg h2,if_neg h2]
  have h2':2<=vs.length:=zGx (show¬vs.length<2 by simpa using h2);obtain⟨fs,f1,f2,f3⟩:=ht6.firsts;refine zAC (PySem.W.kat_kind (T:=.type "int") f1 (by lia) (λ v hv=>?_) (by decide) ?_)
  .obtain⟨n,t,rfl⟩:=f3 v hv
   exact zH4
  rw[show(zC3 "int" !=zC3 "tuple")=true by decide];refine zAC (zBN (PySem.W.kat_run (κ:=tuples' true) (ks:=vs) (vs:=vs) (Q:=λ st s'=>s'={s with heap:=((s.heap.update a (zBU λ _=>(#[]:Array Value))).push (zBV "tuple" vs.toArray 0)).push (zBV "list" #[] 0)}/\∃p:Array Nat,Pm vs.length p/\Up (O:=aBd) (λ i=>nss.getD i []) p vs.length/\(arrOf st).map (·.2)=nU vs p/\failedOf st=none)
   (G:=λ p s'=>s'={s with heap:=((s.heap.update a (zBU λ _=>(#[]:Array Value))).push (zBV "tuple" vs.toArray 0)).push (zBV "list" #[] 0)}/\Pm vs.length p/\Up (O:=aBd) (λ i=>nss.getD i []) p vs.length)
   rfl h2' h64 (λ p st s' _ b2 b3 b4=>⟨b4.1,p,b4.2.1,b4.2.2,PySem.W.kat_snds rfl b2,b3⟩) ?_) (λ r s' hr=>?_) λ _ _ e=>e)
  .refine z9 (O:=aBd) (kz:=λ i=>nss.getD i []) (n:=vs.length) (I:=λ s'=>s'={s with heap:=((s.heap.update a (zBU λ _=>(#[]:Array Value))).push (zBV "tuple" vs.toArray 0)).push (zBV "list" #[] 0)}) (λ i j C s' hI hi hj hC=>?_) _ _ rfl (aFl (by lia) λ p a1 a2 s' hs'=>⟨hs',a1,a2⟩)
   subst hI;unfold PySem.W.kas_ask;obtain⟨x,ox,xs,kx,x1,x2,_,x4,x5,_⟩:=ht6.at hi;obtain⟨y,oy,ys,ky,y1,y2,_,y4,y5,_⟩:=ht6.at hj;rw[x1,y1];exact aBj x2 x4 y2 y4 x5 y5 (hC _ rfl)
  .obtain⟨⟨⟩,st⟩:=r
   obtain⟨e,p,b1,b2,b3,b4⟩:=hr;subst e;refine zAC (zHE ho6 rfl ?_);rw[b3,b4];refine zAC (zEb ho6 rfl ?_ (zAc _) (by show(nU vs p).size<=_;rw[hsz p b1];lia));simp only[bne_self_eq_false,zAs,if_false];exact zAF (h p b1 b2)
end
theorem sub_len[BEq α][LawfulBEq α]:∀{l l':List α},l.Nodup->(∀x∈l,x∈l')->l.length<=l'.length
 |[],_,_,_=>zAc _
 |x::l,l',nd,h=>by
  have hx:x∈l':=h x zAN;have ih:=sub_len (l:=l) (l':=l'.erase x) (zAl.mp nd).2 λ y hy=>(zFn λ e=>by subst e;exact(zAl.mp nd).1 hy).mpr (h y (zAM _ hy))
  rw[List.length_erase_of_mem hx]at ih
  have:0<l'.length:=List.length_pos_of_mem hx
  rw[zAf];lia
def Ris(xs:Array Nat):Prop:=∀i j,i<j->j<xs.size->xs.getD i 0<xs.getD j 0
theorem zU(hr:Ris xs):∀(f lo hi:Nat),lo<=hi->hi<=xs.size->hi-lo<=f->(∀i,i<lo->xs.getD i 0<j)->(∀i,hi<=i->i<xs.size->j<=xs.getD i 0)->
  zCt xs j f lo hi<=xs.size/\(∀i,i<zCt xs j f lo hi->xs.getD i 0<j)/\∀i,zCt xs j f lo hi<=i->i<xs.size->j<=xs.getD i 0
 |0,lo,hi,h1,h2,h3,h4,h5=>by
  have e:lo=hi:=by lia
  subst e;exact⟨h2,h4,h5⟩
 |f+1,lo,hi,h1,h2,h3,h4,h5=>by
  unfold zCt;by_cases hl:lo<hi
  .rw[if_pos hl]
   dsimp only;have hm:(lo+hi) / 2<xs.size:=by lia
   have e:xs.getD ((lo+hi) / 2) j=xs.getD ((lo+hi) / 2) 0:=by simp[zCJ,hm]
   rw[e];by_cases hc:xs.getD ((lo+hi) / 2) 0<j
   .rw[if_pos hc]
    refine zU hr f _ hi (by lia) h2 (by lia) (λ i hi'=>?_) h5;by_cases q:i=(lo+hi) / 2
    .rw[q];exact hc
    .exact zE2 (hr i ((lo+hi) / 2) (by lia) hm) hc
   .rw[if_neg hc]
    refine zU hr f lo _ (by lia) (by lia) (by lia) h4 λ i q1 q2=>?_
    by_cases q:i=(lo+hi) / 2
    .rw[q];lia
    .have:=hr ((lo+hi) / 2) i (by lia) q2
     lia
  .rw[if_neg hl]
   have e:lo=hi:=by lia
   subst e;exact⟨h2,h4,h5⟩
def qY(hr:Ris xs)(j:Nat):zAa xs j<=xs.size/\(∀i,i<zAa xs j->xs.getD i 0<j)/\∀i,zAa xs j<=i->i<xs.size->j<=xs.getD i 0:=
 zU hr xs.size 0 xs.size (zAc _) (zAO _) (by lia) (λ i h=>by lia) λ i h1 h2=>by lia
structure fO(t:zCh)(n:Nat):Prop where
 dum:t.dummies=#[]
 siz:t.place.size=n
 ris:Ris t.place
 top:∀i,i<n->t.place.getD i 0<=t.mask
 msk:t.mask=7/\n<5\/t.mask=31/\n<19\/t.mask=127/\n<77
 pla:t.plain=true
def fO.fresh(led:Bool):fO (zGN 0 0 led) 0:=⟨rfl,rfl,λ i j _ h=>by simp[zGN]at h,λ i h=>by lia,.inl ⟨rfl,by lia⟩,rfl⟩
def fO.few(h:fO t n):n<t.mask:=by
 rcases h.msk with ⟨e,l⟩|⟨e,l⟩|⟨e,l⟩<;>lia
theorem fO.fill(h:fO t n):t.fill=n:=by unfold zG3;rw[h.dum,h.siz];rfl
theorem fO.fits(h:fO t n):t.fits n=true:=by
 unfold zG4;rw[h.fill,h.siz]
 have:=h.few
 simp;lia
def yK(h:fO t n)(j:Nat):t.slot j= .empty\/∃i,i<n/\t.slot j= .live i/\t.place.getD i 0=j:=by
 unfold zG5;dsimp only;by_cases e:(t.place[zAa t.place j]? ==some j)=true
 .rw[if_pos e]
  have e':=beq_iff_eq.mp e;obtain⟨h1,h2⟩:=zCN.mp e';exact .inr ⟨_,by rw[<-h.siz];exact h1,rfl,by simp[zCJ,h1,h2]⟩
 .rw[if_neg e]
  have:zD4 t.dummies j=false:=by rw[h.dum];unfold zD4;simp
  rw[this];exact .inl (by simp)
def aDf(h:fO t n)(e:t.slot j= .empty):∀i,i<n->t.place.getD i 0≠j:=by
 intro i hi q;obtain⟨b1,b2,b3⟩:=qY h.ris j;have hb:zAa t.place j=i:=by
  rcases zGk (zAa t.place j) i with z|z|z
  .have z1:=b3 _ (zAO _) (by rw[h.siz];lia)
   have z2:=h.ris _ i z (by rw[h.siz];exact hi);lia
  .exact z
  .have:=b2 i z
   lia
 have hi':i<t.place.size:=by rw[h.siz];exact hi
 have e2:t.place[i]? =some j:=by rw[zCN];exact⟨hi',by rw[<-q];simp[zCJ,hi']⟩
 unfold zG5 at e;dsimp only at e;rw[hb,e2]at e;simp at e
def lY(mask:Nat):Nat->Nat×Nat->Nat×Nat
 |0,st=>st
 |k+1,st=>lY mask k (zBI mask st.1 st.2)
theorem aAZ(mask:Nat):∀(k:Nat) (st:Nat×Nat),(lY mask k st).2=st.2 / 32^k
 |0,st=>by simp[lY]
 |k+1,st=>by
  show(lY mask k (zBI mask st.1 st.2)).2=_
  rw[aAZ mask k];show st.2 / 32 / 32^k=_;rw[Nat.div_div_eq_div_mul,Nat.pow_succ,Nat.mul_comm]
theorem aA2(mask:Nat):∀(j k:Nat) (st:Nat×Nat),lY mask (j+k) st=lY mask k (lY mask j st)
 |0,k,st=>by rw[zFr];rfl
 |j+1,k,st=>by
  rw[show j+1+k=(j+k)+1 by lia];exact aA2 mask j k _
def orb(M:Nat):Nat->Nat->Nat
 |0,i=>i
 |k+1,i=>orb M k ((i*5+1)%M)
theorem uB(M:Nat):∀(j k i:Nat),orb M (j+k) i=orb M k (orb M j i)
 |0,k,i=>by rw[zFr];rfl
 |j+1,k,i=>by
  rw[show j+1+k=(j+k)+1 by lia];exact uB M j k _
theorem aA0(mask:Nat):∀(k i:Nat),lY mask k (i,0)=(orb (mask+1) k i,0)
 |0,i=>rfl
 |k+1,i=>by
  show lY mask k (zBI mask i 0)=_
  have:zBI mask i 0=((i*5+1)%(mask+1),0):=by simp[zBI]
  rw[this];exact aA0 mask k _
def aCu:∀M∈[8,32,128],(∀t∈zA3 M,∃k∈zA3 M,orb M k 0=t)/\orb M M 0=0:=by decide+kernel
def aGc(hm:mask=7\/mask=31\/mask=127)(hi:i<=mask)(ht:t<=mask):∃k,k<=mask/\orb (mask+1) k i=t:=by
 have hM:mask+1∈[8,32,128]:=by rcases hm with e|e|e<;>subst e<;>decide
 obtain⟨h1,h2⟩:=aCu _ hM;obtain⟨a,ha,ea⟩:=h1 i (by simp;lia);obtain⟨b,hb,eb⟩:=h1 t (by simp;lia);simp only[zBk]at ha hb;by_cases hab:a<=b
 .refine⟨b-a,by lia,?_⟩
  rw[<-ea,<-uB,show a+(b-a)=b by lia,eb]
 .refine⟨mask+1-a+b,by lia,?_⟩
  rw[<-ea,<-uB,show a+(mask+1-a+b)=(mask+1)+b by lia,uB,h2,eb]
def aHQ(h:Int):zAn h<2^64:=by
 unfold zAn;have h1:=zDE h (show(2^64:Int)≠0 by decide);have h2:=zC9 h (show(0:Int)<2^64 by decide);lia
def aA1(hm:mask=7\/mask=31\/mask=127)(h:Int)(ht:t<=mask)(yY:Nat):∃k,k<mask+15/\(lY mask k (yY,zAn h)).1=t:=by
 have e1:(lY mask 13 (yY,zAn h)).2=0:=by
  rw[aAZ]
  have:=aHQ h
  exact Nat.div_eq_of_lt (zE2 this (by decide))
 have e2:(lY mask 13 (yY,zAn h)).1<=mask:=by
  show(lY mask 12 (zBI mask yY (zAn h))).1<=mask
  have go:∀k (st:Nat×Nat),st.1<=mask->(lY mask k st).1<=mask:=by
   intro k;induction k with
   |zero=>intro st q;exact q
   |succ k ih=>
    intro st q;refine ih _ ?_
    show(st.1*5+1+st.2 / 32)%(mask+1)<=mask
    exact zCR (zDX _ (zDM _))
  refine go 12 _ ?_
  show(yY*5+1+zAn h / 32)%(mask+1)<=mask
  exact zCR (zDX _ (zDM _))
 obtain⟨k,hk,ek⟩:=aGc hm e2 ht;refine⟨13+k,by lia,?_⟩;rw[aA2];have e3:lY mask 13 (yY,zAn h)=((lY mask 13 (yY,zAn h)).1,0):=by rw[<-e1]
 rw[e3,aA0];exact ek
def xG(hi:i<=mask):i<=zBS mask i/\zBS mask i<=mask/\zBS mask i<=i+9:=by
 unfold zBS;split<;>lia
section
variable{t:zCh}{n:Nat}{hashAt:Nat->Int}{h:Int}
abbrev aCH(t:zCh)(i pert:Nat):zE4:={j:=i,more:=zBS t.mask i-i,i:=i,perturb:=pert,dummy:=none}
def aFF(fuel:Nat)(p:zE4):zBd t hashAt h (fuel+1) p=(match t.slot p.j with
  | .empty=>some (.empty p.j p.dummy)
  | .dummy=>zBd t hashAt h fuel (t.advance {p with dummy:=some p.j})
  | .live i=>if hashAt i==h then some (.candidate p.j i (t.advance p))else zBd t hashAt h fuel (t.advance p)):=rfl
theorem aFE(T:fO t n)(hh:∀i,i<n->hashAt i≠h):∀(m fuel:Nat) (p:zE4),p.more=m->p.dummy=none->
  (∃j,p.j<=j/\j<=p.j+m/\t.slot j= .empty/\zBd t hashAt h (fuel+m+1) p=some (.empty j none))\/
  (t.slot p.j≠.empty/\zBd t hashAt h (fuel+m+1) p=zBd t hashAt h fuel (aCH t (zBI t.mask p.i p.perturb).1 (zBI t.mask p.i p.perturb).2))
 |0,fuel,p,hm,hd=>by
  rw[show fuel+0+1=fuel+1 from rfl,aFF];rcases yK T p.j with e|⟨i,hi,e,_⟩
  .rw[e]
   exact .inl ⟨p.j,zAO _,zAO _,e,by rw[hd]⟩
  .rw[e]
   right;refine⟨by simp,?_⟩;dsimp only;rw[if_neg (by simpa using hh i hi)];congr 1;unfold zFu;rw[if_neg (by lia)];simp[aCH,hd]
 |m+1,fuel,p,hm,hd=>by
  rw[aFF];rcases yK T p.j with e|⟨i,hi,e,_⟩
  .rw[e]
   exact .inl ⟨p.j,zAO _,by lia,e,by rw[hd]⟩
  .rw[e]
   dsimp only;rw[if_neg (by simpa using hh i hi)];have ha:t.advance p={p with j:=p.j+1,more:=p.more-1}:=by
    unfold zFu;rw[if_pos (by lia)]
   rw[ha];rcases aFE T hh m fuel {p with j:=p.j+1,more:=p.more-1} (by show p.more-1=m;lia) hd with ⟨j,q1,q2,q3,q4⟩|⟨q1,q2⟩
   .exact .inl ⟨j,by show p.j<=j;have:p.j+1<=j:=q1;lia,by have:j<=p.j+1+m:=q2;lia,q3,q4⟩
   .exact .inr ⟨by simp,q2⟩
theorem aC4(T:fO t n)(hh:∀i,i<n->hashAt i≠h):∀(N fuel i pert:Nat),i<=t.mask->10*N<=fuel->
  (∃j,j<=t.mask/\t.slot j= .empty/\zBd t hashAt h fuel (aCH t i pert)=some (.empty j none))\/∀k,k<N->t.slot (lY t.mask k (i,pert)).1≠.empty
 |0,fuel,i,pert,hi,hf=>.inr λ k hk=>by lia
 |N+1,fuel,i,pert,hi,hf=>by
  obtain⟨r1,r2,r3⟩:=xG hi;obtain⟨f',rfl⟩:∃f',fuel=f'+(zBS t.mask i-i)+1:=⟨fuel-(zBS t.mask i-i)-1,by lia⟩
  rcases aFE T hh (zBS t.mask i-i) f' (aCH t i pert) rfl rfl with ⟨j,q1,q2,q3,q4⟩|⟨q1,q2⟩
  .exact .inl ⟨j,by have:j<=i+(zBS t.mask i-i):=q2;lia,q3,q4⟩
  .have hl:(zBI t.mask i pert).1<=t.mask:=zCR (zDX _ (zDM _))
   rcases aC4 T hh N f' _ (zBI t.mask i pert).2 hl (by lia)with ⟨j,s1,s2,s3⟩|s
   .exact .inl ⟨j,s1,s2,q2.trans s3⟩
   .right
    intro k hk;cases k with
    |zero=>exact q1
    |succ k=>exact s k (by lia)
def fO.mask3(T:fO t n):t.mask=7\/t.mask=31\/t.mask=127:=by
 rcases T.msk with ⟨e,_⟩|⟨e,_⟩|⟨e,_⟩
 .exact .inl e
 .exact .inr (.inl e)
 .exact .inr (.inr e)
def aBX(T:fO t n)(hh:∀i,i<n->hashAt i≠h):∃j,j<=t.mask/\t.slot j= .empty/\t.probe hashAt h (t.probeStart h)=some (.empty j none):=by
 have hs:zAn h%(t.mask+1)<=t.mask:=zCR (zDX _ (zDM _));rcases aC4 T hh (t.mask+15) (10*zCa t.mask) _ (zAn h) hs (by unfold zCa;lia)with z|z
 .exact z
 .exfalso
  have hall:∀x∈zA3 (t.mask+1),x∈t.place.toList:=by
   intro x hx;simp only[zBk]at hx;obtain⟨k,hk,ek⟩:=aA1 T.mask3 h (t:=x) (by lia) (zAn h%(t.mask+1))
   have:=z k hk
   rw[ek]at this;rcases yK T x with e|⟨i,hi,_,e⟩
   .exact absurd e this
   .rw[<-e]
    have hi':i<t.place.size:=by rw[T.siz];exact hi
    rw[show t.place.getD i 0=t.place[i]by simp[zCJ,hi']];exact Array.getElem_mem_toList hi'
  have:=sub_len zGh hall
  have h2:=T.few;rw[zDT,zAW,T.siz]at this;lia
end
def uE(xs:Array α)(p:Nat)(x d:α)(hp:p<=xs.size)(i:Nat):(zBA xs p x).getD i d=if i<p then xs.getD i d else if i=p then x else xs.getD (i-1) d:=by
 have e:∀(ys:Array α) i,ys.getD i d=(ys.toList[i]?).getD d:=λ ys i=>by rw[zB9,zB4]
 rw[e,e,e,SetTable.toList_insertAt];have hl:p<=xs.toList.length:=by simpa using hp
 by_cases h1:i<p
 .rw[if_pos h1,zBj (by rw[zB7];lia),List.getElem?_take,if_pos h1]
 .rw[if_neg h1,zBe (by rw[zB7];lia),zB7,Nat.min_eq_left hl]
  by_cases h2:i=p
  .rw[if_pos h2,h2,Nat.sub_self]
   rfl
  .rw[if_neg h2,show i-p=(i-p-1)+1 by lia,zAj,List.getElem?_drop]
   congr 2;lia
def ph(xs:Array α)(p:Nat)(x:α):(zBA xs p x).size=xs.size+1:=by
 rw[<-zAW,(zEq xs p x).length_eq,zEM];simp
def sO{t:zCh}(hf:t.fill=n):t.tooFull=decide (t.mask*3<=n*5):=by unfold SetTable.tooFull;rw[hf]
structure mj(t:zCh)(n:Nat):Prop where
 dum:t.dummies=#[]
 siz:t.place.size=n
 ris:Ris t.place
 top:∀i,i<n->t.place.getD i 0<=t.mask
 msk:t.mask=7/\n<=5\/t.mask=31/\n<=19\/t.mask=127/\n<77
 pla:t.plain=true
theorem mj.fill(h:mj t n):t.fill=n:=by unfold zG3;rw[h.dum,h.siz];rfl
theorem mj.fits(h:mj t n):t.fits n=true:=by
 unfold zG4;rw[h.fill,h.siz]
 have:=h.msk
 simp;lia
def aI2(T:fO t n)(h64:n<63)(hj:j<=t.mask)(he:t.slot j= .empty):mj (t.put j).1 (n+1)/\(t.put j).2=zAa t.place j/\(t.put j).2<=n/\(t.put j).1.mask=t.mask/\(t.put j).1.led=t.led:=by
 have hno:=aDf T he;obtain⟨b1,b2,b3⟩:=qY T.ris j;have hsz:=T.siz;have hg:=uE t.place (zAa t.place j) j 0 b1;refine⟨⟨?_,?_,?_,?_,?_,T.pla⟩,rfl,by rw[<-hsz];exact b1,rfl,rfl⟩
 .show(if zD4 t.dummies j then SetTable.eraseAt t.dummies (zAa t.dummies j)else t.dummies)=#[]
  rw[T.dum]
  have:zD4 #[] j=false:=by unfold zD4;simp
  rw[this];rfl
 .show(zBA t.place _ j).size=n+1
  rw[ph,hsz]
 .intro a b hab hb
  have hb':b<n+1:=by
   have:b<(zBA t.place (zAa t.place j) j).size:=hb
   rw[ph,hsz]at this;exact this
  show(zBA t.place (zAa t.place j) j).getD a 0<(zBA t.place (zAa t.place j) j).getD b 0
  rw[hg,hg];by_cases a1:a<zAa t.place j
  .rw[if_pos a1]
   by_cases c1:b<zAa t.place j
   .rw[if_pos c1];exact T.ris a b hab (by lia)
   .rw[if_neg c1]
    by_cases c2:b=zAa t.place j
    .rw[if_pos c2];exact b2 a a1
    .rw[if_neg c2]
     exact T.ris a (b-1) (by lia) (by lia)
  .rw[if_neg a1,if_neg (show¬b<zAa t.place j by lia),if_neg (show¬b=zAa t.place j by lia)]
   by_cases a2:a=zAa t.place j
   .rw[if_pos a2]
    have q1:=b3 (b-1) (by lia) (by lia);have q2:=hno (b-1) (by lia);lia
   .rw[if_neg a2]
    exact T.ris (a-1) (b-1) (by lia) (by lia)
 .intro i hi
  show(zBA t.place (zAa t.place j) j).getD i 0<=t.mask
  rw[hg];split
  .exact T.top i (by lia)
  .split
   .exact hj
   .exact T.top (i-1) (by lia)
 .have:=T.msk
  show t.mask=7/\n+1<=5\/t.mask=31/\n+1<=19\/t.mask=127/\n+1<77;lia
def mj.still{t:zCh}(h:mj t n)(hf:t.tooFull=false):fO t n:=by
 rw[sO h.fill]at hf;simp only[decide_eq_false_iff_not]at hf;refine⟨h.dum,h.siz,h.ris,h.top,?_,h.pla⟩;rcases h.msk with ⟨e,l⟩|⟨e,l⟩|⟨e,l⟩<;>rw[e]at hf
 .exact .inl ⟨e,by lia⟩
 .exact .inr (.inl ⟨e,by lia⟩)
 .exact .inr (.inr ⟨e,by lia⟩)
def mj.full{t:zCh}(h:mj t n)(h64:n<=63)(hf:t.tooFull=true):n=5\/n=19:=by
 rw[sO h.fill]at hf;simp only[decide_eq_true_eq]at hf
 have:=h.msk
 lia
def heldBy(owner:Array (Option Nat)):List Nat:=owner.toList.filterMap id
theorem vN:∀(l:List (Option Nat)) (j x:Nat),l[j]? =some none->((l.set j (some x)).filterMap id).Perm (x::l.filterMap id)
 |[],j,x,h=>by simp at h
 |a::l,0,x,h=>by
  simp at h;subst h;exact zBE _
 |none::l,j+1,x,h=>by
  have ih:=vN l j x (by simpa using h);simpa using ih
 |some a::l,j+1,x,h=>by
  have ih:=vN l j x (by simpa using h)
  have:(((some a::l).set (j+1) (some x)).filterMap id).Perm (a::x::l.filterMap id):=by
   simpa using ih.cons a
  exact this.trans (zCz _ _ _)
theorem xO:∀(l:List (Option Nat)),(∀j,j<l.length->∃x,l[j]? =some (some x))->(l.filterMap id).length=l.length
 |[],_=>rfl
 |a::l,h=>by
  obtain⟨x,e⟩:=h 0 (by simp);have ex:a=some x:=by simpa using e
  subst ex;have ih:=xO l λ j hj=>by simpa using h (j+1) (by simpa using hj)
  simp[ih]
theorem aC5(ho:owner.size=mask+1):∀(N i pert:Nat),i<=mask->
  (∃j,owner.toList[j]? =some none/\zBh mask owner N i pert=some j)\/∀k,k<N->∃x,owner.toList[(lY mask k (i,pert)).1]? =some (some x)
 |0,i,pert,hi=>.inr λ k hk=>by lia
 |N+1,i,pert,hi=>by
  obtain⟨r1,r2,r3⟩:=xG hi;have hone:zBh mask owner (N+1) i pert=(match (zA3 (zBS mask i+1-i)).find? λ k=>(owner.getD (i+k) (some 0)).isNone with
   |some k=>some (i+k)
   |none=>zBh mask owner N (zBI mask i pert).1 (zBI mask i pert).2):=rfl
  rw[hone];cases hf:(zA3 (zBS mask i+1-i)).find? λ k=>(owner.getD (i+k) (some 0)).isNone with
  |some k=>
   left;have h1:=List.mem_of_find?_eq_some hf;have h2:=List.find?_some hf;simp only[zBk]at h1;have hlt:i+k<owner.size:=by lia
   refine⟨i+k,?_,rfl⟩;have e:owner.getD (i+k) (some 0)=owner[i+k]:=by simp[zCJ,hlt]
   rw[e]at h2;rw[zB4,zCN];exact⟨hlt,by simpa using h2⟩
  |none=>
   have h0:=List.find?_eq_none.mp hf 0 (by simp;lia);have hlt:i<owner.size:=by lia
   have e:owner.getD (i+0) (some 0)=owner[i]:=by simp[zCJ,hlt]
   rw[e]at h0;have hl:(zBI mask i pert).1<=mask:=zCR (zDX _ (zDM _));rcases aC5 ho N _ (zBI mask i pert).2 hl with ⟨j,s1,s2⟩|s
   .exact .inl ⟨j,s1,s2⟩
   .right
    intro k hk;cases k with
    |zero=>
     show∃x,owner.toList[i]? =some (some x)
     rw[zB4];cases q:owner[i]with
     |none=>rw[q]at h0;simp at h0
     |some x=>exact⟨x,by rw[zCN];exact⟨hlt,q⟩⟩
    |succ k=>exact s k (by lia)
def aDL(hm:mask=7\/mask=31\/mask=127)(ho:owner.size=mask+1)(hfew:(heldBy owner).length<mask+1)(h:Int):
  ∃j,owner.toList[j]? =some none/\zBh mask owner (zCa mask) (zAn h%(mask+1)) (zAn h)=some j:=by
 rcases aC5 ho (zCa mask) _ (zAn h) (zCR (zDX (zAn h) (zDM mask)))with z|z
 .exact z
 .exfalso
  have:=xO owner.toList λ j hj=>by
   rw[zAW,ho]at hj;obtain⟨k,hk,ek⟩:=aA1 hm h (t:=j) (by lia) (zAn h%(mask+1));obtain⟨x,e⟩:=z k (by unfold zCa;lia);rw[ek]at e;exact⟨x,e⟩
  unfold heldBy at hfew;rw[this,zAW]at hfew;lia
def uC(mask:Nat)(acc:Option (Array (Option Nat)×Nat))(h:Int):Option (Array (Option Nat)×Nat):=do
 let(owner,k) <-acc
 let j <-zBh mask owner (zCa mask) (zAn h%(mask+1)) (zAn h)
 pure (owner.setIfInBounds j (some k),k+1)
theorem aA5(hm:mask=7\/mask=31\/mask=127):∀(hs:List Int) (owner:Array (Option Nat)) (k:Nat),owner.size=mask+1->(heldBy owner).Perm (zA3 k)->k+hs.length<=mask->
  ∃owner',hs.foldl (uC mask) (some (owner,k))=some (owner',k+hs.length)/\owner'.size=mask+1/\(heldBy owner').Perm (zA3 (k+hs.length))
 |[],owner,k,ho,hp,hl=>⟨owner,rfl,ho,hp⟩
 |h::hs,owner,k,ho,hp,hl=>by
  rw[zAf]at hl;obtain⟨j,e1,e2⟩:=aDL hm ho (by rw[hp.length_eq,zDT];lia) h;have hst:uC mask (some (owner,k)) h=some (owner.setIfInBounds j (some k),k+1):=by
   unfold uC;simp[e2]
  rw[zCG,hst];obtain⟨o',f1,f2,f3⟩:=aA5 hm hs (owner.setIfInBounds j (some k)) (k+1) (by simpa using ho) (by
   unfold heldBy;rw[Array.toList_setIfInBounds];refine(vN owner.toList j k e1).trans ?_;rw[zGv];exact(List.Perm.cons k hp).trans (List.perm_append_singleton k _).symm) (by lia)
  refine⟨o',?_,f2,?_⟩
  .rw[f1,zAf,show k+1+hs.length=k+(hs.length+1)by lia]
  .rw[zAf,show k+(hs.length+1)=k+1+hs.length by lia]
   exact f3
def aFC(m:Nat):heldBy (zE6 m none)=[]:=by
 unfold heldBy;rw[Array.toList_replicate];induction m with
 |zero=>rfl
 |succ m ih=>rw[zB1];simpa using ih
def aA6(hm:mask=7\/mask=31\/mask=127)(hs:Array Int)(hl:hs.size<=mask):∃owner,zFi mask hs=some owner/\owner.size=mask+1/\(heldBy owner).Perm (zA3 hs.size):=by
 obtain⟨o',f1,f2,f3⟩:=aA5 hm hs.toList (zE6 (mask+1) none) 0 (by simp) (by rw[aFC];exact zBE _) (by simpa using hl);refine⟨o',?_,f2,by simpa using f3⟩;have e:zFi mask hs=(hs.foldl (uC mask) (some (zE6 (mask+1) none,0))).map (·.1):=rfl;rw[e,<-Array.foldl_toList,f1];rfl
def jd(owner:Array (Option Nat))(m:Nat):List (Nat×Nat):=(zA3 m).filterMap λ j=>(owner.getD j none).map (j,·)
theorem aAX:∀(l:List (Option Nat)) (b:Nat) (f:Nat->Option Nat),(∀i,i<l.length->f (b+i)=(l[i]?).getD none)->
  ((zGA b l.length).filterMap λ j=>(f j).map (j,·)).map (·.2)=l.filterMap id
 |[],_,_,_=>rfl
 |a::l,b,f,h=>by
  have h0:=h 0 (by simp);simp at h0;have ih:=aAX l (b+1) f λ i hi=>by
   have:=h (i+1) (by simpa using hi)
   rw[show b+(i+1)=b+1+i by lia]at this;simpa using this
  rw[zAf,zGi,zBM,h0];cases a with
  |none=>simpa using ih
  |some x=>simpa using ih
def aBb(owner:Array (Option Nat)):(jd owner owner.size).map (·.2)=heldBy owner:=by
 have:=aAX owner.toList 0 (λ j=>owner.getD j none) λ i hi=>by
  rw[zFr,zB9,zB4]
 unfold jd heldBy;rw[zFp,<-this,zAW]
theorem aAY(f:Nat->Option Nat):∀(m b:Nat),(((zGA b m).filterMap λ j=>(f j).map (j,·)).map (·.1)).Pairwise (·< ·)/\∀x∈((zGA b m).filterMap λ j=>(f j).map (j,·)).map (·.1),b<=x/\x<b+m
 |0,b=>⟨.nil,λ x hx=>by simp at hx⟩
 |m+1,b=>by
  obtain⟨ih1,ih2⟩:=aAY f m (b+1);rw[zGi,zBM];cases hf:f b with
  |none=>
   simp only[zG0];exact⟨ih1,λ x hx=>by have:=ih2 x hx;lia⟩
  |some y=>
   simp only[zCC,zAT];refine⟨zA4.mpr ⟨λ x hx=>by have:=ih2 x hx;lia,ih1⟩,λ x hx=>?_⟩;rcases zAR.mp hx with e|hx
   .lia
   .have:=ih2 x hx
    lia
def aDu{l:List Nat}(h:l.Pairwise (·< ·)):Ris l.toArray:=by
 intro i j hij hj;have hj':j<l.length:=by simpa using hj
 have e:∀k,k<l.length->l.toArray.getD k 0=l[k]!:=λ k hk=>by simp[zCJ,hk]
 have:=zCZ.mp h i j (by lia) hj' hij
 simp[zCJ,hj',show i<l.length by lia];exact this
def aDx{t:zCh}(hp:t.plain=true)(hn:n=5\/n=19)(hs:Array Int)(hl:hs.size=n):
  ∃t' order,t.relaid hs (zE5 n)=some (t',order)/\fO t' n/\t'.led=t.led/\order.toList.Perm (zA3 n):=by
 have hm:∃mask,SetTable.sizeAbove (zE5 n)-1=mask/\(mask=31/\n=5\/mask=127/\n=19):=by
  rcases hn with e|e<;>subst e
  .exact⟨31,by decide,.inl ⟨rfl,rfl⟩⟩
  .exact⟨127,by decide,.inr ⟨rfl,rfl⟩⟩
 obtain⟨mask,em,hmn⟩:=hm;have hm3:mask=7\/mask=31\/mask=127:=by lia
 obtain⟨owner,o1,o2,o3⟩:=aA6 hm3 hs (by lia);have hsnd:=aBb owner;obtain⟨r1,r2⟩:=aAY (λ j=>owner.getD j none) (mask+1) 0;rw[<-zFp]at r1 r2;have hlen:((jd owner (mask+1)).map (·.1)).length=n:=by
  rw[zAD,<-zAD (f:=(·.2)),<-o2,hsnd,o3.length_eq,zDT,hl]
 refine⟨{mask:=mask,place:=((jd owner (mask+1)).map (·.1)).toArray,dummies:=#[],finger:=t.finger,led:=t.led,moves:=t.movedTo mask,plain:=t.plain},((jd owner (mask+1)).map (·.2)).toArray,?_,⟨rfl,?_,aDu r1,?_,?_,hp⟩,rfl,?_⟩
 .unfold SetTable.relaid SetTable.laid
  rw[em,o1];rfl
 .simpa using hlen
 .intro i hi
  have hi':i<((jd owner (mask+1)).map (·.1)).length:=by rw[hlen];exact hi
  show((jd owner (mask+1)).map (·.1)).toArray.getD i 0<=mask
  have:((jd owner (mask+1)).map (·.1)).toArray.getD i 0=((jd owner (mask+1)).map (·.1))[i]:=by
   rw[zB9,List.getElem?_toArray,zAB hi'];rfl
  rw[this]
  have:=r2 _ (zCq hi')
  lia
 .show mask=7/\n<5\/mask=31/\n<19\/mask=127/\n<77
  lia
 .show((jd owner (mask+1)).map (·.2)).Perm (zA3 n)
  rw[<-o2,hsnd,<-hl];exact o3
abbrev jZ(es:Array (Int×Value))(ep:Nat)(t:zCh):Obj:={cls:=.type "set",dict:=none,data:=.set es ep t}
structure TupAt(h:Heap)(x:Addr)(ns:List Int):Prop where
 ex:∃o xs k,h.get? x=some o/\o.cls= .type "tuple"/\o.data= .seq xs k/\zBH xs.toList ns
section
variable{prog:zA2}{w:World}{A:zAm}{E:Value->zAH->Prop}{s:zAH}
def aDa(ho:s.heap.get? a=some (jZ es ep t))(hz:es'.size<=63)
  (h:(s.heap.update a (zGl es' t')).get? a=some (jZ es' (ep+1) t')->Q () {s with heap:=s.heap.update a (zGl es' t')}):wpAny (model prog w) A (storeSet a es' t') Q E s:=by
 refine wpAny_storeSet_of ho rfl (h ?_) (by rw[zCV];lia)
 have:=zDh (zGl es' t') ho (by rw[putSet_of es' t' rfl];rfl)
 rw[putSet_of es' t' rfl]at this;exact this
end
end VL
namespace PySem
end PySem
namespace VL
open PySem PySem.Spec PyProof.Rows L2
theorem aAe:∀{l:List α} {i:Nat} (h:i<l.length),(l[i]::l.eraseIdx i).Perm l
 |a::l,0,_=>zBE _
 |a::l,i+1,h=>by
  have h':i<l.length:=by simpa using h
  have ih:=aAe (l:=l) (i:=i) h'
  show(l[i]::a::l.eraseIdx i).Perm (a::l)
  exact(zCz _ _ _).trans (ih.cons a)
theorem aCL(next:Nat->Nat):∀(f k:Nat) (left:List α) (out:Array α),left.length<=f->(pickOrder.go next f k left out).toList.Perm (out.toList++left)
 |0,k,left,out,h=>by
  have:left=[]:=zD2.mp (by omega)
  subst this;rw[zAg];exact zBE _
 |f+1,k,left,out,h=>by
  unfold pickOrder.go;cases left with
  |nil=>simp
  |cons a l=>
   have hlt:next k%(a::l).length<(a::l).length:=zDX _ (by simp)
   rw[zAB hlt];dsimp only;refine(aCL next f (k+1) _ _ (by rw[zFm];simp only[hlt,if_true];simp at h ⊢;omega)).trans ?_;rw[zEM,zBO];exact List.Perm.append_left _ (aAe hlt)
def aCp(next:Nat->Nat)(xs:Array α):(pickOrder next xs).toList.Perm xs.toList:=by
 have:=aCL next xs.size 0 xs.toList #[] (by simp)
 unfold pickOrder;simpa using this
def pA(w:World)(d:Addr)(ep:Nat)(es:Array (Int×Value)):Array (Int×Value):=if w.params.followText "set-order" then pickOrder (w.params.setOrder d ep) es else es
def nD(w:World)(d:Addr)(ep:Nat)(es:Array (Int×Value)):(pA w d ep es).toList.Perm es.toList:=by
 unfold pA;split
 .exact aCp _ _
 .exact zBE _
def slotAt(w:World)(t:zCh):Nat->Nat
 |0=>0
 |i+1=>if w.params.followText "set-order" then 0 else t.place.getD i 0+1
def aBq(T:fO t n)(hf:w.params.followText "set-order"=false):∀i,i<=n->zAa t.place (slotAt w t i)=i
 |0,_=>by
  obtain⟨b1,b2,b3⟩:=qY T.ris 0;show zAa t.place 0=0;cases h:zAa t.place 0 with
  |zero=>rfl
  |succ k=>
   rw[h]at b2
   have:=b2 0 (by omega)
   omega
 |i+1,hi=>by
  unfold slotAt;rw[hf];simp only[zAs,if_false];obtain⟨b1,b2,b3⟩:=qY T.ris (t.place.getD i 0+1);have hs:=T.siz;rcases zGk (zAa t.place (t.place.getD i 0+1)) (i+1)with z|z|z
  .have:=b3 i (by omega) (by omega)
   omega
  .exact z
  .have h1:=b2 (i+1) (by omega)
   have h2:=T.ris i (i+1) (by omega) (by omega);omega
section
variable{prog:zA2}{w:World}{A:zAm}{E:Value->zAH->Prop}{s:zAH}{d:Addr}{es:Array (Int×Value)}{ep:Nat}{t:zCh}
def uW(ho:s.heap.get? d=some (jZ es ep t))(T:fO t es.size)(hled:t.led= !w.params.followText "set-order")(hi:i<=es.size)
  (h:Q (((pA w d ep es)[i]?).map λ e=>(e.2,slotAt w t (i+1))) s):wpAny (model prog w) A (setNext d (slotAt w t i) i ep) Q E s:=by
 unfold setNext;refine zAC (zC1 ho rfl T.fits ?_);dsimp only;unfold zGD;refine zAC (zAC (zC8 (zAF ?_)));show wpAny _ _ (if w.params.followText "set-order"=true then _ else _) _ _ _;unfold pA at h;cases hf:w.params.followText "set-order" with
 |true=>
  rw[hf]at h;simp only[if_true]at h ⊢;simp only[bne_self_eq_false,zAs,if_false];unfold setWalk;refine zAC (zAC (zC1 ho rfl T.fits ?_));dsimp only;unfold zGD;refine zAC (zAC (zC8 (zAF ?_)));show wpAny _ _ (if w.params.followText "set-order"=true then _ else _) _ _ _;rw[hf];simp only[if_true];refine zAC (zC8 (zAF (zAF ?_)));have e1:slotAt w t (i+1)=slotAt w t i:=by
   unfold slotAt;cases i with
   |zero=>simp[hf]
   |succ i=>simp[hf]
  rw[e1]at h;exact h
 |false=>
  rw[hf]at h hled;simp only[zAs,if_false]at h ⊢;have hd:(!t.plain&&decide (es.size>1))=false:=by rw[T.pla];rfl
  show wpAny _ _ (if (!t.plain&&decide (es.size>1))=true then _ else _) _ _ _;rw[hd];simp only[zAs,if_false];refine zAC ?_;show wpAny _ _ (if (!t.led&& !es.isEmpty)=true then _ else _) _ _ _;rw[hled];simp only[zHB,zFS,zFC,zAs,if_false];refine zAF ?_;rw[aBq T hf i hi];have hslot:slotAt w t (i+1)=t.place.getD i 0+1:=by unfold slotAt;rw[hf];rfl
  rw[hslot]at h;by_cases hlt:i<es.size
  .have h1:es[i]? =some es[i]:=zCT hlt
   have hlt2:i<t.place.size:=by rw[T.siz];exact hlt
   have h2:t.place[i]? =some (t.place.getD i 0):=by
    rw[zCT hlt2];simp[zCJ,hlt2]
   rw[h1,h2];rw[h1]at h;exact zAF h
  .have h1:es[i]? =none:=zFR (by omega)
   rw[h1];rw[h1]at h;exact zAF h
def b7:PySem.Slot "set_iterator" "__next__" "set_iterator.__next__":=
 .of (owner:="set_iterator") (n:="__next__") (by rw[typeLookup_type,zGq];kernel_rfl) (by decide+kernel) (by decide+kernel) (by decide+kernel) (.inl (by decide+kernel)) (by rw[zFv];kernel_rfl)
def jK:PySem.Slot "set_iterator" "__iter__" "set_iterator.__iter__":=
 .of (owner:="set_iterator") (n:="__iter__") (by rw[typeLookup_type,zGq];kernel_rfl) (by decide+kernel) (by decide+kernel) (by decide+kernel) (.inl (by decide+kernel)) (by rw[zFv];kernel_rfl)
def jB:entryFor table "set_iterator.__next__"=some zDw.«set_iterator.__next__»:=entryFor_of_fast (by kernel_rfl)
def pG:entryFor table "set_iterator.__iter__"=some zDw.«dict_keyiterator.__iter__»:=entryFor_alias (id':="dict_keyiterator.__iter__") (by kernel_rfl) rfl (by decide+kernel) (by kernel_rfl)
def tU:entryFor table "set.__iter__"=some zDw.«frozenset.__iter__»:=entryFor_alias (id':="frozenset.__iter__") (by kernel_rfl) rfl (by decide+kernel) (by kernel_rfl)
def jV(a:Value):argsOk "set_iterator.__next__" ⟨[a],[]⟩:=by unfold argsOk;kernel_rfl
def qZ(a:Value):argsOk "set_iterator.__iter__" ⟨[a],[]⟩:=by unfold argsOk;kernel_rfl
end
section
variable{prog:zA2}{w:World}{A:zAm}{E:Value->zAH->Prop}{s:zAH}{d I:Addr}{es:Array (Int×Value)}{ep:Nat}{t:zCh}{i':Nat}
abbrev aEo(d:Addr)(sl i n ep:Nat):Obj:={cls:=.type "set_iterator",data:=.fields #[.int sl 0,.int i 0,.ref d,.int n 0,.int ep 0]}
def aH1(h:Heap)(I d:Addr)(sl i n ep:Nat):Prop:=h.get? I=some (aEo d sl i n ep)
def aEm{h:Heap}{sl i n ep k:Nat}(e:h.get? I=some {cls:=.type "set_iterator",data:=.fields vs}):(h.update I (zH2 (·.setIfInBounds k x))).get? I=some {cls:=.type "set_iterator",data:=.fields (vs.setIfInBounds k x)}:=by
 have:=zDh (zH2 (·.setIfInBounds k x)) e (Obj.isFreed_of_fields (Obj.data_mapFields rfl _))
 rw[this];rfl
def aBE(hI:aH1 s.heap I d (slotAt w t i') i' es.size ep)(ho:s.heap.get? d=some (jZ es ep t))(T:fO t es.size)(hled:t.led= !w.params.followText "set-order"){v:Value}(hi:i'<es.size)(hv:((pA w d ep es)[i']?).map (·.2)=some v){Q:Option Value->zAH->Prop}
  (h:∀h',aH1 h' I d (slotAt w t (i'+1)) (i'+1) es.size ep->zDg I s.heap h'->Q (some v) {s with heap:=h'}):wpAny (model prog w) A (zFG (.ref I)) Q E s:=by
 have hT:s.TypeIs (.ref I) "set_iterator":=⟨_,hI,rfl⟩;unfold zFG;refine zAC (zGU (zBb (name:=zDN "__next__") hT b7 (zBQ b7 hT jB ?_ (jV _))));show wpAny _ _ (fieldsOf (.ref I)>>=_) _ _ s;refine zAC (wpAny_fieldsOf hI rfl ?_);dsimp only;refine zAC ?_;unfold setEntries;refine zAC (zC1 ho rfl T.fits (zAF ?_));simp only[bne_self_eq_false,zAs,if_false];refine zAC ?_;simp only[zCP];refine uW ho T hled (zBP hi) ?_;cases hq:(pA w d ep es)[i']? with
 |none=>rw[hq]at hv;cases hv
 |some e=>
  rw[hq]at hv;cases hv;dsimp only[zCC];refine zAC (zFx hI rfl (by simp) ?_);have e1:=aEm (h:=s.heap) (I:=I) (k:=0) (x:=rawInt (slotAt w t (i'+1))) (sl:=0) (i:=0) (n:=0) (ep:=0) hI;refine zAC (zFx e1 rfl (by simp) ?_);have e2:=aEm (k:=1) (x:=rawInt (i'+1)) (sl:=0) (i:=0) (n:=0) (ep:=0) e1;exact zAF ⟨_,rfl,zAF (h _ e2 ((zBi ..).trans (zBi ..)))⟩
def aCk(hh:A.handled=none)(hI:aH1 s.heap I d (slotAt w t es.size) es.size es.size ep)(ho:s.heap.get? d=some (jZ es ep t))(T:fO t es.size)(hled:t.led= !w.params.followText "set-order")
  (h:∀h',Heap.ExtBut I s.heap h'->Q none {s with heap:=h'}):wpAny (model prog w) A (zFG (.ref I)) Q E s:=by
 have hT:s.TypeIs (.ref I) "set_iterator":=⟨_,hI,rfl⟩;unfold zFG;refine zAC (zGU (zBb (name:=zDN "__next__") hT b7 (zBQ b7 hT jB ?_ (jV _))));show wpAny _ _ (fieldsOf (.ref I)>>=_) _ _ s;refine zAC (wpAny_fieldsOf hI rfl ?_);dsimp only;refine zAC ?_;unfold setEntries;refine zAC (zC1 ho rfl T.fits (zAF ?_));simp only[bne_self_eq_false,zAs,if_false];refine zAC ?_;simp only[zCP];refine uW ho T hled (zAO _) ?_;have hq:(pA w d ep es)[es.size]? =none:=zFR (by
  have:=(nD w d ep es).length_eq
  rw[zAW,zAW]at this;lia)
 rw[hq];dsimp only[zG0];refine zAC (zFx hI rfl (by simp) ?_);show wpAny _ _ (newExc (.type "StopIteration") []>>=_) _ _ _;refine zAC ?_;simp only[newExc,newTuple];refine zAC (zAv (zAC (m:=firstArgMember _ _) (wpAny_of_eq (a:=zBZ) (by first|rfl|(simp only[firstArgMember];rfl)) (zAv ?_ (by size_fits)))) (by size_fits));simp only[raiseNew];refine zAC (wpAny_handled ?_);rw[show A.in1.handled=none from hh];refine zAC (zAF (wpAny_throw ?_));refine zAC (zFQ (T:="StopIteration") (b:=true) ⟨_,zAX _ rfl,rfl⟩ isSubtype_stop ?_);exact zAF (h _ (((zBi ..).extBut.push _).push _))
def aCb(hh:A.handled=none)(I d:Addr)(hne:d≠I)(es:Array (Int×Value))(ep:Nat)(t:zCh)(T:fO t es.size)(hled:t.led= !w.params.followText "set-order"):
  Walks prog w A I [I,d] [I] es.size (λ i v=>((pA w d ep es)[i]?).map (·.2)=some v) (λ i h=>aH1 h I d (slotAt w t i) i es.size ep/\h.get? d=some (jZ es ep t)) where
 sub:=λ b hb=>by simp at hb;simp[hb]
 frame:=λ _ _ _ st hk=>⟨hk I (by simp) _ st.1,hk d (by simp) _ st.2⟩
 item:=λ i s Q E hi st hQ=>by
  have hl:i<(pA w d ep es).size:=by
   have:=(nD w d ep es).length_eq
   rw[zAW,zAW]at this;lia
  have hv:((pA w d ep es)[i]?).map (·.2)=some (pA w d ep es)[i].2:=by rw[zCT hl];rfl
  refine aBE st.1 st.2 T hled hi hv λ h' hI' hs'=>?_
  exact hQ _ h' s.toks hv ⟨hI',by rw[hs'.2 d hne];exact st.2⟩ λ b o hb e=>hs'.extBut b o (λ h=>hb (by simp[h])) e
 done:=λ s Q E st hQ=>aCk hh st.1 st.2 T hled λ h' he'=>hQ h' s.toks λ b o hb e=>he' b o (λ h=>hb (by simp[h])) e
 self:=λ i s Q E st hQ=>by
  have hT:s.TypeIs (.ref I) "set_iterator":=⟨_,st.1,rfl⟩;refine zHc hT jK (zBQ jK hT pG ?_ (qZ _));show wpAny _ _ (ret (.ref I)) _ _ s;exact zAF ⟨_,rfl,"set_iterator",_,hT,b7.lookup,hQ⟩
def aBV(ho:s.heap.get? d=some (jZ es ep t))(T:fO t es.size)(h:Q (.ref s.heap.objs.size) {s with heap:=s.heap.push (aEo d 0 0 es.size ep)}):wpAny (model prog w) A (zHQ (.ref d)) Q E s:=by
 have hT:s.TypeIs (.ref d) "set":=⟨_,ho,rfl⟩;refine zHc hT zFK (zBQ zFK hT tU ?_ (PySem.F.args_set_iter_1 _));unfold zDw.«frozenset.__iter__» zGc slotArgs;simp only[zE0,zFS,zAs,↓reduceIte,zGC,zBm,bne_self_eq_false];unfold zDo zGb;refine zAC (zAF (zAC (zAF (zAC (zAC (wpAny_setEntries_of ho rfl T.fits (zAF ?_)))))));unfold setDrawn;refine zAC (zAC (zC1 ho rfl T.fits ?_));dsimp only;unfold zGD;refine zAC (zAC (zC8 (zAF (zAF ?_))));have hd:(!w.params.followText "set-order"&&(!t.plain&&decide (es.size>1)))=false:=by rw[T.pla];simp
 show wpAny _ _ (if (!w.params.followText "set-order"&&(!t.plain&&decide (es.size>1)))=true then _ else _) _ _ _;rw[hd];simp only[zAs,if_false];refine zAC (zAF (zAC (wpAny_setEpoch_of ho rfl T.fits ?_)));simp only[newFields];refine zAC (zAv (zAF ⟨_,rfl,"set_iterator",_,⟨_,zAX _ rfl,rfl⟩,b7.lookup,?_⟩));exact h
def aFA(hT:s.TypeIs (.ref r) "set")(h:Q false s):wpAny (model prog w) A (zDu (.ref r)) Q E s:=by
 unfold zDu;refine zAC (wpAny_specialOf hT PySem.F.slot_set_len.lookup ?_);generalize hid:("set.__len__":String)=id0;wp_delta;rw[show splitId id0=some ("set","__len__")from by subst hid;decide+kernel];subst hid;refine zAC (zFQ (T:="set") (b:=true) hT (by rw[zFv];kernel_rfl) ?_);refine wpAny_ite_split (λ hab=>absurd hab (by decide)) λ _=>wpAny_ite_split (λ _=>?_) λ hab=>absurd (by decide+kernel) hab
 exact zAC (zD6 hT (zAF h))
def aFs(T:fO t es.size)(hled:t.led= !w.params.followText "set-order"):zG2 prog w "set" d d es.size (λ i v=>((pA w d ep es)[i]?).map (·.2)=some v) (λ h=>h.get? d=some (jZ es ep t)) where
 type:=λ _ hm=>⟨_,hm,rfl⟩
 there:=λ _ hm=>⟨zAS hm,zAS hm⟩
 keep:=λ _ _ hm hk=>hk d (.inl rfl) _ hm
 notList:=by decide
 notTuple:=by decide
 hint:=λ _ _ _ _ hm hq=>aFA ⟨_,hm,rfl⟩ hq
 iter:=λ A s hh hm=>⟨aEo d 0 0 es.size ep,_,(λ _ _ hq=>aBV hm T hq),aCb hh _ d (zA6 (zAS hm)) es ep t T hled,⟨zAX _ rfl,zAE _ hm⟩⟩
end
section
variable{prog:zA2}{w:World}{A:zAm}{E:Value->zAH->Prop}{s:zAH}{T:String}{r d:Addr}{n:Nat}{P:Nat->Value->Prop}{OK:Heap->Prop}
def aAn(K:zG2 prog w T r d n P OK)(hh:A.handled=none)(hok:OK s.heap)(hn:n<=zAP)
  (h:∀h' tk vs,s.heap.objs.size<h'.objs.size->(∀b o,s.heap.get? b=some o->h'.get? b=some o)->vs.length=n->(∀(j:Nat) v,vs[j]? =some v->P j v)->Q vs {s with heap:=h',toks:=tk}):wpAny (model prog w) A (zHD (.ref r)) Q E s:=by
 have hlt:=K.there _ hok;unfold zHD;refine zAC (wpAny_runValue (zDQ PySem.F.entry_proto_collect ?_));rw[zFY PySem.F.plain_proto_collect _];show wpAny _ A.in1 (zEZ []>>=λ l=>again (.builtin "list.__iadd__" ⟨[l,.ref r],[]⟩)) _ _ s;refine zAC (zAv (zAF ⟨plainId_quiet zEp _,zDQ PySem.F.entry_list_iadd ?_⟩));rw[zFY zEp _];show wpAny _ A.in1 (zCe (.ref s.heap.objs.size) (.ref r) (.ref s.heap.objs.size)) _ _ _;have fin:∀h' tk acc' c',(∀b o,b≠s.heap.objs.size->(s.heap.push (zBV "list" #[] 0)).get? b=some o->h'.get? b=some o)->h'.get? s.heap.objs.size=some {cls:=.type "list",dict:=none,data:=.seq acc' c',slots:=#[]}->ItemsOf P acc' n->
   wpAny (model prog w) A (do match (zBv s.heap.objs.size)with
    | .ref a=>match (<-load a).data with
     | .seq xs _=>pure xs.toList
     |_=>zHG "internal:collect"
    |_=>zHG "internal:collect") Q E {s with heap:=h',toks:=tk}:=λ h' tk acc' c' hk hS' hacc=>
  zAC (zHa hS' (zAF (h h' tk acc'.toList (zAS hS') (λ b o e=>hk b o (zA6 (zAS e)) (zAE _ e)) (by rw[zAW];exact hacc.1) λ j v e=>hacc.2 j v (by rw[<-zB4];exact e))))
 refine zBN (PySem.W.kdl_extend (A:=A) (s:={s with heap:=s.heap.push (zBV "list" #[] 0)}) (R:=λ r s'=>∃h' tk acc' c',r= .ok (.ret (.ref s.heap.objs.size))/\s'={s with heap:=h',toks:=tk}/\(∀b o,b≠s.heap.objs.size->(s.heap.push (zBV "list" #[] 0)).get? b=some o->h'.get? b=some o)/\h'.get? s.heap.objs.size=some {cls:=.type "list",dict:=none,data:=.seq acc' c',slots:=#[]}/\ItemsOf P acc' n)
  K hh (K.keep _ _ hok λ b _ o e=>zAE _ e) s.heap.objs.size (zC5 hlt.1) (zC5 hlt.2) (.ref s.heap.objs.size) 0 (zAX _ rfl) (λ h' tk acc' c' hk hS' hacc=>⟨h',tk,acc',c',rfl,rfl,hk,hS',hacc⟩) hn) (λ f s' hf=>?_) λ e s' he=>?_
 .cases f with
  |done f=>
   obtain⟨h',tk,acc',c',q1,q2,q3,q4,q5⟩:=hf;cases q1;subst q2;exact fin h' tk acc' c' q3 q4 q5
  |again c=>
   refine⟨hf.1,zEA hf.2 λ r s' hr=>?_⟩;obtain⟨h',tk,acc',c',q1,q2,q3,q4,q5⟩:=hr;subst q1 q2;exact fin h' tk acc' c' q3 q4 q5
 .obtain⟨h',tk,acc',c',q1,_⟩:=he
  cases q1
end
def aHY(h:Heap)(p:Value×List Int):Prop:=∃x o xs k,p.1= .ref x/\h.get? x=some o/\o.cls= .type "tuple"/\o.data= .seq xs k/\zBH xs.toList p.2/\p.2≠[]
theorem dB.all:∀{vs:List Value} {nss:List (List Int)},dB h vs nss->∀p∈vs.zip nss,aHY h p
 |_,_,.nil,p,hp=>by simp at hp
 |_,_,.cons ho hc hd hi hne r,p,hp=>by
  rw[zBg]at hp;rcases zAR.mp hp with e|hp
  .subst e;exact⟨_,_,_,_,rfl,ho,hc,hd,hi,hne⟩
  .exact r.all p hp
theorem aBx:∀{zs:List (Value×List Int)},(∀p∈zs,aHY h p)->dB h (zs.map (·.1)) (zs.map (·.2))
 |[],_=>.nil
 |p::zs,hz=>by
  obtain⟨x,o,xs,k,e1,e2,e3,e4,e5,e6⟩:=hz p zAN;rw[zAT,zAT,e1];exact .cons e2 e3 e4 e5 e6 (aBx λ q hq=>hz q (zAM _ hq))
def lF(h:l.Perm m'):∀{m:List α},m'=m.map f->∃m2:List α,m2.Perm m/\l=m2.map f:=by
 induction h with
 |nil=>intro m e;exact⟨m,zBE _,e⟩
 |cons x p ih=>
  intro m e;cases m with
  |nil=>cases e
  |cons a m=>
   rw[zAT]at e;injection e with e1 e2
   obtain⟨m2,q1,q2⟩:=ih e2;exact⟨a::m2,q1.cons a,by rw[zAT,q2,e1]⟩
 |swap x y l=>
  intro m e;cases m with
  |nil=>cases e
  |cons a m=>
   cases m with
   |nil=>rw[zAT]at e;injection e with _ e2;cases e2
   |cons b m=>
    rw[zAT,zAT]at e;injection e with e1 e2
    injection e2 with e2 e3
    exact⟨b::a::m,zCz _ _ _,by rw[zAT,zAT,e1,e2,e3]⟩
 |trans p q ih1 ih2=>
  intro m e;obtain⟨m2,a1,a2⟩:=ih2 e;obtain⟨m3,b1,b2⟩:=ih1 a2;exact⟨m3,b1.trans a1,b2⟩
def qb(l:List (List Int)):Prop:=l.Pairwise λ a b=>HT.lexLt b a=false
section
variable{prog:zA2}{w:World}{A:zAm}{E:Value->zAH->Prop}{s:zAH}
def zm{Q:Value->zAH->Prop}(hz:∀p∈zs,aHY s.heap p)(h64:zs.length<64)
  (h:∀(zs':List (Value×List Int)) h' e,zs'.Perm zs->qb (zs'.map (·.2))->(∀b o,s.heap.get? b=some o->h'.get? b=some o)->h'.get? s.heap.objs.size=some (zBV "list" (zs'.map (·.1)).toArray e)->Q (.ref s.heap.objs.size) {s with heap:=h'}):
  wpAny (model prog w) A (zEZ (zs.map (·.1))>>=λ l=>zCj [l] (call (.builtin "list.sort") [l])>>=λ _=>ret l) (λ fin s'=>∃r,fin= .done (.ret r)/\Q r s') E s:=by
 have hlen:(zs.map (·.1)).length=zs.length:=zAD _;refine zAC (zEd ?_ (by rw[zCV];omega));have hoL:(s.heap.push (zBV "list" (zs.map (·.1)).toArray 0)).get? s.heap.objs.size=some (zBV "list" (zs.map (·.1)).toArray 0):=zAX _ rfl;refine zAC (zB6 (zBQ slot_list_sort ⟨_,hoL,rfl⟩ entry_list_sort ?_ (args_list_sort _)));refine aBc (s:={s with heap:=s.heap.push (zBV "list" (zs.map (·.1)).toArray 0)}) hoL (aBx λ p hp=>?_) (by omega) λ p a1 a2=>⟨_,rfl,?_⟩
 .obtain⟨x,o,xs,k,e1,e2,e3⟩:=hz p hp
  exact⟨x,o,xs,k,e1,zAE _ e2,e3⟩
 rw[hlen]at a1 a2;have hmap:p.toList.map (λ i=>(zs.map (·.1)).getD i zBZ)=(p.toList.map λ i=>zs.getD i (zBZ,[])).map (·.1):=by
  rw[zBG];refine zDD λ i hi=>?_
  show(zs.map (·.1)).getD i zBZ=(zs.getD i (zBZ,[])).1
  rw[zA0,zA0,zAK];cases zs[i]?<;>rfl
 have hperm:(p.toList.map λ i=>zs.getD i (zBZ,[])).Perm zs:=by
  have h1:p.toList.Perm (zA3 zs.length):=by
   have:=Array.perm_iff_toList_perm.mp a1
   simpa using this
  refine(h1.map _).trans ?_
  have:(zA3 zs.length).map (λ i=>zs.getD i (zBZ,[]))=zs:=by
   refine zGf (by simp) λ i h1 h2=>?_
   rw[zCp,List.getElem_range,zA0,zAB h2];rfl
  rw[this]
 have hne:∀b o,s.heap.get? b=some o->b≠s.heap.objs.size:=λ b o e=>zA6 (zAS e)
 obtain⟨e1,he1⟩:∃e1,((s.heap.push (zBV "list" (zs.map (·.1)).toArray 0)).update s.heap.objs.size (zBU λ _=>(#[]:Array Value))).get? s.heap.objs.size=some (zBV "list" #[] e1):=⟨_,zCi hoL λ _=>#[]⟩
 have g1:=zAE (zBV "list" #[] 0) (zAE (zBV "tuple" (zs.map (·.1)).toArray 0) he1);have g2:=zCi g1 (λ _=>nU (zs.map (·.1)) p);generalize (if ((nU (zs.map (·.1)) p).size==(#[]:Array Value).size)=true then e1 else e1+1)=c1 at g2;have hend:(zEx (s.heap.push (zBV "list" (zs.map (·.1)).toArray 0)) s.heap.objs.size (zs.map (·.1)) (nU (zs.map (·.1)) p)).get? s.heap.objs.size=some (zBV "list" (nU (zs.map (·.1)) p) c1):=g2;have hout:nU (zs.map (·.1)) p=((p.toList.map λ i=>zs.getD i (zBZ,[])).map (·.1)).toArray:=by unfold nU;rw[hmap]
 have hris:qb ((p.toList.map λ i=>zs.getD i (zBZ,[])).map (·.2)):=by
  unfold qb;rw[zBG];refine zCZ.mpr λ i j hi hj hij=>?_
  rw[zAD,zAW,a1.sz]at hi hj;have hk:∀k (hk:k<zs.length),Kp (O:=aBd) (λ i=>(zs.map (·.2)).getD i []) p k=(zs.getD (p.getD k 0) (zBZ,[])).2:=λ k hk=>by
   show(zs.map (·.2)).getD (p.getD k 0) []=_
   rw[zA0,zA0,zAK];cases zs[p.getD k 0]?<;>rfl
  have hg:∀k (hk:k<p.toList.length),p.toList[k]=p.getD k 0:=λ k hk=>by
   have:k<p.size:=by simpa using hk
   simp[zCJ,this]
  have this:HT.lexLt (Kp (O:=aBd) (λ i=>(zs.map (·.2)).getD i []) p j) (Kp (O:=aBd) (λ i=>(zs.map (·.2)).getD i []) p i)=false:=a2 i j (zBP hij) hj;rw[hk i hi,hk j hj]at this;rw[zCp,zCp,hg,hg];exact this
 have hkeep:∀b o,s.heap.get? b=some o->(zEx (s.heap.push (zBV "list" (zs.map (·.1)).toArray 0)) s.heap.objs.size (zs.map (·.1)) (nU (zs.map (·.1)) p)).get? b=some o:=λ b o e=>by
  unfold zEx;rw[zBa _ _ _ _ (hne b o e)];refine zAE _ (zAE _ ?_);rw[zBa _ _ _ _ (hne b o e)];exact zAE _ e
 rw[hout]at hend hkeep;have hq:=h (p.toList.map λ i=>zs.getD i (zBZ,[])) _ c1 hperm hris hkeep hend;rw[<-hout]at hq;exact zAF ⟨_,rfl,hq⟩
def kj(h:wpAny (model prog w) A.in1 (zHD v) (λ vs s'=>wpAny (model prog w) A.in1 (zEZ vs>>=λ l=>zCj [l] (call (.builtin "list.sort") [l])>>=λ _=>ret l) (λ fin s'=>∃r,fin= .done (.ret r)/\Q r s') E s') E s):
  wpAny (model prog w) A (call (.builtin "sorted") [v]) Q E s:=by
 refine Calls.call_function_entry kind_sorted plain_sorted entry_sorted (args_sorted1 _) ?_;unfold zDw.«sorted»;refine zAC (m:=checkCount "sorted" 1 1 _) (zAF (zAC ?_));exact h
end
inductive gW(K:zAA)(H:Hp):List V->List (List Int)->Prop where
 |nil:gW K H [] []
 |cons {a:Addr} {ns:List Int} {vs:List V} {nss:List (List Int)} (h:SqT K H a (ns.map V.int)) (hne:ns≠[]) (r:gW K H vs nss):gW K H (.ref a::vs) (ns::nss)
def rC:V->Value
 | .ref a=>.ref a
 |_=>.none
def gW.vals{K:zAA}:∀{vs:List V} {nss:List (List Int)} {us:List Value},gW K H vs nss->Vals vs us->us=vs.map rC:=by
 intro vs nss us t v;induction v generalizing nss with
 |nil=>rfl
 |cons q s ih=>
  cases t with
  |cons _ _ r=>
   cases q;rw[zAT,ih r];rfl
theorem gW.len{K:zAA}:∀{vs:List V} {nss:List (List Int)},gW K H vs nss->vs.length=nss.length
 |_,_,.nil=>rfl
 |_,_,.cons _ _ r=>by rw[zAf,zAf,r.len]
theorem gW.refs{K:zAA}:∀{vs:List V} {nss:List (List Int)},gW K H vs nss->∀v∈vs,RelV v (rC v)
 |_,_,.nil,v,hv=>by simp at hv
 |_,_,.cons _ _ r,v,hv=>by
  rcases zAR.mp hv with e|hv
  .subst e;exact rfl
  .exact r.refs v hv
theorem gW.at(I:Inv X pins Z H s):∀{vs:List V} {nss:List (List Int)},gW X.K H vs nss->dB s.heap (vs.map rC) nss
 |_,_,.nil=>.nil
 |_,_,.cons h hne r=>by
  obtain⟨its,rv,⟨o,ho,hc,n,hd⟩,_⟩:=I.tuple h;exact .cons ho hc hd (by simpa using intsAre_of rv) hne (r.at I)
theorem w6:∀{vs:List V},(∀v∈vs,RelV v (rC v))->Vals vs (vs.map rC)
 |[],_=>.nil
 |v::vs,h=>.cons (h v zAN) (w6 λ u hu=>h u (zAM _ hu))
section
variable{X:Cx}
def aF9(H:Hp)(vs:List V)(nss:List (List Int))(Q:VK):Prop:=∀zs:List (V×List Int),zs.Perm (vs.zip nss)->qb (zs.map (·.2))->New H (.lst (zs.map (·.1))) Q
def aBD{pins:List (Addr×Obj)}(I:Inv X pins Z H s)(ht:gW X.K H vs nss)(h64:vs.length<64)(q:aF9 H vs nss Q)
  (hs1:∃h1 tk,s1={s with heap:=h1,toks:=tk}/\s.heap.objs.size<=h1.objs.size/\∀b o,s.heap.get? b=some o->h1.get? b=some o){zs:List (Value×List Int)}(hz:zs.Perm ((vs.map rC).zip nss))(hus:us=zs.map (·.1)):
  wpAny (model X.prog X.w) X.A.in1 (zEZ us>>=λ l=>zCj [l] (call (.builtin "list.sort") [l])>>=λ _=>ret l) (λ fin s'=>∃r,fin= .done (.ret r)/\EP X pins Z Q r s') X.xe s1:=by
 obtain⟨h1,tk,rfl,hsz,keep⟩:=hs1;subst hus;have hall:∀p∈zs,aHY h1 p:=λ p hp=>by
  obtain⟨x,o,xs,k,e1,e2,e3⟩:=(ht.at I).all p (hz.mem_iff.mp hp);exact⟨x,o,xs,k,e1,keep _ _ e2,e3⟩
 have hlen:zs.length<64:=by
  rw[hz.length_eq,zGu,zAD,<-ht.len,zE3];exact h64
 refine zm (s:={s with heap:=h1,toks:=tk}) hall hlen λ zs' h' e a1 a2 a3 a4=>?_
 have hmap:(vs.map rC).zip nss=(vs.zip nss).map λ p=>(rC p.1,p.2):=by rw[List.zip_map_left];rfl
 obtain⟨ws,w1,w2⟩:=lF (f:=λ p:V×List Int=>(rC p.1,p.2)) (a1.trans hz) hmap;have hfr:H h1.objs.size=none:=I.hok.fresh hsz;have hmem:∀v∈ws.map (·.1),RelV v (rC v):=λ v hv=>by
  obtain⟨p,hp,rfl⟩:=zAd.mp hv;exact ht.refs p.1 (zDi (w1.mem_iff.mp hp)).1
 have hws:zs'.map (·.1)=(ws.map (·.1)).map rC:=by rw[w2,zBG,zBG];rfl
 have hwl:(ws.map (·.1)).length<=zAP:=by
  rw[zAD,w1.length_eq,zGu,<-ht.len,zE3,zCV];lia
 refine⟨.ref h1.objs.size,upd H h1.objs.size (.lst (ws.map (·.1))),I.laid (t':=tk) (λ b o e=>a3 b o (keep b o e)) hsz ⟨hwl,(ws.map (·.1)).map rC,e,w6 hmem,?_⟩,rfl,(q ws w1 ?_).at hfr⟩
 .rw[<-hws];exact a4
 .have:ws.map (·.2)=zs'.map (·.2):=by rw[w2,zBG];rfl
  rw[this];exact a2
def aBS(K:zAA):List V->Hp->VK->Prop:=λ xs H Q=>∃p vs nss,xs=[.ref p]/\SqL K H p vs/\gW K H vs nss/\vs.length<64/\aF9 H vs nss Q
def wX:dI X (.builtin "sorted") (aBS X.K):=by
 intro pins s Z H xs us Q I r h;obtain⟨p,vs,nss,rfl,hp,ht,h64,q⟩:=h;obtain⟨u,rfl,ru⟩:=vals1 r;cases ru;obtain⟨its,rv,pl,hz⟩:=I.list hp;have e:=ht.vals rv;subst e;have hl2:(vs.map rC).length=nss.length:=by rw[zAD];exact ht.len
 refine kj (collect_list pl.isList ?_ (by rw[zAD];exact hz));refine aBD I ht h64 q ⟨_,_,rfl,?_,λ b o e=>?_⟩ (zBE _) ?_
 .rw[zGd,size_push']
  exact zDF _
 .rw[zBa _ _ _ _ (zA6 (zAS e))]
  exact zAE _ e
 .exact(List.map_fst_zip (by lia)).symm
end
def aDH(a:List Int):List (List Int)->List (List Int)
 |[]=>[a]
 |b::l=>if HT.lexLt b a then b::aDH a l else a::b::l
def uT:List (List Int)->List (List Int)
 |[]=>[]
 |a::l=>aDH a (uT l)
theorem rQ(a:List Int):∀l,(aDH a l).Perm (a::l)
 |[]=>zBE _
 |b::l=>by
  unfold aDH;split
  .exact((rQ a l).cons b).trans (zCz _ _ _)
  .exact zBE _
theorem oR:∀l,(uT l).Perm l
 |[]=>zBE _
 |a::l=>(rQ a _).trans ((oR l).cons a)
def aGm(h:HT.lexLt a b=true):HT.lexLt b a=false:=by
 cases e:HT.lexLt b a with
 |false=>rfl
 |true=>have:=pY a b a h e;rw[yq]at this;cases this
def aJL(h1:HT.lexLt b a=false)(h2:HT.lexLt c b=false):HT.lexLt c a=false:=by
 cases e:HT.lexLt c a with
 |false=>rfl
 |true=>
  rcases aEd c b a e with z|z
  .rw[h2]at z;cases z
  .rw[h1]at z;cases z
theorem vK(a:List Int):∀l,qb l->qb (aDH a l)
 |[],_=>zA4.mpr ⟨λ _ h=>by simp at h,.nil⟩
 |b::l,h=>by
  obtain⟨h1,h2⟩:=zA4.mp h;unfold aDH;cases e:HT.lexLt b a with
  |true=>
   rw[if_pos rfl];refine zA4.mpr ⟨λ x hx=>?_,vK a l h2⟩;rcases zAR.mp ((rQ a l).mem_iff.mp hx)with q|q
   .subst q;exact aGm e
   .exact h1 x q
  |false=>
   rw[if_neg (by simp)];refine zA4.mpr ⟨λ x hx=>?_,h⟩;rcases zAR.mp hx with q|q
   .subst q;exact e
   .exact aJL e (h1 x q)
theorem lZ:∀l,qb (uT l)
 |[]=>.nil
 |a::l=>vK a _ (lZ l)
theorem xH:∀{a b:List (List Int)},a.Perm b->qb a->qb b->a=b
 |[],b,p,_,_=>p.nil_eq
 |x::a,b,p,h1,h2=>by
  cases b with
  |nil=>exact absurd p.length_eq (by simp)
  |cons y b=>
   have hxy:x=y:=by
    obtain⟨q1,_⟩:=zA4.mp h1;obtain⟨q2,_⟩:=zA4.mp h2;have m1:x∈y::b:=p.mem_iff.mp zAN;have m2:y∈x::a:=p.mem_iff.mpr zAN;rcases zAR.mp m1 with e|m1
    .exact e
    .rcases zAR.mp m2 with e|m2
     .exact e.symm
     .exact uz _ _ (q2 x m1) (q1 y m2)
   subst hxy;rw[xH (List.Perm.cons_inv p) (zA4.mp h1).2 (zA4.mp h2).2]
abbrev tupI(ns:List Int):D:=.tup (ns.map .int)
def oN:List D->Option (List (List Int))
 |[]=>some []
 | .tup l::r=>match intsOf l,oN r with
  |some (n::ns),some nss=>some ((n::ns)::nss)
  |_,_=>none
 |_=>none
theorem sJ:∀{l:List D} {nss:List (List Int)},oN l=some nss->l=nss.map tupI/\∀ns∈nss,ns≠[]
 |[],nss,h=>by cases h;exact⟨rfl,λ ns h=>by simp at h⟩
 | .tup l::r,nss,h=>by
  unfold oN at h;split at h
  .rename_i n ns nss' e1 e2
   cases h;obtain⟨q1,q2⟩:=sJ e2;rw[cM e1,q1];refine⟨rfl,λ ms hm=>?_⟩;rcases zAR.mp hm with e|hm
   .subst e;simp
   .exact q2 ms hm
  .cases h
 | .non::_,_,h=>by cases h
 | .int _::_,_,h=>by cases h
 | .bl _::_,_,h=>by cases h
 | .str _::_,_,h=>by cases h
 | .lst _::_,_,h=>by cases h
 | .dct _ _::_,_,h=>by cases h
 | .set _::_,_,h=>by cases h
 | .scr _::_,_,h=>by cases h
theorem uL:∀{nss:List (List Int)},(∀ns∈nss,ns≠[])->oN (nss.map tupI)=some nss
 |[],_=>rfl
 |[]::nss,h=>absurd rfl (h [] zAN)
 |(n::ns)::nss,h=>by
  have ih:=uL λ ms hm=>h ms (zAM _ hm)
  rw[zAT];unfold oN;rw[ih,show intsOf (List.map D.int (n::ns))=some (n::ns)from bw _]
theorem zb{K:zAA}:∀{xs:List V} {nss:List (List Int)},Rps K A H xs (nss.map tupI)->(∀ns∈nss,ns≠[])->gW K H xs nss
 |_,[],.nil,_=>.nil
 |_,ns::nss,.cons h r,hne=>by
  cases h with
  |tup h r'=>
   have e:=r'.ints_of;subst e;exact .cons h (hne ns zAN) (zb r λ ms hm=>hne ms (zAM _ hm))
theorem aDs{K:zAA}:∀{zs:List (V×List Int)},(∀p∈zs,∃a,p.1= .ref a/\SqT K H a (p.2.map V.int))->Rps K A H (zs.map (·.1)) ((zs.map (·.2)).map tupI)
 |[],_=>.nil
 |p::zs,h=>by
  obtain⟨a,e1,e2⟩:=h p zAN;rw[zAT,zAT,zAT,e1];exact .cons (.tup e2 .ints) (aDs λ q hq=>h q (zAM _ hq))
theorem gW.all{K:zAA}:∀{vs:List V} {nss:List (List Int)},gW K H vs nss->∀p∈vs.zip nss,∃a,p.1= .ref a/\SqT K H a (p.2.map V.int)
 |_,_,.nil,p,hp=>by simp at hp
 |_,_,.cons h _ r,p,hp=>by
  rw[zBg]at hp;rcases zAR.mp hp with e|hp
  .subst e;exact⟨_,rfl,h⟩
  .exact r.all p hp
def aDe{K:zAA}(ht:gW K H vs nss)(q:∀v H',aU H H'->Rp K (λ p=>H p=none) H' v (.lst ((uT nss).map tupI))->Q v H'):aF9 H vs nss Q:=by
 intro zs hz hr p H' s hp hn;have e:zs.map (·.2)=uT nss:=xH (((hz.map (·.2)).trans (by rw[List.map_snd_zip (by rw[ht.len];exact zAO _)])).trans (oR nss).symm) hr (lZ nss);refine q _ H' s (.lst hp hn ?_);rw[<-e];exact aDs λ p hp=>by
  obtain⟨a,e1,e2⟩:=ht.all p (hz.mem_iff.mp hp);exact⟨a,e1,s.sqt e2⟩
def insI(a:Int):List Int->List Int
 |[]=>[a]
 |b::l=>if b<a then b::insI a l else a::b::l
def sortI:List Int->List Int
 |[]=>[]
 |a::l=>insI a (sortI l)
theorem insI_perm(a:Int):∀l,(insI a l).Perm (a::l)
 |[]=>zBE _
 |b::l=>by
  unfold insI;split
  .exact((insI_perm a l).cons b).trans (zCz _ _ _)
  .exact zBE _
theorem sortI_perm:∀l,(sortI l).Perm l
 |[]=>zBE _
 |a::l=>(insI_perm a _).trans ((sortI_perm l).cons a)
theorem aAd(a:Int):∀l:List Int,l.Pairwise (·<=·)->(insI a l).Pairwise (·<=·)
 |[],_=>zA4.mpr ⟨λ _ h=>by simp at h,.nil⟩
 |b::l,h=>by
  obtain⟨h1,h2⟩:=zA4.mp h;unfold insI;by_cases e:b<a
  .rw[if_pos e]
   refine zA4.mpr ⟨λ x hx=>?_,aAd a l h2⟩;rcases zAR.mp ((insI_perm a l).mem_iff.mp hx)with q|q
   .lia
   .exact h1 x q
  .rw[if_neg e]
   refine zA4.mpr ⟨λ x hx=>?_,h⟩;rcases zAR.mp hx with q|q
   .lia
   .have:=h1 x q;lia
theorem iD:∀l,(sortI l).Pairwise (·<=·)
 |[]=>.nil
 |a::l=>aAd a _ (iD l)
theorem kZ:∀{us:List Value} {ns:List Int},zBH us ns->Vals (ns.map V.int) us
 |_,_,.nil=>.nil
 |_,_,.cons n t r=>.cons ⟨t,rfl⟩ (kZ r)
section
variable{X:Cx}
def aBU(K:zAA):List V->Hp->VK->Prop:=λ xs H Q=>∃p ns,xs=[.ref p]/\SqL K H p (ns.map V.int)/\ns.length<64/\New H (.lst ((sortI ns).map V.int)) Q
def zQ:dI X (.builtin "sorted") (aBU X.K):=by
 intro pins s Z H xs us Q I r h;obtain⟨p,ns,rfl,hp,h64,q⟩:=h;obtain⟨u,rfl,ru⟩:=vals1 r;cases ru;obtain⟨its,rv,pl,hz⟩:=I.list hp;have hI:zBH its ns:=intsAre_of rv;have hlen:its.length<64:=by
  have:=rv.length
  rw[zAD]at this;lia
 refine sorted_ints pl.isList hI hlen λ out ns' h1 h2 h3=>?_
 have e:ns'=sortI ns:=zEO (h2.trans (sortI_perm ns).symm) h3 (iD ns);subst e;obtain⟨e,he⟩:=sortedAll_at s.heap its out;have hfr:H (s.heap.objs.size+1)=none:=I.hok.fresh (zDF _);refine⟨.ref (s.heap.objs.size+1),upd H (s.heap.objs.size+1) (.lst ((sortI ns).map V.int)),I.laid (t':=s.toks) (λ b o q=>sortedAll_old q) (zDF _) ?_,rfl,q.at hfr⟩;refine⟨?_,out.toList,e,kZ h1,?_⟩
 .rw[zAD,h2.length_eq]
  exact zA5 (zBP h64) (by decide)
 .rw[zF7]
  exact he
end
def aFh(K:zAA)(r:List V->Hp->VK->Prop)(fd:List D->Rs D):Prop:=∀(A:Addr->Prop) xs ds H (Q:VK) z,Rps K A H xs ds->fd ds= .ok z->(∀v H',aU H H'->Rp K (λ p=>H p=none) H' v z->Q v H')->r xs H Q
def aCA{K:zAA}(hs:aFh K r fd)(h1:aHX K G m ta g):gY K G (some []) (tCB r ta) (opA fd g):=by
 intro τ Z H Y lab Q R W;refine h1 τ Z H Y lab _ R (W.bd.imp λ d _ w x H1 s1 r1=>?_);obtain⟨z,ez,w⟩:=w.okD;exact hs (fpM m lab H) x d H1 Q z r1 ez λ v H' s r=>w v H' (s1.trans s) (r.wk λ p o _ q=>.inl (s1.free q))
def iU:List D->Rs D
 |[.lst l]=>match oN l with
  |some nss=>if nss.length<64 then .ok (.lst ((uT nss).map tupI))else .st
  |none=>match intsOf l with
   |some ns=>if ns.length<64 then .ok (.lst ((sortI ns).map .int))else .st
   |none=>.st
 |_=>.st
def aDO{K:zAA}:aFh K (λ xs H Q=>aBS K xs H Q\/aBU K xs H Q) iU:=by
 intro A xs ds H Q z r ez q;unfold iU at ez;split at ez
 .cases r with
  |cons h r=>
   cases r;cases h with
   |lst h m r=>
    split at ez
    .rename_i nss e
     obtain⟨e1,e2⟩:=sJ e;subst e1;split at ez
     .rename_i hl
      cases ez;have ht:=zb r e2;exact .inl ⟨_,_,nss,rfl,SqL.of h,ht,by rw[ht.len];exact hl,aDe ht q⟩
     .cases ez
    .split at ez
     .rename_i ns e
      have e1:=cM e;subst e1;split at ez
      .rename_i hl
       cases ez;have e2:=r.ints_of;subst e2;exact .inr ⟨_,ns,rfl,SqL.of h,hl,λ p H' s hp hn=>q _ H' s (.lst hp hn .ints)⟩
      .cases ez
     .cases ez
 .cases ez
section
variable{C:Ct}{pos p:Pos}{m:Mode}{a:Expr}{ga:En->Rs (List D)}
def wz(hm:C.mg "sorted"=none)(ha:SA C m [a] ga)(he:∀i,zAU [a] (C.X i).env=[(false,eval a (C.X i).env)]:=by intro _;rfl)(hg:∀i,Gl (C.X i) "sorted":=by intro _;rfl)(hv:zAo "sorted"=some (.builtin "sorted"):=by decide+kernel):SE C (some []) (.Call (.Name "sorted" p) [a] [] pos) (opA iU ga):=by
 obtain⟨t,h1,h2⟩:=ha;refine⟨_,λ i=>jo (r:=λ xs H Q=>aBS C.K xs H Q\/aBU C.K xs H Q) (by rw[<-C.hK i];exact wX.or zQ) (hg i) (by rw[(C.cx i).2.2.2.1];exact hm) hv (h1 i) (by decide) (by decide) (he i) rfl,aCA aDO h2⟩
end
def ddI(ns:List Int):List Int:=ns.foldl zBX []
def aAj(ns:List Int)(n:Int):ddI (ns++[n])=zBX (ddI ns) n:=by unfold ddI;rw[List.foldl_append];rfl
def aHL(hl:l.Nodup)(n:Int):(zBX l n).Nodup/\∀x,x∈zBX l n↔x∈l\/x=n:=by
 unfold zBX;by_cases h:l.any (·==n)=true
 .rw[if_pos h]
  have:n∈l:=by simpa using h
  exact⟨hl,λ x=>⟨.inl,λ q=>q.elim id λ e=>e▸this⟩⟩
 .rw[if_neg h]
  have:n∉l:=by simpa using h
  refine⟨zB0.mpr ⟨hl,by simp,λ x hx y hy e=>?_⟩,λ x=>by simp⟩;rw[zAt]at hy;subst hy;subst e;exact this hx
theorem aFU:∀(ns acc:List Int),acc.Nodup->(ns.foldl zBX acc).Nodup/\∀x,x∈ns.foldl zBX acc↔x∈acc\/x∈ns
 |[],acc,h=>⟨h,λ x=>by simp⟩
 |n::ns,acc,h=>by
  obtain⟨h1,h2⟩:=aHL h n;obtain⟨h3,h4⟩:=aFU ns _ h1;refine⟨h3,λ x=>?_⟩;rw[zCG,h4,h2,zAR];constructor
  .rintro((a|a)|a)
   .exact .inl a
   .exact .inr (.inl a)
   .exact .inr (.inr a)
  .rintro(a|a|a)
   .exact .inl (.inl a)
   .exact .inl (.inr a)
   .exact .inr a
def xq(ns:List Int):(ddI ns).Nodup:=(aFU ns [] (by simp)).1
def aCS(ns:List Int)(x:Int):x∈ddI ns↔x∈ns:=by
 have:=(aFU ns [] (by simp)).2 x
 unfold ddI;simpa using this
section
variable{K:zAA}{G:Gx}{wi:TI}{fi:En->Rs (List D)}{g:TG}{fg:D->En->Rs En}{tt:TT}
def aIN(hi:aBu K G wi fi)(hg:aBv K {G with E:=λ _ _ _=>False} g fg)(hfg:∀d,∃Y1,fg d [.no]= .ok Y1)(ht:w5 K {G with E:=λ _ _ _=>False} tt fU)(R:RR K G τ Y Z H lab)
  (W:WR G (fi (shE Y)) (λ ds=>ds.length<zAP/\∀(l:Addr) (as:List Addr) H',aU H H'->H l=none->H' l=some (.lst (as.map V.ref))->(l::as).Nodup->as.length=ds.length->(∀a∈as,H a=none/\H' a=some (.lst []))->Q (.ref l) H')):
  tLC wi (stV [none]) g tt (aH8 uN) Z H Q:=by
 refine hi τ Z H _ _ _ R.shE (W.imp λ ds _ w J H1 lab1 τ1 s1 _ R1 jl=>?_);obtain⟨hlen,w⟩:=w;intro l hl;have hHl:H l=none:=s1.free hl;have nl:∀p o,H1 p=some o->p≠l:=λ p o e z=>by subst z;rw[hl]at e;cases e
 have RB:RR K {G with E:=λ _ _ _=>False} (τ1++τ) [.no] (stV [none] Z) H1 (λ p=>if p=l then(2,0)else(0,0)):=by
  refine⟨rfl,λ i s e=>?_,R1.old,λ p hp=>?_,λ q hq=>(R1.tm q hq).wk λ p o e _=>by rw[if_neg (nl p o e)];exact zAc _⟩
  .match i,e with
   |0,e=>cases e;exact .inl rfl
   |i+1,e=>simp at e
  .by_cases z:p=l
   .subst z;exact R1.old.free hl
   .exact absurd (show(if p=l then((2,0):Nat×Nat)else(0,0)).1=0 by rw[if_neg z]) hp
 have labl:¬((λ p=>if p=l then((2,0):Nat×Nat)else(0,0)) l).1<=1:=by simp
 refine⟨λ i n acc H2=>∃as:List Addr,n=ds.length-i/\i<=ds.length/\acc=as.map V.ref/\H2 l=some (.lst acc)/\RR K {G with E:=λ _ _ _=>False} (τ1++τ) [.no] (stV [none] Z) H2 (λ p=>if p=l then(2,0)else(0,0))/\aU H H2/\as.length=i/\(l::as).Nodup/\∀a∈as,H a=none/\H2 a=some (.lst []),
  ⟨ds.length,[],by omega,by omega,rfl,aY,RB.up (aq hl _),s1.trans (aq hl _),rfl,by simp,λ a h=>by simp at h⟩,?_⟩
 rintro i n acc H2 ⟨as,rfl,hi',rfl,hH2,R2,s2,hlen2,hnd,hal⟩;refine⟨hH2,by rw[zAD];omega,?_⟩;have jj:=jl _ H2 λ q hq=>R2.tm q (zA1 _ hq)
 by_cases hlt:i<ds.length
 .obtain⟨go,yl⟩:=(jj i).2 hlt
  refine .inr ⟨go,λ x H3 hy=>?_⟩;obtain⟨s3,d,ed,rx⟩:=yl x H3 hy;replace R2:=R2.up s3;replace hH2:=s3 _ _ hH2;replace s2:=s2.trans s3;replace hal:=λ a ha=>(⟨(hal a ha).1,s3 _ _ (hal a ha).2⟩:H a=none/\H3 a=some (.lst []))
  obtain⟨Y1,e1⟩:=hfg d;refine hg (τ1++τ) x d _ H3 _ _ _ Y1 R2 rx e1 λ Z4 R4=>?_
  refine ht (τ1++τ) Z4 H3 Y1 _ _ R4 λ H5 s5=>?_
  rw[if_pos rfl];refine⟨zAc _,λ p H6 s6 hp hn=>?_⟩;have hl6:H6 l=some (.lst (as.map V.ref)):=s6 _ _ (s5 _ _ hH2);have hpl:p≠l:=λ z=>by subst z;rw[s5 _ _ hH2]at hn;cases hn
  have hpa:p∉as:=λ z=>by
   have:=s5 _ _ (hal p z).2
   rw[hn]at this;cases this
  have hpH:H p=none:=(s2.trans s5).free hn;have B:iC l H6 (upd H6 l (.lst (as.map V.ref++[.ref p]))):=λ b o ne hb=>by rw[aj ne];exact hb
  refine⟨hl6,ds.length-(i+1),by omega,as++[p],rfl,hlt,by rw[zC6];rfl,aY,?_,?_,by rw[zAb];simp;omega,?_,λ a ha=>?_⟩
  .have R6:=R2.up (s5.trans s6)
   refine⟨R6.len,λ j s e=>?_,λ b o hb=>?_,R6.new,λ q hq=>(R6.tm q hq).but B hl6 rfl labl⟩
   .match j,e with
    |0,e=>cases e;exact .inl rfl
    |j+1,e=>simp at e
   .exact B b o (λ z=>by subst z;rw[R1.old.free hl]at hb;cases hb) (R6.old b o hb)
  .exact λ b o hb=>B b o (λ z=>by subst z;rw[hHl]at hb;cases hb) (((s2.trans s5).trans s6) b o hb)
  .obtain⟨n1,n2⟩:=zAl.mp hnd
   refine zAl.mpr ⟨λ z=>?_,zB0.mpr ⟨n2,by simp,λ x hx y hy e=>?_⟩⟩
   .rcases zAe.mp z with z|z
    .exact n1 z
    .exact hpl (zAt.mp z).symm
   .rw[zAt]at hy
    subst hy;subst e;exact hpa hx
  .rcases zAe.mp ha with z|z
   .refine⟨(hal a z).1,?_⟩
    rw[aj λ q=>by subst q;exact(zAl.mp hnd).1 z];exact s6 _ _ (s5 _ _ (hal a z).2)
   .rw[zAt]at z
    subst z;exact⟨hpH,by rw[aj hpl];exact hp⟩
 .have ei:i=ds.length:=by omega
  exact .inl ⟨by rw[ei];exact(jj _).1 (zAO _),w l as H2 s2 hHl hH2 hnd (by omega) hal⟩
end
section
variable{C:Ct}{pos lpos:Pos}{tg iter:Expr}{sc:Scope}{N:List Str}{js:List (Option Nat)}{ks:List Nat}{fi:En->Rs (List D)}{fg:D->En->Rs En}
def llS(i:Nat)(fi:En->Rs (List D))(js:List (Option Nat))(fg:D->En->Rs En):En->Ou:=λ Y=>(fi (shE Y)).bo λ ds=>if ds.length<zAP then .nx (Y.set i (.o2 (zAI ds.length [])))else .st
def aHc(hi:SI C tg iter fi)(hg:SG (C.blk sc N) tg ks fg)(hj:js=[none]:=by rfl)(hfg:∀d,∃Y1,fg d [.no]= .ok Y1:=by intro _;exact⟨_,rfl⟩)(hN:∀j,(C.X j).N[i]? =some x:=by intro _;rfl)(hx:∀j,Loc (C.X j).env.scope x:=by intro _;first|exact zBu rfl|exact zB2 rfl)(hsw:∀j,zCW (.ListComp (.List [] lpos) [⟨tg,iter,[],0⟩] sc pos) (some (.Name x pos')) spos.line (C.X j).env=pure true:=by intro _;rfl)(hs:∀i x,zAu iter (C.X i).env x=pure x:=by intro _ _;rfl)(hf:∀j,(C.X j).fn x=true\/(C.X j).env.scope.names.lookup x=some .local:=by intro _;first|exact .inl rfl|exact .inr rfl)(nd:∀j,(C.X j).N.Nodup:=by intro _;assumption)(hB:∀i,cU (C.X i) sc N (stV js) ks:=by intro _;exact vo rfl rfl rfl rfl rfl rfl):
  SS C (.Assign [.Name x pos'] (.ListComp (.List [] lpos) [⟨tg,iter,[],0⟩] sc pos) spos) (llS i fi js fg):=by
 subst hj;obtain⟨wi,i1,i2⟩:=hi;obtain⟨g,g1,g2,g3,g4⟩:=hg;obtain⟨tt,t1,t2⟩:=iV (C:=C.blk sc N);refine⟨_,λ j=>aAL (nd j) (hN j) (hx j) (hB j) (C.calm j) (i1 j) (λ c fp z0 zS=>g1 (j,c,fp,z0,zS)) g3 (λ c fp z0 zS=>t1 (j,c,fp,z0,zS)) (λ c fp z0 zS=>yf jc) (hsw j) (hs j) (hf j),λ τ Z H Y lab De R W=>?_⟩;refine aIN i2 g2 hfg t2 R (W.bo.imp λ ds _ w=>?_);by_cases hl:ds.length<zAP
 .rw[if_pos hl]at w
  refine⟨hl,λ l as H' s hn hH hnd hlen hal=>?_⟩;have hlab:∀p o,H p=some o->(λ p=>if p=l then(i+2,0)else if p∈as then(i+2,as.idxOf p+1)else bT H 1 lab p) p=lab p:=λ p o e=>by
   dsimp only;have z1:p≠l:=λ z=>by subst z;rw[hn]at e;cases e
   have z2:p∉as:=λ z=>by rw[(hal p z).1]at e;cases e
   rw[if_neg z1,if_neg z2,bA e]
  have R':RR C.K C.G τ Y Z H' (λ p=>if p=l then(i+2,0)else if p∈as then(i+2,as.idxOf p+1)else bT H 1 lab p):=by
   refine(R.relab hlab λ p hp=>?_).up s;cases e:H p with
   |none=>exact R.old.free e
   |some o=>
    have:=hlab p o e
    dsimp only at this hp;rw[this]at hp;exact R.new p hp
  refine w _ _ _ (R'.put (s:=.o2 (zAI ds.length [])) ⟨l,as.map V.ref,rfl,hH,by dsimp only;rw[if_pos rfl],by rw[zAD,zBF];exact hlen,λ j x es e1 e2=>?_⟩);rw[zAK,zBy]at e1;obtain⟨a,e1,rfl⟩:=e1;have ees:es=[]:=by
   rw[zBp]at e2;split at e2
   .cases e2;rfl
   .cases e2
  subst ees;have ha:a∈as:=zAh e1;have hla:a≠l:=λ z=>by subst z;exact(zAl.mp hnd).1 ha
  have hj2:j<as.length:=(zAL.mp e1).1;refine .lst (hal a ha).2 ?_ .nil
  show(if a=l then(i+2,0)else if a∈as then(i+2,as.idxOf a+1)else bT H 1 lab a)=(i+2,j+1)
  rw[if_neg hla,if_pos ha];have hix:as.idxOf a<as.length:=zFJ.mpr ha
  have:as[as.idxOf a]? =some a:=by rw[zAB hix];exact congrArg some (List.getElem_idxOf hix)
  have:=(zB8 hix (zAl.mp hnd).2).mp (this.trans e1.symm)
  rw[this]
 .rw[if_neg hl]at w
  exact zAJ w
end
def dq{α:Type}(l:List α)(i:Int)(y:α):List α:=l.take (if i<0 then(i+(l.length:Int)).toNat else min i.toNat l.length)++y::l.drop (if i<0 then(i+(l.length:Int)).toNat else min i.toNat l.length)
def xM(l:List α)(i:Int)(y:α):(dq l i y).length=l.length+1:=by
 unfold dq;rw[zAb,zAf,zB7,zD9];omega
def aHi:V->List V->Hp->VK->Prop:=λ x vs H Q=>∃l xs i y,x= .ref l/\vs=[.int i,y]/\H l=some (.lst xs)/\-(2^63)<=i/\i<2^63/\xs.length<zAP/\∀H',iC l H H'->H' l=some (.lst (dq xs i y))->Q .non H'
def aGl:MtM X "list.insert" aHi:=by
 intro pins s Z H x vs v us Q I rx rv h;obtain⟨l,xs,i,y,rfl,rfl,hH,h1,h2,hz,q⟩:=h;cases rx;obtain⟨u1,u2,rfl,r1,r2⟩:=vals2 rv;obtain⟨t,rfl⟩:=r1;obtain⟨z,its,n,r,hl,e⟩:=I.lstM hH;have hf:zCl i=true:=by unfold zCl;simp;omega
 refine zEL zEj ⟨_,e,rfl⟩ PySem.F.entry_list_insert (PySem.F.args_list_insert_3 _ _ _) (zHN l its.toArray n i t u2 (by simp[hf]) (by rw[zAG];omega)) ⟨e,?_⟩;refine⟨.non,_,I.lset (ys:=dq xs i y) (its':=dq its i u2) hH e ?_ ?_ ?_,rfl,q _ (λ b o ne hb=>by rw[aj ne];exact hb) aY⟩
 .show(its.toArray.extract 0 (if i<0 then(i+(its.toArray.size:Int)).toNat else min i.toNat its.toArray.size)).push u2++its.toArray.extract (if i<0 then(i+(its.toArray.size:Int)).toNat else min i.toNat its.toArray.size)=(dq its i u2).toArray
  rw[PySem.W.kl_ins_eq,zAG];rfl
 .unfold dq
  rw[hl];exact(r.take _).append (.cons r2 (r.drop _))
 .rw[xM];omega
theorem Rps.dq{K:zAA}(r:Rps K A H xs ds)(h:Rp K A H x d)(i:Int):Rps K A H (VL.dq xs i x) (VL.dq ds i d):=by
 unfold VL.dq;rw[r.length];exact(r.take _).append (.cons h (r.drop _))
section
variable{C:Ct}{pos apos cpos p:Pos}{e e1 e2:Expr}{f1 f2:En->Rs D}{i:Nat}{x:Str}{m m1:Mode}
def aEq(i:Nat)(f1 f2:En->Rs D):En->Ou:=λ Y=>match Y[i]? with
 |some (.ow (.lst ds))=>(f1 Y).bo λ k=>match k with
  | .int n=>(f2 Y).bo λ d=>if -(2^63)<=n/\n<2^63/\ds.length<zAP then .nx (Y.set i (.ow (.lst (dq ds n d))))else .st
  |_=>.st
 |_=>.st
def aCh(i:Nat)(he1:SE C m1 e1 f1)(he2:SE C m e2 f2)(hm:okN m=true:=by rfl)(hN:∀j,(C.X j).N[i]? =some x:=by intro _;rfl)(hv:∀j,Vis (C.X j).env.scope x:=by intro _;first|exact zBu rfl|exact zB2 (zBu rfl)|exact zB2 (zB2 rfl))(hd:Nd x:=by decide)
  (hcd:(x==("__classdict__":Str))=false:=by decide)(hs1:∀j,zAU [e1,e2] (C.X j).env=(false,eval e1 (C.X j).env)::zAU [e2] (C.X j).env:=by intro _;rfl)(hs2:∀j,zAU [e2] (C.X j).env=[(false,eval e2 (C.X j).env)]:=by intro _;rfl)
  (hbase:∀j,zDK (.Name x p) "insert" (C.X j).env (eval (.Name x p) (C.X j).env)=eval (.Name x p) (C.X j).env:=by intro _;rfl)
  (hfew:∀j,((zCF cpos (zAU [e1,e2] (C.X j).env)).all (λ x=>!x.1)&&(zEK cpos (zCx [] (C.X j).env)).all (λ x=>x.1.isSome)&&decide ([e1,e2].length+([]:List zCL).length+(if ([]:List zCL).isEmpty then 0 else 1)<30))=true:=by intro _;rfl)
  (hline:(apos.endLine==cpos.line)=true:=by rfl)(hplain:∀j,(zCF cpos (zAU [e2] (C.X j).env)).any (·.1)=false:=by intro _;rfl)
  (hsw:∀j,zCW (.Call (.Attribute (.Name x p) "insert" apos) [e1,e2] [] cpos) none pos.line (C.X j).env=pure false:=by intro _;rfl):
  SS C (.Expr (.Call (.Attribute (.Name x p) "insert" apos) [e1,e2] [] cpos) pos) (aEq i f1 f2):=by
 obtain⟨t1,a1,a2⟩:=he1;obtain⟨t2,b1,b2⟩:=he2;refine⟨wj (tBM C.K "list" aHi (qg i) (lN t1 (lN t2 uN))),λ j=>nC (by rw[<-C.hK j];exact aAN zBo zEj PySem.F.type_list_insert aGl (gj (hN j) (hv j) hd hcd) (eE (a1 j) (eE (b1 j) jc (hs2 j)) (hs1 j)) (hbase j) (hfew j) hline (hs1 j) (hplain j)) (hsw j),λ τ Z H Y lab De R W=>?_⟩;unfold aEq at W;cases es:Y[i]? with
 |none=>rw[es]at W;exact zAJ W
 |some s=>
  rw[es]at W;split at W
  .rename_i ds hs
   cases hs;rcases R.sl i _ es with z|⟨v,ev,hv'⟩
   .cases z
   .obtain⟨hv1,htop⟩:=hv'
    obtain⟨a0,ea0,la0⟩:=htop rfl;subst ea0;cases hv1 with
    |lst h mm r=>
     rename_i xs;refine⟨.ref a0,ev,.inl ⟨rfl,xs,SqL.of h⟩,a2 τ Z H Y lab _ R (W.bo.imp λ k _ w y1 H1 s1 r1=>?_)⟩;cases k with
     |int n=>
      cases r1;refine b2 τ Z H1 Y lab _ (R.up s1) (w.bo.imp λ d _ w y H2 s2 r2=>?_);by_cases hz: -(2^63)<=n/\n<2^63/\ds.length<zAP
      .rw[if_pos hz]at w
       refine⟨a0,xs,n,y,rfl,rfl,(s1.trans s2) _ _ h,hz.1,hz.2.1,by rw[r.length];exact hz.2.2,λ H3 B h3=>?_⟩;obtain⟨R',r'⟩:=(R.up s1).fresh (P:=λ k=>k=1) rfl (λ k hk=>beq_iff_eq.mp (jP hm k hk)) s2 r2;have h1:H1 a0=some (.lst xs):=s1 _ _ h;have la:(bT H1 1 lab a0).1=i+2:=by rw[bA h1];exact la0
       refine w Z H3 _ (R'.mut ev (s2 _ _ h1) rfl la B ⟨.lst h3 (.inr la) ?_,λ _=>⟨a0,rfl,la⟩⟩);have ra:Rps C.K (λ p=>((bT H1 1 lab p).1=1\/(bT H1 1 lab p).1=i+2)/\p≠a0) H2 (dq xs n y) (dq ds n d):=by
        refine(r.mono (s1.trans s2) λ p o e z=>⟨by rw[bA (s1 _ _ e)];exact z.1,z.2⟩).dq (r'.wk λ p o e z=>⟨.inl z,λ q=>?_⟩) n;subst q;rw[la]at z;omega
       exact ra.but B (s2 _ _ h1) rfl λ z=>z.2 rfl
      .rw[if_neg hz]at w
       exact zAJ w
     |_=>exact zAJ w
  .exact zAJ W
end
def aDB:∀{us:List α},us.length=6->∃a0 a1 a2 a3 a4 a5,us=[a0,a1,a2,a3,a4,a5]
 |[a0,a1,a2,a3,a4,a5],_=>⟨a0,a1,a2,a3,a4,a5,rfl⟩
theorem xW(f:α->β):∀(l:List α) (k:Nat),(l.map f).eraseIdx k=(l.eraseIdx k).map f
 |[],_=>rfl
 |_::_,0=>rfl
 |x::l,k+1=>by simp only[zAT,List.eraseIdx_cons_succ,xW f l k]
theorem aAE{K:zAA}:∀{ns:List Int} {xs:List V},Rps K A H xs (ns.map .int)->xs=ns.map .int
 |[],_,r=>by cases r;rfl
 |n::ns,_,r=>by
  cases r with
  |cons h r=>
   rw[h.int_inv,aAE r];rfl
def aHe:V->List V->Hp->VK->Prop:=λ x vs H Q=>∃(l:Addr) (ns:List Int) (i:Int),x= .ref l/\vs=[.int i]/\H l=some (.lst (ns.map V.int))/\i∈ns/\ns.length<=zAP/\∀H',iC l H H'->H' l=some (.lst ((ns.eraseIdx (ns.idxOf i)).map V.int))->Q .non H'
def aGk:MtM X "list.remove" aHe:=by
 intro pins s Z H x vs v us Q I rx rv h;obtain⟨l,ns,i,rfl,rfl,hH,hm,hz,q⟩:=h;cases rx;obtain⟨u,rfl,ru⟩:=rv.one;obtain⟨t,rfl⟩:=ru;obtain⟨z,its,n,r,hl,e⟩:=I.lstM hH;rw[zAD]at hl;have hj:ns.idxOf i<ns.length:=zFJ.mpr hm;have at_:∀m (hm:m<its.length),∃tk,its[m]= .int (ns[m]'(by lia)) tk:=λ m hm=>by
  have e1:(ns.map V.int)[m]? =some (.int (ns[m]'(by lia))):=by rw[zAK,zAB (by lia)];rfl
  obtain⟨u,eu,ru⟩:=r.get e1;obtain⟨tk,rfl⟩:=ru;exact⟨tk,zA9 ((zAB hm).symm.trans eu)⟩
 let eq:Value->Bool:=λ y=>match y with| .int a _=>a==i|_=>false
 refine zEL zEk ⟨_,e,rfl⟩ PySem.F.entry_list_remove (PySem.F.args_list_remove_2 _ _) (zHO l its.toArray n (.int i t) eq ?_ (ns.idxOf i) (by rw[zAG];lia) ?_ ?_ (by rw[zAG];lia)) ⟨e,?_⟩
 .intro y hy
  obtain⟨m,hm',rfl⟩:=Array.getElem_of_mem hy;rw[zCS];obtain⟨tk,ey⟩:=at_ m (by simpa using hm');rw[ey];exact zFf _ _ _ _
 .rw[zCS]
  obtain⟨tk,ey⟩:=at_ (ns.idxOf i) (by lia);rw[ey]
  show(ns[ns.idxOf i]==i)=true
  simp
 .intro m hm1 hm2
  rw[zCS];obtain⟨tk,ey⟩:=at_ m (by simpa using hm1);rw[ey]
  show(ns[m]'(by lia)==i)=false
  have:=List.not_of_lt_findIdx (p:=(·==i)) (xs:=ns) hm2
  simpa using this
 .refine⟨.non,_,I.lset (ys:=(ns.eraseIdx (ns.idxOf i)).map V.int) (its':=its.eraseIdx (ns.idxOf i)) hH e (by simp) ?_ ?_,rfl,q _ (λ b o ne hb=>by rw[aj ne];exact hb) aY⟩
  .have:=r.eraseIdx (ns.idxOf i)
   rwa [xW]at this
  .rw[zAD,zFm]
   split<;>lia
def aIX(Y:En)(i:Nat)(ds:List D)(d:D):Ou:=match intsOf ds,d with
 |some ns,.int z=>if z∈ns/\ns.length<=zAP then .nx (Y.set i (.ow (.lst ((ns.eraseIdx (ns.idxOf z)).map .int))))else .st
 |_,_=>.st
def aDw(i:Nat)(fe:En->Rs D):En->Ou:=λ Y=>match Y[i]? with
 |some (.ow (.lst ds))=>(fe Y).bo λ d=>aIX Y i ds d
 |_=>.st
section
variable{C:Ct}{pos apos cpos p:Pos}{e:Expr}{fe:En->Rs D}{i:Nat}{x:Str}{m:Mode}
def aCg(i:Nat)(he:SE C m e fe)(hm:okN m=true:=by rfl)(hN:∀j,(C.X j).N[i]? =some x:=by intro _;rfl)(hv:∀j,Vis (C.X j).env.scope x:=by intro _;first|exact zBu rfl|exact zB2 (zBu rfl)|exact zB2 (zB2 rfl))(hd:Nd x:=by decide)
  (hcd:(x==("__classdict__":Str))=false:=by decide)(hs1:∀j,zAU [e] (C.X j).env=[(false,eval e (C.X j).env)]:=by intro _;rfl)
  (hbase:∀j,zDK (.Name x p) "remove" (C.X j).env (eval (.Name x p) (C.X j).env)=eval (.Name x p) (C.X j).env:=by intro _;rfl)
  (hfew:∀j,((zCF cpos (zAU [e] (C.X j).env)).all (λ x=>!x.1)&&(zEK cpos (zCx [] (C.X j).env)).all (λ x=>x.1.isSome)&&decide ([e].length+([]:List zCL).length+(if ([]:List zCL).isEmpty then 0 else 1)<30))=true:=by intro _;rfl)
  (hline:(apos.endLine==cpos.line)=true:=by rfl)
  (hsw:∀j,zCW (.Call (.Attribute (.Name x p) "remove" apos) [e] [] cpos) none pos.line (C.X j).env=pure false:=by intro _;rfl):
  SS C (.Expr (.Call (.Attribute (.Name x p) "remove" apos) [e] [] cpos) pos) (aDw i fe):=by
 obtain⟨t,h1,h2⟩:=he;refine⟨wj (tBM C.K "list" aHe (qg i) (lN t uN)),λ j=>nC (by rw[<-C.hK j];exact aAN zBo zEk PySem.F.type_list_remove aGk (gj (hN j) (hv j) hd hcd) (eE (h1 j) jc (hs1 j)) (hbase j) (hfew j) hline (hs1 j) rfl) (hsw j),λ τ Z H Y lab De R W=>?_⟩;unfold aDw at W;cases es:Y[i]? with
 |none=>rw[es]at W;exact zAJ W
 |some s=>
  rw[es]at W;split at W
  .rename_i ds hs
   cases hs;rcases R.sl i _ es with z|⟨v,ev,hv'⟩
   .cases z
   .obtain⟨hv1,htop⟩:=hv'
    obtain⟨a0,ea0,la0⟩:=htop rfl;subst ea0;cases hv1 with
    |lst h mm r=>
     rename_i xs;refine⟨.ref a0,ev,.inl ⟨rfl,xs,SqL.of h⟩,h2 τ Z H Y lab _ R (W.bo.imp λ d _ w y H2 s2 r2=>?_)⟩;unfold aIX at w;split at w
     .rename_i zz ns z hns _
      by_cases hz:z∈ns/\ns.length<=zAP
      .rw[if_pos hz]at w
       have hds:=cM hns;subst hds;have ex:=aAE r;subst ex;have ey:=r2.int_inv;subst ey;refine⟨a0,ns,z,rfl,rfl,s2 _ _ h,hz.1,hz.2,λ H3 B h3=>?_⟩;obtain⟨R',r'⟩:=R.fresh (P:=λ k=>k=1) rfl (λ k hk=>beq_iff_eq.mp (jP hm k hk)) s2 r2;have la:(bT H 1 lab a0).1=i+2:=by rw[bA h];exact la0
       exact w Z H3 _ (R'.mut ev (s2 _ _ h) rfl la B ⟨.lst h3 (.inr la) Rps.ints,λ _=>⟨a0,rfl,la⟩⟩)
      .rw[if_neg hz]at w
       exact zAJ w
     .exact zAJ w
  .exact zAJ W
end
def aHj:V->V->Hp->VK->Prop:=λ o i H Q=>∃(p:Addr) (xs:List V) (k:Int) (j:Nat) (z:V),o= .ref p/\i= .int k/\H p=some (.lst xs)/\ixN xs.length k=some j/\xs[j]? =some z/\Q z H
def aFJ:aKh X aHj:=by
 intro pins s Z H o i ov iv Q I ro ri h;obtain⟨p,xs,k,j,z,rfl,rfl,hp,hj,hz,q⟩:=h;cases ro;obtain⟨t,rfl⟩:=ri;obtain⟨its,n,r,ho,hs⟩:=I.lst hp;obtain⟨h1,h2,h3,h4⟩:=zE hj;obtain⟨w,ew,rw'⟩:=r.get hz;have hl:=r.length;have hn:=pC;have hL:s.heap.IsList p its.toArray:=⟨_,ho,rfl,n,rfl⟩;have fin:EP X pins Z Q w s:=⟨z,H,I,rw',q⟩;by_cases h0:0<=k
 .have hk:k.toNat=j:=by
   rw[zF5 h0 h4]at h1;exact zA9 h1
  exact wpAny_getItem_list hL h0 (by omega) (by rw[hk];simpa using ew) fin
 .have hk:(k+(its.toArray.size:Int)).toNat=j:=by
   rw[zFH (by omega) h3]at h1;rw[zAG,<-hl];exact zA9 h1
  exact zG8 hL (by omega) (by rw[zAG,<-hl];exact h3) (by omega) (by rw[hk];simpa using ew) fin
def aK9(g:Int->Int->Int)(Y:En)(i:Nat)(ds:List D)(j:Nat)(a:Int):D->Ou
 | .int b=>.nx (Y.set i (.ow (.lst (ds.set j (.int (g a b))))))
 |_=>.st
def aDX(ds:List D):D->Option (Nat×Int)
 | .int k=>(ixN ds.length k).bind λ j=>match ds[j]? with
  |some (.int a)=>some (j,a)
  |_=>none
 |_=>none
def aF4(g:Int->Int->Int)(i:Nat)(fk fe:En->Rs D):En->Ou:=λ Y=>match Y[i]? with
 |some (.ow (.lst ds))=>(fk Y).bo λ k=>match aDX ds k with
  |some (j,a)=>(fe Y).bo λ d=>aK9 g Y i ds j a d
  |none=>.st
 |_=>.st
def aDW(h:aDX ds k=some (j,a)):∃n,k= .int n/\ixN ds.length n=some j/\ds[j]? =some (.int a):=by
 unfold aDX at h;split at h
 .rename_i n
  cases hj:ixN ds.length n with
  |none=>rw[hj]at h;cases h
  |some j'=>
   rw[hj,zCU]at h;split at h
   .rename_i a' ha
    cases h;exact⟨n,rfl,hj,ha⟩
   .cases h
 .cases h
section
variable{C:Ct}{pos tpos p:Pos}{ek e:Expr}{fk fe:En->Rs D}{x:Str}{m m1:Mode}{op:Operator}{g:Int->Int->Int}
def aFr(i:Nat)(hop:∀j,PIp (C.X j) op (ipI g))(hk:SE C m1 ek fk)(he:SE C m e fe)(hN:∀j,(C.X j).N[i]? =some x:=by intro _;rfl)(hv:∀j,Vis (C.X j).env.scope x:=by intro _;first|exact zBu rfl|exact zB2 (zBu rfl)|exact zB2 (zB2 rfl))(hd:Nd x:=by decide)
  (hcd:(x==("__classdict__":Str))=false:=by decide)(ha:∀ov iv new,augStore ek ov iv new=(do zCj [new,ov,iv] (zHF ov iv new);release [new,ov,iv] [];pure .next):=by intros;rfl):
  SS C (.AugAssign (.Subscript (.Name x p) ek tpos) op e pos) (aF4 g i fk fe):=by
 obtain⟨tk,k1,k2⟩:=hk;obtain⟨te,e1,e2⟩:=he;refine⟨aHa (qg i) tk te aHj (ipI g) aEB,λ j=>aGU (gj (hN j) (hv j) hd hcd) (k1 j) aFJ (e1 j) (hop j) set_list ha,λ τ Z H Y lab De R W=>?_⟩;unfold aF4 at W;cases es:Y[i]? with
 |none=>rw[es]at W;exact zAJ W
 |some s=>
  rw[es]at W;split at W
  .rename_i ds hs
   cases hs;rcases R.sl i _ es with z|⟨v,ev,hv'⟩
   .cases z
   .obtain⟨hv1,htop⟩:=hv'
    obtain⟨a0,ea0,la0⟩:=htop rfl;subst ea0;cases hv1 with
    |lst h mm r=>
     rename_i xs;refine⟨.ref a0,ev,k2 τ Z H Y lab _ R (W.bo.imp λ k _ w y1 H1 s1 r1=>?_)⟩;cases hK:aDX ds k with
     |none=>rw[hK]at w;exact zAJ w
     |some ja=>
      obtain⟨j,a⟩:=ja;rw[hK]at w;dsimp only at w;obtain⟨n,rfl,hj,hda⟩:=aDW hK;have ey:=r1.int_inv;subst ey;have hjx:j<xs.length:=by rw[r.length];exact(zAL.mp hda).1
      have hx:=zAB hjx;obtain⟨d',ed,rd⟩:=r.get hx;rw[hda]at ed;cases ed;have ex:=rd.int_inv;rw[ex]at hx;refine⟨a0,xs,n,j,.int a,rfl,rfl,s1 _ _ h,by rw[r.length];exact hj,hx,e2 τ Z H1 Y lab _ (R.up s1) (w.bo.imp λ d _ w y H2 s2 r2=>?_)⟩;cases d with
      |int b=>
       have ey:=r2.int_inv;subst ey;have h2:H2 a0=some (.lst xs):=(s1.trans s2) _ _ h;refine⟨a,b,rfl,rfl,a0,xs,n,j,rfl,rfl,h2,by rw[r.length];exact hj,?_⟩;have B:iC a0 H2 (upd H2 a0 (.lst (xs.set j (.int (g a b))))):=λ b' o ne hb=>by rw[aj ne];exact hb
       refine w Z _ _ ((R.up (s1.trans s2)).mut ev h2 rfl la0 B ⟨.lst aY (.inr la0) ?_,λ _=>⟨a0,rfl,la0⟩⟩);exact((r.up (s1.trans s2)).set (.int (g a b)) j).but B h2 rfl λ z=>z.2 rfl
      |_=>exact zAJ w
  .exact zAJ W
end
def aKd(Y:En)(i:Nat)(ds:List Int):D->Ou
 | .int z=>if ds.length<4000 then .nx (Y.set i (.ow (.set (zBX ds z))))else .st
 |_=>.st
section
theorem NoD.at{h:Heap}{a:Addr}{o:Obj}(e:h.get? a=some o)(hd:o.dict=none:=by rfl):L2.NoD h a:=λ u q=>by rw[e]at q;cases q;exact hd
end
def aEp{X:Cx}{pins:List (Addr×Obj)}{Z:List (Option V)}{H:Hp}{s:zAH}{h':Heap}{ch:List Addr}{p t':Nat}{o:HO}(I:Inv X pins Z H s)(hf:∀b∈ch,pL X pins H b)(k:∀b u,b∉ch->s.heap.get? b=some u->h'.get? b=some u)
  (hp:s.heap.objs.size<=p)(new:dD X.prog X.w (upd H p o) h' p o):Inv X pins Z (upd H p o) {s with heap:=h',toks:=t'}:=by
 have hn:=I.hok.fresh hp;have nch:∀b u,H b=some u->b∉ch:=λ b u e z=>by have:=(hf b z).1;rw[e]at this;cases this
 refine I.call (g':=s.gens) (d':=s.drawn) (ch:=ch) ⟨λ b u q _ _ hx=>k b u hx q,λ b u q _ _ hx=>⟨u.slots,k b u hx q⟩,λ b u q n _=>?_,λ b u q hx=>⟨u,k b u hx q⟩,λ b xs q=>?_,λ b u xs q=>?_,λ b ps q=>⟨#[],?_⟩⟩ (λ b u e=>?_) I.bare
  λ b hb=>let⟨_,f1,_,f3,f4,f5⟩:=hf b hb;⟨f3,f1,f4,f5⟩
 .rw[aj (zA6 (zAV (zAS q) hp))];exact n
 .rw[aj (bu q hn)];exact q
 .rw[aj (bu q hn)];exact q
 .rw[aj (bu q hn),q];simp
 .by_cases hb:b=p
  .subst hb;rw[aY]at e;cases e;exact new
  .rw[aj hb]at e
   refine(I.hok b u e).stay (λ c v hc q=>k c v ?_ q) (λ c q=>by rw[aj (bu q hn)];exact q) λ c xs q=>by rw[aj (bu q hn)];exact q
   rcases hc with rfl|hc
   .exact nch _ _ e
   .exact nch _ _ hc
def aAi(l:List D):List D:=l.zipIdx.map λ p=>.tup [.int (p.2:Int),p.1]
abbrev Ent:=List Int×Addr×V
def aDN(p:Int×Tok):Int×Value:=(hashInt p.1,.int p.1 p.2)
def aFa(h:Heap)(a:Addr)(led:Bool)(ks:List Int):Prop:=∃es ep t,h.get? a=some (jZ es ep t)/\fO t es.size/\t.led=led/\∃tks:List (Int×Tok),tks.map (·.1)=ks/\es.toList.Perm (tks.map aDN)
section
variable{prog:zA2}{w:World}{A:zAm}{E:Value->zAH->Prop}{s:zAH}{a:Addr}{led:Bool}{ks:List Int}
def aBo{es:Array (Int×Value)}{tks:List (Int×Tok)}(hp:es.toList.Perm (tks.map aDN)):ElemsOf (zCw prog w) es.toList:=λ e he=>by
 obtain⟨p,_,rfl⟩:=zAd.mp (hp.mem_iff.mp he);exact⟨⟨p.1,zEu _ _ _ _,rfl⟩,rfl⟩
def aDD(T:fO t es.size)(h63:es.size<63)(h:Int)(x:Value):∃j,layNew t es h x=(zBA es (t.put j).2 (h,x),(t.put j).1,false,false)/\mj (t.put j).1 (es.size+1)/\(t.put j).1.led=t.led:=by
 obtain⟨j,j1,j2,j3⟩:=aBX (hashAt:=λ _=>h+1) T (h:=h) λ i hi=>by omega
 obtain⟨P,p1,p2,p3,p4⟩:=aI2 T h63 j1 j2;have hes:(zBA es (t.put j).2 (h,x)).size=es.size+1:=ph _ _ _;refine⟨j,?_,P,p4⟩;have hf:t.freeSlot h=some (j,false):=by unfold SetTable.freeSlot;rw[j3];rfl
 unfold layNew SetTable.orStandIn;rw[hf];dsimp only;rw[hes,P.fits];rfl
def aAH(P:mj t n)(hn:es.size=n)(h5:n=5\/n=19):∃es' t',relayAll t es (zE5 es.size)=(es',t',false)/\fO t' es'.size/\t'.led=t.led/\es'.toList.Perm es.toList:=by
 obtain⟨t',order,r1,r2,r3,r4⟩:=aDx P.pla h5 (es.map (·.1)) (by rw[Array.size_map];exact hn);have hperm:(order.filterMap (es[·]?)).toList.Perm es.toList:=by
  rw[Array.toList_filterMap];refine(r4.filterMap _).trans ?_;rw[<-hn,filterMap_getElem?_range]
 have hes:(order.filterMap (es[·]?)).size=n:=by rw[<-zAW,hperm.length_eq,zAW,hn]
 refine⟨order.filterMap (es[·]?),t',?_,by rw[hes];exact r2,r3,hperm⟩;unfold relayAll;rw[hn,r1];have hc:coversAll order n=true:=List.isPerm_iff.mpr r4;dsimp only;rw[hes,hc,r2.fits];rfl
def aFz(S:aFa s.heap a led ks)(h63:ks.length<63)
  (q:∀h' b,zDg a s.heap h'->aFa h' a led (zBX ks k)->Q b {s with heap:=h',toks:=s.toks+1}):wpAny (model prog w) A (setAdd a (.int k tk)) Q E s:=by
 obtain⟨es,ep,t,ho,T,hl,tks,hk,hp⟩:=S;have hel:ElemsOf (zCw prog w) es.toList:=aBo hp;have hsz:es.size=ks.length:=by rw[<-zAW,hp.length_eq,zAD,<-hk,zAD]
 have hb:es.size<scanBound:=by rw[hsz];unfold scanBound;omega
 have hany:∀e∈es.toList,(zCw prog w).is k e.2=true->k∈ks:=λ e he hi=>by
  obtain⟨p,hpm,rfl⟩:=zAd.mp (hp.mem_iff.mp he)
  have:k=p.1:=(zCw prog w).inj _ k p.1 hi (zEu _ _ _ _)
  rw[this,<-hk];exact zFz hpm
 unfold setAdd;refine zB6 (zAC ((zCw prog w).pyHash (k:=k) (zEu _ _ _ _) ?_));unfold setAddHashed setAddHashedIn;refine zB6 (zAC (zC1 (s:={s with toks:=s.toks+1}) ho rfl T.fits ?_));dsimp only;rw[byScan_of (knd:=zCw prog w) rfl hb hel];simp only[↓reduceIte];unfold setAddByScan;refine zAC (zAC (zGF (zAC (wpAny_setScan_of (knd:=zCw prog w) (s:={s with toks:=s.toks+1}) (zEu _ _ _ _) ho rfl T.fits hel ?_))));cases hr:List.findIdx? (λ e=>(zCw prog w).is k e.2) es.toList with
 |some j=>
  obtain⟨hj,hpj,_⟩:=List.findIdx?_eq_some_iff_getElem.mp hr;have hin:=hany _ (zCq hj) hpj;dsimp only;refine zAF (zAF (q s.heap _ (Heap.SameBut.refl a s.heap) ?_))
  have:zBX ks k=ks:=by unfold zBX;rw[if_pos (zD8.mpr ⟨k,hin,by simp⟩)]
  rw[this];exact⟨es,ep,t,ho,T,hl,tks,hk,hp⟩
 |none=>
  have hno:k∉ks:=λ hin=>by
   rw[<-hk]at hin;obtain⟨p,hpm,e⟩:=zAd.mp hin;have he:aDN p∈es.toList:=hp.mem_iff.mpr (zFz hpm)
   have:=List.findIdx?_eq_none_iff.mp hr _ he
   rw[<-e]at this;have z:(zCw prog w).is p.1 (.int p.1 p.2)=false:=this;rw[zEu]at z;cases z
  have hstep:zBX ks k=ks++[k]:=by
   unfold zBX;rw[if_neg];intro h;obtain⟨y,hy,e⟩:=zD8.mp h;exact hno (by rw[<-zEB e];exact hy)
  obtain⟨j,hL,P,pl⟩:=aDD T (by omega) ((zCw prog w).hash k) (.int k tk);have hes:(zBA es (t.put j).2 ((zCw prog w).hash k,zCE k tk)).size=es.size+1:=ph _ _ _;have hperm:(zBA es (t.put j).2 ((zCw prog w).hash k,zCE k tk)).toList.Perm ((tks++[(k,tk)]).map aDN):=by
   have:=zEq es (t.put j).2 ((zCw prog w).hash k,zCE k tk)
   rw[zEM]at this;rw[zC6];exact this.trans (hp.append_right _)
  have htk:(tks++[(k,tk)]).map (·.1)=zBX ks k:=by rw[hstep,zC6,hk];rfl
  dsimp only;rw[hL];dsimp only;refine zAC (zAF ?_);rw[P.pla];simp only[↓reduceIte];refine zAC (zAF ?_);simp only[↓reduceIte];generalize zBA es (t.put j).2 ((zCw prog w).hash k,zCE k tk)=es1 at hes hperm ⊢;generalize (t.put j).1=t1 at P pl ⊢;refine zAC (aDa (s:={s with toks:=s.toks+1}) ho (by omega) λ e1=>?_);simp only[zHB,zHK];cases hf:t1.tooFull with
  |true=>
   obtain⟨es2,t2,hR,T2,l2,p2⟩:=aAH P hes (P.full (by omega) hf);simp only[↓reduceIte];rw[hR];dsimp only;refine zAC (zAF ?_);have hz2:es2.size<=63:=by rw[<-zAW,p2.length_eq,zAW];omega
   refine zAC (aDa e1 hz2 λ e2=>zAF (zAF (q _ _ ((zBi s.heap a _).trans (zBi _ a _)) ⟨es2,_,t2,e2,T2,l2.trans (pl.trans hl),_,htk,p2.trans hperm⟩)))
  |false=>
   simp only[zAs,if_false];exact zAF (zAF (q _ _ (zBi ..) ⟨es1,_,t1,e1,by rw[hes];exact P.still hf,pl.trans hl,_,htk,hperm⟩))
def pU{Q:Value->zAH->Prop}(hI:zBH vs ns)(h64:vs.length<64)
  (h:∀(out:List Value) h' e,Vals ((sortI ns).map V.int) out->(∀b o,s.heap.get? b=some o->h'.get? b=some o)->h'.get? s.heap.objs.size=some (zBV "list" out.toArray e)->Q (.ref s.heap.objs.size) {s with heap:=h'}):
  wpAny (model prog w) A (zEZ vs>>=λ l=>zCj [l] (call (.builtin "list.sort") [l])>>=λ _=>ret l) (λ fin s'=>∃r,fin= .done (.ret r)/\Q r s') E s:=by
 refine zAC (zEd ?_ (by rw[zCV];omega));have hoL:(s.heap.push (zBV "list" vs.toArray 0)).get? s.heap.objs.size=some (zBV "list" vs.toArray 0):=zAX _ rfl;refine zAC (zB6 (zBQ slot_list_sort ⟨_,hoL,rfl⟩ entry_list_sort (list_sort_tree (s:={s with heap:=s.heap.push (zBV "list" vs.toArray 0)}) hoL hI h64 λ out ns' a1 a2 a3=>⟨_,rfl,zAF ⟨_,rfl,?_⟩⟩) (args_list_sort _)));have e:ns'=sortI ns:=zEO (a2.trans (sortI_perm ns).symm) a3 (iD ns);subst e;have hne:∀b o,s.heap.get? b=some o->b≠s.heap.objs.size:=λ b o e=>zA6 (zAS e)
 have g0:=zCi hoL λ _=>(#[]:Array Value)
 have g1:=zAE (zBV "list" #[] 0) (zAE (zBV "tuple" vs.toArray 0) g0);have g2:=zCi g1 (λ _=>out);refine h out.toList _ _ (kZ a1) (λ b o e=>?_) (by rw[zF7];exact g2);unfold zEx;rw[zBa _ _ _ _ (hne b o e)];refine zAE _ (zAE _ ?_);rw[zBa _ _ _ _ (hne b o e)];exact zAE _ e
end
section
variable{X:Cx}
def tHφ(w:World)(a:Addr)(ks:List Int):Heap->Prop:=λ h=>aFa h a (!w.params.followText "set-order") ks
def aBT(w:World):List V->Hp->VK->Prop:=λ xs H Q=>∃a ks,xs=[.ref a]/\H a=some (.ext (tHφ w a ks))/\ks.length<64/\New H (.lst ((sortI ks).map V.int)) Q
theorem ints_of:∀(tks:List (Int×Tok)),zBH (tks.map λ p=>zCE p.1 p.2) (tks.map (·.1))
 |[]=>.nil
 |p::r=>.cons _ _ (ints_of r)
def zP(hc:X.calm=true):dI X (.builtin "sorted") (aBT X.w):=by
 intro pins s Z H xs us Q I r h;obtain⟨a,ks,rfl,ha,h64,q⟩:=h;obtain⟨u,rfl,ru⟩:=vals1 r;cases ru;obtain⟨⟨es,ep,t,e1,e2,e3,tks,hk,e4⟩,_,_⟩:=I.hok a _ ha;have hsz:es.size=ks.length:=by rw[<-zAW,e4.length_eq,zAD,<-hk,zAD]
 have hh:X.A.in1.handled=none:=I.ok.hd hc;refine kj (aAn (aFs (ep:=ep) e2 e3) hh e1 (by rw[hsz,zCV];omega) λ h1 tk vs1 k0 k1 k2 k3=>?_);have hperm:(pA X.w a ep es).toList.Perm (tks.map aDN):=(nD X.w a ep es).trans e4;obtain⟨zs,z1,z2⟩:=lF (f:=aDN) hperm rfl;have hvs:vs1=zs.map λ p=>zCE p.1 p.2:=by
  have e5:(pA X.w a ep es).toList.map (·.2)=zs.map λ p=>zCE p.1 p.2:=by rw[z2,zBG];rfl
  have hlen:(pA X.w a ep es).toList.length=es.size:=by rw[(nD X.w a ep es).length_eq,zAW]
  rw[<-e5];refine zGf (by rw[k2,zAD,hlen]) λ i g1 g2=>?_
  have:=k3 i _ (zAB g1)
  rw[<-zB4,<-zAK,zAB g2]at this;exact(zA9 this).symm
 subst hvs;have hps:(zs.map (·.1)).Perm ks:=by rw[<-hk];exact z1.map _
 have hss:sortI (zs.map (·.1))=sortI ks:=zEO (((sortI_perm _).trans hps).trans (sortI_perm ks).symm) (iD _) (iD _);refine pU (s:={s with heap:=h1,toks:=tk}) (ints_of zs) (by rw[k2];omega) λ out h' e a1 a2 a3=>?_
 rw[hss]at a1;have hle:s.heap.objs.size<=h1.objs.size:=zBP k0;have hfr:H h1.objs.size=none:=I.hok.fresh hle;exact⟨.ref h1.objs.size,upd H h1.objs.size (.lst ((sortI ks).map V.int)),I.laid (t':=tk) (λ b o e=>a2 b o (k1 b o e)) hle ⟨by rw[zAD,(sortI_perm ks).length_eq];exact zA5 (zBP h64) (by decide),out,e,a1,a3⟩,rfl,q.at hfr⟩
end
abbrev aKj:=List (Str×(List D->Rs D))
def fnOf(tab:aKj):Rs D->Option (List D->Rs D)
 | .ok (.fn x)=>tab.lookup x
 |_=>none
def shB:Slot->Bool
 | .no=>true
 | .sh _=>true
 |_=>false
def nsL(Y:En)(fg:D->En->Rs En)(ft:En->Rs Bool)(inn:En->Rs (List D)):List D->Rs (List D)
 |[]=>.ok []
 |d::ds=>(fg d Y).bd λ Y1=>(ft Y1).bd λ k=>if k=true then(inn Y1).bd λ ys=>(nsL Y fg ft inn ds).bd λ zs=>.ok (ys++zs)else nsL Y fg ft inn ds
def inL(fi2:En->Rs (List D))(fg2:D->En->Rs En)(ft2:En->Rs Bool)(fe:En->Rs D):En->Rs (List D):=λ Y1=>if Y1.all shB=true then(fi2 Y1).bd λ ds=>lcL Y1 fg2 ft2 fe ds else .st
def aGp(fi:En->Rs (List D))(js:List (Option Nat))(fg:D->En->Rs En)(ft:En->Rs Bool)(inn:En->Rs (List D)):En->Rs D:=λ Y=>(fi (shE Y)).bd λ ds=>match nsL (stE js (shE Y)) fg ft inn ds with
 | .ok l=>if l.length<zAP then .ok (.lst l)else .st
 |_=>.st
def aAS(h:nsL Y fg ft inn (d::ds)= .ok l):
  ∃Y1 k,fg d Y= .ok Y1/\ft Y1= .ok k/\((k=true/\∃ys zs,inn Y1= .ok ys/\nsL Y fg ft inn ds= .ok zs/\l=ys++zs)\/(k=false/\nsL Y fg ft inn ds= .ok l)):=by
 unfold nsL at h;obtain⟨Y1,e1,h⟩:=bc h;obtain⟨k,e2,h⟩:=bc h;refine⟨Y1,k,e1,e2,?_⟩;cases k with
 |true=>
  rw[if_pos rfl]at h;obtain⟨ys,e3,h⟩:=bc h;obtain⟨zs,e4,h⟩:=bc h;exact .inl ⟨rfl,ys,zs,e3,e4,by cases h;rfl⟩
 |false=>
  rw[if_neg zAY]at h;exact .inr ⟨rfl,h⟩
def aEt(h:inL fi2 fg2 ft2 fe Y1= .ok ys):Y1.all shB=true/\∃ds,fi2 Y1= .ok ds/\lcL Y1 fg2 ft2 fe ds= .ok ys:=by
 unfold inL at h;split at h
 .rename_i hs
  obtain⟨ds,e1,e2⟩:=bc h;exact⟨hs,ds,e1,e2⟩
 .cases h
def RR.butS{K:zAA}(R:RR K G τ Y Z H lab)(hs:Y.all shB=true)(hlab:¬(lab l).1<=1)(B:iC l H H')(hl:H l=some o)(ho:iu o=true)(h0:G.H0 l=none):RR K G τ Y Z H' lab:=by
 refine⟨R.len,λ j s e=>?_,λ b o hb=>?_,R.new,λ q hq=>(R.tm q hq).but B hl ho hlab⟩
 .rcases R.sl j s e with z|⟨u,e1,e2⟩
  .exact .inl z
  .have hb:=zBJ.mp hs s (zAh e)
   cases s with
   |no=>exact .inl rfl
   |sh d=>exact .inr ⟨u,e1,Rp.but B hl ho hlab e2⟩
   |_=>cases hb
 .exact B b o (λ z=>by subst z;rw[h0]at hb;cases hb) (R.old b o hb)
section
variable{K:zAA}{G:Gx}{wi wi2:TI}{fi fi2:En->Rs (List D)}{js:List (Option Nat)}{ks ks2:List Nat}{g g2:TG}{fg fg2:D->En->Rs En}{tt tt2:TT}{ft ft2:En->Rs Bool}{te:TE}{fe:En->Rs D}
def aIO(hi:aBu K G wi fi)(hg:aBv K {G with E:=λ _ _ _=>False} g fg)(hgo:jW g ks)(hgm:wA g)(hk:∀k∈ks2,k∉ks/\(js[k]?).join=none)(ht:w5 K {G with E:=λ _ _ _=>False} tt ft)(hi2:aBu K {G with E:=λ _ _ _=>False} wi2 fi2)
  (hg2:aBv K {G with E:=λ _ _ _=>False} g2 fg2)(ht2:w5 K {G with E:=λ _ _ _=>False} tt2 ft2)(he:gY K {G with E:=λ _ _ _=>False} (some []) te fe):
  gY K G (some []) (aD9 (λ _=>.lst []) wi (stV js) g tt (yH ks2 wi2 g2 tt2 (aH4 te))) (aGp fi js fg ft (inL fi2 fg2 ft2 fe)):=by
 intro τ Z H Y lab Q R W;refine hi τ Z H _ _ _ R.shE (W.bd.imp λ ds _ w J H1 lab1 τ1 s1 _ R1 jl=>?_);intro l hl;obtain⟨out,hout,hlen,w⟩:∃out,nsL (stE js (VL.shE Y)) fg ft (inL fi2 fg2 ft2 fe) ds= .ok out/\out.length<zAP/\QE K (some []) lab H Q (.lst out):=by
  cases hout:nsL (stE js (VL.shE Y)) fg ft (inL fi2 fg2 ft2 fe) ds with
  |ok out=>
   rw[hout]at w;dsimp only at w;split at w
   .rename_i hz;exact⟨out,rfl,hz,w⟩
   .exact zAJ w
  |ex c=>rw[hout]at w;exact zAJ w
  |st=>rw[hout]at w;exact zAJ w
 have R0:RR K {G with E:=λ _ _ _=>False} (τ1++τ) (VL.shE Y) Z H1 (λ _=>(0,0)):=R1.blk0 rfl;have RB:=R0.block (js:=js) (λ _=>zAc _) hl;have hHl:H l=none:=s1.free hl;have h0l:G.H0 l=none:=R1.old.free hl;have labl:¬((λ p=>if p=l then((2,0):Nat×Nat)else(0,0)) l).1<=1:=by simp
 have hsk:∀k∈ks2,(stV js Z)[k]? =some none\/(stV js Z)[k]? =none:=λ k hk2=>by
  have:=(hk k hk2).2
  unfold stV;rw[zAK];cases e:js[k]? with
  |none=>exact .inr rfl
  |some o=>
   rw[e]at this;cases o with
   |none=>exact .inl rfl
   |some j=>cases this
 refine⟨λ i n H2=>∃(pre:List D) (acc:List V),n=ds.length-i/\i<=ds.length/\H2 l=some (.lst acc)/\RR K {G with E:=λ _ _ _=>False} (τ1++τ) (stE js (VL.shE Y)) (stV js Z) H2 (λ p=>if p=l then(2,0)else(0,0))/\aU H H2/\Rps K (λ p=>H p=none/\p≠l) H2 acc pre/\
  ∃post,nsL (stE js (VL.shE Y)) fg ft (inL fi2 fg2 ft2 fe) (ds.drop i)= .ok post/\out=pre++post,⟨ds.length,[],[],by lia,by lia,aY,RB.up (aq hl _),s1.trans (aq hl _),.nil,out,hout,rfl⟩,?_⟩
 rintro i n H2 ⟨pre,acc,rfl,hi',hH2,R2,s2,rpre,post,hpost,eout⟩;have jj:=jl _ H2 λ q hq=>R2.tm q (zA1 _ hq)
 by_cases hlt:i<ds.length
 .obtain⟨go,yl⟩:=(jj i).2 hlt
  refine .inr ⟨go,λ x H3 hy=>?_⟩;obtain⟨s3,d,ed,rx⟩:=yl x H3 hy;replace R2:=R2.up s3;replace hH2:=s3 _ _ hH2;replace s2:=s2.trans s3;replace rpre:=rpre.up s3;have ed2:ds.drop i=d::ds.drop (i+1):=by
   rw[zB3 hlt]
   have:=zAB hlt
   rw[ed]at this;cases this;rfl
  rw[ed2]at hpost;obtain⟨Y1,k,e1,e2,e3⟩:=aAS hpost;have hgx:=hgo _ _ _ _ (hg (τ1++τ) x d _ H3 _ _ (λ Z4 H4=>H4=H3/\RR K {G with E:=λ _ _ _=>False} (τ1++τ) Y1 Z4 H3 (λ p=>if p=l then(2,0)else(0,0))) Y1 R2 rx e1 λ Z4 R4=>⟨rfl,R4⟩);refine hgm _ _ _ _ _ (λ Z4 H4 ⟨⟨eH,R4⟩,hlen4,hag4⟩=>?_) hgx;subst eH;refine ht (τ1++τ) Z4 H4 Y1 _ _ R4 ?_;rw[e2];intro H5 s5;rcases e3 with ⟨rfl,ys,zs,e3,e4,rfl⟩|⟨rfl,e4⟩
  .rw[if_pos rfl]
   obtain⟨hsh,ds2,f1,f2⟩:=aEt e3;refine⟨λ k hk2 v e=>?_,?_⟩
   .rw[hag4 k (hk k hk2).1]at e
    rcases hsk k hk2 with z|z<;>rw[z]at e<;>cases e
   refine hi2 (τ1++τ) Z4 H5 Y1 _ _ (R4.up s5) ?_;rw[f1];intro J2 H6 lab6 τ6 s6 hlab6 R6 jl6;have hl6:H6 l=some (.lst acc):=s6 _ _ (s5 _ _ hH2);have lab6l:¬(lab6 l).1<=1:=by rw[hlab6 l _ (s5 _ _ hH2)];exact labl
   refine⟨λ j n2 H7=>∃(pre2:List D) (acc2:List V),n2=ds2.length-j/\j<=ds2.length/\H7 l=some (.lst acc2)/\RR K {G with E:=λ _ _ _=>False} (τ6++(τ1++τ)) Y1 Z4 H7 lab6/\RR K {G with E:=λ _ _ _=>False} (τ1++τ) (stE js (VL.shE Y)) (stV js Z) H7 (λ p=>if p=l then(2,0)else(0,0))/\aU H H7/\
    Rps K (λ p=>H p=none/\p≠l) H7 acc2 (pre++pre2)/\∃post2,lcL Y1 fg2 ft2 fe (ds2.drop j)= .ok post2/\ys=pre2++post2,
    ⟨ds2.length,[],acc,by lia,by lia,hl6,R6,R2.up (s5.trans s6),(s2.trans s5).trans s6,by rw[zAg];exact rpre.up (s5.trans s6),ys,f2,rfl⟩,?_⟩
   rintro j n2 H7 ⟨pre2,acc2,rfl,hj,hl7,R7,Rb7,s7,rpre2,post2,hpost2,eys⟩;have jj7:=jl6 _ H7 λ q hq=>R7.tm q (zA1 _ hq)
   by_cases hlt2:j<ds2.length
   .obtain⟨go2,yl2⟩:=(jj7 j).2 hlt2
    refine .inr ⟨go2,λ x2 H8 hy2=>?_⟩;obtain⟨s8,d2,ed8,rx2⟩:=yl2 x2 H8 hy2;replace R7:=R7.up s8;replace Rb7:=Rb7.up s8;replace hl7:=s8 _ _ hl7;replace s7:=s7.trans s8;replace rpre2:=rpre2.up s8;have ed9:ds2.drop j=d2::ds2.drop (j+1):=by
     rw[zB3 hlt2]
     have:=zAB hlt2
     rw[ed8]at this;cases this;rfl
    rw[ed9]at hpost2;obtain⟨Y2,k2,q1,q2,q3⟩:=vD hpost2;refine hg2 (τ6++(τ1++τ)) x2 d2 _ H8 _ _ _ Y2 R7 rx2 q1 λ Z9 R9=>?_
    refine ht2 (τ6++(τ1++τ)) Z9 H8 Y2 _ _ R9 ?_;rw[q2];intro H9 s9;rcases q3 with ⟨rfl,y,ys2,q3,q4,rfl⟩|⟨rfl,q4⟩
    .rw[if_pos rfl]
     refine he (τ6++(τ1++τ)) Z9 H9 Y2 _ _ (R9.up s9) ?_;rw[q3];intro v Ha sa ra;have hla:Ha l=some (.lst acc2):=sa _ _ (s9 _ _ hl7);have B:iC l Ha (upd Ha l (.lst (acc2++[v]))):=λ b o ne hb=>by rw[aj ne];exact hb
     have hsz:acc2.length<zAP:=by
      have h1:=rpre2.length;have h2:out.length=pre.length+(pre2.length+(ys2.length+1))+zs.length:=by rw[eout,eys];simp;lia
      rw[zAb]at h1;lia
     refine⟨acc2,hla,hsz,ds2.length-(j+1),by lia,pre2++[y],acc2++[v],rfl,hlt2,aY,(R7.up (s9.trans sa)).butS hsh lab6l B hla rfl h0l,(Rb7.up (s9.trans sa)).but_blk B hla rfl h0l,λ b o hb=>B b o (λ z=>by subst z;rw[hHl]at hb;cases hb) (((s7.trans s9).trans sa) b o hb),?_,ys2,q4,by rw[eys];simp⟩;rw[<-zBO];refine((rpre2.up (s9.trans sa)).append (.cons (ra.wk λ p o _ z=>?_) .nil)).but B hla rfl λ z=>z.2 rfl
     rcases z with z|z
     .exact⟨(s7.trans s9).free z,λ e=>by subst e;rw[s9 _ _ hl7]at z;cases z⟩
     .cases z
    .rw[if_neg zAY]
     exact⟨ds2.length-(j+1),by lia,pre2,acc2,rfl,hlt2,s9 _ _ hl7,R7.up s9,Rb7.up s9,s7.trans s9,rpre2.up s9,post2,q4,eys⟩
   .have ej:j=ds2.length:=by lia
    subst ej;rw[zC0]at hpost2;cases hpost2;rw[zAg]at eys;subst eys;exact .inl ⟨(jj7 _).1 (zAO _),ds.length-(i+1),by lia,_,acc2,rfl,hlt,hl7,Rb7,s7,rpre2,zs,e4,by rw[eout];simp⟩
  .rw[if_neg zAY]
   exact⟨ds.length-(i+1),by lia,pre,acc,rfl,hlt,s5 _ _ hH2,R2.up s5,s2.trans s5,rpre.up s5,post,e4,eout⟩
 .have ei:i=ds.length:=by lia
  subst ei;rw[zC0]at hpost;cases hpost;rw[zAg]at eout;subst eout;exact .inl ⟨(jj _).1 (zAO _),w _ H2 s2 (.lst hH2 (.inl hHl) (rpre.wk λ p o _ z=>⟨.inl z.1,z.2⟩))⟩
end
section
variable{C:Ct}{pos:Pos}{elt tg iter tg2 iter2:Expr}{ifs ifs2:List Expr}{sc:Scope}{N:List Str}{js:List (Option Nat)}{ks ks2:List Nat}{fi fi2:En->Rs (List D)}{fg fg2:D->En->Rs En}{ft ft2:En->Rs Bool}{fe:En->Rs D}
def aKD(hi:SI C tg iter fi)(hg:SG (C.blk sc N) tg ks fg)(ht:aAu (C.blk sc N) ifs ft)(hi2:SI (C.blk sc N) tg2 iter2 fi2)(hg2:SG (C.blk sc N) tg2 ks2 fg2)(ht2:aAu (C.blk sc N) ifs2 ft2)(he:SE (C.blk sc N) (some []) elt fe)(hk:∀k∈ks2,k∉ks/\(js[k]?).join=none:=by decide)(hs:∀i x,zAu iter (C.X i).env x=pure x:=by intro _ _;rfl)(hs2:∀(i:(C.blk sc N).ι) x,zAu iter2 ((C.blk sc N).X i).env x=pure x:=by intro _ _;rfl)(hB:∀i,cU (C.X i) sc N (stV js) (ks++ks2):=by intro _;exact vo rfl rfl rfl rfl rfl rfl):
  SE C (some []) (.ListComp elt [⟨tg,iter,ifs,0⟩,⟨tg2,iter2,ifs2,0⟩] sc pos) (aGp fi js fg ft (inL fi2 fg2 ft2 fe)):=by
 obtain⟨wi,i1,i2⟩:=hi;obtain⟨g,g1,g2,g3,g4⟩:=hg;obtain⟨tt,t1,t2⟩:=ht;obtain⟨wi2,j1,j2⟩:=hi2;obtain⟨gg,h1,h2,h3,h4⟩:=hg2;obtain⟨tt2,u1,u2⟩:=ht2;obtain⟨te,e1,e2⟩:=he;have go1:jW g (ks++ks2):=λ v Z H Q q=>g4 _ _ _ _ _ (λ Z' H' ⟨a,b,c⟩=>⟨a,b,λ k hk=>c k λ z=>hk (zA1 _ z)⟩) (g3 v Z H Q q)
 refine⟨_,λ i=>aHo (pos:=pos) (hB i) (C.calm i) (i1 i) (λ c fp z0 zS=>g1 (i,c,fp,z0,zS)) go1 (λ c fp z0 zS=>t1 (i,c,fp,z0,zS)) (aD5 elt tg iter tg2 iter2 ifs ifs2 sc pos) (pN rfl (λ _ _ _ _=>rfl) λ _ _ _ _ _=>rfl) aHW ?_ rfl rfl (hs i),aIO i2 g2 g3 g4 hk t2 j2 h2 u2 e2⟩;intro c fp z0 zS;exact aCM (C.calm i) (λ _ _ h=>h) (aD4 elt tg iter tg2 iter2 ifs ifs2 sc pos) (pN rfl (λ _ _ _ _=>rfl) λ _ _ _ _ _=>rfl) (j1 (i,c,fp,z0,zS)) (h1 (i,c,fp,z0,zS)) h3 (u1 (i,c,fp,z0,zS)) (aIk (e1 (i,c,fp,z0,zS))) (hs2 (i,c,fp,z0,zS))
end
def aJp(K:zAA)(a:Addr):It:=
 ⟨λ i H=>∃xs x,SqL K H a xs/\xs[i]? =some x,λ i H x H'=>∃p y,x= .ref p/\H p=none/\H'=upd H p (.tup [.int i,y])/\∀xs,SqL K H a xs->xs[i]? =some y,λ i H=>∃xs,SqL K H a xs/\xs.length<=i⟩
def aBA{K:zAA}(a e it:Addr)(hei:e≠it)(hae:a≠e)(hai:a≠it):
  Turn P w K (.Tuple elts x1 ps) (aJp K a) [e,it] e (λ i h=>(∃old,IsEnum h e it i old)/\h.IsListIter it a i) where
 mem:=by simp
 obj:=λ i h st b hb=>by
  obtain⟨⟨old,he⟩,o,e2,c,d⟩:=st;rcases zAR.mp hb with rfl|hb
  .exact⟨_,he,λ v z=>by cases z⟩
  .have q:b=it:=by simpa using hb
   subst q;exact⟨o,e2,λ v z=>by rw[d]at z;cases z⟩
 keep:=λ i h h' st k=>⟨let⟨old,he⟩:=st.1;⟨old,k e (by simp) _ he⟩,st.2.at λ o q=>k it (by simp) o q⟩
 item:=by
  intro X hP hw hK hc i pins s Z H E I hf st hg;subst hP hw hK;obtain⟨xs,x,hq,hx⟩:=hg;obtain⟨its,rv,p,hz⟩:=I.list hq;obtain⟨u,hu,ru⟩:=rv.get hx;obtain⟨⟨old,he⟩,hit⟩:=st;refine wpAny_pyNext_enum_itemD (Draws.list (A:=X.A.in1) (show X.A.in1.handled=none from I.ok.hd hc) it a hai its.toArray) he ⟨hit,p.isList⟩ (by have:=(zAL.mp hu).1;simpa using this) hei (by simp[hei,zDH hae]) λ y h' tk hy ho st' hT hsz hk=>⟨_,rfl,?_⟩
  have ey:y=u:=by
   have:its.toArray[i]? =some u:=by simpa using hu
   rw[this]at hy;exact(zA9 hy).symm
  subst ey;have hel:e<s.heap.objs.size:=zAS he;refine wpAny_letOwnedTupleGo_enum ho λ h2 he2 hs2=>⟨.ref s.heap.objs.size,upd H s.heap.objs.size (.tup [.int i,x]),?_,rfl,⟨_,x,rfl,I.hok.fresh (zAO _),rfl,λ ys hy=>by rw[I.list_inj hy hq];exact hx⟩,⟨⟨_,by simpa using he2⟩,st'.1.at λ o q=>(hs2.2 it (zDH hei)).trans q⟩,λ b hb=>?_⟩
  .exact aEp (s:=s) (h':=h2) (t':=tk+1) I hf (λ b u hb q=>(hs2.2 b λ z=>hb (by simp[z])).trans (hk b u (λ z=>hb (by simp[z])) (λ z=>hb (by simp[z])) q)) (zAO _) ⟨⟨by simp[zCV],NoD.at ((hs2.2 _ (zC5 hel)).trans hT)⟩,[.int i tk,y],.cons ⟨_,rfl⟩ (.cons ru .nil),_,(hs2.2 _ (zC5 hel)).trans hT,rfl,_,rfl⟩
  .have:=(hf b hb).1
   rw[aj]
   .exact this
   .rintro rfl
    rcases zAR.mp hb with q|q
    .exact absurd hel (by rw[<-q];exact zBL _)
    .obtain⟨o,ho2,_⟩:=hit
     have q2:s.heap.objs.size=it:=by simpa using q
     exact absurd (zAS ho2) (by rw[<-q2];exact zBL _)
 done:=by
  intro X hP hw hK hc i pins s Z H E I hf st hg;subst hP hw hK;obtain⟨xs,hq,hx⟩:=hg;obtain⟨its,rv,p,hz⟩:=I.list hq;obtain⟨⟨old,he⟩,hit⟩:=st;obtain⟨f0,f1,f2,f3,f4,f5⟩:=hf it (by simp);have hT:s.TypeIs (.ref e) "enumerate":=⟨_,he,rfl⟩;have hl:=rv.length;unfold zFG;refine zAC (zGU (zBb (name:=zDN "__next__") hT zGH (zBQ zGH hT F.entry_enumerate_next ?_ (F.args_enumerate_next_1 _))));show wpAny _ _ (field (.ref e) 2>>=_) _ _ _;refine zAC (zDS he rfl (x:=.ref it) rfl ?_);refine zAC (wpAny_nextOf_list_end (I.ok.hd hc) hit p.isList (by simp;lia) λ h' x he' hx'=>?_);obtain⟨o,ho,hc⟩:=hx';refine zAC (zFQ (T:="StopIteration") (b:=true) ⟨o,ho,hc⟩ isSubtype_stop ?_);exact zAF ⟨rfl,I.turned (t':=s.toks) (λ b o hb q=>he' b o hb q) f0 f1 f3 f4 f5⟩
 self:=λ _ _ _ _ _ st h=>let⟨⟨_,he⟩,_⟩:=st;zHb he h
def aEz(K:zAA)(tl:TA):TI:=λ Z H R=>tl Z H λ xs H1=>∃a,xs=[.ref a]/\(∃ys,SqL K H1 a ys)/\R (aJp K a) H1
def aEP{x1:Nat}(hl:PA X [l] tl)(hg:Gl X "enumerate")(hm:X.mg "enumerate"=none)(hv:zAo "enumerate"=some (.type "enumerate"))
  (he:zAU [l] X.env=[(false,eval l X.env)]:=by rfl):PI X (.Tuple elts x1 ps) (.Call (.Name "enumerate" p) [l] [] pos) (aEz X.K tl):=by
 intro pins s Z H R I h;refine zD5 (rO I hg hm hv ?_ (by decide) (by decide));refine zBr (thn (hl pos pins s Z H _ I h) λ us s1 ⟨vs,H1,I1,r1,a,e,⟨ys,hy⟩,q⟩=>?_) he rfl;subst e;obtain⟨u,rfl,ru⟩:=r1.one;cases ru;obtain⟨its,rv,pp,hz⟩:=I1.list hy;have ha:a<s1.heap.objs.size:=let⟨o,_,ho,_⟩:=pp;zAS ho
 refine call_enumerate_list pp.isList λ h' he hit _ hk=>zHb he ?_
 have n1:s1.heap.objs.size+1≠s1.heap.objs.size:=by lia
 refine⟨_,_,_,_,H1,rfl,I1.kept (t':=s1.toks) hk,aBA a _ _ n1 (zA6 (Nat.lt_succ_of_lt ha)) (zA6 ha),⟨⟨_,he⟩,hit⟩,λ b hb=>?_,q⟩;have hle:s1.heap.objs.size<=b:=by
  rcases zAR.mp hb with rfl|hb
  .exact zDF _
  .have:b=s1.heap.objs.size:=by simpa using hb
   exact zFq this.symm
 exact I1.fpOk hle (I1.hok.fresh hle)
def aFS:List D->Rs (List D)
 |[.lst l]=>.ok (aAi l)
 |_=>.st
def aEk{K:zAA}(h:SqL K H a xs)(r:Rps K (λ p=>(lab p).1<=1) H xs ds):JL K lab (aJp K a) H (aAi ds):=by
 have hl:=r.length;have hle:(aAi ds).length=ds.length:=by simp[aAi]
 refine λ i=>⟨λ hi=>⟨xs,h,by lia⟩,λ hi=>⟨⟨xs,xs[i]'(by lia),h,by simp[hl,hle▸hi]⟩,λ x H' y=>?_⟩⟩
 obtain⟨p,y,rfl,hp,rfl,hy⟩:=y;obtain⟨d,h1,h2⟩:=r.get (hy xs h);refine⟨aq hp _,.tup [.int (i:Int),d],?_,.tup (.inl (.inl aY)) (.cons (.int _) (.cons (h2.up (aq hp _)) .nil))⟩;unfold aAi;rw[zAK,zFl,h1];simp
section
variable{C:Ct}{m:Mode}{a:Expr}{ga:En->Rs (List D)}{elts:List Expr}{x1:Nat}{ps p pos:Pos}
def aDl(ha:SA C m [a] ga)(hm:C.mg "enumerate"=none)(ho:okS m=true:=by rfl)(hs:∀i,zAU [a] (C.X i).env=[(false,eval a (C.X i).env)]:=by intro _;rfl)(hg:∀i,Gl (C.X i) "enumerate":=by intro _;rfl)(hv:zAo "enumerate"=some (.type "enumerate"):=by decide+kernel):
  SI C (.Tuple elts x1 ps) (.Call (.Name "enumerate" p) [a] [] pos) (dJ aFS ga):=by
 obtain⟨t,p1,p2⟩:=ha;refine⟨aEz C.K t,λ i=>by rw[<-C.hK i];exact aEP (p1 i) (hg i) (by rw[(C.cx i).2.2.2.1];exact hm) hv (hs i),λ τ Z H Y lab Rr R W=>p2 τ Z H Y lab _ R (W.bd.imp λ ds _ w vs H1 s r=>?_)⟩;cases ds with
 |nil=>exact zAJ w
 |cons d ds=>
  cases ds with
  |cons _ _=>cases d<;>exact zAJ w
  |nil=>
   obtain⟨v,rfl,rd⟩:=r.one_inv;cases d with
   |lst l=>
    obtain⟨R',r'⟩:=R.shared ho s rd;obtain⟨b,xs,rfl,h,mm,q⟩:=r'.lst_inv;refine⟨b,rfl,⟨xs,SqL.of h⟩,w _ H1 _ [(.ref b,.lst l)] s (λ p o e=>bA e) ⟨R'.len,R'.sl,R'.old,R'.new,λ z hz=>?_⟩ λ lab' H' hq=>?_⟩
    .rcases zAR.mp hz with rfl|hz
     .exact .lst h mm q
     .exact R'.tm z hz
    .have z:=hq _ (zAN ..)
     obtain⟨b',xs',e',h',_,q'⟩:=z.lst_inv;cases e';exact aEk (SqL.of h') (q'.wk λ _ _ _ z=>z.1)
   |_=>exact zAJ w
end
end VL
namespace HT
open PySem PySem.Spec PyProof.Rows
end HT
namespace VL
open PySem PySem.Spec PyProof.Rows L2
end VL
namespace PySem.AutoSeq1
end PySem.AutoSeq1
namespace VL
open PySem PySem.Spec PyProof.Rows L2
def Enr(K:zAA)(x:Str)(st:Stmt)(f:Addr)(fd:zA8):Prop:=L2.Fun K x x st f fd/\zAq K zA7 x=some (some (.ref f))
def enr{K:zAA}{st:Stmt}{oc kV dc pm cd ct:Value}(a:zAq K zA7 x=some (some (.ref f)))
  (l:K.lookup f=some ⟨oc,od,.func (zBn x x (nP st) (gK st) (aP st) .none kV dc pm an cd ct),sl⟩)(c:zDG K cd x=true)(k:zCb K (.ref f)=true):∃f fd,Enr K x st f fd:=⟨f,_,aJ8 (st:=st) l c k,a⟩
structure Dnr(K:zAA)(mg:Str->Option Value)(x:Str)(st:Stmt)(ps:List Str)(f:Addr)(d:zA8):Prop where
 F:L2.Fun K x x st f d
 m:mg x=some (.ref f)
 b:L2.Binds K d ps []
section
variable{C:Ct}
def aV{st:Stmt}(hF:bz C.prog C.w C.K C.mg C.base (CX1 C.prog C.w) k fn fd ps (spF C.K C.G.cl n F))(D:Dnr C.K C.mg x st ps fn fd)(ha:SA C m (e::es) ga)(hr:k<=C.k:=by exact Nat.le_of_ble_eq_true rfl)(hg:∀i,Gl (C.X i) x:=by intro _;rfl)
  (hn:∀Y ds,ga Y= .ok ds->ds.length=n:=by repeat (first|exact λ _ _ h=>aGo h|apply aEe))(hdb:Nd x:=by decide)(he:∀i,zAU (e::es) (C.X i).env=(false,eval e (C.X i).env)::zAU es (C.X i).env:=by intro _;rfl)
  (hpl:∀i,(zCF pos (zAU es (C.X i).env)).any (·.1)=false:=by intro _;rfl):SE C (some []) (.Call (.Name x p) (e::es) [] pos) (aN F ga):=aGH hF hr D.m D.F.kp D.b ha hn hdb he hpl hg
end
def ao{P:zA2}{w:World}{K:zAA}{st:Stmt}(D:Dnr K mg q st ps fn fd)(S:aW N ps (aP st))(hb:N.Nodup->∀cdv A outer s H E hr,SSs (ctD P w K mg base N q (aP st) fn cdv A outer s H E k hr) (gK st) f)(hn:ps.length=n:=by rfl)(hF:dF N.length f=FF:=by rfl):
  bz P w K mg base (CX1 P w) (k+1) fn fd ps (spF K (bR mg) n FF):=aHK D.F S (hb S.nd) hn hF
def aBt(items:Array Value)(nss:Nat->List Int)(h:Heap):Prop:=∀i v,items[i]? =some v->∃x its,v= .ref x/\IsTup h x its/\zBH its.toList (nss i)
def aBR(items:Array Value):List Addr:=items.toList.filterMap λ v=>match v with| .ref x=>some x|_=>none
def aBQ{items:Array Value}{i:Nat}(h:items[i]? =some (zBv x)):x∈aBR items:=by
 unfold aBR;rw[zCA];exact⟨.ref x,by have:=zAh (l:=items.toList) (i:=i) (by simpa using h);exact this,rfl⟩
def aBt.keep(T:aBt items nss h)(k:∀b∈aBR items,∀o,h.get? b=some o->h'.get? b=some o):aBt items nss h':=λ i v e=>by
 obtain⟨x,its,rfl,⟨o,h1,h2⟩,h3⟩:=T i v e;exact⟨x,its,rfl,⟨o,k x (aBQ e) o h1,h2⟩,h3⟩
def putN(ds:List D):D->Option Nat
 | .int n=>ixN ds.length n
 |_=>none
def aBW(i:Nat)(fk fe:En->Rs D):En->Ou:=λ Y=>match Y[i]? with
 |some (.ow (.lst ds))=>(fe Y).bo λ d=>(fk Y).bo λ k=>match putN ds k with
  |some j=>.nx (Y.set i (.ow (.lst (ds.set j d))))
  |none=>.st
 |_=>.st
def aCn(h:putN ds k=some j):∃n,k= .int n/\ixN ds.length n=some j:=by
 cases k with
 |int n=>exact⟨n,rfl,h⟩
 |_=>cases h
section
variable{C:Ct}{pos tpos p:Pos}{ek e:Expr}{fk fe:En->Rs D}{x:Str}{m m1:Mode}
def aFq(i:Nat)(hk:SE C m1 ek fk)(he:SE C m e fe)(hm:okN m=true:=by rfl)(hN:∀j,(C.X j).N[i]? =some x:=by intro _;rfl)(hv:∀j,Vis (C.X j).env.scope x:=by intro _;first|exact zBu rfl|exact zB2 (zBu rfl)|exact zB2 (zB2 rfl))(hd:Nd x:=by decide)
  (hcd:(x==("__classdict__":Str))=false:=by decide)(ha:∀j v,zDd (.Subscript (.Name x p) ek tpos) (C.X j).env v=(do
   let ov <-zCj [v] (eval (.Name x p) (C.X j).env);let iv <-zCj [v,ov] (eval ek (C.X j).env)
   zED tpos
   zCj [v,ov,iv] (zHF ov iv v)
   release [v,ov,iv] []):=by intro _ _;rfl)(hs:∀j,zGS [.Subscript (.Name x p) ek tpos] e pos.line (C.X j).env=pure false:=by intro _;rfl)(hw:∀j,zGR [.Subscript (.Name x p) ek tpos] e (C.X j).env=pure none:=by intro _;rfl)
  (h1:∀j,(zCI [.Subscript (.Name x p) ek tpos] (C.X j).env).map (·.2)=[zDd (.Subscript (.Name x p) ek tpos) (C.X j).env]:=by intro _;rfl):
  SS C (.Assign [.Subscript (.Name x p) ek tpos] e pos) (aBW i fk fe):=by
 obtain⟨tk,k1,k2⟩:=hk;obtain⟨te,e1,e2⟩:=he;refine⟨aCf te (aK7 (qg i) tk aEB),λ j=>aEK (e1 j) (aI9 (gj (hN j) (hv j) hd hcd) (k1 j) set_list (ha j)) (hs j) (hw j) (h1 j),λ τ Z H Y lab De R W=>?_⟩;unfold aBW at W;cases es:Y[i]? with
 |none=>rw[es]at W;exact zAJ W
 |some s=>
  rw[es]at W;split at W
  .rename_i ds hs
   cases hs;rcases R.sl i _ es with z|⟨v,ev,hv'⟩
   .cases z
   .obtain⟨hv1,htop⟩:=hv'
    obtain⟨a0,ea0,la0⟩:=htop rfl;subst ea0;cases hv1 with
    |lst h mm r=>
     rename_i xs;refine e2 τ Z H Y lab _ R (W.bo.imp λ d _ w y H2 s2 r2=>⟨.ref a0,ev,?_⟩);refine k2 τ Z H2 Y lab _ (R.up s2) (w.bo.imp λ k _ w kv H3 s3 r3=>?_);cases hj:putN ds k with
     |none=>rw[hj]at w;exact zAJ w
     |some j=>
      rw[hj]at w;dsimp only at w;obtain⟨n,rfl,hj⟩:=aCn hj;have ey:=r3.int_inv;subst ey;have h3:H3 a0=some (.lst xs):=(s2.trans s3) _ _ h;refine⟨a0,xs,n,j,rfl,rfl,h3,by rw[r.length];exact hj,?_⟩;obtain⟨R',r'⟩:=R.fresh (P:=λ k=>k=1) rfl (λ k hk=>beq_iff_eq.mp (jP hm k hk)) s2 r2;have la:(bT H 1 lab a0).1=i+2:=by rw[bA h];exact la0
      have B:iC a0 H3 (upd H3 a0 (.lst (xs.set j y))):=λ b' o ne hb=>by rw[aj ne];exact hb
      refine w Z _ _ ((R'.up s3).mut ev h3 rfl la B ⟨.lst aY (.inr la) ?_,λ _=>⟨a0,rfl,la⟩⟩);have ra:Rps C.K (λ p=>((bT H 1 lab p).1=1\/(bT H 1 lab p).1=i+2)/\p≠a0) H3 (xs.set j y) (ds.set j d):=by
       refine Rps.set ((r'.up s3).wk λ p o e z=>⟨.inl z,λ q=>?_⟩) j (r.mono (s2.trans s3) λ p o e z=>⟨by rw[bA e];exact z.1,z.2⟩);subst q;rw[la]at z;lia
      exact ra.but B h3 rfl λ z=>z.2 rfl
  .exact zAJ W
end
section
variable{prog:zA2}{w:World}{A:zAm}{E:Value->zAH->Prop}{s:zAH}
def aAm{l:Addr}{vs:List Value}{Q:List Value->zAH->Prop}(hl:IsTup s.heap l vs.toArray)
  (h:Q vs {s with heap:=(s.heap.push (zBV "list" #[] 0)).update s.heap.objs.size (zBU (·++vs.toArray))})(hsz:vs.length<=zAP):
  wpAny (model prog w) A (zHD (.ref l)) Q E s:=by
 obtain⟨o,ho,hc,n,hd⟩:=hl;unfold zHD;refine zAC (wpAny_runValue (zDQ entry_proto_collect' ?_));show wpAny _ _ (do again (.builtin "list.__iadd__" ⟨[<-zEZ [],.ref l],[]⟩)) _ _ s;refine zAC (zEd (zAF ⟨zGG _ (by decide+kernel),zDQ entry_list_iadd' ?_⟩));show wpAny _ _ (zCe (.ref s.heap.objs.size) (.ref l) (.ref s.heap.objs.size)) _ _ {s with heap:=s.heap.push (zBV "list" #[] 0)};unfold zCe;have ho':(s.heap.push (zBV "list" #[] 0)).get? l=some o:=zAE _ ho;refine zAC (zD6 (T:="tuple") ⟨o,ho',hc⟩ ?_);have ht:(zC3 "tuple"==zC3 "tuple")=true:=by rfl
 rw[if_pos (by rw[ht];simp)];refine zAC (zGt ho' hd ?_);refine zAC (zGt (xs:=#[]) (n:=0) (zAX _ rfl) rfl ?_);rw[if_neg (by simp)];refine zAC (zEb (xs:=#[]) (n:=0) (zAX _ rfl) rfl ?_ (zAc _) (by show(#[]++vs.toArray).size<=zAP+1;simp only[Array.size_append,zAG,zBm];omega));refine zAF ?_;show wpAny (model prog w) A (do
   let o <-load s.heap.objs.size
   match o.data with
   | .seq xs _=>pure xs.toList
   |_=>zHG "internal:collect") Q E {s with heap:=(s.heap.push (zBV "list" #[] 0)).update s.heap.objs.size (zBU (·++vs.toArray))}
 refine zAC (zHa (zCi (zAX _ rfl) _) ?_);show wpAny _ _ (pure ((#[]:Array Value)++vs.toArray).toList) Q E _;rw[show((#[]:Array Value)++vs.toArray).toList=vs by simp];exact zAF h
end
end VL
namespace PySem
open Sem(wp)
section
variable{prog:zA2}{w:World}
inductive z7{K:Type}[DecidableEq K](knd:KeyKind prog w K)(h:Heap):List Value->List (K×Value)->Prop where
 |nil:z7 knd h [] []
 |cons {x:Addr} {o:Obj} {n:Nat} {kv v:Value} {k:K} {us:List Value} {ps:List (K×Value)} (ho:h.get? x=some o) (hc:o.cls= .type "tuple") (hd:o.data= .seq #[kv,v] n) (hk:knd.is k kv=true) (r:z7 knd h us ps):z7 knd h (.ref x::us) ((k,v)::ps)
end
end PySem
namespace VL
open PySem PySem.Spec PyProof.Rows L2
section
variable{K:Type}[DecidableEq K]
end
end VL
namespace L2
open PySem PySem.Spec PyProof.Rows
section
variable{X:Cx}{n0 n1 n2 odd:Str}{c1 c2:V}{k1 k2 k3 k4:List V}{l1 l2:List Str}{a1 a2:Expr}{as1 as2 e1 e2 e3 e4 w1 w2:List Expr}{kw1 kw2:List zCL}{Q:VK}{H:Hp}{vs:List V}
 {p1 p2 p3 p4 p5 p6 p7 p8 p9 p10 p11 p12 p13 p14 p15 p16 p17 p18 p19 p20 p21 p22 p23 p24 p25 p26 p27 p28 p29 p30 p31 p32 p33 p34 p35 p36 p37 p38 p39 p40:Pos}{q1 q2 q3 q4 q5 q6 q7:Pos}{j1 j2 j3 j4 j5:Nat}{E0:XK}{wd:Addr->Option Str}
end
section
variable{P:zA2}{w:World}{K:zAA}{mg:Str->Option Value}{base:Heap}{x q n0 n1 n2 odd:Str}{st:Stmt}{f:Addr}{fd:zA8}{k:Nat}{wd:Addr->Option Str}{c1 c2:V}{k1 k2 k3 k4:List V}{l1 l2:List Str}{a1 a2:Expr}{as1 as2 e1 e2 e3 e4 w1 w2:List Expr}{kw1 kw2:List zCL}
 {p1 p2 p3 p4 p5 p6 p7 p8 p9 p10 p11 p12 p13 p14 p15 p16 p17 p18 p19 p20 p21 p22 p23 p24 p25 p26 p27 p28 p29 p30 p31 p32 p33 p34 p35 p36 p37 p38 p39 p40:Pos}{q1 q2 q3 q4 q5 q6 q7:Pos}{j1 j2 j3 j4 j5:Nat}
end
section
variable{X:Cx}{n0 n1 n2 odd:Str}{c1 c2:V}{k1 k2 k3 k4:List V}{l1 l2:List Str}{a1 a2:Expr}{as1 as2 e1 e2 e3 e4 w1 w2:List Expr}{kw1 kw2:List zCL}{Q:VK}{H:Hp}{vs:List V}
 {p1 p2 p3 p4 p5 p6 p7 p8 p9 p10 p11 p12 p13 p14 p15 p16 p17 p18 p19 p20 p21 p22 p23 p24 p25 p26 p27 p28 p29 p30 p31 p32 p33 p34 p35 p36 p37 p38 p39 p40:Pos}{q1 q2 q3 q4 q5 q6 q7:Pos}{j1 j2 j3 j4 j5:Nat}{E0:XK}{wd:Addr->Option Str}
end
section
variable{P:zA2}{w:World}{K:zAA}{mg:Str->Option Value}{base:Heap}{x q n0 n1 n2 odd:Str}{st:Stmt}{f:Addr}{fd:zA8}{k:Nat}{wd:Addr->Option Str}{c1 c2:V}{k1 k2 k3 k4:List V}{l1 l2:List Str}{a1 a2:Expr}{as1 as2 e1 e2 e3 e4 w1 w2:List Expr}{kw1 kw2:List zCL}
 {p1 p2 p3 p4 p5 p6 p7 p8 p9 p10 p11 p12 p13 p14 p15 p16 p17 p18 p19 p20 p21 p22 p23 p24 p25 p26 p27 p28 p29 p30 p31 p32 p33 p34 p35 p36 p37 p38 p39 p40:Pos}{q1 q2 q3 q4 q5 q6 q7:Pos}{j1 j2 j3 j4 j5:Nat}
end
end L2
namespace VL
open PySem PySem.Spec PyProof.Rows L2
def dnr{K:zAA}{h:Heap}{mg:Str->Option Value}{x:Str}{st:Stmt}(X:K.In h)(G:h.Ns zA7 mg)(e:∃f d,Enr K x st f d)(ps:List Str)
  (hb:∀(kV doc pm:Value) (an:Option Addr) (cdv ct:Value) (us:List Value),us.length=ps.length->bindArgs (zBn x x (nP st) (gK st) (aP st) .none kV doc pm an cdv ct) ⟨us,[]⟩=pure (ps.zip us):=by
   intro _ _ _ _ _ _ us hl;repeat' first|rfl|(simp at hl;done)|rcases us with _|⟨_,us⟩):∃f d,Dnr K mg x st ps f d/\zAq K zA7 x=some (some (.ref f)):=by
 obtain⟨f,d,F,a⟩:=e;exact⟨f,d,⟨F,zCD X G a,F.binds hb⟩,a⟩
def aDU(S:aFa s.heap a led ks)(h63:ks.length<63)(q:∀h',zDg a s.heap h'->aFa h' a led (zBX ks k)->Q .none {s with heap:=h',toks:=s.toks+1}):
  wpAny (model prog w) A (call (.builtin "set.add") [.ref a,.int k tk]) Q E s:=by
 obtain⟨es,ep,t,ho,r⟩:=id S;refine zBQ F.slot_set_add ⟨_,ho,rfl⟩ F.entry_set_add ?_ (F.args_set_add_2 _ _);unfold zDw.«set.add» zGa;simp only[zE0,zGC];unfold zDo;refine zAC (zAF ?_)
 try dsimp only
 refine zAC (zAF ?_)
 try dsimp only
 refine zAC (aFz S h63 λ h' b c1 c2=>?_);show wpAny _ _ (ret zBZ) _ _ _;exact zAF ⟨_,rfl,q h' c1 c2⟩
def aIF(w:World)(te:TE):Addr->L2.St->Hp->(Hp->Prop)->Prop:=λ D Z H Q=>te Z H λ y H1=>∃i ks,y= .int i/\H1 D=some (.ext (tHφ w D ks))/\ks.length<63/\Q (upd H1 D (.ext (tHφ w D (zBX ks i))))
def aG8{X:Cx}(he:PE X elt te):PB X (yO elt) (aIF X.w te):=by
 intro D pins s Z H Q I h;unfold yO;refine zAC (thn (he pins s Z H _ I h) λ u s1 ⟨y,H1,I1,r1,i,ks,ey,hD,hn,q⟩=>?_);subst ey;obtain⟨tk,rfl⟩:=r1;refine zAC (zC2 (zAC ?_));obtain⟨hS,_,_⟩:=I1.hok D _ hD;refine aDU hS hn λ h' hsb hS'=>zAF ⟨_,?_,q⟩
 obtain⟨es,ep,t,ge,r⟩:=id hS';exact I1.write (x:=D) (e:=D) (by rw[hD];exact trivial) (.inl rfl) (λ b' u hb hu=>(hsb.2 b' hb).trans hu) ⟨_,ge⟩ ⟨hS',⟨_,ge⟩,λ h1 h2 ⟨es,ep,t,e1,e2⟩ k=>⟨es,ep,t,k _ e1,e2⟩⟩
def aF8:aCa prog w (newSet (.type "set")) (λ ob=>ob=jZ #[] 0 (.fresh 0 0 (!w.params.followText "set-order"))) (λ l=>.ext (tHφ w l [])) where
 make:=λ h=>by
  unfold newSet zGD;refine zAC (zAC (zC8 (zAF ?_)));dsimp only;simp only[newObj];exact zAC (wpAny_alloc (zAF (h _ rfl)))
 live:=by rintro ob rfl;rfl
 ok:=by
  rintro H h a ob rfl hg hb;exact⟨⟨#[],0,_,hg,fO.fresh _,rfl,[],rfl,zBE _⟩,⟨_,hg⟩,λ h1 h2 ⟨es,ep,t,e1,e2⟩ k=>⟨es,ep,t,k _ e1,e2⟩⟩
def aFV(a b:List Int):(ddI a).length<=(ddI (a++b)).length:=by
 induction b generalizing a with
 |nil=>rw[zAg];exact zAO _
 |cons x b ih=>
  have h:=ih (a++[x]);rw[zBO,zFe,aAj]at h;refine zA5 ?_ h;unfold zBX;split
  .exact zAO _
  .rw[zAb];exact Nat.le_add_right _ _
def aGw{out:List D}{ns pre:List Int}{y:D}{post:List D}(hm:out=ns.map .int)(e:out=pre.map .int++y::post):∃z,y= .int z:=by
 have h1:out[pre.length]? =some y:=by rw[e,zBe (by simp)];simp
 rw[hm,zAK]at h1;cases h2:ns[pre.length]? with
 |none=>rw[h2]at h1;cases h1
 |some z=>rw[h2]at h1;cases h1;exact⟨z,rfl⟩
def aGv{out:List D}{ns pre:List Int}{post:List D}(hm:out=ns.map .int)(e:out=pre.map .int++post):(ddI pre).length<=(ddI ns).length:=by
 obtain⟨a,b,e1,e2,e3⟩:=List.map_eq_append_iff.mp (hm.symm.trans e)
 have:a=pre:=by
  have:=congrArg intsOf e2
  rw[bw,bw]at this;exact zA9 this
 rw[e1,this];exact aFV pre b
def aIK(fi:En->Rs (List D))(js:List (Option Nat))(fg:D->En->Rs En)(ft:En->Rs Bool)(inn:En->Rs (List D)):En->Rs D:=λ Y=>(fi (shE Y)).bd λ ds=>match nsL (stE js (shE Y)) fg ft inn ds with
 | .ok l=>(match intsOf l with
  |some ns=>if (ddI ns).length<63 then .ok (.lst ((sortI (ddI ns)).map .int))else .st
  |none=>.st)
 |_=>.st
section
variable{K:zAA}{G:Gx}{wi wi2:TI}{fi fi2:En->Rs (List D)}{js:List (Option Nat)}{ks ks2:List Nat}{g g2:TG}{fg fg2:D->En->Rs En}{tt tt2:TT}{ft ft2:En->Rs Bool}{te:TE}{fe:En->Rs D}
def aIM{w:World}(hi:aBu K G wi fi)(hg:aBv K {G with E:=λ _ _ _=>False} g fg)(hgo:jW g ks)(hgm:wA g)(hk:∀k∈ks2,k∉ks/\(js[k]?).join=none)(ht:w5 K {G with E:=λ _ _ _=>False} tt ft)(hi2:aBu K {G with E:=λ _ _ _=>False} wi2 fi2)
  (hg2:aBv K {G with E:=λ _ _ _=>False} g2 fg2)(ht2:w5 K {G with E:=λ _ _ _=>False} tt2 ft2)(he:gY K {G with E:=λ _ _ _=>False} (some []) te fe)(R:RR K G τ Y Z H lab)
  (W:WR G (fi (shE Y)) (λ ds=>∃out ns,nsL (stE js (VL.shE Y)) fg ft (inL fi2 fg2 ft2 fe) ds= .ok out/\out=ns.map .int/\(ddI ns).length<63/\∀l H',aU H H'->H l=none->H' l=some (.ext (tHφ w l (ddI ns)))->Q (.ref l) H')):
  aD9 (λ l=>.ext (tHφ w l [])) wi (stV js) g tt (yH ks2 wi2 g2 tt2 (aIF w te)) Z H Q:=by
 refine hi τ Z H _ _ _ R.shE (W.imp λ ds _ w0 J H1 lab1 τ1 s1 _ R1 jl=>?_);intro l hl;obtain⟨out,ns,hout,hmap,hlen,w0⟩:=w0;have R0:RR K {G with E:=λ _ _ _=>False} (τ1++τ) (VL.shE Y) Z H1 (λ _=>(0,0)):=R1.blk0 rfl;have RB:=R0.block (js:=js) (λ _=>zAc _) hl;have hHl:H l=none:=s1.free hl;have h0l:G.H0 l=none:=R1.old.free hl;have labl:¬((λ p=>if p=l then((2,0):Nat×Nat)else(0,0)) l).1<=1:=by simp
 have hsk:∀k∈ks2,(stV js Z)[k]? =some none\/(stV js Z)[k]? =none:=λ k hk2=>by
  have:=(hk k hk2).2
  unfold stV;rw[zAK];cases e:js[k]? with
  |none=>exact .inr rfl
  |some o=>
   rw[e]at this;cases o with
   |none=>exact .inl rfl
   |some j=>cases this
 refine⟨λ i n H2=>∃(pre:List Int),n=ds.length-i/\i<=ds.length/\H2 l=some (.ext (tHφ w l (ddI pre)))/\RR K {G with E:=λ _ _ _=>False} (τ1++τ) (stE js (VL.shE Y)) (stV js Z) H2 (λ p=>if p=l then(2,0)else(0,0))/\aU H H2/\
  ∃post,nsL (stE js (VL.shE Y)) fg ft (inL fi2 fg2 ft2 fe) (ds.drop i)= .ok post/\out=pre.map .int++post,⟨ds.length,[],by lia,by lia,aY,RB.up (aq hl _),s1.trans (aq hl _),out,hout,rfl⟩,?_⟩
 rintro i n H2 ⟨pre,rfl,hi',hH2,R2,s2,post,hpost,eout⟩;have jj:=jl _ H2 λ q hq=>R2.tm q (zA1 _ hq)
 by_cases hlt:i<ds.length
 .obtain⟨go,yl⟩:=(jj i).2 hlt
  refine .inr ⟨go,λ x H3 hy=>?_⟩;obtain⟨s3,d,ed,rx⟩:=yl x H3 hy;replace R2:=R2.up s3;replace hH2:=s3 _ _ hH2;replace s2:=s2.trans s3;have ed2:ds.drop i=d::ds.drop (i+1):=by
   rw[zB3 hlt]
   have:=zAB hlt
   rw[ed]at this;cases this;rfl
  rw[ed2]at hpost;obtain⟨Y1,k,e1,e2,e3⟩:=aAS hpost;have hgx:=hgo _ _ _ _ (hg (τ1++τ) x d _ H3 _ _ (λ Z4 H4=>H4=H3/\RR K {G with E:=λ _ _ _=>False} (τ1++τ) Y1 Z4 H3 (λ p=>if p=l then(2,0)else(0,0))) Y1 R2 rx e1 λ Z4 R4=>⟨rfl,R4⟩);refine hgm _ _ _ _ _ (λ Z4 H4 ⟨⟨eH,R4⟩,hlen4,hag4⟩=>?_) hgx;subst eH;refine ht (τ1++τ) Z4 H4 Y1 _ _ R4 ?_;rw[e2];intro H5 s5;rcases e3 with ⟨rfl,ys,zs,e3,e4,rfl⟩|⟨rfl,e4⟩
  .rw[if_pos rfl]
   obtain⟨hsh,ds2,f1,f2⟩:=aEt e3;refine⟨λ k hk2 v e=>?_,?_⟩
   .rw[hag4 k (hk k hk2).1]at e
    rcases hsk k hk2 with z|z<;>rw[z]at e<;>cases e
   refine hi2 (τ1++τ) Z4 H5 Y1 _ _ (R4.up s5) ?_;rw[f1];intro J2 H6 lab6 τ6 s6 hlab6 R6 jl6;have hl6:H6 l=some (.ext (tHφ w l (ddI pre))):=s6 _ _ (s5 _ _ hH2);have lab6l:¬(lab6 l).1<=1:=by rw[hlab6 l _ (s5 _ _ hH2)];exact labl
   refine⟨λ j n2 H7=>∃(pre2:List Int),n2=ds2.length-j/\j<=ds2.length/\H7 l=some (.ext (tHφ w l (ddI (pre++pre2))))/\RR K {G with E:=λ _ _ _=>False} (τ6++(τ1++τ)) Y1 Z4 H7 lab6/\RR K {G with E:=λ _ _ _=>False} (τ1++τ) (stE js (VL.shE Y)) (stV js Z) H7 (λ p=>if p=l then(2,0)else(0,0))/\aU H H7/\
    ∃post2,lcL Y1 fg2 ft2 fe (ds2.drop j)= .ok post2/\ys=pre2.map .int++post2,
    ⟨ds2.length,[],by lia,by lia,by rw[zAg];exact hl6,R6,R2.up (s5.trans s6),(s2.trans s5).trans s6,ys,f2,rfl⟩,?_⟩
   rintro j n2 H7 ⟨pre2,rfl,hj,hl7,R7,Rb7,s7,post2,hpost2,eys⟩;have jj7:=jl6 _ H7 λ q hq=>R7.tm q (zA1 _ hq)
   by_cases hlt2:j<ds2.length
   .obtain⟨go2,yl2⟩:=(jj7 j).2 hlt2
    refine .inr ⟨go2,λ x2 H8 hy2=>?_⟩;obtain⟨s8,d2,ed8,rx2⟩:=yl2 x2 H8 hy2;replace R7:=R7.up s8;replace Rb7:=Rb7.up s8;replace hl7:=s8 _ _ hl7;replace s7:=s7.trans s8;have ed9:ds2.drop j=d2::ds2.drop (j+1):=by
     rw[zB3 hlt2]
     have:=zAB hlt2
     rw[ed8]at this;cases this;rfl
    rw[ed9]at hpost2;obtain⟨Y2,k2,q1,q2,q3⟩:=vD hpost2;refine hg2 (τ6++(τ1++τ)) x2 d2 _ H8 _ _ _ Y2 R7 rx2 q1 λ Z9 R9=>?_
    refine ht2 (τ6++(τ1++τ)) Z9 H8 Y2 _ _ R9 ?_;rw[q2];intro H9 s9;rcases q3 with ⟨rfl,y,ys2,q3,q4,rfl⟩|⟨rfl,q4⟩
    .rw[if_pos rfl]
     refine he (τ6++(τ1++τ)) Z9 H9 Y2 _ _ (R9.up s9) ?_;rw[q3];intro v Ha sa ra;have eo:out=(pre++pre2).map .int++y::(ys2++zs):=by rw[eout,eys,zC6];simp
     obtain⟨z,rfl⟩:=aGw hmap eo;have ev:=ra.int_inv;subst ev;have hla:Ha l=some (.ext (tHφ w l (ddI (pre++pre2)))):=sa _ _ (s9 _ _ hl7);have hsz:(ddI (pre++pre2)).length<63:=zEN (aGv hmap eo) hlen;refine⟨z,_,rfl,hla,hsz,?_⟩;have B:iC l Ha (upd Ha l (.ext (tHφ w l (zBX (ddI (pre++pre2)) z)))):=λ b o ne hb=>by rw[aj ne];exact hb
     refine⟨ds2.length-(j+1),by lia,pre2++[z],rfl,hlt2,by rw[<-zBO,aAj];exact aY,(R7.up (s9.trans sa)).butS hsh lab6l B hla rfl h0l,(Rb7.up (s9.trans sa)).but_blk B hla rfl h0l,λ b o hb=>B b o (λ z=>by subst z;rw[hHl]at hb;cases hb) (((s7.trans s9).trans sa) b o hb),ys2,q4,by rw[eys];simp⟩
    .rw[if_neg zAY]
     exact⟨ds2.length-(j+1),by lia,pre2,rfl,hlt2,s9 _ _ hl7,R7.up s9,Rb7.up s9,s7.trans s9,post2,q4,eys⟩
   .have ej:j=ds2.length:=by lia
    subst ej;rw[zC0]at hpost2;cases hpost2;rw[zAg]at eys;exact .inl ⟨(jj7 _).1 (zAO _),ds.length-(i+1),by lia,pre++pre2,rfl,hlt,hl7,Rb7,s7,zs,e4,by rw[eout,eys,zC6];simp⟩
  .rw[if_neg zAY]
   exact⟨ds.length-(i+1),by lia,pre,rfl,hlt,s5 _ _ hH2,R2.up s5,s2.trans s5,post,e4,eout⟩
 .have ei:i=ds.length:=by lia
  subst ei;rw[zC0]at hpost;cases hpost;rw[zAg]at eout;have en:ns=pre:=by
   have:=congrArg intsOf (hmap.symm.trans eout)
   rw[bw,bw]at this;exact zA9 this
  subst en;exact .inl ⟨(jj _).1 (zAO _),w0 l H2 s2 hHl hH2⟩
end
section
variable{C:Ct}{pos p pos2:Pos}{elt tg iter tg2 iter2:Expr}{ifs ifs2:List Expr}{sc:Scope}{N:List Str}{js:List (Option Nat)}{ks ks2:List Nat}{fi fi2:En->Rs (List D)}{fg fg2:D->En->Rs En}{ft ft2:En->Rs Bool}{fe:En->Rs D}
def aIQ(hm:C.mg "sorted"=none)(hi:SI C tg iter fi)(hg:SG (C.blk sc N) tg ks fg)(ht:aAu (C.blk sc N) ifs ft)(hi2:SI (C.blk sc N) tg2 iter2 fi2)(hg2:SG (C.blk sc N) tg2 ks2 fg2)(ht2:aAu (C.blk sc N) ifs2 ft2)(he:SE (C.blk sc N) (some []) elt fe)(hk:∀k∈ks2,k∉ks/\(js[k]?).join=none:=by decide)(hs:∀i x,zAu iter (C.X i).env x=pure x:=by intro _ _;rfl)(hs2:∀(i:(C.blk sc N).ι) x,zAu iter2 ((C.blk sc N).X i).env x=pure x:=by intro _ _;rfl)(hB:∀i,cU (C.X i) sc N (stV js) (ks++ks2):=by intro _;exact vo rfl rfl rfl rfl rfl rfl)
  (he2:∀i,zAU [Expr.SetComp elt [⟨tg,iter,ifs,0⟩,⟨tg2,iter2,ifs2,0⟩] sc pos] (C.X i).env=[(false,eval (.SetComp elt [⟨tg,iter,ifs,0⟩,⟨tg2,iter2,ifs2,0⟩] sc pos) (C.X i).env)]:=by intro _;rfl)(hgl:∀i,Gl (C.X i) "sorted":=by intro _;rfl)(hv:zAo "sorted"=some (.builtin "sorted"):=by decide+kernel):
  SE C (some []) (.Call (.Name "sorted" p) [.SetComp elt [⟨tg,iter,ifs,0⟩,⟨tg2,iter2,ifs2,0⟩] sc pos] [] pos2) (aIK fi js fg ft (inL fi2 fg2 ft2 fe)):=by
 obtain⟨wi,i1,i2⟩:=hi;obtain⟨g,g1,g2,g3,g4⟩:=hg;obtain⟨tt,t1,t2⟩:=ht;obtain⟨wi2,j1,j2⟩:=hi2;obtain⟨gg,h1,h2,h3,h4⟩:=hg2;obtain⟨tt2,u1,u2⟩:=ht2;obtain⟨te,e1,e2⟩:=he;have hw:∀i,(C.X i).w=C.w:=λ i=>(C.cx i).2.1
 have go1:jW g (ks++ks2):=λ v Z H Q q=>g4 _ _ _ _ _ (λ Z' H' ⟨a,b,c⟩=>⟨a,b,λ k hk=>c k λ z=>hk (zA1 _ z)⟩) (g3 v Z H Q q)
 refine⟨tCB (aBT C.w) (lN (aD9 (λ l=>.ext (tHφ C.w l [])) wi (stV js) g tt (yH ks2 wi2 gg tt2 (aIF C.w te))) uN),λ i=>jo (by rw[<-hw i];exact zP (C.calm i)) (hgl i) (by rw[(C.cx i).2.2.2.1];exact hm) hv
  (eE ?_ jc (he2 i)) (by decide) (by decide) (he2 i) rfl,λ τ Z H Y lab Q R W=>?_⟩
 .rw[<-hw i]
  refine aHo (pos:=pos) (hB i) (C.calm i) (i1 i) (λ c fp z0 zS=>g1 (i,c,fp,z0,zS)) go1 (λ c fp z0 zS=>t1 (i,c,fp,z0,zS)) (aD3 elt tg iter tg2 iter2 ifs ifs2 sc pos) (pN rfl (λ _ _ _ _=>rfl) λ _ _ _ _ _=>rfl) aF8 ?_ rfl rfl (hs i);intro c fp z0 zS;exact aCM (C.calm i) (λ _ _ h=>h) (aD2 elt tg iter tg2 iter2 ifs ifs2 sc pos) (pN rfl (λ _ _ _ _=>rfl) λ _ _ _ _ _=>rfl) (j1 (i,c,fp,z0,zS)) (h1 (i,c,fp,z0,zS)) h3 (u1 (i,c,fp,z0,zS)) (aG8 (X:=(C.X i).block sc c N fp z0 zS) (e1 (i,c,fp,z0,zS))) (hs2 (i,c,fp,z0,zS))
 .show aD9 _ wi (stV js) g tt _ Z H (λ x H1=>uN Z H1 λ xs H2=>aBT C.w (x::xs) H2 Q)
  refine aIM i2 g2 g3 g4 hk t2 j2 h2 u2 e2 R (W.bd.imp λ ds _ w=>?_);cases hout:nsL (stE js (VL.shE Y)) fg ft (inL fi2 fg2 ft2 fe) ds with
  |ok out=>
   rw[hout]at w;dsimp only at w;cases hns:intsOf out with
   |none=>rw[hns]at w;exact zAJ w
   |some ns=>
    rw[hns]at w;dsimp only at w;split at w
    .rename_i hz
     exact⟨out,ns,rfl,cM hns,hz,λ l H2 s2 hn hl=>⟨l,ddI ns,rfl,hl,by lia,λ q H3 s3 hq hn3=>w _ H3 (s2.trans s3) (.lst hq (.inl (s2.free hn3)) Rps.ints)⟩⟩
    .exact zAJ w
  |ex c=>rw[hout]at w;exact zAJ w
  |st=>rw[hout]at w;exact zAJ w
end
section
variable{X:Cx}
def ye(K:zAA):List V->Hp->VK->Prop:=λ xs H Q=>∃p ns,xs=[.ref p]/\SqT K H p (ns.map V.int)/\ns.length<64/\New H (.lst ((sortI ns).map V.int)) Q
def wY:dI X (.builtin "sorted") (ye X.K):=by
 intro pins s Z H xs us Q I r h;obtain⟨p,ns,rfl,hp,h64,q⟩:=h;obtain⟨u,rfl,ru⟩:=vals1 r;cases ru;obtain⟨its,rv,pl,hz⟩:=I.tuple hp;have hI:zBH its ns:=intsAre_of rv;have hlen:its.length=ns.length:=IntsAre.length hI;refine kj (aAm pl ?_ (by rw[hlen];exact zA5 (zBP h64) (by decide)));have k1:∀b o,s.heap.get? b=some o->((s.heap.push (zBV "list" #[] 0)).update s.heap.objs.size (zBU (·++its.toArray))).get? b=some o:=λ b o e=>by
  rw[zBa _ _ _ _ (zA6 (zAS e))];exact zAE _ e
 have hle:s.heap.objs.size<=((s.heap.push (zBV "list" #[] 0)).update s.heap.objs.size (zBU (·++its.toArray))).objs.size:=by
  rw[zGd,size_push'];exact zDF _
 generalize (s.heap.push (zBV "list" #[] 0)).update s.heap.objs.size (zBU (·++its.toArray))=h1 at k1 hle;refine pU (s:={s with heap:=h1}) hI (by lia) λ out h' e a1 a2 a3=>?_
 have hfr:H h1.objs.size=none:=I.hok.fresh hle;exact⟨.ref h1.objs.size,upd H h1.objs.size (.lst ((sortI ns).map V.int)),I.laid (t':=s.toks) (λ b o e=>a2 b o (k1 b o e)) hle ⟨by rw[zAD,(sortI_perm ns).length_eq];exact zA5 (zBP h64) (by decide),out,e,a1,a3⟩,rfl,q.at hfr⟩
end
def lq:List D->Rs D
 |[.tup l]=>match intsOf l with
  |some ns=>if ns.length<64 then .ok (.lst ((sortI ns).map .int))else .st
  |none=>.st
 |_=>.st
def aBp{K:zAA}:aFh K (ye K) lq:=by
 intro A xs ds H Q z r ez q;unfold lq at ez;split at ez
 .cases r with
  |cons h r=>
   cases r;obtain⟨a,xs,rfl,h,r⟩:=h.tup_inv;split at ez
   .rename_i ns e
    have e1:=cM e;subst e1;split at ez
    .rename_i hl
     cases ez;have e2:=r.ints_of;subst e2;exact⟨_,ns,rfl,h,hl,λ p H' s hp hn=>q _ H' s (.lst hp hn .ints)⟩
    .cases ez
   .cases ez
 .cases ez
section
variable{C:Ct}{pos p:Pos}{m:Mode}{a:Expr}{ga:En->Rs (List D)}
def zp(hm:C.mg "sorted"=none)(ha:SA C m [a] ga)(he:∀i,zAU [a] (C.X i).env=[(false,eval a (C.X i).env)]:=by intro _;rfl)(hg:∀i,Gl (C.X i) "sorted":=by intro _;rfl)(hv:zAo "sorted"=some (.builtin "sorted"):=by decide+kernel):SE C (some []) (.Call (.Name "sorted" p) [a] [] pos) (opA lq ga):=by
 obtain⟨t,h1,h2⟩:=ha;refine⟨_,λ i=>jo (r:=ye C.K) (by rw[<-C.hK i];exact wY) (hg i) (by rw[(C.cx i).2.2.2.1];exact hm) hv (h1 i) (by decide) (by decide) (he i) rfl,aCA aBp h2⟩
end
def aAG:D->Rs D
 | .lst l=>.ok (.lst l.reverse)
 |_=>.st
def aH7(K:zAA)(te:TE):TE:=λ Z H Q=>te Z H λ x H1=>∃a xs,x= .ref a/\SqL K H1 a xs/\∀p,H1 p=none->Q (.ref p) (upd H1 p (.lst xs.reverse))
def aG2{X:Cx}(he:PE X e te):PE X (.Subscript e (.Slice none none (some (.UnaryOp .USub (.Constant (.int 1) j p3) p4)) p2) pos) (aH7 X.K te):=by
 intro pins s Z H Q I h;refine zGB (thn (he pins s Z H _ I h) λ v s1 ⟨x,H1,I1,r1,q1⟩=>?_);obtain⟨a,xs,rfl,hx,q⟩:=q1;cases r1;have hm:PE X (.UnaryOp .USub (.Constant (.int 1) j p3) p4) (tUn (rU λ i=>.int (-i)) (tC (.int 1))):=aER aAx aBZ;refine zHH ?_;rw[zEa];refine zAF (zAF ?_);rw[zGP];refine thn (hm pins s1 Z H1 (λ z H2=>z= .int (-1)/\H2=H1) I1 ⟨1,rfl,rfl,rfl⟩) λ u s2 ⟨z,H2,I2,r2,ez,eH⟩=>?_
 subst ez eH;obtain⟨tk,rfl⟩:=r2;have I4:Inv X pins Z H2 {s2 with heap:=s2.heap.push {cls:=.type "slice",data:=.fields #[.none,.none,.int (-1) tk]}}:=I2.kept (t':=s2.toks) λ b ob q=>zAE _ q
 obtain⟨its,r,ht,hz⟩:=I4.list hx;have hlen:its.toArray.size=xs.length:=by rw[zAG];exact r.length.symm
 show wpAny (model X.prog X.w) X.A (zEc e _ (.ref a) (.ref s2.heap.objs.size)) (EP X pins Z Q) X.xe _;refine zHR (ops:=[.ref a,.ref s2.heap.objs.size]) ht.isList.typeIs zEw.lookup ?_ (by with_unfolding_all rfl);refine zGE ht.isList (zD1 ..) .none .none (.int _ _) (by decide) ?_ (by rw[hlen];exact hz);rw[PySem.W.krv_pick];refine⟨.ref _,_,I4.laid (t':=s2.toks) (o:=.lst xs.reverse) (λ b ob q=>zAE _ q) (zAO _) ?_,rfl,q _ (I4.hok.fresh (zAO _))⟩;exact⟨by rw[zDC];exact hz,_,0,r.reverse,zAX _ rfl⟩
section
variable{C:Ct}{pos p2 p3 p4:Pos}{m:Mode}{e:Expr}{fe:En->Rs D}
def aGA(h:SE C m e fe):SE C m (.Subscript e (.Slice none none (some (.UnaryOp .USub (.Constant (.int 1) j p3) p4)) p2) pos) (op1 aAG fe):=by
 obtain⟨t,h1,h2⟩:=h;refine⟨aH7 C.K t,λ i=>by rw[<-C.hK i];exact aG2 (h1 i),λ τ Z H Y lab Q R W=>h2 τ Z H Y lab _ R (W.bd.imp λ d _ w x H1 s1 r1=>?_)⟩;obtain⟨z,ez,w⟩:=w.okD;cases d with
 |lst l=>
  cases ez;obtain⟨a,xs,rfl,h,mm,r⟩:=r1.lst_inv;exact⟨a,xs,rfl,SqL.of h,λ p hp=>w _ _ (s1.trans (aq hp _)) (.lst aY (.inl (s1.free hp)) ((r.reverse.wk λ q o e z=>⟨z.1,λ e'=>by subst e';rw[hp]at e;cases e⟩).up (aq hp _)))⟩
 |_=>cases ez
end
section
variable{Y:En}{i:Nat}{f g:En->Rs D}{fb gb:En->Rs Bool}{ga:En->Rs (List D)}{u v:En->Ou}{d:D}
@[simp] def varD_ap:fB i Y=match Y[i]? with
 |some (.sh d)=>.ok d
 |some (.nw d)=>.ok d
 |some (.ow d)=>.ok d
 |some (.oz d)=>.ok d
 |some (.o2 l)=>.ok (.lst (l.map .lst))
 |_=>.st:=aO rfl
@[simp] def yF:aD i Y=match Y[i]? with
 |some (.sh d)=>.ok d
 |some (.nw d)=>.ok d
 |_=>.st:=aO rfl
@[simp] def varN_ap:jg i Y=match Y[i]? with
 |some (.nw d)=>.ok d
 |_=>.st:=aO rfl
@[simp] def varO_ap:qe i Y=match Y[i]? with
 |some (.ow d)=>.ok d
 |some (.o2 l)=>.ok (.lst (l.map .lst))
 |_=>.st:=aO rfl
@[simp] def cD_ap:cD d Y= .ok d:=aO rfl
@[simp] def dO:aG Y= .ok []:=aO rfl
@[simp] def bC:aA f ga Y=(f Y).bd λ d=>(ga Y).bd λ ds=>.ok (d::ds):=aO rfl
@[simp] def szl:zAP=16777216:=zCV
@[simp] def yG:bY ga Y=(ga Y).bd λ ds=>if ds.length<=16777216 then .ok (.tup ds)else .st:=by unfold bY;rw[szl]
@[simp] def aCW:dR ga Y=(ga Y).bd λ ds=>if ds.length<=16777216 then .ok (.lst ds)else .st:=by unfold dR;rw[szl]
@[simp] def gk:okD (.ok d)= .ok d:=aO rfl
@[simp] def cz:op2 fd f g Y=(f Y).bd λ x=>(g Y).bd λ y=>okD (fd x y):=aO rfl
@[simp] def aE6:op1 fd f Y=(f Y).bd λ x=>okD (fd x):=aO rfl
@[simp] def fZ:opA fd ga Y=(ga Y).bd λ x=>okD (fd x):=aO rfl
@[simp] def aF3:aN F ga Y=(ga Y).bd F:=aO rfl
def aKc(d:D)(r:Rs D):Rs D:=match d with
 | .bl true=>r
 | .bl false=>.ok (.bl false)
 |_=>.st
@[simp] def aC9:aKc (.bl b) r=if b=true then r else .ok (.bl false):=by cases b<;>rfl
@[simp] def zY:tV f g Y=(f Y).bd λ d=>aKc d (g Y):=aO rfl
@[simp] def notD_bl:aCw (.bl b)= .ok (.bl (!b)):=aO rfl
@[simp] def ifD_ap:ifD fb f g Y=(fb Y).bd λ k=>if k=true then f Y else g Y:=aO rfl
def chR(d:D)(r:Rs D):Rs D:=match d with
 | .bl true=>r
 | .bl false=>.ok (.bl false)
 |_=>.st
@[simp] def chR_bl:chR (.bl b) r=if b=true then r else .ok (.bl false):=by cases b<;>rfl
@[simp] def chD_ap:chD fd fd' f g h Y=(f Y).bd λ x=>(g Y).bd λ y=>(okD (fd x y)).bd λ z=>chR z ((h Y).bd λ w=>okD (fd' y w)):=aO rfl
@[simp] def truD_bl:aFo (.bl b)= .ok b:=aO rfl
@[simp] def blD_bl:blD (.bl b)= .ok b:=aO rfl
@[simp] def aBB:tst f Y=(f Y).bd aFo:=aO rfl
@[simp] def uM:tsb f Y=(f Y).bd blD:=aO rfl
@[simp] def zX:aAr fb gb Y=(fb Y).bd λ k=>if k=true then gb Y else .ok false:=aO rfl
@[simp] def aE3:orT fb gb Y=(fb Y).bd λ k=>if k=true then .ok true else gb Y:=aO rfl
@[simp] def aCQ:lX fb Y=(fb Y).bd λ k=>.ok (!k):=aO rfl
@[simp] def aQ:bB u v Y=(u Y).sq v:=aO rfl
@[simp] def jM:retS f Y=(f Y).bo .rt:=aO rfl
@[simp] def dropS_ap:xg f Y=(f Y).bo λ _=>.nx Y:=aO rfl
@[simp] def zJ:ifS fb u v Y=(fb Y).bo λ k=>if k=true then u Y else v Y:=aO rfl
@[simp] def aFy:cG i f Y=(f Y).bo λ d=>.nx (Y.set i (.sh d)):=aO rfl
@[simp] def tZ:qm i f Y=(f Y).bo λ d=>.nx (Y.set i (.nw d)):=aO rfl
@[simp] def tY:lu i f Y=(f Y).bo λ d=>.nx (Y.set i (.ow d)):=aO rfl
@[simp] def pF:gnm i d Y= .ok (Y.set i (.sh d)):=aO rfl
@[simp] def gnil_nil:iw [] Y= .ok Y:=aO rfl
@[simp] def gcons_cons:bJ a b (d::ds) Y=(a d Y).bd (b ds):=aO rfl
@[simp] def gtup_tup:gq n b (.tup ds) Y=if ds.length=n then b ds Y else .st:=aO rfl
def nxO(r:Rs En):Ou:=match r with
 | .ok Y=>.nx Y
 |_=>.st
@[simp] def aHS:aHT f a Y=(f Y).bo λ d=>nxO (a d Y):=aO rfl
@[simp] def itD_tup:itD (.tup l)= .ok l:=aO rfl
@[simp] def itD_lst:itD (.lst l)= .ok l:=aO rfl
@[simp] def uD:dj f Y=(f Y).bd itD:=aO rfl
@[simp] def gw:iy ga a u Y=(ga Y).bo λ ds=>forL a u ds Y:=aO rfl
noncomputable def Ou.tn(o:Ou)(k:En->Ou):Ou:=match o with
 | .nx Y2=>k Y2
 | .ct Y2=>k Y2
 | .bk Y2=>.nx Y2
 |o=>o
@[simp] def aD7:(Ou.nx Y).tn k=k Y:=aO rfl
def okE(r:Rs En)(k:En->Ou):Ou:=match r with
 | .ok Y=>k Y
 |_=>.st
@[simp] def mO:okE (.ok Y) k=k Y:=aO rfl
def iI:forL a u (d::ds) Y=okE (a d Y) λ Y1=>(u Y1).tn (forL a u ds):=by
 unfold forL;cases a d Y with
 |ok Y1=>simp only[mO];cases u Y1<;>rfl
 |ex c=>rfl
 |st=>rfl
@[simp] def oNone_ap:jR Y= .ok none:=aO rfl
@[simp] def oSome_ap:jQ f Y=(f Y).bd λ d=>match d with
 | .int i=>.ok (some i)
 |_=>.st:=aO rfl
@[simp] def sliceD_ap:fG f a b Y=(f Y).bd λ d=>(a Y).bd λ l=>(b Y).bd λ h=>okD (slD d l h):=aO rfl
@[simp] def slD_tup:slD (.tup l) a b= .ok (.tup (cutD l a b)):=aO rfl
@[simp] def revD_tup:aCm (.tup l)= .ok (.tup l.reverse):=aO rfl
@[simp] def qC:aa f Y=(f Y).bd qH:=aO rfl
@[simp] def aGL:dJ r ga Y=(ga Y).bd r:=aO rfl
@[simp] def raiseS_ap:ud x ga Y=(ga Y).bo λ ds=>if ds.length<=16777216 then .ex x else .st:=by unfold ud;rw[szl]
@[simp] def aFj:fU Y= .ok true:=aO rfl
end
section
variable{d e:D}{i j:Int}{l m:List D}
def nH(h:imm d=true):qH d= .ok d:=by unfold qH;rw[if_pos h]
@[simp] def gImm_int:qH (.int i)= .ok (.int i):=aO rfl
@[simp] def addD_int:bN (.int i) (.int j)= .ok (.int (i+j)):=aO rfl
@[simp] def addD_lst:bN (.lst l) (.lst m)=if l.length+m.length<=16777216 then .ok (.lst (l++m))else .st:=by unfold bN;rw[szl]
@[simp] def addD_tup:bN (.tup l) (.tup m)=if l.length+m.length<=16777216 then .ok (.tup (l++m))else .st:=by unfold bN;rw[szl]
@[simp] def subD_int:aBC (.int i) (.int j)= .ok (.int (i-j)):=aO rfl
def xP(h0:0<j)(h1:j<1073741824):vP (.int i) (.int j)= .ok (.int (i / j)):=by unfold vP i2;dsimp only;rw[if_pos (by simp[h0,h1])]
def mR(h0:0<j):rM (.int i) (.int j)= .ok (.int (i%j)):=by unfold rM i2;dsimp only;rw[if_pos (by simp[h0])]
def yo(h0: -(2^64)<i)(h1:i<2^64):gR (.int i) (.int j)= .ok (.int (i*j)):=by unfold gR;dsimp only;rw[if_pos (by simp only[zEe,zAQ,decide_eq_true_eq];exact .inl ⟨h0,h1⟩)]
def aEb(h0: -(2^64)<j)(h1:j<2^64):gR (.int i) (.int j)= .ok (.int (i*j)):=by unfold gR;dsimp only;rw[if_pos (by simp only[zEe,zAQ,decide_eq_true_eq];exact .inr ⟨h0,h1⟩)]
@[simp] def negD_int:aAV (.int i)= .ok (.int (-i)):=aO rfl
@[simp] def aCV:ltD (.int i) (.int j)= .ok (.bl (decide (i<j))):=aO rfl
@[simp] def leD_int:leD (.int i) (.int j)= .ok (.bl (decide (i<=j))):=aO rfl
@[simp] def geD_int:geD (.int i) (.int j)= .ok (.bl (decide (j<=i))):=aO rfl
def aGn(ns ms:List Int):ltD (.tup (ns.map .int)) (.tup (ms.map .int))= .ok (.bl (HT.lexLt ns ms)):=by
 unfold ltD ltT i2;simp only[bw]
@[simp] def lenD_tup:gm [.tup l]= .ok (.int l.length):=aO rfl
@[simp] def lenD_lst:gm [.lst l]= .ok (.int l.length):=aO rfl
@[simp] def lenD_scr:gm [.scr x]= .ok (.int x.length):=aO rfl
@[simp] def kh:cO [.lst l]= .ok (.tup l):=aO rfl
@[simp] def listD_tup:vA [.tup l]= .ok (.lst l):=aO rfl
@[simp] def ixD_tup:ixD (.tup l) (.int i)=atD l i:=aO rfl
@[simp] def ixD_lst:ixD (.lst l) (.int i)=atD l i:=aO rfl
@[simp] def ixD_scr:ixD (.scr x) (.int i)=atD (x.map .int) i:=aO rfl
def cP{k:Nat}(h:l[k]? =some d):atD l (k:Int)= .ok d:=by
 have hk:=(zAL.mp h).1;unfold atD atI ixN;rw[if_pos (by omega),if_pos (by omega)];simp[h]
def aBr(h0:0<=i)(h1:i<l.length):∃d,atD l i= .ok d/\d∈l/\l[i.toNat]? =some d:=by
 have hk:i.toNat<l.length:=by omega
 have e:=zAB hk;refine⟨_,?_,zCq hk,e⟩
 have:=cP e
 rwa [zBt h0]at this
@[simp] def atD_0{r:List D}:atD (d::r) 0= .ok d:=cP (k:=0) rfl
@[simp] def atD_1{r:List D}:atD (d::e::r) 1= .ok e:=cP (k:=1) rfl
@[simp] def eqR_int:eqR n (.int i) (.int j)= .ok (.bl (if n then !(i==j)else i==j)):=aO rfl
def knd:D->Bool
 | .set _=>false
 | .scr _=>false
 | .fn _=>false
 |_=>true
def zF(hT:T∈["bool","int","str","list","tuple","dict"])(h:knd d=true):lJ T d= .ok (.bl (aGs (tyD d) T)):=by
 have ht:tyD d∈["NoneType","bool","int","str","list","tuple","dict"]:=by cases d<;>simp_all [tyD,knd]
 unfold lJ nq;cases e:aGs (tyD d) T<;>simp[ht,hT]
def aJ0:D->Bool
 | .int _=>true
 | .bl _=>true
 |_=>false
def aK1:D->Bool
 | .bl _=>true
 |_=>false
def mW:D->Bool
 | .tup _=>true
 |_=>false
def aCZ(h:knd d=true):lJ "int" d= .ok (.bl (aJ0 d)):=by
 rw[zF (by simp) h];cases d<;>first|rfl|(simp[knd]at h)
def vH(h:knd d=true):lJ "bool" d= .ok (.bl (aK1 d)):=by
 rw[zF (by simp) h];cases d<;>first|rfl|(simp[knd]at h)
def jt(h:knd d=true):lJ "tuple" d= .ok (.bl (mW d)):=by
 rw[zF (by simp) h];cases d<;>first|rfl|(simp[knd]at h)
@[simp] def isi_tuple_tup:lJ "tuple" (.tup l)= .ok (.bl true):=jt rfl
@[simp] def isi_bool_bl:lJ "bool" (.bl b)= .ok (.bl true):=vH rfl
end
@[simp] def bI:dF n u ds=match u (ak n ds)with
 | .nx _=>.ok .non
 | .rt d=>.ok d
 | .ex c=>.ex c
 |_=>.st:=aO rfl
def dw(h0: -(2^62)<=j)(h1:j<2^62):fY [.int j]= .ok (cu 0 j):=by unfold fY;dsimp only;rw[if_pos ⟨h0,h1⟩]
def aCJ(h0: -(2^62)<=i)(h1:i<2^62)(h2: -(2^62)<=j)(h3:j<2^62):yX [.int i,.int j]= .ok (cu i j):=by unfold yX;dsimp only;rw[if_pos ⟨⟨h0,h1⟩,h2,h3⟩]
def pX{lo hi:Int}:d∈cu lo hi↔∃k:Int,d= .int k/\lo<=k/\k<hi:=by
 unfold cu;rw[zAd];constructor
 .rintro⟨n,hn,rfl⟩
  have:=zBk.mp hn
  exact⟨lo+n,rfl,by omega,by omega⟩
 .rintro⟨k,rfl,h1,h2⟩
  exact⟨(k-lo).toNat,zBk.mpr (by omega),by congr 1;omega⟩
end VL
namespace VL.My
open PySem L2
def fu:En->Ou:=
  (retS (tV (op1 (lJ "int") (aD 0)) (op1 aCw (op1 (lJ "bool") (aD 0)))))
def jE:List D->Rs D:=dF 1 fu
def dG:En->Ou:=
  (bB (iy (dJ yX (aA (cD (.int 1)) (aA (opA gm (aA (aD 0) aG)) aG))) (gnm 1)
   (ifS (lX (tsb (op2 ltD (op2 ixD (aD 0) (op2 aBC (aD 1) (cD (.int 1)))) (op2 ixD (aD 0) (aD 1)))))
    (retS (cD (.bl false)))
    Ou.nx))
  (retS (cD (.bl true))))
def cN:List D->Rs D:=dF 2 dG
def iR:En->Ou:=
  (bB (llS 1 (dJ fY (aA (op2 ixD (aD 0) (cD (.int 0))) aG)) [none] (gnm 0))
  (bB (iy (dj (op2 ixD (aD 0) (cD (.int 1)))) (gq 2 (bJ (gnm 2) (bJ (gnm 3) iw)))
   (eZ 1 (aD 2) (aa (aD 3))))
  (retS (qe 1))))
def gF:List D->Rs D:=dF 4 iR
def gC:En->Ou:=
  (bB (llS 1 (dJ fY (aA (op2 ixD (aD 0) (cD (.int 0))) aG)) [none] (gnm 0))
  (bB (iy (dj (op2 ixD (aD 0) (cD (.int 1)))) (gq 2 (bJ (gnm 2) (bJ (gnm 3) iw)))
   (eZ 1 (aD 3) (aa (aD 2))))
  (retS (qe 1))))
def lM:List D->Rs D:=dF 4 gC
def cJ:En->Ou:=
  (bB (ifS (tsb (op2 ltD (aD 1) (opA gm (aA (aD 0) aG))))
   (retS (aa (op2 ixD (aD 0) (aD 1))))
   Ou.nx)
  (retS (cD (.int 0))))
def cg:List D->Rs D:=dF 2 cJ
def eQ:En->Ou:=
  (bB (ifS (tsb (op2 geD (aD 0) (op2 aEL (cD (.int 10)) (cD (.int 18)))))
   (bB (cG 3 (aD 0))
   (bB (iy (dJ fY (aA (aD 1) aG)) (gnm 4)
    (cG 3 (op2 vP (aD 3) (aD 2))))
   (retS (op2 rM (aD 3) (aD 2)))))
   Ou.nx)
  (bB (cG 5 (op2 rM (op2 gR (op2 bN (op2 bN (op2 rM (aD 0) (cD (.int 1000000007))) (op2 gR (cD (.int 1009)) (aD 1))) (cD (.int 17))) (cD (.int 69621))) (cD (.int 2147483647))))
  (bB (cG 5 (op2 rM (op2 bN (op2 bN (op2 gR (aD 5) (aD 5)) (op2 gR (cD (.int 40503)) (aD 1))) (cD (.int 5))) (cD (.int 2147483629))))
  (retS (op2 rM (op2 vP (op2 rM (op2 gR (aD 5) (cD (.int 48271))) (cD (.int 2147483647))) (cD (.int 32))) (aD 2))))))
def aR:List D->Rs D:=dF 6 eQ
def eV:En->Ou:=
  (retS (tV (op1 (lJ "int") (aD 0)) (op1 aCw (op1 (lJ "bool") (aD 0)))))
def jX:List D->Rs D:=dF 1 eV
def lrE:En->Rs D:=op2 ltD (op2 ixD (aD 1) (op2 aBC (aD 0) (cD (.int 1)))) (op2 ixD (aD 1) (aD 0))
def dU:En->Ou:=retS (opA (n8 λ bs=>bs.all id) (aA (lcD (dJ yX (aA (cD (.int 1)) (aA (opA gm (aA (aD 0) aG)) aG))) [none,some 0] (gnm 0) fU lrE) aG))
def fP:List D->Rs D:=dF 1 dU
def lrT:En->Rs Bool:=aAr (tsb (op2 (eqR false) (aD 0) (aD 3))) (tsb (op2 (inR true) (bY (aA (aD 2) (aA (aD 1) aG))) (aD 4)))
def lrX:En->Rs D:=lcD (dj (op2 ixD (aD 0) (cD (.int 1)))) [none,none,some 3,some 4,some 1] (gq 2 (bJ (gnm 0) (bJ (gnm 1) iw))) lrT (bY (aA (aa (aD 2)) (aA (aa (aD 1)) aG)))
def lrW:En->Ou:=bB (aHT (aa (op2 ixD (fB 1) (aD 2))) (gq 2 (bJ (gnm 3) (bJ (gnm 4) iw)))) (bB (aFP 1 lrX) (cG 2 (op2 bN (aD 2) (cD (.int 1)))))
def eX:En->Ou:=bB (lu 1 (opA vA (aA (aa (op2 ixD (aD 0) (cD (.int 1)))) aG))) (bB (cG 2 (cD (.int 0))) (bB (yE (tsb (op2 ltD (aD 2) (opA gm (aA (fB 1) aG)))) lrW)
  (retS (bY (aA (aa (op2 ixD (aD 0) (cD (.int 0)))) (aA (opA cO (aA (opA iU (aA (fB 1) aG)) aG)) aG))))))
def gZ:List D->Rs D:=dF 5 eX
def iQ:En->Ou:=
  (retS (tV (aN jE (aA (aD 0) aG)) (chD leD leD (cD (.int 0)) (aD 0) (cD (.int 60)))))
def nR:List D->Rs D:=dF 1 iQ
def gA:En->Ou:=
  (retS (tV (aN jE (aA (aD 1) aG)) (chD leD ltD (cD (.int 0)) (aD 1) (aD 0))))
def cQ:List D->Rs D:=dF 2 gA
def odI:En->Ou:=bB (aF4 (λ i j=>i-j) 2 (aD 6) (cD (.int 1))) (ifS (tsb (op2 (eqR false) (op2 ixD (fB 2) (aD 6)) (cD (.int 0)))) (vp 3 (aa (aD 6))) Ou.nx)
def odB:En->Ou:=bB (cG 5 (opA (nj zEg) (aA (fB 3) aG))) (bB (aDw 3 (aa (aD 5))) (bB (vp 4 (aa (aD 5))) (iy (dj (op2 ixD (aD 1) (aD 5))) (gnm 6) odI)))
def aJJ:En->Rs D:=lcD (dj (aN lM (aA (aD 0) aG))) [none] (gnm 0) fU (opA gm (aA (aD 0) aG))
def aJI:En->Rs D:=lcD (dJ fY (aA (op2 ixD (aD 0) (cD (.int 0))) aG)) [none,some 2] (gnm 0) (tsb (op2 (eqR false) (op2 ixD (aD 1) (aD 0)) (cD (.int 0)))) (aa (aD 0))
def iJ:En->Ou:=bB (cG 1 (aN gF (aA (aD 0) aG))) (bB (lu 2 aJJ) (bB (lu 3 aJI) (bB (lu 4 (dR aG)) (bB (yE (tst (fB 3)) odB) (retS (qe 4))))))
def cY:List D->Rs D:=dF 7 iJ
def fj:En->Ou:=
  (bB (lu 2 (dR aG))
  (bB (iy (dJ fY (aA (aD 1) aG)) (gnm 3)
   (aEq 2 (aN aR (aA (aD 0) (aA (op2 bN (cD (.int 100)) (aD 3)) (aA (op2 bN (aD 3) (cD (.int 1))) aG)))) (aa (aD 3))))
  (retS (qe 2))))
def jD:List D->Rs D:=dF 4 fj
def iK:En->Ou:=
  (bB (qm 1 (dR (aA (cD .non) (aA (cD (.bl true)) (aA (cD (.int 0)) (aA (op1 aAV (cD (.int 1))) (aA (cD (.str "")) (aA (cD (.str "0")) (aA (bY aG) (aA (dR aG) (aA (cD (.dct [] [])) (aA (bY (aA (bY aG) aG)) (aA (bY (aA (cD (.int 0)) aG)) (aA (bY (aA (bY (aA (cD (.int 0)) (aA (cD (.int 1)) aG))) aG)) (aA (dR (aA (cD (.int 0)) (aA (cD (.int 1)) aG))) (aA (bY (aA (cD .non) aG)) (aA (bY (aA (cD (.str "a")) (aA (cD (.str "b")) aG))) (aA (op2 aEL (cD (.int 10)) (cD (.int 20))) aG))))))))))))))))))
  (retS (op2 ixD (jg 1) (aN aR (aA (aD 0) (aA (cD (.int 90)) (aA (cD (.int 16)) aG)))))))
def kO:List D->Rs D:=dF 2 iK
def dW:En->Ou:=
  (bB (cG 3 (op2 bN (cD (.int 1)) (aN aR (aA (aD 0) (aA (aD 1) (aA (cD (.int 4)) aG))))))
  (retS (opA cO (aA (lcD (dJ fY (aA (aD 2) aG)) [none,some 0,some 1,some 3] (gnm 0) (tsb (op2 ltD (aN aR (aA (aD 1) (aA (op2 bN (op2 bN (aD 2) (cD (.int 1))) (aD 0)) (aA (cD (.int 5)) aG)))) (aD 3))) (aa (aD 0))) aG))))
def fQ:List D->Rs D:=dF 4 dW
def laA:En->Rs D:=tV (aN jX (aA (aD 0) aG)) (chD leD ltD (cD (.int 0)) (aD 0) (aD 1))
def bh:En->Ou:=bB (ifS (orT (lX (tst (op1 (lJ "tuple") (aD 0)))) (lX (tst (opA (n8 λ bs=>bs.all id) (aA (lcD (dj (aD 0)) [none,some 1] (gnm 0) fU laA) aG)))))
   (retS (cD (.bl false)))
   Ou.nx)
  (retS (aN fP (aA (aD 0) aG)))
def dZ:List D->Rs D:=dF 2 bh
def wkC:En->Rs D:=lcD (dj (op2 ixD (aD 2) (cD (.int 1)))) [none,none,some 3] (gq 2 (bJ (gnm 0) (bJ (gnm 1) iw))) (aAr (tsb (op2 (eqR false) (aD 0) (op2 ixD (aD 2) (op1 aAV (cD (.int 1)))))) (tsb (op2 (inR true) (aD 1) (aD 2)))) (aa (aD 1))
def wkL:En->Ou:=bB (qm 5 wkC)
   (ifS (tsb (op2 (eqR true) (jg 5) (dR aG)))
    (vp 3 (op2 ixD (jg 5) (aN aR (aA (aD 0) (aA (op2 bN (op2 bN (aD 1) (cD (.int 2))) (aD 4)) (aA (opA gm (aA (jg 5) aG)) aG))))))
    Ou.nx)
def eO:En->Ou:=bB (ifS (tsb (op2 (eqR false) (op2 ixD (aD 2) (cD (.int 0))) (cD (.int 0))))
   (retS (bY aG))
   Ou.nx)
  (bB (lu 3 (dR (aA (aN aR (aA (aD 0) (aA (aD 1) (aA (op2 ixD (aD 2) (cD (.int 0))) aG)))) aG)))
  (bB (iy (dJ fY (aA (aN aR (aA (aD 0) (aA (op2 bN (aD 1) (cD (.int 1))) (aA (cD (.int 8)) aG)))) aG)) (gnm 4) wkL)
  (retS (opA cO (aA (qe 3) aG)))))
def dH:List D->Rs D:=dF 6 eO
def cL:En->Ou:=
  (bB (cG 4 (aN aR (aA (aD 0) (aA (aD 1) (aA (op2 bN (opA gm (aA (aD 2) aG)) (cD (.int 1))) aG)))))
  (bB (qm 5 (op2 ixD (dR (aA (cD (.int 0)) (aA (aa (aD 3)) (aA (op1 aAV (cD (.int 1))) (aA (cD (.bl true)) (aA (cD .non) (aA (cD (.str "0")) (aA (dR (aA (cD (.int 0)) aG)) (aA (op2 aBC (aD 3) (cD (.int 1))) (aA (cD (.int 1)) aG)))))))))) (aN aR (aA (aD 0) (aA (op2 bN (aD 1) (cD (.int 1))) (aA (cD (.int 9)) aG))))))
  (bB (qm 6 (dR (aA (op2 bN (op2 bN (aa (fG (aD 2) jR (jQ (aD 4)))) (bY (aA (jg 5) aG))) (aa (fG (aD 2) (jQ (op2 bN (aD 4) (cD (.int 1)))) jR))) (aA (op2 bN (aa (fG (aD 2) jR (jQ (aD 4)))) (aa (fG (aD 2) (jQ (op2 bN (aD 4) (cD (.int 1)))) jR))) (aA (op2 bN (op2 bN (aa (fG (aD 2) jR (jQ (aD 4)))) (bY (aA (jg 5) aG))) (aa (fG (aD 2) (jQ (aD 4)) jR))) (aA (aa (op1 aCm (aD 2))) aG))))))
  (bB (qm 6 (op2 bN (jg 6) (dR (aA (opA vA (aA (aa (aD 2)) aG)) (aA (op2 bN (aa (aD 2)) (aa (fG (aD 2) jR (jQ (cD (.int 1)))))) (aA (op2 bN (aa (fG (aD 2) (jQ (cD (.int 1))) jR)) (aa (fG (aD 2) jR (jQ (cD (.int 1)))))) (aA (bY aG) (aA (cD .non) (aA (bY (aA (aa (aD 2)) aG)) aG)))))))))
  (retS (op2 ixD (jg 6) (aN aR (aA (aD 0) (aA (op2 bN (aD 1) (cD (.int 2))) (aA (cD (.int 10)) aG))))))))))
def cA:List D->Rs D:=dF 7 cL
def ipE:En->Ou:=ifS (orT (lX (tst (op1 (lJ "tuple") (aD 1)))) (tsb (op2 (eqR true) (opA gm (aA (aD 1) aG)) (cD (.int 2))))) (retS (cD (.bl false))) Ou.nx
def iM:En->Ou:=bB ipE (retS (tV (aN cQ (aA (aD 0) (aA (op2 ixD (aD 1) (cD (.int 0))) aG))) (tV (aN cQ (aA (aD 0) (aA (op2 ixD (aD 1) (cD (.int 1))) aG))) (op2 (eqR true) (op2 ixD (aD 1) (cD (.int 0))) (op2 ixD (aD 1) (cD (.int 1)))))))
def kW:List D->Rs D:=dF 2 iM
def cI:En->Ou:=
  (bB (ifS (lX (tst (op1 (lJ "tuple") (aD 1))))
   (retS (cD (.bl false)))
   Ou.nx)
  (bB (iy (dj (aD 1)) (gnm 2)
   (ifS (lX (tst (aN cQ (aA (aD 0) (aA (aD 2) aG)))))
    (retS (cD (.bl false)))
    Ou.nx))
  (retS (aN cN (aA (aD 1) aG)))))
def dg:List D->Rs D:=dF 3 cI
def arI:En->Rs (List D):=inL (dj (op2 bN (dR (aA (aD 0) aG)) (op2 ixD (aD 2) (aD 0)))) (gnm 1) fU (aa (aD 1))
def arX:En->Rs D:=aIK (dj (op2 ixD (aD 1) (aD 3))) [none,none,some 2] (gnm 0) fU arI
def cX:En->Ou:=bB (cG 1 (aN gF (aA (aD 0) aG))) (bB (lu 2 (lcD (dJ fY (aA (op2 ixD (aD 0) (cD (.int 0))) aG)) [none] (gnm 0) fU (dR aG)))
  (bB (iy (dj (op1 aAG (aN cY (aA (aD 0) aG)))) (gnm 3) (aBW 2 (aD 3) arX)) (retS (qe 2))))
def cj:List D->Rs D:=dF 4 cX
def orB:En->Ou:=ifS (orT (tsb (op2 ltD (aN aR (aA (aD 0) (aA (aD 7) (aA (cD (.int 8)) aG)))) (jg 4))) (aAr (tsb (op2 (eqR false) (aD 3) (cD (.int 5)))) (tsb (op2 (inR false) (aD 8) (bY (aA (op2 bN (op2 gR (cD (.int 2)) (aD 9)) (cD (.int 1))) (aA (op2 bN (op2 gR (cD (.int 2)) (aD 9)) (cD (.int 2))) aG)))))))
     (vp 6 (bY (aA (aa (op2 ixD (aD 5) (aD 9))) (aA (aa (op2 ixD (aD 5) (aD 8))) aG))))
     Ou.nx
def aE4:En->Ou:=bB (cG 7 (op2 bN (aD 7) (cD (.int 1)))) orB
def aCO:En->Ou:=iy (dJ fY (aA (aD 8) aG)) (gnm 9) aE4
def cW:En->Ou:=bB (cG 2 (aN aR (aA (aD 0) (aA (cD (.int 0)) (aA (op2 bN (aD 1) (cD (.int 1))) aG)))))
  (bB (cG 3 (aN aR (aA (aD 0) (aA (cD (.int 1)) (aA (cD (.int 6)) aG)))))
  (bB (qm 4 (op2 ixD (dR (aA (cD (.int 1)) (aA (cD (.int 2)) (aA (cD (.int 3)) (aA (cD (.int 5)) (aA (cD (.int 8)) (aA (cD (.int 0)) aG))))))) (aD 3)))
  (bB (cG 5 (aN jD (aA (aD 0) (aA (aD 2) aG))))
  (bB (lu 6 (dR aG))
  (bB (cG 7 (cD (.int 2)))
  (bB (iy (dJ fY (aA (aD 2) aG)) (gnm 8) aCO)
  (retS (bY (aA (aa (aD 2)) (aA (opA cO (aA (opA iU (aA (fB 6) aG)) aG)) aG))))))))))
def cZ:List D->Rs D:=dF 10 cW
def lpC:En->Rs D:=lcD (dj (op2 ixD (aD 0) (cD (.int 1)))) [none,none,some 1] (gq 2 (bJ (gnm 0) (bJ (gnm 1) iw))) (aAr (tsb (op2 (inR false) (aD 0) (aD 2))) (tsb (op2 (inR false) (aD 1) (aD 2)))) (aa (aD 0))
def lpI:En->Ou:=ifS (lX (tst (aN dZ (aA (aD 1) (aA (op2 ixD (aD 0) (cD (.int 0))) aG))))) (retS (cD (.bl false))) Ou.nx
def eY:En->Ou:=bB lpI (retS (op2 (eqR false) lpC (dR aG)))
def jY:List D->Rs D:=dF 2 eY
def bF:En->Ou:=
  (bB (ifS (lX (tst (op1 (lJ "tuple") (aD 1))))
   (retS (cD (.bl false)))
   Ou.nx)
  (bB (iy (dj (aD 1)) (gnm 2)
   (ifS (lX (tst (aN kW (aA (aD 0) (aA (aD 2) aG)))))
    (retS (cD (.bl false)))
    Ou.nx))
  (retS (aN cN (aA (aD 1) aG)))))
def bU:List D->Rs D:=dF 3 bF
def dX:En->Ou:=
  (bB (ifS (orT (lX (tst (op1 (lJ "tuple") (aD 0)))) (tsb (op2 (eqR true) (opA gm (aA (aD 0) aG)) (cD (.int 2)))))
   (retS (cD (.bl false)))
   Ou.nx)
  (retS (tV (aN nR (aA (op2 ixD (aD 0) (cD (.int 0))) aG)) (aN bU (aA (op2 ixD (aD 0) (cD (.int 0))) (aA (op2 ixD (aD 0) (cD (.int 1))) aG))))))
def iB:List D->Rs D:=dF 1 dX
def cF:En->Ou:=
  (ifS (lX (tst (aN iB (aA (aD 0) aG))))
   (ud "NoOneWay" (aA (cD (.str "this is no one-way web")) aG))
   Ou.nx)
def cT:List D->Rs D:=dF 1 cF
def cV:En->Ou:=
  (bB (xg (aN cT (aA (aD 0) aG)))
  (bB (cG 1 (aN cY (aA (aD 0) aG)))
  (retS (ifD (tsb (op2 (eqR false) (opA gm (aA (aD 1) aG)) (op2 ixD (aD 0) (cD (.int 0))))) (aa (opA cO (aA (aD 1) aG))) (cD .non)))))
def gM:List D->Rs D:=dF 2 cV
def cC:En->Ou:=
  (ifS (tsb (op2 (isD false) (aN gM (aA (aD 0) aG)) (cD .non)))
   (ud "NoOrder" (aA (cD (.str "the one-way web has a ring")) aG))
   Ou.nx)
def cR:List D->Rs D:=dF 1 cC
def reI:En->Rs (List D):=inL (dj (aD 1)) (gnm 2) fU (bY (aA (aa (aD 0)) (aA (aa (aD 2)) aG)))
def reX:En->Rs D:=aGp (dJ aFS (aA (aN cj (aA (aD 0) aG)) aG)) [none,none,none] (gq 2 (bJ (gnm 0) (bJ (gnm 1) iw))) fU reI
def nQ:En->Ou:=bB (xg (aN cR (aA (aD 0) aG))) (retS (bY (aA (aa (op2 ixD (aD 0) (cD (.int 0)))) (aA (opA cO (aA reX aG)) aG))))
def dY:List D->Rs D:=dF 1 nQ
def iaC:En->Rs D:=lcD (dj (op2 ixD (aD 2) (cD (.int 1)))) [none,none,some 1] (gq 2 (bJ (gnm 0) (bJ (gnm 1) iw))) fU (tV (op2 (inR false) (aD 0) (aD 2)) (op2 (inR false) (aD 1) (aD 2)))
def iaI:En->Ou:=ifS (lX (tst (aN dg (aA (op2 ixD (aD 0) (cD (.int 0))) (aA (aD 1) aG))))) (retS (cD (.bl false))) Ou.nx
def gB:En->Ou:=bB (cG 2 (aN dY (aA (aD 0) aG))) (bB iaI (retS (op1 aCw (opA (n8 λ bs=>bs.any id) (aA iaC aG)))))
def lL:List D->Rs D:=dF 3 gB
def lwR:En->Rs (List D):=(dJ fY (aA (opA (mmD λ i j=>if j>i then j else i) (aA (cD (.int 1)) (aA (opA (mmD λ i j=>if j<i then j else i) (aA (opA gm (aA (aD 0) aG)) (aA (cD (.int 8)) aG))) aG))) aG))
def lI1:En->Ou:=(ifS (orT (tsb (op2 (eqR true) (aN dY (aA (aD 3) aG)) (aD 4))) (tsb (op2 (eqR true) (aN dY (aA (aD 4) aG)) (aD 4)))) (retS (cD (.bl false))) Ou.nx)
def w6X:En->Rs D:=(dR (aA (aa (aD 5)) (aA (aa (fG (aD 5) jR (jQ (cD (.int 2))))) (aA (aN kO (aA (aD 2) aG)) (aA (bY aG) (aA (opA cO (aA (opA lq (aA (aN dH (aA (aD 2) (aA (cD (.int 90)) (aA (aD 3) aG)))) aG)) aG)) (aA (aa (op1 aCm (aD 5))) aG)))))))
def w6Y:En->Rs D:=(op2 bN (op2 bN (jg 6) (dR (aA (aN cA (aA (aD 2) (aA (cD (.int 70)) (aA (aD 5) (aA (op2 ixD (aD 3) (cD (.int 0))) aG))))) aG))) (lcD (dJ fY (aA (op2 ixD (aD 3) (cD (.int 0))) aG)) [none] (gnm 0) fU (bY (aA (aa (aD 0)) aG))))
def lT:En->Ou:=(bB (cG 8 (aN lL (aA (aD 3) (aA (aD 7) aG)))) (ifS (orT (lX (tst (op1 (lJ "bool") (aD 8)))) (tsb (op2 (eqR true) (aD 8) (aN jY (aA (aD 4) (aA (aD 7) aG)))))) (retS (cD (.bl false))) Ou.nx))
def lwK:En->Ou:=bB (cG 2 (aN cg (aA (aD 0) (aA (aD 1) aG)))) (bB (cG 3 (aN cZ (aA (aD 2) (aA (cD (.int 9)) aG)))) (bB (cG 4 (aN gZ (aA (aD 3) aG))) (bB lI1 (bB (cG 5 (aN fQ (aA (aD 2) (aA (cD (.int 80)) (aA (op2 ixD (aD 3) (cD (.int 0))) aG))))) (bB (qm 6 w6X) (bB (qm 6 w6Y) (iy (dj (jg 6)) (gnm 7) lT)))))))
def lwZ:En->Rs D:=(tV (op2 (eqR false) (aN dY (aA (bY (aA (cD (.int 3)) (aA (bY (aA (bY (aA (cD (.int 0)) (aA (cD (.int 1)) aG))) (aA (bY (aA (cD (.int 1)) (aA (cD (.int 2)) aG))) aG))) aG))) aG)) (bY (aA (cD (.int 3)) (aA (bY (aA (bY (aA (cD (.int 0)) (aA (cD (.int 1)) aG))) (aA (bY (aA (cD (.int 0)) (aA (cD (.int 2)) aG))) (aA (bY (aA (cD (.int 1)) (aA (cD (.int 2)) aG))) aG)))) aG)))) (op2 (eqR false) (aN dY (aA (bY (aA (cD (.int 0)) (aA (bY aG) aG))) aG)) (bY (aA (cD (.int 0)) (aA (bY aG) aG)))))
def vf:En->Ou:=bB (iy lwR (gnm 1) lwK) (retS lwZ)
def aFd:List D->Rs D:=dF 9 vf
theorem xm(hb:0<b)(hb2:b<1073741824):∀(ds:List D) (x:Int) (s:Slot),(∀d∈ds,∃n:Int,d= .int n)->
  ∃y s',forL (gnm 4) (cG 3 (op2 vP (aD 3) (aD 2))) ds [.sh (.int c),.sh (.int k),.sh (.int b),.sh (.int x),s,.no]= .nx [.sh (.int c),.sh (.int k),.sh (.int b),.sh (.int y),s',.no]
 |[],x,s,_=>⟨x,s,rfl⟩
 |d::ds,x,s,h=>by
  have ih:=xm hb hb2 (c:=c) (k:=k) ds (x / b) (.sh d) λ e he=>h e (zAM _ he)
  rw[iI];simp[xP hb hb2];exact ih
def zL(hk0:0<=k)(hk1:k<2^40)(hb:0<b)(hb2:b<1073741824):∃r:Int,aR [.int c,.int k,.int b]= .ok (.int r)/\0<=r/\r<b:=by
 have hp:aEL (.int 10) (.int 18)= .ok (.int 1000000000000000000):=rfl;by_cases hc:(1000000000000000000:Int)<=c
 .have hr:=dw (j:=k) (by lia) (by lia)
  obtain⟨y,s',e⟩:=xm hb hb2 (c:=c) (k:=k) (cu 0 k) c .no λ d hd=>let⟨n,e,_⟩:=pX.mp hd;⟨n,e⟩
  refine⟨y%b,?_,zDE _ (by lia),zC9 _ hb⟩;simp[aR,eQ,ak,hp,hc,hr,e,mR hb]
 .have s1:∀z:Int,0<=z%2147483647/\z%2147483647<2147483647:=λ z=>⟨zDE _ (by decide),zC9 _ (by decide)⟩
  have s2:∀z:Int,0<=z%2147483629/\z%2147483629<2147483629:=λ z=>⟨zDE _ (by decide),zC9 _ (by decide)⟩
  have m1:∀z,gR (.int 1009) (.int z)= .ok (.int (1009*z)):=λ z=>yo (by decide) (by decide)
  have m2:∀z,gR (.int z) (.int 69621)= .ok (.int (z*69621)):=λ z=>aEb (by decide) (by decide)
  have m3:∀z,gR (.int 40503) (.int z)= .ok (.int (40503*z)):=λ z=>yo (by decide) (by decide)
  have m4:∀z,gR (.int z) (.int 48271)= .ok (.int (z*48271)):=λ z=>aEb (by decide) (by decide)
  have m5:∀z:Int,gR (.int (z%2147483647)) (.int (z%2147483647))= .ok (.int (z%2147483647*(z%2147483647))):=λ z=>yo (by have:=s1 z;lia) (by have:=s1 z;lia)
  have d1:∀z,rM (.int z) (.int 1000000007)= .ok (.int (z%1000000007)):=λ z=>mR (by decide)
  have d2:∀z,rM (.int z) (.int 2147483647)= .ok (.int (z%2147483647)):=λ z=>mR (by decide)
  have d3:∀z,rM (.int z) (.int 2147483629)= .ok (.int (z%2147483629)):=λ z=>mR (by decide)
  have d4:∀z,vP (.int z) (.int 32)= .ok (.int (z / 32)):=λ z=>xP (by decide) (by decide)
  have d5:∀z,rM (.int z) (.int b)= .ok (.int (z%b)):=λ z=>mR hb
  simp[aR,eQ,ak,hp,hc,m1,m2,m3,m4,m5,d1,d2,d3,d4,d5,-Int.emod_emod_of_dvd];exact⟨zDE _ (by lia),zC9 _ hb⟩
def fL(hk0:0<=k)(hk1:k<2^40)(hb:0<b)(hb2:b<1073741824):∃r:Nat,aR [.int c,.int k,.int b]= .ok (.int r)/\(r:Int)<b:=by
 obtain⟨r,e,h0,h1⟩:=zL (c:=c) hk0 hk1 hb hb2;exact⟨r.toNat,by rw[zBt h0];exact e,by lia⟩
def aHO(h:0<=k):∃c:Int,cg [.scr ns,.int k]= .ok (.int c):=by
 by_cases hk:k<ns.length
 .obtain⟨d,e,hm,_⟩:=aBr (l:=ns.map .int) (i:=k) h (by simpa using hk)
  obtain⟨c,_,rfl⟩:=zAd.mp hm;exact⟨c,by simp[cg,cJ,ak,hk,e]⟩
 .exact⟨0,by simp[cg,cJ,ak,hk]⟩
mutual
def pln:D->Bool
 | .tup l=>gQ l
 | .lst l=>gQ l
 | .set _=>false
 | .scr _=>false
 | .fn _=>false
 |_=>true
def gQ:List D->Bool
 |[]=>true
 |d::r=>pln d&&gQ r
end
def jN(h:pln d=true):knd d=true:=by cases d<;>first|rfl|(simp[pln]at h)
theorem gP:∀{l:List D} {d:D},gQ l=true->d∈l->pln d=true
 |x::r,d,h,hm=>by
  simp only[gQ,zAQ]at h;rcases zAR.mp hm with rfl|hm
  .exact h.1
  .exact gP h.2 hm
theorem uA:∀{l:List D},(∀d∈l,pln d=true)->gQ l=true
 |[],_=>rfl
 |x::r,h=>by
  simp only[gQ,zAQ];exact⟨h x (zAN ..),uA λ d hd=>h d (zAM _ hd)⟩
def uK:D->Bool
 | .int _=>true
 |_=>false
def aCT:D->Bool
 | .int i=>decide (0<=i)&&decide (i<=60)
 |_=>false
def bj(m:Int):D->Bool
 | .int i=>decide (0<=i)&&decide (i<m)
 |_=>false
def sU(h:knd d=true):jE [d]= .ok (.bl (uK d)):=by
 simp[jE,fu,ak,aCZ h,vH h];cases d<;>rfl
def aBl(h:knd d=true):nR [d]= .ok (.bl (aCT d)):=by
 simp[nR,iQ,ak,sU h];cases d<;>simp[uK,aCT]
 rename_i i;by_cases h0:0<=i<;>simp[h0]
def mV(h:knd d=true):cQ [.int m,d]= .ok (.bl (bj m d)):=by
 simp[cQ,gA,ak,sU h];cases d<;>simp[uK,bj]
 rename_i i;by_cases h0:0<=i<;>simp[h0]
def ig(m:Int):D->Bool
 | .tup [.int a,.int b]=>decide (0<=a)&&decide (a<m)&&decide (0<=b)&&decide (b<m)&& !(a==b)
 |_=>false
def rF(h:bj m d=true):∃i:Int,d= .int i/\0<=i/\i<m:=by
 cases d with
 |int i=>simp[bj]at h;exact⟨i,rfl,h.1,h.2⟩
 |_=>simp[bj]at h
def aD6(h:mW d=true):∃l,d= .tup l:=by cases d<;>first|exact⟨_,rfl⟩|(cases h)
def aIC(h:l.length=2):∃x y,l=[x,y]:=by
 match l,h with
 |[x,y],_=>exact⟨x,y,rfl⟩
def aEX(h:mW d=false):ig m d=false:=by cases d<;>first|rfl|(cases h)
def aCt(h:l.length≠2):ig m (.tup l)=false:=by
 match l,h with
 |[],_=>rfl
 |[x],_=>cases x<;>rfl
 |[x,y],h=>exact absurd rfl h
 |x::y::z::r,_=>cases x<;>first|rfl|(cases y<;>rfl)
def aGa(h:bj m x=false):ig m (.tup [x,y])=false:=by
 cases x with
 |int i=>
  cases y with
  |int j=>
   show((((decide (0<=i)&&decide (i<m))&&decide (0<=j))&&decide (j<m))&& !(i==j))=false
   rw[show(decide (0<=i)&&decide (i<m))=false from h];rfl
  |_=>rfl
 |_=>rfl
def aG9(h:bj m y=false):ig m (.tup [.int i,y])=false:=by
 cases y with
 |int j=>
  show((((decide (0<=i)&&decide (i<m))&&decide (0<=j))&&decide (j<m))&& !(i==j))=false
  rw[zFB (decide (0<=i)&&decide (i<m)),show(decide (0<=j)&&decide (j<m))=false from h,zDr];rfl
 |_=>rfl
def aEW(h1:bj m (.int i)=true)(h2:bj m (.int j)=true):ig m (.tup [.int i,.int j])= !(i==j):=by
 show((((decide (0<=i)&&decide (i<m))&&decide (0<=j))&&decide (j<m))&& !(i==j))= !(i==j)
 rw[zFB (decide (0<=i)&&decide (i<m)),show(decide (0<=j)&&decide (j<m))=true from h2,show(decide (0<=i)&&decide (i<m))=true from h1];rfl
def aJ2(hk:knd d=true)(h:mW d=false):ipE [s,.sh d]= .rt (.bl false):=by simp[ipE,jt hk,h]
def aGu(h:l.length≠2):ipE [s,.sh (.tup l)]= .rt (.bl false):=by
 have:¬((l.length:Int)=2):=by omega
 simp[ipE,this]
def aGt:ipE [s,.sh (.tup [x,y])]= .nx [s,.sh (.tup [x,y])]:=by simp[ipE]
def aBk(h:pln d=true):kW [.int m,d]= .ok (.bl (ig m d)):=by
 have st:ak 2 [.int m,d]=[.sh (.int m),.sh d]:=rfl;simp only[kW,iM,bI,st];cases ht:mW d with
 |false=>rw[aQ,aJ2 (jN h) ht,aEX ht];rfl
 |true=>
  obtain⟨l,rfl⟩:=aD6 ht;by_cases hl:l.length=2
  .obtain⟨x,y,rfl⟩:=aIC hl
   simp only[pln,gQ,zAQ]at h;have hx:=mV (m:=m) (jN h.1);have hy:=mV (m:=m) (jN h.2.1);have ex:aN cQ (aA (aD 0) (aA (op2 ixD (aD 1) (cD (.int 0))) aG)) [.sh (.int m),.sh (.tup [x,y])]= .ok (.bl (bj m x)):=by simp[hx]
   have ey:aN cQ (aA (aD 0) (aA (op2 ixD (aD 1) (cD (.int 1))) aG)) [.sh (.int m),.sh (.tup [x,y])]= .ok (.bl (bj m y)):=by simp[hy]
   rw[aQ,aGt,az,jM,zY,ex,aK,aC9,zY,ey,aK,aC9];cases c1:bj m x with
   |false=>rw[aGa c1];rfl
   |true=>
    obtain⟨i,rfl,_,_⟩:=rF c1;cases c2:bj m y with
    |false=>rw[aG9 c2];rfl
    |true=>
     obtain⟨j,rfl,_,_⟩:=rF c2;rw[aEW c1 c2];rfl
  .rw[aQ,aGu hl,aCt hl];rfl
def pD(p:Int×Int):D:=.tup [.int p.1,.int p.2]
def ltP(p q:Int×Int):Bool:=HT.lexLt [p.1,p.2] [q.1,q.2]
def tL:List (Int×Int)->Bool
 |[]=>true
 |[_]=>true
 |p::q::r=>ltP p q&&tL (q::r)
def aJN(p q:Int×Int):ltD (pD p) (pD q)= .ok (.bl (ltP p q)):=aGn [p.1,p.2] [q.1,q.2]
theorem nJ:∀(ds:List D) (ok:Nat->Bool) (I:En->Prop) (Y:En),I Y->(∀(i:Nat) d Y,ds[i]? =some d->I Y->okE (a d Y) u= .rt r/\ok i=false\/∃Y',okE (a d Y) u= .nx Y'/\I Y'/\ok i=true)->
  (forL a u ds Y= .rt r/\∃i,i<ds.length/\ok i=false)\/(∃Y',forL a u ds Y= .nx Y'/\I Y'/\∀i,i<ds.length->ok i=true)
 |[],ok,I,Y,h,_=>.inr ⟨Y,rfl,h,λ i hi=>absurd hi (zDn _)⟩
 |d::ds,ok,I,Y,h,hs=>by
  rw[iI];rcases hs 0 d Y rfl h with ⟨e,o⟩|⟨Y',e,h',o⟩
  .left
   refine⟨?_,0,by simp,o⟩;cases ea:a d Y with
   |ok Y1=>rw[ea]at e;simp at e ⊢;rw[e];rfl
   |ex c=>rw[ea]at e;cases e
   |st=>rw[ea]at e;cases e
  .have ih:=nJ ds (λ i=>ok (i+1)) I Y' h' λ i d2 Y2 e2 h2=>hs (i+1) d2 Y2 (by simpa using e2) h2
   have e3:okE (a d Y) (λ Y1=>(u Y1).tn (forL a u ds))=forL a u ds Y':=by
    cases ea:a d Y with
    |ok Y1=>rw[ea]at e;simp at e ⊢;rw[e];rfl
    |ex c=>rw[ea]at e;cases e
    |st=>rw[ea]at e;cases e
   rw[e3];rcases ih with ⟨e4,i,hi,o4⟩|⟨Y4,e4,h4,o4⟩
   .exact .inl ⟨e4,i+1,by simpa using hi,o4⟩
   .refine .inr ⟨Y4,e4,h4,λ i hi=>?_⟩
    cases i with
    |zero=>exact o
    |succ i=>exact o4 i (by simpa using hi)
def jk{i:Nat}(h:(cu lo hi)[i]? =some d):d= .int (lo+i)/\lo+i<hi:=by
 unfold cu at h;rw[zAK]at h;by_cases hi2:i<(hi-lo).toNat
 .rw[zDB hi2]at h
  cases h;exact⟨rfl,by omega⟩
 .rw[zCH (by simpa using hi2)]at h
  cases h
def gO:(cu lo hi).length=(hi-lo).toNat:=by unfold cu;simp
section
variable{α:Type}{f:α->D}{lt:α->α->Bool}
def lW(lt:α->α->Bool):List α->Bool
 |[]=>true
 |[_]=>true
 |p::q::r=>lt p q&&lW lt (q::r)
theorem mJ:∀{ps:List α},lW lt ps=true↔∀(i:Nat) (p q:α),ps[i]? =some p->ps[i+1]? =some q->lt p q=true
 |[]=>by simp[lW]
 |[x]=>by
  simp only[lW,true_iff];intro i p q _ h2;simp at h2
 |x::y::r=>by
  have ih:=mJ (ps:=y::r);unfold lW;rw[zAQ,ih];constructor
  .rintro⟨h1,h2⟩ i p q e1 e2
   cases i with
   |zero=>simp at e1 e2;subst e1 e2;exact h1
   |succ i=>exact h2 i p q (by simpa using e1) (by simpa using e2)
  .intro h
   exact⟨h 0 x y rfl rfl,λ i p q e1 e2=>h (i+1) p q (by simpa using e1) (by simpa using e2)⟩
def sV(hlt:∀a b,ltD (f a) (f b)= .ok (.bl (lt a b)))(hl:ps.length<=100000):cN [.tup (ps.map f)]= .ok (.bl (lW lt ps)):=by
 have hr:=aCJ (i:=1) (j:=(ps.length:Int)) (by decide) (by decide) (by omega) (by omega);have hlen:(cu 1 (ps.length:Int)).length=ps.length-1:=by rw[gO];omega
 have L:=nJ (a:=gnm 1) (u:=ifS (lX (tsb (op2 ltD (op2 ixD (aD 0) (op2 aBC (aD 1) (cD (.int 1)))) (op2 ixD (aD 0) (aD 1))))) (retS (cD (.bl false))) Ou.nx) (r:=.bl false)
  (cu 1 (ps.length:Int)) (λ i=>match ps[i]?,ps[i+1]? with|some p,some q=>lt p q|_,_=>true) (λ Y=>∃s,Y=[.sh (.tup (ps.map f)),s]) [.sh (.tup (ps.map f)),.no] ⟨_,rfl⟩ (by
   rintro i d Y hd ⟨s,rfl⟩;obtain⟨rfl,h2⟩:=jk hd;have e1:ps[i]? =some ps[i]:=zAB (by omega);have e2:ps[i+1]? =some ps[i+1]:=zAB (by omega);have a1:atD (ps.map f) (1+(i:Int)-1)= .ok (f ps[i]):=by
    rw[show(1+(i:Int)-1)=(i:Int)by omega];exact cP (by rw[zAK,e1];rfl)
   have a2:atD (ps.map f) (1+(i:Int))= .ok (f ps[i+1]):=by
    rw[show(1+(i:Int))=((i+1:Nat):Int)by omega];exact cP (by rw[zAK,e2];rfl)
   simp only[e1,e2];cases c:lt ps[i] ps[i+1]with
   |true=>right;exact⟨_,by simp[a1,a2,hlt,c];rfl,⟨_,rfl⟩,rfl⟩
   |false=>left;exact⟨by simp[a1,a2,hlt,c],rfl⟩)
 have st:ak 2 [.tup (ps.map f)]=[.sh (.tup (ps.map f)),.no]:=rfl;rcases L with ⟨e,i,hi,o⟩|⟨Y',e,⟨s,rfl⟩,o⟩
 .have:lW lt ps=false:=by
   cases c:lW lt ps with
   |false=>rfl
   |true=>
    rw[hlen]at hi;have z:=mJ.mp c i ps[i] ps[i+1] (zAB (by omega)) (zAB (by omega));rw[zAB (by omega),zAB (by omega)]at o;simp only at o;rw[z]at o;cases o
  rw[this];simp only[cN,dG,bI,st];simp[hr,e]
 .have:lW lt ps=true:=mJ.mpr λ i p q e1 e2=>by
   have h2:=(zAL.mp e2).1
   have:=o i (by rw[hlen];omega)
   rw[e1,e2]at this;exact this
  rw[this];simp only[cN,dG,bI,st];simp[hr,e]
end
theorem aBN:∀ps:List (Int×Int),tL ps=lW ltP ps
 |[]=>rfl
 |[_]=>rfl
 |p::q::r=>by unfold tL lW;rw[aBN (q::r)]
def zG(hl:ps.length<=100000):cN [.tup (ps.map pD)]= .ok (.bl (tL ps)):=by
 rw[aBN];exact sV aJN hl
def ltI(a b:Int):Bool:=decide (a<b)
def aAb(hl:ps.length<=100000):cN [.tup (ps.map .int)]= .ok (.bl (lW ltI ps)):=sV (λ a b=>by rw[aCV];rfl) hl
def yZ:tL ps=true↔∀(i:Nat) (p q:Int×Int),ps[i]? =some p->ps[i+1]? =some q->ltP p q=true:=by rw[aBN];exact mJ
def aGV:D->Int×Int
 | .tup [.int a,.int b]=>(a,b)
 |_=>(0,0)
def aB0(h:ig m d=true):∃a b:Int,d= .tup [.int a,.int b]/\0<=a/\a<m/\0<=b/\b<m/\a≠b:=by
 unfold ig at h;split at h
 .rename_i a b
  simp at h;exact⟨a,b,rfl,h.1.1.1.1,h.1.1.1.2,h.1.1.2,h.1.2,h.2⟩
 .cases h
theorem aHm:∀{ts:List D},ts.all (ig m)=true->(ts.map aGV).map pD=ts
 |[],_=>rfl
 |t::ts,h=>by
  rw[zFU,zAQ]at h;obtain⟨a,b,rfl,_⟩:=aB0 h.1;simp only[zAT];rw[aHm h.2];rfl
def rpB(m:Int):D->Bool
 | .tup ts=>ts.all (ig m)&&tL (ts.map aGV)
 |_=>false
def ql:D->Bool
 | .tup l=>decide (l.length<=100000)
 |_=>true
def n6(h:pln d=true)(hs:ql d=true):bU [.int m,d]= .ok (.bl (rpB m d)):=by
 cases d with
 |tup ts=>
  have hp:gQ ts=true:=by simpa[pln]using h
  have hl:ts.length<=100000:=by simpa[ql]using hs
  have L:=nJ (a:=gnm 2) (u:=ifS (lX (tst (aN kW (aA (aD 0) (aA (aD 2) aG))))) (retS (cD (.bl false))) Ou.nx) (r:=.bl false)
   ts (λ i=>match ts[i]? with|some t=>ig m t|none=>true) (λ Y=>∃s,Y=[.sh (.int m),.sh (.tup ts),s]) [.sh (.int m),.sh (.tup ts),.no] ⟨_,rfl⟩ (by
    rintro i d Y hd ⟨s,rfl⟩;have e:=aBk (m:=m) (gP hp (zAh hd));simp only[hd];cases c:ig m d with
    |true=>right;exact⟨_,by simp[e,c];rfl,⟨_,rfl⟩,rfl⟩
    |false=>left;exact⟨by simp[e,c],rfl⟩)
  have st:ak 3 [.int m,.tup ts]=[.sh (.int m),.sh (.tup ts),.no]:=rfl;rcases L with ⟨e,i,hi,o⟩|⟨Y',e,⟨s,rfl⟩,o⟩
  .have:ts.all (ig m)=false:=by
    rw[zGV];rw[zAB hi]at o;exact⟨ts[i],zCq hi,by simpa using o⟩
   simp only[bU,bF,bI,st];simp[e,rpB,this]
  .have:ts.all (ig m)=true:=by
    rw[zBJ];intro t ht;obtain⟨i,hi,rfl⟩:=zBq ht
    have:=o i hi
    rw[zAB hi]at this;exact this
   have er:=zG (ps:=ts.map aGV) (by rw[zAD];exact hl);rw[aHm this]at er;simp only[bU,bF,bI,st];simp[e,rpB,this,er]
 |_=>simp[bU,bF,ak,jt (jN h),mW,rpB]
theorem gU:∀(ds:List D) (P:Nat->En->Prop) (Y:En),P 0 Y->(∀(i:Nat) d Y,ds[i]? =some d->P i Y->∃Y',okE (a d Y) u= .nx Y'/\P (i+1) Y')->∃Y',forL a u ds Y= .nx Y'/\P ds.length Y'
 |[],P,Y,h,_=>⟨Y,rfl,h⟩
 |d::ds,P,Y,h,hs=>by
  obtain⟨Y1,e,h1⟩:=hs 0 d Y rfl h;obtain⟨Y2,e2,h2⟩:=gU (a:=a) (u:=u) ds (λ i=>P (i+1)) Y1 h1 λ i d2 Y2 e2 h2=>hs (i+1) d2 Y2 (by simpa using e2) h2
  refine⟨Y2,?_,by simpa using h2⟩;rw[iI];cases ea:a d Y with
  |ok Y0=>rw[ea]at e;simp at e ⊢;rw[e];exact e2
  |ex c=>rw[ea]at e;cases e
  |st=>rw[ea]at e;cases e
def vL(l:List α)(i:Int)(y:α):(dq l i y).Perm (y::l):=by
 unfold dq;generalize (if i<0 then(i+(l.length:Int)).toNat else min i.toNat l.length)=k
 have:(l.take k++y::l.drop k).Perm (y::(l.take k++l.drop k)):=List.perm_middle
 rwa [List.take_append_drop]at this
def aDI(f:α->β)(l:List α)(i:Int)(y:α):dq (l.map f) i (f y)=(dq l i y).map f:=by
 unfold dq;rw[zAD,zC6,zAT,List.map_take,List.map_drop]
structure aFc(n:Nat)(os:List Int):Prop where
 len:os.length=n
 nd:os.Nodup
 lo:∀x∈os,0<=x/\x<n
def aA8{n:Nat}(h1:n<=60):∃os,jD [.int c,.int n]= .ok (.lst (os.map .int))/\aFc n os:=by
 have hr:=dw (j:=(n:Int)) (by lia) (by lia);have hlen:(cu 0 (n:Int)).length=n:=by rw[gO];lia
 obtain⟨Y',e,s,os,rfl,ho⟩:=gU (a:=gnm 3) (u:=aEq 2 (aN aR (aA (aD 0) (aA (op2 bN (cD (.int 100)) (aD 3)) (aA (op2 bN (aD 3) (cD (.int 1))) aG)))) (aa (aD 3))) (cu 0 (n:Int))
  (λ i Y=>∃s os,Y=[.sh (.int c),.sh (.int n),.ow (.lst (os.map .int)),s]/\aFc i os) [.sh (.int c),.sh (.int n),.ow (.lst []),.no] ⟨.no,[],rfl,rfl,by simp,λ x hx=>by simp at hx⟩ (by
   rintro i d Y hd ⟨s,os,rfl,ho⟩;obtain⟨rfl,h2⟩:=jk hd;obtain⟨r,er,r0,r1⟩:=zL (c:=c) (k:=100+(i:Int)) (b:=(i:Int)+1) (by lia) (by lia) (by lia) (by lia);have hz: -9223372036854775808<=r/\r<9223372036854775808/\os.length<16777216:=⟨by lia,by lia,by rw[ho.len];lia⟩;refine⟨[.sh (.int c),.sh (.int n),.ow (.lst ((dq os r (0+(i:Int))).map .int)),.sh (.int (0+(i:Int)))],?_,_,_,rfl,?_,?_,λ x hx=>?_⟩
   .rw[<-aDI]
    simp only[pF,mO,aEq];simp[er,hz]
   .rw[xM,ho.len]
   .refine(vL os r _).nodup_iff.mpr (zAl.mpr ⟨λ hm=>?_,ho.nd⟩)
    have:=ho.lo _ hm
    lia
   .rcases zAR.mp ((vL os r _).mem_iff.mp hx)with q|q
    .lia
    .have:=ho.lo x q
     lia)
 rw[hlen]at ho;refine⟨os,?_,ho⟩;simp[jD,fj,ak,hr,e]
def pl(p:Int×Int):List Int:=[p.1,p.2]
def hp(p:Int×Int):Int:=hsh (pl p)
theorem rJ:∀{l:List α},l.Nodup->(∀x∈l,∀y∈l,f x=f y->x=y)->(l.map f).Nodup
 |[],_,_=>by simp
 |a::l,h,hi=>by
  rw[zAl]at h;rw[zAT,zAl];refine⟨λ hm=>?_,rJ h.2 λ x hx y hy e=>hi x (zAM _ hx) y (zAM _ hy) e⟩;obtain⟨x,hx,e⟩:=zAd.mp hm
  have:=hi x (zAM _ hx) a zAN e
  subst this;exact h.1 hx
structure Ow(n:Int)(ps:List (Int×Int)):Prop where
 n0:0<=n
 n1:n<=60
 len:ps.length<=3600
 pr:∀p∈ps,0<=p.1/\p.1<n/\0<=p.2/\p.2<n/\p.1≠p.2
 ris:tL ps=true
def owD(n:Int)(ps:List (Int×Int)):D:=.tup [.int n,.tup (ps.map pD)]
def aFn(p:Int×Int):tupI (pl p)=pD p:=rfl
def aI6(h:pl p=pl q):p=q:=by
 unfold pl at h;injection h with h1 h2
 injection h2 with h2 _
 exact zD3 h1 h2
def wD(nd:ps.Nodup):∃qs:List (Int×Int),uT (ps.map pl)=qs.map pl/\qs.Perm ps/\tL qs=true:=by
 obtain⟨qs,q1,q2⟩:=lF (f:=pl) (oR (ps.map pl)) rfl;refine⟨qs,q2,q1,yZ.mpr λ i p q e1 e2=>?_⟩;have hr:=lZ (ps.map pl);rw[q2]at hr;have hnd:qs.Nodup:=q1.nodup_iff.mpr nd;have h1:=(zAL.mp e1).1;have h2:=(zAL.mp e2).1;have f1:(qs.map pl)[i]'(by simpa using h1)=pl p:=by
  rw[zCp,(zAL.mp e1).2]
 have f2:(qs.map pl)[i+1]'(by simpa using h2)=pl q:=by
  rw[zCp,(zAL.mp e2).2]
 have z:=zCZ.mp hr i (i+1) (by simpa using h1) (by simpa using h2) (by lia);rw[f1,f2]at z;have hne:p≠q:=λ e=>by
  subst e
  have:=(zB8 h1 hnd).mp (e1.trans e2.symm)
  lia
 show HT.lexLt (pl p) (pl q)=true;cases c:HT.lexLt (pl p) (pl q)with
 |true=>rfl
 |false=>exact absurd (aI6 (uz _ _ c z)) hne
def aCe(ps:List (Int×Int)):oN (ps.map pD)=some (ps.map pl):=by
 have:=uL (nss:=ps.map pl) λ ns h=>by
  obtain⟨p,_,rfl⟩:=zAd.mp h;simp[pl]
 rw[zBG]at this;exact this
def ar(os:List Int)(q:Nat×Nat):Int×Int:=(os.getD q.1 0,os.getD q.2 0)
def aE1{os:List Int}{k:Nat}(h:k<os.length):atD (os.map D.int) (k:Int)= .ok (.int (os.getD k 0)):=cP (by rw[zAK,zAB h];simp[h])
def aHU{n:Nat}(hn:n<=60){ip:List (Nat×Nat)}(nd:ip.Nodup)(h:∀q∈ip,q.1<n/\q.2<n):ip.length<=3600:=by
 have:=sub_len (l':=(zA3 60).flatMap λ a=>(zA3 60).map λ b=>(a,b)) nd λ q hq=>by
  rw[zCr]
  have:=h q hq
  exact⟨q.1,by simp;omega,zAd.mpr ⟨q.2,by simp;omega,rfl⟩⟩
 refine zA5 this ?_;rw[List.length_flatMap];simp only[zAD,zDT];decide
def Ow.rp{n:Int}{ps:List (Int×Int)}(h:Ow n ps):rpB n (.tup (ps.map pD))=true:=by
 have e:(ps.map pD).map aGV=ps:=by rw[zBG];exact(zDD λ p _=>rfl).trans (List.map_id ps)
 unfold rpB;dsimp only;rw[e,h.ris,zD0,zBJ];intro d hd;obtain⟨p,hp,rfl⟩:=zAd.mp hd;obtain⟨a,b,c,d,e⟩:=h.pr p hp;simp[pD,ig,a,b,c,d,e]
theorem aCK:∀ps:List (Int×Int),gQ (ps.map pD)=true
 |[]=>rfl
 |p::ps=>by simp only[zAT,gQ,aCK ps,zD0];rfl
def wU{n:Int}{ps:List (Int×Int)}(h:Ow n ps):iB [owD n ps]= .ok (.bl true):=by
 have e1:=aBl (d:=.int n) rfl;have e2:=n6 (m:=n) (d:=.tup (ps.map pD)) (by simpa[pln]using aCK ps) (by have:=h.len;simp[ql];lia);rw[h.rp]at e2;have e3:aCT (.int n)=true:=by simp[aCT,h.n0,h.n1]
 rw[e3]at e1;simp[iB,dX,owD,ak,e1,e2]
def rn{n:Int}{ps:List (Int×Int)}(h:Ow n ps):cT [owD n ps]= .ok .non:=by
 have:=wU h
 simp[cT,cF,ak,this]
theorem qR:∀ns:List Int,fM (ns.map .int)=0/\bL (ns.map .int)=true
 |[]=>⟨rfl,rfl⟩
 |n::ns=>by
  obtain⟨h1,h2⟩:=qR ns;simp[fM,m8,bL,au,h1,h2]
theorem rZ:∀ps:List (Int×Int),fM (ps.map pD)<=1/\bL (ps.map pD)=true
 |[]=>⟨by simp[fM],rfl⟩
 |p::ps=>by
  obtain⟨h1,h2⟩:=rZ ps;simp[fM,m8,bL,au,h2,pD,h1]
def aC0(neg:Bool)(y:Int)(ns:List Int):inR neg (.int y) (.lst (ns.map .int))= .ok (.bl (if neg then !decide (y∈ns)else decide (y∈ns))):=by
 obtain⟨h1,h2⟩:=qR ns;have e:inD (.int y) (ns.map .int)=decide (y∈ns):=by
  unfold inD;rw[zDA];simp[zD8,eqD]
 unfold inR;dsimp only;rw[h1,h2,e];rfl
def aEs(neg:Bool)(q:Int×Int)(ps:List (Int×Int)):inR neg (pD q) (.tup (ps.map pD))= .ok (.bl (if neg then !decide (q∈ps)else decide (q∈ps))):=by
 obtain⟨h1,h2⟩:=rZ ps;have e:inD (pD q) (ps.map pD)=decide (q∈ps):=by
  unfold inD;rw[zDA];simp only[zH0,zD8,Function.comp,decide_eq_true_eq];constructor
  .rintro⟨p,hp,h⟩
   simp[pD,eqD,nZ]at h
   have:p=q:=zD3 h.1 h.2
   exact this▸hp
  .intro h
   exact⟨q,h,by simp[pD,eqD,nZ]⟩
 unfold inR;dsimp only;have h3:decide (fM (ps.map pD)<=60)=true:=by simp;lia
 have h4:au (pD q)=true:=rfl;rw[h2,e,h3,h4];rfl
theorem yu{Y:En}{fg:D->En->Rs En}{fe:En->Rs D}{g:D->D}:∀(ds:List D),(∀d∈ds,∃Y1,fg d Y= .ok Y1/\fe Y1= .ok (g d))->lcL Y fg fU fe ds= .ok (ds.map g)
 |[],_=>rfl
 |d::ds,h=>by
  obtain⟨Y1,e1,e2⟩:=h d zAN;have ih:=yu ds λ e he=>h e (zAM _ he)
  unfold lcL;rw[e1,aK,aFj,aK,if_pos rfl,e2,aK,ih,aK];rfl
def yw{d:D}(h:knd d=true):jX [d]= .ok (.bl (uK d)):=by
 simp[jX,eV,ak,aCZ h,vH h];cases d<;>rfl
def qX{α:Type}(f:α->Bool)(l:List α):boolsOf (l.map λ x=>D.bl (f x))=some (l.map f):=by
 have:=tG (l.map f)
 rwa [zBG]at this
def aAt{α:Type}(f:α->Bool)(l:List α):n8 (λ bs=>bs.all id) [.lst (l.map λ x=>D.bl (f x))]= .ok (.bl (l.all f)):=by
 unfold n8;dsimp only;rw[qX];dsimp only;rw[zHZ];rfl
theorem lG{α:Type}{Y:En}{fg:D->En->Rs En}{ft:En->Rs Bool}{fe:En->Rs D}{f g:α->D}{t:α->Bool}:∀(l:List α),(∀x∈l,∃Y1,fg (f x) Y= .ok Y1/\ft Y1= .ok (t x)/\fe Y1= .ok (g x))->lcL Y fg ft fe (l.map f)= .ok ((l.filter t).map g)
 |[],_=>rfl
 |x::l,h=>by
  obtain⟨Y1,e1,e2,e3⟩:=h x zAN;have ih:=lG l λ y hy=>h y (zAM _ hy)
  rw[zAT];unfold lcL;rw[e1,aK,e2,aK,e3,aK,ih,aK,zCo];cases t x<;>rfl
def intOf:D->Int
 | .int i=>i
 |_=>0
def yz(z:α){ps:List α}(hlt:∀a b,ltD (f a) (f b)= .ok (.bl (lt a b)))(hl:ps.length<=100000):fP [.tup (ps.map f)]= .ok (.bl (lW lt ps)):=by
 have st:ak 1 [.tup (ps.map f)]=[.sh (.tup (ps.map f))]:=rfl;have hr:=aCJ (i:=1) (j:=(ps.length:Int)) (by decide) (by decide) (by lia) (by lia);have hc:lcD (dJ yX (aA (cD (.int 1)) (aA (opA gm (aA (aD 0) aG)) aG))) [none,some 0] (gnm 0) fU lrE [.sh (.tup (ps.map f))]= .ok (.lst ((cu 1 (ps.length:Int)).map λ k=>.bl (lt (ps.getD ((intOf k).toNat-1) z) (ps.getD (intOf k).toNat z)))):=by
  have hi:dJ yX (aA (cD (.int 1)) (aA (opA gm (aA (aD 0) aG)) aG)) (shE [.sh (.tup (ps.map f))])= .ok (cu 1 (ps.length:Int)):=by simp[shE,lV,hr]
  have hm:=yu (Y:=stE [none,some 0] (shE [.sh (.tup (ps.map f))])) (fg:=gnm 0) (fe:=lrE) (g:=λ k=>.bl (lt (ps.getD ((intOf k).toNat-1) z) (ps.getD (intOf k).toNat z))) (cu 1 (ps.length:Int)) λ d hd=>⟨_,rfl,by
   obtain⟨k,rfl,k0,k1⟩:=pX.mp hd;show lrE [.sh (.int k),.sh (.tup (ps.map f))]= .ok (.bl (lt (ps.getD (k.toNat-1) z) (ps.getD k.toNat z)));have l1:k.toNat-1<ps.length:=by lia
   have l2:k.toNat<ps.length:=by lia
   have e1:atD (ps.map f) (k-1)= .ok (f (ps.getD (k.toNat-1) z)):=by
    rw[show k-1=((k.toNat-1:Nat):Int)by lia];exact cP (by rw[zAK,zAB l1,zA0,zAB l1];rfl)
   have e2:atD (ps.map f) k= .ok (f (ps.getD k.toNat z)):=by
    have:=cP (l:=ps.map f) (k:=k.toNat) (d:=f (ps.getD k.toNat z)) (by rw[zAK,zAB l2,zA0,zAB l2];rfl)
    rwa [zBt (by lia)]at this
   unfold lrE;have v1:op2 ixD (aD 1) (op2 aBC (aD 0) (cD (.int 1))) [.sh (.int k),.sh (.tup (ps.map f))]= .ok (f (ps.getD (k.toNat-1) z)):=by
    rw[cz,yF];show okD (atD (ps.map f) (k-1))=_;rw[e1];rfl
   have v2:op2 ixD (aD 1) (aD 0) [.sh (.int k),.sh (.tup (ps.map f))]= .ok (f (ps.getD k.toNat z)):=by
    rw[cz,yF,yF];show okD (atD (ps.map f) k)=_;rw[e2];rfl
   rw[cz,v1,aK,v2,aK,hlt,gk]⟩
  unfold lcD;rw[hi,aK,if_pos (by rw[gO,szl];lia),hm]
 have ha:opA (n8 λ bs=>bs.all id) (aA (lcD (dJ yX (aA (cD (.int 1)) (aA (opA gm (aA (aD 0) aG)) aG))) [none,some 0] (gnm 0) fU lrE) aG) [.sh (.tup (ps.map f))]= .ok (.bl (lW lt ps)):=by
  rw[fZ,bC,hc,aK,dO,aK,aK,aAt,gk];refine congrArg (λ b=>Rs.ok (D.bl b)) ?_;rw[zDA,mJ,zBJ];constructor
  .intro h i p q e1 e2
   have k2:=(zAL.mp e2).1
   have:=h (.int ((i+1:Nat):Int)) (pX.mpr ⟨_,rfl,by lia,by lia⟩)
   have z1:lt (ps.getD (((i+1:Nat):Int).toNat-1) z) (ps.getD ((i+1:Nat):Int).toNat z)=true:=this;rw[zCP,Nat.add_sub_cancel,zA0,zA0,e1,e2]at z1;exact z1
  .intro h d hd
   obtain⟨k,rfl,k0,k1⟩:=pX.mp hd;have l1:k.toNat-1<ps.length:=by lia
   have l2:k.toNat-1+1<ps.length:=by lia
   show lt (ps.getD (k.toNat-1) z) (ps.getD k.toNat z)=true;have l3:k.toNat<ps.length:=by lia
   have:=h (k.toNat-1) ps[k.toNat-1] ps[k.toNat] (zAB l1) (by rw[show k.toNat-1+1=k.toNat by lia];exact zAB l3)
   rw[zA0,zA0,zAB l1,zAB l3];exact this
 simp only[fP,dU,bI,st];rw[jM,ha,bx]
def yx(hl:ps.length<=100000):fP [.tup (ps.map .int)]= .ok (.bl (lW ltI ps)):=yz 0 (λ a b=>by rw[aCV];rfl) hl
def lH(h1:fi (shE Y)= .ok ds)(h2:ds.length<16777216)(h3:lcL (stE js (shE Y)) fg ft fe ds= .ok out):lcD fi js fg ft fe Y= .ok (.lst out):=by
 unfold lcD;rw[h1,aK,if_pos (by rw[szl];exact h2),h3]
def rP{α:Type}{f g:α->D}(l:List α)(h:∀x∈l,∃Y1,fg (f x) Y= .ok Y1/\fe Y1= .ok (g x)):lcL Y fg fU fe (l.map f)= .ok (l.map g):=by
 have:=lG (Y:=Y) (fg:=fg) (ft:=fU) (fe:=fe) (f:=f) (g:=g) (t:=λ _=>true) l λ x hx=>by
  obtain⟨Y1,h1,h2⟩:=h x hx;exact⟨Y1,h1,rfl,h2⟩
 rwa [List.filter_eq_self.mpr λ _ _=>rfl]at this
def aJi{α:Type}{f:α->Bool}{l:List α}(h:fe Y= .ok (.lst (l.map λ x=>.bl (f x)))):opA (n8 λ bs=>bs.all id) (aA fe aG) Y= .ok (.bl (l.all f)):=by
 rw[fZ,bC,h,aK,dO,aK,aK,aAt,gk]
def mX(neg:Bool)(y:Int)(ns:List Int):inR neg (.int y) (.tup (ns.map .int))= .ok (.bl (if neg then !decide (y∈ns)else decide (y∈ns))):=aC0 neg y ns
def uR(nd:ps.Nodup)(h:ps.length<64):∃qs:List (Int×Int),iU [.lst (ps.map pD)]= .ok (.lst (qs.map pD))/\qs.Perm ps/\tL qs=true:=by
 obtain⟨qs,q1,q2,q3⟩:=wD nd;refine⟨qs,?_,q2,q3⟩;unfold iU;dsimp only;rw[aCe];dsimp only;rw[if_pos (by rw[zAD];exact h),q1,zBG];exact congrArg (λ l=>Rs.ok (D.lst l)) (zDD λ p _=>aFn p)
abbrev orE(c most:Int)(n kd:Nat)(t:Int)(os:List Int)(ip:List (Nat×Nat))(sp:Int)(s8 s9:Slot):En:=
 [.sh (.int c),.sh (.int most),.sh (.int n),.sh (.int kd),.nw (.int t),.sh (.lst (os.map .int)),.ow (.lst ((ip.map (ar os)).map pD)),.sh (.int sp),s8,s9]
structure Jps(n j i:Nat)(ip:List (Nat×Nat)):Prop where
 nd:ip.Nodup
 ok:∀q∈ip,q.1<q.2/\q.2<n/\(q.2<j\/(q.2=j/\q.1<i))
def aE2{os:List Int}(hn:n<=60)(hj:j<n)(ho:aFc n os){sp:Int}(h0:0<=sp)(h1:sp<=2+60*j)(hip:Jps n j 0 ip):
  ∃ip' sp' s9',forL (gnm 9) aE4 (cu 0 (j:Int)) (orE c most n kd t os ip sp (.sh (.int j)) s9)= .nx (orE c most n kd t os ip' sp' (.sh (.int j)) s9')/\0<=sp'/\sp'<=2+60*(j+1)/\Jps n (j+1) 0 ip':=by
 have hlen:(cu 0 (j:Int)).length=j:=by rw[gO];lia
 obtain⟨Y',e,ip',sp',s9',rfl,q0,q1,q2⟩:=gU (a:=gnm 9) (u:=aE4) (cu 0 (j:Int))
  (λ i Y=>∃ip sp s9,Y=orE c most n kd t os ip sp (.sh (.int j)) s9/\0<=sp/\sp<=2+60*j+i/\Jps n j i ip) (orE c most n kd t os ip sp (.sh (.int j)) s9) ⟨ip,sp,s9,rfl,h0,by lia,hip⟩ (by
   rintro i d Y hd ⟨ip,sp,s9,rfl,p0,p1,p2⟩;obtain⟨rfl,hlt⟩:=jk hd;have hij:i<j:=by lia
   obtain⟨h,eh,hh0,hh1⟩:=zL (c:=c) (k:=sp+1) (b:=8) (by lia) (by lia) (by decide) (by decide);have hzl:=aHU hn p2.nd λ q hq=>⟨by have:=p2.ok q hq;lia,(p2.ok q hq).2.1⟩
   have hi':i<os.length:=by rw[ho.len];lia
   have hj':j<os.length:=by rw[ho.len];lia
   have st1:∃ip1,orB (orE c most n kd t os ip (sp+1) (.sh (.int j)) (.sh (.int i)))= .nx (orE c most n kd t os ip1 (sp+1) (.sh (.int j)) (.sh (.int i)))/\(ip1=ip\/ip1=ip++[(i,j)]):=by
    obtain⟨b,hc⟩:∃b,(orT (tsb (op2 ltD (aN aR (aA (aD 0) (aA (aD 7) (aA (cD (.int 8)) aG)))) (jg 4))) (aAr (tsb (op2 (eqR false) (aD 3) (cD (.int 5)))) (tsb (op2 (inR false) (aD 8) (bY (aA (op2 bN (op2 gR (cD (.int 2)) (aD 9)) (cD (.int 1))) (aA (op2 bN (op2 gR (cD (.int 2)) (aD 9)) (cD (.int 2))) aG))))))) (orE c most n kd t os ip (sp+1) (.sh (.int j)) (.sh (.int i)))= .ok b:=by
     have eA:tsb (op2 ltD (aN aR (aA (aD 0) (aA (aD 7) (aA (cD (.int 8)) aG)))) (jg 4)) (orE c most n kd t os ip (sp+1) (.sh (.int j)) (.sh (.int i)))= .ok (decide (h<t)):=by
      have e0:aA (aD 0) (aA (aD 7) (aA (cD (.int 8)) aG)) (orE c most n kd t os ip (sp+1) (.sh (.int j)) (.sh (.int i)))= .ok [.int c,.int (sp+1),.int 8]:=rfl;rw[uM,cz,aF3,e0,aK,eh];rfl
     have eB:tsb (op2 (eqR false) (aD 3) (cD (.int 5))) (orE c most n kd t os ip (sp+1) (.sh (.int j)) (.sh (.int i)))= .ok ((kd:Int)==5):=rfl;have eC:tsb (op2 (inR false) (aD 8) (bY (aA (op2 bN (op2 gR (cD (.int 2)) (aD 9)) (cD (.int 1))) (aA (op2 bN (op2 gR (cD (.int 2)) (aD 9)) (cD (.int 2))) aG)))) (orE c most n kd t os ip (sp+1) (.sh (.int j)) (.sh (.int i)))= .ok (decide ((j:Int)∈[2*(i:Int)+1,2*(i:Int)+2])):=by
      have hm:gR (.int 2) (.int i)= .ok (.int (2*(i:Int))):=yo (by decide) (by decide);have hi:=mX false (j:Int) [2*(i:Int)+1,2*(i:Int)+2];simp only[zAT,zEU]at hi;have ht:bY (aA (op2 bN (op2 gR (cD (.int 2)) (aD 9)) (cD (.int 1))) (aA (op2 bN (op2 gR (cD (.int 2)) (aD 9)) (cD (.int 2))) aG)) (orE c most n kd t os ip (sp+1) (.sh (.int j)) (.sh (.int i)))= .ok (.tup [.int (2*(i:Int)+1),.int (2*(i:Int)+2)]):=by simp[hm]
      rw[uM,cz,ht]
      show(((Rs.ok (D.int j)).bd λ x=>(Rs.ok (D.tup [.int (2*(i:Int)+1),.int (2*(i:Int)+2)])).bd λ y=>okD (inR false x y)).bd blD)=_
      rw[aK,aK,hi];rfl
     rw[aE3,eA,zX,eB,eC];cases decide (h<t)<;>cases (kd:Int)==5<;>exact⟨_,rfl⟩
    cases b with
    |true=>
     refine⟨_,?_,.inr rfl⟩;simp only[orB,zJ,hc,bx,if_pos];have hz:ip.length<16777216:=by lia
     simp[vp,aE1 hi',aE1 hj',hz,ar,pD]
    |false=>
     refine⟨_,?_,.inl rfl⟩;simp only[orB,zJ,hc,bx];rfl
   obtain⟨ip1,e1,c1⟩:=st1;refine⟨_,?_,ip1,sp+1,.sh (.int i),rfl,by lia,by lia,?_⟩
   .have s7:cG 7 (op2 bN (aD 7) (cD (.int 1))) (orE c most n kd t os ip sp (.sh (.int j)) (.sh (.int i)))= .nx (orE c most n kd t os ip (sp+1) (.sh (.int j)) (.sh (.int i))):=by first|rfl|simp
    rw[Int.zero_add];show aE4 (orE c most n kd t os ip sp (.sh (.int j)) (.sh (.int i)))=_;unfold aE4;rw[aQ,s7,az,e1]
   .have hold:∀q∈ip,q.1<q.2/\q.2<n/\(q.2<j\/(q.2=j/\q.1<i+1)):=λ q hq=>by have:=p2.ok q hq;lia
    have n1:(i,j)∉ip:=λ hm=>by have:=p2.ok _ hm;simp only at this;lia
    rcases c1 with rfl|rfl
    .exact⟨p2.nd,hold⟩
    .refine⟨zB0.mpr ⟨p2.nd,by simp,λ x hx y hy z=>?_⟩,λ q hq=>?_⟩
     .rw[zAt]at hy;subst hy;subst z;exact n1 hx
     .rcases zAe.mp hq with z|z
      .exact hold q z
      .rw[zAt.mp z];exact⟨hij,hj,.inr ⟨rfl,zBz i⟩⟩)
 rw[hlen]at q1 q2;refine⟨ip',sp',s9',e,q0,by lia,q2.nd,λ q hq=>?_⟩
 have:=q2.ok q hq
 lia
def Up(n:Nat)(ps:List (Int×Int)):Prop:=∃os:List Int,aFc n os/\∀p∈ps,∃q:Nat×Nat,q.1<q.2/\q.2<n/\p=ar os q
def aIE{kd:Nat}(h:kd<6):∃t:Int,atD ([1,2,3,5,8,0].map D.int) (kd:Int)= .ok (.int t):=⟨_,aE1 (os:=[1,2,3,5,8,0]) (k:=kd) (by simpa using h)⟩
def vG{most:Nat}(h1:most<=9):∃(n:Nat) (ps:List (Int×Int)),cZ [.int c,.int most]= .ok (owD n ps)/\Ow n ps/\n<=most/\ps.length<64/\Up n ps:=by
 obtain⟨n,en,hn⟩:=fL (c:=c) (k:=0) (b:=(most:Int)+1) (by decide) (by decide) (by lia) (by lia);obtain⟨kd,ek,hk⟩:=fL (c:=c) (k:=1) (b:=6) (by decide) (by decide) (by decide) (by decide);have hn8:n<=9:=by lia
 obtain⟨t,et⟩:=aIE (kd:=kd) (by lia);obtain⟨os,eo,ho⟩:=aA8 (c:=c) (n:=n) (by lia);have hr1:=dw (j:=(n:Int)) (by lia) (by lia);have hlen:(cu 0 (n:Int)).length=n:=by rw[gO];lia
 obtain⟨Y',e,ip,sp,s8,s9,rfl,_,_,hip⟩:=gU (a:=gnm 8) (u:=aCO) (cu 0 (n:Int))
  (λ j Y=>∃ip sp s8 s9,Y=orE c most n kd t os ip sp s8 s9/\0<=sp/\sp<=2+60*j/\Jps n j 0 ip) (orE c most n kd t os [] 2 .no .no) ⟨[],2,.no,.no,rfl,by lia,by lia,by simp,λ q hq=>by simp at hq⟩ (by
   rintro j d Y hd ⟨ip,sp,s8,s9,rfl,p0,p1,p2⟩;obtain⟨rfl,hlt⟩:=jk hd;have hr2:=dw (j:=(j:Int)) (by lia) (by lia);obtain⟨ip',sp',s9',e,q0,q1,q2⟩:=aE2 (c:=c) (most:=most) (t:=t) (n:=n) (kd:=kd) (j:=j) (os:=os) (by lia) (by lia) ho (s9:=s9) p0 p1 p2;refine⟨_,?_,ip',sp',.sh (.int j),s9',rfl,q0,by lia,q2⟩;rw[Int.zero_add,pF,mO,show(orE c most n kd t os ip sp s8 s9).set 8 (.sh (.int j))=orE c most n kd t os ip sp (.sh (.int j)) s9 from rfl];unfold aCO;have hi:(dJ fY (aA (aD 8) aG)) (orE c most n kd t os ip sp (.sh (.int j)) s9)= .ok (cu 0 (j:Int)):=by simp[hr2]
   rw[gw,hi,bx,e])
 rw[hlen]at hip;have gi:∀k l,k<n->l<n->os.getD k 0=os.getD l 0->k=l:=λ k l hk hl z=>by
  have k1:k<os.length:=by rw[ho.len];exact hk
  have k2:l<os.length:=by rw[ho.len];exact hl
  have:os[k]? =os[l]?:=by
   rw[zAB k1,zAB k2];simpa[k1,k2]using z
  exact(zB8 k1 ho.nd).mp this
 have hin:∀p∈ip.map (ar os),0<=p.1/\p.1<n/\0<=p.2/\p.2<n/\p.1≠p.2:=λ p hp=>by
  obtain⟨q,hq,rfl⟩:=zAd.mp hp;obtain⟨a1,a2,_⟩:=hip.ok q hq;have g:∀k,k<n->os.getD k 0∈os:=λ k hk=>by
   have:k<os.length:=by rw[ho.len];exact hk
   simp[this]
  have l1:=ho.lo _ (g q.1 (by lia));have l2:=ho.lo _ (g q.2 a2);refine⟨l1.1,l1.2,l2.1,l2.2,λ z=>?_⟩
  have:=gi _ _ (by lia) a2 z
  lia
 have hnd:(ip.map (ar os)).Nodup:=rJ hip.nd λ x hx y hy e=>by
  have x1:=hip.ok x hx;have y1:=hip.ok y hy;have e1:os.getD x.1 0=os.getD y.1 0:=congrArg zE8 e;have e2:os.getD x.2 0=os.getD y.2 0:=congrArg zFW e;exact zD3 (gi _ _ (by lia) (by lia) e1) (gi _ _ (by lia) (by lia) e2)
 have hl:ip.length<64:=by
  have:=sub_len (l':=(zA3 9).flatMap λ b=>(zA3 b).map λ a=>(a,b)) hip.nd λ q hq=>by
   rw[zCr]
   have:=hip.ok q hq
   exact⟨q.2,by simp;lia,zAd.mpr ⟨q.1,by simp;lia,rfl⟩⟩
  have h36:((zA3 9).flatMap λ b=>(zA3 b).map λ a=>(a,b)).length=36:=by decide
  lia
 obtain⟨qs,s1,s2,s3⟩:=uR hnd (by rw[zAD];exact hl);have hl2:qs.length<64:=by rw[s2.length_eq,zAD];exact hl
 refine⟨n,qs,?_,⟨by lia,by lia,by lia,λ p hp=>hin p (s2.mem_iff.mp hp),s3⟩,by lia,hl2,os,ho,λ p hp=>?_⟩
 .have st:ak 10 [.int c,.int most]=[.sh (.int c),.sh (.int most),.no,.no,.no,.no,.no,.no,.no,.no]:=rfl
  have et':atD [D.int 1,D.int 2,D.int 3,D.int 5,D.int 8,D.int 0] (kd:Int)= .ok (.int t):=et;have a1:cG 2 (aN aR (aA (aD 0) (aA (cD (.int 0)) (aA (op2 bN (aD 1) (cD (.int 1))) aG)))) [.sh (.int c),.sh (.int most),.no,.no,.no,.no,.no,.no,.no,.no]= .nx [.sh (.int c),.sh (.int most),.sh (.int n),.no,.no,.no,.no,.no,.no,.no]:=by simp[en]
  have a2:cG 3 (aN aR (aA (aD 0) (aA (cD (.int 1)) (aA (cD (.int 6)) aG)))) [.sh (.int c),.sh (.int most),.sh (.int n),.no,.no,.no,.no,.no,.no,.no]= .nx [.sh (.int c),.sh (.int most),.sh (.int n),.sh (.int kd),.no,.no,.no,.no,.no,.no]:=by simp[ek]
  have a3:qm 4 (op2 ixD (dR (aA (cD (.int 1)) (aA (cD (.int 2)) (aA (cD (.int 3)) (aA (cD (.int 5)) (aA (cD (.int 8)) (aA (cD (.int 0)) aG))))))) (aD 3)) [.sh (.int c),.sh (.int most),.sh (.int n),.sh (.int kd),.no,.no,.no,.no,.no,.no]= .nx [.sh (.int c),.sh (.int most),.sh (.int n),.sh (.int kd),.nw (.int t),.no,.no,.no,.no,.no]:=by simp[et']
  have a4:cG 5 (aN jD (aA (aD 0) (aA (aD 2) aG))) [.sh (.int c),.sh (.int most),.sh (.int n),.sh (.int kd),.nw (.int t),.no,.no,.no,.no,.no]= .nx [.sh (.int c),.sh (.int most),.sh (.int n),.sh (.int kd),.nw (.int t),.sh (.lst (os.map .int)),.no,.no,.no,.no]:=by simp[eo]
  have a5:lu 6 (dR aG) [.sh (.int c),.sh (.int most),.sh (.int n),.sh (.int kd),.nw (.int t),.sh (.lst (os.map .int)),.no,.no,.no,.no]= .nx [.sh (.int c),.sh (.int most),.sh (.int n),.sh (.int kd),.nw (.int t),.sh (.lst (os.map .int)),.ow (.lst []),.no,.no,.no]:=by first|rfl|simp
  have a6:cG 7 (cD (.int 2)) [.sh (.int c),.sh (.int most),.sh (.int n),.sh (.int kd),.nw (.int t),.sh (.lst (os.map .int)),.ow (.lst []),.no,.no,.no]= .nx (orE c most n kd t os [] 2 .no .no):=by first|rfl|simp
  have a7:iy (dJ fY (aA (aD 2) aG)) (gnm 8) aCO (orE c most n kd t os [] 2 .no .no)= .nx (orE c most n kd t os ip sp s8 s9):=by
   have hi:(dJ fY (aA (aD 2) aG)) (orE c most n kd t os [] 2 .no .no)= .ok (cu 0 (n:Int)):=by simp[hr1]
   rw[gw,hi,bx];exact e
  have a8:opA iU (aA (fB 6) aG) (orE c most n kd t os ip sp s8 s9)= .ok (.lst (qs.map pD)):=by
   have hv:(aA (fB 6) aG) (orE c most n kd t os ip sp s8 s9)= .ok [.lst ((ip.map (ar os)).map pD)]:=by first|rfl|simp
   rw[fZ,hv,aK,s1,gk]
  have a9:retS (bY (aA (aa (aD 2)) (aA (opA cO (aA (opA iU (aA (fB 6) aG)) aG)) aG))) (orE c most n kd t os ip sp s8 s9)= .rt (owD n qs):=by
   have ha:aA (opA iU (aA (fB 6) aG)) aG (orE c most n kd t os ip sp s8 s9)= .ok [.lst (qs.map pD)]:=by rw[bC,a8,aK,dO,aK]
   have hb:opA cO (aA (opA iU (aA (fB 6) aG)) aG) (orE c most n kd t os ip sp s8 s9)= .ok (.tup (qs.map pD)):=by rw[fZ,ha,aK,kh,gk]
   have hc:aa (aD 2) (orE c most n kd t os ip sp s8 s9)= .ok (.int n):=by first|rfl|simp
   rw[jM,yG,bC,hc,aK,bC,hb,aK,dO,aK,aK,aK,if_pos (by simp),bx];rfl
  simp only[cZ,bI,st,cW];rw[aQ,a1,az,aQ,a2,az,aQ,a3,az,aQ,a4,az,aQ,a5,az,aQ,a6,az,aQ,a7,az,a9]
 .obtain⟨q,hq,rfl⟩:=zAd.mp (s2.mem_iff.mp hp)
  obtain⟨a1,a2,_⟩:=hip.ok q hq;exact⟨q,a1,a2,rfl⟩
def bW(ll:List (List D))(p:Int×Int):List (List D):=ll.set p.1.toNat (ll.getD p.1.toNat []++[.int p.2])
theorem aA3{w:Slot}:∀(ps:List (Int×Int)) (ll:List (List D)) (s2 s3:Slot),(∀p∈ps,0<=p.1/\p.1<ll.length)->(∀l∈ll,l.length+ps.length<=10000)->
  ∃s2' s3',forL (gq 2 (bJ (gnm 2) (bJ (gnm 3) iw))) (eZ 1 (aD 2) (aa (aD 3))) (ps.map pD) [w,.o2 ll,s2,s3]= .nx [w,.o2 (ps.foldl bW ll),s2',s3']
 |[],ll,s2,s3,_,_=>⟨s2,s3,rfl⟩
 |p::ps,ll,s2,s3,h,hl=>by
  obtain⟨h0,h1⟩:=h p zAN;have hk:p.1.toNat<ll.length:=by lia
  have hin:ll.getD p.1.toNat []∈ll:=by simp[hk]
  have hz:=hl _ hin;obtain⟨s2',s3',e⟩:=aA3 (w:=w) ps (bW ll p) (.sh (.int p.1)) (.sh (.int p.2)) (λ q hq=>by unfold bW;rw[zAw];exact h q (zAM _ hq)) (λ l hm=>by
   unfold bW at hm;rcases zDL hm with z|z
   .have:=hl l z
    simp at this;lia
   .subst z
    simp at hz ⊢;lia)
  refine⟨s2',s3',?_⟩;rw[zAT,iI,zCG];have ha:at2 ll (.int p.1)=some (p.1.toNat,ll.getD p.1.toNat []):=by
   have hx:ixN ll.length p.1=some p.1.toNat:=by
    unfold ixN;rw[if_pos (by lia),if_pos (by lia)]
   simp only[at2,hx,zCU];rw[zAB hk];simp[hk]
  have hb:okE (gq 2 (bJ (gnm 2) (bJ (gnm 3) iw)) (pD p) [w,.o2 ll,s2,s3]) (λ Y1=>(eZ 1 (aD 2) (aa (aD 3)) Y1).tn (forL (gq 2 (bJ (gnm 2) (bJ (gnm 3) iw))) (eZ 1 (aD 2) (aa (aD 3))) (ps.map pD)))=
    (eZ 1 (aD 2) (aa (aD 3)) [w,.o2 ll,.sh (.int p.1),.sh (.int p.2)]).tn (forL (gq 2 (bJ (gnm 2) (bJ (gnm 3) iw))) (eZ 1 (aD 2) (aa (aD 3))) (ps.map pD)):=by
   simp[pD]
  have hc:eZ 1 (aD 2) (aa (aD 3)) [w,.o2 ll,.sh (.int p.1),.sh (.int p.2)]= .nx [w,.o2 (bW ll p),.sh (.int p.1),.sh (.int p.2)]:=by
   have hz2:(ll.getD p.1.toNat []).length<16777216:=by simp at hz ⊢;lia
   unfold eZ;simp only[zAj,zAy];simp[ha];rw[if_pos (by simpa using hz2)];simp[bW]
  rw[hb,hc,aD7];exact e
theorem jw:∀(ps:List (Int×Int)) (ll:List (List D)),(ps.foldl bW ll).length=ll.length
 |[],_=>rfl
 |p::ps,ll=>by rw[zCG,jw ps];unfold bW;rw[zAw]
def cB(ps:List (Int×Int))(i:Int):List Int:=(ps.filter λ p=>p.1==i).map (·.2)
theorem rR:∀(ps:List (Int×Int)) (ll:List (List D)) (i:Nat),(∀p∈ps,0<=p.1/\p.1<ll.length)->i<ll.length->(ps.foldl bW ll).getD i []=ll.getD i []++(cB ps i).map .int
 |[],ll,i,_,_=>by simp[cB]
 |p::ps,ll,i,h,hi=>by
  obtain⟨h0,h1⟩:=h p zAN;rw[zCG,rR ps (bW ll p) i (λ q hq=>by unfold bW;rw[zAw];exact h q (zAM _ hq)) (by unfold bW;rw[zAw];exact hi)];unfold bW cB;by_cases c:p.1=i
  .have hk:p.1.toNat=i:=by lia
   rw[hk,List.filter_cons_of_pos (by simpa using c)];simp[hi]
  .have hk:p.1.toNat≠i:=by lia
   rw[List.filter_cons_of_neg (by simpa using c)];simp[zBC hk]
structure aH0(n:Int)(ps:List (Int×Int))(ll:List (List D)):Prop where
 len:ll.length=n.toNat
 item:∀i:Int,0<=i->i<n->atD (ll.map .lst) i= .ok (.lst ((cB ps i).map .int))
def vy{n:Int}{ps:List (Int×Int)}(h:Ow n ps):∃ll,gF [owD n ps]= .ok (.lst (ll.map .lst))/\aH0 n ps ll:=by
 have hr:=dw (j:=n) (by have:=h.n0;lia) (by have:=h.n1;lia);have hlen:(cu 0 n).length=n.toNat:=by rw[gO];lia
 have hn1:=h.n1;have hps:=h.len;have hin:∀p∈ps,0<=p.1/\p.1<(zAI n.toNat ([]:List D)).length:=λ p hp=>by
  obtain⟨a,b,_⟩:=h.pr p hp;rw[zBF];lia
 obtain⟨s2,s3,e⟩:=aA3 (w:=.sh (owD n ps)) ps (zAI n.toNat []) .no .no hin (λ l hl=>by
  rw[(zEI.mp hl).2];simp;lia)
 refine⟨ps.foldl bW (zAI n.toNat []),?_,by rw[jw,zBF],λ i h0 h1=>?_⟩
 .have hz:n.toNat<16777216:=by lia
  have a1:llS 1 (dJ fY (aA (op2 ixD (aD 0) (cD (.int 0))) aG)) [none] (gnm 0) [.sh (owD n ps),.no,.no,.no]= .nx [.sh (owD n ps),.o2 (zAI n.toNat []),.no,.no]:=by
   unfold llS;simp[shE,lV,owD,hr,hlen,hz]
  have a2:iy (dj (op2 ixD (aD 0) (cD (.int 1)))) (gq 2 (bJ (gnm 2) (bJ (gnm 3) iw))) (eZ 1 (aD 2) (aa (aD 3))) [.sh (owD n ps),.o2 (zAI n.toNat []),.no,.no]= .nx [.sh (owD n ps),.o2 (ps.foldl bW (zAI n.toNat [])),s2,s3]:=by
   have hi:dj (op2 ixD (aD 0) (cD (.int 1))) [.sh (owD n ps),.o2 (zAI n.toNat []),.no,.no]= .ok (ps.map pD):=by simp[owD]
   rw[gw,hi,bx];exact e
  have a3:retS (qe 1) [.sh (owD n ps),.o2 (ps.foldl bW (zAI n.toNat [])),s2,s3]= .rt (.lst ((ps.foldl bW (zAI n.toNat [])).map .lst)):=by simp
  have st:ak 4 [owD n ps]=[.sh (owD n ps),.no,.no,.no]:=rfl;simp only[gF,iR,bI,st];rw[aQ,a1,az,aQ,a2,az,a3]
 .have hk:i.toNat<(zAI n.toNat ([]:List D)).length:=by rw[zBF];lia
  have hg:=rR ps (zAI n.toNat []) i.toNat hin hk;have hk2:i.toNat<(ps.foldl bW (zAI n.toNat [])).length:=by rw[jw];exact hk
  have hi:((i.toNat:Nat):Int)=i:=zBt h0;rw[hi]at hg;rw[<-hi];refine cP ?_;rw[hi,zAK,zAB hk2]
  have:(ps.foldl bW (zAI n.toNat []))[i.toNat]=(cB ps i).map .int:=by
   have e1:(ps.foldl bW (zAI n.toNat [])).getD i.toNat []=(ps.foldl bW (zAI n.toNat []))[i.toNat]:=by simp[hk2]
   rw[<-e1,hg];have e2:(zAI n.toNat ([]:List D)).getD i.toNat []=[]:=by
    rw[zA0,zBp];split<;>rfl
   rw[e2,zC7]
  rw[this];rfl
def gn{ps:List (Int×Int)}{a b:Int}:b∈cB ps a↔(a,b)∈ps:=by
 unfold cB;simp only[zAd,zB5];constructor
 .rintro⟨p,⟨h1,h2⟩,rfl⟩
  have:p.1=a:=by simpa using h2
  rw[<-this];exact h1
 .intro h
  exact⟨(a,b),⟨h,by simp⟩,rfl⟩
theorem jO{n:Int}:∀{ts:List D},ts.all (bj n)=true->(ts.map intOf).map D.int=ts/\∀x∈ts.map intOf,0<=x/\x<n
 |[],_=>⟨rfl,λ x hx=>by simp at hx⟩
 |t::ts,h=>by
  rw[zFU,zAQ]at h;obtain⟨i,rfl,h0,h1⟩:=rF h.1;obtain⟨e,q⟩:=jO h.2;refine⟨by simp only[zAT];rw[e];rfl,λ x hx=>?_⟩;rw[zAT]at hx;rcases zAR.mp hx with z|z
  .subst z;exact⟨h0,h1⟩
  .exact q x z
theorem jm:∀ws:List Int,gQ (ws.map .int)=true
 |[]=>rfl
 |_::ws=>by simp only[zAT,gQ,jm ws,pln];rfl
theorem ju:∀ws:List Int,pq (ws.map .int)=true
 |[]=>rfl
 |_::ws=>by simp only[zAT,pq,ju ws,imm];rfl
def aAl(l:List D)(a b:Option Int):(cutD l a b).length<=l.length:=by
 unfold cutD;rw[zB7,zD9];lia
def vh(h:d∈cutD l a b):d∈l:=by
 unfold cutD at h;exact List.mem_of_mem_drop (zFo h)
def aEM(h:gQ l=true):gQ (cutD l a b)=true:=uA λ d hd=>gP h (vh hd)
def uf(h:gQ l=true)(h2:gQ m=true):gQ (l++m)=true:=uA λ d hd=>by
 rcases zAe.mp hd with z|z
 .exact gP h z
 .exact gP h2 z
theorem vM:∀{l:List D} {d:D},pq l=true->d∈l->imm d=true
 |x::r,d,h,hm=>by
  simp only[pq,zAQ]at h;rcases zAR.mp hm with rfl|hm
  .exact h.1
  .exact vM h.2 hm
theorem uF:∀{l:List D},(∀d∈l,imm d=true)->pq l=true
 |[],_=>rfl
 |x::r,h=>by
  simp only[pq,zAQ];exact⟨h x (zAN ..),uF λ d hd=>h d (zAM _ hd)⟩
def aF5{P:D->Prop}(h0:0<=i)(h1:i<l.length)(h:∀d∈l,P d):∃d,(match (okD (atD l i)).bo Ou.rt with
  |Ou.nx Y=>Rs.ok D.non
  |Ou.rt d=>Rs.ok d
  |Ou.ex c=>Rs.ex c
  |x=>Rs.st)=Rs.ok d/\P d:=by
 obtain⟨d,e,hm,_⟩:=aBr h0 h1;exact⟨d,by rw[e];rfl,h d hm⟩
def aJQ:D->Nat
 | .tup l=>l.length
 |_=>0
def sz:D->Nat
 | .tup l=>l.length+(l.map aJQ).sum
 |_=>0
def aGK(k:Nat)(d:D):Prop:=pln d=true/\aJQ d<=k
def mG(h:gQ l=true)(h2:l.length<=k):aGK k (.tup l):=⟨by simpa[pln]using h,h2⟩
def tQ{ws:List Int}(p0:0<=p)(p1:p<1000)(hl:ws.length<=1000):∃d,cA [.int c,.int p,.tup (ws.map .int),.int m]= .ok d/\aGK (2*ws.length+1) d:=by
 obtain⟨r0,e0,b0⟩:=fL (c:=c) (k:=p) (b:=(ws.length:Int)+1) (by lia) (by lia) (by lia) (by lia);obtain⟨r1,e1,b1⟩:=fL (c:=c) (k:=p+1) (b:=9) (by lia) (by lia) (by lia) (by lia);obtain⟨r2,e2,b2⟩:=fL (c:=c) (k:=p+2) (b:=10) (by lia) (by lia) (by lia) (by lia);obtain⟨d4,e4,m4,_⟩:=aBr (l:=[.int 0,.int m,.int (-1),.bl true,.non,.str "0",.lst [.int 0],.int (m-1),.int 1]) (i:=(r1:Int)) (by lia) (by simpa using b1);have st:ak 7 [.int c,.int p,.tup (ws.map .int),.int m]=[.sh (.int c),.sh (.int p),.sh (.tup (ws.map .int)),.sh (.int m),.no,.no,.no]:=rfl;have gt:qH (.tup (ws.map .int))= .ok (.tup (ws.map .int)):=nH (by simp only[imm];exact ju ws);have gc:∀a b,qH (.tup (cutD (ws.map .int) a b))= .ok (.tup (cutD (ws.map .int) a b)):=λ a b=>nH (by simp only[imm];exact uF λ d hd=>vM (ju ws) (vh hd))
 have gr:qH (.tup (ws.map D.int).reverse)= .ok (.tup (ws.map D.int).reverse):=nH (by simp only[imm];exact uF λ d hd=>vM (ju ws) (zBf.mp hd));have cl:∀a b,(cutD (ws.map .int) a b).length<=ws.length:=λ a b=>zA5 (aAl _ _ _) (by rw[zAD];exact zAO _)
 have z2:∀a b,(cutD (ws.map .int) a b).length+1<=16777216:=λ a b=>by have:=cl a b;lia
 have z3:∀a b a' b',(cutD (ws.map .int) a b).length+1+(cutD (ws.map .int) a' b').length<=16777216:=λ a b a' b'=>by have:=cl a b;have:=cl a' b';lia
 have z4:∀a b,ws.length+(cutD (ws.map .int) a b).length<=16777216:=λ a b=>by have:=cl a b;lia
 have z5:∀a b a' b',(cutD (ws.map .int) a b).length+(cutD (ws.map .int) a' b').length<=16777216:=λ a b a' b'=>by have:=cl a b;have:=cl a' b';lia
 have p4:pln d4=true:=by
  simp only[zAR,zCs,or_false]at m4;rcases m4 with rfl|rfl|rfl|rfl|rfl|rfl|rfl|rfl|rfl<;>rfl
 have pc:∀a b,gQ (cutD (ws.map .int) a b)=true:=λ a b=>aEM (jm ws)
 have c8:∀a b a' b',aGK (2*ws.length+1) (.tup (cutD (ws.map .int) a b++d4::cutD (ws.map .int) a' b')):=λ a b a' b'=>by
  refine mG (uf (pc a b) ?_) ?_
  .simp only[gQ,p4,pc,Bool.and_self]
  .have:=cl a b;have:=cl a' b';simp;lia
 have c9:∀a b a' b',aGK (2*ws.length+1) (.tup (cutD (ws.map .int) a b++cutD (ws.map .int) a' b')):=λ a b a' b'=>by
  refine mG (uf (pc a b) (pc a' b')) ?_
  have:=cl a b;have:=cl a' b';simp;lia
 simp only[cA,cL,bI,st];simp[-zE1,e0,e1,e2,e4,gt,gc,gr,z2,z3,z4,z5];refine aF5 (by lia) (by simp;lia) λ d hd=>?_
 simp only[zAR,zCs,or_false]at hd;rcases hd with rfl|rfl|rfl|rfl|rfl|rfl|rfl|rfl|rfl|rfl
 .exact c8 _ _ _ _
 .exact c9 _ _ _ _
 .exact c8 _ _ _ _
 .exact mG (uA λ d hd=>gP (jm ws) (zBf.mp hd)) (by simp;lia)
 .exact⟨by simpa[pln]using jm ws,zAc _⟩
 .exact mG (uf (jm ws) (pc _ _)) (by have:=cl none (some 1);simp;lia)
 .exact c9 _ _ _ _
 .exact⟨rfl,zAc _⟩
 .exact⟨rfl,zAc _⟩
 .exact mG (by simp[gQ,pln,jm]) (by simp)
def aEN(l:List Int):pln (tupI l)=true:=by
 have:∀l:List Int,gQ (l.map .int)=true:=λ l=>by
  induction l with
  |nil=>rfl
  |cons a l ih=>simp[gQ,pln,ih]
 simp[tupI,pln,this]
def upI(n:Int):List Int:=(zA3 n.toNat).map λ(k:Nat)=>(k:Int)
def yW(n:Int):cu 0 n=(upI n).map .int:=by
 unfold cu upI;rw[zBG,show(n-0).toNat=n.toNat by lia];exact zDD λ k _=>by simp
def aD1(n:Int):(upI n).Nodup:=by
 unfold upI;rw[zCQ,zDU];exact zGh.imp λ h e=>h (by lia)
def mU{x n:Int}:x∈upI n↔0<=x/\x<n:=by
 unfold upI;rw[zAd];constructor
 .rintro⟨k,hk,rfl⟩
  have:=zBk.mp hk
  lia
 .rintro⟨h0,h1⟩
  exact⟨x.toNat,zBk.mpr (by lia),by lia⟩
def g8(n:Int):(upI n).length=n.toNat:=by unfold upI;simp
def aAf(l:List Int):eqR true (.lst (l.map .int)) (.lst [])= .ok (.bl (!l.isEmpty)):=by
 obtain⟨h1,h2⟩:=qR l;have e:eqD (.lst (l.map .int)) (.lst [])=l.isEmpty:=by cases l<;>simp[eqD,nZ]
 unfold eqR;rw[if_pos (by simp[m8,au,bL,h1,h2]),e];rfl
def rN{l:List Int}(nd:l.Nodup)(rg:∀x∈l,0<=x/\x<n):l.length<=n.toNat:=by
 have:=nd.length_le_of_subset (l₂:=upI n) λ x hx=>mU.mpr (rg x hx)
 rwa [g8]at this
theorem ints_of:∀ws:List Int,(ws.map D.int).map intOf=ws
 |[]=>rfl
 |w::ws=>by rw[zAT,zAT,ints_of ws];rfl
theorem aEn{c:En->Rs Bool}{b:En->Ou}{I:Nat->En->Prop}(st:∀m Y,I m Y->c Y= .ok false\/(c Y= .ok true/\∃Y' m',b Y= .nx Y'/\m'<m/\I m' Y')):
  ∀(n m:Nat) (Y:En),m<n->I m Y->∃Y' m',itW c b n Y= .nx Y'/\I m' Y'/\c Y'= .ok false
 |0,_,_,h,_=>absurd h (zDn _)
 |n+1,m,Y,h,hI=>by
  rcases st m Y hI with e|⟨e,Y',m',e2,hm,hI'⟩
  .exact⟨Y,m,by unfold itW;rw[e];rfl,hI,e⟩
  .obtain⟨Y2,m2,e3,r⟩:=aEn st n m' Y' (by lia) hI'
   refine⟨Y2,m2,?_,r⟩;unfold itW;rw[e,bx,if_pos rfl,e2];exact e3
def za{c:En->Rs Bool}{b:En->Ou}(I:Nat->En->Prop)(st:∀m Y,I m Y->c Y= .ok false\/(c Y= .ok true/\∃Y' m',b Y= .nx Y'/\m'<m/\I m' Y')){m:Nat}{Y:En}(hm:m<1000000)(h:I m Y):
  ∃Y' m',yE c b Y= .nx Y'/\I m' Y'/\c Y'= .ok false:=aEn st fuel m Y hm h
def aCU{p q:Int×Int}:ltP p q=true↔p.1<q.1\/p.1=q.1/\p.2<q.2:=by
 unfold ltP;have e:HT.lexLt [p.1,p.2] [q.1,q.2]=true↔p.1<q.1\/p.1=q.1/\p.2<q.2:=by
  by_cases h1:p.1=q.1
  .by_cases h2:p.2=q.2
   .simp[HT.lexLt,h1,h2]
   .simp[HT.lexLt,h1,h2]
  .simp[HT.lexLt,h1]
 exact e
def mH{ps:List (Int×Int)}:tL ps=true↔ps.Pairwise λ p q=>p.1<q.1\/p.1=q.1/\p.2<q.2:=by
 constructor
 .intro h
  have h':=yZ.mp h;clear h;induction ps with
  |nil=>exact .nil
  |cons p ps ih=>
   have hs:∀(i:Nat) (p q:Int×Int),ps[i]? =some p->ps[i+1]? =some q->ltP p q=true:=λ i a b e1 e2=>h' (i+1) a b e1 e2
   have hp:=ih hs;refine zA4.mpr ⟨λ q hq=>?_,hp⟩;cases ps with
   |nil=>cases hq
   |cons r rs=>
    have h1:=aCU.mp (h' 0 p r rfl rfl);rcases zAR.mp hq with rfl|hq
    .exact h1
    .have h2:=(zA4.mp hp).1 q hq
     lia
 .intro h
  rw[yZ];intro i p q e1 e2;rw[aCU];obtain⟨h1,rfl⟩:=zAL.mp e1;obtain⟨h2,rfl⟩:=zAL.mp e2;exact zCZ.mp h i (i+1) h1 h2 (zBz i)
def sw(p:Int×Int):Int×Int:=(p.2,p.1)
theorem xr{w:Slot}:∀(ps:List (Int×Int)) (ll:List (List D)) (s2 s3:Slot),(∀p∈ps,0<=p.2/\p.2<ll.length)->(∀l∈ll,l.length+ps.length<=10000)->
  ∃s2' s3',forL (gq 2 (bJ (gnm 2) (bJ (gnm 3) iw))) (eZ 1 (aD 3) (aa (aD 2))) (ps.map pD) [w,.o2 ll,s2,s3]= .nx [w,.o2 ((ps.map sw).foldl bW ll),s2',s3']
 |[],ll,s2,s3,_,_=>⟨s2,s3,rfl⟩
 |p::ps,ll,s2,s3,h,hl=>by
  obtain⟨h0,h1⟩:=h p zAN;have hk:p.2.toNat<ll.length:=by lia
  have hin:ll.getD p.2.toNat []∈ll:=by simp[hk]
  have hz:=hl _ hin;obtain⟨s2',s3',e⟩:=xr (w:=w) ps (bW ll (sw p)) (.sh (.int p.1)) (.sh (.int p.2)) (λ q hq=>by unfold bW;rw[zAw];exact h q (zAM _ hq)) (λ l hm=>by
   unfold bW at hm;rcases zDL hm with z|z
   .have:=hl l z
    simp at this;lia
   .subst z
    simp[sw]at hz ⊢;lia)
  refine⟨s2',s3',?_⟩;rw[zAT,zAT,iI,zCG];have ha:at2 ll (.int p.2)=some (p.2.toNat,ll.getD p.2.toNat []):=by
   have hx:ixN ll.length p.2=some p.2.toNat:=by
    unfold ixN;rw[if_pos (by lia),if_pos (by lia)]
   simp only[at2,hx,zCU];rw[zAB hk];simp[hk]
  have hb:okE (gq 2 (bJ (gnm 2) (bJ (gnm 3) iw)) (pD p) [w,.o2 ll,s2,s3]) (λ Y1=>(eZ 1 (aD 3) (aa (aD 2)) Y1).tn (forL (gq 2 (bJ (gnm 2) (bJ (gnm 3) iw))) (eZ 1 (aD 3) (aa (aD 2))) (ps.map pD)))=
    (eZ 1 (aD 3) (aa (aD 2)) [w,.o2 ll,.sh (.int p.1),.sh (.int p.2)]).tn (forL (gq 2 (bJ (gnm 2) (bJ (gnm 3) iw))) (eZ 1 (aD 3) (aa (aD 2))) (ps.map pD)):=by
   simp[pD]
  have hc:eZ 1 (aD 3) (aa (aD 2)) [w,.o2 ll,.sh (.int p.1),.sh (.int p.2)]= .nx [w,.o2 (bW ll (sw p)),.sh (.int p.1),.sh (.int p.2)]:=by
   have hz2:(ll.getD p.2.toNat []).length<16777216:=by simp at hz ⊢;lia
   unfold eZ;simp only[zAj,zAy];simp[ha];rw[if_pos (by simpa using hz2)];simp[bW,sw]
  rw[hb,hc,aD7];exact e
def aAs{n:Int}{ps:List (Int×Int)}(h:Ow n ps):∃ll,lM [owD n ps]= .ok (.lst (ll.map .lst))/\aH0 n (ps.map sw) ll:=by
 have hr:=dw (j:=n) (by have:=h.n0;lia) (by have:=h.n1;lia);have hlen:(cu 0 n).length=n.toNat:=by rw[gO];lia
 have hn1:=h.n1;have hps:=h.len;have hin:∀p∈ps,0<=p.2/\p.2<(zAI n.toNat ([]:List D)).length:=λ p hp=>by
  obtain⟨_,_,a,b,_⟩:=h.pr p hp;rw[zBF];lia
 obtain⟨s2,s3,e⟩:=xr (w:=.sh (owD n ps)) ps (zAI n.toNat []) .no .no hin (λ l hl=>by
  rw[(zEI.mp hl).2];simp;lia)
 refine⟨(ps.map sw).foldl bW (zAI n.toNat []),?_,by rw[jw,zBF],λ i h0 h1=>?_⟩
 .have hz:n.toNat<16777216:=by lia
  have a1:llS 1 (dJ fY (aA (op2 ixD (aD 0) (cD (.int 0))) aG)) [none] (gnm 0) [.sh (owD n ps),.no,.no,.no]= .nx [.sh (owD n ps),.o2 (zAI n.toNat []),.no,.no]:=by
   unfold llS;simp[shE,lV,owD,hr,hlen,hz]
  have a2:iy (dj (op2 ixD (aD 0) (cD (.int 1)))) (gq 2 (bJ (gnm 2) (bJ (gnm 3) iw))) (eZ 1 (aD 3) (aa (aD 2))) [.sh (owD n ps),.o2 (zAI n.toNat []),.no,.no]= .nx [.sh (owD n ps),.o2 ((ps.map sw).foldl bW (zAI n.toNat [])),s2,s3]:=by
   have hi:dj (op2 ixD (aD 0) (cD (.int 1))) [.sh (owD n ps),.o2 (zAI n.toNat []),.no,.no]= .ok (ps.map pD):=by simp[owD]
   rw[gw,hi,bx];exact e
  have a3:retS (qe 1) [.sh (owD n ps),.o2 ((ps.map sw).foldl bW (zAI n.toNat [])),s2,s3]= .rt (.lst (((ps.map sw).foldl bW (zAI n.toNat [])).map .lst)):=by simp
  have st:ak 4 [owD n ps]=[.sh (owD n ps),.no,.no,.no]:=rfl;simp only[lM,gC,bI,st];rw[aQ,a1,az,aQ,a2,az,a3]
 .have hk:i.toNat<(zAI n.toNat ([]:List D)).length:=by rw[zBF];lia
  have hg:=rR (ps.map sw) (zAI n.toNat []) i.toNat (λ q hq=>by obtain⟨p,hp,rfl⟩:=zAd.mp hq;exact hin p hp) hk;have hk2:i.toNat<((ps.map sw).foldl bW (zAI n.toNat [])).length:=by rw[jw];exact hk
  have hi:((i.toNat:Nat):Int)=i:=zBt h0;rw[hi]at hg;rw[<-hi];refine cP ?_;rw[hi,zAK,zAB hk2]
  have:((ps.map sw).foldl bW (zAI n.toNat []))[i.toNat]=(cB (ps.map sw) i).map .int:=by
   have e1:((ps.map sw).foldl bW (zAI n.toNat [])).getD i.toNat []=((ps.map sw).foldl bW (zAI n.toNat []))[i.toNat]:=by simp[hk2]
   rw[<-e1,hg];have e2:(zAI n.toNat ([]:List D)).getD i.toNat []=[]:=by
    rw[zA0,zBp];split<;>rfl
   rw[e2,zC7]
  rw[this];rfl
def wt(ps:List (Int×Int))(od:List Int)(x:Int):Nat:=(ps.filter λ p=>p.2==x&& !decide (p.1∈od)).length
theorem uI{p x:Int}{od:List Int}(hp:p∉od):∀{ps:List (Int×Int)},ps.Nodup->wt ps od x=wt ps (od++[p]) x+if (p,x)∈ps then 1 else 0
 |[],_=>rfl
 |q::ps,nd=>by
  obtain⟨h1,h2⟩:=zAl.mp nd;have ih:=uI hp (x:=x) h2;unfold wt at ih ⊢;rw[zCo,zCo];by_cases e:q=(p,x)
  .subst e
   have hn:¬(p,x)∈ps:=h1;rw[if_neg hn]at ih;simp[hp,ih]
  .have hm:(p,x)∈q::ps↔(p,x)∈ps:=⟨λ h=>(zAR.mp h).resolve_left λ z=>e z.symm,zAM _⟩
   rw[show(if (p,x)∈q::ps then 1 else 0)=if (p,x)∈ps then 1 else 0 by simp only[hm]];by_cases c2:q.2=x
   .have c1:q.1≠p:=λ z=>e (zD3 z c2)
    by_cases c3:q.1∈od
    .simp[c2,c3,ih]
    .simp[c2,c3,c1,ih]
     lia
   .simp[c2,ih]
structure Kn(n:Int)(ps:List (Int×Int))(rem W rd od:List Int):Prop where
 lw:W.length=n.toNat
 w:∀x,0<=x->x<n->W[x.toNat]? =some ((wt ps od x:Int)+if x∈rem then 1 else 0)
 nd:(od++rd).Nodup
 rg:∀x∈od++rd,0<=x/\x<n
 z:∀x,0<=x->x<n->(x∈od++rd↔wt ps od x=0/\x∉rem)
 tp:∀l x r,od=l++x::r->∀a,(a,x)∈ps->a∈l
def aFk{ps:List (Int×Int)}{od:List Int}{x a:Int}(h:wt ps od x=0)(ha:(a,x)∈ps):a∈od:=by
 unfold wt at h;rw[zD2,zDb]at h
 have:=h _ ha
 simpa using this
def aDM{rd:List Int}{p x:Int}(h:p∈rd):x∈rd↔x=p\/x∈rd.eraseIdx (rd.idxOf p):=by
 rw[<-zEQ rfl];constructor
 .intro hx
  by_cases e:x=p
  .exact .inl e
  .exact .inr ((zFn e).mpr hx)
 .rintro(rfl|hx)
  .exact h
  .exact zFd hx
def Kn.take{n p:Int}{ps:List (Int×Int)}{W rd od:List Int}(K:Kn n ps [] W rd od)(hp:p∈rd)(nd:ps.Nodup):Kn n ps (cB ps p) W (rd.eraseIdx (rd.idxOf p)) (od++[p]):=by
 have hno:p∉od:=λ h=>by
  have:=K.nd
  rw[zB0]at this;exact this.2.2 p h p hp rfl
 have hmem:∀x,x∈(od++[p])++rd.eraseIdx (rd.idxOf p)↔x∈od++rd:=λ x=>by
  rw[zAe,zAe,zAe,zAt,aDM hp (x:=x)];constructor
  .rintro((h|h)|h)
   .exact .inl h
   .exact .inr (.inl h)
   .exact .inr (.inr h)
  .rintro(h|h|h)
   .exact .inl (.inl h)
   .exact .inl (.inr h)
   .exact .inr h
 refine⟨K.lw,λ x x0 x1=>?_,?_,λ x hx=>K.rg x ((hmem x).mp hx),λ x x0 x1=>?_,λ l x r e a ha=>?_⟩
 .rw[K.w x x0 x1,uI hno nd]
  have:(x∈cB ps p)↔(p,x)∈ps:=gn
  by_cases c:(p,x)∈ps<;>simp[c,this]
 .have h1:=K.nd
  rw[zB0]at h1;obtain⟨n1,n2,n3⟩:=h1;rw[<-zEQ rfl];rw[zB0];refine⟨?_,n2.erase p,λ a ha b hb e=>?_⟩
  .rw[zB0]
   refine⟨n1,by simp,λ a ha b hb e=>?_⟩;rw[zAt.mp hb]at e;subst e;exact hno ha
  .subst e
   rcases zAe.mp ha with h|h
   .exact n3 a h a (zFd hb) rfl
   .rw[zAt.mp h]at hb
    exact(n2.mem_erase_iff.mp hb).1 rfl
 .rw[hmem,K.z x x0 x1,uI hno nd]
  have:(x∈cB ps p)↔(p,x)∈ps:=gn
  by_cases c:(p,x)∈ps<;>simp[c,this]
 .rcases List.eq_nil_or_concat r with rfl|⟨r',y,rfl⟩
  .obtain⟨e1,e2⟩:=zGe e rfl
   cases e2;subst e1;obtain⟨p0,p1⟩:=K.rg p (zAZ _ hp);exact aFk ((K.z p p0 p1).mp (zAZ _ hp)).1 ha
  .rw[List.concat_eq_append,<-List.cons_append,<-zBO]at e
   obtain⟨e1,e2⟩:=zGe e rfl;exact K.tp l x r' e1 a ha
def Kn.less{n o:Int}{ps:List (Int×Int)}{rem W rd od:List Int}(K:Kn n ps (o::rem) W rd od)(o0:0<=o)(o1:o<n)(hr:o∉rem):
  Kn n ps rem (W.set o.toNat (wt ps od o:Int)) (if wt ps od o=0 then rd++[o]else rd) od:=by
 have hon:o∉od++rd:=λ h=>((K.z o o0 o1).mp h).2 zAN
 have hmem:∀x,x∈od++(if wt ps od o=0 then rd++[o]else rd)↔x∈od++rd\/(x=o/\wt ps od o=0):=λ x=>by
  by_cases c:wt ps od o=0
  .rw[if_pos c,<-zBO,zAe,zAt]
   exact⟨λ h=>h.imp_right λ z=>⟨z,c⟩,λ h=>h.imp_right λ z=>z.1⟩
  .rw[if_neg c]
   exact⟨.inl,λ h=>h.elim id λ z=>absurd z.2 c⟩
 refine⟨by rw[zAw];exact K.lw,λ x x0 x1=>?_,?_,λ x hx=>?_,λ x x0 x1=>?_,K.tp⟩
 .by_cases e:x=o
  .subst e
   rw[zBD (by rw[K.lw];lia),if_neg hr];simp
  .rw[zBC (by lia),K.w x x0 x1]
   simp[e]
 .by_cases c:wt ps od o=0
  .rw[if_pos c,<-zBO,zB0]
   refine⟨K.nd,by simp,λ a ha b hb e=>?_⟩;rw[zAt.mp hb]at e;subst e;exact hon ha
  .rw[if_neg c];exact K.nd
 .rcases(hmem x).mp hx with h|h
  .exact K.rg x h
  .rw[h.1];exact⟨o0,o1⟩
 .rw[hmem,K.z x x0 x1]
  by_cases e:x=o
  .subst e
   simp[hr]
  .simp[e]
abbrev oE(n:Int)(ps:List (Int×Int))(ll:List (List D))(W rd od:List Int)(s5 s6:Slot):En:=
 [.sh (owD n ps),.sh (.lst (ll.map .lst)),.ow (.lst (W.map .int)),.ow (.lst (rd.map .int)),.ow (.lst (od.map .int)),s5,s6]
def aKb{W:List Int}{x a:Int}(x0:0<=x)(h:W[x.toNat]? =some a):atD (W.map D.int) x= .ok (.int a):=by
 have hi:((x.toNat:Nat):Int)=x:=zBt x0
 have:=cP (l:=W.map D.int) (k:=x.toNat) (d:=.int a) (by rw[zAK,h];rfl)
 rwa [hi]at this
def aEc{ws:List Int}(h:ws≠[]):∃m,ws.min?=some m:=by
 cases c:ws.min? with
 |none=>rw[List.min?_eq_none_iff]at c;exact absurd c h
 |some m=>exact⟨m,rfl⟩
section
variable{n:Int}{ps:List (Int×Int)}{ll:List (List D)}{W rd od rem:List Int}{s5 s6:Slot}
def aJG{o:Int}(K:Kn n ps (o::rem) W rd od)(hn:n<=60)(o0:0<=o)(o1:o<n)(hr:o∉rem):
  odI (oE n ps ll W rd od s5 (.sh (.int o)))= .nx (oE n ps ll (W.set o.toNat (wt ps od o:Int)) (if wt ps od o=0 then rd++[o]else rd) od s5 (.sh (.int o))):=by
 have hw:=K.w o o0 o1;rw[if_pos zAN]at hw;have hlt:o.toNat<W.length:=by rw[K.lw];lia
 have hx:aDX (W.map D.int) (.int o)=some (o.toNat,(wt ps od o:Int)+1):=by
  have hix:ixN (W.map D.int).length o=some o.toNat:=by
   unfold ixN;rw[zAD,if_pos o0,if_pos (by lia)]
  unfold aDX;dsimp only;rw[hix,zCU,zAK,hw];rfl
 have a1:aF4 (λ i j=>i-j) 2 (aD 6) (cD (.int 1)) (oE n ps ll W rd od s5 (.sh (.int o)))= .nx (oE n ps ll (W.set o.toNat (wt ps od o:Int)) rd od s5 (.sh (.int o))):=by
  have e1:aD 6 (oE n ps ll W rd od s5 (.sh (.int o)))= .ok (.int o):=rfl;have e2:cD (.int 1) (oE n ps ll W rd od s5 (.sh (.int o)))= .ok (.int 1):=rfl;unfold aF4;dsimp only[zAj,zAy];rw[e1,bx,hx];dsimp only;rw[e2,bx];unfold aK9;dsimp only;rw[Int.add_sub_cancel,<-zH1];rfl
 have hg:atD ((W.set o.toNat (wt ps od o:Int)).map D.int) o= .ok (.int (wt ps od o:Int)):=aKb o0 (by rw[zBD hlt]);have hc:tsb (op2 (eqR false) (op2 ixD (fB 2) (aD 6)) (cD (.int 0))) (oE n ps ll (W.set o.toNat (wt ps od o:Int)) rd od s5 (.sh (.int o)))= .ok ((wt ps od o:Int)==0):=by
  have e1:op2 ixD (fB 2) (aD 6) (oE n ps ll (W.set o.toNat (wt ps od o:Int)) rd od s5 (.sh (.int o)))= .ok (.int (wt ps od o:Int)):=by
   rw[cz]
   show((Rs.ok (D.lst ((W.set o.toNat (wt ps od o:Int)).map D.int))).bd λ x=>(Rs.ok (D.int o)).bd λ y=>okD (ixD x y))=_
   rw[aK,aK];show okD (atD ((W.set o.toNat (wt ps od o:Int)).map D.int) o)=_;rw[hg];rfl
  rw[uM,cz,e1,aK];rfl
 unfold odI;rw[aQ,a1,az,zJ,hc,bx];by_cases c:wt ps od o=0
 .have hl:=rN K.nd K.rg
  rw[zAb]at hl;rw[if_pos (by rw[c];rfl),if_pos c];have g:aa (aD 6) (oE n ps ll (W.set o.toNat (wt ps od o:Int)) rd od s5 (.sh (.int o)))= .ok (.int o):=rfl;unfold vp;dsimp only[zAj,zAy];rw[g,bx,if_pos (by rw[zAD,szl];lia)];simp
 .have:((wt ps od o:Int)==0)=false:=by simpa using c
  rw[this,if_neg c];rfl
theorem aE7(hn:n<=60):∀(rem:List Int) {W rd:List Int} {s6:Slot},Kn n ps rem W rd od->rem.Nodup->(∀x∈rem,0<=x/\x<n)->∃W' rd' s6',forL (gnm 6) odI (rem.map D.int) (oE n ps ll W rd od s5 s6)= .nx (oE n ps ll W' rd' od s5 s6')/\Kn n ps [] W' rd' od
 |[],W,rd,s6,K,_,_=>⟨W,rd,s6,rfl,K⟩
 |o::rem,W,rd,s6,K,nd,hx=>by
  obtain⟨h1,h2⟩:=zAl.mp nd;obtain⟨o0,o1⟩:=hx o zAN;obtain⟨W',rd',s6',e,K'⟩:=aE7 hn rem (s6:=.sh (.int o)) (K.less o0 o1 h1) h2 λ x h=>hx x (zAM _ h)
  refine⟨W',rd',s6',?_,K'⟩;rw[zAT,iI];show okE (gnm 6 (.int o) (oE n ps ll W rd od s5 s6)) _=_;rw[pF,mO]
  show(odI (oE n ps ll W rd od s5 (.sh (.int o)))).tn _=_
  rw[aJG K hn o0 o1 h1,aD7];exact e
def aDC(nd:ps.Nodup)(p:Int):(cB ps p).Nodup:=by
 unfold cB;have hm:∀q∈ps.filter λ q=>q.1==p,q.1=p:=λ q hq=>by simpa using(zB5.mp hq).2
 rw[zCQ,zDU];refine zHY (λ{a b} ha hb hab e=>?_) (nd.filter λ q=>q.1==p);exact hab (zD3 ((hm a ha).trans (hm b hb).symm) e)
def aJH(O:Ow n ps)(nd:ps.Nodup)(N:aH0 n ps ll)(K:Kn n ps [] W rd od)(hr:rd≠[]):∃W' rd' p s5' s6',odB (oE n ps ll W rd od s5 s6)= .nx (oE n ps ll W' rd' (od++[p]) s5' s6')/\Kn n ps [] W' rd' (od++[p]):=by
 obtain⟨p,hmin⟩:=aEc hr;have hp:p∈rd:=List.min?_mem hmin;obtain⟨p0,p1⟩:=K.rg p (zAZ _ hp);have hl:=rN K.nd K.rg;rw[zAb]at hl;have n1:=O.n1;have a1:cG 5 (opA (nj zEg) (aA (fB 3) aG)) (oE n ps ll W rd od s5 s6)= .nx (oE n ps ll W rd od (.sh (.int p)) s6):=by
  have:nj zEg [.lst (rd.map D.int)]= .ok (.int p):=by
   unfold nj;dsimp only;rw[bw];dsimp only;rw[hmin]
  rw[aFy,fZ]
  show((((Rs.ok [D.lst (rd.map D.int)]).bd λ x=>okD (nj zEg x)).bo λ d=>_))=_
  rw[aK,this];rfl
 have a2:aDw 3 (aa (aD 5)) (oE n ps ll W rd od (.sh (.int p)) s6)= .nx (oE n ps ll W (rd.eraseIdx (rd.idxOf p)) od (.sh (.int p)) s6):=by
  have g:aa (aD 5) (oE n ps ll W rd od (.sh (.int p)) s6)= .ok (.int p):=rfl;unfold aDw;dsimp only[zAj,zAy];rw[g,bx];unfold aIX;rw[bw];dsimp only;rw[if_pos ⟨hp,by rw[szl];lia⟩];rfl
 have a3:vp 4 (aa (aD 5)) (oE n ps ll W (rd.eraseIdx (rd.idxOf p)) od (.sh (.int p)) s6)= .nx (oE n ps ll W (rd.eraseIdx (rd.idxOf p)) (od++[p]) (.sh (.int p)) s6):=by
  have g:aa (aD 5) (oE n ps ll W (rd.eraseIdx (rd.idxOf p)) od (.sh (.int p)) s6)= .ok (.int p):=rfl;unfold vp;dsimp only[zAj,zAy];rw[g,bx,if_pos (by rw[zAD,szl];lia)];simp
 obtain⟨W',rd',s6',e,K'⟩:=aE7 (ll:=ll) (s5:=.sh (.int p)) (s6:=s6) n1 (cB ps p) (K.take hp nd) (aDC nd p) λ x hx=>by
  have:=O.pr _ (gn.mp hx)
  exact⟨this.2.2.1,this.2.2.2.1⟩
 refine⟨W',rd',p,.sh (.int p),s6',?_,K'⟩;have hi:dj (op2 ixD (aD 1) (aD 5)) (oE n ps ll W (rd.eraseIdx (rd.idxOf p)) (od++[p]) (.sh (.int p)) s6)= .ok ((cB ps p).map .int):=by
  have e1:op2 ixD (aD 1) (aD 5) (oE n ps ll W (rd.eraseIdx (rd.idxOf p)) (od++[p]) (.sh (.int p)) s6)= .ok (.lst ((cB ps p).map .int)):=by
   rw[cz]
   show((Rs.ok (D.lst (ll.map .lst))).bd λ x=>(Rs.ok (D.int p)).bd λ y=>okD (ixD x y))=_
   rw[aK,aK];show okD (atD (ll.map .lst) p)=_;rw[N.item p p0 p1];rfl
  rw[uD,e1];rfl
 unfold odB;rw[aQ,a1,az,aQ,a2,az,aQ,a3,az,gw,hi,bx,e]
end
def aHx(ps:List (Int×Int))(x:Int):(cB (ps.map sw) x).length=wt ps [] x:=by
 unfold cB wt;rw[zAD];induction ps with
 |nil=>rfl
 |cons p ps ih=>
  rw[zAT,zCo,zCo];by_cases c:p.2=x<;>simp[sw,c]<;>simpa[sw]using ih
def aJj{n:Nat}{ps:List (Int×Int)}{od:List Int}(U:Up n ps)(rg:∀x∈od,0<=x/\x<(n:Int))(z:∀x,0<=x->x<(n:Int)->(x∈od↔wt ps od x=0)):n<=od.length:=by
 obtain⟨os,ho,hu⟩:=U;have inj:∀k l,k<n->l<n->os.getD k 0=os.getD l 0->k=l:=λ k l hk hl e=>by
  have k1:k<os.length:=by rw[ho.len];exact hk
  have k2:l<os.length:=by rw[ho.len];exact hl
  have:os[k]? =os[l]?:=by
   rw[zAB k1,zAB k2];simpa[k1,k2]using e
  exact(zB8 k1 ho.nd).mp this
 have hk:∀m k,k<m->k<n->os.getD k 0∈od:=by
  intro m;induction m with
  |zero=>intro k h;exact absurd h (zDn _)
  |succ m ih=>
   intro k _ hkn;have hin:os.getD k 0∈os:=by
    have:k<os.length:=by rw[ho.len];exact hkn
    simp[this]
   obtain⟨x0,x1⟩:=ho.lo _ hin;rw[z _ x0 x1];unfold wt;rw[zD2,zDb];intro p hp;obtain⟨q,q1,q2,rfl⟩:=hu p hp;simp only[zAQ,beq_iff_eq,zCd,decide_eq_false_iff_not,not_and,Decidable.not_not];intro e
   have:=inj _ _ q2 hkn e
   have h3:q.1<m:=by lia
   exact ih q.1 h3 (by lia)
 have hs:os⊆od:=λ x hx=>by
  obtain⟨k,hk1,e⟩:=zBq hx
  have:=hk (k+1) k (zBz k) (by rw[<-ho.len];exact hk1)
  rw[<-e];simpa[hk1]using this
 have:=ho.nd.length_le_of_subset hs
 rw[ho.len]at this;exact this
def ug{n:Nat}{ps:List (Int×Int)}(O:Ow n ps)(U:Up n ps):∃od:List Int,cY [owD n ps]= .ok (.lst (od.map .int))/\od.length=n/\od.Nodup/\(∀x∈od,0<=x/\x<(n:Int))/\∀l x r,od=l++x::r->∀a,(a,x)∈ps->a∈l:=by
 have n1:=O.n1;have nd:ps.Nodup:=by
  have:=mH.mp O.ris
  rw[zCQ];exact this.imp λ{a b} h e=>by subst e;lia
 obtain⟨ll,e1,N⟩:=vy O;obtain⟨lc,e2,Nc⟩:=aAs O;obtain⟨W0,hW0⟩:∃W0:List Int,W0=(upI n).map λ x=>(wt ps [] x:Int):=⟨_,rfl⟩
 obtain⟨r0,hr0⟩:∃r0:List Int,r0=(upI n).filter λ x=>wt ps [] x==0:=⟨_,rfl⟩
 have hup:∀x:Int,0<=x->x<n->(upI (n:Int))[x.toNat]? =some x:=λ x x0 x1=>by
  unfold upI;rw[zAK,zDB (by lia)];simp;lia
 have hWx:∀x:Int,0<=x->x<n->W0[x.toNat]? =some (wt ps [] x:Int):=λ x x0 x1=>by
  rw[hW0,zAK,hup x x0 x1];rfl
 have K0:Kn n ps [] W0 r0 []:=by
  refine⟨by rw[hW0,zAD,g8],λ x x0 x1=>by rw[hWx x x0 x1];simp,?_,λ x hx=>?_,λ x x0 x1=>?_,λ l x r e=>by simp at e⟩
  .rw[zC7,hr0];exact(aD1 _).filter _
  .rw[zC7,hr0]at hx
   exact mU.mp (zB5.mp hx).1
  .rw[zC7,hr0,zB5,mU]
   simp[x0,x1]
 have hc:∀{W rd od:List Int} {s5 s6:Slot},tst (fB 3) (oE n ps ll W rd od s5 s6)= .ok (!rd.isEmpty):=λ{W rd od s5 s6}=>by
  rw[aBB]
  show(Rs.ok (D.lst (rd.map .int))).bd aFo=_
  rw[aK];cases rd<;>rfl
 obtain⟨Y',m',ew,⟨W,rd,od,s5,s6,rfl,K,_⟩,ec⟩:=za (c:=tst (fB 3)) (b:=odB) (λ m Y=>∃W rd od s5 s6,Y=oE n ps ll W rd od s5 s6/\Kn n ps [] W rd od/\m=61-od.length) (by
  rintro m Y ⟨W,rd,od,s5,s6,rfl,K,rfl⟩;rw[hc];cases rd with
  |nil=>exact .inl rfl
  |cons r rd=>
   obtain⟨W',rd',p,s5',s6',e,K'⟩:=aJH (s5:=s5) (s6:=s6) O nd N K (by simp);refine .inr ⟨rfl,_,61-(od++[p]).length,e,?_,W',rd',_,s5',s6',rfl,K',rfl⟩
   have:=rN K'.nd K'.rg
   rw[zAb]at this;rw[zAb,zAf,zBm]at this ⊢;lia) (m:=61-([]:List Int).length) (by simp) ⟨W0,r0,[],.no,.no,rfl,K0,rfl⟩
 have hrd:rd=[]:=by
  rw[hc]at ec;cases rd with
  |nil=>rfl
  |cons _ _=>cases ec
 subst hrd;have hl:=rN K.nd K.rg;rw[zAg]at hl;have hge:=aJj U (λ x hx=>K.rg x (by rw[zAg];exact hx)) λ x x0 x1=>by
  have:=K.z x x0 x1
  rw[zAg]at this;rw[this];simp
 have knd:=K.nd;have krg:=K.rg;rw[zAg]at knd krg;refine⟨od,?_,by lia,knd,krg,K.tp⟩;have st:ak 7 [owD n ps]=[.sh (owD n ps),.no,.no,.no,.no,.no,.no]:=rfl;have b1:cG 1 (aN gF (aA (aD 0) aG)) [.sh (owD n ps),.no,.no,.no,.no,.no,.no]= .nx [.sh (owD n ps),.sh (.lst (ll.map .lst)),.no,.no,.no,.no,.no]:=by simp[e1]
 have b2:lu 2 aJJ [.sh (owD n ps),.sh (.lst (ll.map .lst)),.no,.no,.no,.no,.no]= .nx [.sh (owD n ps),.sh (.lst (ll.map .lst)),.ow (.lst (W0.map .int)),.no,.no,.no,.no]:=by
  have hlc:lc=(upI (n:Int)).map λ x=>(cB (ps.map sw) x).map D.int:=by
   refine zER λ k=>?_
   by_cases hk:k<n
   .have h:=Nc.item k (by lia) (by lia)
    have hk2:k<lc.length:=by rw[Nc.len];lia
    have h2:=cP (l:=lc.map D.lst) (k:=k) (d:=.lst lc[k]) (by rw[zAK,zAB hk2];rfl);rw[h2]at h;replace h:=D.lst.inj (Rs.ok.inj h);rw[zAB hk2,zAK,h]
    have:=hup k (by lia) (by lia)
    rw[zCP]at this;rw[this,zCC]
   .rw[zCH (by rw[Nc.len];lia),zCH (by rw[zAD,g8];lia)]
  have h:aJJ [.sh (owD n ps),.sh (.lst (ll.map .lst)),.no,.no,.no,.no,.no]= .ok (.lst (W0.map .int)):=by
   refine lH (ds:=(upI (n:Int)).map λ x=>.lst ((cB (ps.map sw) x).map D.int)) ?_ (by rw[zAD,g8];lia) ?_
   .have:(lc.map D.lst)=(upI (n:Int)).map λ x=>.lst ((cB (ps.map sw) x).map D.int):=by rw[hlc,zBG];rfl
    rw[<-this];simp[shE,lV,e2]
   .rw[hW0,zBG]
    refine rP (fg:=gnm 0) (fe:=opA gm (aA (aD 0) aG)) (f:=λ x=>.lst ((cB (ps.map sw) x).map D.int)) (g:=D.int∘λ x=>(wt ps [] x:Int)) (upI n) λ x _=>⟨[.sh (.lst ((cB (ps.map sw) x).map D.int))],rfl,?_⟩
    have:=aHx ps x
    simp[this]
  rw[tY,h,bx];rfl
 have b3:lu 3 aJI [.sh (owD n ps),.sh (.lst (ll.map .lst)),.ow (.lst (W0.map .int)),.no,.no,.no,.no]= .nx [.sh (owD n ps),.sh (.lst (ll.map .lst)),.ow (.lst (W0.map .int)),.ow (.lst (r0.map .int)),.no,.no,.no]:=by
  have hr:=dw (j:=(n:Int)) (by lia) (by lia);have h:aJI [.sh (owD n ps),.sh (.lst (ll.map .lst)),.ow (.lst (W0.map .int)),.no,.no,.no,.no]= .ok (.lst (r0.map .int)):=by
   refine lH (ds:=(upI (n:Int)).map .int) (by rw[<-yW];simp[shE,lV,owD,hr]) (by rw[zAD,g8];lia) ?_;rw[hr0];refine lG (fg:=gnm 0) (f:=D.int) (g:=D.int) (t:=λ x=>wt ps [] x==0) (upI n) λ x hx=>⟨[.sh (.int x),.sh (.lst (W0.map .int))],rfl,?_,rfl⟩
   obtain⟨x0,x1⟩:=mU.mp hx;have h1:=aKb x0 (hWx x x0 x1);have e1:op2 ixD (aD 1) (aD 0) [.sh (.int x),.sh (.lst (W0.map .int))]= .ok (.int (wt ps [] x:Int)):=by
    rw[cz]
    show((Rs.ok (D.lst (W0.map .int))).bd λ y=>(Rs.ok (D.int x)).bd λ z=>okD (ixD y z))=_
    rw[aK,aK];show okD (atD (W0.map .int) x)=_;rw[h1];rfl
   rw[uM,cz,e1,aK];show Rs.ok ((wt ps [] x:Int)==0)=_;have hz:((wt ps [] x:Int)==0)=(wt ps [] x==0):=by
    generalize wt ps [] x=k;rw[zDA,beq_iff_eq,beq_iff_eq];lia
   rw[hz]
  rw[tY,h,bx];rfl
 have b4:lu 4 (dR aG) [.sh (owD n ps),.sh (.lst (ll.map .lst)),.ow (.lst (W0.map .int)),.ow (.lst (r0.map .int)),.no,.no,.no]= .nx (oE n ps ll W0 r0 [] .no .no):=by simp
 simp only[cY,iJ,bI,st];rw[aQ,b1,az,aQ,b2,az,aQ,b3,az,aQ,b4,az,aQ,ew,az];simp
def rm{n:Nat}{ps:List (Int×Int)}(O:Ow n ps)(U:Up n ps):cR [owD n ps]= .ok .non:=by
 obtain⟨od,e,hl,_⟩:=ug O U;have ck:=rn O;have st:ak 2 [owD n ps]=[.sh (owD n ps),.no]:=rfl;have hi:qH (.tup (od.map D.int))= .ok (.tup (od.map D.int)):=nH (by simp only[imm];exact ju od);have h1:gM [owD n ps]= .ok (.tup (od.map .int)):=by
  have ho:(od.length:Int)=n:=by lia
  simp only[gM,cV,bI,st];have c0:xg (aN cT (aA (aD 0) aG)) [.sh (owD n ps),.no]= .nx [.sh (owD n ps),.no]:=by simp[ck]
  have c1:cG 1 (aN cY (aA (aD 0) aG)) [.sh (owD n ps),.no]= .nx [.sh (owD n ps),.sh (.lst (od.map .int))]:=by simp[e]
  rw[aQ,c0,az,aQ,c1,az];simp[owD,ho,hi]
 have st1:ak 1 [owD n ps]=[.sh (owD n ps)]:=rfl;have g:isD false (.tup (od.map D.int)) .non= .ok (.bl false):=rfl;simp only[cR,cC,bI,st1];simp[h1,g]
def aJR(h:knd d=true):laA [.sh d,.sh (.int m)]= .ok (.bl (bj m d)):=by
 have:=yw h
 unfold laA;simp[this];cases d<;>simp[uK,bj]
 rename_i i;by_cases h0:0<=i<;>simp[h0]
def o9(m:Int):D->Bool
 | .tup ts=>ts.all (bj m)&&lW ltI (ts.map intOf)
 |_=>false
def wZ(h:pln d=true)(hs:ql d=true):dg [.int m,d]= .ok (.bl (o9 m d)):=by
 cases d with
 |tup ts=>
  have hp:gQ ts=true:=by simpa[pln]using h
  have hl:ts.length<=100000:=by simpa[ql]using hs
  have L:=nJ (a:=gnm 2) (u:=ifS (lX (tst (aN cQ (aA (aD 0) (aA (aD 2) aG))))) (retS (cD (.bl false))) Ou.nx) (r:=.bl false)
   ts (λ i=>match ts[i]? with|some t=>bj m t|none=>true) (λ Y=>∃s,Y=[.sh (.int m),.sh (.tup ts),s]) [.sh (.int m),.sh (.tup ts),.no] ⟨_,rfl⟩ (by
    rintro i d Y hd ⟨s,rfl⟩;have e:=mV (m:=m) (jN (gP hp (zAh hd)));simp only[hd];cases c:bj m d with
    |true=>right;exact⟨_,by simp[e,c];rfl,⟨_,rfl⟩,rfl⟩
    |false=>left;exact⟨by simp[e,c],rfl⟩)
  have st:ak 3 [.int m,.tup ts]=[.sh (.int m),.sh (.tup ts),.no]:=rfl;rcases L with ⟨e,i,hi,o⟩|⟨Y',e,⟨s,rfl⟩,o⟩
  .have:ts.all (bj m)=false:=by
    rw[zGV];rw[zAB hi]at o;exact⟨ts[i],zCq hi,by simpa using o⟩
   simp only[dg,cI,bI,st];simp[e,o9,this]
  .have:ts.all (bj m)=true:=by
    rw[zBJ];intro t ht;obtain⟨i,hi,rfl⟩:=zBq ht
    have:=o i hi
    rw[zAB hi]at this;exact this
   have er:=aAb (ps:=ts.map intOf) (by rw[zAD];exact hl);rw[(jO this).1]at er;simp only[dg,cI,bI,st];simp[e,o9,this,er]
 |_=>simp[dg,cI,ak,jt (jN h),mW,o9]
def pZ(h:pln d=true)(hs:ql d=true):dZ [d,.int m]= .ok (.bl (o9 m d)):=by
 have st:ak 2 [d,.int m]=[.sh d,.sh (.int m)]:=rfl;simp only[dZ,bh,bI,st];cases d with
 |tup ts=>
  have hp:gQ ts=true:=by simpa[pln]using h
  have hl:ts.length<=100000:=by simpa[ql]using hs
  have hc:lcD (dj (aD 0)) [none,some 1] (gnm 0) fU laA [.sh (.tup ts),.sh (.int m)]= .ok (.lst (ts.map λ t=>.bl (bj m t))):=by
   refine lH (ds:=ts) rfl (by omega) (yu ts λ d hd=>⟨_,rfl,?_⟩);exact aJR (jN (gP hp hd))
  have ha:=aJi hc;rw[aQ,zJ,aE3,aCQ,aCQ,aBB,aBB,ha];cases c:ts.all (bj m)with
  |false=>simp[o9,c]
  |true=>
   have er:=yx (ps:=ts.map intOf) (by rw[zAD];exact hl);rw[(jO c).1]at er;simp[o9,c,er]
 |_=>simp[jt (jN h),mW,o9]
def dm:D->List Int
 | .tup ts=>ts.map intOf
 |_=>[]
def aAM(h:o9 m d=true):d= .tup ((dm d).map .int):=by
 cases d with
 |tup ts=>
  unfold o9 at h;rw[zAQ]at h;unfold dm;dsimp only;rw[(jO h.1).1]
 |_=>cases h
def aJq(n:Int):(upI n).Pairwise (·< ·):=by
 unfold upI;rw[zDU];exact(List.pairwise_lt_range).imp λ h=>by lia
def aDu{l:List Int}(h:l.Pairwise (·< ·)):lW ltI l=true:=by
 induction l with
 |nil=>rfl
 |cons a l ih=>
  cases l with
  |nil=>rfl
  |cons b l=>
   have h1:=(zA4.mp h).1 b zAN;unfold lW;rw[ih (zA4.mp h).2,zD0];simpa[ltI]using h1
def lpT:En->Rs Bool:=tsb (op2 ltD (aN aR (aA (aD 1) (aA (op2 bN (op2 bN (aD 2) (cD (.int 1))) (aD 0)) (aA (cD (.int 5)) aG)))) (aD 3))
def wR{c s n:Int}(s0:0<=s)(s1:s<=1000)(n0:0<=n)(n1:n<=60):∃xs:List Int,fQ [.int c,.int s,.int n]= .ok (.tup (xs.map .int))/\xs.Sublist (upI n):=by
 obtain⟨r,e,b⟩:=fL (c:=c) (k:=s) (b:=4) (by lia) (by lia) (by decide) (by decide);have st:ak 4 [.int c,.int s,.int n]=[.sh (.int c),.sh (.int s),.sh (.int n),.no]:=rfl;have hr:=dw (j:=n) (by lia) (by lia);obtain⟨t,ht⟩:∃t:Int->Bool,∀x∈upI n,lpT [.sh (.int x),.sh (.int c),.sh (.int s),.sh (.int (1+(r:Int)))]= .ok (t x):=by
  refine⟨λ x=>match lpT [.sh (.int x),.sh (.int c),.sh (.int s),.sh (.int (1+(r:Int)))]with| .ok b=>b|_=>false,λ x hx=>?_⟩;obtain⟨x0,x1⟩:=mU.mp hx;obtain⟨r2,e2,_⟩:=fL (c:=c) (k:=s+1+x) (b:=5) (by lia) (by lia) (by decide) (by decide)
  have:lpT [.sh (.int x),.sh (.int c),.sh (.int s),.sh (.int (1+(r:Int)))]= .ok (decide ((r2:Int)<1+(r:Int))):=by
   unfold lpT;simp[e2]
  dsimp only;rw[this]
 refine⟨(upI n).filter t,?_,List.filter_sublist⟩;have hc:lcD (dJ fY (aA (aD 2) aG)) [none,some 0,some 1,some 3] (gnm 0) lpT (aa (aD 0)) [.sh (.int c),.sh (.int s),.sh (.int n),.sh (.int (1+(r:Int)))]= .ok (.lst (((upI n).filter t).map .int)):=by
  refine lH (ds:=(upI n).map .int) (by rw[<-yW];simp[shE,lV,hr]) (by rw[zAD,g8];lia) ?_;exact lG (fg:=gnm 0) (f:=D.int) (g:=D.int) (t:=t) (upI n) λ x hx=>⟨[.sh (.int x),.sh (.int c),.sh (.int s),.sh (.int (1+(r:Int)))],rfl,ht x hx,rfl⟩
 have e1:cG 3 (op2 bN (cD (.int 1)) (aN aR (aA (aD 0) (aA (aD 1) (aA (cD (.int 4)) aG))))) [.sh (.int c),.sh (.int s),.sh (.int n),.no]= .nx [.sh (.int c),.sh (.int s),.sh (.int n),.sh (.int (1+(r:Int)))]:=by simp[e]
 have df:dW=bB (cG 3 (op2 bN (cD (.int 1)) (aN aR (aA (aD 0) (aA (aD 1) (aA (cD (.int 4)) aG)))))) (retS (opA cO (aA (lcD (dJ fY (aA (aD 2) aG)) [none,some 0,some 1,some 3] (gnm 0) lpT (aa (aD 0))) aG))):=rfl;simp only[fQ,df,bI,st];rw[aQ,e1,az,jM,fZ,bC,hc];rfl
inductive Rc(ps:List (Int×Int)):Int->Int->Prop where
 |one {a b:Int} (h:(a,b)∈ps):Rc ps a b
 |more {a b c:Int} (h:(a,b)∈ps) (r:Rc ps b c):Rc ps a c
def Rc.snoc{ps:List (Int×Int)}{a b c:Int}(h:Rc ps a b)(k:(b,c)∈ps):Rc ps a c:=by
 induction h with
 |one h=>exact .more h (.one k)
 |more h _ ih=>exact .more h (ih k)
def Rc.trans{ps:List (Int×Int)}{a b c:Int}(h:Rc ps a b)(k:Rc ps b c):Rc ps a c:=by
 induction h with
 |one h=>exact .more h k
 |more h _ ih=>exact .more h (ih k)
def Rc.of_closed{ps:List (Int×Int)}{P:Int->Int->Prop}(h1:∀a b,(a,b)∈ps->P a b)(h2:∀a b c,P a b->(b,c)∈ps->P a c){a b:Int}(h:Rc ps a b):P a b:=by
 have key:∀{a b:Int},Rc ps a b->∀z,P z a->P z b:=λ{a b} h=>by
  induction h with
  |one h=>exact λ z q=>h2 _ _ _ q h
  |more h _ ih=>exact λ z q=>ih z (h2 _ _ _ q h)
 cases h with
 |one h=>exact h1 _ _ h
 |more h r=>exact key r _ (h1 _ _ h)
structure IsR(ps rs:List (Int×Int)):Prop where
 ris:tL rs=true
 mem:∀p,p∈rs↔Rc ps p.1 p.2
def nA{ps:List (Int×Int)}(h:tL ps=true):ps.Nodup:=by
 have:=mH.mp h
 rw[zCQ];exact this.imp λ{a b} h e=>by subst e;lia
theorem aAF{α:Type}{lt:α->α->Prop}(as:∀a b,lt a b->¬lt b a):∀{l m:List α},l.Pairwise lt->m.Pairwise lt->(∀x,x∈l↔x∈m)->l=m
 |[],[],_,_,_=>rfl
 |[],y::m,_,_,h=>absurd ((h y).mpr zAN) (by simp)
 |x::l,[],_,_,h=>absurd ((h x).mp zAN) (by simp)
 |x::l,y::m,h1,h2,h=>by
  obtain⟨a1,a2⟩:=zA4.mp h1;obtain⟨b1,b2⟩:=zA4.mp h2;have e:x=y:=by
   rcases zAR.mp ((h x).mp zAN)with e|e
   .exact e
   .rcases zAR.mp ((h y).mpr zAN)with e2|e2
    .exact e2.symm
    .exact absurd (a1 y e2) (as _ _ (b1 x e))
  subst e;have ir:∀z,lt z z->False:=λ z q=>as z z q q
  refine congrArg (x::·) (aAF as a2 b2 λ z=>⟨λ hz=>?_,λ hz=>?_⟩)
  .rcases zAR.mp ((h z).mp (zAM _ hz))with e|e
   .subst e;exact(ir z (a1 z hz)).elim
   .exact e
  .rcases zAR.mp ((h z).mpr (zAM _ hz))with e|e
   .subst e;exact(ir z (b1 z hz)).elim
   .exact e
def IsR.uniq{ps rs ss:List (Int×Int)}(h:IsR ps rs)(k:IsR ps ss):rs=ss:=
 aAF (lt:=λ p q:Int×Int=>p.1<q.1\/p.1=q.1/\p.2<q.2) (λ a b h k=>by lia) (mH.mp h.ris) (mH.mp k.ris) λ x=>(h.mem x).trans (k.mem x).symm
def Rc.up{ps:List (Int×Int)}{n:Nat}{os:List Int}(ho:aFc n os)(hu:∀p∈ps,∃q:Nat×Nat,q.1<q.2/\q.2<n/\p=ar os q){a b:Int}(h:Rc ps a b):∃q:Nat×Nat,q.1<q.2/\q.2<n/\(a,b)=ar os q:=by
 have inj:∀k l,k<n->l<n->os.getD k 0=os.getD l 0->k=l:=λ k l hk hl e=>by
  have k1:k<os.length:=by rw[ho.len];exact hk
  have k2:l<os.length:=by rw[ho.len];exact hl
  have:os[k]? =os[l]?:=by
   rw[zAB k1,zAB k2];simpa[k1,k2]using e
  exact(zB8 k1 ho.nd).mp this
 induction h with
 |one h=>exact hu _ h
 |more h _ ih=>
  obtain⟨q,q1,q2,e⟩:=hu _ h;obtain⟨r,r1,r2,f⟩:=ih;have e1:=congrArg zE8 e;have e2:=congrArg zFW e;have f1:=congrArg zE8 f;have f2:=congrArg zFW f
  have:=inj q.2 r.1 q2 (by lia) (e2.symm.trans f1)
  exact⟨(q.1,r.2),by simp only;lia,r2,zD3 e1 f2⟩
theorem IsR.up{ps rs:List (Int×Int)}{n:Nat}(h:IsR ps rs)(U:Up n ps):Up n rs:=by
 obtain⟨os,ho,hu⟩:=U;exact⟨os,ho,λ p hp=>((h.mem p).mp hp).up ho hu⟩
def Rc.rg{ps:List (Int×Int)}{n:Int}(O:Ow n ps){a b:Int}(h:Rc ps a b):0<=a/\a<n/\0<=b/\b<n:=by
 induction h with
 |one h=>have:=O.pr _ h;exact⟨this.1,this.2.1,this.2.2.1,this.2.2.2.1⟩
 |more h _ ih=>have:=O.pr _ h;exact⟨this.1,this.2.1,ih.2.2.1,ih.2.2.2⟩
def Up.irr{ps:List (Int×Int)}{n:Nat}(U:Up n ps){a b:Int}(h:Rc ps a b)(k:Rc ps b a):False:=by
 obtain⟨os,ho,hu⟩:=U;obtain⟨q,q1,q2,e⟩:=(h.trans k).up ho hu;have inj:∀k l,k<n->l<n->os.getD k 0=os.getD l 0->k=l:=λ k l hk hl e=>by
  have k1:k<os.length:=by rw[ho.len];exact hk
  have k2:l<os.length:=by rw[ho.len];exact hl
  have:os[k]? =os[l]?:=by
   rw[zAB k1,zAB k2];simpa[k1,k2]using e
  exact(zB8 k1 ho.nd).mp this
 have e1:=congrArg zE8 e;have e2:=congrArg zFW e
 have:=inj q.1 q.2 (by lia) q2 (e1.symm.trans e2)
 lia
def nM{n:Nat}(hn:n<=9){rs:List (Int×Int)}(nd:rs.Nodup)(U:Up n rs):rs.length<=36:=by
 obtain⟨os,ho,hu⟩:=U
 have:=nd.length_le_of_subset (l₂:=((zA3 9).flatMap λ b=>(zA3 b).map λ a=>(a,b)).map (ar os)) λ p hp=>by
  obtain⟨q,q1,q2,rfl⟩:=hu p hp;refine zAd.mpr ⟨q,zCr.mpr ⟨q.2,by simp;lia,zAd.mpr ⟨q.1,by simp;lia,rfl⟩⟩,rfl⟩
 rw[zAD]at this;have h36:((zA3 9).flatMap λ b=>(zA3 b).map λ a=>(a,b)).length=36:=by decide
 lia
def IsR.ow{ps rs:List (Int×Int)}{n:Nat}(hn:n<=9)(h:IsR ps rs)(O:Ow n ps)(U:Up n ps):Ow n rs:=
 ⟨O.n0,O.n1,by have:=nM hn (nA h.ris) (h.up U);lia,λ p hp=>by
  have r:=(h.mem p).mp hp;obtain⟨a,b,c,d⟩:=r.rg O;exact⟨a,b,c,d,λ e=>U.irr r (by rw[e];rw[e]at r;exact r)⟩,h.ris⟩
def IsR.again{ps rs:List (Int×Int)}(h:IsR ps rs):IsR rs rs:=by
 refine⟨h.ris,λ p=>⟨λ hp=>.one hp,λ r=>(h.mem p).mpr ?_⟩⟩;exact Rc.of_closed (P:=Rc ps) (λ a b q=>(h.mem _).mp q) (λ a b c q k=>q.trans ((h.mem _).mp k)) r
def aDJ(neg:Bool)(q:Int×Int)(ps:List (Int×Int)):inR neg (pD q) (.lst (ps.map pD))= .ok (.bl (if neg then !decide (q∈ps)else decide (q∈ps))):=aEs neg q ps
abbrev rE(n:Int)(ps fs:List (Int×Int))(k:Nat)(s3 s4:Slot):En:=[.sh (owD n ps),.ow (.lst (fs.map pD)),.sh (.int k),s3,s4]
structure Wd(ps fs:List (Int×Int))(k:Nat):Prop where
 nd:fs.Nodup
 sub:∀p∈ps,p∈fs
 rc:∀p∈fs,Rc ps p.1 p.2
 le:k<=fs.length
 cl:∀i,i<k->∀p,fs[i]? =some p->∀c,(p.2,c)∈ps->(p.1,c)∈fs
def uv(ps fs:List (Int×Int))(q:Int×Int):List (Int×Int):=(ps.filter λ p=>p.1==q.2&& !decide ((q.1,p.2)∈fs)).map λ p=>(q.1,p.2)
def uy{ps fs:List (Int×Int)}{q x:Int×Int}:x∈uv ps fs q↔x.1=q.1/\(q.2,x.2)∈ps/\x∉fs:=by
 unfold uv;rw[zAd];constructor
 .rintro⟨p,hp,rfl⟩
  obtain⟨h1,h2⟩:=zB5.mp hp;simp only[zAQ,beq_iff_eq,zCd,decide_eq_false_iff_not]at h2;exact⟨rfl,by rw[<-h2.1];exact h1,h2.2⟩
 .rintro⟨h1,h2,h3⟩
  have e:(q.1,x.2)=x:=zD3 h1.symm rfl;exact⟨(q.2,x.2),zB5.mpr ⟨h2,by simp[e,h3]⟩,e⟩
def Wd.step{ps fs:List (Int×Int)}{k:Nat}{q:Int×Int}(nd:ps.Nodup)(W:Wd ps fs k)(hq:fs[k]? =some q):Wd ps (fs++uv ps fs q) (k+1):=by
 have hk:k<fs.length:=(zAL.mp hq).1;refine⟨?_,λ p hp=>zA1 _ (W.sub p hp),λ p hp=>?_,by rw[zAb];lia,λ i hi p hp c hc=>?_⟩
 .rw[zB0]
  refine⟨W.nd,?_,λ a ha b hb e=>?_⟩
  .refine rJ (nd.filter _) λ x hx y hy e=>?_
   have hx1:=(zB5.mp hx).2;have hy1:=(zB5.mp hy).2;simp only[zAQ,beq_iff_eq]at hx1 hy1;exact zD3 (hx1.1.trans hy1.1.symm) (Prod.mk.inj e).2
  .subst e
   exact(uy.mp hb).2.2 ha
 .rcases zAe.mp hp with h|h
  .exact W.rc p h
  .obtain⟨h1,h2,_⟩:=uy.mp h
   rw[h1];exact(W.rc q (zAh hq)).snoc h2
 .rw[zBj (by lia)]at hp
  by_cases c1:i<k
  .exact zA1 _ (W.cl i c1 p hp c hc)
  .have:i=k:=by lia
   subst this;rw[hq]at hp;cases hp;by_cases c2:(q.1,c)∈fs
   .exact zA1 _ c2
   .exact zAZ _ (uy.mpr ⟨rfl,hc,c2⟩)
def Wd.few{ps fs:List (Int×Int)}{k n:Nat}(hn:n<=9)(U:Up n ps)(W:Wd ps fs k):fs.length<=36:=by
 obtain⟨os,ho,hu⟩:=U;exact nM hn W.nd ⟨os,ho,λ p hp=>(W.rc p hp).up ho hu⟩
def aJO{n:Int}{ps fs:List (Int×Int)}{k:Nat}{q:Int×Int}(hl:ps.length<=3600):lrX (rE n ps fs k (.sh (.int q.1)) (.sh (.int q.2)))= .ok (.lst ((uv ps fs q).map pD)):=by
 refine lH (ds:=ps.map pD) (by simp[shE,lV,owD]) (by rw[zAD];lia) ?_;unfold uv;rw[zBG];refine lG (f:=pD) (g:=pD∘λ p=>(q.1,p.2)) (t:=λ p=>p.1==q.2&& !decide ((q.1,p.2)∈fs)) ps λ p _=>⟨[.sh (.int p.1),.sh (.int p.2),.sh (.int q.1),.sh (.int q.2),.sh (.lst (fs.map pD))],?_,?_,?_⟩
 .first|rfl|simp[pD,shE,lV,stE]
 .have e1:tsb (op2 (eqR false) (aD 0) (aD 3)) [.sh (.int p.1),.sh (.int p.2),.sh (.int q.1),.sh (.int q.2),.sh (.lst (fs.map pD))]= .ok (p.1==q.2):=by first|rfl|simp
  have e2:tsb (op2 (inR true) (bY (aA (aD 2) (aA (aD 1) aG))) (aD 4)) [.sh (.int p.1),.sh (.int p.2),.sh (.int q.1),.sh (.int q.2),.sh (.lst (fs.map pD))]= .ok (!decide ((q.1,p.2)∈fs)):=by
   have h:bY (aA (aD 2) (aA (aD 1) aG)) [.sh (.int p.1),.sh (.int p.2),.sh (.int q.1),.sh (.int q.2),.sh (.lst (fs.map pD))]= .ok (pD (q.1,p.2)):=by simp[pD]
   rw[uM,cz,h,aK]
   show(okD (inR true (pD (q.1,p.2)) (.lst (fs.map pD)))).bd blD=_
   rw[aDJ];rfl
  unfold lrT;rw[zX,e1,aK,e2];cases p.1==q.2<;>simp
 .simp[pD]
def aJP{n:Int}{ps fs:List (Int×Int)}{k:Nat}{q:Int×Int}{s3 s4:Slot}(hl:ps.length<=3600)(hq:fs[k]? =some q)(h36:fs.length<=36):
  lrW (rE n ps fs k s3 s4)= .nx (rE n ps (fs++uv ps fs q) (k+1:Nat) (.sh (.int q.1)) (.sh (.int q.2))):=by
 have hk:k<fs.length:=(zAL.mp hq).1;have a1:aHT (aa (op2 ixD (fB 1) (aD 2))) (gq 2 (bJ (gnm 3) (bJ (gnm 4) iw))) (rE n ps fs k s3 s4)= .nx (rE n ps fs k (.sh (.int q.1)) (.sh (.int q.2))):=by
  have h:atD (fs.map pD) (k:Int)= .ok (pD q):=cP (by rw[zAK,hq];rfl);have e1:aa (op2 ixD (fB 1) (aD 2)) (rE n ps fs k s3 s4)= .ok (pD q):=by
   rw[qC,cz]
   show(((Rs.ok (D.lst (fs.map pD))).bd λ x=>(Rs.ok (D.int k)).bd λ y=>okD (ixD x y)).bd qH)=_
   rw[aK,aK]
   show((okD (atD (fs.map pD) (k:Int))).bd qH)=_
   rw[h];rfl
  rw[aHS,e1,bx]
  first|rfl|simp[pD]
 have a2:aFP 1 lrX (rE n ps fs k (.sh (.int q.1)) (.sh (.int q.2)))= .nx (rE n ps (fs++uv ps fs q) k (.sh (.int q.1)) (.sh (.int q.2))):=by
  have hz:(uv ps fs q).length<=3600:=by
   unfold uv;rw[zAD];exact zA5 (zFb _ _) hl
  unfold aFP;dsimp only[zAj,zAy];rw[aJO hl,bx];unfold aJa;dsimp only;rw[if_pos (by rw[zAD,zAD,szl];lia)];simp
 have a3:cG 2 (op2 bN (aD 2) (cD (.int 1))) (rE n ps (fs++uv ps fs q) k (.sh (.int q.1)) (.sh (.int q.2)))= .nx (rE n ps (fs++uv ps fs q) (k+1:Nat) (.sh (.int q.1)) (.sh (.int q.2))):=by first|rfl|simp
 unfold lrW;rw[aQ,a1,az,aQ,a2,az,a3]
def zA{n:Nat}{ps:List (Int×Int)}(hn:n<=9)(O:Ow n ps)(U:Up n ps):∃rs,gZ [owD n ps]= .ok (owD n rs)/\IsR ps rs:=by
 have nd:=nA O.ris;have hl:=O.len;have hc:∀{fs:List (Int×Int)} {k:Nat} {s3 s4:Slot},tsb (op2 ltD (aD 2) (opA gm (aA (fB 1) aG))) (rE n ps fs k s3 s4)= .ok (decide ((k:Int)<fs.length)):=λ{fs k s3 s4}=>by
  first|rfl|simp
 have W0:Wd ps ps 0:=⟨nd,λ p hp=>hp,λ p hp=>.one hp,zAc _,λ i hi=>absurd hi (zDn _)⟩;obtain⟨Y',m',ew,⟨fs,k,s3,s4,rfl,W,_⟩,ec⟩:=za (c:=tsb (op2 ltD (aD 2) (opA gm (aA (fB 1) aG)))) (b:=lrW) (λ m Y=>∃fs k s3 s4,Y=rE n ps fs k s3 s4/\Wd ps fs k/\m=100-k) (by
  rintro m Y ⟨fs,k,s3,s4,rfl,W,rfl⟩;rw[hc];have h36:=W.few hn U;by_cases c:k<fs.length
  .refine .inr ⟨by rw[decide_eq_true];lia,_,100-(k+1),aJP hl (zAB c) h36,by lia,_,k+1,_,_,rfl,W.step nd (zAB c),rfl⟩
  .exact .inl (by rw[decide_eq_false];lia)) (m:=100) (by decide) ⟨ps,0,.no,.no,rfl,W0,rfl⟩
 have hk:k=fs.length:=by
  rw[hc]at ec
  have:=of_decide_eq_false (Rs.ok.inj ec)
  have:=W.le
  lia
 subst hk;have h36:=W.few hn U;obtain⟨qs,s1,s2,s3'⟩:=uR W.nd (by lia);refine⟨qs,?_,s3',λ p=>?_⟩
 .have st:ak 5 [owD n ps]=[.sh (owD n ps),.no,.no,.no,.no]:=rfl
  have hi:qH (.tup (ps.map pD))= .ok (.tup (ps.map pD)):=nH (by
   simp only[imm];exact uF λ d hd=>by obtain⟨p,_,rfl⟩:=zAd.mp hd;rfl)
  have a1:lu 1 (opA vA (aA (aa (op2 ixD (aD 0) (cD (.int 1)))) aG)) [.sh (owD n ps),.no,.no,.no,.no]= .nx [.sh (owD n ps),.ow (.lst (ps.map pD)),.no,.no,.no]:=by
   have e:aa (op2 ixD (aD 0) (cD (.int 1))) [.sh (owD n ps),.no,.no,.no,.no]= .ok (.tup (ps.map pD)):=by
    rw[qC];exact hi
   rw[tY,fZ,bC,e];rfl
  have a2:cG 2 (cD (.int 0)) [.sh (owD n ps),.ow (.lst (ps.map pD)),.no,.no,.no]= .nx (rE n ps ps (0:Nat) .no .no):=by first|rfl|simp
  have a3:opA iU (aA (fB 1) aG) (rE n ps fs fs.length s3 s4)= .ok (.lst (qs.map pD)):=by
   have hv:(aA (fB 1) aG) (rE n ps fs fs.length s3 s4)= .ok [.lst (fs.map pD)]:=by first|rfl|simp
   rw[fZ,hv,aK,s1,gk]
  have a4:retS (bY (aA (aa (op2 ixD (aD 0) (cD (.int 0)))) (aA (opA cO (aA (opA iU (aA (fB 1) aG)) aG)) aG))) (rE n ps fs fs.length s3 s4)= .rt (owD n qs):=by
   have ha:aA (opA iU (aA (fB 1) aG)) aG (rE n ps fs fs.length s3 s4)= .ok [.lst (qs.map pD)]:=by rw[bC,a3,aK,dO,aK]
   have hb:opA cO (aA (opA iU (aA (fB 1) aG)) aG) (rE n ps fs fs.length s3 s4)= .ok (.tup (qs.map pD)):=by rw[fZ,ha,aK,kh,gk]
   have hc:aa (op2 ixD (aD 0) (cD (.int 0))) (rE n ps fs fs.length s3 s4)= .ok (.int n):=by first|rfl|simp[owD]
   rw[jM,yG,bC,hc,aK,bC,hb,aK,dO,aK,aK,aK,if_pos (by simp),bx];rfl
  simp only[gZ,eX,bI,st];rw[aQ,a1,az,aQ,a2,az,aQ,ew,az,a4]
 .rw[s2.mem_iff]
  refine⟨W.rc p,λ r=>?_⟩;exact Rc.of_closed (P:=λ a b=>(a,b)∈fs) (λ a b h=>W.sub _ h) (λ a b c h k=>by
   obtain⟨i,hi,e⟩:=zBq h;exact W.cl i hi (a,b) (by rw[zAB hi,e]) c k) r
def rD(r:List Int):D:=.lst (r.map .int)
theorem ut{α:Type}{f:α->D}{h:α->List D}{Y:En}{fg:D->En->Rs En}{inn:En->Rs (List D)}:∀(l:List α),(∀x∈l,∃Y1,fg (f x) Y= .ok Y1/\inn Y1= .ok (h x))->nsL Y fg fU inn (l.map f)= .ok (l.flatMap h)
 |[],_=>rfl
 |x::l,k=>by
  obtain⟨Y1,e1,e2⟩:=k x zAN;have ih:=ut l λ y hy=>k y (zAM _ hy)
  rw[zAT,List.flatMap_cons]
  show((fg (f x) Y).bd λ Y1=>(fU Y1).bd λ k=>if k=true then(inn Y1).bd λ ys=>(nsL Y fg fU inn (l.map f)).bd λ zs=>.ok (ys++zs)else _)=_
  rw[e1,aK,show fU Y1= .ok true from rfl,aK,if_pos rfl,e2,aK,ih,aK]
structure Rr(ps:List (Int×Int))(x:Int)(r:List Int):Prop where
 lt:r.Pairwise (·< ·)
 mem:∀b,b∈r↔Rc ps x b
def aIL(ns:List Int):(sortI (ddI ns)).Pairwise (·< ·)/\∀b,b∈sortI (ddI ns)↔b∈ns:=by
 have hp:=sortI_perm (ddI ns);have nd:(sortI (ddI ns)).Nodup:=hp.nodup_iff.mpr (xq ns);refine⟨((iD (ddI ns)).and nd).imp λ{a b} h=>by have:=h.1;have:=h.2;lia,λ b=>by rw[hp.mem_iff,aCS]⟩
def aDV{L r l:List Int}{x p:Int}{i:Nat}(nd:L.Nodup)(hi:L[i]? =some p)(e:L=r++x::l)(hp:p∈l):x∈L.take i:=by
 obtain⟨j,hj,ej⟩:=zBq hp;have h1:L[r.length+1+j]? =some p:=by
  rw[e,zBe (by lia)]
  have:r.length+1+j-r.length=j+1:=by lia
  rw[this,zAj,zAB hj,ej]
 have hl:i<L.length:=(zAL.mp hi).1;have hij:i=r.length+1+j:=(zB8 hl nd).mp (hi.trans h1.symm);have h2:(L.take i)[r.length]? =some x:=by
  rw[zFI (by lia),e];simp
 exact zAh h2
abbrev aE(n:Int)(ps:List (Int×Int))(ll:List (List D))(rr:List (List Int))(s3:Slot):En:=[.sh (owD n ps),.sh (.lst (ll.map .lst)),.ow (.lst (rr.map rD)),s3]
section
variable{n:Int}{ps:List (Int×Int)}{ll:List (List D)}{rr:List (List Int)}
def aKF{x:Int}(x0:0<=x)(x1:x<rr.length):atD (rr.map rD) x= .ok (rD (rr.getD x.toNat [])):=by
 have e:x=((x.toNat:Nat):Int):=by lia
 have hk:x.toNat<rr.length:=by lia
 rw[e];refine cP ?_;rw[zCP,zAK,zAB hk];simp[hk]
def aJg{x:Int}(x0:0<=x)(x1:x<rr.length)(hz:∀r∈rr,r.length<=60):arI [.sh (.int x),.no,.sh (.lst (rr.map rD))]= .ok ((x::rr.getD x.toNat []).map .int):=by
 have hk:x.toNat<rr.length:=by lia
 have hr:(rr.getD x.toNat []).length<=60:=by
  refine hz _ ?_;simp[hk]
 have hi:dj (op2 bN (dR (aA (aD 0) aG)) (op2 ixD (aD 2) (aD 0))) [.sh (.int x),.no,.sh (.lst (rr.map rD))]= .ok ((x::rr.getD x.toNat []).map .int):=by
  have e1:dR (aA (aD 0) aG) [.sh (.int x),.no,.sh (.lst (rr.map rD))]= .ok (.lst [.int x]):=by first|rfl|simp
  have e2:op2 ixD (aD 2) (aD 0) [.sh (.int x),.no,.sh (.lst (rr.map rD))]= .ok (rD (rr.getD x.toNat [])):=by
   rw[cz]
   show((Rs.ok (D.lst (rr.map rD))).bd λ y=>(Rs.ok (D.int x)).bd λ z=>okD (ixD y z))=_
   rw[aK,aK];show okD (atD (rr.map rD) x)=_;rw[aKF x0 x1];rfl
  have e3:bN (.lst [.int x]) (rD (rr.getD x.toNat []))= .ok (.lst ((x::rr.getD x.toNat []).map .int)):=by
   show(if [D.int x].length+((rr.getD x.toNat []).map D.int).length<=zAP then Rs.ok (D.lst ([D.int x]++(rr.getD x.toNat []).map D.int))else .st)=_
   rw[if_pos (by rw[szl,zAD,zFc];lia)];rfl
  rw[uD,cz,e1,aK,e2,aK,e3];rfl
 have hm:=rP (Y:=[.sh (.int x),.no,.sh (.lst (rr.map rD))]) (fg:=gnm 1) (fe:=aa (aD 1)) (f:=D.int) (g:=D.int) (x::rr.getD x.toNat []) λ y _=>⟨_,rfl,rfl⟩
 unfold arI inL;rw[if_pos (by rfl),hi,aK,hm]
def aJf{p:Int}(O:Ow n ps)(N:aH0 n ps ll)(p0:0<=p)(p1:p<n)(hl:rr.length=n.toNat)(hz:∀r∈rr,r.length<=60)(hg:∀x∈cB ps p,Rr ps x (rr.getD x.toNat [])):
  ∃r,arX (aE n ps ll rr (.sh (.int p)))= .ok (rD r)/\Rr ps p r/\r.length<=60:=by
 obtain⟨ns,hns⟩:∃ns,ns=(cB ps p).flatMap λ x=>x::rr.getD x.toNat []:=⟨_,rfl⟩
 have hrc:∀b,b∈ns↔Rc ps p b:=λ b=>by
  rw[hns,zCr];constructor
  .rintro⟨x,hx,hb⟩
   have hp:=gn.mp hx;rcases zAR.mp hb with rfl|hb
   .exact .one hp
   .exact .more hp (((hg x hx).mem b).mp hb)
  .intro h
   cases h with
   |one h=>exact⟨b,gn.mpr h,zAN⟩
   |more h r=>exact⟨_,gn.mpr h,zAM _ (((hg _ (gn.mpr h)).mem b).mpr r)⟩
 obtain⟨d1,d2⟩:=aIL ns;have n1:=O.n1;have hlen:(ddI ns).length<=60:=by
  have:=rN (n:=n) (xq ns) λ x hx=>by
   have:=((hrc x).mp ((aCS ns x).mp hx)).rg O
   exact⟨this.2.2.1,this.2.2.2⟩
  lia
 refine⟨sortI (ddI ns),?_,⟨d1,λ b=>(d2 b).trans (hrc b)⟩,by rw[(sortI_perm _).length_eq];exact hlen⟩;have hi:dj (op2 ixD (aD 1) (aD 3)) (shE (aE n ps ll rr (.sh (.int p))))= .ok ((cB ps p).map .int):=by
  have e1:op2 ixD (aD 1) (aD 3) (shE (aE n ps ll rr (.sh (.int p))))= .ok (.lst ((cB ps p).map .int)):=by
   rw[cz]
   show((Rs.ok (D.lst (ll.map .lst))).bd λ x=>(Rs.ok (D.int p)).bd λ y=>okD (ixD x y))=_
   rw[aK,aK];show okD (atD (ll.map .lst) p)=_;rw[N.item p p0 p1];rfl
  rw[uD,e1];rfl
 have hn:nsL (stE [none,none,some 2] (shE (aE n ps ll rr (.sh (.int p))))) (gnm 0) fU arI ((cB ps p).map .int)= .ok (ns.map .int):=by
  have:=ut (Y:=stE [none,none,some 2] (shE (aE n ps ll rr (.sh (.int p))))) (fg:=gnm 0) (inn:=arI) (f:=D.int) (h:=λ x=>(x::rr.getD x.toNat []).map D.int) (cB ps p) λ x hx=>by
   have hx2:=O.pr _ (gn.mp hx);exact⟨[.sh (.int x),.no,.sh (.lst (rr.map rD))],rfl,aJg hx2.2.2.1 (by have:=hx2.2.2.2.1;lia) hz⟩
  rw[this,hns,zGg]
 unfold arX aIK;rw[hi,aK,hn];dsimp only;rw[bw];dsimp only;rw[if_pos (by lia)];rfl
def vq{n:Nat}{ps:List (Int×Int)}(O:Ow n ps)(U:Up n ps):∃rr:List (List Int),cj [owD n ps]= .ok (.lst (rr.map rD))/\rr.length=n/\(∀r∈rr,r.length<=60)/\∀x:Int,0<=x->x<n->Rr ps x (rr.getD x.toNat []):=by
 obtain⟨ll,e1,N⟩:=vy O;obtain⟨od,e2,hlen,nd,rg,tp⟩:=ug O U;have n1:=O.n1;have hall:∀x:Int,0<=x->x<n->x∈od:=λ x x0 x1=>by
  by_cases c:x∈od
  .exact c
  .have:=rN (n:=(n:Int)) (l:=x::od) (zAl.mpr ⟨c,nd⟩) λ y hy=>by
    rcases zAR.mp hy with rfl|hy
    .exact⟨x0,x1⟩
    .exact rg y hy
   rw[zAf]at this;lia
 have ndr:od.reverse.Nodup:=(List.reverse_perm od).nodup_iff.mpr nd;obtain⟨Y',e,rr,s3,rfl,hl,hz,hg⟩:=gU (a:=gnm 3) (u:=aBW 2 (aD 3) arX) (od.reverse.map D.int) (λ i Y=>∃rr s3,Y=aE n ps ll rr s3/\rr.length=n/\(∀r∈rr,r.length<=60)/\∀x∈od.reverse.take i,Rr ps x (rr.getD x.toNat [])) (aE n ps ll (zAI n []) .no)
  ⟨_,_,rfl,zBF,λ r hr=>by rw[(zEI.mp hr).2];simp,λ x hx=>by simp at hx⟩ (by
   rintro i d Y hd ⟨rr,s3,rfl,hl,hz,hg⟩;rw[zAK,zBy]at hd;obtain⟨p,hp,rfl⟩:=hd;obtain⟨p0,p1⟩:=rg p (zBf.mp (zAh hp));have hin:∀x∈cB ps p,x∈od.reverse.take i:=λ x hx=>by
    have hpx:=gn.mp hx;have hb:=O.pr _ hpx;obtain⟨l,r,hlr⟩:=List.append_of_mem (hall x hb.2.2.1 hb.2.2.2.1);exact aDV (r:=r.reverse) (l:=l.reverse) ndr hp (by rw[hlr];simp) (zBf.mpr (tp l x r hlr p hpx))
   obtain⟨r,er,hr,hr60⟩:=aJf (ll:=ll) O N p0 p1 (by lia) hz λ x hx=>hg x (hin x hx)
   refine⟨aE n ps ll (rr.set p.toNat r) (.sh (.int p)),?_,_,_,rfl,by rw[zAw];exact hl,λ q hq=>?_,λ x hx=>?_⟩
   .rw[pF,mO]
    show aBW 2 (aD 3) arX (aE n ps ll rr (.sh (.int p)))=_;unfold aBW;dsimp only[zAj,zAy];rw[er,bx];have hv:aD 3 (aE n ps ll rr (.sh (.int p)))= .ok (.int p):=rfl;rw[hv,bx];have hx:putN (rr.map rD) (.int p)=some p.toNat:=by
     show ixN (rr.map rD).length p=_;unfold ixN;rw[if_pos p0,if_pos (by rw[zAD];lia)]
    rw[hx];dsimp only;rw[<-zH1];rfl
   .rcases zDL hq with h|rfl
    .exact hz q h
    .exact hr60
   .rw[zGY,hp]at hx
    rcases zAe.mp hx with h|h
    .have hne:x≠p:=λ e=>by
      subst e;obtain⟨j,hj,ej⟩:=zBq h;rw[zB7]at hj;have h1:od.reverse[j]? =some x:=by
       rw[<-ej,List.getElem_take];exact zAB (by lia)
      have:=(zB8 (by lia) ndr).mp (h1.trans hp.symm)
      lia
     obtain⟨x0,x1⟩:=rg x (zBf.mp (zFo h));have hk:p.toNat≠x.toNat:=by lia
     have:(rr.set p.toNat r).getD x.toNat []=rr.getD x.toNat []:=by
      rw[zA0,zA0,zBC hk]
     rw[this];exact hg x h
    .have:x=p:=by simpa using h
     subst this;have hk:x.toNat<rr.length:=by lia
     have:(rr.set x.toNat r).getD x.toNat []=r:=by
      rw[zA0,zBD hk];rfl
     rw[this];exact hr)
 rw[zAD,zGj]at hg;refine⟨rr,?_,hl,hz,λ x x0 x1=>hg x (zBf.mpr (hall x x0 x1))⟩;have st:ak 4 [owD n ps]=[.sh (owD n ps),.no,.no,.no]:=rfl;have a1:cG 1 (aN gF (aA (aD 0) aG)) [.sh (owD n ps),.no,.no,.no]= .nx [.sh (owD n ps),.sh (.lst (ll.map .lst)),.no,.no]:=by simp[e1]
 have a2:lu 2 (lcD (dJ fY (aA (op2 ixD (aD 0) (cD (.int 0))) aG)) [none] (gnm 0) fU (dR aG)) [.sh (owD n ps),.sh (.lst (ll.map .lst)),.no,.no]= .nx (aE n ps ll (zAI n []) .no):=by
  have hr:=dw (j:=(n:Int)) (by lia) (by lia);have h:lcD (dJ fY (aA (op2 ixD (aD 0) (cD (.int 0))) aG)) [none] (gnm 0) fU (dR aG) [.sh (owD n ps),.sh (.lst (ll.map .lst)),.no,.no]= .ok (.lst ((upI (n:Int)).map λ _=>rD [])):=by
   refine lH (ds:=(upI (n:Int)).map .int) (by rw[<-yW];simp[shE,lV,owD,hr]) (by rw[zAD,g8];lia) ?_;exact rP (fg:=gnm 0) (fe:=dR aG) (f:=D.int) (g:=λ _=>rD []) (upI n) λ x _=>⟨[.sh (.int x)],rfl,by first|rfl|simp[rD]⟩
  have hrep:((upI (n:Int)).map λ _=>rD [])=(zAI n ([]:List Int)).map rD:=by
   rw[List.map_const',List.map_replicate,g8,zCP]
  rw[tY,h,bx,hrep];rfl
 have a3:iy (dj (op1 aAG (aN cY (aA (aD 0) aG)))) (gnm 3) (aBW 2 (aD 3) arX) (aE n ps ll (zAI n []) .no)= .nx (aE n ps ll rr s3):=by
  have hi:dj (op1 aAG (aN cY (aA (aD 0) aG))) (aE n ps ll (zAI n []) .no)= .ok (od.reverse.map .int):=by
   have h0:aN cY (aA (aD 0) aG) (aE n ps ll (zAI n []) .no)= .ok (.lst (od.map .int)):=by simp[e2]
   have h1:op1 aAG (aN cY (aA (aD 0) aG)) (aE n ps ll (zAI n []) .no)= .ok (.lst (od.reverse.map .int)):=by
    rw[aE6,h0,aK,zE1];rfl
   rw[uD,h1];rfl
  rw[gw,hi,bx,e]
 have a4:retS (qe 2) (aE n ps ll rr s3)= .rt (.lst (rr.map rD)):=by simp
 simp only[cj,cX,bI,st];rw[aQ,a1,az,aQ,a2,az,aQ,a3,az,a4]
end
def aIY{a:Int}{r:List Int}:reI [.sh (.int a),.sh (rD r),.no]= .ok ((r.map λ b=>(a,b)).map pD):=by
 have hm:=rP (Y:=[.sh (.int a),.sh (rD r),.no]) (fg:=gnm 2) (fe:=bY (aA (aa (aD 0)) (aA (aa (aD 2)) aG))) (f:=D.int) (g:=λ b=>pD (a,b)) r λ y _=>⟨_,rfl,by first|rfl|simp[pD]⟩
 have hi:dj (aD 1) [.sh (.int a),.sh (rD r),.no]= .ok (r.map .int):=by first|rfl|simp[rD]
 unfold reI inL;rw[if_pos (by rfl),hi,aK,hm,zBG];rfl
def aJc{n:Nat}{rr:List (List Int)}(hl:rr.length=n):aAi (rr.map rD)=(upI (n:Int)).map λ a=>D.tup [.int a,rD (rr.getD a.toNat [])]:=by
 unfold aAi;refine zER λ k=>?_
 rw[zAK,zAK];by_cases hk:k<n
 .have h1:k<rr.length:=by lia
  unfold upI;rw[zAK,zDB (by lia),zFl,zAK,zAB h1];simp[h1]
 .rw[zCH (by rw[List.length_zipIdx,zAD];lia),zCH (by rw[g8];lia)]
  rfl
def aAI{n:Nat}{ps:List (Int×Int)}(hn:n<=9)(O:Ow n ps)(U:Up n ps):∃rs,dY [owD n ps]= .ok (owD n rs)/\IsR ps rs:=by
 obtain⟨rr,e1,hl,hz,hg⟩:=vq O U;have ck:=rm O U;have R:IsR ps ((upI (n:Int)).flatMap λ a=>(rr.getD a.toNat []).map λ b=>(a,b)):=by
  refine⟨mH.mpr (List.pairwise_flatMap.mpr ⟨λ a ha=>?_,?_⟩),λ p=>?_⟩
  .obtain⟨a0,a1⟩:=mU.mp ha
   rw[zDU];exact(hg a a0 a1).lt.imp λ{x y} h=>.inr ⟨rfl,h⟩
  .refine(aJq (n:Int)).imp λ{x y} h p hp q hq=>?_
   obtain⟨b,_,rfl⟩:=zAd.mp hp;obtain⟨c,_,rfl⟩:=zAd.mp hq;exact .inl h
  .rw[zCr]
   constructor
   .rintro⟨a,ha,hp⟩
    obtain⟨a0,a1⟩:=mU.mp ha;obtain⟨b,hb,rfl⟩:=zAd.mp hp;exact((hg a a0 a1).mem b).mp hb
   .intro h
    have hr:=h.rg O;exact⟨p.1,mU.mpr ⟨hr.1,hr.2.1⟩,zAd.mpr ⟨p.2,((hg p.1 hr.1 hr.2.1).mem p.2).mpr h,rfl⟩⟩
 refine⟨_,?_,R⟩;have h36:=nM hn (nA R.ris) (R.up U);obtain⟨rs,hrs⟩:∃rs,rs=(upI (n:Int)).flatMap λ a=>(rr.getD a.toNat []).map λ b=>(a,b):=⟨_,rfl⟩
 rw[<-hrs]at h36 ⊢;have st:ak 1 [owD n ps]=[.sh (owD n ps)]:=rfl;have a1:xg (aN cR (aA (aD 0) aG)) [.sh (owD n ps)]= .nx [.sh (owD n ps)]:=by simp[ck]
 have a2:reX [.sh (owD n ps)]= .ok (.lst (rs.map pD)):=by
  have hi:dJ aFS (aA (aN cj (aA (aD 0) aG)) aG) (shE [.sh (owD n ps)])= .ok (aAi (rr.map rD)):=by
   have:aN cj (aA (aD 0) aG) (shE [.sh (owD n ps)])= .ok (.lst (rr.map rD)):=by simp[shE,lV,e1]
   rw[aGL,bC,this];rfl
  have hs:=ut (Y:=stE [none,none,none] (shE [.sh (owD n ps)])) (fg:=gq 2 (bJ (gnm 0) (bJ (gnm 1) iw))) (inn:=reI) (f:=λ a=>D.tup [.int a,rD (rr.getD a.toNat [])]) (h:=λ a=>((rr.getD a.toNat []).map λ b=>(a,b)).map pD) (upI n) λ a _=>⟨[.sh (.int a),.sh (rD (rr.getD a.toNat [])),.no],rfl,aIY⟩
  unfold reX aGp;rw[hi,aK,aJc hl,hs];dsimp only
  have:((upI (n:Int)).flatMap λ a=>((rr.getD a.toNat []).map λ b=>(a,b)).map pD)=rs.map pD:=by rw[hrs,zGg]
  rw[this,if_pos (by rw[szl,zAD];lia)]
 have a3:retS (bY (aA (aa (op2 ixD (aD 0) (cD (.int 0)))) (aA (opA cO (aA reX aG)) aG))) [.sh (owD n ps)]= .rt (owD n rs):=by
  have ha:aA reX aG [.sh (owD n ps)]= .ok [.lst (rs.map pD)]:=by rw[bC,a2,aK,dO,aK]
  have hb:opA cO (aA reX aG) [.sh (owD n ps)]= .ok (.tup (rs.map pD)):=by rw[fZ,ha,aK,kh,gk]
  have hc:aa (op2 ixD (aD 0) (cD (.int 0))) [.sh (owD n ps)]= .ok (.int n):=by first|rfl|simp[owD]
  rw[jM,yG,bC,hc,aK,bC,hb,aK,dO,aK,aK,aK,if_pos (by simp),bx];rfl
 simp only[dY,nQ,bI,st];rw[aQ,a1,az,a3]
def apB(rs:List (Int×Int))(l:List Int):Bool:=rs.any λ p=>decide (p.1∈l)&&decide (p.2∈l)
def aF7{α:Type}(f:α->Bool)(l:List α):n8 (λ bs=>bs.any id) [.lst (l.map λ x=>D.bl (f x))]= .ok (.bl (l.any f)):=by
 unfold n8;dsimp only;rw[qX];dsimp only;rw[zH0];rfl
def aAc{n:Nat}{ps rs:List (Int×Int)}{d:D}(e:dY [owD n ps]= .ok (owD n rs))(hl:rs.length<=1000)(h1:pln d=true)(h2:ql d=true):lL [owD n ps,d]= .ok (.bl (o9 n d&& !apB rs (dm d))):=by
 have ep:=wZ (m:=(n:Int)) h1 h2;have st:ak 3 [owD n ps,d]=[.sh (owD n ps),.sh d,.no]:=rfl;have a1:cG 2 (aN dY (aA (aD 0) aG)) [.sh (owD n ps),.sh d,.no]= .nx [.sh (owD n ps),.sh d,.sh (owD n rs)]:=by simp[e]
 simp only[lL,gB,bI,st];rw[aQ,a1,az];cases c:o9 n d with
 |false=>
  rw[c]at ep;have a2:iaI [.sh (owD n ps),.sh d,.sh (owD n rs)]= .rt (.bl false):=by
   unfold iaI;simp[owD,ep]
  rw[aQ,a2];simp
 |true=>
  rw[c]at ep;have a2:iaI [.sh (owD n ps),.sh d,.sh (owD n rs)]= .nx [.sh (owD n ps),.sh d,.sh (owD n rs)]:=by
   unfold iaI;simp[owD,ep]
  have hd:=aAM c;have a3:iaC [.sh (owD n ps),.sh d,.sh (owD n rs)]= .ok (.lst (rs.map λ p=>.bl (decide (p.1∈dm d)&&decide (p.2∈dm d)))):=by
   refine lH (ds:=rs.map pD) (by simp[shE,lV,owD]) (by rw[zAD];lia) ?_;refine rP (f:=pD) (g:=λ p=>.bl (decide (p.1∈dm d)&&decide (p.2∈dm d))) rs λ p _=>⟨[.sh (.int p.1),.sh (.int p.2),.sh d],by first|rfl|simp[pD,shE,lV,stE],?_⟩
   have g1:op2 (inR false) (aD 0) (aD 2) [.sh (.int p.1),.sh (.int p.2),.sh d]= .ok (.bl (decide (p.1∈dm d))):=by
    show okD (inR false (.int p.1) d)=_
    conv=>lhs;rw[hd]
    rw[mX];rfl
   have g2:op2 (inR false) (aD 1) (aD 2) [.sh (.int p.1),.sh (.int p.2),.sh d]= .ok (.bl (decide (p.2∈dm d))):=by
    show okD (inR false (.int p.2) d)=_
    conv=>lhs;rw[hd]
    rw[mX];rfl
   rw[zY,g1,aK,g2];cases decide (p.1∈dm d)<;>rfl
  have a4:op1 aCw (opA (n8 λ bs=>bs.any id) (aA iaC aG)) [.sh (owD n ps),.sh d,.sh (owD n rs)]= .ok (.bl (!apB rs (dm d))):=by
   rw[aE6,fZ,bC,a3,aK,dO,aK,aK,aF7,gk,aK];rfl
  rw[aQ,a2,az,jM,a4];rfl
def aFQ(l:List Int):eqR false (.lst (l.map .int)) (.lst [])= .ok (.bl l.isEmpty):=by
 obtain⟨h1,h2⟩:=qR l;have e:eqD (.lst (l.map .int)) (.lst [])=l.isEmpty:=by cases l<;>simp[eqD,nZ]
 unfold eqR;rw[if_pos (by simp[m8,au,bL,h1,h2]),e];rfl
def zB{n:Nat}{rs:List (Int×Int)}{d:D}(hl:rs.length<=1000)(h1:pln d=true)(h2:ql d=true):jY [owD n rs,d]= .ok (.bl (o9 n d&& !apB rs (dm d))):=by
 have ep:=pZ (m:=(n:Int)) h1 h2;have st:ak 2 [owD n rs,d]=[.sh (owD n rs),.sh d]:=rfl;simp only[jY,eY,bI,st];cases c:o9 n d with
 |false=>
  rw[c]at ep;have a2:lpI [.sh (owD n rs),.sh d]= .rt (.bl false):=by
   unfold lpI;simp[owD,ep]
  rw[aQ,a2];simp
 |true=>
  rw[c]at ep;have a2:lpI [.sh (owD n rs),.sh d]= .nx [.sh (owD n rs),.sh d]:=by
   unfold lpI;simp[owD,ep]
  have hd:=aAM c;have a3:lpC [.sh (owD n rs),.sh d]= .ok (.lst (((rs.filter λ p=>decide (p.1∈dm d)&&decide (p.2∈dm d)).map (·.1)).map .int)):=by
   refine lH (ds:=rs.map pD) (by simp[shE,lV,owD]) (by rw[zAD];lia) ?_;rw[zBG];refine lG (f:=pD) (g:=D.int∘λ p=>p.1) (t:=λ p=>decide (p.1∈dm d)&&decide (p.2∈dm d)) rs λ p _=>⟨[.sh (.int p.1),.sh (.int p.2),.sh d],by first|rfl|simp[pD,shE,lV,stE],?_,rfl⟩
   have g1:tsb (op2 (inR false) (aD 0) (aD 2)) [.sh (.int p.1),.sh (.int p.2),.sh d]= .ok (decide (p.1∈dm d)):=by
    show(okD (inR false (.int p.1) d)).bd blD=_
    conv=>lhs;rw[hd]
    rw[mX];rfl
   have g2:tsb (op2 (inR false) (aD 1) (aD 2)) [.sh (.int p.1),.sh (.int p.2),.sh d]= .ok (decide (p.2∈dm d)):=by
    show(okD (inR false (.int p.2) d)).bd blD=_
    conv=>lhs;rw[hd]
    rw[mX];rfl
   rw[zX,g1,aK,g2];cases decide (p.1∈dm d)<;>rfl
  have a4:op2 (eqR false) lpC (dR aG) [.sh (owD n rs),.sh d]= .ok (.bl (!apB rs (dm d))):=by
   rw[cz,a3,aK]
   show((Rs.ok (D.lst [])).bd λ y=>okD (eqR false _ y))=_
   rw[aK,aFQ,gk];refine congrArg (λ b=>Rs.ok (D.bl b)) ?_;unfold apB;rw[zDA,List.isEmpty_iff,List.map_eq_nil_iff,zDb];simp only[zCd,zGW]
  rw[aQ,a2,az,jM,a4];rfl
def aKa{ts:List D}{ws:List Int}(e:ws.map D.int=ts){k:Nat}{w:Int}(h:ws[k]? =some w):atD ts (k:Int)= .ok (.int w):=by
 subst e;exact cP (by rw[zAK,h];rfl)
def aHR{ws:List Int}{ts:List D}(e:ws.map D.int=ts)(hne:ws≠[]):atD ts (-1)= .ok (.int (ws.getLastD 0)):=by
 subst e;have hl:0<ws.length:=List.length_pos_iff.mpr hne;have hx:ixN (ws.map D.int).length (-1)=some (ws.length-1):=by
  unfold ixN;rw[zAD,if_neg (by omega),if_pos (by omega)];congr 1;omega
 have hg:(ws.map D.int)[ws.length-1]? =some (.int (ws.getLastD 0)):=by
  rw[zAK]
  have:ws[ws.length-1]? =some (ws.getLastD 0):=by
   rw[List.getLastD_eq_getLast?,List.getLast?_eq_getElem?];cases c:ws[ws.length-1]? with
   |none=>exact absurd (List.getElem?_eq_none_iff.mp c) (by omega)
   |some x=>rfl
  rw[this];rfl
 unfold atD atI;rw[hx];simp only[zCU,hg]
def aHy{n c p k:Int}{ps:List (Int×Int)}{ws:List Int}{s5:Slot}(O:Ow n ps)(hne:ws≠[]):∃xs:List Int,wkC [.sh (.int c),.sh (.int p),.sh (owD n ps),.ow (.lst (ws.map .int)),.sh (.int k),s5]= .ok (.lst (xs.map .int))/\xs.length<=3600:=by
 refine⟨(ps.filter λ q=>q.1==ws.getLastD 0&& !decide (q.2∈ws)).map (·.2),?_,?_⟩
 .have hi:dj (op2 ixD (aD 2) (cD (.int 1))) (shE [.sh (.int c),.sh (.int p),.sh (owD n ps),.ow (.lst (ws.map .int)),.sh (.int k),s5])= .ok (ps.map pD):=by simp[shE,lV,owD]
  have el:=aHR (ts:=ws.map .int) rfl hne;have hm:=lG (Y:=stE [none,none,some 3] (shE [.sh (.int c),.sh (.int p),.sh (owD n ps),.ow (.lst (ws.map .int)),.sh (.int k),s5])) (fg:=gq 2 (bJ (gnm 0) (bJ (gnm 1) iw))) (ft:=aAr (tsb (op2 (eqR false) (aD 0) (op2 ixD (aD 2) (op1 aAV (cD (.int 1)))))) (tsb (op2 (inR true) (aD 1) (aD 2)))) (fe:=aa (aD 1)) (f:=pD) (g:=λ q=>.int q.2) (t:=λ q=>q.1==ws.getLastD 0&& !decide (q.2∈ws)) ps λ q hq=>⟨[.sh (.int q.1),.sh (.int q.2),.sh (.lst (ws.map .int))],rfl,by
   simp[el,aC0];by_cases hq:q.1=ws.getLast?.getD 0
   .rw[if_pos hq,beq_iff_eq.mpr hq,zHK]
   .rw[if_neg hq,beq_eq_false_iff_ne.mpr hq,zFC],rfl⟩
  unfold wkC lcD;rw[hi,aK,if_pos (by rw[szl,zAD];have:=O.len;lia),hm,zBG];rfl
 .rw[zAD]
  exact zA5 (zFb _ _) O.len
def aCc{n c p k:Int}{ps:List (Int×Int)}{ws:List Int}{s5:Slot}(O:Ow n ps)(hne:ws≠[])(hl:ws.length<=100)(p0:0<=p)(p1:p<1000)(k0:0<=k)(k1:k<1000):∃ws' s5',wkL [.sh (.int c),.sh (.int p),.sh (owD n ps),.ow (.lst (ws.map .int)),.sh (.int k),s5]= .nx [.sh (.int c),.sh (.int p),.sh (owD n ps),.ow (.lst (List.map .int ws')),.sh (.int k),s5']/\ws'≠[]/\ws'.length<=ws.length+1:=by
 obtain⟨xs,e,hx⟩:=aHy (n:=n) (c:=c) (p:=p) (k:=k) (s5:=s5) O hne;cases xs with
 |nil=>
  refine⟨ws,.nw (.lst []),?_,hne,by lia⟩;have z:=aAf [];simp only[zEU,zE0,zFS]at z;unfold wkL;rw[aQ,tZ,e,bx,az];simp[z]
 |cons x xs=>
  generalize hxs:x::xs=ys at*;have hy:0<ys.length:=by rw[<-hxs];simp
  have hy2:ys.isEmpty=false:=by rw[<-hxs];rfl
  obtain⟨r,er,r0⟩:=fL (c:=c) (k:=p+2+k) (b:=(ys.length:Int)) (by lia) (by lia) (by lia) (by lia);have ha:=aKa (ts:=ys.map .int) (ws:=ys) rfl (k:=r) (w:=ys[r]'(by lia)) (zAB _);refine⟨ws++[ys[r]'(by lia)],.nw (.lst (ys.map .int)),?_,by simp,by simp⟩;have hz:ws.length<16777216:=by lia
  have z:=aAf ys;rw[hy2]at z;unfold wkL;rw[aQ,tZ,e,bx,az];simp[z,er,ha,vp,hz]
def aA7{n c p:Int}{ps:List (Int×Int)}(O:Ow n ps)(p0:0<=p)(p1:p<1000):∃ws:List Int,dH [.int c,.int p,owD n ps]= .ok (.tup (ws.map .int))/\ws.length<=20:=by
 have n0:=O.n0;have n1:=O.n1;have st:ak 6 [.int c,.int p,owD n ps]=[.sh (.int c),.sh (.int p),.sh (owD n ps),.no,.no,.no]:=rfl;by_cases hn:n=0
 .subst hn
  refine⟨[],?_,by simp⟩;simp only[dH,eO,bI,st];simp[owD]
 .obtain⟨r,er,r0⟩:=fL (c:=c) (k:=p) (b:=n) (by lia) (by lia) (by lia) (by lia)
  obtain⟨r2,er2,r3⟩:=fL (c:=c) (k:=p+1) (b:=8) (by lia) (by lia) (by lia) (by lia);have hr:=dw (j:=(r2:Int)) (by lia) (by lia);have hlen:(cu 0 (r2:Int)).length=r2:=by rw[gO];lia
  obtain⟨Y',e,s4,s5,ws,rfl,hne,hl⟩:=gU (a:=gnm 4) (u:=wkL) (cu 0 (r2:Int))
   (λ i Y=>∃s4 s5,∃ws:List Int,Y=[.sh (.int c),.sh (.int p),.sh (owD n ps),.ow (.lst (ws.map .int)),s4,s5]/\ws≠[]/\ws.length<=i+1) [.sh (.int c),.sh (.int p),.sh (owD n ps),.ow (.lst [.int r]),.no,.no] ⟨.no,.no,[(r:Int)],rfl,by simp,by simp⟩ (by
    rintro i d Y hd ⟨s4,s5,ws,rfl,hne,hl⟩;obtain⟨rfl,h2⟩:=jk hd;obtain⟨ws',s5',e,hne',hl'⟩:=aCc (n:=n) (c:=c) (p:=p) (k:=0+(i:Int)) (s5:=s5) O hne (by lia) p0 p1 (by lia) (by lia);refine⟨_,?_,.sh (.int (0+(i:Int))),s5',ws',rfl,hne',by lia⟩;rw[pF,mO];exact e)
  refine⟨ws,?_,by lia⟩;have c1:ifS (tsb (op2 (eqR false) (op2 ixD (aD 2) (cD (.int 0))) (cD (.int 0)))) (retS (bY aG)) Ou.nx [.sh (.int c),.sh (.int p),.sh (owD n ps),.no,.no,.no]= .nx [.sh (.int c),.sh (.int p),.sh (owD n ps),.no,.no,.no]:=by simp[owD,hn]
  have c2:lu 3 (dR (aA (aN aR (aA (aD 0) (aA (aD 1) (aA (op2 ixD (aD 2) (cD (.int 0))) aG)))) aG)) [.sh (.int c),.sh (.int p),.sh (owD n ps),.no,.no,.no]= .nx [.sh (.int c),.sh (.int p),.sh (owD n ps),.ow (.lst [.int r]),.no,.no]:=by simp[owD,er]
  have c3:iy (dJ fY (aA (aN aR (aA (aD 0) (aA (op2 bN (aD 1) (cD (.int 1))) (aA (cD (.int 8)) aG)))) aG)) (gnm 4) wkL [.sh (.int c),.sh (.int p),.sh (owD n ps),.ow (.lst [.int r]),.no,.no]= .nx [.sh (.int c),.sh (.int p),.sh (owD n ps),.ow (.lst (ws.map .int)),s4,s5]:=by
   rw[gw];simp[er2,hr];exact e
  simp only[dH,eO,bI,st];rw[aQ,c1,az,aQ,c2,az,aQ,c3,az];simp
def aJK(n:Int)(qs:List (Int×Int)):eqR true (owD n qs) (owD n qs)= .ok (.bl false):=by
 obtain⟨h1,h2⟩:=rZ qs;have hd:au (owD n qs)=true:=by simp[owD,au,bL,h2]
 have e:eqD (owD n qs) (owD n qs)=true:=qM _ hd;have h3:m8 (owD n qs)<=60:=by
  simp[owD,m8,fM];lia
 unfold eqR;rw[if_pos (by simp[hd,h3]),e];rfl
def aJF{c:Int}:∃d,kO [.int c]= .ok d/\pln d=true/\ql d=true:=by
 obtain⟨r0,e0,b0⟩:=fL (c:=c) (k:=90) (b:=16) (by decide) (by decide) (by decide) (by decide);have hpw:aEL (.int 10) (.int 20)= .ok (.int 100000000000000000000):=rfl;have st:ak 2 [.int c]=[.sh (.int c),.no]:=rfl;simp only[kO,iK,bI,st];simp[e0,hpw];refine aF5 (by lia) (by simp;lia) λ d hd=>?_
 simp only[zAR,zCs,or_false]at hd;rcases hd with rfl|rfl|rfl|rfl|rfl|rfl|rfl|rfl|rfl|rfl|rfl|rfl|rfl|rfl|rfl|rfl<;>
  exact⟨rfl,by decide⟩
def Fs(d:D):Prop:=pln d=true/\ql d=true
def vO{l:List Int}(h:l.length<=1000):Fs (.tup (l.map .int)):=⟨aEN l,by
 unfold ql;simp;lia⟩
def aFW(l:List Int)(a b:Option Int):∃m:List Int,cutD (l.map D.int) a b=m.map .int/\m.length<=l.length:=by
 have hm:∀d∈cutD (l.map D.int) a b,∃x:Int,d= .int x:=λ d hd=>by
  obtain⟨x,_,rfl⟩:=zAd.mp (vh hd);exact⟨x,rfl⟩
 have hl:=aAl (l.map D.int) a b;rw[zAD]at hl;have key:∀ds:List D,(∀d∈ds,∃x:Int,d= .int x)->∃m:List Int,ds=m.map .int:=λ ds=>by
  induction ds with
  |nil=>exact λ _=>⟨[],rfl⟩
  |cons d ds ih=>
   intro h;obtain⟨x,rfl⟩:=h d zAN;obtain⟨m,rfl⟩:=ih λ d hd=>h d (zAM _ hd)
   exact⟨x::m,rfl⟩
 obtain⟨m,e⟩:=key _ hm;exact⟨m,e,by rw[e,zAD]at hl;exact hl⟩
abbrev lE(ns:List Int)(k c n:Int)(ps rs:List (Int×Int))(xs:List Int)(s6 s7 s8:Slot):En:=[.sh (.scr ns),.sh (.int k),.sh (.int c),.sh (owD n ps),.sh (owD n rs),.sh (.tup (xs.map .int)),s6,s7,s8]
def aK0{ns xs:List Int}{k c:Int}{n:Nat}{ps rs:List (Int×Int)}{s6 s8:Slot}{d:D}(e:dY [owD n ps]= .ok (owD n rs))(hl:rs.length<=1000)(h:Fs d):∃t8,lT (lE ns k c n ps rs xs s6 (.sh d) s8)= .nx (lE ns k c n ps rs xs s6 (.sh d) t8):=by
 have e1:=aAc e hl h.1 h.2;have e2:=zB (n:=n) hl h.1 h.2;generalize (o9 n d&& !apB rs (dm d))=b at e1 e2;have e3:eqR true (.bl b) (.bl b)= .ok (.bl false):=by cases b<;>rfl
 refine⟨.sh (.bl b),?_⟩;unfold lT;simp[e1,e2,e3]
def aJM{ns:List Int}{k:Int}(k0:0<=k){s2 s3 s4 s5 s6 s7 s8:Slot}:∃t2 t3 t4 t5 t6 t7 t8,lwK [.sh (.scr ns),.sh (.int k),s2,s3,s4,s5,s6,s7,s8]= .nx [.sh (.scr ns),.sh (.int k),t2,t3,t4,t5,t6,t7,t8]:=by
 obtain⟨c,e2⟩:=aHO (ns:=ns) k0;obtain⟨n,ps,e3,O,n9,_,U⟩:=vG (c:=c) (most:=9) (by decide);replace e3:cZ [.int c,.int 9]= .ok (owD n ps):=e3;have n0:=O.n0;obtain⟨rs,e4,R⟩:=zA n9 O U;obtain⟨ss,e5,R2⟩:=aAI n9 O U;rw[R2.uniq R]at e5;have O2:=R.ow n9 O U;have U2:=R.up U;obtain⟨s',e6,R3⟩:=aAI n9 O2 U2;rw[R3.uniq R.again]at e6;have h36:=nM n9 (nA R.ris) U2;obtain⟨xs,e7,S⟩:=wR (c:=c) (s:=80) (n:=n) (by decide) (by decide) n0 (by lia);have lx:=S.length_le;rw[g8]at lx;obtain⟨od,e8,hod⟩:=aJF (c:=c);obtain⟨ws,e9,lw⟩:=aA7 (c:=c) (p:=90) O (by decide) (by decide);obtain⟨ys,e10,ly⟩:=aFW xs none (some 2);obtain⟨br,e11,hbr⟩:=tQ (c:=c) (p:=70) (m:=n) (ws:=xs) (by decide) (by decide) (by lia);have c2:cG 2 (aN cg (aA (aD 0) (aA (aD 1) aG))) [.sh (.scr ns),.sh (.int k),s2,s3,s4,s5,s6,s7,s8]= .nx [.sh (.scr ns),.sh (.int k),.sh (.int c),s3,s4,s5,s6,s7,s8]:=by simp[e2]
 have c3:cG 3 (aN cZ (aA (aD 2) (aA (cD (.int 9)) aG))) [.sh (.scr ns),.sh (.int k),.sh (.int c),s3,s4,s5,s6,s7,s8]= .nx [.sh (.scr ns),.sh (.int k),.sh (.int c),.sh (owD n ps),s4,s5,s6,s7,s8]:=by simp[e3]
 have c4:cG 4 (aN gZ (aA (aD 3) aG)) [.sh (.scr ns),.sh (.int k),.sh (.int c),.sh (owD n ps),s4,s5,s6,s7,s8]= .nx [.sh (.scr ns),.sh (.int k),.sh (.int c),.sh (owD n ps),.sh (owD n rs),s5,s6,s7,s8]:=by simp[e4]
 have c5:lI1 [.sh (.scr ns),.sh (.int k),.sh (.int c),.sh (owD n ps),.sh (owD n rs),s5,s6,s7,s8]= .nx [.sh (.scr ns),.sh (.int k),.sh (.int c),.sh (owD n ps),.sh (owD n rs),s5,s6,s7,s8]:=by
  unfold lI1;simp[e5,e6,aJK]
 have c6:cG 5 (aN fQ (aA (aD 2) (aA (cD (.int 80)) (aA (op2 ixD (aD 3) (cD (.int 0))) aG)))) [.sh (.scr ns),.sh (.int k),.sh (.int c),.sh (owD n ps),.sh (owD n rs),s5,s6,s7,s8]= .nx (lE ns k c n ps rs xs s6 s7 s8):=by simp[owD,e7]
 have hg:∀l:List Int,qH (.tup (l.map D.int))= .ok (.tup (l.map D.int)):=λ l=>nH (by simp only[imm];exact ju l)
 obtain⟨tl,htl⟩:∃tl:List D,tl=[.tup (xs.map .int),.tup (ys.map .int),od,.tup [],.tup ((sortI ws).map .int),.tup (xs.reverse.map .int)]:=⟨_,rfl⟩
 have c7:qm 6 w6X (lE ns k c n ps rs xs s6 s7 s8)= .nx (lE ns k c n ps rs xs (.nw (.lst tl)) s7 s8):=by
  have v1:aa (aD 5) (lE ns k c n ps rs xs s6 s7 s8)= .ok (.tup (xs.map .int)):=by
   rw[qC];exact hg xs
  have v2:aa (fG (aD 5) jR (jQ (cD (.int 2)))) (lE ns k c n ps rs xs s6 s7 s8)= .ok (.tup (ys.map .int)):=by
   have:fG (aD 5) jR (jQ (cD (.int 2))) (lE ns k c n ps rs xs s6 s7 s8)= .ok (.tup (ys.map .int)):=by
    rw[<-e10];rfl
   rw[qC,this,aK,hg]
  have v3:aN kO (aA (aD 2) aG) (lE ns k c n ps rs xs s6 s7 s8)= .ok od:=by simp[e8]
  have v4:bY aG (lE ns k c n ps rs xs s6 s7 s8)= .ok (.tup []):=by first|rfl|simp
  have v5:opA cO (aA (opA lq (aA (aN dH (aA (aD 2) (aA (cD (.int 90)) (aA (aD 3) aG)))) aG)) aG) (lE ns k c n ps rs xs s6 s7 s8)= .ok (.tup ((sortI ws).map .int)):=by
   have w1:aN dH (aA (aD 2) (aA (cD (.int 90)) (aA (aD 3) aG))) (lE ns k c n ps rs xs s6 s7 s8)= .ok (.tup (ws.map .int)):=by simp[e9]
   have w2:lq [.tup (ws.map .int)]= .ok (.lst ((sortI ws).map .int)):=by
    unfold lq;dsimp only;rw[bw];dsimp only;rw[if_pos (by lia)]
   have w3:opA lq (aA (aN dH (aA (aD 2) (aA (cD (.int 90)) (aA (aD 3) aG)))) aG) (lE ns k c n ps rs xs s6 s7 s8)= .ok (.lst ((sortI ws).map .int)):=by
    rw[fZ,bC,w1,aK,dO,aK,aK,w2,gk]
   rw[fZ,bC,w3,aK,dO,aK,aK,kh,gk]
  have v6:aa (op1 aCm (aD 5)) (lE ns k c n ps rs xs s6 s7 s8)= .ok (.tup (xs.reverse.map .int)):=by
   have:op1 aCm (aD 5) (lE ns k c n ps rs xs s6 s7 s8)= .ok (.tup (xs.reverse.map .int)):=by
    rw[zE1];rfl
   rw[qC,this,aK,hg]
  unfold w6X;rw[tZ,aCW,bC,v1,aK,bC,v2,aK,bC,v3,aK,bC,v4,aK,bC,v5,aK,bC,v6,aK,dO,aK,aK,aK,aK,aK,aK,aK,if_pos (by simp),bx,htl];rfl
 have hr:=dw (j:=(n:Int)) (by lia) (by lia);have c8:qm 6 w6Y (lE ns k c n ps rs xs (.nw (.lst tl)) s7 s8)= .nx (lE ns k c n ps rs xs (.nw (.lst ((tl++[br])++(upI (n:Int)).map λ x=>.tup [.int x]))) s7 s8):=by
  have v1:aN cA (aA (aD 2) (aA (cD (.int 70)) (aA (aD 5) (aA (op2 ixD (aD 3) (cD (.int 0))) aG)))) (lE ns k c n ps rs xs (.nw (.lst tl)) s7 s8)= .ok br:=by simp[owD,e11]
  have v2:dR (aA (aN cA (aA (aD 2) (aA (cD (.int 70)) (aA (aD 5) (aA (op2 ixD (aD 3) (cD (.int 0))) aG))))) aG) (lE ns k c n ps rs xs (.nw (.lst tl)) s7 s8)= .ok (.lst [br]):=by
   rw[aCW,bC,v1,aK,dO,aK,aK,if_pos (by simp)]
  have v3:lcD (dJ fY (aA (op2 ixD (aD 3) (cD (.int 0))) aG)) [none] (gnm 0) fU (bY (aA (aa (aD 0)) aG)) (lE ns k c n ps rs xs (.nw (.lst tl)) s7 s8)= .ok (.lst ((upI (n:Int)).map λ x=>.tup [.int x])):=by
   refine lH (ds:=(upI (n:Int)).map .int) (by rw[<-yW];simp[shE,lV,owD,hr]) (by rw[zAD,g8];lia) ?_;exact rP (fg:=gnm 0) (fe:=bY (aA (aa (aD 0)) aG)) (f:=D.int) (g:=λ x=>.tup [.int x]) (upI n) λ x _=>⟨[.sh (.int x)],rfl,by first|rfl|simp⟩
  have hl6:tl.length=6:=by rw[htl];rfl
  have v4:op2 bN (jg 6) (dR (aA (aN cA (aA (aD 2) (aA (cD (.int 70)) (aA (aD 5) (aA (op2 ixD (aD 3) (cD (.int 0))) aG))))) aG)) (lE ns k c n ps rs xs (.nw (.lst tl)) s7 s8)= .ok (.lst (tl++[br])):=by
   rw[cz,v2]
   show((Rs.ok (D.lst tl)).bd λ x=>(Rs.ok (D.lst [br])).bd λ y=>okD (bN x y))=_
   rw[aK,aK];show okD (if tl.length+[br].length<=zAP then Rs.ok (D.lst (tl++[br]))else .st)=_;rw[if_pos (by rw[szl,hl6];simp)];rfl
  unfold w6Y;rw[tZ,cz,v4,aK,v3,aK]
  show(okD (if (tl++[br]).length+((upI (n:Int)).map λ x=>D.tup [.int x]).length<=zAP then Rs.ok (D.lst ((tl++[br])++(upI (n:Int)).map λ x=>D.tup [.int x]))else .st)).bo _=_
  rw[if_pos (by rw[szl,zAb,hl6,zAD,g8];simp;lia)];rfl
 obtain⟨th,hth⟩:∃th:List D,th=(tl++[br])++(upI (n:Int)).map λ x=>.tup [.int x]:=⟨_,rfl⟩
 have hf:∀d∈th,Fs d:=λ d hd=>by
  rw[hth]at hd;rcases zAe.mp hd with hd|hd
  .rcases zAe.mp hd with hd|hd
   .rw[htl]at hd
    simp only[zAR,zCs,or_false]at hd;rcases hd with rfl|rfl|rfl|rfl|rfl|rfl
    .exact vO (by lia)
    .exact vO (by lia)
    .exact hod
    .exact⟨rfl,rfl⟩
    .exact vO (by rw[(sortI_perm ws).length_eq];lia)
    .exact vO (by rw[zDC];lia)
   .rw[zAt.mp hd]
    refine⟨hbr.1,?_⟩
    have:=hbr.2
    cases br with
    |tup l=>simp[aJQ]at this;simp[ql];lia
    |_=>rfl
  .obtain⟨x,_,rfl⟩:=zAd.mp hd
   exact vO (l:=[x]) (by simp)
 rw[<-hth]at c8;obtain⟨Y',e,t7,t8,rfl⟩:=gU (a:=gnm 7) (u:=lT) th (λ _ Y=>∃t7 t8,Y=lE ns k c n ps rs xs (.nw (.lst th)) t7 t8) (lE ns k c n ps rs xs (.nw (.lst th)) s7 s8) ⟨_,_,rfl⟩ (by
  rintro i d Y hd ⟨t7,t8,rfl⟩;obtain⟨u8,e⟩:=aK0 (ns:=ns) (k:=k) (c:=c) (xs:=xs) (s6:=.nw (.lst th)) (s8:=t8) e5 (by lia) (hf d (zAh hd));exact⟨_,by rw[pF,mO];exact e,_,_,rfl⟩)
 have c9:iy (dj (jg 6)) (gnm 7) lT (lE ns k c n ps rs xs (.nw (.lst th)) s7 s8)= .nx (lE ns k c n ps rs xs (.nw (.lst th)) t7 t8):=by
  have hi:dj (jg 6) (lE ns k c n ps rs xs (.nw (.lst th)) s7 s8)= .ok th:=rfl;rw[gw,hi,bx,e]
 refine⟨.sh (.int c),.sh (owD n ps),.sh (owD n rs),.sh (.tup (xs.map .int)),.nw (.lst th),t7,t8,?_⟩;unfold lwK;rw[aQ,c2,az,aQ,c3,az,aQ,c4,az,aQ,c5,az,aQ,c6,az,aQ,c7,az,aQ,c8,az,c9]
def aEf(ns:List Int)(hn:ns.length<=63):aFd [.scr ns]= .ok (.bl true):=by
 have st:ak 9 [.scr ns]=[.sh (.scr ns),.no,.no,.no,.no,.no,.no,.no,.no]:=rfl;have hk:∃m:Int,(if (if (8:Int)<(ns.length:Int)then(8:Int)else(ns.length:Int))>1 then(if (8:Int)<(ns.length:Int)then(8:Int)else(ns.length:Int))else 1)=m/\0<=m/\m<=8:=⟨_,rfl,by split<;>split<;>lia,by split<;>split<;>lia⟩
 obtain⟨m,hm,m0,m1⟩:=hk;have hr:=dw (j:=m) (by lia) (by lia);obtain⟨Y',e,t1,t2,t3,t4,t5,t6,t7,t8,rfl⟩:=gU (a:=gnm 1) (u:=lwK) (cu 0 m) (λ _ Y=>∃t1 t2 t3 t4 t5 t6 t7 t8,Y=[.sh (.scr ns),t1,t2,t3,t4,t5,t6,t7,t8]) [.sh (.scr ns),.no,.no,.no,.no,.no,.no,.no,.no] ⟨_,_,_,_,_,_,_,_,rfl⟩ (by
  rintro i d Y hd ⟨t1,t2,t3,t4,t5,t6,t7,t8,rfl⟩;obtain⟨rfl,_⟩:=jk hd;obtain⟨u2,u3,u4,u5,u6,u7,u8,e⟩:=aJM (ns:=ns) (k:=0+(i:Int)) (by lia) (s2:=t2) (s3:=t3) (s4:=t4) (s5:=t5) (s6:=t6) (s7:=t7) (s8:=t8);exact⟨_,by rw[pF,mO];exact e,_,_,_,_,_,_,_,_,rfl⟩)
 have c1:iy lwR (gnm 1) lwK [.sh (.scr ns),.no,.no,.no,.no,.no,.no,.no,.no]= .nx [.sh (.scr ns),t1,t2,t3,t4,t5,t6,t7,t8]:=by
  have hi:lwR [.sh (.scr ns),.no,.no,.no,.no,.no,.no,.no,.no]= .ok (cu 0 m):=by
   rw[<-hr,<-hm];rfl
  rw[gw,hi,bx,e]
 have w2:dY [.tup [.int 3,.tup [.tup [.int 0,.int 1],.tup [.int 1,.int 2]]]]= .ok (.tup [.int 3,.tup [.tup [.int 0,.int 1],.tup [.int 0,.int 2],.tup [.int 1,.int 2]]]):=by kernel_rfl
 have w0:dY [.tup [.int 0,.tup []]]= .ok (.tup [.int 0,.tup []]):=by kernel_rfl
 have g2:eqR false (.tup [.int 3,.tup [.tup [.int 0,.int 1],.tup [.int 0,.int 2],.tup [.int 1,.int 2]]]) (.tup [.int 3,.tup [.tup [.int 0,.int 1],.tup [.int 0,.int 2],.tup [.int 1,.int 2]]])= .ok (.bl true):=rfl;have g0:eqR false (.tup [.int 0,.tup []]) (.tup [.int 0,.tup []])= .ok (.bl true):=rfl;simp only[aFd,vf,bI,st];rw[aQ,c1,az];unfold lwZ;simp[w2,w0,g2,g0]
local macro_rules|`(tactic|walk_at "sc")=>`(tactic|exact⟨rfl,rfl,rfl,by decide+kernel,rfl,by decide+kernel,by decide+kernel⟩)
def top(i:Nat):Stmt:=PySem.Challenge.pw_fewways_k74_what_places_reach.main.body.getD i (.Pass ⟨0,0,0,0⟩)
abbrev o5:Stmt:=top 6
abbrev rA:Stmt:=top 7
abbrev o6:Stmt:=top 8
abbrev qz:Stmt:=top 9
abbrev mF:Stmt:=top 10
abbrev eN:Stmt:=top 11
abbrev lD:Stmt:=top 12
abbrev lC:Stmt:=top 14
abbrev gh:Stmt:=top 15
abbrev rB:Stmt:=top 16
abbrev o8:Stmt:=top 17
abbrev qx:Stmt:=top 18
abbrev j7:Stmt:=top 19
abbrev gf:Stmt:=top 20
abbrev jb:Stmt:=top 22
abbrev yV:Stmt:=top 23
abbrev o7:Stmt:=top 24
abbrev j9:Stmt:=top 26
abbrev oZ:Stmt:=top 27
abbrev lz:Stmt:=top 28
abbrev oY:Stmt:=top 29
abbrev j8:Stmt:=top 30
abbrev qy:Stmt:=top 31
abbrev lA:Stmt:=top 32
abbrev lB:Stmt:=top 33
abbrev fX:Stmt:=top 34
abbrev oX:Stmt:=top 35
abbrev ie:Stmt:=top 36
abbrev mC:Stmt:=top 37
abbrev mD:Stmt:=top 38
abbrev aDr:Stmt:=top 39
def aAA:aW ["thing"] ["thing"] (aP o5):=by walk_at "sc"
def aBL:aW ["thing"] ["thing"] (aP rA):=by walk_at "sc"
def aAB:aW ["many","thing"] ["many","thing"] (aP o6):=by walk_at "sc"
def aBK:aW ["many","thing"] ["many","thing"] (aP qz):=by walk_at "sc"
def yU:aW ["things","at"] ["things"] (aP mF):=by walk_at "sc"
def nT:aW ["many","thing","pair"] ["many","thing"] (aP eN):=by walk_at "sc"
def wJ:aW ["many","thing","place"] ["many","thing"] (aP lD):=by walk_at "sc"
def wI:aW ["thing"] ["thing"] (aP lC):=by walk_at "sc"
def qw:aW ["thing"] ["thing"] (aP gh):=by walk_at "sc"
def aBM:aW ["web","led","begin","end"] ["web"] (aP rB):=by walk_at "sc"
def aAD:aW ["web","come","begin","end"] ["web"] (aP o8):=by walk_at "sc"
def aBI:aW ["web","led","waits","ready","order","place","other"] ["web"] (aP qx):=by walk_at "sc"
def uX:aW ["web","order"] ["web"] (aP j7):=by walk_at "sc"
def qu:aW ["web"] ["web"] (aP gf):=by walk_at "sc"
def u9:aW ["web","led","reached","place"] ["web"] (aP jb):=by walk_at "sc"
def aDq:aW ["web"] ["web"] (aP yV):=by walk_at "sc"
def aAC:aW ["web","thing","reached"] ["web","thing"] (aP o7):=by walk_at "sc"
def uZ:aW ["_law_script","_law_k"] ["_law_script","_law_k"] (aP j9):=by walk_at "sc"
def zy:aW ["_law_cell","_law_k","_law_bound","_law_left","_law_j","_law_stir"] ["_law_cell","_law_k","_law_bound"] (aP oZ):=by walk_at "sc"
def yQ:aW ["_law_found"] ["_law_found"] (aP lz):=by walk_at "sc"
def zx:aW ["_law_cell","_law_many","_law_found","_law_place"] ["_law_cell","_law_many"] (aP oY):=by walk_at "sc"
def uY:aW ["_law_cell","_law_most","_law_many","_law_kind","_law_thick","_law_order","_law_arrows","_law_spot","_law_j","_law_i"] ["_law_cell","_law_most"] (aP j8):=by walk_at "sc"
def aBJ:aW ["_law_cell","_law_some"] ["_law_cell"] (aP qy):=by walk_at "sc"
def wG:aW ["_law_row"] ["_law_row"] (aP lA):=by walk_at "sc"
def wH:aW ["_law_cell","_law_spot","_law_many","_law_thick"] ["_law_cell","_law_spot","_law_many"] (aP lB):=by walk_at "sc"
def pP:aW ["_law_thing","_law_many"] ["_law_thing","_law_many"] (aP fX):=by walk_at "sc"
def zu:aW ["_law_cell","_law_spot","_law_web","_law_way","_law_k","_law_some"] ["_law_cell","_law_spot","_law_web"] (aP oX):=by walk_at "sc"
def tK:aW ["_law_cell","_law_spot","_law_row","_law_many","_law_at","_law_odd_here","_law_some"] ["_law_cell","_law_spot","_law_row","_law_many"] (aP ie):=by walk_at "sc"
def yR:aW ["_law_web","_law_found","_law_at","_law_one","_law_mid"] ["_law_web"] (aP mC):=by walk_at "sc"
def yS:aW ["_law_wide","_law_thing"] ["_law_wide","_law_thing"] (aP mD):=by walk_at "sc"
def aIS:aW ["_law_script","_law_k","_law_cell","_law_web","_law_wide","_law_some","_law_things","_law_thing","_law_found"] ["_law_script"] (aP aDr):=by walk_at "sc"
set_option genInjectivity false in
set_option genSizeOf false in
structure Adr where
 vV:Addr
 fu:zA8
 xU:Addr
 iQ:zA8
 vW:Addr
 gA:zA8
 xT:Addr
 iM:zA8
 sr:Addr
 dG:zA8
 iz:Addr
 bF:zA8
 qL:Addr
 cI:zA8
 qK:Addr
 dX:zA8
 lQ:Addr
 cF:zA8
 xV:Addr
 iR:zA8
 vY:Addr
 gC:zA8
 xQ:Addr
 iJ:zA8
 nu:Addr
 cV:zA8
 lO:Addr
 cC:zA8
 oG:Addr
 cX:zA8
 aC6:Addr
 nQ:zA8
 vX:Addr
 gB:zA8
 oF:Addr
 cJ:zA8
 vU:Addr
 eQ:zA8
 sX:Addr
 eV:zA8
 vR:Addr
 fj:zA8
 oA:Addr
 cW:zA8
 xR:Addr
 iK:zA8
 qI:Addr
 dU:zA8
 qJ:Addr
 dW:zA8
 jy:Addr
 bh:zA8
 vQ:Addr
 eO:zA8
 mZ:Addr
 cL:zA8
 sY:Addr
 eX:zA8
 sZ:Addr
 eY:zA8
 aHu:Addr
 vf:zA8
 ni:Value
 pK:Addr
 pJ:Addr
 rz:Addr
structure Txt(K:zAA)(mg:Str->Option Value)(t:Adr):Prop where
 pH:Dnr K mg "is_whole" o5 ["thing"] t.vV t.fu
 xf:Dnr K mg "is_many" rA ["thing"] t.xU t.iQ
 lK:Dnr K mg "is_place" o6 ["many","thing"] t.vW t.gA
 xZ:Dnr K mg "is_pair" qz ["many","thing"] t.xT t.iM
 m7:Dnr K mg "is_rising" mF ["things"] t.sr t.dG
 jC:Dnr K mg "are_rising_pairs" eN ["many","thing"] t.iz t.bF
 qQ:Dnr K mg "are_places" lD ["many","thing"] t.qL t.cI
 qP:Dnr K mg "is_one_way" lC ["thing"] t.qK t.dX
 lU:Dnr K mg "check_one_way" gh ["thing"] t.lQ t.cF
 rY:Dnr K mg "all_led" rB ["web"] t.xV t.iR
 vd:Dnr K mg "all_come" o8 ["web"] t.vY t.gC
 rW:Dnr K mg "ordered" qx ["web"] t.xQ t.iJ
 oH:Dnr K mg "least_order" j7 ["web"] t.nu t.cV
 lR:Dnr K mg "check_ordered" gf ["web"] t.lO t.cC
 oM:Dnr K mg "all_reached" jb ["web"] t.oG t.cX
 nO:Dnr K mg "reach" yV ["web"] t.aC6 t.nQ
 v9:Dnr K mg "is_apart" o7 ["web","thing"] t.vX t.gB
 oK:Dnr K mg "_law_cell_at" j9 ["_law_script","_law_k"] t.oF t.cJ
 bQ:Dnr K mg "_law_draw" oZ ["_law_cell","_law_k","_law_bound"] t.vU t.eQ
 su:Dnr K mg "_law_whole" lz ["_law_found"] t.sX t.eV
 v8:Dnr K mg "_law_turn" oY ["_law_cell","_law_many"] t.vR t.fj
 oJ:Dnr K mg "_law_ordered" j8 ["_law_cell","_law_most"] t.oA t.cW
 xY:Dnr K mg "_law_odd" qy ["_law_cell"] t.xR t.iK
 qN:Dnr K mg "_law_rising" lA ["_law_row"] t.qI t.dU
 qO:Dnr K mg "_law_places" lB ["_law_cell","_law_spot","_law_many"] t.qJ t.dW
 jz:Dnr K mg "_law_are_places" fX ["_law_thing","_law_many"] t.jy t.bh
 v7:Dnr K mg "_law_walk" oX ["_law_cell","_law_spot","_law_web"] t.vQ t.eO
 m6:Dnr K mg "_law_bent_row" ie ["_law_cell","_law_spot","_law_row","_law_many"] t.mZ t.cL
 sy:Dnr K mg "_law_reach" mC ["_law_web"] t.sY t.eX
 tB:Dnr K mg "_law_apart" mD ["_law_wide","_law_thing"] t.sZ t.eY
 aFT:Dnr K mg "law" aDr ["_law_script"] t.aHu t.vf
 gJ:mg "MOST_PLACES"=some t.ni
 wK:RelV (.int 60) t.ni
 m_FewError:mg "FewError"=some (.ref t.pK)
 l_FewError:bR mg "FewError"=t.pK
 kY:pM K t.pK
 aB9:mg "NoOneWay"=some (.ref t.pJ)
 aBg:bR mg "NoOneWay"=t.pJ
 iT:pM K t.pJ
 aCz:mg "NoOrder"=some (.ref t.rz)
 aDE:bR mg "NoOrder"=t.rz
 jf:pM K t.rz
 aHs:mg "all"=none
 aKZ:mg "any"=none
 aB6:mg "bool"=none
 aAW:mg "enumerate"=none
 aHr:mg "int"=none
 bV:mg "isinstance"=none
 mQ:mg "len"=none
 aEa:mg "list"=none
 aKY:mg "max"=none
 aHq:mg "min"=none
 dC:mg "range"=none
 pW:mg "sorted"=none
 eF:mg "tuple"=none
section
variable{P:zA2}{w:World}{K:zAA}{mg:Str->Option Value}{base:Heap}{t:Adr}
def sS(T:Txt K mg t):bz P w K mg base (CX1 P w) 1 t.vV t.fu ["thing"] (spF K (bR mg) 1 jE):=
 ao (k:=0) (f:=fu) T.pH aAA λ n _ _ _ _ _ _ _=>
  (aL (aX (j6 (j0 (aC 0) T.bV T.aHr) (km (aBG (j0 (aC 0) T.bV T.aB6))))))
def pR(T:Txt K mg t):bz P w K mg base (CX1 P w) 1 t.sr t.dG ["things"] (spF K (bR mg) 1 cN):=
 ao (k:=0) (f:=dG) T.m7 yU λ n _ _ _ _ _ _ _=>
  (aJ (fD (aCC (aB aH (aB (iY T.mQ (aB (aC 0) aF)) aF)) T.dC) (bf (ks:=[1]))
   (aL (eU (fW (zf (aM (aC 0) (aBF (aC 1) aH)) (aM (aC 0) (aC 1))))
    (aL (aX iZ))
    bZ)))
  (aL (aX iZ)))
def ur(T:Txt K mg t):bz P w K mg base (CX1 P w) 1 t.xV t.iR ["web"] (spF K (bR mg) 1 gF):=
 ao (k:=0) (f:=iR) T.rY aBM λ n _ _ _ _ _ _ _=>
  (aJ (aHc (N:=["place"]) (js:=[none]) (ks:=[0]) (du (aB (aM (aC 0) aH) aF) T.dC) bG)
  (aJ (fD (dh (aM (aC 0) aH)) (lr (n:=2) (b8 (bf (ks:=[2,3])) (b8 (bf (ks:=[2,3])) jL)))
   (aL (uQ 1 (aC 2) (aZ (aC 3)))))
  (aL (aX (mz 1)))))
def aAR(T:Txt K mg t):bz P w K mg base (CX1 P w) 1 t.vY t.gC ["web"] (spF K (bR mg) 1 lM):=
 ao (k:=0) (f:=gC) T.vd aAD λ n _ _ _ _ _ _ _=>
  (aJ (aHc (N:=["place"]) (js:=[none]) (ks:=[0]) (du (aB (aM (aC 0) aH) aF) T.dC) bG)
  (aJ (fD (dh (aM (aC 0) aH)) (lr (n:=2) (b8 (bf (ks:=[2,3])) (b8 (bf (ks:=[2,3])) jL)))
   (aL (uQ 1 (aC 3) (aZ (aC 2)))))
  (aL (aX (mz 1)))))
def uo(T:Txt K mg t):bz P w K mg base (CX1 P w) 1 t.oF t.cJ ["_law_script","_law_k"] (spF K (bR mg) 2 cg):=
 ao (k:=0) (f:=cJ) T.oK uZ λ n _ _ _ _ _ _ _=>
  (aJ (eU (zf (aC 1) (iY T.mQ (aB (aC 0) aF)))
   (aL (aX (aZ (aM (aC 0) (aC 1)))))
   bZ)
  (aL (aX aH)))
def bM(T:Txt K mg t):bz P w K mg base (CX1 P w) 1 t.vU t.eQ ["_law_cell","_law_k","_law_bound"] (spF K (bR mg) 3 aR):=
 ao (k:=0) (f:=eQ) T.bQ zy λ n _ _ _ _ _ _ _=>
  (aJ (eU (aJz (aC 0) (aDn aH aH))
   (aJ (bO (i:=3) (fC (aC 0)))
   (aJ (fD (du (aB (aC 1) aF) T.dC) (bf (ks:=[4]))
    (aL (bO (i:=3) (fC (aCF (aC 3) (aC 2))))))
   (aL (aX (qt (aC 3) (aC 2))))))
   bZ)
  (aJ (bO (i:=5) (fC (qt (oW (bH (bH (qt (aC 0) aH) (oW aH (aC 1))) aH) aH) aH)))
  (aJ (bO (i:=5) (fC (qt (bH (bH (oW (aC 5) (aC 5)) (oW aH (aC 1))) aH) aH)))
  (aL (aX (qt (aCF (qt (oW (aC 5) aH) aH) aH) (aC 2)))))))
def yh(T:Txt K mg t):bz P w K mg base (CX1 P w) 1 t.sX t.eV ["_law_found"] (spF K (bR mg) 1 jX):=
 ao (k:=0) (f:=eV) T.su yQ λ n _ _ _ _ _ _ _=>
  (aL (aX (j6 (j0 (aC 0) T.bV T.aHr) (km (aBG (j0 (aC 0) T.bV T.aB6))))))
def wL(T:Txt K mg t):bz P w K mg base (CX1 P w) 1 t.qI t.dU ["_law_row"] (spF K (bR mg) 1 fP):=
 ao (k:=0) (f:=dU) T.qN wG λ n _ _ _ _ _ _ _=>
  (aL (aX (aDp T.aHs (aB (pO (N:=["_law_k","_law_row"]) (js:=[none,some 0]) (ks:=[0]) (aCC (aB aH (aB (iY T.mQ (aB (aC 0) aF)) aF)) T.dC) bG iV (aKC (aM (aC 1) (aBF (aC 0) aH)) (aM (aC 1) (aC 0)))) aF))))
def yj(T:Txt K mg t):bz P w K mg base (CX1 P w) 1 t.sY t.eX ["_law_web"] (spF K (bR mg) 1 gZ):=
 ao (k:=0) (f:=eX) T.sy yR λ n _ _ _ _ _ _ _=>
  (aJ (jH (i:=1) (uO (aIP (aCD T.aEa (aB (aZ (aM (aC 0) aH)) aF)))))
  (aJ (bO (i:=2) (fC aH))
  (aJ (zg (zf (aC 2) (iY T.mQ (aB (oU 1) aF)))
   (aJ (aIJ (aZ (aM (oU 1) (aC 2))) (lr (n:=2) (b8 (bf (ks:=[3,4])) (b8 (bf (ks:=[3,4])) jL))))
   (aJ (aCi 1 (pO (N:=["_law_first","_law_last","_law_one","_law_mid","_law_found"]) (js:=[none,none,some 3,some 4,some 1]) (ks:=[0,1]) (dh (aM (aC 0) aH)) (lr (n:=2) (b8 bG (b8 bG jL))) (uV (SW.st (yI (uP (aC 0) (aC 3)) (tX (aDb (bD (aB (aC 2) (aB (aC 1) aF))) (aC 4)))))) (bD (aB (aZ (aC 2)) (aB (aZ (aC 1)) aF)))))
   (aL (bO (i:=2) (fC (bH (aC 2) aH)))))))
  (aL (aX (bD (aB (aZ (aM (aC 0) aH)) (aB (iW T.eF (aB (wz T.pW (aB (oU 1) aF)) aF)) aF))))))))
def aB5(T:Txt K mg t):bz P w K mg base (CX1 P w) 2 t.xU t.iQ ["thing"] (spF K (bR mg) 1 nR):=
 ao (k:=1) (f:=iQ) T.xf aBL λ n _ _ _ _ _ _ _=>
  (aL (aX (j6 (aV (sS T) T.pH (aB (aC 0) aF)) (km (aGE aH (aC 0) (aGF T.gJ T.wK (λ _ _=>.int _)))))))
def mL(T:Txt K mg t):bz P w K mg base (CX1 P w) 2 t.vW t.gA ["many","thing"] (spF K (bR mg) 2 cQ):=
 ao (k:=1) (f:=gA) T.lK aAB λ n _ _ _ _ _ _ _=>
  (aL (aX (j6 (aV (sS T) T.pH (aB (aC 1) aF)) (km (aCE aH (aC 1) (aC 0))))))
def uh(T:Txt K mg t):bz P w K mg base (CX1 P w) 2 t.xQ t.iJ ["web"] (spF K (bR mg) 1 cY):=
 ao (k:=1) (f:=iJ) T.rW aBI λ n _ _ _ _ _ _ _=>
  (aJ (bO (i:=1) (fC (aV (ur T) T.rY (aB (aC 0) aF))))
  (aJ (jH (i:=2) (uO (aIP (pO (N:=["begins"]) (js:=[none]) (ks:=[0]) (dh (aV (aAR T) T.vd (aB (aC 0) aF))) bG iV (iY T.mQ (aB (aC 0) aF))))))
  (aJ (jH (i:=3) (aJx (aHb (N:=["place","waits"]) (js:=[none,some 2]) (ks:=[0]) (du (aB (aM (aC 0) aH) aF) T.dC) bG (uV (uP (aM (aC 1) (aC 0)) aH)) (aZ (aC 0)))))
  (aJ (jH (i:=4) (uO (yN aF)))
  (aJ (zg (fV (oU 3))
   (aJ (bO (i:=5) (fC (aGB T.aHq (aB (oU 3) aF))))
   (aJ (aCg 3 (aZ (aC 5)))
   (aJ (my 4 (aZ (aC 5)))
   (aL (fD (dh (aM (aC 1) (aC 5))) (bf (ks:=[6]))
    (aJ (aFr 2 (λ _=>aJ1) (aC 6) aH)
    (aL (eU (uP (aM (oU 2) (aC 6)) aH)
     (aL (my 3 (aZ (aC 6))))
     bZ)))))))))
  (aL (aX (mz 4))))))))
def aAP(T:Txt K mg t):bz P w K mg base (CX1 P w) 2 t.vR t.fj ["_law_cell","_law_many"] (spF K (bR mg) 2 jD):=
 ao (k:=1) (f:=fj) T.v8 zx λ n _ _ _ _ _ _ _=>
  (aJ (jH (i:=2) (uO (yN aF)))
  (aJ (fD (du (aB (aC 1) aF) T.dC) (bf (ks:=[3]))
   (aL (aCh 2 (aV (bM T) T.bQ (aB (aC 0) (aB (bH aH (aC 3)) (aB (bH (aC 3) aH) aF)))) (aZ (aC 3)))))
  (aL (aX (mz 2)))))
def aB3(T:Txt K mg t):bz P w K mg base (CX1 P w) 2 t.xR t.iK ["_law_cell"] (spF K (bR mg) 1 kO):=
 ao (k:=1) (f:=iK) T.xY aBJ λ n _ _ _ _ _ _ _=>
  (aJ (jJ (i:=1) (fC (fJ (aB qp (aB iZ (aB aH (aB (aBH aH) (aB oV (aB oV (aB (bD aF) (aB (fJ aF) (aB aGG (aB (bD (aB (bD aF) aF)) (aB (bD (aB aH aF)) (aB (bD (aB (bD (aB aH (aB aH aF))) aF)) (aB (fJ (aB aH (aB aH aF))) (aB (bD (aB qp aF)) (aB (bD (aB oV (aB oV aF))) (aB (aDn aH aH) aF)))))))))))))))))))
  (aL (aX (aM (fH 1) (aV (bM T) T.bQ (aB (aC 0) (aB aH (aB aH aF))))))))
def wM(T:Txt K mg t):bz P w K mg base (CX1 P w) 2 t.qJ t.dW ["_law_cell","_law_spot","_law_many"] (spF K (bR mg) 3 fQ):=
 ao (k:=1) (f:=dW) T.qO wH λ n _ _ _ _ _ _ _=>
  (aJ (bO (i:=3) (fC (bH aH (aV (bM T) T.bQ (aB (aC 0) (aB (aC 1) (aB aH aF)))))))
  (aL (aX (iW T.eF (aB (pO (N:=["_law_place","_law_cell","_law_spot","_law_thick"]) (js:=[none,some 0,some 1,some 3]) (ks:=[0]) (du (aB (aC 2) aF) T.dC) bG (uV (zf (aV (bM T) T.bQ (aB (aC 1) (aB (bH (bH (aC 2) aH) (aC 0)) (aB aH aF)))) (aC 3))) (aZ (aC 0))) aF)))))
def pQ(T:Txt K mg t):bz P w K mg base (CX1 P w) 2 t.jy t.bh ["_law_thing","_law_many"] (spF K (bR mg) 2 dZ):=
 ao (k:=1) (f:=bh) T.jz pP λ n _ _ _ _ _ _ _=>
  (aJ (eU (SW.st (wu (fW (fV (j0 (aC 0) T.bV T.eF))) (qi (fW (fV (aDp T.aHs (aB (pO (N:=["_law_one","_law_many"]) (js:=[none,some 1]) (ks:=[0]) (dh (aC 0)) bG iV (j6 (aV (yh T) T.su (aB (aC 0) aF)) (km (aCE aH (aC 0) (aC 1))))) aF)))))))
   (aL (aX iZ))
   bZ)
  (aL (aX (aV (wL T) T.qN (aB (aC 0) aF)))))
def aAO(T:Txt K mg t):bz P w K mg base (CX1 P w) 2 t.vQ t.eO ["_law_cell","_law_spot","_law_web"] (spF K (bR mg) 3 dH):=
 ao (k:=1) (f:=eO) T.v7 zu λ n _ _ _ _ _ _ _=>
  (aJ (eU (uP (aM (aC 2) aH) aH)
   (aL (aX (bD aF)))
   bZ)
  (aJ (jH (i:=3) (uO (yN (aB (aV (bM T) T.bQ (aB (aC 0) (aB (aC 1) (aB (aM (aC 2) aH) aF)))) aF))))
  (aJ (fD (du (aB (aV (bM T) T.bQ (aB (aC 0) (aB (bH (aC 1) aH) (aB aH aF)))) aF) T.dC) (bf (ks:=[4]))
   (aJ (jJ (i:=5) (aHb (N:=["_law_one","_law_other","_law_way"]) (js:=[none,none,some 3]) (ks:=[0,1]) (dh (aM (aC 2) aH)) (lr (n:=2) (b8 bG (b8 bG jL))) (uV (SW.st (yI (uP (aC 0) (aM (aC 2) (aBH aH))) (tX (aDb (aC 1) (aC 2)))))) (aZ (aC 1))))
   (aL (eU (wy (fH 5) (fJ aF))
    (aL (my 3 (aM (fH 5) (aV (bM T) T.bQ (aB (aC 0) (aB (bH (bH (aC 1) aH) (aC 4)) (aB (iY T.mQ (aB (fH 5) aF)) aF)))))))
    bZ))))
  (aL (aX (iW T.eF (aB (mz 3) aF)))))))
def tO(T:Txt K mg t):bz P w K mg base (CX1 P w) 2 t.mZ t.cL ["_law_cell","_law_spot","_law_row","_law_many"] (spF K (bR mg) 4 cA):=
 ao (k:=1) (f:=cL) T.m6 tK λ n _ _ _ _ _ _ _=>
  (aJ (bO (i:=4) (fC (aV (bM T) T.bQ (aB (aC 0) (aB (aC 1) (aB (bH (iY T.mQ (aB (aC 2) aF)) aH) aF))))))
  (aJ (jJ (i:=5) (fC (aM (fJ (aB aH (aB (aZ (aC 3)) (aB (aBH aH) (aB iZ (aB qp (aB oV (aB (fJ (aB aH aF)) (aB (aBF (aC 3) aH) (aB aH aF)))))))))) (aV (bM T) T.bQ (aB (aC 0) (aB (bH (aC 1) aH) (aB aH aF)))))))
  (aJ (jJ (i:=6) (fC (fJ (aB (bH (bH (aZ (di (aC 2) gH (gG (aC 4)))) (bD (aB (fH 5) aF))) (aZ (di (aC 2) (gG (bH (aC 4) aH)) gH))) (aB (bH (aZ (di (aC 2) gH (gG (aC 4)))) (aZ (di (aC 2) (gG (bH (aC 4) aH)) gH))) (aB (bH (bH (aZ (di (aC 2) gH (gG (aC 4)))) (bD (aB (fH 5) aF))) (aZ (di (aC 2) (gG (aC 4)) gH))) (aB (aZ (aDm (aC 2))) aF)))))))
  (aJ (jJ (i:=6) (fC (bH (fH 6) (fJ (aB (aCD T.aEa (aB (aZ (aC 2)) aF)) (aB (bH (aZ (aC 2)) (aZ (di (aC 2) gH (gG aH)))) (aB (bH (aZ (di (aC 2) (gG aH) gH)) (aZ (di (aC 2) gH (gG aH)))) (aB (bD aF) (aB qp (aB (bD (aB (aZ (aC 2)) aF)) aF))))))))))
  (aL (aX (aM (fH 6) (aV (bM T) T.bQ (aB (aC 0) (aB (bH (aC 1) aH) (aB aH aF)))))))))))
def aB4(T:Txt K mg t):bz P w K mg base (CX1 P w) 3 t.xT t.iM ["many","thing"] (spF K (bR mg) 2 kW):=
 ao (k:=2) (f:=iM) T.xZ aBK λ n _ _ _ _ _ _ _=>
  (aJ (eU (SW.st (wu (fW (fV (j0 (aC 1) T.bV T.eF))) (qi (wy (iY T.mQ (aB (aC 1) aF)) aH))))
   (aL (aX iZ))
   bZ)
  (aL (aX (j6 (aV (mL T) T.lK (aB (aC 0) (aB (aM (aC 1) aH) aF))) (j6 (aV (mL T) T.lK (aB (aC 0) (aB (aM (aC 1) aH) aF))) (km (aKB (aM (aC 1) aH) (aM (aC 1) aH))))))))
def wO(T:Txt K mg t):bz P w K mg base (CX1 P w) 3 t.qL t.cI ["many","thing"] (spF K (bR mg) 2 dg):=
 ao (k:=2) (f:=cI) T.qQ wJ λ n _ _ _ _ _ _ _=>
  (aJ (eU (fW (fV (j0 (aC 1) T.bV T.eF)))
   (aL (aX iZ))
   bZ)
  (aJ (fD (dh (aC 1)) (bf (ks:=[2]))
   (aL (eU (fW (fV (aV (mL T) T.lK (aB (aC 0) (aB (aC 2) aF)))))
    (aL (aX iZ))
    bZ)))
  (aL (aX (aV (pR T) T.m7 (aB (aC 1) aF))))))
def uq(T:Txt K mg t):bz P w K mg base (CX1 P w) 3 t.oG t.cX ["web"] (spF K (bR mg) 1 cj):=
 ao (k:=2) (f:=cX) T.oM u9 λ n _ _ _ _ _ _ _=>
  (aJ (bO (i:=1) (fC (aV (ur T) T.rY (aB (aC 0) aF))))
  (aJ (jH (i:=2) (uO (aIP (pO (N:=["place"]) (js:=[none]) (ks:=[0]) (du (aB (aM (aC 0) aH) aF) T.dC) bG iV (fJ aF)))))
  (aJ (fD (dh (aGA (aV (uh T) T.rW (aB (aC 0) aF)))) (bf (ks:=[3]))
   (aL (aFq 2 (aC 3) (aIQ T.pW (N:=["near","far","reached"]) (js:=[none,none,some 2]) (ks:=[0]) (ks2:=[1]) (dh (aM (aC 1) (aC 3))) bG iV (dh (bH (fJ (aB (aC 0) aF)) (aM (aC 2) (aC 0)))) bG iV (aZ (aC 1))))))
  (aL (aX (mz 2))))))
def um(T:Txt K mg t):bz P w K mg base (CX1 P w) 3 t.oA t.cW ["_law_cell","_law_most"] (spF K (bR mg) 2 cZ):=
 ao (k:=2) (f:=cW) T.oJ uY λ n _ _ _ _ _ _ _=>
  (aJ (bO (i:=2) (fC (aV (bM T) T.bQ (aB (aC 0) (aB aH (aB (bH (aC 1) aH) aF))))))
  (aJ (bO (i:=3) (fC (aV (bM T) T.bQ (aB (aC 0) (aB aH (aB aH aF))))))
  (aJ (jJ (i:=4) (fC (aM (fJ (aB aH (aB aH (aB aH (aB aH (aB aH (aB aH aF))))))) (aC 3))))
  (aJ (bO (i:=5) (fC (aV (aAP T) T.v8 (aB (aC 0) (aB (aC 2) aF)))))
  (aJ (jH (i:=6) (uO (yN aF)))
  (aJ (bO (i:=7) (fC aH))
  (aJ (fD (du (aB (aC 2) aF) T.dC) (bf (ks:=[8]))
   (aL (fD (du (aB (aC 8) aF) T.dC) (bf (ks:=[9]))
    (aJ (bO (i:=7) (fC (bH (aC 7) aH)))
    (aL (eU (SW.st (wu (zf (aV (bM T) T.bQ (aB (aC 0) (aB (aC 7) (aB aH aF)))) (fH 4)) (qi (SW.st (yI (uP (aC 3) aH) (tX (aDc (aC 8) (bD (aB (bH (oW aH (aC 9)) aH) (aB (bH (oW aH (aC 9)) aH) aF))))))))))
     (aL (my 6 (bD (aB (aZ (aM (aC 5) (aC 9))) (aB (aZ (aM (aC 5) (aC 8))) aF)))))
     bZ))))))
  (aL (aX (bD (aB (aZ (aC 2)) (aB (iW T.eF (aB (wz T.pW (aB (oU 6) aF)) aF)) aF))))))))))))
def ym(T:Txt K mg t):bz P w K mg base (CX1 P w) 3 t.sZ t.eY ["_law_wide","_law_thing"] (spF K (bR mg) 2 jY):=
 ao (k:=2) (f:=eY) T.tB yS λ n _ _ _ _ _ _ _=>
  (aJ (eU (fW (fV (aV (pQ T) T.jz (aB (aC 1) (aB (aM (aC 0) aH) aF)))))
   (aL (aX iZ))
   bZ)
  (aL (aX (aDo (pO (N:=["_law_one","_law_other","_law_thing"]) (js:=[none,none,some 1]) (ks:=[0,1]) (dh (aM (aC 0) aH)) (lr (n:=2) (b8 bG (b8 bG jL))) (uV (SW.st (yI (aDc (aC 0) (aC 2)) (tX (aDc (aC 1) (aC 2)))))) (aZ (aC 0))) (fJ aF)))))
def nW(T:Txt K mg t):bz P w K mg base (CX1 P w) 4 t.iz t.bF ["many","thing"] (spF K (bR mg) 2 bU):=
 ao (k:=3) (f:=bF) T.jC nT λ n _ _ _ _ _ _ _=>
  (aJ (eU (fW (fV (j0 (aC 1) T.bV T.eF)))
   (aL (aX iZ))
   bZ)
  (aJ (fD (dh (aC 1)) (bf (ks:=[2]))
   (aL (eU (fW (fV (aV (aB4 T) T.xZ (aB (aC 0) (aB (aC 2) aF)))))
    (aL (aX iZ))
    bZ)))
  (aL (aX (aV (pR T) T.m7 (aB (aC 1) aF))))))
def wN(T:Txt K mg t):bz P w K mg base (CX1 P w) 5 t.qK t.dX ["thing"] (spF K (bR mg) 1 iB):=
 ao (k:=4) (f:=dX) T.qP wI λ n _ _ _ _ _ _ _=>
  (aJ (eU (SW.st (wu (fW (fV (j0 (aC 0) T.bV T.eF))) (qi (wy (iY T.mQ (aB (aC 0) aF)) aH))))
   (aL (aX iZ))
   bZ)
  (aL (aX (j6 (aV (aB5 T) T.xf (aB (aM (aC 0) aH) aF)) (km (aV (nW T) T.jC (aB (aM (aC 0) aH) (aB (aM (aC 0) aH) aF))))))))
def rH(T:Txt K mg t):bz P w K mg base (CX1 P w) 6 t.lQ t.cF ["thing"] (spF K (bR mg) 1 cT):=
 ao (k:=5) (f:=cF) T.lU qw λ n _ _ _ _ _ _ _=>
  (aL (eU (fW (fV (aV (wN T) T.qP (aB (aC 0) aF))))
   (aL (zj rfl T.aB9 T.aBg T.iT (aB oV aF)))
   bZ))
def ul(T:Txt K mg t):bz P w K mg base (CX1 P w) 7 t.nu t.cV ["web"] (spF K (bR mg) 1 gM):=
 ao (k:=6) (f:=cV) T.oH uX λ n _ _ _ _ _ _ _=>
  (aJ (aBy (aV (rH T) T.lU (aB (aC 0) aF)))
  (aJ (bO (i:=1) (fC (aV (uh T) T.rW (aB (aC 0) aF))))
  (aL (aX (aKE (uP (iY T.mQ (aB (aC 1) aF)) (aM (aC 0) aH)) (aZ (iW T.eF (aB (aC 1) aF))) qp)))))
def rG(T:Txt K mg t):bz P w K mg base (CX1 P w) 8 t.lO t.cC ["web"] (spF K (bR mg) 1 cR):=
 ao (k:=7) (f:=cC) T.lR qu λ n _ _ _ _ _ _ _=>
  (aL (eU (aJy (aV (ul T) T.oH (aB (aC 0) aF)) qp)
   (aL (zj rfl T.aCz T.aDE T.jf (aB oV aF)))
   bZ))
def mK(T:Txt K mg t):bz P w K mg base (CX1 P w) 9 t.aC6 t.nQ ["web"] (spF K (bR mg) 1 dY):=
 ao (k:=8) (f:=nQ) T.nO aDq λ n _ _ _ _ _ _ _=>
  (aJ (aBy (aV (rG T) T.lR (aB (aC 0) aF)))
  (aL (aX (bD (aB (aZ (aM (aC 0) aH)) (aB (iW T.eF (aB (aKD (N:=["begin","ends","end"]) (js:=[none,none,none]) (ks:=[0,1]) (ks2:=[2]) (aDl (aB (aV (uq T) T.oM (aB (aC 0) aF)) aF) T.aAW) (lr (n:=2) (b8 bG (b8 bG jL))) iV (dh (aC 1)) bG iV (bD (aB (aZ (aC 0)) (aB (aZ (aC 2)) aF)))) aF)) aF))))))
def aAQ(T:Txt K mg t):bz P w K mg base (CX1 P w) 10 t.vX t.gB ["web","thing"] (spF K (bR mg) 2 lL):=
 ao (k:=9) (f:=gB) T.v9 aAC λ n _ _ _ _ _ _ _=>
  (aJ (bO (i:=2) (fC (aV (mK T) T.nO (aB (aC 0) aF))))
  (aJ (eU (fW (fV (aV (wO T) T.qQ (aB (aM (aC 0) aH) (aB (aC 1) aF)))))
   (aL (aX iZ))
   bZ)
  (aL (aX (aBG (aGI T.aKZ (aB (pO (N:=["begin","end","thing"]) (js:=[none,none,some 1]) (ks:=[0,1]) (dh (aM (aC 2) aH)) (lr (n:=2) (b8 bG (b8 bG jL))) iV (j6 (aHd (aC 0) (aC 2)) (km (aHd (aC 1) (aC 2))))) aF)))))))
def aJE(T:Txt K mg t):bz P w K mg base (CX1 P w) 11 t.aHu t.vf ["_law_script"] (spF K (bR mg) 1 aFd):=
 ao (k:=10) (f:=vf) T.aFT aIS λ n _ _ _ _ _ _ _=>
  (aJ (fD (du (aB (aGD T.aKY (aB aH (aB (aGC T.aHq (aB (iY T.mQ (aB (aC 0) aF)) (aB aH aF))) aF))) aF) T.dC) (bf (ks:=[1]))
   (aJ (bO (i:=2) (fC (aV (uo T) T.oK (aB (aC 0) (aB (aC 1) aF)))))
   (aJ (bO (i:=3) (fC (aV (um T) T.oJ (aB (aC 2) (aB aH aF)))))
   (aJ (bO (i:=4) (fC (aV (yj T) T.sy (aB (aC 3) aF))))
   (aJ (eU (SW.st (wu (wy (aV (mK T) T.nO (aB (aC 3) aF)) (aC 4)) (qi (wy (aV (mK T) T.nO (aB (aC 4) aF)) (aC 4)))))
    (aL (aX iZ))
    bZ)
   (aJ (bO (i:=5) (fC (aV (wM T) T.qO (aB (aC 2) (aB aH (aB (aM (aC 3) aH) aF))))))
   (aJ (jJ (i:=6) (fC (fJ (aB (aZ (aC 5)) (aB (aZ (di (aC 5) gH (gG aH))) (aB (aV (aB3 T) T.xY (aB (aC 2) aF)) (aB (bD aF) (aB (iW T.eF (aB (zp T.pW (aB (aV (aAO T) T.v7 (aB (aC 2) (aB aH (aB (aC 3) aF)))) aF)) aF)) (aB (aZ (aDm (aC 5))) aF)))))))))
   (aJ (jJ (i:=6) (fC (bH (bH (fH 6) (fJ (aB (aV (tO T) T.m6 (aB (aC 2) (aB aH (aB (aC 5) (aB (aM (aC 3) aH) aF))))) aF))) (pO (N:=["_law_place"]) (js:=[none]) (ks:=[0]) (du (aB (aM (aC 3) aH) aF) T.dC) bG iV (bD (aB (aZ (aC 0)) aF))))))
   (aL (fD (dh (fH 6)) (bf (ks:=[7]))
    (aJ (bO (i:=8) (fC (aV (aAQ T) T.v9 (aB (aC 3) (aB (aC 7) aF)))))
    (aL (eU (SW.st (wu (fW (fV (j0 (aC 8) T.bV T.aB6))) (qi (wy (aC 8) (aV (ym T) T.tB (aB (aC 4) (aB (aC 7) aF)))))))
     (aL (aX iZ))
     bZ)))))))))))))
  (aL (aX (j6 (aDo (aV (mK T) T.nO (aB (bD (aB aH (aB (bD (aB (bD (aB aH (aB aH aF))) (aB (bD (aB aH (aB aH aF))) aF))) aF))) aF)) (bD (aB aH (aB (bD (aB (bD (aB aH (aB aH aF))) (aB (bD (aB aH (aB aH aF))) (aB (bD (aB aH (aB aH aF))) aF)))) aF)))) (km (aDo (aV (mK T) T.nO (aB (bD (aB aH (aB (bD aF) aF))) aF)) (bD (aB aH (aB (bD aF) aF)))))))))
end
def aIB{K:zAA}{h:Heap}{mg:Str->Option Value}{tk_MOST_PLACES:Tok}{q_FewError:Addr}{q_NoOneWay:Addr}{q_NoOrder:Addr}(X:K.In h)(G:h.Ns zA7 mg)
  (h0:∃f d,Enr K "is_whole" o5 f d)
  (h1:∃f d,Enr K "is_many" rA f d)
  (h2:∃f d,Enr K "is_place" o6 f d)
  (h3:∃f d,Enr K "is_pair" qz f d)
  (h4:∃f d,Enr K "is_rising" mF f d)
  (h5:∃f d,Enr K "are_rising_pairs" eN f d)
  (h6:∃f d,Enr K "are_places" lD f d)
  (h7:∃f d,Enr K "is_one_way" lC f d)
  (h8:∃f d,Enr K "check_one_way" gh f d)
  (h9:∃f d,Enr K "all_led" rB f d)
  (h10:∃f d,Enr K "all_come" o8 f d)
  (h11:∃f d,Enr K "ordered" qx f d)
  (h12:∃f d,Enr K "least_order" j7 f d)
  (h13:∃f d,Enr K "check_ordered" gf f d)
  (h14:∃f d,Enr K "all_reached" jb f d)
  (h15:∃f d,Enr K "reach" yV f d)
  (h16:∃f d,Enr K "is_apart" o7 f d)
  (h17:∃f d,Enr K "_law_cell_at" j9 f d)
  (h18:∃f d,Enr K "_law_draw" oZ f d)
  (h19:∃f d,Enr K "_law_whole" lz f d)
  (h20:∃f d,Enr K "_law_turn" oY f d)
  (h21:∃f d,Enr K "_law_ordered" j8 f d)
  (h22:∃f d,Enr K "_law_odd" qy f d)
  (h23:∃f d,Enr K "_law_rising" lA f d)
  (h24:∃f d,Enr K "_law_places" lB f d)
  (h25:∃f d,Enr K "_law_are_places" fX f d)
  (h26:∃f d,Enr K "_law_walk" oX f d)
  (h27:∃f d,Enr K "_law_bent_row" ie f d)
  (h28:∃f d,Enr K "_law_reach" mC f d)
  (h29:∃f d,Enr K "_law_apart" mD f d)
  (h30:∃f d,Enr K "law" aDr f d)
  (gJ:zAq K zA7 "MOST_PLACES"=some (some (.int 60 tk_MOST_PLACES)))
  (y_FewError:zAq K zA7 "FewError"=some (some (.ref q_FewError)))
  (kY:pM K q_FewError)
  (y_NoOneWay:zAq K zA7 "NoOneWay"=some (some (.ref q_NoOneWay)))
  (iT:pM K q_NoOneWay)
  (y_NoOrder:zAq K zA7 "NoOrder"=some (some (.ref q_NoOrder)))
  (jf:pM K q_NoOrder)
  (z_all:zAq K zA7 "all"=some none)
  (z_any:zAq K zA7 "any"=some none)
  (z_bool:zAq K zA7 "bool"=some none)
  (z_enumerate:zAq K zA7 "enumerate"=some none)
  (z_int:zAq K zA7 "int"=some none)
  (z_isinstance:zAq K zA7 "isinstance"=some none)
  (z_len:zAq K zA7 "len"=some none)
  (z_list:zAq K zA7 "list"=some none)
  (z_max:zAq K zA7 "max"=some none)
  (z_min:zAq K zA7 "min"=some none)
  (z_range:zAq K zA7 "range"=some none)
  (z_sorted:zAq K zA7 "sorted"=some none)
  (z_tuple:zAq K zA7 "tuple"=some none):
  ∃t,Txt K mg t:=by
 obtain⟨f0,d0,F0,a0⟩:=dnr X G h0 ["thing"];obtain⟨f1,d1,F1,a1⟩:=dnr X G h1 ["thing"];obtain⟨f2,d2,F2,a2⟩:=dnr X G h2 ["many","thing"];obtain⟨f3,d3,F3,a3⟩:=dnr X G h3 ["many","thing"];obtain⟨f4,d4,F4,a4⟩:=dnr X G h4 ["things"];obtain⟨f5,d5,F5,a5⟩:=dnr X G h5 ["many","thing"];obtain⟨f6,d6,F6,a6⟩:=dnr X G h6 ["many","thing"];obtain⟨f7,d7,F7,a7⟩:=dnr X G h7 ["thing"];obtain⟨f8,d8,F8,a8⟩:=dnr X G h8 ["thing"];obtain⟨f9,d9,F9,a9⟩:=dnr X G h9 ["web"];obtain⟨f10,d10,F10,a10⟩:=dnr X G h10 ["web"];obtain⟨f11,d11,F11,a11⟩:=dnr X G h11 ["web"];obtain⟨f12,d12,F12,a12⟩:=dnr X G h12 ["web"];obtain⟨f13,d13,F13,a13⟩:=dnr X G h13 ["web"];obtain⟨f14,d14,F14,a14⟩:=dnr X G h14 ["web"];obtain⟨f15,d15,F15,a15⟩:=dnr X G h15 ["web"];obtain⟨f16,d16,F16,a16⟩:=dnr X G h16 ["web","thing"];obtain⟨f17,d17,F17,a17⟩:=dnr X G h17 ["_law_script","_law_k"];obtain⟨f18,d18,F18,a18⟩:=dnr X G h18 ["_law_cell","_law_k","_law_bound"];obtain⟨f19,d19,F19,a19⟩:=dnr X G h19 ["_law_found"];obtain⟨f20,d20,F20,a20⟩:=dnr X G h20 ["_law_cell","_law_many"];obtain⟨f21,d21,F21,a21⟩:=dnr X G h21 ["_law_cell","_law_most"];obtain⟨f22,d22,F22,a22⟩:=dnr X G h22 ["_law_cell"];obtain⟨f23,d23,F23,a23⟩:=dnr X G h23 ["_law_row"];obtain⟨f24,d24,F24,a24⟩:=dnr X G h24 ["_law_cell","_law_spot","_law_many"];obtain⟨f25,d25,F25,a25⟩:=dnr X G h25 ["_law_thing","_law_many"];obtain⟨f26,d26,F26,a26⟩:=dnr X G h26 ["_law_cell","_law_spot","_law_web"];obtain⟨f27,d27,F27,a27⟩:=dnr X G h27 ["_law_cell","_law_spot","_law_row","_law_many"];obtain⟨f28,d28,F28,a28⟩:=dnr X G h28 ["_law_web"];obtain⟨f29,d29,F29,a29⟩:=dnr X G h29 ["_law_wide","_law_thing"];obtain⟨f30,d30,F30,a30⟩:=dnr X G h30 ["_law_script"];exact⟨⟨f0,_,f1,_,f2,_,f3,_,f4,_,f5,_,f6,_,f7,_,f8,_,f9,_,f10,_,f11,_,f12,_,f13,_,f14,_,f15,_,f16,_,f17,_,f18,_,f19,_,f20,_,f21,_,f22,_,f23,_,f24,_,f25,_,f26,_,f27,_,f28,_,f29,_,f30,_,_,q_FewError,q_NoOneWay,q_NoOrder⟩,⟨F0,F1,F2,F3,F4,F5,F6,F7,F8,F9,F10,F11,F12,F13,F14,F15,F16,F17,F18,F19,F20,F21,F22,F23,F24,F25,F26,F27,F28,F29,F30,zCD X G gJ,⟨_,rfl⟩,zCD X G y_FewError,(by unfold bR;rw[zCD X G y_FewError]),kY,zCD X G y_NoOneWay,(by unfold bR;rw[zCD X G y_NoOneWay]),iT,zCD X G y_NoOrder,(by unfold bR;rw[zCD X G y_NoOrder]),jf,zAp X G z_all,zAp X G z_any,zAp X G z_bool,zAp X G z_enumerate,zAp X G z_int,zAp X G z_isinstance,zAp X G z_len,zAp X G z_list,zAp X G z_max,zAp X G z_min,zAp X G z_range,zAp X G z_sorted,zAp X G z_tuple⟩⟩
def aJh{l:zEV}{w:World}{K:zAA}{h:Heap}{mg:Str->Option Value}{fa:Addr}(X:K.In h)(G:h.Ns zA7 mg)(hfa:mg "law"=some (.ref fa))(ht:∃t,Txt K mg t):
  ∃fd:zA8,(∀(s:zAH) (v:Value),zEn s fd ⟨[v],[]⟩ [("_law_script",v)])/\∀base:Heap,K.In base->base.Ns zA7 mg->bz l.prog w K mg base (CX1 l.prog w) 11 fa fd ["_law_script"] (aBz K):=by
 obtain⟨t,T⟩:=ht;have e:=hfa.symm.trans T.aFT.m;cases e;refine⟨t.vf,λ s v=>?_,λ base _ _=>(aJE T).imp (aGq aEf)⟩;obtain⟨oc,od,kV,doc,pm,an,cdv,ct,osl,e,lk,hcd⟩:=T.aFT.F.ex;rw[e];exact .of_eq rfl
def walk{l:zEV}{q:zA2}{loose:List Str}{XP:(Str->Option Value)->Heap->Prop}{YP:World->Heap->Prop}{d:DefRec}{K:Params->zAA}(hn:l.most=some 63)(hdf:d.params.defaults=[])
  (hY:∀(w:World) (h:Heap),YP w h->(K w.params).In h)
  (F:∀(w:World) (mg:Str->Option Value) (fa:Addr) (h:Heap),(K w.params).In h->h.Ns zA7 mg->mg d.name=some (.ref fa)->
   ∃fd:zA8,(∀(s:zAH) (u:Value),zEn s fd ⟨[u],[]⟩ [("_law_script",u)])/\∀base:Heap,(K w.params).In base->base.Ns zA7 mg->bz l.prog w (K w.params) mg base (CX1 l.prog w) 11 fa fd ["_law_script"] (aBz (K w.params))):
  zGn q loose XP YP l.row.toRowW d [] (λ f vs=>zGM f vs):=
 L2.aFm (n:=63) (k:=11) (x:="_law_script") (CX:=λ w=>CX1 l.prog w) (sp:=λ w=>aBz (K w.params)) hn (by decide) hdf ⟨rfl,by decide,by decide⟩ hY F (λ _ _ a ns hl hO hS=>⟨a,ns,rfl,aIR hO hS,hl,λ _=>rfl⟩) λ _ _ _ _ _ ⟨_,_,_,_,_,_,_,_,_,_,_,_,_,z⟩=>z
end VL.My
open PySem PySem.W PyProof.Rows
set_option maxRecDepth 100000 in
set_option maxHeartbeats 0 in
theorem PySem.Challenge.cw_fewways_k74_what_places_reach_holds : PySem.Challenge.rw_fewways_k74_what_places_reach.Holds := by
 w_on; o_law; k_head; (case hw=>w_witness2)
 k_fill
 refine VL.My.walk (l:=PySem.Challenge.rw_fewways_k74_what_places_reach) rfl rfl (fun w h Y=>PySem.W.kIn_of Y) ?F
 case F =>
  intro w mg fa h KX G hmg
  refine VL.My.aJh KX G hmg ?T
  case T =>
   refine' VL.My.aIB KX G (VL.enr ?a0 ?l0 ?c0 ?k0) (VL.enr ?a1 ?l1 ?c1 ?k1) (VL.enr ?a2 ?l2 ?c2 ?k2) (VL.enr ?a3 ?l3 ?c3 ?k3) (VL.enr ?a4 ?l4 ?c4 ?k4) (VL.enr ?a5 ?l5 ?c5 ?k5) (VL.enr ?a6 ?l6 ?c6 ?k6) (VL.enr ?a7 ?l7 ?c7 ?k7) (VL.enr ?a8 ?l8 ?c8 ?k8) (VL.enr ?a9 ?l9 ?c9 ?k9) (VL.enr ?a10 ?l10 ?c10 ?k10) (VL.enr ?a11 ?l11 ?c11 ?k11) (VL.enr ?a12 ?l12 ?c12 ?k12) (VL.enr ?a13 ?l13 ?c13 ?k13) (VL.enr ?a14 ?l14 ?c14 ?k14) (VL.enr ?a15 ?l15 ?c15 ?k15) (VL.enr ?a16 ?l16 ?c16 ?k16) (VL.enr ?a17 ?l17 ?c17 ?k17) (VL.enr ?a18 ?l18 ?c18 ?k18) (VL.enr ?a19 ?l19 ?c19 ?k19) (VL.enr ?a20 ?l20 ?c20 ?k20) (VL.enr ?a21 ?l21 ?c21 ?k21) (VL.enr ?a22 ?l22 ?c22 ?k22) (VL.enr ?a23 ?l23 ?c23 ?k23) (VL.enr ?a24 ?l24 ?c24 ?k24) (VL.enr ?a25 ?l25 ?c25 ?k25) (VL.enr ?a26 ?l26 ?c26 ?k26) (VL.enr ?a27 ?l27 ?c27 ?k27) (VL.enr ?a28 ?l28 ?c28 ?k28) (VL.enr ?a29 ?l29 ?c29 ?k29) (VL.enr ?a30 ?l30 ?c30 ?k30) ?gJ ?y_FewError ?kY ?y_NoOneWay ?iT ?y_NoOrder ?jf ?z_all ?z_any ?z_bool ?z_enumerate ?z_int ?z_isinstance ?z_len ?z_list ?z_max ?z_min ?z_range ?z_sorted ?z_tuple
   (case y_FewError=>k_is); (case kY=>unfold L2.pM; k_exc)
   (case y_NoOneWay=>k_is); (case iT=>unfold L2.pM; k_exc)
   (case y_NoOrder=>k_is); (case jf=>unfold L2.pM; k_exc)
   any_goals k_is
