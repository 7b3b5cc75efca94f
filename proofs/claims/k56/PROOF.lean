import PyProof.Rows.All
import KE.KDictOf
import PyProof.DictWalks
import Wide.All
import OpenK.AllK
import Wide.FinOn
import Lean
import PyProof.EqAt
import PyProof.EqKinds
import PyProof.TupleCall
import KE.LcSums
import PySem.Challenge.RW_fewways_k56_partings_and_their_pairs
open And renaming intro->zFs
open Array renaming length_toList->zA7,getElem?_toList->zBT,getElem?_eq_getElem->zBi,getD_eq_getD_getElem?->zBx,getD->zC8,getElem?_eq_some_iff->zCa,toList_push->zFD,replicate->zF7,getElem_mem_toList->zGF,getElem?_eq_none->zG0,toList_append->zGw,append_assoc->zHK,toList->zI4
open Array.Perm renaming refl->zGm
open Bool renaming and_eq_true->zAN,false_ne_true->zA5,false_eq_true->zAn,eq_iff_iff->zD6,and_true->zEF,and_false->zEf,not_eq_true'->zFK,or_eq_true->zFg,and_assoc->zGG,not_true->zG1,false_and->zIU,not_false->zIV,and_self->zI5,or_true->zIi
open False renaming elim->zAQ
open ForInStep renaming yield->zBf
open Function renaming comp_def->zGp
open Int renaming toNat_natCast->zB3,toNat_of_nonneg->zBz,emod_lt_of_pos->zDE,emod_nonneg->zDd,zero_add->zE7
open LawfulBEq renaming eq_of_beq->zDQ
open List renaming getElem?_eq_getElem->zAD,length_map->zAF,map_cons->zAG,getElem?_eq_some_iff->zAI,mem_cons_self->zAK,mem_cons->zAL,mem_cons_of_mem->zAM,size_toArray->zAR,mem_singleton->zAS,getElem?_map->zAT,getD_eq_getElem?_getD->zAZ,mem_append_left->zA0,length_append->zA1,mem_append->zA2,mem_append_right->zA4,replicate->zA6,length_cons->zA9,range->zAb,lookup_cons->zAc,all_eq_true->zAf,mem_map->zAg,not_mem_nil->zAh,flatten_cons->zAk,pairwise_cons->zAo,map_append->zAq,map_map->zAu,mem_of_getElem?->zAw,append_nil->zAy,nodup_append->zBB,mem_filter->zBD,nodup_cons->zBH,length_nil->zBN,zip_cons_cons->zBP,filterMap_cons->zBU,mem_range->zBV,getElem?_set_ne->zBZ,length_take->zB2,length_set->zB8,append_assoc->zBg,replicate_succ->zBh,length_drop->zBp,getElem?_cons_succ->zBu,foldl_cons->zBy,getElem?_set_self->zCA,mem_filterMap->zCI,getElem?_cons_zero->zCP,map_congr_left->zCQ,getElem_map->zCY,length_replicate->zC6,any_cons->zCb,getElem?_inj->zCc,drop_eq_getElem_cons->zCi,getElem?_append_left->zCj,getElem?_eq_none_iff->zCk,getLastD_eq_getLast?->zCl,pairwise_iff_getElem->zCm,getElem_mem->zCo,mem_reverse->zCp,getElem_of_mem->zCr,find?_cons->zCz,getElem?_replicate->zDA,of_mem_zip->zDB,pairwise_map->zDK,reverse_cons->zDL,mem_flatMap->zDX,length_pos_iff->zD8,length_zip->zD9,getElem?_append_right->zDe,nodup_iff_pairwise_ne->zDf,map_nil->zDg,getElem?_zip_eq_some->zDk,flatMap_cons->zDw,length_erase_of_mem->zDx,length_range->zDy,any_eq_true->zEK,drop_length->zEL,map_snd_zip->zEM,length_pos_of_mem->zER,take_of_length_le->zES,take_append_drop->zE4,all_cons->zEy,contains_cons->zEz,lookup_append->zFA,all_eq_false->zFM,cons_append->zF2,eq_nil_of_length_eq_zero->zF3,ext_getElem->zF4,filter_cons->zF5,forIn_cons->zFj,length->zFk,nil_append->zFl,range_succ->zFm,perm_ext_iff_of_nodup->zFu,length_eq_zero_iff->zG4,pairwise_lt_range->zGa,length_filter_le->zGr,getElem?_zipIdx->zGy,getElem_toArray->zGz,range_eq_range'->zHA,filter_sublist->zHL,getElem?_range->zHM,length_reverse->zHN,map_id->zHO,range'->zHP,filter_append->zHX,getElem?_drop->zHY,getElem?_take->zHZ,getElem_range->zH0,zip_nil_right->zH1,any_eq_false->zHe,foldl->zHf,take_add_one->zHg,zip_nil_left->zHh,flatten_nil->zHx,getLast_mem->zHy,map_fst_zip->zHz,nodup_range->zIA,range'_succ->zIB,take_length->zIC,zipIdx_cons->zID,zipIdx_nil->zIN,drop_drop->zIX,forIn_nil->zIY,map_drop->zI7,perm_nil->zI8,all_map->zIq
open List.Nodup renaming length_le_of_subset->zEj
open List.Pairwise renaming nil->zFt
open List.Perm renaming refl->zBR,swap->zD3
open List.Sublist renaming refl->zGJ,map->zGO
open Nat renaming le_refl->zAP,ne_of_lt->zAU,lt_of_lt_of_le->zAW,zero_le->zAa,le_trans->zAm,lt_irrefl->zBW,ne_of_gt->zB4,lt_succ_self->zBa,lt_succ_of_lt->zBj,le_of_lt->zBm,lt_trans->zCR,le_of_lt_succ->zCd,succ_pos->zDl,mod_lt->zEC,le_succ->zEN,le_of_ble_eq_true->zE8,min_self->zE9,lt_of_le_of_lt->zFE,not_lt->zFU,le_of_eq->zF6,add_comm->zHB,zero_add->zHC,lt_trichotomy->zIE,le_add_right->zIO,le_max_right->zIP,le_of_not_lt->zIQ,le_max_left->zIZ,not_lt_zero->zI0
open Nat.succ renaming inj->zGK
open Ne renaming symm->zDG
open Option renaming map_eq_some_iff->zCZ,map_some->zC5,bind_some->zFN,getD_none->zH2,map_none->zHi,none->zI9
open Option.some renaming inj->zAp,injEq->zGP
open Or renaming inr->zCC,inl->zCf
open Prod renaming snd->zEG,ext->zG5,fst->zG6
open PyProof.Rows renaming slot_tuple_getitem->zAx,IntsAre->zBS,callWith_type1->zBq,seqObj->zCV,envOfC->zCv,firstMet->zEI,step_dedup->zE0,kindOf->zEc,AllBare->zEo,slicePart_none->zFS,entry_tuple_getitem->zFX,args_tuple_getitem->zFb,subscriptTail->zFe,KeyOrd->zFn,lt_int->zFo,get?_update_seq->zGh,Subscript_->zHR,sortedHeap->zHT,listUpdate_at->zH8,tupleItemsOf_->zHb,subscriptTail_builtinR->zHq,seqEpoch_at->zI2,boot_range->zIw
open PyProof.Rows.F renaming plain_set_update_loop->zC1,entry_set_update_loop->zDp
open PyProof.Rows.IntsAre renaming int_at->zHQ
open PyProof.Rows.IsTup renaming new->zG9
open PyProof.Rows.KeyOrd renaming kle_refl->zCt,kle_trans->zEB,kle_of_klt->zEx,kle_antisymm->zGq
open PySem renaming wpAny_bind->zAB,wpAny_pure->zAE,Shared->zAH,sizeLine->zAV,starEach->zAX,mainGlobals->zAY,Program->zA3,FuncData->zAe,mem_of_lookup->zAi,Around->zAj,compareOp->zAs,bootBuiltins->zAt,wpAny_newObj_type->zAv,wpAny_mono->zAz,wpAny_callSpecial?_slot->zBF,wpAny_call_entry->zBO,foldedSetIterable->zBQ,wpAny_field->zBX,behindInMarks->zB5,codeAny_builtin->zBd,wpAny_Call_Name_kw->zBe,wpAny_setState_of->zBn,wpAny_holding->zBo,codeAny->zBs,sizeLine_eq->zBw,wpAny_seqItems->zCE,wpAny_truthy_bool->zCF,wpAny_loadPart'->zCH,wpAny_pyIter_tuple->zCM,Builtin->zCN,binaryOp->zCU,wpAny_loadPart_at->zCW,backTo->zC2,sysModules->zC7,callerA->zC9,wpAny_passesOwn->zCg,SetTable->zCq,Keyword->zCs,cellsFrom->zCu,swapsWith->zCw,wpAny_askSetting->zDD,codeAny_mono->zDI,wpAny_rule->zDJ,Arguments->zDN,attributeBase->zDP,letOwnedTupleGo->zDR,wpAny_setField_rec->zDS,assignEach->zD0,wpAny_Name->zD1,builtinLookup_eq_fast->zD4,wpAny_typeOf->zD5,NameKind->zDh,wpAny_standAt->zDj,call_meets->zDm,typeLookup->zDn,IsPair->zDo,keywordEach->zDs,sliceBounds->zDt,wpAny_execs_nil->zDu,wpAny_isSubtype_exc->zDv,wpAny_newFunctionEnv_cells->zEE,getItem->zEP,wpAny_setField->zEQ,rawInt->zEZ,wpAny_comprehension_free->zE1,wpAny_pyIter_list->zE2,excClassObj->zEa,wpAny_attempt->zEb,pyNext->zEd,wpAny_isInstance->zEe,Paired->zEq,codeAny_call_function->zEt,holding->zEu,typeLookup_type->zEv,wpAny_specialOf->zEw,closureFor->zFC,codeAny_call_builtin->zFH,wpAny_loadName_local->zFI,wpAny_updateSeq_pair->zFJ,Result->zFO,firstArgMember->zFP,newFunctionEnv->zFQ,recursionLimit->zFR,intKind->zFY,wpAny_loadName_cell->zFZ,wpAny_loadName_free->zF0,wpAny_of_eq->zF1,backToKw->zFc,codeAmong->zFd,wpAny_onRaise->zFf,relabel->zGC,standAt->zGD,wpAny_sequenceKey->zGE,IsPart->zGI,assign->zGM,checkBuiltinCall->zGW,noFill_tuple_add->zGX,wpAny_eqBool_int->zGY,wpAny_forIn_list->zGZ,GenState->zG3,codeAny_of_tree->zGg,hashByValue->zGi,newList->zGj,subscripted->zGk,valueAt->zGl,isSubtype_stop->zHH,isSubtype_type->zHI,wpAny_runValue->zHJ,pyIter->zHS,wpAny_call->zHU,BindsTo->zHV,call->zH3,entryFor->zH6,evalPart_none->zH7,plainId_quiet->zH9,seq_tuple_add->zHa,wpAny_pyNext_tuple_item->zHc,richCompare_meets_room->zHp,wpAny_pyNext_tuple_end->zHr,PassesOwn->zIG,codeAny_func->zII,concat_meets->zIJ,lastMarks->zIK,tupleKind->zIL,wpAny_isTrue_Compare1->zIM,boot_len->zIT,wpAny_letGo->zI3,Within->zIb,bindArgs->zIc,compTurn->zId,getAttr?->zIe,getattributeRaised->zIf,stored->zIg,tupleKind_room_in1->zIh,builtinsNs->zIx,defaultsOf->zIy,setsByText->zIz,slot_list_getitem->zJA,typeIs_int->zJB,wpAny_assign_Name->zJC,wpAny_pyIter_enum->zJD,wpAny_pyIter_slot->zJE
open PySem.Around renaming under_plainId->zBY,frames_deeper->zG8
open PySem.AutoSeq1 renaming sub_tuple_tuple->zF8,list_insert_list_int_val_1->zIa
open PySem.Builtin.Dict renaming updateFrom->zFL
open PySem.Builtin.Frozenset renaming addrOf->zHs,newClass->zHt,sizeOf->zHu,slot0->zHv,updateFrom->zHw
open PySem.Builtin.List renaming listTooLong->zCG,listFitsIndex->zDT,listLengthHint->zEm
open PySem.Builtin.Range renaming rangeSize->zD2,rangeFitsLong->zEg,small->zIj
open PySem.Builtin.Slice renaming slicePlaces->zBI,sliceAdjust->zB9,sliceApplied->zCX,sliceFields->zEp,slicePartIndex->zIk
open PySem.Builtin.SmallTypes renaming nextOf->zBG,ownedTupleIsFree->zBl,ownedTupleHandOut->zDc
open PySem.Builtin.Tuple renaming tupleExact->zBM,tupleItemsOf->zDO,tupleCompareSizes->zET,tupleHashOf->zIl,tupleIsExact->zIm
open PySem.Calls renaming Name_function_global->zFh,callWith_builtin->zG2,evalArgs_plain->zGn
open PySem.CmpOp renaming NotIn->zIn
open PySem.Code renaming quiet_builtin->zCx
open PySem.F renaming plainAttrs_list->zBr,slot_tuple_iterator_next->zCh,called_set->zCy,args_tuple_add_2->zDi,entry_tuple_add->zDq,slot_tuple_getattribute->zEA,slot_tuple_add->zED,slot_list_append->zEJ,slot_zip_next->zEh,typeOf_object_class->zEi,slot_dict_values->zFp,slot_list_insert->zFq,type_list_append->zFr,plain_list_iadd->zFv,slot_list_count->zFw,slot_list_index->zFx,args_tuple_iterator_next_1->zGH,entry_tuple_iterator_next->zGN,plain_set_new->zGQ,slot_set_iter->zGR,slot_list_extend->zGo,slot_gs_get->zGx,slot_enumerate_next->zHW,sub_list_frozenset->zHd,args_zip_next_1->zIW,entry_zip_next->zI6,slot_int_rmul->zIo
open PySem.Heap renaming get?_push_of_some->zAC,get?_push_size->zAJ,lt_size->zAO,size_push->zBE,SameBut->zDU,get?_update_ne->zD7,get?_update_self->zE3,IsTuple->zFT,ExtBut->zFi,FlyingW->zIp
open PySem.Heap.IsSliceOf renaming new->zF9
open PySem.Heap.SameBut renaming update->zB7
open PySem.NameKind renaming free->zCB,cell->zDV
open PySem.Obj renaming mapSeq->zCe,data_mapFields->zFF,isFreed_of_fields->zHD,putSet->zIF,mapFields->zIr
open PySem.Paired renaming length->zIR
open PySem.SeqAt renaming EqAt->zDr
open PySem.SeqAt.EqAt renaming of_refs->zE6,same->zFB,bool_bool->zFz,int_int->zGT,int_str->zGU,str_int->zGV
open PySem.SeqAt.RcAt renaming lists_lengths->zFW,tuples->zG7,lists->zGd
open PySem.SetTable renaming below->zAl,bits->zBA,leap->zB1,runEnd->zB6,insertAt->zBb,turns->zDF,has->zEH,Probe->zEW,grown->zEX,insertAt_perm->zGA,sizeAbove->zGe,layClean->zGt,advance->zHG,fresh->zH4,fill->zHm,fits->zHn,slot->zHo
open PySem.SetTable.below renaming go->zDY
open PySem.SetTable.layClean renaming free->zCJ
open PySem.SetTable.probe renaming go->zCD
open PySem.Shared renaming TypeIs->zEn,heap->zGu
open PySem.Str renaming ofString->zCT
open PySem.Value renaming ref->zBC,none->zBJ,type->zCL,bool->zC0,builtin->zDZ,int->zEY,str->zGf,notImplemented->zGv,isStrOf->zI1,float->zIu,isInt->zIv
open PySem.W renaming Frag->zAA,nsIn->zA8,mg_of->zAd,mg_none_of->zAr,kia_one->zBK,findIn->zBL,keepIn->zB0,emptyDict->zBc,fnOf->zBk,kitOne->zBt,hideAll->zBv,instObj->zCK,hideAll_get->zCO,tabObj->zCS,kla_obj->zC3,envX->zCn,cellsFrom_some->zDC,codeIn->zDH,looks_findIn->zDW,callWith_K->zDa,of_hideAll->zDb,codeHdIn->zDz,kas_rev->zEO,hideAll_none->zEU,hideAll_size->zEV,lookIn->zE5,Looks->zEk,codeRec_of->zEl,kitx_dict->zEr,methodObj->zEs,plainGet->zFG,OpenLaw->zFV,kla_fn->zFa,excIn->zFy,funFrames_hide->zGL,KasT->zGS,codeHd_of_K->zGb,plainGet_of->zGc,kitx_tuple->zGs,kas_place->zHE,kitx_list->zHF,CodeHd->zHj,InstAt->zHk,KdlSrc->zHl,WalkO->zIH,isFn->zIS
open PySem.W.Looks renaming ld->zIs,now->zIt
open PySem.Walks renaming list->zH5
open Sum renaming inl->zC4,inr->zGB
open True renaming intro->zDM
noncomputable section
namespace PySem.W.Fast
def tw10838582191311548663:=0
def tw3681415687301920279:=0
def tw5013536037783720055:=0
def tw12231824893663742007:=0
def tw14283798935491361047:=0
def tw14437687924507609303:=0
def tw878770374490027831:=0
def tw6857785665506240599:=0
def tw16962229707159925431:=0
def tw17357214569560186839:=0
def tw11129275363845678039:=0
def tw4552834942786993783:=0
def tw1145554046681032119:=0
def tw5429384245177344670:=0
def tw1428596936935765598:=0
def tw12215958935604238942:=0
def tw4458704236094593566:=0
def tw12175555596457083070:=0
def tw3293945822756929694:=0
def tw12642406383344758878:=0
def tw15834264663179652126:=0
def tw14103798856360798782:=0
def tw327615636969206101:=0
def tw8687407365193817653:=0
def tw9398929554919992469:=0
def tw15167439038741321909:=0
def tw14000572047047313173:=0
def tw11028748785864868917:=0
def tw10778711606931913429:=0
def tw10568146789394901461:=0
def tw10121397591610347356:=0
def tw11246602896861969916:=0
def tw6703709352450334076:=0
def tw18044292548196100764:=0
def tw4152985029155531004:=0
def tw7962545007775154716:=0
def tw10559168503724786876:=0
def tw1293195028706762812:=0
def tw10332365928779766716:=0
def tw7688850836871583964:=0
def tw5861736841563066588:=0
def tw284489622848921756:=0
def tw10821188587562217628:=0
def tw9393293405501822619:=0
def tw15412349925132801275:=0
def tw17459221142183215579:=0
def tw4886167136468702075:=0
def tw6880507808651986011:=0
def tw6900123652668834555:=0
def tw741902042756625147:=0
def tw15582627089649811355:=0
def tw3362076265541277243:=0
def tw15269065898962491058:=0
def tw16627487956114568818:=0
def tw3992319271898297618:=0
def tw14328822138896625202:=0
def tw15655313724450551762:=0
def tw13826850125938786194:=0
def tw1373544896882169010:=0
def tw15100668631522123538:=0
def tw12684782956721471410:=0
def tw9320616215042518457:=0
def tw16388697850862005913:=0
def tw14617208085892282777:=0
def tw10918784854747224409:=0
def tw4510524097276385561:=0
def tw18273500292812855097:=0
def tw529790770576137017:=0
def tw6827993230584820825:=0
def tw12482508253306164985:=0
def tw66488739160715897:=0
def tw4594570318582710905:=0
def tw14687944881044905168:=0
def tw3549190652091974128:=0
def tw2640915982136662992:=0
def tw17303393542067110800:=0
def tw16616689874153604880:=0
def tw4383566615043419120:=0
def tw5485107216039623248:=0
def tw14324311610794823536:=0
def tw17033148971094740784:=0
def tw6067895151158665968:=0
def tw7435981129887402384:=0
def tw14828107849611811503:=0
def tw5058577866568255087:=0
def tw17344351163333674479:=0
def tw13002198426486468783:=0
def tw16396005958245960527:=0
def tw6830160703738980047:=0
def tw8329351433775252047:=0
def tw395578741570215375:=0
def tw11995932630792992143:=0
def tw15782780140205776310:=0
def tw12268950730471995702:=0
def tw16677437402920989270:=0
def tw2203573516361300022:=0
def tw2932890092028299254:=0
def tw10828766930237478166:=0
def tw3055382723651370870:=0
def tw7894361392164662294:=0
def tw18055552490638714550:=0
def tw12646062485584267949:=0
def tw9926640126809788749:=0
def tw12261891349440328013:=0
def tw13421429564160433357:=0
def tw8973706330496126157:=0
def tw9322153569617708173:=0
def tw2088896607560337485:=0
def tw17943329348502980621:=0
def tw12710160756110757901:=0
def tw14148521523272035565:=0
def tw11212543491392320685:=0
def tw17160979898328280909:=0
def tw13361473377857921869:=0
def tw4572625665185143629:=0
def tw17673806120434251885:=0
def tw16305805244958471757:=0
def tw12293959282020549485:=0
def tw10402449375141466868:=0
def tw15775083545561955732:=0
def tw17842271938212597076:=0
def tw12136503142437000692:=0
def tw6558150816832895060:=0
def tw9275777541885097876:=0
def tw14342717205638677332:=0
def tw481665351709062996:=0
def tw74479728328322836:=0
def tw59075176931079828:=0
def tw16514171776871979956:=0
def tw11291660134282801971:=0
def tw5193286190461647251:=0
def tw6432350273530018419:=0
def tw3856546175901056627:=0
def tw1841280804115835091:=0
def tw15033058934626678995:=0
def tw10171930595484474451:=0
def tw9437775320193975315:=0
def tw1737915175770847187:=0
def tw11837419147365716211:=0
def tw13611757282529576179:=0
def tw7618820584896370867:=0
def tw8614876283951738035:=0
def tw8589266328365196115:=0
def tw2680065344969309299:=0
def tw9411611312050023475:=0
def tw8596687446263401770:=0
def tw7074199684369812042:=0
def tw8282883698972223722:=0
def tw14141433490509713514:=0
def tw4783846977330915722:=0
def tw2909345674858351338:=0
def tw2925688441707130890:=0
def tw5854797648116919242:=0
def tw13573549746683811594:=0
def tw14444200921322343850:=0
def tw11458042321472974353:=0
def tw10013388057733495249:=0
def tw4188989469586686641:=0
def tw14796450683593667185:=0
def tw16303524122768751825:=0
def tw18144540634370827697:=0
def tw7469104298524721585:=0
def tw5224862937327475665:=0
def tw2316257817510220689:=0
def tw18317559401295659793:=0
def tw9057530365841170129:=0
def tw16576382941336467377:=0
def tw16620338625826452337:=0
def tw8452165637450589768:=0
def tw17901979758365061352:=0
def tw6706756276774753800:=0
def tw495305098587135144:=0
def tw16061235338556123528:=0
def tw17851269826648125832:=0
def tw17732485841755135016:=0
def tw15999026422805630024:=0
def tw17131576331944071848:=0
def tw9811312234921532008:=0
def tw15948282496687579912:=0
def tw14528885866290669992:=0
def tw14237908146567880104:=0
def tw16526532350066643656:=0
def tw14388830253773487463:=0
def tw11766863995332475463:=0
def tw6834048542693898407:=0
def tw11182208511146173543:=0
def tw12824103329592241191:=0
def tw11761984301350023495:=0
def tw15263914519365975015:=0
def tw7657711339165339559:=0
def tw10034297510005213383:=0
def tw16372798355947042663:=0
def tw2069101732999905063:=0
def tw588854524038553319:=0
def tw11923710184121080487:=0
def tw11507909295844411335:=0
def tw8427581020524343239:=0
def tw16687141110990968423:=0
def tw3386603148467551783:=0
def tw3843102344739763687:=0
def tw14243345022060785127:=0
def tw9758663757790699271:=0
def tw12022985867297863182:=0
def tw16685646864938887982:=0
def tw12265837639571687214:=0
def tw7010461927868983982:=0
def tw12976482715238569582:=0
def tw2075105411377956398:=0
def tw2742442862404517006:=0
def tw17256740906031419278:=0
def tw2490697146672061614:=0
def tw14742735919806375982:=0
def tw3992023646152133678:=0
def tw5958622330153454638:=0
def tw12445394406905364110:=0
def tw16944046135181741413:=0
def tw11960018893830499973:=0
def tw5550621333229330725:=0
def tw11262039229605519685:=0
def tw2225194594909820773:=0
def tw17485030112930364549:=0
def tw4234696557118449125:=0
def tw463302851052006860:=0
def tw13199018778432645452:=0
def tw9323046630875147884:=0
def tw17419586313566935308:=0
def tw13065241740823006700:=0
def tw15300424178240358540:=0
def tw7052158558194092460:=0
def tw9414842339471580588:=0
def tw5512105110308746316:=0
def tw9513850877605689708:=0
def tw13143509054720519180:=0
def tw4890037426095640524:=0
def tw11405000871706539916:=0
def tw2791401910645646444:=0
def tw4185376890898018348:=0
def tw17255898758903935564:=0
def tw4876197173871019339:=0
def tw13868546688810273131:=0
def tw15911456589008899435:=0
def tw2979677291955747787:=0
def tw8183104623416275723:=0
def tw6005486802288853707:=0
def tw745994687296377483:=0
def tw15300802254144364459:=0
def tw10195607848358247778:=0
def tw9993691429398814274:=0
def tw756428570533014978:=0
def tw8225582800710466946:=0
def tw4154236450618801122:=0
def tw2847169127766935810:=0
def tw9278342167791026370:=0
def tw4334165951086241634:=0
def tw10070003295744044898:=0
def tw5257078939479643266:=0
def tw11422084258240792354:=0
def tw11694916779903613954:=0
def tw7739420670653060994:=0
def tw18434502099785770466:=0
def tw17642999047191366402:=0
def tw13425369141989952873:=0
def tw13301970314885403273:=0
def tw637543798915382793:=0
def tw6290490964508572841:=0
def tw15472388247375533225:=0
def tw5199903058539881929:=0
def tw14381536625741653449:=0
def tw12395254144595129449:=0
def tw16487641586883712041:=0
def tw15291793489987170281:=0
def tw5612325633621770089:=0
def tw6615853694903626825:=0
def tw15752838995237346313:=0
def tw14976031920948588201:=0
def tw3019434983931448937:=0
def tw2469416131719173737:=0
def tw1108328044228358816:=0
def tw16516898969927296672:=0
def tw8452016835110568192:=0
def tw799845800990441888:=0
def tw13946939706875782560:=0
def tw4865204042122946848:=0
def tw4757946470272292736:=0
def tw393710942473709376:=0
def tw15958922456770942944:=0
def tw4263214881237045152:=0
def tw4818279904144820128:=0
def tw9903280329672401408:=0
def tw15029267178225277728:=0
def tw7713920728689334879:=0
def tw15438846388235723839:=0
def tw12226359474603807071:=0
def tw1002204590681678783:=0
def tw5367872571916638079:=0
def tw4089939357655312479:=0
def tw8388109461636835359:=0
def tw9942962808009341919:=0
def tw17800476280714971711:=0
def tw6862260465986755135:=0
def tw14689567028142146047:=0
def tw14099928009539953087:=0
def tw6468203103140907391:=0
def tw6212306234547773862:=0
def tw3754700739561356454:=0
def tw5874572470028185030:=0
def tw14930679562125139046:=0
def tw7792566710774121510:=0
def tw16430268765528057094:=0
def tw11146156139169725702:=0
def tw1979969471970902950:=0
def tw3853871329359033542:=0
def tw10193501366201266982:=0
def tw5151546556448427078:=0
def tw829682455324333798:=0
def tw14265308374132012038:=0
def tw8237858144288033085:=0
def tw15766770231846190269:=0
def tw12075674015726558333:=0
def tw11730453244250368285:=0
def tw533629007753955261:=0
def tw8332100217113865309:=0
def tw1411339118323341757:=0
def tw1499669208085811645:=0
def tw9921712993898046276:=0
def tw14415572476274979300:=0
def tw2567587410696488452:=0
def tw8910971227543493060:=0
def tw3032124386472688068:=0
def tw4719104275816051076:=0
def tw15461911379107632996:=0
def tw2254122637173137124:=0
def tw6569226725296005668:=0
def tw584549719504061923:=0
def tw4301832165899194659:=0
def tw12529631345795981539:=0
def tw13806294448596059363:=0
def tw9886011359539467491:=0
def tw285283815538273667:=0
def tw18119743669659854147:=0
def tw511173088383232323:=0
def tw8833924272297145539:=0
def tw5845695701646171139:=0
def tw481983060876975715:=0
def tw17159984087560534915:=0
def tw18161210486191791706:=0
def tw5123193813807006970:=0
def tw14004856019448398362:=0
def tw6984457426912044570:=0
def tw16354979935834530202:=0
def tw10123775153271463802:=0
def tw11613962434956339962:=0
def tw10576528806590654010:=0
def tw13214413817147349722:=0
def tw16643444873786955585:=0
def tw14872040066702418689:=0
def tw11238160130427153825:=0
def tw11633187661872511329:=0
def tw15276725672360591713:=0
def tw8399710225871979873:=0
def tw16461372201882512673:=0
def tw18136547552118341921:=0
def tw14064551876013307105:=0
def tw18017126137561494753:=0
def tw8742190083248507105:=0
def tw3358186507109870689:=0
def tw9143641861988431233:=0
def tw7753999505981174145:=0
def tw9775882101412665729:=0
def tw14905122199302184257:=0
def tw8430985412824934721:=0
def tw14325807072184004801:=0
def tw12998105929571842113:=0
def tw3511217405373918273:=0
def tw11724109758298824705:=0
def tw10424001568560365569:=0
def tw7885628168799485537:=0
def tw8205481629425383297:=0
def tw2122112893545432312:=0
def tw17964254308769210616:=0
def tw14242587883540916696:=0
def tw13610035783968210328:=0
def tw1184700380017118552:=0
def tw2443407710653076696:=0
def tw2519530252721097592:=0
def tw15034116138699760792:=0
def tw11950872107971306584:=0
def tw11634547039418437592:=0
def tw10504236773518671832:=0
def tw4532173753718335384:=0
def tw7901887987691108856:=0
def tw11927051003686105816:=0
def tw13440484475864566136:=0
def tw18252789914676015330:=0
def tw5693270201137061902:=0
end PySem.W.Fast
set_option bootstrap.genMatcherCode false
set_option compiler.extract_closed false
set_option Elab.async false
set_option linter.all false
set_option maxRecDepth 100000
namespace L2
open PySem PySem.Spec PyProof.Rows
abbrev Key:=Sum Int Str
def aBG:Key->Value->Bool
 | .inl k,v=>zIv k v
 | .inr x,v=>zI1 x v
def aPr(w:World):Key->Int
 | .inl k=>hashInt k
 | .inr x=>hashStr w x
theorem dC:∀{k:Key} {v:Value},aBG k v=true->(∃i t,k=zC4 i/\v=zEY i t)\/(∃x t,k=zGB x/\v=zGf x t)
 | .inl i,v,h=>by
  obtain⟨t,e⟩:=Value.isInt_shape (k:=i) (v:=v) h;exact .inl ⟨i,t,rfl,e⟩
 | .inr x,v,h=>by
  obtain⟨t,e⟩:=Value.isStrOf_shape (x:=x) (v:=v) h;exact .inr ⟨x,t,rfl,e⟩
theorem aGf(i:Int)(t:Tok):aBG (.inl i) (.int i t)=true:=by simp[aBG,zIv]
theorem aGe(x:Str)(t:Tok):aBG (.inr x) (.str x t)=true:=by simp[aBG,zI1]
theorem aNp(a b:Int):decide ((zC4 a:Key)=zC4 b)=(a==b):=by
 by_cases e:a=b
 .subst e;simp
 .have h:¬(zC4 a:Key)=zC4 b:=λ q=>e (Sum.inl.inj q)
  rw[decide_eq_false h];exact(beq_eq_false_iff_ne.mpr e).symm
theorem aNm(a b:Str):decide ((zGB a:Key)=zGB b)=decide (a=b):=by
 by_cases e:a=b
 .subst e;simp
 .have h:¬(zGB a:Key)=zGB b:=λ q=>e (Sum.inr.inj q)
  rw[decide_eq_false h,decide_eq_false e]
theorem aNo(a:Int)(b:Str):decide ((zC4 a:Key)=zGB b)=false:=decide_eq_false (λ q=>nomatch q)
theorem aNn(a:Str)(b:Int):decide ((zGB a:Key)=zC4 b)=false:=decide_eq_false (λ q=>nomatch q)
def dW(prog:zA3)(w:World):PySem.KeyKind prog w Key where
 is:=aBG
 hash:=aPr w
 inj:=λ v a b ha hb=>by
  rcases dC ha with ⟨i,t,rfl,rfl⟩|⟨x,t,rfl,rfl⟩
  .rcases dC hb with ⟨j,u,rfl,e⟩|⟨y,u,rfl,e⟩
   .injection e with e1 _;rw[e1]
   .exact nomatch e
  .rcases dC hb with ⟨j,u,rfl,e⟩|⟨y,u,rfl,e⟩
   .exact nomatch e
   .injection e with e1 _;rw[e1]
 byValue:=λ k v h=>by
  rcases dC h with ⟨i,t,rfl,rfl⟩|⟨x,t,rfl,rfl⟩<;>rfl
 pyHash:=λ hv h=>by
  rcases dC hv with ⟨i,t,rfl,rfl⟩|⟨x,t,rfl,rfl⟩
  .exact wpAny_pyHash_int h
  .exact wpAny_pyHash_str h
 eqBool:=λ hu hv h=>by
  rcases dC hu with ⟨i,t,rfl,rfl⟩|⟨x,t,rfl,rfl⟩
  .rcases dC hv with ⟨j,u,rfl,rfl⟩|⟨y,u,rfl,rfl⟩
   .rw[aNp]at h;exact zGY h
   .rw[aNo]at h;exact zGU i t y u _ _ _ _ h
  .rcases dC hv with ⟨j,u,rfl,rfl⟩|⟨y,u,rfl,rfl⟩
   .rw[aNn]at h;exact zGV x t j u _ _ _ _ h
   .rw[aNm]at h;exact wpAny_eqBool_str h
 «strs»:=λ k x t v h=>by
  rcases dC h with ⟨i,u,rfl,e⟩|⟨y,u,rfl,e⟩
  .exact nomatch e
  .injection e with e1 _
   subst e1;cases v<;>rfl
theorem aDD(prog:zA3)(w:World)(i:Int)(t:Tok):(dW prog w).is (.inl i) (.int i t)=true:=aGf i t
theorem aDC(prog:zA3)(w:World)(x:Str)(t:Tok):(dW prog w).is (.inr x) (.str x t)=true:=aGe x t
inductive V where
 |non|bl (b:Bool)|int (i:Int)|str (x:Str)|byt (b:Array UInt8)|flt (b:UInt64)|ref (a:Addr)|ty (n:String)
 deriving DecidableEq
def RelV:V->Value->Prop
 | .non,u=>u=zBJ
 | .bl b,u=>u=zC0 b
 | .int i,u=>∃t,u=zEY i t
 | .str x,u=>∃t,u=zGf x t
 | .byt b,u=>∃t,u=Value.bytes b t
 | .flt b,u=>∃t,u=zIu b t
 | .ref a,u=>u=zBC a
 | .ty n,u=>u=zCL n
abbrev Vals:List V->List Value->Prop:=zEq RelV
theorem Vals.length(r:Vals xs us):xs.length=us.length:=zIR r
theorem Vals.get:∀{xs:List V} {us:List Value} {i:Nat} {x:V},Vals xs us->xs[i]? =some x->∃u,us[i]? =some u/\RelV x u
 |_,_,_,_,.nil,e=>by simp at e
 |_,_,0,_,.cons r _,e=>by simp at e;subst e;exact⟨_,rfl,r⟩
 |_,_,i+1,x,.cons _ t,e=>by
  obtain⟨u,h1,h2⟩:=Vals.get (i:=i) (x:=x) t (by simpa using e);exact⟨u,by simpa using h1,h2⟩
theorem Vals.append:∀{xs ys:List V} {us ws:List Value},Vals xs us->Vals ys ws->Vals (xs++ys) (us++ws)
 |_,_,_,_,.nil,s=>s
 |_,_,_,_,.cons r t,s=>.cons r (Vals.append t s)
theorem Vals.take:∀{xs:List V} {us:List Value} (n:Nat),Vals xs us->Vals (xs.take n) (us.take n)
 |_,_,0,_=>.nil
 |_,_,_+1,.nil=>.nil
 |_,_,n+1,.cons r t=>.cons r (Vals.take n t)
theorem Vals.drop:∀{xs:List V} {us:List Value} (n:Nat),Vals xs us->Vals (xs.drop n) (us.drop n)
 |_,_,0,r=>r
 |_,_,_+1,.nil=>.nil
 |_,_,n+1,.cons _ t=>Vals.drop n t
def vU:Option V->Option Value->Prop
 |some v,some u=>RelV v u
 |none,none=>True
 |_,_=>False
def KV{κ:Type}:List (κ×V)->List (κ×Value)->Prop:=zEq λ(p:κ×V) (q:κ×Value)=>p.1=q.1/\RelV p.2 q.2
def kV:Key->V
 | .inl i=>.int i
 | .inr x=>.str x
inductive HO where
 |lst (xs:List V)
 |tup (xs:List V)
 |dK (kvs:List (Key×V))|dT (kvs:List (List Key×V))
 |set (S:Int->Bool) (n:Nat)
 |ins (C dx:Addr) (fs:List (Str×V))
 |own (x:Addr)
 |xd (fs:List (Str×V))
 |met (f x:Addr)
 |rng (lo hi:Int)
 |frz (o:Obj) (u:HO)
 |tbl (ps:Array Value)
 |ext (φ:Heap->Prop)
abbrev Hp:=Addr->Option HO
def upd(H:Hp)(a:Addr)(o:HO):Hp:=λ b=>if b=a then some o else H b
theorem aj:upd H a o a=some o:=by unfold upd;rw[if_pos rfl]
theorem aX(h:b≠a):upd H a o b=H b:=by unfold upd;rw[if_neg h]
theorem bN{H:Hp}{a b:Addr}{o:HO}(h:H a=some o)(h':H b=none):a≠b:=by
 intro e;subst e;rw[h]at h';cases h'
def NoD(h:Heap)(a:Addr):Prop:=∀o,h.get? a=some o->o.dict=none
theorem NoD.push(h:Heap){o:Obj}(hl:o.isFreed=false:=by rfl)(hd:o.dict=none:=by rfl):NoD (h.push o) h.objs.size:=λ u e=>by rw[zAJ _ hl]at e;cases e;exact hd
theorem NoD.keep{h h':Heap}{a:Addr}{o:Obj}(n:NoD h a)(e:h.get? a=some o)(e':h'.get? a=some o):NoD h' a:=λ u q=>by rw[e']at q;cases q;exact n o e
section
variable(P:zA3)(w:World)
def cR(H:Hp)(h:Heap)(a:Addr):HO->Prop
 | .lst xs=>xs.length<=zAV/\∃(its:List Value) (n:Nat),Vals xs its/\h.get? a=some {cls:=.type "list",data:=.seq its.toArray n}
 | .tup xs=>(xs.length<=zAV/\NoD h a)/\∃its:List Value,Vals xs its/\IsTup h a its.toArray
 | .dK kvs=>kvs.length<=zAV/\(a==zC7)=false/\∃vs,KV kvs vs/\h.DictOf (dW P w) a vs
 | .dT kvs=>kvs.length<=zAV/\(a==zC7)=false/\∃xs:List (List Key×Addr×Value),
   zEq (λ(p:List Key×V) (q:List Key×Addr×Value)=>p.1=q.1/\H q.2.1=some (.tup (p.1.map kV))/\RelV p.2 q.2.2) kvs xs/\
   ∃o es ep,h.get? a=some o/\o.ExactDict/\o.data= .dict es ep/\es.toList=xs.map (entryOfKey (zIL (dW P w)))/\(xs.map (·.1)).Nodup
 | .set S n=>h.SetOf (zFY P w) a S n
 | .ins C dx fs=>H dx=some (.own a)/\fs.length<=1000/\dx≠a/\h.get? a=some (zCK C dx)/\
   ∃mA,h.Ns1 dx mA/\(∀f,vU (fs.lookup f) (mA f))/\zIb mA (fs.map (·.1))
 | .own _=>∃o,h.get? a=some o
 | .xd fs=>∃mA,h.Ns1 a mA/\∀f,vU (fs.lookup f) (mA f)
 | .rng lo hi=>∃t u v,h.get? a=some {cls:=.type "range",data:=.fields #[.int lo t,.int hi u,.int 1 v]}
 | .frz o u=>h.get? a=some o/\cR H h a u
 | .tbl ps=>h.get? a=some {cls:=.none,data:=.fields ps}
 | .met f x=>h.get? a=some (zEs (.ref f) (.ref x))
 | .ext φ=>φ h/\(∃o,h.get? a=some o)/\∀h1 h2:Heap,φ h1->(∀o,h1.get? a=some o->h2.get? a=some o)->φ h2
def HOk(H:Hp)(h:Heap):Prop:=∀a o,H a=some o->cR P w H h a o
end
section
variable{P:zA3}{w:World}{H H':Hp}{h h':Heap}{a:Addr}{o:HO}
theorem cR.lt(x:cR P w H h a o):a<h.objs.size:=by
 cases o with
 |lst xs=>obtain⟨_,_,_,_,e⟩:=x;exact zAO e
 |tup xs=>obtain⟨_,_,_,p⟩:=x;exact p.lt
 |dK kvs=>obtain⟨_,_,_,_,o,_,_,e,_⟩:=x;exact zAO e
 |dT kvs=>obtain⟨_,_,_,_,o,_,_,e,_⟩:=x;exact zAO e
 |set S n=>obtain⟨o,_,_,_,e,_⟩:=x;exact zAO e
 |ins C dx fs=>obtain⟨_,_,_,e,_⟩:=x;exact zAO e
 |own y=>obtain⟨_,e⟩:=x;exact zAO e
 |xd fs=>obtain⟨_,⟨_,_,_,e,_⟩,_⟩:=x;exact zAO e
 |rng lo hi=>obtain⟨_,_,_,e⟩:=x;exact zAO e
 |frz ob u=>obtain⟨e,_⟩:=x;exact zAO e
 |tbl ps=>exact zAO (show h.get? a=some _ from x)
 |met f y=>exact zAO (show h.get? a=some _ from x)
 |ext φ=>obtain⟨_,⟨_,e⟩,_⟩:=x;exact zAO e
theorem Paired.mapP:∀{l₁:List α} {l₂:List β},zEq F l₁ l₂->(∀a b,F a b->G a b)->zEq G l₁ l₂
 |_,_,.nil,_=>.nil
 |_,_,.cons r t,f=>.cons (f _ _ r) (Paired.mapP t f)
theorem cR.stay(x:cR P w H h a o)(k:∀b u,(b=a\/H b=some (.own a))->h.get? b=some u->h'.get? b=some u)
  (ho:∀b,H b=some (.own a)->H' b=some (.own a))(ht:∀b xs,H b=some (.tup xs)->H' b=some (.tup xs)):cR P w H' h' a o:=by
 induction o with
 |lst xs=>obtain⟨z,its,n,r,e⟩:=x;exact⟨z,its,n,r,k _ _ (.inl rfl) e⟩
 |tup xs=>obtain⟨z,its,r,ob,e,c⟩:=x;exact⟨⟨z.1,z.2.keep e (k _ _ (.inl rfl) e)⟩,its,r,ob,k _ _ (.inl rfl) e,c⟩
 |dK kvs=>obtain⟨z,y,vs,r,ob,es,ep,e,c⟩:=x;exact⟨z,y,vs,r,ob,es,ep,k _ _ (.inl rfl) e,c⟩
 |dT kvs=>
  obtain⟨z,y,xs,r,ob,es,ep,e,c⟩:=x;exact⟨z,y,xs,Paired.mapP r λ p q z=>⟨z.1,ht _ _ z.2.1,z.2.2⟩,ob,es,ep,k _ _ (.inl rfl) e,c⟩
 |set S n=>obtain⟨ob,es,ep,t,e,c⟩:=x;exact⟨ob,es,ep,t,k _ _ (.inl rfl) e,c⟩
 |ins C dx fs=>
  obtain⟨d,z,ne,e,mA,⟨od,es,ep,e2,c⟩,r⟩:=x;exact⟨ho _ d,z,ne,k _ _ (.inl rfl) e,mA,⟨od,es,ep,k _ _ (.inr d) e2,c⟩,r⟩
 |own y=>obtain⟨ob,e⟩:=x;exact⟨ob,k _ _ (.inl rfl) e⟩
 |xd fs=>obtain⟨mA,⟨od,es,ep,e,c⟩,r⟩:=x;exact⟨mA,⟨od,es,ep,k _ _ (.inl rfl) e,c⟩,r⟩
 |rng lo hi=>obtain⟨t,u,v,e⟩:=x;exact⟨t,u,v,k _ _ (.inl rfl) e⟩
 |frz ob u ih=>obtain⟨e,q⟩:=x;exact⟨k _ _ (.inl rfl) e,ih q⟩
 |tbl ps=>
  have e:h.get? a=some {cls:=.none,data:=.fields ps}:=x;show h'.get? a=some {cls:=.none,data:=.fields ps};exact k a _ (.inl rfl) e
 |met f y=>
  have e:h.get? a=some (zEs (.ref f) (.ref y)):=x;show h'.get? a=some (zEs (.ref f) (.ref y));exact k a _ (.inl rfl) e
 |ext φ=>obtain⟨p,⟨o,e⟩,st⟩:=x;exact⟨st _ _ p λ o q=>k _ _ (.inl rfl) q,⟨o,k _ _ (.inl rfl) e⟩,st⟩
theorem HOk.lt(x:HOk P w H h)(e:H a=some o):a<h.objs.size:=(x a o e).lt
theorem HOk.fresh(x:HOk P w H h)(e:h.objs.size<=a):H a=none:=by
 cases q:H a with
 |none=>rfl
 |some u=>exact absurd (zAW (x.lt q) e) (zBW _)
theorem HOk.kept(x:HOk P w H h)(k:∀b u,h.get? b=some u->h'.get? b=some u):HOk P w H h':=λ a o e=>
 (x a o e).stay (λ b u _ q=>k b u q) (λ _ q=>q) λ _ _ q=>q
theorem HOk.laid(x:HOk P w H h)(k:∀b u,h.get? b=some u->h'.get? b=some u)(hp:h.objs.size<=a)(new:cR P w (upd H a o) h' a o):HOk P w (upd H a o) h':=λ b u e=>by
 have hn:=x.fresh hp;by_cases hb:b=a
 .subst hb;rw[aj]at e;cases e;exact new
 .rw[aX hb]at e
  exact(x b u e).stay (λ c v _ q=>k c v q) (λ c q=>by rw[aX (bN q hn)];exact q) λ c xs q=>by rw[aX (bN q hn)];exact q
end
def Rd(H:Hp)(a:Addr)(u:HO):Prop:=H a=some u\/∃o,H a=some (.frz o u)
theorem Rd.ok(r:Rd H a u)(x:HOk P w H h):cR P w H h a u:=by
 rcases r with r|⟨o,r⟩
 .exact x a u r
 .obtain⟨_,q⟩:=x a _ r
  exact q
def Mut:Option HO->Prop
 |some (.lst _)=>True
 |some (.dK _)=>True
 |some (.dT _)=>True
 |some (.set _ _)=>True
 |some (.ins _ _ _)=>True
 |some (.ext _)=>True
 |_=>False
section
variable{P:zA3}{w:World}{H:Hp}{h h':Heap}{x e:Addr}{o':HO}
theorem HOk.write(ok:HOk P w H h)(mu:Mut (H x))(he:e=x\/H e=some (.own x))(k:∀b u,b≠e->h.get? b=some u->h'.get? b=some u)(heo:∃u,h'.get? e=some u)
  (new:cR P w (upd H x o') h' x o'):HOk P w (upd H x o') h':=λ b u q=>by
 have nown:∀c y,H c=some (.own y)->c≠x:=λ c y r z=>by subst z;rw[r]at mu;exact mu
 have ntup:∀c xs,H c=some (.tup xs)->c≠x:=λ c xs r z=>by subst z;rw[r]at mu;exact mu
 by_cases hb:b=x
 .subst hb;rw[aj]at q;cases q;exact new
 .rw[aX hb]at q
  by_cases hbe:b=e
  .have q':H b=some (.own x):=by
    rcases he with z|z
    .exact absurd (hbe.trans z) hb
    .rw[hbe];exact z
   rw[q]at q';cases q';obtain⟨v,hv⟩:=heo;exact⟨v,by rw[hbe];exact hv⟩
  .refine(ok b u q).stay (λ c v hc r=>k c v ?_ r) (λ c r=>by rw[aX (nown c b r)];exact r) λ c xs r=>by rw[aX (ntup c xs r)];exact r
   rcases hc with rfl|hc
   .exact hbe
   .rintro rfl
    rcases he with z|z
    .exact nown c b hc z
    .rw[hc]at z;cases z;exact hb rfl
end
structure Un(fs ex:List Addr)(H H':Hp)(h h':Heap):Prop where
 keep:∀b o,h.get? b=some o->H b=none->b∉fs->b∉ex->h'.get? b=some o
 slot:∀b o,h.get? b=some o->H b=none->b∈fs->b∉ex->∃sl,h'.get? b=some {o with slots:=sl}
 free:∀b o,h.get? b=some o->H b=none->b∉ex->H' b=none
 there:∀b o,h.get? b=some o->b∉ex->∃o',h'.get? b=some o'
 tups:∀b xs,H b=some (.tup xs)->H' b=some (.tup xs)
 frzs:∀b o u,H b=some (.frz o u)->H' b=some (.frz o u)
 tbls:∀b ps,H b=some (.tbl ps)->∃more,H' b=some (.tbl (ps++more))
section
variable{fs fs' ex ex':List Addr}{H H1:Hp}{h h1 h':Heap}{a x e:Addr}{o:HO}
theorem Un.any(u:Un fs ex H H1 h h1)(q:h.get? b=some ob)(n:H b=none)(hx:b∉ex):∃sl,h1.get? b=some {ob with slots:=sl}:=by
 by_cases hb:b∈fs
 .exact u.slot b ob q n hb hx
 .exact⟨ob.slots,u.keep b ob q n hb hx⟩
theorem Un.kept(k:∀b u,h.get? b=some u->h'.get? b=some u):Un fs ex H H h h':=
 ⟨λ b ob q _ _ _=>k b ob q,λ b ob q _ _ _=>⟨ob.slots,k b ob q⟩,λ _ _ _ n _=>n,λ b ob q _=>⟨ob,k b ob q⟩,λ _ _ q=>q,λ _ _ _ q=>q,λ _ ps q=>⟨#[],by rw[q];simp⟩⟩
theorem Un.refl:Un fs ex H H h h:=Un.kept λ _ _ q=>q
theorem Un.laid(k:∀b u,h.get? b=some u->h'.get? b=some u)(hp:h.objs.size<=a)(hn:H a=none):Un fs ex H (upd H a o) h h' where
 keep:=λ b u q _ _ _=>k b u q
 slot:=λ b u q _ _ _=>⟨u.slots,k b u q⟩
 free:=λ b u q n _=>by rw[aX (zAU (zAW (zAO q) hp))];exact n
 there:=λ b u q _=>⟨u,k b u q⟩
 tups:=λ b xs q=>by rw[aX (bN q hn)];exact q
 frzs:=λ b u xs q=>by rw[aX (bN q hn)];exact q
 tbls:=λ b ps q=>⟨#[],by rw[aX (bN q hn),q];simp⟩
theorem Un.write(mu:Mut (H x))(he:e=x\/H e=some (.own x))(k:∀b u,b≠e->h.get? b=some u->h'.get? b=some u)(heo:∃u,h'.get? e=some u):Un fs ex H (upd H x o) h h':=by
 have hx:∀b,H b=none->b≠x:=λ b n z=>by subst z;rw[n]at mu;exact mu
 have hb:∀b,H b=none->b≠e:=λ b n z=>by
  subst z;rcases he with r|r
  .exact hx b n r
  .rw[n]at r;cases r
 have hm:∀b u,H b=some u->¬Mut (some u)->b≠x:=λ b u q nm z=>by subst z;rw[q]at mu;exact nm mu
 refine⟨λ b u q n _ _=>k b u (hb b n) q,λ b u q n _ _=>⟨u.slots,k b u (hb b n) q⟩,λ b u q n _=>by rw[aX (hx b n)];exact n,λ b u q _=>?_,
  λ b xs q=>by rw[aX (hm b _ q λ z=>z)];exact q,λ b u xs q=>by rw[aX (hm b _ q λ z=>z)];exact q,λ b ps q=>⟨#[],by rw[aX (hm b _ q λ z=>z),q];simp⟩⟩
 by_cases hbe:b=e
 .subst hbe;exact heo
 .exact⟨u,k b u hbe q⟩
theorem Un.mono(u:Un fs ex H H1 h h1)(hs:∀b∈fs,b∈fs')(hx:∀b∈ex,b∈ex'):Un fs' ex' H H1 h h1:=
 ⟨λ b ob q n hb he=>u.keep b ob q n (λ z=>hb (hs b z)) λ z=>he (hx b z),λ _ _ q n _ he=>u.any q n λ z=>he (hx _ z),λ b ob q n he=>u.free b ob q n λ z=>he (hx b z),λ b ob q he=>u.there b ob q λ z=>he (hx b z),u.tups,u.frzs,u.tbls⟩
end
def trk(h:Heap)(H:Hp):List Addr:=(zAb h.objs.size).filter λ a=>(H a).isSome
def aJK(h:Heap)(H:Hp):Heap:=zBv h (trk h H)
theorem aGm(h:Heap)(H:Hp):(aJK h H).objs.size=h.objs.size:=zEV _ _
theorem aJJ(e:h.get? b=some o)(n:H b=none):(aJK h H).get? b=some o:=
 zCO _ e λ hm=>by
  have q:(H b).isSome=true:=(zBD.mp hm).2;rw[n]at q;simp at q
theorem aKx(e:(aJK h H).get? b=some o):h.get? b=some o/\H b=none:=by
 have e':h.get? b=some o:=zDb (trk h H) e;refine⟨e',?_⟩;cases q:H b with
 |none=>rfl
 |some x=>
  have hm:b∈trk h H:=zBD.mpr ⟨zBV.mpr (zAO e'),by simp[q]⟩;have z:(aJK h H).get? b=none:=zEU (trk h H) hm;rw[z]at e;cases e
def aLm(g h:Heap)(L:Addr):List (Addr×Obj):=(zAb h.objs.size).filterMap λ a=>if a=L\/(g.get? a).isSome=true then none else(h.get? a).map λ o=>(a,o)
def rest(g h:Heap)(L d:Addr):List (Addr×Obj):=(aLm g h L).filter λ p=>decide (p.1≠d)
structure Mod(K:zAA)(mg:Str->Option Value)(base:Heap):Prop where
 kin:K.In base
 glob:base.Ns zAY mg
 blt:∃mb,base.Ns zIx mb/\∀x:Str,x≠"__name__"->mb x=zAt x
 nolimit:base.NoLimit
structure Cx where
 prog:zA3
 w:World
 K:zAA
 mg:Str->Option Value
 base:Heap
 A:zAj
 N:List Str
 z0:zAH
 zI:Hp
 env:Env
 outer:List Env
 stack:List Env
 ex:List Addr
 fn:Str->Bool
 calm:Bool
 pn:List (Addr×Obj)
 xe:Value->zAH->Prop
 ta:List (Addr×Obj):=[]
 tq:Str:=""
def frs(l:List Env):List Addr:=l.filterMap (·.frame)
abbrev Cx.fs(X:Cx):List Addr:=frs X.outer
def Vis(sc:Scope)(x:Str):Prop:=sc.names.lookup x=some .local\/sc.names.lookup x=some .cell\/sc.names.lookup x=some .free
def Loc(sc:Scope)(x:Str):Prop:=sc.names.lookup x=some .local\/sc.names.lookup x=some .cell
def Look(env:Env)(h:Heap)(m:Str->Option Value)(x:Str)(u:Value):Prop:=
 (env.kindOf x=some .local/\m x=some u)\/((env.kindOf x=some .cell\/env.kindOf x=some .free)/\∃c,env.cells.lookup x=some c/\h.IsCell c (some u))
structure Cx.Ok(X:Cx):Prop where
 mod:Mod X.K X.mg X.base
 kind:X.env.scope.kind= .function
 glob:X.env.globals=zAY
 blt:X.env.builtins=zIx
 above:X.z0.heap.objs.size<=X.env.locals
 inj:∀x y c,X.env.cells.lookup x=some c->X.env.cells.lookup y=some c->x=y
 has:∀x,(X.env.kindOf x=some .cell\/X.env.kindOf x=some .free)->∃c,X.env.cells.lookup x=some c
 cab:∀x c,X.fn x=true->X.env.cells.lookup x=some c->X.z0.heap.objs.size<=c
 hd:X.calm=true->X.A.handled=none
 frames:X.A.frames=some X.stack
 stk:X.stack=X.outer\/(X.stack=X.env::X.outer/\X.env.frame=some X.env.locals)
 exf:∀b∈X.ex,b≠X.env.locals/\∀x c,X.env.cells.lookup x=some c->c≠b
 bs:∀b o,X.base.get? b=some o->X.z0.heap.get? b=some o/\X.zI b=none
 bsz:X.base.objs.size<=X.z0.heap.objs.size
 noex:∀b o,X.base.get? b=some o->b∉X.ex
 exfs:∀b∈X.ex,b∉X.fs
 funs:X.z0.heap.FunFrames X.base X.outer
 frf:∀b∈X.fs,X.zI b=none
def aMV(q:Str)(oc:Obj):Prop:=∃vs t,oc.data= .fields vs/\vs[1]? =some (.str q t)
def TabOk(q:Str)(H:Hp)(ps:Array Value):Prop:=TriplesOk ps.toList/\∀pos cv,zFd pos ps.toList=some cv->∃c' oc,cv= .ref c'/\H c'=some (.frz oc (.own c'))/\aMV q oc
theorem TabOk.mono(t:TabOk q H ps)(f:∀b o u,H b=some (.frz o u)->H' b=some (.frz o u)):TabOk q H' ps:=⟨t.1,λ pos cv hc=>let⟨c',oc,z,a,b⟩:=t.2 pos cv hc;⟨c',oc,z,f _ _ _ a,b⟩⟩
structure Inv(X:Cx)(pins:List (Addr×Obj))(Z:List (Option V))(H:Hp)(s:zAH):Prop where
 ok:X.Ok
 os:s.os=X.z0.os
 bare:zEo s.gens
 base:Un X.fs X.ex X.zI H X.z0.heap s.heap
 loc:∃m,s.heap.Ns X.env.locals m/\∀(i:Nat) (x:Str) (v:V),X.N[i]? =some x->Z[i]? =some (some v)->Vis X.env.scope x->∃u,RelV v u/\Look X.env s.heap m x u
 cell:∀x c,X.env.cells.lookup x=some c->∃v,s.heap.IsCell c v
 free:H X.env.locals=none
 freeC:∀x c,X.env.cells.lookup x=some c->H c=none
 pin:∀p∈X.pn++pins,s.heap.get? p.1=some p.2/\H p.1=none/\p.1≠X.env.locals/\p.1∉X.fs/\∀v,p.2.data≠.cell v
 hok:HOk X.prog X.w H s.heap
 len:Z.length=X.N.length
 tab:∀p∈X.ta,H p.1=none/\p.1≠X.env.locals/\p.1∉X.fs/\(∀q∈X.pn++pins,q.1≠p.1)/\∃ps,s.heap.get? p.1=some {cls:=.none,data:=.fields ps}/\TabOk X.tq H ps
section
variable{X:Cx}{pins:List (Addr×Obj)}{Z:List (Option V)}{H H':Hp}{s:zAH}{h':Heap}
theorem Cx.Ok.nofr(ok:X.Ok)(e:X.base.get? b=some o):b∉X.fs:=λ hb=>by
 have:=(ok.funs.mem hb).1
 rw[e]at this;cases this
theorem Inv.bs(I:Inv X pins Z H s):∀b o,X.base.get? b=some o->s.heap.get? b=some o/\H b=none:=λ b o e=>
 ⟨I.base.keep b o (I.ok.bs b o e).1 (I.ok.bs b o e).2 (I.ok.nofr e) (I.ok.noex b o e),I.base.free b o (I.ok.bs b o e).1 (I.ok.bs b o e).2 (I.ok.noex b o e)⟩
theorem Inv.bk(I:Inv X pins Z H s):∀b o,X.base.get? b=some o->s.heap.get? b=some o:=λ b o e=>(I.bs b o e).1
theorem Inv.mod(I:Inv X pins Z H s):Mod X.K X.mg X.base:=I.ok.mod
theorem Inv.kIn(I:Inv X pins Z H s):X.K.In s.heap:=I.ok.mod.kin.keeps I.bk
theorem Inv.fr(I:Inv X pins Z H s):∃m,Fr X.base X.env.locals s.heap m:=
 let⟨m,hn,_⟩:=I.loc
 ⟨m,hn,I.bk,zAm I.ok.bsz I.ok.above⟩
theorem Inv.lt(I:Inv X pins Z H s):X.env.locals<s.heap.objs.size:=let⟨_,hn,_⟩:=I.loc;hn.lt
theorem Inv.sz(I:Inv X pins Z H s):X.z0.heap.objs.size<=s.heap.objs.size:=zAm I.ok.above (zBm I.lt)
theorem Inv.nofs(I:Inv X pins Z H s)(h:s.heap.objs.size<=a):a∉X.fs:=λ hb=>by
 obtain⟨_,o,ho,_⟩:=I.ok.funs.mem hb;exact absurd (zAW (zAO ho) (zAm I.sz h)) (zBW _)
theorem Inv.cne(I:Inv X pins Z H s):∀x c,X.env.cells.lookup x=some c->c≠X.env.locals:=λ x c e z=>by
 obtain⟨v,o,ho,hd⟩:=I.cell x c e;obtain⟨m,⟨o',es,ep,ho',hd',_⟩,_⟩:=I.loc;rw[z,ho']at ho;cases ho;rw[hd']at hd;cases hd
theorem Inv.funs(I:Inv X pins Z H s):s.heap.FunFrames X.base X.outer:=by
 have all:∀(l:List Env),(∀b∈frs l,b∈X.fs)->X.z0.heap.FunFrames X.base l->s.heap.FunFrames X.base l:=by
  intro l;induction l with
  |nil=>intro _ _;trivial
  |cons env r ih=>
   intro hs hl;obtain⟨hk,⟨L,o,hf,hn,ho,hd⟩,hr⟩:=hl;have hL:L∈X.fs:=hs L (by unfold frs;rw[zBU,hf];exact zAK);obtain⟨sl,e⟩:=I.base.slot L o ho (I.ok.frf L hL) hL λ z=>I.ok.exfs L z hL
   exact⟨hk,⟨L,_,hf,hn,e,hd⟩,ih (λ b hb=>hs b (by unfold frs;rw[zBU,hf];exact zAM _ hb)) hr⟩
 exact all X.outer (λ _ hb=>hb) I.ok.funs
theorem Inv.stack(I:Inv X pins Z H s):s.heap.FunFrames X.base X.stack:=by
 rcases I.ok.stk with e|⟨e,hf⟩
 .rw[e];exact I.funs
 .rw[e]
  obtain⟨m,hn,_⟩:=I.loc;refine .cons (by rw[I.ok.kind];decide) hf hn ?_ I.funs;exact Heap.get?_none_of_le (zAm I.ok.bsz I.ok.above)
theorem Inv.stkSub(I:Inv X pins Z H s):∀b∈frs X.stack,b∈X.env.locals::X.fs:=λ b hb=>by
 rcases I.ok.stk with e|⟨e,hf⟩
 .rw[e]at hb;exact zAM _ hb
 .rw[e]at hb
  unfold frs at hb;rw[zBU,hf]at hb;exact hb
theorem Inv.stkFree(I:Inv X pins Z H s):∀b∈frs X.stack,H b=none:=λ b hb=>by
 rcases zAL.mp (I.stkSub b hb)with e|hb
 .rw[e];exact I.free
 .obtain⟨_,o,ho,_⟩:=I.ok.funs.mem hb
  exact I.base.free b o ho (I.ok.frf b hb) λ z=>I.ok.exfs b z hb
theorem Inv.step{g':Array zG3}{t':Nat}{d':Drawn}{ch:List Addr}(I:Inv X pins Z H s)
  (hch:∀b∈ch,(b∈X.ex\/X.z0.heap.objs.size<=b)/\b≠X.env.locals/\(∀x c,X.env.cells.lookup x=some c->c≠b)/\∀p∈X.ta++(X.pn++pins),p.1≠b)
  (keep:∀b o,b≠X.env.locals->b∉X.fs->b∉ch->s.heap.get? b=some o->H b=none->h'.get? b=some o)
  (slot:∀b o,b≠X.env.locals->b∈X.fs->b∉ch->s.heap.get? b=some o->H b=none->∃sl,h'.get? b=some {o with slots:=sl})(free:∀b o,b∉ch->s.heap.get? b=some o->H b=none->H' b=none)
  (there:∀b o,b∉ch->s.heap.get? b=some o->∃o',h'.get? b=some o')
  (tups:∀b xs,H b=some (.tup xs)->H' b=some (.tup xs))(frzs:∀b o u,H b=some (.frz o u)->H' b=some (.frz o u))(tbls:∀b ps,H b=some (.tbl ps)->∃more,H' b=some (.tbl (ps++more)))
  (ns:∀m,s.heap.Ns X.env.locals m->h'.Ns X.env.locals m)(hok:HOk X.prog X.w H' h')(hg:zEo g'):
  Inv X pins Z H' {s with heap:=h',gens:=g',drawn:=d',toks:=t'}:=by
 have neL:∀b o,X.z0.heap.get? b=some o->b≠X.env.locals:=λ b o e=>zAU (zAW (zAO e) I.ok.above)
 have neC:∀b o,X.z0.heap.get? b=some o->b∉X.ex->b∉ch:=λ b o e hx hb=>by
  rcases(hch b hb).1 with z|z
  .exact hx z
  .exact absurd (zAW (zAO e) z) (zBW _)
 have cellK:∀x c,X.env.cells.lookup x=some c->∀v,s.heap.IsCell c v->h'.IsCell c v:=λ x c e v ⟨o,ho,hd⟩=>by
  have nch:c∉ch:=λ z=>(hch c z).2.2.1 x c e rfl
  by_cases hc:c∈X.fs
  .obtain⟨sl,q⟩:=slot c o (I.cne x c e) hc nch ho (I.freeC x c e)
   exact⟨_,q,hd⟩
  .exact⟨o,keep c o (I.cne x c e) hc nch ho (I.freeC x c e),hd⟩
 refine⟨I.ok,I.os,hg,⟨λ b o e n hb hx=>?_,λ b o e n hb hx=>?_,λ b o e n hx=>?_,λ b o e hx=>?_,λ b xs e=>tups b xs (I.base.tups b xs e),λ b o xs e=>frzs b o xs (I.base.frzs b o xs e),λ b ps e=>?_⟩,?_,λ x c e=>?_,?_,λ x c e=>?_,λ p hp=>?_,hok,I.len,λ p hp=>?_⟩
 .exact keep b o (neL b o e) hb (neC b o e hx) (I.base.keep b o e n hb hx) (I.base.free b o e n hx)
 .obtain⟨sl,e1⟩:=I.base.slot b o e n hb hx
  obtain⟨sl',e2⟩:=slot b _ (neL b o e) hb (neC b o e hx) e1 (I.base.free b o e n hx);exact⟨sl',e2⟩
 .obtain⟨o',e1⟩:=I.base.there b o e hx
  exact free b o' (neC b o e hx) e1 (I.base.free b o e n hx)
 .obtain⟨o',e1⟩:=I.base.there b o e hx
  exact there b o' (neC b o e hx) e1
 .obtain⟨m1,e1⟩:=I.base.tbls b ps e
  obtain⟨m2,e2⟩:=tbls b _ e1;exact⟨m1++m2,by rw[e2,zHK]⟩
 .obtain⟨m,hn,hl⟩:=I.loc
  refine⟨m,ns m hn,λ i x v e1 e2 e3=>?_⟩;obtain⟨u,r,l⟩:=hl i x v e1 e2 e3;refine⟨u,r,?_⟩;rcases l with l|⟨k,c,e,z⟩
  .exact .inl l
  .exact .inr ⟨k,c,e,cellK x c e _ z⟩
 .obtain⟨v,z⟩:=I.cell x c e
  exact⟨v,cellK x c e v z⟩
 .obtain⟨m,⟨o,_,_,ho,_⟩,_⟩:=I.loc
  exact free _ o (λ z=>(hch _ z).2.1 rfl) ho I.free
 .obtain⟨v,o,ho,hd⟩:=I.cell x c e
  exact free c o (λ z=>(hch c z).2.2.1 x c e rfl) ho (I.freeC x c e)
 .obtain⟨e,n,ne,nf,d⟩:=I.pin p hp
  have nch:p.1∉ch:=λ z=>(hch p.1 z).2.2.2 p (zA4 _ hp) rfl
  exact⟨keep p.1 p.2 ne nf nch e n,free p.1 p.2 nch e n,ne,nf,d⟩
 .obtain⟨n,ne,nf,np,ps,e,t⟩:=I.tab p hp
  have nch:p.1∉ch:=λ z=>(hch p.1 z).2.2.2 p (zA0 _ hp) rfl
  exact⟨free p.1 _ nch e n,ne,nf,np,ps,keep p.1 _ ne nf nch e n,t.mono frzs⟩
theorem Inv.pinL(I:Inv X pins Z H s)(hp:p∈X.ta++(X.pn++pins)):p.1<s.heap.objs.size:=by
 rcases zA2.mp hp with z|z
 .obtain⟨_,_,_,_,_,e,_⟩:=I.tab p z
  exact zAO e
 .exact zAO (I.pin p z).1
theorem Inv.un{t':Nat}(I:Inv X pins Z H s)(u:Un X.fs [] H H' s.heap h')(hok:HOk X.prog X.w H' h'):Inv X pins Z H' {s with heap:=h',toks:=t'}:=by
 obtain⟨m,⟨o,es,ep,ho,r⟩,_⟩:=id I.loc;obtain⟨sl,hL⟩:=u.any ho I.free (by simp);exact I.step (g':=s.gens) (d':=s.drawn) (ch:=[]) (λ _ z=>nomatch z) (λ b o _ hb _ e n=>u.keep b o e n hb (by simp)) (λ b o _ hb _ e n=>u.slot b o e n hb (by simp)) (λ b o _ e n=>u.free b o e n (by simp)) (λ b o _ e=>u.there b o e (by simp)) u.tups u.frzs u.tbls (λ m' hm=>by
  obtain⟨o',es',ep',ho',r'⟩:=hm;rw[ho]at ho';cases ho';exact⟨_,es',ep',hL,r'⟩) hok I.bare
theorem Inv.call{g':Array zG3}{t':Nat}{d':Drawn}{ch:List Addr}(I:Inv X pins Z H s)(u:Un (frs X.stack) ch H H' s.heap h')(hok:HOk X.prog X.w H' h')(hg:zEo g')
  (hch:∀b∈ch,(b∈X.ex\/X.z0.heap.objs.size<=b)/\b≠X.env.locals/\(∀x c,X.env.cells.lookup x=some c->c≠b)/\∀p∈X.ta++(X.pn++pins),p.1≠b):
  Inv X pins Z H' {s with heap:=h',gens:=g',drawn:=d',toks:=t'}:=by
 obtain⟨m,⟨o,es,ep,ho,r⟩,_⟩:=id I.loc;obtain⟨sl,hL⟩:=u.any ho I.free λ z=>(hch _ z).2.1 rfl
 exact I.step (ch:=ch) hch (λ b o hL hb hc e n=>u.keep b o e n (λ z=>(zAL.mp (I.stkSub b z)).elim hL hb) hc) (λ b o _ _ hc e n=>u.any e n hc) (λ b o hc e n=>u.free b o e n hc) (λ b o hc e=>u.there b o e hc) u.tups u.frzs u.tbls (λ m' hm=>by
  obtain⟨o',es',ep',ho',r'⟩:=hm;rw[ho]at ho';cases ho';exact⟨_,es',ep',hL,r'⟩) hok hg
theorem Inv.turned{t':Nat}{it:Addr}(I:Inv X pins Z H s)(k:∀b o,b≠it->s.heap.get? b=some o->h'.get? b=some o)(hn:H it=none)(hL:it≠X.env.locals)
  (h1:it∈X.ex\/X.z0.heap.objs.size<=it)(h2:∀x c,X.env.cells.lookup x=some c->c≠it)(h3:∀p∈X.ta++(X.pn++pins),p.1≠it):Inv X pins Z H {s with heap:=h',toks:=t'}:=by
 have nit:∀b u,H b=some u->b≠it:=λ b u e z=>by rw[z,hn]at e;cases e
 refine I.step (g':=s.gens) (d':=s.drawn) (ch:=[it]) (λ b hb=>?_) (λ b o _ _ hc e _=>k b o (λ z=>hc (by simp[z])) e) (λ b o _ _ hc e _=>⟨o.slots,k b o (λ z=>hc (by simp[z])) e⟩) (λ _ _ _ _ n=>n)
  (λ b o hc e=>⟨o,k b o (λ z=>hc (by simp[z])) e⟩) (λ _ _ e=>e) (λ _ _ _ e=>e) (λ b ps e=>⟨#[],by rw[e];simp⟩) (λ m hm=>?_) (λ b u e=>?_) I.bare
 .have e:b=it:=by simpa using hb
  subst e;exact⟨h1,hL,h2,h3⟩
 .obtain⟨o,es,ep,ho,r⟩:=hm
  exact⟨o,es,ep,k _ o (zDG hL) ho,r⟩
 .refine(I.hok b u e).stay (λ c v hc q=>k c v ?_ q) (λ _ q=>q) λ _ _ q=>q
  rcases hc with z|z
  .rw[z];exact nit b u e
  .exact nit c _ z
theorem Inv.tok(I:Inv X pins Z H s)(t:Nat):Inv X pins Z H {s with toks:=t}:=I.un (h':=s.heap) (t':=t) Un.refl I.hok
theorem Inv.kept(I:Inv X pins Z H s)(k:∀b u,s.heap.get? b=some u->h'.get? b=some u):Inv X pins Z H {s with heap:=h',toks:=t'}:=I.un (Un.kept k) (I.hok.kept k)
theorem Inv.laid(I:Inv X pins Z H s)(k:∀b u,s.heap.get? b=some u->h'.get? b=some u)(hp:s.heap.objs.size<=a)(new:cR X.prog X.w (upd H a o) h' a o):
  Inv X pins Z (upd H a o) {s with heap:=h',toks:=t'}:=I.un (Un.laid k hp (I.hok.fresh hp)) (I.hok.laid k hp new)
theorem Inv.write(I:Inv X pins Z H s)(mu:Mut (H x))(he:e=x\/H e=some (.own x))(k:∀b u,b≠e->s.heap.get? b=some u->h'.get? b=some u)(heo:∃u,h'.get? e=some u)
  (new:cR X.prog X.w (upd H x o) h' x o):Inv X pins Z (upd H x o) {s with heap:=h',toks:=t'}:=I.un (Un.write mu he k heo) (I.hok.write mu he k heo new)
theorem Inv.weak(I:Inv X pins Z H s)(hl:Z'.length=Z.length)(w:∀(i:Nat) v,Z'[i]? =some (some v)->Z[i]? =some (some v)):Inv X pins Z' H s:=
 ⟨I.ok,I.os,I.bare,I.base,let⟨m,hn,hl'⟩:=I.loc;⟨m,hn,λ i x v e1 e2 e3=>hl' i x v e1 (w i v e2) e3⟩,I.cell,I.free,I.freeC,I.pin,I.hok,hl.trans I.len,I.tab⟩
theorem Inv.pins_of(I:Inv X pins Z H s)(h:∀p∈pins',s.heap.get? p.1=some p.2/\H p.1=none/\p.1≠X.env.locals/\p.1∉X.fs/\∀v,p.2.data≠.cell v)(h2:∀q∈pins',∀p∈X.ta,q.1≠p.1):Inv X pins' Z H s:=
 ⟨I.ok,I.os,I.bare,I.base,I.loc,I.cell,I.free,I.freeC,λ p hp=>(zA2.mp hp).elim (λ z=>I.pin p (zA0 _ z)) (h p),I.hok,I.len,λ p hp=>let⟨a,b,c,d,e⟩:=I.tab p hp;⟨a,b,c,λ q hq=>(zA2.mp hq).elim (λ z=>d q (zA0 _ z)) (λ z=>h2 q z p hp),e⟩⟩
theorem zT{N:List Str}(hN:N.Nodup){i j:Nat}{x:Str}(a:N[i]? =some x)(b:N[j]? =some x):i=j:=by
 obtain⟨h1,e1⟩:=zAI.mp a;obtain⟨h2,e2⟩:=zAI.mp b;exact(List.getElem_inj hN).mp (e1.trans e2.symm)
theorem aAt{M:Model}{A:zAj}{E:Value->zAH->Prop}{i:Nat}{x:Str}{v:V}{u:Value}{Q:Unit->zAH->Prop}(I:Inv X pins Z H s)(hN:X.N.Nodup)(hi:X.N[i]? =some x)(hx:Loc X.env.scope x)(r:RelV v u)
  (h:∀s',Inv X pins (Z.set i (some v)) H s'->(∃a,zDU a s.heap s'.heap/\(a=X.env.locals\/X.env.cells.lookup x=some a))->Q () s')(hf:X.fn x=true\/X.env.scope.names.lookup x=some .local:=by first|exact .inl rfl|exact .inr rfl|assumption):wpAny M A (storeName X.env x u) Q E s:=by
 obtain⟨m,hn,hl⟩:=id I.loc;have hcls:(X.env.scope.kind== .class||(X.env.scope.kind== .module&&X.env.locals !=X.env.globals))=false:=by rw[I.ok.kind];rfl
 have hiZ:i<Z.length:=by rw[I.len];exact(zAI.mp hi).1
 have cne:=I.cne;have tracked:∀{a:Addr} {h':Heap},(∃o,s.heap.get? a=some o/\H a=none)->zDU a s.heap h'->HOk X.prog X.w H h':=λ{a h'} ha hs b ob e=>by
  obtain⟨_,_,hfree⟩:=ha;refine(I.hok b ob e).stay (λ c w' hc q=>(hs.2 c ?_).trans q) (λ _ q=>q) λ _ _ q=>q
  rintro rfl;rcases hc with rfl|hc
  .rw[hfree]at e;cases e
  .rw[hfree]at hc;cases hc
 rcases hx with hk|hk
 .refine wpAny_storeName_local hk hn (λ h' hn' hs=>?_) hcls
  obtain⟨oL,_,_,hoL,_⟩:=id hn;refine h _ ⟨I.ok,I.os,I.bare,⟨λ b o e n hb hx=>?_,λ b o e n hb hx=>?_,I.base.free,λ b o e hx=>?_,I.base.tups,I.base.frzs,I.base.tbls⟩,⟨_,hn',λ j y v' e1 e2 e3=>?_⟩,λ y c e=>?_,I.free,I.freeC,λ p hp=>?_,tracked ⟨oL,hoL,I.free⟩ hs,by simpa using I.len,λ p hp=>?_⟩ ⟨_,hs,.inl rfl⟩
  .exact(hs.2 b (zAU (zAW (zAO e) I.ok.above))).trans (I.base.keep b o e n hb hx)
  .obtain⟨sl,e1⟩:=I.base.slot b o e n hb hx
   exact⟨sl,(hs.2 b (zAU (zAW (zAO e) I.ok.above))).trans e1⟩
  .obtain⟨o',e1⟩:=I.base.there b o e hx
   exact⟨o',(hs.2 b (zAU (zAW (zAO e) I.ok.above))).trans e1⟩
  .by_cases hj:j=i
   .subst hj
    rw[hi]at e1;cases e1;rw[zCA hiZ]at e2;cases e2;exact⟨u,r,.inl ⟨hk,by simp⟩⟩
   .rw[zBZ (zDG hj)]at e2
    obtain⟨u',r',q⟩:=hl j y v' e1 e2 e3;refine⟨u',r',?_⟩;rcases q with ⟨k,e⟩|⟨k,c,e,z⟩
    .refine .inl ⟨k,?_⟩
     have:y≠x:=λ e=>hj (zT hN e1 (e▸hi))
     simp[this,e]
    .exact .inr ⟨k,c,e,z.sameBut hs (cne y c e)⟩
  .obtain⟨w',z⟩:=I.cell y c e
   exact⟨w',z.sameBut hs (cne y c e)⟩
  .obtain⟨e,n,ne,nf,d⟩:=I.pin p hp
   exact⟨(hs.2 p.1 ne).trans e,n,ne,nf,d⟩
  .obtain⟨n,ne,nf,np,ps,e,t⟩:=I.tab p hp
   exact⟨n,ne,nf,np,ps,(hs.2 p.1 ne).trans e,t⟩
 .have hfn:X.fn x=true:=by
   rcases hf with z|z
   .exact z
   .rw[z]at hk;cases hk
  obtain⟨c,hc⟩:=I.ok.has x (.inl hk);obtain⟨w',z⟩:=I.cell x c hc;refine wpAny_storeName_cell I.ok.kind hk hc z (λ h' hc' hs=>?_);obtain⟨oc,hoc,hocd⟩:=id z;refine h {s with heap:=h'} ⟨I.ok,I.os,I.bare,⟨λ b o e n hb hx=>?_,λ b o e n hb hx=>?_,I.base.free,λ b o e hx=>?_,I.base.tups,I.base.frzs,I.base.tbls⟩,⟨m,hn.sameBut hs (zDG (cne x c hc)),λ j y v' e1 e2 e3=>?_⟩,λ y c' e=>?_,I.free,I.freeC,λ p hp=>?_,tracked ⟨oc,hoc,I.freeC x c hc⟩ hs,by simpa using I.len,λ p hp=>?_⟩ ⟨c,hs,.inr hc⟩
  .exact(hs.2 b (zAU (zAW (zAO e) (I.ok.cab x c hfn hc)))).trans (I.base.keep b o e n hb hx)
  .obtain⟨sl,e1⟩:=I.base.slot b o e n hb hx
   exact⟨sl,(hs.2 b (zAU (zAW (zAO e) (I.ok.cab x c hfn hc)))).trans e1⟩
  .obtain⟨o',e1⟩:=I.base.there b o e hx
   exact⟨o',(hs.2 b (zAU (zAW (zAO e) (I.ok.cab x c hfn hc)))).trans e1⟩
  .by_cases hj:j=i
   .subst hj
    rw[hi]at e1;cases e1;rw[zCA hiZ]at e2;cases e2;exact⟨u,r,.inr ⟨.inl hk,c,hc,hc'⟩⟩
   .rw[zBZ (zDG hj)]at e2
    obtain⟨u',r',q⟩:=hl j y v' e1 e2 e3;refine⟨u',r',?_⟩;rcases q with q|⟨k,c',e,z'⟩
    .exact .inl q
    .refine .inr ⟨k,c',e,z'.sameBut hs ?_⟩
     rintro rfl;exact hj (zT hN e1 (I.ok.inj _ _ _ e hc▸hi))
  .by_cases hcc:c'=c
   .subst hcc;exact⟨_,hc'⟩
   .obtain⟨w2,z2⟩:=I.cell y c' e
    exact⟨w2,z2.sameBut hs hcc⟩
  .obtain⟨e,n,ne,nf,d⟩:=I.pin p hp
   refine⟨(hs.2 p.1 ?_).trans e,n,ne,nf,d⟩;intro q;rw[q,hoc]at e;have q':oc=p.2:=zAp e;exact d w' (by rw[<-q'];exact hocd)
  .obtain⟨n,ne,nf,np,ps,e,t⟩:=I.tab p hp
   refine⟨n,ne,nf,np,ps,(hs.2 p.1 ?_).trans e,t⟩;intro q;rw[q,hoc]at e;rw[zAp e]at hocd;cases hocd
theorem ye(I:Inv X pins Z H s)(hN:X.N.Nodup)(hi:X.N[i]? =some x)(hx:Loc X.env.scope x)(r:RelV v u)
  (h:∀s',Inv X pins (Z.set i (some v)) H s'->Q () s')(hf:X.fn x=true\/X.env.scope.names.lookup x=some .local:=by first|exact .inl rfl|exact .inr rfl|assumption):wpAny M A (storeName X.env x u) Q E s:=
 aAt I hN hi hx r (λ s' I' _=>h s' I') hf
theorem Inv.call'(I:Inv X pins Z H s)(ho:s'.os=s.os)(u:Un (frs X.stack) ch H H' s.heap s'.heap)(hok:HOk X.prog X.w H' s'.heap)(hg:zEo s'.gens)
  (hch:∀b∈ch,(b∈X.ex\/X.z0.heap.objs.size<=b)/\b≠X.env.locals/\(∀x c,X.env.cells.lookup x=some c->c≠b)/\∀p∈X.ta++(X.pn++pins),p.1≠b):Inv X pins Z H' s':=by
 obtain⟨h',g',d',t',o'⟩:=s';have e:o'=s.os:=ho;subst e;exact I.call (g':=g') (t':=t') (d':=d') u hok hg hch
end
abbrev XK:=Value->Option Addr->Hp->Prop
abbrev St:=List (Option V)
abbrev VK:=V->Hp->Prop
abbrev TE:=St->Hp->VK->Prop
abbrev TT:=St->Hp->(Bool->Hp->Prop)->Prop
abbrev TA:=St->Hp->(List V->Hp->Prop)->Prop
structure Ends where
 nx:St->Hp->Prop
 rt:VK
 bk:St->Hp->Prop:=λ _ _=>False
 ct:St->Hp->Prop:=λ _ _=>False
abbrev TS:=Ends->St->Hp->Prop
def EP(X:Cx)(pins:List (Addr×Obj))(Z:St)(Q:VK)(u:Value)(s':zAH):Prop:=∃v H',Inv X pins Z H' s'/\RelV v u/\Q v H'
def TP(X:Cx)(pins:List (Addr×Obj))(Z:St)(Q:Bool->Hp->Prop)(b:Bool)(s':zAH):Prop:=∃H',Inv X pins Z H' s'/\Q b H'
def AP(X:Cx)(pins:List (Addr×Obj))(Z:St)(Q:List V->Hp->Prop)(us:List Value)(s':zAH):Prop:=∃vs H',Inv X pins Z H' s'/\Vals vs us/\Q vs H'
def SP(X:Cx)(pins:List (Addr×Obj))(D:Ends)(f:Flow)(s':zAH):Prop:=
 match f with
 | .next=>∃Z' H',Inv X pins Z' H' s'/\D.nx Z' H'
 | .brk=>∃Z' H',Inv X pins Z' H' s'/\D.bk Z' H'
 | .cont=>∃Z' H',Inv X pins Z' H' s'/\D.ct Z' H'
 | .ret u=>∃v Z' H',Inv X pins Z' H' s'/\RelV v u/\D.rt v H'
def PE(X:Cx)(e:Expr)(t:TE):Prop:=
 ∀(pins:List (Addr×Obj)) (s:zAH) (Z:St) (H:Hp) (Q:VK),Inv X pins Z H s->t Z H Q->wpAny (model X.prog X.w) X.A (eval e X.env) (EP X pins Z Q) X.xe s
def PT(X:Cx)(e:Expr)(t:TT):Prop:=
 ∀(pins:List (Addr×Obj)) (s:zAH) (Z:St) (H:Hp) (Q:Bool->Hp->Prop),Inv X pins Z H s->t Z H Q->wpAny (model X.prog X.w) X.A (isTrue e X.env (eval e X.env)) (TP X pins Z Q) X.xe s
def PW(X:Cx)(e:Expr)(t:TT):Prop:=
 ∀(whole:Sem Value) (pins:List (Addr×Obj)) (s:zAH) (Z:St) (H:Hp) (Q:Bool->Hp->Prop),Inv X pins Z H s->t Z H Q->wpAny (model X.prog X.w) X.A (isTrue e X.env whole) (TP X pins Z Q) X.xe s
theorem PW.pt(h:PW X e t):PT X e t:=h _
def PA(X:Cx)(es:List Expr)(t:TA):Prop:=
 ∀(pos:Pos) (pins:List (Addr×Obj)) (s:zAH) (Z:St) (H:Hp) (Q:List V->Hp->Prop),Inv X pins Z H s->t Z H Q->wpAny (model X.prog X.w) X.A (spliced (zC2 pos (zAX es X.env))) (AP X pins Z Q) X.xe s
def PS(X:Cx)(st:Stmt)(t:TS):Prop:=
 ∀(pins:List (Addr×Obj)) (s:zAH) (Z:St) (H:Hp) (D:Ends),Inv X pins Z H s->t D Z H->wpAny (model X.prog X.w) X.A (exec st X.env) (SP X pins D) X.xe s
def PSs(X:Cx)(st:List Stmt)(t:TS):Prop:=
 ∀(pins:List (Addr×Obj)) (s:zAH) (Z:St) (H:Hp) (D:Ends),Inv X pins Z H s->t D Z H->wpAny (model X.prog X.w) X.A (execs st X.env) (SP X pins D) X.xe s
theorem thn(h:wpAny M A t Q E s)(hQ:∀a s,Q a s->Q' a s):wpAny M A t Q' E s:=zAz h hQ λ _ _ x=>x
section
variable{X:Cx}
theorem bin{a b:Expr}{ta tb:TE}(ha:PE X a ta)(hb:PE X b tb){pins:List (Addr×Obj)}{s:zAH}{Z:St}{H:Hp}{R:V->V->Hp->Prop}(I:Inv X pins Z H s)(h:ta Z H λ x H1=>tb Z H1 λ y H2=>R x y H2)
  {α:Type}{Q:α->zAH->Prop}{f:Value->Value->Sem α}
  (hf:∀v u s2 x y H2,Inv X pins Z H2 s2->RelV x v->RelV y u->R x y H2->wpAny (model X.prog X.w) X.A (f v u) Q X.xe s2):
  wpAny (model X.prog X.w) X.A (eval a X.env) (λ v zD=>wpAny (model X.prog X.w) X.A (eval b X.env) (λ u zS=>wpAny (model X.prog X.w) X.A (f v u) Q X.xe zS) X.xe zD) X.xe s:=by
 refine thn (ha pins s Z H _ I h) λ v s1 ⟨x,H1,I1,r1,q1⟩=>?_
 refine thn (hb pins s1 Z H1 _ I1 q1) λ u s2 ⟨y,H2,I2,r2,q2⟩=>?_
 exact hf v u s2 x y H2 I2 r1 r2 q2
def rD(i:Nat):TE:=λ Z H Q=>∃v,Z[i]? =some (some v)/\Q v H
def tC(v:V):TE:=λ _ H Q=>Q v H
theorem jN(hN:X.N[i]? =some x)(hv:Vis X.env.scope x)(hd:(x==("__debug__":Str))=false:=by decide)(hcd:(x==("__classdict__":Str))=false:=by decide):PE X (.Name x pos) (rD i):=by
 intro pins s Z H Q I h;obtain⟨v,e,h⟩:=h;obtain⟨m,hn,hl⟩:=I.loc;obtain⟨u,r,l⟩:=hl i x v hN e hv;have fin:EP X pins Z Q u s:=⟨v,H,I,r,h⟩;rcases l with ⟨hk,hm⟩|⟨hk,c,hc,hcell⟩
 .exact zD1 (zFI I.ok.kind hk hn hm fin) hd
 .rcases hk with hk|hk
  .exact zD1 (zFZ I.ok.kind hk hc hcell fin) hd
  .exact zD1 (zF0 I.ok.kind hk hc hcell fin hcd) hd
theorem aEX{i j pos}:PE X (.Constant (.int i) j pos) (tC (.int i)):=λ _ _ _ H _ I h=>wpAny_Constant_int ⟨.int i,H,I.tok _,⟨_,rfl⟩,h⟩
theorem aIR{b j pos}:PE X (.Constant (.bool b) j pos) (tC (.bl b)):=λ _ _ _ H _ I h=>Constant_bool ⟨.bl b,H,I,rfl,h⟩
theorem aNM{j pos}:PE X (.Constant .none j pos) (tC .non):=λ _ _ _ H _ I h=>Constant_none ⟨.non,H,I,rfl,h⟩
theorem gQ{x j pos}:PE X (.Constant (.str x) j pos) (tC (.str x)):=λ _ _ _ H _ I h=>Calls.Constant_str ⟨.str x,H,I.tok _,⟨_,rfl⟩,h⟩
def Gl(X:Cx)(x:Str):Prop:=X.env.kindOf x=some .globalImplicit
theorem qw(I:Inv X pins Z H s)(hg:Gl X x)(hm:X.mg x=some u)(h:Q u s)
  (hd:(x==("__debug__":Str))=false:=by decide):wpAny (model X.prog X.w) X.A (eval (.Name x pos) X.env) Q E s:=
 zFh I.ok.kind hg (Calls.loadGlobal_global (by rw[I.ok.glob];exact I.mod.glob.keeps I.bk) hm h) hd
theorem uD(I:Inv X pins Z H s)(hg:Gl X x)(hm:X.mg x=none)(hv:zAt x=some u)(h:Q u s)
  (hn:x≠"__name__":=by decide)(hd:(x==("__debug__":Str))=false:=by decide):wpAny (model X.prog X.w) X.A (eval (.Name x pos) X.env) Q E s:=by
 obtain⟨mb,h1,h2⟩:=I.mod.blt;exact zFh I.ok.kind hg (Calls.loadGlobal_builtin (by rw[I.ok.glob];exact I.mod.glob.keeps I.bk) hm (by rw[I.ok.blt];exact h1.keeps I.bk) ((h2 x hn).trans hv) h) hd
theorem fG(hg:Gl X x)(hm:X.mg x=some u)(r:RelV v u)(hd:(x==("__debug__":Str))=false:=by decide):PE X (.Name x pos) (tC v):=
 λ _ _ _ H _ I h=>qw I hg hm ⟨v,H,I,r,h⟩ hd
theorem aF3(hg:Gl X x)(hm:X.mg x=none)(hv:zAt x=some u)(r:RelV v u)(hn:x≠"__name__":=by decide)(hd:(x==("__debug__":Str))=false:=by decide):PE X (.Name x pos) (tC v):=
 λ _ _ _ H _ I h=>uD I hg hm hv ⟨v,H,I,r,h⟩ hn hd
def t2I(ta tb:TE)(k:Int->Int->Hp->Prop):St->Hp->Prop:=λ Z H=>ta Z H λ x H1=>tb Z H1 λ y H2=>∃i j,x= .int i/\y= .int j/\k i j H2
variable{a b:Expr}{ta tb:TE}{pos:Pos}
def PC(X:Cx)(op:CmpOp)(a b:Expr)(t:TE):Prop:=
 ∀(pins:List (Addr×Obj)) (s:zAH) (Z:St) (H:Hp) (Q:VK),Inv X pins Z H s->t Z H Q->
  wpAny (model X.prog X.w) X.A (eval a X.env) (λ v zD=>wpAny (model X.prog X.w) X.A (eval b X.env) (λ u zS=>wpAny (model X.prog X.w) X.A (zAs op v u) (EP X pins Z Q) X.xe zS) X.xe zD) X.xe s
theorem aI6(b:Expr)(h:op≠.In)(h2:op≠.NotIn):zB5 op b=false:=by
 have e1:(op==CmpOp.In)=false:=by cases op<;>first|rfl|exact absurd rfl h
 have e2:(op==zIn)=false:=by cases op<;>first|rfl|exact absurd rfl h2
 cases b<;>simp[zB5,e1,e2]
def aOb(p:Int->Int->Bool)(ta tb:TE):TE:=λ Z H Q=>t2I ta tb (λ i j H2=>Q (.bl (p i j)) H2) Z H
abbrev aPa:TE->TE->TE:=aOb λ i j=>!decide (i=j)
theorem aNS{op:CmpOp}{p:Int->Int->Bool}(ha:PE X a ta)(hb:PE X b tb)
  (rule:∀(i j:Int) (t u:Tok) (Q:Value->zAH->Prop) (s:zAH),Q (.bool (p i j)) s->wpAny (model X.prog X.w) X.A (zAs op (.int i t) (.int j u)) Q X.xe s):PC X op a b (aOb p ta tb):=by
 intro pins s Z H Q I h;refine bin ha hb I h λ v u s2 x y H2 I2 rx ry q=>?_
 obtain⟨i,j,rfl,rfl,q⟩:=q;obtain⟨t,rfl⟩:=rx;obtain⟨t',rfl⟩:=ry;exact rule i j t t' _ s2 ⟨.bl _,H2,I2,rfl,q⟩
theorem aNR(ha:PE X a ta)(hb:PE X b tb):PC X .NotEq a b (aPa ta tb):=aNS ha hb λ _ _ _ _ _ _ h=>ne_int (by rw[bne,Bool.beq_eq_decide_eq];exact h)
def tB(t:TE):TT:=λ Z H Q=>t Z H λ x H1=>∃c,x= .bl c/\Q c H1
theorem aNA(h:PC X op a b t)(h1:zB5 op b=false:=by first|exact aI6 _ (by decide) (by decide)|rfl):PT X (.Compare a [op] [b] pos) (tB t):=by
 intro pins s Z H Q I hw;refine zIM (thn (h pins s Z H _ I hw) λ v s1 h1=>thn h1 λ u s2 h2=>thn h2 λ c s3 ⟨x,H1,I1,r1,q1⟩=>?_) h1;obtain⟨d,rfl,q⟩:=q1;cases r1;exact zCF ⟨H1,I1,q⟩
theorem aHz(h:PE X e t)(he:∀whole,isTrue e X.env whole=(do let v <-whole;zGD e.pos;zEu [v] (truthy v)):=by intro _;rfl):PT X e (tB t):=by
 intro pins s Z H Q I hw;refine isTrue_plain (thn (h pins s Z H _ I hw) λ v s1 ⟨x,H1,I1,r1,q1⟩=>?_) (he _);obtain⟨d,rfl,q⟩:=q1;cases r1;exact zCF ⟨H1,I1,q⟩
variable{tA tB':TT}{rest:List Expr}
def aPf(t u:TT):TT:=λ Z H Q=>t Z H λ c H1=>if c=true then u Z H1 Q else Q false H1
def tOr(t u:TT):TT:=λ Z H Q=>t Z H λ c H1=>if c=true then Q true H1 else u Z H1 Q
def aP9(t:TT):TT:=λ Z H Q=>t Z H λ c H1=>Q (!c) H1
theorem aK4(ha:PT X a tA):PW X (.BoolOp .And [a] pos) tA:=by
 intro wh pins s Z H Q I h;refine isTrue_and (thn (ha pins s Z H Q I h) λ c s1 e=>?_);cases c with
 |true=>exact isTrue_and_nil e
 |false=>exact e
theorem aHx(ha:PT X a tA):PW X (.BoolOp .Or [a] pos) tA:=by
 intro wh pins s Z H Q I h;refine isTrue_or (thn (ha pins s Z H Q I h) λ c s1 e=>?_);cases c with
 |false=>exact isTrue_or_nil e
 |true=>exact e
theorem aMx(ha:PT X a tA)(hb:PW X (.BoolOp .And (b::rest) pos) tB'):PW X (.BoolOp .And (a::b::rest) pos) (aPf tA tB'):=by
 intro wh pins s Z H Q I h;refine isTrue_and (thn (ha pins s Z H _ I h) λ c s1 ⟨H1,I1,q1⟩=>?_);cases c with
 |true=>exact hb wh pins s1 Z H1 Q I1 q1
 |false=>exact⟨H1,I1,q1⟩
theorem aML(ha:PT X a tA)(hb:PW X (.BoolOp .Or (b::rest) pos) tB'):PW X (.BoolOp .Or (a::b::rest) pos) (tOr tA tB'):=by
 intro wh pins s Z H Q I h;refine isTrue_or (thn (ha pins s Z H _ I h) λ c s1 ⟨H1,I1,q1⟩=>?_);cases c with
 |true=>exact⟨H1,I1,q1⟩
 |false=>exact hb wh pins s1 Z H1 Q I1 q1
theorem aET(ha:PT X a tA):PT X (.UnaryOp .Not a pos) (aP9 tA):=by
 intro pins s Z H Q I h;exact isTrue_not (ha pins s Z H (λ c H1=>Q (!c) H1) I h)
def aOd(ta tb:TE):TE:=λ Z H Q=>ta Z H λ x H1=>∃c,x= .bl c/\if c=true then tb Z H1 Q else Q (.bl false) H1
def aO7(ta:TE):TE:=λ Z H Q=>ta Z H λ x H1=>∃c,x= .bl c/\Q (.bl (!c)) H1
theorem aNK{op}(h:PE X a t):PE X (.BoolOp op [a] pos) t:=λ pins s Z H Q I hw=>BoolOp_one (h pins s Z H Q I hw)
theorem aNQ(ha:PE X a ta)(hb:PE X (.BoolOp .And (b::rest) pos) tb):PE X (.BoolOp .And (a::b::rest) pos) (aOd ta tb):=by
 intro pins s Z H Q I h;refine BoolOp_and (thn (ha pins s Z H _ I h) λ v s1 ⟨x,H1,I1,r1,q1⟩=>?_);obtain⟨c,rfl,q1⟩:=q1;cases r1;refine zCF ?_;cases c with
 |true=>exact hb pins s1 Z H1 Q I1 q1
 |false=>exact⟨.bl false,H1,I1,rfl,q1⟩
theorem aNL(ha:PE X a ta):PE X (.UnaryOp .Not a pos) (aO7 ta):=by
 intro pins s Z H Q I h;refine UnaryOp_ (thn (ha pins s Z H _ I h) λ v s1 ⟨x,H1,I1,r1,q1⟩=>?_);obtain⟨c,rfl,q1⟩:=q1;cases r1;exact not_of (zCF ⟨.bl (!c),H1,I1,rfl,q1⟩)
end
def SqL(K:zAA)(H:Hp)(a:Addr)(xs:List V):Prop:=
 Rd H a (.lst xs)\/
  ∃(o:Obj) (its:Array Value) (n:Nat),K.lookup a=some o/\o.cls= .type "list"/\o.dict=none/\o.data= .seq its n/\its.size<=zAV/\Vals xs its.toList
def SqT(K:zAA)(H:Hp)(a:Addr)(xs:List V):Prop:=
 Rd H a (.tup xs)\/
  ∃(o:Obj) (its:Array Value) (n:Nat),K.lookup a=some o/\o.cls= .type "tuple"/\o.dict=none/\o.data= .seq its n/\its.size<=zAV/\Vals xs its.toList
def aPx:Value->Option V
 | .none=>some .non
 | .bool b=>some (.bl b)
 | .int i _=>some (.int i)
 | .str x _=>some (.str x)
 | .bytes b _=>some (.byt b)
 | .float b _=>some (.flt b)
 | .ref a=>some (.ref a)
 | .type n=>some (.ty n)
 |_=>none
theorem RelV.abs(r:RelV x u):aPx u=some x:=by
 cases x with
 |non=>cases r;rfl
 |bl _=>cases r;rfl
 |int _=>obtain⟨t,rfl⟩:=r;rfl
 |str _=>obtain⟨t,rfl⟩:=r;rfl
 |byt _=>obtain⟨t,rfl⟩:=r;rfl
 |flt _=>obtain⟨t,rfl⟩:=r;rfl
 |ref _=>cases r;rfl
 |ty _=>cases r;rfl
theorem RelV.inj(r:RelV x u)(q:RelV y u):x=y:=zAp (r.abs.symm.trans q.abs)
theorem Vals.inj:∀{xs ys:List V} {us:List Value},Vals xs us->Vals ys us->xs=ys
 |_,_,_,.nil,.nil=>rfl
 |_,_,_,.cons r t,.cons r' t'=>by rw[r.inj r',Vals.inj t t']
section
variable{X:Cx}{pins:List (Addr×Obj)}{Z:St}{H:Hp}{s:zAH}{a:Addr}{xs ys:List V}
theorem SqL.of{K:zAA}(h:H a=some (.lst xs)):SqL K H a xs:=.inl (.inl h)
theorem SqT.of{K:zAA}(h:H a=some (.tup xs)):SqT K H a xs:=.inl (.inl h)
theorem Inv.list(I:Inv X pins Z H s)(h:SqL X.K H a xs):∃its:List Value,Vals xs its/\PlainL s.heap a its.toArray/\xs.length<=zAV:=by
 rcases h with h|⟨o,its,n,hk,hc,hd,hs,hz,r⟩
 .obtain⟨z,its,n,r,e⟩:=h.ok I.hok
  exact⟨its,r,⟨_,n,e,rfl,rfl,rfl⟩,z⟩
 .refine⟨its.toList,r,⟨o,n,I.kIn a o hk,hc,hd,by simpa using hs⟩,?_⟩
  have e:=r.length;simp only[zA7]at e;omega
theorem Inv.tuple(I:Inv X pins Z H s)(h:SqT X.K H a xs):∃its:List Value,Vals xs its/\IsTup s.heap a its.toArray/\xs.length<=zAV:=by
 rcases h with h|⟨o,its,n,hk,hc,hd,hs,hz,r⟩
 .obtain⟨z,its,r,p⟩:=h.ok I.hok
  exact⟨its,r,p,z.1⟩
 .refine⟨its.toList,r,⟨o,I.kIn a o hk,hc,n,by simpa using hs⟩,?_⟩
  have e:=r.length;simp only[zA7]at e;omega
theorem Inv.noD(I:Inv X pins Z H s)(h:SqT X.K H a xs):NoD s.heap a:=by
 rcases h with h|⟨o,its,n,hk,hc,hd,hs,hz,r⟩
 .obtain⟨z,its,r,p⟩:=h.ok I.hok
  exact z.2
 .intro u e
  rw[I.kIn a o hk]at e;cases e;exact hd
theorem Inv.list_inj(I:Inv X pins Z H s)(h:SqL X.K H a xs)(h':SqL X.K H a ys):xs=ys:=by
 obtain⟨its,r,⟨o,n,e,_,_,d⟩,_⟩:=I.list h;obtain⟨its',r',⟨o',n',e',_,_,d'⟩,_⟩:=I.list h';rw[e]at e';cases e';rw[d]at d';injection d' with d1 _
 have:its=its':=by simpa using congrArg zI4 d1
 subst this;exact r.inj r'
theorem Inv.tuple_inj(I:Inv X pins Z H s)(h:SqT X.K H a xs)(h':SqT X.K H a ys):xs=ys:=by
 obtain⟨its,r,⟨o,e,_,n,d⟩,_⟩:=I.tuple h;obtain⟨its',r',⟨o',e',_,n',d'⟩,_⟩:=I.tuple h';rw[e]at e';cases e';rw[d]at d';injection d' with d1 _
 have:its=its':=by simpa using congrArg zI4 d1
 subst this;exact r.inj r'
end
section
variable{X:Cx}{st:Stmt}{rest:List Stmt}{t u:TS}{e:Expr}{te:TE}{pos:Pos}
def aO8:TS:=λ D Z H=>D.nx Z H
def aP8(t u:TS):TS:=λ D Z H=>t {D with nx:=u D} Z H
theorem aBy:PSs X [] aO8:=λ _ _ Z H _ I h=>zDu ⟨Z,H,I,h⟩
theorem gZ(h1:PS X st t)(h2:PSs X rest u):PSs X (st::rest) (aP8 t u):=by
 intro pins s Z H D I h;refine wpAny_execs_cons (thn (h1 pins s Z H {D with nx:=u D} I h) λ f s1 q=>?_);cases f with
 |next=>
  obtain⟨Z',H',I',q⟩:=q;exact h2 pins s1 Z' H' D I' q
 |ret v=>exact q
 |brk=>exact q
 |cont=>exact q
theorem oJ(h1:PS X st t):PSs X [st] t:=by
 intro pins s Z H D I h;refine wpAny_execs_cons (thn (h1 pins s Z H D I h) λ f s1 q=>?_);cases f with
 |next=>exact zDu q
 |ret v=>exact q
 |brk=>exact q
 |cont=>exact q
theorem Inv.quiet(I:Inv X pins Z H s):interactive X.env=false:=by simp[interactive,I.ok.kind]
def yd(te:TE):TS:=λ D Z H=>te Z H λ _ H1=>D.nx Z H1
theorem qi(he:PE X e te)(hs:zCw e none pos.line X.env=pure false:=by rfl):PS X (.Expr e pos) (yd te):=by
 intro pins s Z H D I h;exact wpAny_Expr_any (thn (he pins s Z H _ I h) λ v s1 ⟨x,H1,I1,r1,q1⟩=>⟨Z,H1,I1,q1⟩) I.quiet hs
def aM5(te:TE):TS:=λ D Z H=>te Z H D.rt
theorem zJ(he:PE X e te):PS X (.Return (some e) pos) (aM5 te):=by
 intro pins s Z H D I h;exact wpAny_Return_some (thn (he pins s Z H _ I h) λ v s1 ⟨x,H1,I1,r1,q1⟩=>⟨x,Z,H1,I1,r1,q1⟩)
def aPd(c:TT)(t u:TS):TS:=λ D Z H=>c Z H λ b H1=>if b=true then t D Z H1 else u D Z H1
theorem aIE(hc:PT X c tc)(ha:PSs X a t)(hb:PSs X b u):PS X (.If c a b pos) (aPd tc t u):=by
 intro pins s Z H D I h;refine wpAny_If (thn (hc pins s Z H _ I h) λ d s1 ⟨H1,I1,q1⟩=>?_);cases d with
 |true=>exact ha pins s1 Z H1 D I1 q1
 |false=>exact hb pins s1 Z H1 D I1 q1
end
abbrev TG:=V->St->Hp->(St->Hp->Prop)->Prop
abbrev TGs:=List V->St->Hp->(St->Hp->Prop)->Prop
def PG(X:Cx)(target:Expr)(t:TG):Prop:=
 ∀(pins:List (Addr×Obj)) (s:zAH) (Z:St) (H:Hp) (v:V) (u:Value) (Q:St->Hp->Prop),Inv X pins Z H s->RelV v u->t v Z H Q->
  wpAny (model X.prog X.w) X.A (zGM target X.env u) (λ _ s'=>∃Z' H',Inv X pins Z' H' s'/\Q Z' H') X.xe s
def PGs(X:Cx)(ts:List Expr)(t:TGs):Prop:=
 ∀(pins:List (Addr×Obj)) (s:zAH) (Z:St) (H:Hp) (vs:List V) (us:List Value) (Q:St->Hp->Prop),Inv X pins Z H s->Vals vs us->t vs Z H Q->
  wpAny (model X.prog X.w) X.A (assignInOrder ((zD0 ts X.env).map (·.2)) us) (λ _ s'=>∃Z' H',Inv X pins Z' H' s'/\Q Z' H') X.xe s
section
variable{X:Cx}{pos:Pos}
def sH(i:Nat):TG:=λ v Z H Q=>Q (Z.set i (some v)) H
theorem aKc(hN:X.N.Nodup)(hi:X.N[i]? =some x)(hx:Loc X.env.scope x)(hf:X.fn x=true\/X.env.scope.names.lookup x=some .local:=by first|exact .inl rfl|exact .inr rfl|assumption):PG X (.Name x pos) (sH i):=by
 intro pins s Z H v u Q I r h;exact zJC (ye I hN hi hx r (λ s' I'=>⟨_,H,I',h⟩) hf)
def aOD:TGs:=λ vs Z H Q=>vs=[]/\Q Z H
def aJS(t:TG)(u:TGs):TGs:=λ vs Z H Q=>∃v r,vs=v::r/\t v Z H λ Z' H'=>u r Z' H' Q
theorem aKb:PGs X [] aOD:=by
 intro pins s Z H vs us Q I r h;obtain⟨e,h⟩:=h;subst e;cases r;exact assignInOrder_nil ⟨Z,H,I,h⟩
theorem aIJ(h1:PG X e t)(h2:PGs X es u)
  (hs:(zD0 (e::es) X.env).map (·.2)=zGM e X.env::(zD0 es X.env).map (·.2):=by rfl):PGs X (e::es) (aJS t u):=by
 intro pins s Z H vs us Q I r h;obtain⟨v,vr,e1,h⟩:=h;subst e1;cases r with
 |cons r rr=>
  rw[hs];refine assignInOrder_cons (thn (h1 pins s Z H _ _ _ I r h) λ _ s1 ⟨Z1,H1,I1,q1⟩=>?_);exact h2 pins s1 Z1 H1 _ _ Q I1 rr q1
def aL5(K:zAA)(n:Nat)(t:TGs):TG:=λ v Z H Q=>∃a xs,v= .ref a/\SqT K H a xs/\xs.length=n/\t xs Z H Q
theorem aNG(hc:X.calm=true)(h:PGs X es t)
  (hn:(zD0 es X.env).length=n:=by rfl)(hst:(zD0 es X.env).findIdx? (·.1)=none:=by rfl):PG X (.Tuple es k pos) (aL5 X.K n t):=by
 intro pins s Z H v u Q I r hw;obtain⟨a,xs,e1,hq,hl,hw⟩:=hw;subst e1;cases r;obtain⟨its,rv,ht,hz⟩:=I.tuple hq;refine assign_Tuple_tuple (I.ok.hd hc) ht (by simp[hn,<-hl,rv.length]) hst λ h' hx=>?_
 have I1:Inv X pins Z H {s with heap:=h'}:=I.kept (t':=s.toks) λ b o e=>hx b o (zAU (zAO e)) e
 exact h pins _ Z H xs _ Q I1 (by simpa using rv) hw
def aGJ(te:TE)(g:TG):TS:=λ D Z H=>te Z H λ x H1=>g x Z H1 D.nx
theorem oK(hN:X.N.Nodup)(hi:X.N[i]? =some x)(hx:Loc X.env.scope x)(he:PE X e te)(hs:zCw e (some (.Name x pos')) pos.line X.env=pure false:=by rfl)(hf:X.fn x=true\/X.env.scope.names.lookup x=some .local:=by first|exact .inl rfl|exact .inr rfl|assumption):
  PS X (.Assign [.Name x pos'] e pos) (aGJ te (sH i)):=by
 intro pins s Z H D I h;refine wpAny_Assign_Name (thn (he pins s Z H _ I h) λ v s1 ⟨y,H1,I1,r1,q1⟩=>?_) hs;exact ye I1 hN hi hx r1 (λ s2 I2=>⟨_,H1,I2,q1⟩) hf
end
section
variable{X:Cx}{pos:Pos}
def aM4(c:TT)(tb:TS):TS:=λ D Z H=>∃W:Nat->St->Hp->Prop,(∃m,W m Z H)/\∀m Z H,W m Z H->
 c Z H λ b H1=>if b=true then∃N:St->Hp->Prop,(∀Z' H',N Z' H'->∃m',m'<m/\W m' Z' H')/\tb {D with nx:=N,ct:=N,bk:=D.nx} Z H1 else D.nx Z H1
theorem aIB(hp:zIG (model X.prog X.w) X.A X.env X.xe)(hc:PT X c tc)(hb:PSs X body tb):PS X (.While c body [] pos) (aM4 tc tb):=by
 intro pins s Z H D I h;obtain⟨W,⟨m0,w0⟩,turn⟩:=h;refine wpAny_While (codeAny_whileLoop (λ n s'=>∃Z' H',Inv X pins Z' H' s'/\W n Z' H') ?_ m0 ⟨Z,H,I,w0⟩);rintro n s1 ⟨Z1,H1,I1,w1⟩;refine zCg hp (thn (hc pins s1 Z1 H1 _ I1 (turn n Z1 H1 w1)) λ b s2 ⟨H2,I2,q2⟩=>?_);cases b with
 |true=>
  obtain⟨N,hN,q2⟩:=q2;rw[if_pos rfl];refine zCg hp (thn (hb pins s2 Z1 H2 _ I2 q2) λ f s3 q3=>?_);cases f with
  |next=>
   obtain⟨Z3,H3,I3,n3⟩:=q3;obtain⟨m',hm,w3⟩:=hN Z3 H3 n3;exact⟨m',hm,Z3,H3,I3,w3⟩
  |cont=>
   obtain⟨Z3,H3,I3,n3⟩:=q3;obtain⟨m',hm,w3⟩:=hN Z3 H3 n3;exact⟨m',hm,Z3,H3,I3,w3⟩
  |brk=>exact q3
  |ret v=>exact q3
 |false=>
  rw[if_neg zA5];exact zDu ⟨Z1,H2,I2,q2⟩
end
structure It where
 go:Nat->Hp->Prop
 yld:Nat->Hp->V->Hp->Prop
 stop:Nat->Hp->Prop
def rQ(X:Cx)(pins:List (Addr×Obj))(H:Hp)(b:Addr):Prop:=
 H b=none/\b≠X.env.locals/\b∉X.fs/\(b∈X.ex\/X.z0.heap.objs.size<=b)/\(∀x c,X.env.cells.lookup x=some c->c≠b)/\∀p∈X.ta++(X.pn++pins),p.1≠b
theorem Inv.fpOk(I:Inv X pins Z H s)(hb:s.heap.objs.size<=b)(hn:H' b=none):rQ X pins H' b:=by
 refine⟨hn,zB4 (zAW I.lt hb),I.nofs hb,.inr (zAm I.sz hb),λ x c e z=>?_,λ p hp z=>?_⟩
 .obtain⟨v,q⟩:=I.cell x c e
  exact absurd (zAW q.lt (by rw[z];exact hb)) (zBW _)
 .exact absurd (zAW (I.pinL hp) (by rw[z];exact hb)) (zBW _)
structure Turn(P:zA3)(w:World)(K:zAA)(tg:Expr)(J:It)(fp:List Addr)(it:Addr)(tn:Nat->Heap->Prop):Prop where
 mem:it∈fp
 obj:∀i h,tn i h->∀b∈fp,∃o,h.get? b=some o/\∀v,o.data≠.cell v
 keep:∀i h h',tn i h->(∀b∈fp,∀o,h.get? b=some o->h'.get? b=some o)->tn i h'
 item:∀(X:Cx),X.prog=P->X.w=w->X.K=K->X.calm=true->∀(i:Nat) (pins:List (Addr×Obj)) (s:zAH) (Z:St) (H:Hp) (E:Value->zAH->Prop),Inv X pins Z H s->(∀b∈fp,rQ X pins H b)->tn i s.heap->J.go i H->
  wpAny (model P w) X.A (zEd (.ref it)) (λ r s1=>∃u,r=some u/\
   wpAny (model P w) X.A (zDR tg (.ref it) u) (λ _ s2=>∃x H',Inv X pins Z H' s2/\RelV x u/\J.yld i H x H'/\tn (i+1) s2.heap/\∀b∈fp,H' b=none) E s1) E s
 done:∀(X:Cx),X.prog=P->X.w=w->X.K=K->X.calm=true->∀(i:Nat) (pins:List (Addr×Obj)) (s:zAH) (Z:St) (H:Hp) (E:Value->zAH->Prop),Inv X pins Z H s->(∀b∈fp,rQ X pins H b)->tn i s.heap->J.stop i H->
  wpAny (model P w) X.A (zEd (.ref it)) (λ r s1=>r=none/\Inv X pins Z H s1) E s
 self:∀(A:zAj) (i:Nat) (s:zAH) (Q:Value->zAH->Prop) (E:Value->zAH->Prop),tn i s.heap->Q (.ref it) s->wpAny (model P w) A (zHS (.ref it)) Q E s
abbrev TI:=St->Hp->(It->Hp->Prop)->Prop
def PIE(X:Cx)(pins:List (Addr×Obj))(Z:St)(tg:Expr)(R:It->Hp->Prop)(itv:Value)(s2:zAH):Prop:=
 ∃(it:Addr) (fp:List Addr) (tn:Nat->Heap->Prop) (J:It) (H':Hp),itv= .ref it/\Inv X pins Z H' s2/\Turn X.prog X.w X.K tg J fp it tn/\tn 0 s2.heap/\(∀b∈fp,rQ X pins H' b)/\R J H'
def PI(X:Cx)(tg iter:Expr)(wi:TI):Prop:=
 ∀(pins:List (Addr×Obj)) (s:zAH) (Z:St) (H:Hp) (R:It->Hp->Prop),Inv X pins Z H s->wi Z H R->
  wpAny (model X.prog X.w) X.A (eval iter X.env) (λ v s1=>wpAny (model X.prog X.w) X.A (zHS v) (PIE X pins Z tg R) X.xe s1) X.xe s
theorem aJP(ho:s.heap.get? it=some o)(hc:o.cls= .type n)(hd:o.data= .fields vs)
    (hn:["enumerate","zip","dict_itemiterator","dict_reverseitemiterator","odict_iterator","itertools.zip_longest","itertools.pairwise"].contains n=false)(hQ:Q () s):wpAny M A (zDR tg (.ref it) u) Q E s:=by
  unfold zDR;cases tg<;>first
    |exact zAE hQ
    | (cases u <;> first
        |exact zAE hQ
        | (refine zAB (wpAny_load ho ?_)
           rw[hc,hd];show wpAny M A (if (["enumerate","zip","dict_itemiterator","dict_reverseitemiterator","odict_iterator","itertools.zip_longest","itertools.pairwise"].contains n&&vs[0]? ==some (zEZ _))=true then _ else _) Q E s;rw[if_neg (by intro h;rw[hn,zIU]at h;cases h)];exact zAE hQ))
def Itl(K:zAA)(a:Addr):It:=
 ⟨λ i H=>∃xs x,SqL K H a xs/\xs[i]? =some x,λ i H x H'=>H'=H/\∀xs,SqL K H a xs->xs[i]? =some x,λ i H=>∃xs,SqL K H a xs/\xs.length<=i⟩
def Itt(K:zAA)(a:Addr):It:=
 ⟨λ i H=>∃xs x,SqT K H a xs/\xs[i]? =some x,λ i H x H'=>H'=H/\∀xs,SqT K H a xs->xs[i]? =some x,λ i H=>∃xs,SqT K H a xs/\xs.length<=i⟩
def Itr(lo:Int)(n:Nat):It:=⟨λ i _=>i<n,λ i H x H'=>H'=H/\x= .int (lo+i),λ i _=>n<=i⟩
theorem aGH{P:zA3}{w:World}{K:zAA}{tg:Expr}(a it:Addr):Turn P w K tg (Itl K a) [it] it (λ i h=>h.IsListIter it a i) where
 mem:=by simp
 obj:=λ i h st b hb=>by
  have e:b=it:=by simpa using hb
  subst e;obtain⟨o,e,c,d⟩:=st;exact⟨o,e,λ v z=>by rw[d]at z;cases z⟩
 keep:=λ i h h' st k=>st.at λ o e=>k it (by simp) o e
 item:=by
  intro X hP hw hK hc i pins s Z H E I hf st hg;subst hP hw hK;obtain⟨xs,x,hq,hx⟩:=hg;obtain⟨its,rv,p,hz⟩:=I.list hq;obtain⟨u,hu,ru⟩:=rv.get hx;obtain⟨f0,f1,f2,f3,f4,f5⟩:=hf it (by simp);refine wpAny_pyNext_list_item st p.isList (x:=u) (by simpa using hu) λ h' st' sb=>?_
  have I1:Inv X pins Z H {s with heap:=h'}:=I.turned (t':=s.toks) (λ b o hb e=>(sb.2 b hb).trans e) f0 f1 f3 f4 f5;obtain⟨o,e,c,d⟩:=id st';exact⟨u,rfl,aJP (s:={s with heap:=h'}) e c d (by decide) ⟨x,H,I1,ru,⟨rfl,λ ys hy=>by rw[I.list_inj hy hq];exact hx⟩,st',λ b hb=>(hf b hb).1⟩⟩
 done:=by
  intro X hP hw hK hc i pins s Z H E I hf st hg;subst hP hw hK;obtain⟨xs,hq,hx⟩:=hg;obtain⟨its,rv,p,hz⟩:=I.list hq;obtain⟨f0,f1,f2,f3,f4,f5⟩:=hf it (by simp);have hl:=rv.length;exact wpAny_pyNext_list_end (I.ok.hd hc) st p.isList (by simp;omega) λ h' eb=>⟨rfl,I.turned (t':=s.toks) (λ b o hb e=>eb b o hb e) f0 f1 f3 f4 f5⟩
 self:=λ _ _ _ _ _ st h=>wpAny_pyIter_listiter st h
theorem aDp{P:zA3}{w:World}{K:zAA}{tg:Expr}(a it:Addr):Turn P w K tg (Itt K a) [it] it (λ i h=>h.IsTupleIter it a i) where
 mem:=by simp
 obj:=λ i h st b hb=>by
  have e:b=it:=by simpa using hb
  subst e;obtain⟨o,e,c,d⟩:=st;exact⟨o,e,λ v z=>by rw[d]at z;cases z⟩
 keep:=λ i h h' st k=>st.at λ o e=>k it (by simp) o e
 item:=by
  intro X hP hw hK hc i pins s Z H E I hf st hg;subst hP hw hK;obtain⟨xs,x,hq,hx⟩:=hg;obtain⟨its,rv,p,hz⟩:=I.tuple hq;obtain⟨u,hu,ru⟩:=rv.get hx;obtain⟨f0,f1,f2,f3,f4,f5⟩:=hf it (by simp);refine zHc st (show s.heap.IsTuple a its.toArray from p) (x:=u) (by simpa using hu) λ h' st' sb=>?_
  have I1:Inv X pins Z H {s with heap:=h'}:=I.turned (t':=s.toks) (λ b o hb e=>(sb.2 b hb).trans e) f0 f1 f3 f4 f5;obtain⟨o,e,c,d⟩:=id st';exact⟨u,rfl,aJP (s:={s with heap:=h'}) e c d (by decide) ⟨x,H,I1,ru,⟨rfl,λ ys hy=>by rw[I.tuple_inj hy hq];exact hx⟩,st',λ b hb=>(hf b hb).1⟩⟩
 done:=by
  intro X hP hw hK hc i pins s Z H E I hf st hg;subst hP hw hK;obtain⟨xs,hq,hx⟩:=hg;obtain⟨its,rv,p,hz⟩:=I.tuple hq;obtain⟨f0,f1,f2,f3,f4,f5⟩:=hf it (by simp);have hl:=rv.length;exact zHr (I.ok.hd hc) st (show s.heap.IsTuple a its.toArray from p) (by simp;omega) λ h' eb=>⟨rfl,I.turned (t':=s.toks) (λ b o hb e=>eb b o hb e) f0 f1 f3 f4 f5⟩
 self:=λ _ _ _ _ _ st h=>wpAny_pyIter_tupleiter st h
theorem aDq{P:zA3}{w:World}{K:zAA}{tg:Expr}(it:Addr)(lo:Int)(n:Nat):Turn P w K tg (Itr lo n) [it] it (λ i h=>IsRangeIter h it (lo+(i:Nat)*1) ((n:Int)-(i:Nat)) 1) where
 mem:=by simp
 obj:=λ i h st b hb=>by
  have e:b=it:=by simpa using hb
  subst e;exact⟨_,st,λ v z=>by
   have z':Data.fields _=Data.cell v:=z;cases z'⟩
 keep:=λ i h h' st k=>k it (by simp) _ st
 item:=by
  intro X hP hw hK hc i pins s Z H E I hf st hg;subst hP hw hK;obtain⟨f0,f1,f2,f3,f4,f5⟩:=hf it (by simp);have W:=Walks.range (prog:=X.prog) (w:=X.w) (I.ok.hd hc) it lo 1 n;refine W.item i s _ _ hg st λ v h' tk hv st' kk=>?_
  obtain⟨t,rfl⟩:=hv;have I1:Inv X pins Z H {s with heap:=h',toks:=tk}:=I.turned (λ b o hb e=>kk b o (by simpa using hb) e) f0 f1 f3 f4 f5;refine⟨_,rfl,aJP (s:={s with heap:=h',toks:=tk}) (n:="range_iterator") st' rfl rfl (by decide) ⟨.int (lo+i),H,I1,⟨t,?_⟩,⟨rfl,rfl⟩,st',λ b hb=>(hf b hb).1⟩⟩;rw[Int.mul_one]
 done:=by
  intro X hP hw hK hc i pins s Z H E I hf st hg;subst hP hw hK;obtain⟨f0,f1,f2,f3,f4,f5⟩:=hf it (by simp);exact wpAny_pyNext_range_end (I.ok.hd hc) st (by have:n<=i:=hg;omega) λ h' eb=>⟨rfl,I.turned (t':=s.toks) (λ b o hb e=>eb b o hb e) f0 f1 f3 f4 f5⟩
 self:=λ _ _ _ _ _ st h=>wpAny_pyIter_rangeiter st h
section
variable{X:Cx}{tg:Expr}
theorem aCs{pins:List (Addr×Obj)}{Z:St}{H:Hp}{s:zAH}{R:It->Hp->Prop}{E:Value->zAH->Prop}{lo hi:Int}{t u v:Tok}{tk:Nat}(I:Inv X pins Z H s)(h1: -(2^62)<=lo)(h2:lo<2^62)(h3: -(2^62)<=hi)(h4:hi<2^62)
  (q:R (Itr lo (hi-lo).toNat) H):wpAny (model X.prog X.w) X.A (zHS (.ref s.heap.objs.size)) (PIE X pins Z tg R) E {s with heap:=s.heap.push {cls:=.type "range",data:=.fields #[.int lo t,.int hi u,.int 1 v]},toks:=tk}:=by
 refine wpAny_pyIter_range (IsRange.new ..) (small_one h1 h2 h3 h4) ?_;have I1:Inv X pins Z H {s with heap:=s.heap.push {cls:=.type "range",data:=.fields #[.int lo t,.int hi u,.int 1 v]},toks:=tk}:=I.kept λ b o e=>zAC _ e
 refine⟨(s.heap.push {cls:=.type "range",data:=.fields #[.int lo t,.int hi u,.int 1 v]}).objs.size,[(s.heap.push {cls:=.type "range",data:=.fields #[.int lo t,.int hi u,.int 1 v]}).objs.size],_,_,H,rfl,
  I1.kept (t':=tk) λ b o e=>zAC _ e,aDq _ lo (hi-lo).toNat,?_,λ b hb=>?_,q⟩
 .have e1:lo+((0:Nat):Int)*1=lo:=by simp
  have e2:(((hi-lo).toNat:Nat):Int)-((0:Nat):Int)=zD2 lo hi 1:=by rw[rangeSize_one];split<;>omega
  show IsRangeIter _ _ (lo+((0:Nat):Int)*1) ((((hi-lo).toNat:Nat):Int)-((0:Nat):Int)) 1;rw[e1,e2];exact zAJ _ rfl
 .have e:b=(s.heap.push {cls:=.type "range",data:=.fields #[.int lo t,.int hi u,.int 1 v]}).objs.size:=by simpa using hb
  subst e;exact I1.fpOk (zAP _) (I1.hok.fresh (zAP _))
def aPQ(ta:TA):TI:=λ Z H R=>ta Z H λ vs H1=>∃j:Int,vs=[.int j]/\-(2^62)<=j/\j<2^62/\R (Itr 0 j.toNat) H1
def aPP(ta:TA):TI:=λ Z H R=>ta Z H λ vs H1=>∃i j:Int,vs=[.int i,.int j]/\(-(2^62)<=i/\i<2^62/\-(2^62)<=j/\j<2^62)/\R (Itr i (j-i).toNat) H1
theorem aGV{a:Expr}{ta:TA}{p pos:Pos}(hg:Gl X "range")(hm:X.mg "range"=none)(ha:PA X [a] ta)(hs:zAX [a] X.env=[(false,eval a X.env)]:=by rfl):PI X tg (.Call (.Name "range" p) [a] [] pos) (aPQ ta):=by
 intro pins s Z H R I h;refine Call_ (uD I hg hm zIw (zBq (thn (ha pos pins s Z H _ I h) λ us s1 ⟨vs,H1,I1,r1,q1⟩=>?_) hs rfl));obtain⟨j,e,q1,q2,q⟩:=q1;subst e;cases r1 with
 |cons r rr=>
  cases rr;obtain⟨t,rfl⟩:=r;exact call_range_1 (aCs I1 (by omega) (by omega) q1 q2 (by simpa using q))
theorem aGU(hg:Gl X "range")(hm:X.mg "range"=none)(ha:PA X [a,b] ta)(hs:zAX [a,b] X.env=[(false,eval a X.env),(false,eval b X.env)]:=by rfl)(hs2:zAX [b] X.env=[(false,eval b X.env)]:=by rfl):
  PI X tg (.Call (.Name "range" p) [a,b] [] pos) (aPP ta):=by
 intro pins s Z H R I h;refine Call_ (uD I hg hm zIw (zBq (thn (ha pos pins s Z H _ I h) λ us s1 ⟨vs,H1,I1,r1,q1⟩=>?_) (by rw[hs,hs2]) (by rw[hs2];rfl)));obtain⟨i,j,e,⟨q1,q2,q3,q4⟩,q⟩:=q1;subst e;cases r1 with
 |cons r rr=>
  cases rr with
  |cons r' rr=>
   cases rr;obtain⟨t,rfl⟩:=r;obtain⟨t',rfl⟩:=r';exact call_range_2 (aCs I1 q1 q2 q3 q4 q)
def aPe(wi:TI)(g:TG)(tb:TS):TS:=λ D Z H=>wi Z H λ J H1=>∃W:Nat->Nat->St->Hp->Prop,(∃m,W 0 m Z H1)/\∀i m Z H,W i m Z H->
 (J.stop i H/\D.nx Z H)\/(J.go i H/\∃N:St->Hp->Prop,(∀Z' H',N Z' H'->∃m',m'<m/\W (i+1) m' Z' H')/\∀x H',J.yld i H x H'->g x Z H' λ Z2 H2=>tb {D with nx:=N,ct:=N,bk:=D.nx} Z2 H2)
def tX(fp:List Addr)(h:Heap):List (Addr×Obj):=fp.filterMap λ b=>(h.get? b).map λ o=>(b,o)
theorem lO(hb:b∈fp)(e:h.get? b=some o):(b,o)∈tX fp h:=zCI.mpr ⟨b,hb,by rw[e];rfl⟩
theorem aBC(hp:p∈tX fp h):p.1∈fp/\h.get? p.1=some p.2:=by
 obtain⟨b,hb,e⟩:=zCI.mp hp;cases q:h.get? b with
 |none=>rw[q]at e;cases e
 |some o=>
  rw[q]at e;have e':(b,o)=p:=zAp e;subst e';exact⟨hb,q⟩
theorem Inv.pinned(I:Inv X pins Z H s)(hf:∀b∈fp,rQ X pins H b)(ho:∀b∈fp,∃o,s.heap.get? b=some o/\∀v,o.data≠.cell v):Inv X (pins++tX fp s.heap) Z H s:=
 I.pins_of (λ p hp=>(zA2.mp hp).elim (λ z=>I.pin p (zA4 _ z)) λ z=>by
  obtain⟨hb,e⟩:=aBC z;obtain⟨f0,f1,f2,_⟩:=hf p.1 hb;obtain⟨o,e',d⟩:=ho p.1 hb;rw[e]at e';cases e';exact⟨e,f0,f1,f2,d⟩) λ q hq p hp=>(zA2.mp hq).elim (λ z=>(I.tab p hp).2.2.2.1 q (zA4 _ z)) λ z=>((hf q.1 (aBC z).1).2.2.2.2.2 p (zA0 _ hp)).symm
theorem Inv.unpinned(I:Inv X (pins++pl) Z H s):Inv X pins Z H s:=I.pins_of (λ p hp=>I.pin p (zA4 _ (zA0 _ hp))) λ q hq p hp=>(I.tab p hp).2.2.2.1 q (zA4 _ (zA0 _ hq))
theorem aNB(hp:zIG (model X.prog X.w) X.A X.env X.xe)(hc:X.calm=true)(hi:PI X tg iter wi)(hg:PG X tg g)(hb:PSs X body tb)
  (hs:∀x,zBQ iter X.env x=pure x:=by intro _;rfl):PS X (.For tg iter body [] pos) (aPe wi g tb):=by
 intro pins s Z H D I h;refine wpAny_For (thn (hi pins s Z H _ I h) λ v s1 h1=>thn h1 λ itv s2 h2=>?_) hs;obtain⟨it,fp,tn,J,H2,e,I2,T,st2,f2,W,⟨m0,w0⟩,turn⟩:=h2;subst e;have stat:∀{H':Hp},(∀b∈fp,H' b=none)->∀b∈fp,rQ X pins H' b:=λ hn b hb=>⟨hn b hb,(f2 b hb).2⟩
 refine codeAny_forLoop_any (λ n s'=>∃i Z' H',Inv X pins Z' H' s'/\tn i s'.heap/\(∀b∈fp,H' b=none)/\W i n Z' H') ?_ m0 ⟨0,Z,H2,I2,st2,λ b hb=>(f2 b hb).1,w0⟩;rintro n s3 ⟨i,Z3,H3,I3,st3,fr3,w3⟩;rcases turn i n Z3 H3 w3 with ⟨stop,qn⟩|⟨go,N,hN,step⟩
 .refine zCg hp (thn (T.done X rfl rfl rfl hc i pins s3 Z3 H3 X.xe I3 (stat fr3) st3 stop) λ r s4 ⟨hr,I4⟩=>?_)
  subst hr;exact zDu ⟨Z3,H3,I4,qn⟩
 .refine zCg hp (thn (T.item X rfl rfl rfl hc i pins s3 Z3 H3 X.xe I3 (stat fr3) st3 go) λ r s4 ⟨u,hr,h4⟩=>?_)
  subst hr;refine zCg hp (thn h4 λ _ s5 ⟨x,H5,I5,r5,y5,st5,fr5⟩=>?_);have I5':=I5.pinned (stat fr5) (T.obj _ _ st5);refine zCg hp (thn (hg _ s5 Z3 H5 x u _ I5' r5 (step x H5 y5)) λ _ s6 ⟨Z6,H6,I6,q6⟩=>?_);refine zCg hp (thn (hb _ s6 Z6 H6 _ I6 q6) λ f s7 q7=>?_);have again:∀{Z7:St} {H7:Hp},Inv X (pins++tX fp s5.heap) Z7 H7 s7->N Z7 H7->∃m,m<n/\∃i Z' H',Inv X pins Z' H' s7/\tn i s7.heap/\(∀b∈fp,H' b=none)/\W i m Z' H':=λ{Z7 H7} I7 n7=>by
   obtain⟨m',hm,w7⟩:=hN Z7 H7 n7;refine⟨m',hm,i+1,Z7,H7,I7.unpinned,T.keep _ _ _ st5 λ b hb o e=>(I7.pin (b,o) (zA4 _ (zA4 _ (lO hb e)))).1,λ b hb=>?_,w7⟩;obtain⟨o,e,d⟩:=T.obj _ _ st5 b hb;exact(I7.pin (b,o) (zA4 _ (zA4 _ (lO hb e)))).2.1
  cases f with
  |next=>obtain⟨Z7,H7,I7,n7⟩:=q7;exact again I7 n7
  |cont=>obtain⟨Z7,H7,I7,n7⟩:=q7;exact again I7 n7
  |brk=>obtain⟨Z7,H7,I7,q7⟩:=q7;exact⟨Z7,H7,I7.unpinned,q7⟩
  |ret v=>obtain⟨x7,Z7,H7,I7,r7,q7⟩:=q7;exact⟨x7,Z7,H7,I7.unpinned,r7,q7⟩
end
abbrev R2:=V->V->Hp->VK->Prop
def OpR(X:Cx)(f:Value->Value->Sem Value)(r:R2):Prop:=
 ∀(pins:List (Addr×Obj)) (s:zAH) (Z:St) (H:Hp) (x y:V) (v u:Value) (Q:VK),Inv X pins Z H s->RelV x v->RelV y u->r x y H Q->
  wpAny (model X.prog X.w) X.A (f v u) (EP X pins Z Q) X.xe s
def UnR(X:Cx)(f:Value->Sem Value)(r:V->Hp->VK->Prop):Prop:=
 ∀(pins:List (Addr×Obj)) (s:zAH) (Z:St) (H:Hp) (x:V) (v:Value) (Q:VK),Inv X pins Z H s->RelV x v->r x H Q->
  wpAny (model X.prog X.w) X.A (f v) (EP X pins Z Q) X.xe s
def dj(X:Cx)(f:Value)(r:List V->Hp->VK->Prop):Prop:=
 ∀(pins:List (Addr×Obj)) (s:zAH) (Z:St) (H:Hp) (xs:List V) (us:List Value) (Q:VK),Inv X pins Z H s->Vals xs us->r xs H Q->
  wpAny (model X.prog X.w) X.A (call f us) (EP X pins Z Q) X.xe s
def aPy(X:Cx)(r:V->Hp->(Bool->Hp->Prop)->Prop):Prop:=
 ∀(pins:List (Addr×Obj)) (s:zAH) (Z:St) (H:Hp) (x:V) (v:Value) (Q:Bool->Hp->Prop),Inv X pins Z H s->RelV x v->r x H Q->
  wpAny (model X.prog X.w) X.A (truthy v) (TP X pins Z Q) X.xe s
def tOp(r:R2)(ta tb:TE):TE:=λ Z H Q=>ta Z H λ x H1=>tb Z H1 λ y H2=>r x y H2 Q
def tUn(r:V->Hp->VK->Prop)(ta:TE):TE:=λ Z H Q=>ta Z H λ x H1=>r x H1 Q
def rI(C:Int->Int->Prop)(g:Int->Int->V):R2:=λ x y H Q=>∃i j,x= .int i/\y= .int j/\C i j/\Q (g i j) H
def rI0(g:Int->Int->V):R2:=λ x y H Q=>∃i j,x= .int i/\y= .int j/\Q (g i j) H
def rU(g:Int->V):V->Hp->VK->Prop:=λ x H Q=>∃i,x= .int i/\Q (g i) H
section
variable{X:Cx}{a b:Expr}{ta tb:TE}{pos:Pos}
theorem aOS(ha:PE X a ta)(hb:PE X b tb){pins:List (Addr×Obj)}{s:zAH}{Z:St}{H:Hp}{R:V->V->Hp->Prop}(I:Inv X pins Z H s)
  (h:ta Z H λ x H1=>tb Z H1 λ y H2=>R x y H2){Q:Value->zAH->Prop}{f:Value->Value->Sem Value}
  (hf:∀v u s2 x y H2,Inv X pins Z H2 s2->RelV x v->RelV y u->R x y H2->wpAny (model X.prog X.w) X.A (f v u) Q X.xe s2):
  wpAny (model X.prog X.w) X.A (eval a X.env) (λ v zD=>wpAny (model X.prog X.w) X.A (eval b X.env) (λ u zS=>wpAny (model X.prog X.w) X.A (f v u) Q X.xe zS) X.xe zD) X.xe s:=by
 refine thn (ha pins s Z H _ I h) λ v s1 ⟨x,H1,I1,r1,q1⟩=>?_
 refine thn (hb pins s1 Z H1 _ I1 q1) λ u s2 ⟨y,H2,I2,r2,q2⟩=>?_
 exact hf v u s2 x y H2 I2 r1 r2 q2
theorem aIM{op:Operator}{r:R2}(ho:OpR X (zCU op) r)(ha:PE X a ta)(hb:PE X b tb):PE X (.BinOp a op b pos) (tOp r ta tb):=by
 intro pins s Z H Q I h;exact wpAny_BinOp (aOS ha hb I h λ v u s2 x y H2 I2 rx ry q=>ho pins s2 Z H2 x y v u Q I2 rx ry q)
theorem aMN(ho:UnR X (unaryOp op) r)(ha:PE X a ta):PE X (.UnaryOp op a pos) (tUn r ta):=by
 intro pins s Z H Q I h;exact UnaryOp_ (thn (ha pins s Z H _ I h) λ v s1 ⟨x,H1,I1,r1,q1⟩=>ho pins s1 Z H1 x v Q I1 r1 q1)
theorem opI{f:Value->Value->Sem Value}{C:Int->Int->Prop}{g:Int->Int->Int}
  (rule:∀(i j:Int) (t u:Tok) (s:zAH) (Q:Value->zAH->Prop) (E:Value->zAH->Prop),C i j->Q (.int (g i j) s.toks) {s with toks:=s.toks+1}->wpAny (model X.prog X.w) X.A (f (.int i t) (.int j u)) Q E s):
  OpR X f (rI C λ i j=>.int (g i j)):=by
 intro pins s Z H x y v u Q I rx ry h;obtain⟨i,j,rfl,rfl,hc,q⟩:=h;obtain⟨t,rfl⟩:=rx;obtain⟨t',rfl⟩:=ry;exact rule i j t t' s _ _ hc ⟨.int (g i j),H,I.tok _,⟨_,rfl⟩,q⟩
theorem aPD{f:Value->Value->Sem Value}{g:Int->Int->Int}
  (rule:∀(i j:Int) (t u:Tok) (s:zAH) (Q:Value->zAH->Prop) (E:Value->zAH->Prop),Q (.int (g i j) s.toks) {s with toks:=s.toks+1}->wpAny (model X.prog X.w) X.A (f (.int i t) (.int j u)) Q E s):
  OpR X f (rI0 λ i j=>.int (g i j)):=by
 intro pins s Z H x y v u Q I rx ry h;obtain⟨i,j,rfl,rfl,q⟩:=h;obtain⟨t,rfl⟩:=rx;obtain⟨t',rfl⟩:=ry;exact rule i j t t' s _ _ ⟨.int (g i j),H,I.tok _,⟨_,rfl⟩,q⟩
theorem aKw{f:Value->Value->Sem Value}{g:Int->Int->Bool}
  (rule:∀(i j:Int) (t u:Tok) (s:zAH) (Q:Value->zAH->Prop) (E:Value->zAH->Prop),Q (.bool (g i j)) s->wpAny (model X.prog X.w) X.A (f (.int i t) (.int j u)) Q E s):
  OpR X f (rI0 λ i j=>.bl (g i j)):=by
 intro pins s Z H x y v u Q I rx ry h;obtain⟨i,j,rfl,rfl,q⟩:=h;obtain⟨t,rfl⟩:=rx;obtain⟨t',rfl⟩:=ry;exact rule i j t t' s _ _ ⟨.bl (g i j),H,I,rfl,q⟩
def aP3(i j:Int):Prop:=0<j/\j<1073741824
def aQA(i j:Int):Prop:=0<=j/\j<=1000000/\i.natAbs<2^64
def aLv(i j:Int):Prop:=(-(2^64)<i/\i<2^64)\/(-(2^64)<j/\j<2^64)
theorem aLv.ok(h:aLv i j):IntMulOk i j:=by
 rcases h with ⟨h1,h2⟩|⟨h1,h2⟩
 .exact .of_left (intBits_le_64 h1 h2)
 .exact .of_right (intBits_le_64 h1 h2)
theorem aNd:OpR X (zCU .Add) (rI0 λ i j=>.int (i+j)):=aPD λ _ _ _ _ _ _ _ q=>add_int q
theorem aNX:OpR X (zCU .Sub) (rI0 λ i j=>.int (i-j)):=aPD λ _ _ _ _ _ _ _ q=>sub_int q
theorem aN1:OpR X (zCU .Mult) (rI aLv λ i j=>.int (i*j)):=opI λ _ _ _ _ _ _ _ hc q=>mul_int q hc.ok
theorem aKs:OpR X (zCU .FloorDiv) (rI aP3 λ i j=>.int (i / j)):=opI λ i j _ _ _ _ _ hc q=>by
 have h1:(0:Int)<j:=hc.1;have h2:j<1073741824:=hc.2;exact floordiv_int (by omega) (by rw[Int.fdiv_eq_ediv_of_nonneg i (by omega)];exact q) (.inl (PyProof.noPylong_small (by omega)))
theorem aN2:OpR X (zCU .Mod) (rI (λ _ j=>0<j) λ i j=>.int (i%j)):=opI λ i j _ _ _ _ _ hc q=>by
 have h1:(0:Int)<j:=hc;exact mod_int' (by omega) (by rw[Int.fmod_eq_emod_of_nonneg i (by omega)];exact q)
theorem aNZ:OpR X (zCU .Pow) (rI aQA λ i j=>.int (i^j.toNat)):=opI λ _ _ _ _ _ _ _ hc q=>pow_int_small hc.1 hc.2.1 hc.2.2 q
theorem unI{f:Value->Sem Value}{g:Int->Int}
  (rule:∀(i:Int) (t:Tok) (s:zAH) (Q:Value->zAH->Prop) (E:Value->zAH->Prop),Q (.int (g i) s.toks) {s with toks:=s.toks+1}->wpAny (model X.prog X.w) X.A (f (.int i t)) Q E s):
  UnR X f (rU λ i=>.int (g i)):=by
 intro pins s Z H x v Q I rx h;obtain⟨i,rfl,q⟩:=h;obtain⟨t,rfl⟩:=rx;exact rule i t s _ _ ⟨.int (g i),H,I.tok _,⟨_,rfl⟩,q⟩
theorem aHN:UnR X (unaryOp .USub) (rU λ i=>.int (-i)):=unI λ _ _ _ _ _ q=>neg_int q
end
section
variable{X:Cx}{a b c:Expr}{ta tb tc:TE}{pos:Pos}
theorem aJW(I:Inv X pins Z H s)(q:Q (.bl k) H)(e:k=k'):EP X pins Z Q (.bool k') s:=by
 subst e;exact⟨.bl k,H,I,rfl,q⟩
theorem aOz:OpR X (zAs .Lt) (rI0 λ i j=>.bl (decide (i<j))):=aKw λ _ _ _ _ _ _ _ q=>lt_int q
theorem aPA:OpR X (zAs .LtE) (rI0 λ i j=>.bl (decide (i<=j))):=aKw λ _ _ _ _ _ _ _ q=>le_int q
theorem aPB:OpR X (zAs .Gt) (rI0 λ i j=>.bl (decide (j<i))):=aKw λ _ _ _ _ _ _ _ q=>gt_int q
theorem aPC:OpR X (zAs .GtE) (rI0 λ i j=>.bl (decide (j<=i))):=aKw λ _ _ _ _ _ _ _ q=>ge_int q
theorem aN8:OpR X (zAs .Is) (λ x y H Q=>y= .non/\Q (.bl (decide (x= .non))) H):=by
 intro pins s Z H x y v u Q I rx ry h;obtain⟨rfl,q⟩:=h;cases ry;refine is_none_gen (aJW I q ?_);cases x<;>first
  |(cases rx;rfl)
  |(obtain⟨t,rfl⟩:=rx;rfl)
def isObj:HO->Bool
 | .lst _=>true
 | .ins _ _ _=>true
 |_=>false
theorem aI5(b:Expr)(h:op≠.In:=by decide)(h2:op≠.NotIn:=by decide):zB5 op b=false:=by
 have e1:(op==CmpOp.In)=false:=by cases op<;>first|rfl|exact absurd rfl h
 have e2:(op==zIn)=false:=by cases op<;>first|rfl|exact absurd rfl h2
 cases b<;>simp[zB5,e1,e2]
theorem aKh{op:CmpOp}{r:R2}(ho:OpR X (zAs op) r)(ha:PE X a ta)(hb:PE X b tb)(hm:zB5 op b=false):PE X (.Compare a [op] [b] pos) (tOp r ta tb):=by
 intro pins s Z H Q I h;exact wpAny_Compare1 (aOS ha hb I h λ v u s2 x y H2 I2 rx ry q=>ho pins s2 Z H2 x y v u Q I2 rx ry q) hm
def aHX(t:TE):TT:=λ Z H Q=>t Z H λ x H'=>∃k,x= .bl k/\Q k H'
theorem aF0(ho:OpR X (zAs op) r)(ha:PE X a ta)(hb:PE X b tb)(hm:zB5 op b=false):PT X (.Compare a [op] [b] pos) (aHX (tOp r ta tb)):=by
 intro pins s Z H Q I h;refine zIM (thn (ha pins s Z H _ I h) λ v s1 ⟨x,H1,I1,r1,q1⟩=>thn (hb pins s1 Z H1 _ I1 q1) λ u s2 ⟨y,H2,I2,r2,q2⟩=>
  thn (ho pins s2 Z H2 x y v u _ I2 r1 r2 q2) λ c s3 ⟨z,H3,I3,r3,k,e,q3⟩=>?_) hm
 subst e;cases r3;exact zCF ⟨H3,I3,q3⟩
def aHZ(r r':R2)(ta tb tc:TE):TE:=λ Z H Q=>ta Z H λ x H1=>tb Z H1 λ y H2=>r x y H2 λ z H3=>∃k,z= .bl k/\
 (if k=true then tc Z H3 λ w' H4=>r' y w' H4 Q else Q (.bl false) H3)
theorem aIP(ho:OpR X (zAs op) r)(ho':OpR X (zAs op') r')(ha:PE X a ta)(hb:PE X b tb)(hc:PE X c tc)
  (hm:zIK [op,op'] [b,c]=false:=by with_unfolding_all rfl):PE X (.Compare a [op,op'] [b,c] pos) (aHZ r r' ta tb tc):=by
 intro pins s Z H Q I h;refine Compare_chain (thn (ha pins s Z H _ I h) λ v s1 ⟨x,H1,I1,r1,q1⟩=>chain_link (thn (hb pins s1 Z H1 _ I1 q1) λ u s2 ⟨y,H2,I2,r2,q2⟩=>
  thn (ho pins s2 Z H2 x y v u _ I2 r1 r2 q2) λ d s3 ⟨z,H3,I3,r3,k,e,q3⟩=>?_)) hm
 subst e;cases r3;refine zCF ?_;cases k with
 |false=>exact ite_ff ⟨.bl false,H3,I3,rfl,q3⟩
 |true=>exact ite_tt (chain_last (thn (hc pins s3 Z H3 _ I3 q3) λ w' s4 ⟨z',H4,I4,r4,q4⟩=>ho' pins s4 Z H4 y z' u w' Q I4 r2 r4 q4))
def aOW(K:zAA)(x:V)(H:Hp)(k:Bool):Prop:=
 match x with
 | .non=>k=false
 | .bl b=>k=b
 | .int i=>k=(i !=0)
 | .str y=>y.length<=zAV/\k=((y.length:Int)!=0)
 | .byt y=>y.size<=zAV/\k=((y.size:Int)!=0)
 | .ref p=>(∃xs,SqL K H p xs/\k= !xs.isEmpty)\/(∃xs,SqT K H p xs/\k= !xs.isEmpty)\/∃kvs,H p=some (.dK kvs)/\k= !kvs.isEmpty
 |_=>False
theorem aEq(r:KV kvs vs):(!vs.isEmpty)= !kvs.isEmpty:=by
 cases r<;>rfl
theorem aAC(r:Vals xs its):(!its.toArray.isEmpty)= !xs.isEmpty:=by
 cases r<;>simp
theorem zf:(zAV:Nat)<2^63:=by rw[zBw];decide
theorem aM1:aPy X (λ x H Q=>∃k,aOW X.K x H k/\Q k H):=by
 intro pins s Z H x v Q I rx h;obtain⟨k,e,q⟩:=h;have hl:=zf;have hs:zAV=16777216:=zBw;cases x with
 |non=>
  cases rx;have e':k=false:=e;subst e';exact truthy_none ⟨H,I,q⟩
 |bl b=>
  cases rx;have e':k=b:=e;subst e';exact zCF ⟨H,I,q⟩
 |int i=>
  obtain⟨t,rfl⟩:=rx;have e':k=(i !=0):=e;subst e';exact PySem.P.truthy_int ⟨H,I,q⟩
 |str y=>
  obtain⟨t,rfl⟩:=rx;obtain⟨hy,e'⟩:y.length<=zAV/\k=((y.length:Int)!=0):=e;subst e';exact PySem.P.truthy_str (by omega) ⟨H,I.tok _,q⟩
 |byt y=>
  obtain⟨t,rfl⟩:=rx;obtain⟨hy,e'⟩:y.size<=zAV/\k=((y.size:Int)!=0):=e;subst e';exact PySem.W.truthy_bytes (by omega) ⟨H,I.tok _,q⟩
 |ref p=>
  cases rx;have e':(∃xs,SqL X.K H p xs/\k= !xs.isEmpty)\/(∃xs,SqT X.K H p xs/\k= !xs.isEmpty)\/∃kvs,H p=some (.dK kvs)/\k= !kvs.isEmpty:=e
  rcases e' with ⟨xs,hx,e'⟩|⟨xs,hx,e'⟩|⟨kvs,hx,e'⟩
  .subst e'
   obtain⟨its,r,pl,hz⟩:=I.list hx;have hlen:=r.length;exact wpAny_truthy_list pl.isList (by simp only[zAR];omega) ⟨H,I.tok _,by rw[aAC r];exact q⟩
  .subst e'
   obtain⟨its,r,pl,hz⟩:=I.tuple hx;have hlen:=r.length;exact truthy_tuple pl (by simp only[zAR];omega) ⟨H,I.tok _,by rw[aAC r];exact q⟩
  .subst e'
   obtain⟨hz,hS,vs,r,m⟩:kvs.length<=zAV/\(p==zC7)=false/\∃vs,KV kvs vs/\s.heap.DictOf (dW X.prog X.w) p vs:=I.hok p _ hx
   have hlen:kvs.length=vs.length:=zIR r;exact wpAny_truthy_dict hS m (by omega) ⟨H,I.tok _,by rw[aEq r];exact q⟩
 |_=>exact(show False from e).elim
theorem aIA(ha:PE X a ta)(he:∀whole,isTrue a X.env whole=(do let v <-whole;zGD a.pos;zEu [v] (truthy v))):
  PT X a (λ Z H Q=>ta Z H λ x H'=>∃k,aOW X.K x H' k/\Q k H'):=by
 intro pins s Z H Q I h;exact isTrue_plain (thn (ha pins s Z H _ I h) λ v s1 ⟨x,H1,I1,r1,q1⟩=>aM1 pins s1 Z H1 x v Q I1 r1 q1) (he _)
theorem vals1(r:Vals [x] us):∃u,us=[u]/\RelV x u:=by
 cases r with
 |cons r1 r2=>cases r2;exact⟨_,rfl,r1⟩
theorem vals2(r:Vals [x,y] us):∃u w',us=[u,w']/\RelV x u/\RelV y w':=by
 cases r with
 |cons r1 r2=>
  cases r2 with
  |cons r3 r4=>cases r4;exact⟨_,_,rfl,r1,r3⟩
theorem aGx(hc:X.calm=true):dj X (.builtin "max") (λ xs H Q=>∃i j,xs=[.int i,.int j]/\Q (.int (if j>i then j else i)) H):=by
 intro pins s Z H xs us Q I r h;obtain⟨i,j,rfl,q⟩:=h;obtain⟨u,w',rfl,⟨t,rfl⟩,⟨t',rfl⟩⟩:=vals2 r;refine max_two_ints (I.ok.hd hc) λ h' tk k=>⟨_,H,I.kept k,?_,q⟩
 by_cases hj:j>i
 .rw[if_pos hj,if_pos hj];exact⟨_,rfl⟩
 .rw[if_neg hj,if_neg hj];exact⟨_,rfl⟩
theorem aGw(hc:X.calm=true):dj X (.builtin "min") (λ xs H Q=>∃i j,xs=[.int i,.int j]/\Q (.int (if j<i then j else i)) H):=by
 intro pins s Z H xs us Q I r h;obtain⟨i,j,rfl,q⟩:=h;obtain⟨u,w',rfl,⟨t,rfl⟩,⟨t',rfl⟩⟩:=vals2 r;refine min_two_ints (I.ok.hd hc) λ h' tk k=>⟨_,H,I.kept k,?_,q⟩
 by_cases hj:j<i
 .rw[if_pos hj,if_pos hj];exact⟨_,rfl⟩
 .rw[if_neg hj,if_neg hj];exact⟨_,rfl⟩
end
structure aLr(h:Heap)(x dx C:Addr)(mA:Str->Option Value):Prop where
 obj:h.get? x=some (zCK C dx)
 ns:h.Ns1 dx mA
 ne:dx≠x
theorem aG7{h:Heap}{dx:Addr}{mA:Str->Option Value}(n:h.Ns1 dx mA):∃od,h.get? dx=some od/\∀name,zE5 name od=some (mA name):=by
 obtain⟨o,es,ep,ho,hd,hk,_,hm⟩:=n;refine⟨o,ho,λ name=>?_⟩;have e:=hm name;unfold nsFind findBy at e;rw[<-Array.find?_toList]at e;unfold zE5;rw[hd];dsimp only;split
 .rename_i y q
  rw[q]at e;exact congrArg some e
 .rename_i q
  rw[q]at e;have a:es.toList.any (·.refKey)=false:=by
   rw[zHe];intro y hy;obtain⟨z,t,hkey⟩:=hk y (Array.mem_toList_iff.mp hy);simp[DictEntry.refKey,hkey]
  have a':¬es.toList.any (·.refKey)=true:=by rw[a];exact zA5
  rw[if_neg a'];exact congrArg some e
theorem aLr.look(I:aLr h x dx C mA):∃od,zHk h x (zCK C dx) C (some od)/\∀name,zE5 name od=some (mA name):=
 let⟨od,ho,hl⟩:=aG7 I.ns
 ⟨od,⟨I.obj,rfl,rfl,ho⟩,hl⟩
section
variable{prog:zA3}{w:World}{A:zAj}{E:Value->zAH->Prop}{s:zAH}{K:zAA}{x dx C f:Addr}{mA:Str->Option Value}{name:Str}
theorem aJR(X:K.In s.heap)(I:aLr s.heap x dx C mA)(hg:zFG K C name=true)
  (hf:zBL K (.ref C) name=some (some (.ref f)))(ht:zIS K (.ref f)=true)(hv:mA name=none)(h:Q (.ref f,[.ref x]) s):
  wpAny (model prog w) A (getMethod (.ref x) name pl) Q E s:=by
 obtain⟨od,J,hl⟩:=I.look;exact PySem.W.method_fn X J (zGc hg).1 (zGc hg).2 hf (beq_iff_eq.mp ht) (by show(zE5 name od).map (·.isSome)=some false;rw[hl,hv];rfl) h
theorem make_map(X:K.In s.heap)(hm:PySem.W.makesIn K C=true)
  (hi:zBL K (.ref C) "__init__"=some (some (.ref f)))(hf:PySem.W.typeIn K (.ref f)=some (.type "function"))
  (h:zBs (model prog w) (A.under (.builtin "type.__call__" ⟨.ref C::vs,kw⟩)) (.call (.ref f) ⟨.ref (s.heap.objs.size+1)::vs,kw⟩) (PySem.W.InitBack (s.heap.objs.size+1) R)
   {s with heap:=(s.heap.push zBc).push (zCK C s.heap.objs.size)}):
  zBs (model prog w) A (.call (.ref C) ⟨vs,kw⟩) R s:=by
 obtain⟨hh,g,d,t,os⟩:=s;exact PySem.W.make_core (PySem.W.makes_of X hm) (zDW X hi) (λ self=>PySem.W.bind_fn X self hf) (.inl rfl) h
end
theorem vU.some_of(r:vU (some v) o):∃u,o=some u/\RelV v u:=by
 cases o with
 |none=>exact(show False from r).elim
 |some u=>exact⟨u,rfl,r⟩
theorem vU.none_of(r:vU none o):o=none:=by
 cases o with
 |none=>rfl
 |some u=>exact(show False from r).elim
section
variable{P:zA3}{w:World}{H:Hp}{h:Heap}{a C dx:Addr}{fs:List (Str×V)}
theorem yK(hok:HOk P w H h)(e:H a=some (.ins C dx fs)):∃mA,aLr h a dx C mA/\(∀f,vU (fs.lookup f) (mA f))/\zIb mA (fs.map (·.1))/\fs.length<=1000/\H dx=some (.own a):=by
 obtain⟨d,z,ne,ob,mA,n,r,q⟩:=(show cR P w H h a (.ins C dx fs)from hok a _ e);exact⟨mA,⟨ob,n,ne⟩,r,q,z,d⟩
end
structure Cls(K:zAA)(C:Addr):Prop where
 pg:zFG K C Str.empty=true
 hd:PySem.W.hasDictIn K C=true
 po:PySem.W.plainOver K C=true
 sa:zBL K (.ref C) "__setattr__"=some (some (.builtin "object.__setattr__"))
theorem Cls.get{K:zAA}{C:Addr}(c:Cls K C)(f:Str):zFG K C f=true:=c.pg
def aOX(K:zAA)(C:Addr)(f:Str):Prop:=zBL K (.ref C) f=some none
structure Meth(K:zAA)(C:Addr)(m:Str)(f:Addr):Prop where
 at_:zBL K (.ref C) m=some (some (.ref f))
 fn:zIS K (.ref f)=true
 kp:zB0 K (.ref f)=true
section
variable{X:Cx}{pins:List (Addr×Obj)}{Z:St}{H:Hp}{s:zAH}{a C dx:Addr}{fs:List (Str×V)}{A:zAj}{E:Value->zAH->Prop}
theorem aEu(I:Inv X pins Z H s)(e:H a=some (.ins C dx fs))(c:Cls X.K C)(k:Meth X.K C m g)(l:fs.lookup m=none)
  (h:Q (.ref g,[.ref a]) s):wpAny (model X.prog X.w) A (getMethod (.ref a) m pl) Q E s:=by
 obtain⟨mA,O,r,_,_,_⟩:=yK I.hok e;have hn:mA m=none:=vU.none_of (by rw[<-l];exact r m);exact aJR I.kIn O (c.get m) k.at_ k.fn hn h
theorem Inv.made(I:Inv X pins Z H s):Inv X pins Z (upd (upd H s.heap.objs.size (.own (s.heap.objs.size+1))) (s.heap.objs.size+1) (.ins C s.heap.objs.size []))
  {s with heap:=(s.heap.push zBc).push (zCK C s.heap.objs.size)}:=by
 have e1:(s.heap.push zBc).get? s.heap.objs.size=some zBc:=zAJ s.heap rfl;have e2:((s.heap.push zBc).push (zCK C s.heap.objs.size)).get? (s.heap.objs.size+1)=some (zCK C s.heap.objs.size):=by
  have:=zAJ (s.heap.push zBc) (o:=zCK C s.heap.objs.size) rfl
  rwa [zBE]at this
 have e3:(s.heap.push zBc).Ns s.heap.objs.size (λ _=>none):=⟨zBc,#[],_,e1,rfl,(λ e he=>absurd he (by simp)),λ _=>rfl⟩;have I1:=I.laid (a:=s.heap.objs.size) (o:=.own (s.heap.objs.size+1)) (h':=s.heap.push zBc) (t':=s.toks) (λ b u q=>zAC _ q) (zAP _) ⟨_,e1⟩;refine I1.laid (a:=s.heap.objs.size+1) (o:=.ins C s.heap.objs.size []) (t':=s.toks) (λ b u q=>zAC _ q) (zF6 (zBE _ _)) ?_;have ne:s.heap.objs.size≠s.heap.objs.size+1:=zAU (zBa _);refine⟨by rw[aX ne,aj],zAa _,ne,e2,λ _=>none,(Heap.Ns1.of_empty e3).at λ o q=>zAC _ q,λ _=>zDM,λ y hy=>absurd rfl hy⟩
end
def tFld(K:zAA)(ta:TE)(f:Str):TE:=λ Z H Q=>ta Z H λ x H1=>∃a C dx fs v,x= .ref a/\H1 a=some (.ins C dx fs)/\Cls K C/\aOX K C f/\fs.lookup f=some v/\Q v H1
section
variable{X:Cx}{e:Expr}{f:Str}{pos:Pos}
theorem methcall_of(he:PE X e te)(I:Inv X pins Z H s)
  (h:te Z H λ x H1=>∃a C dx fs g,x= .ref a/\H1 a=some (.ins C dx fs)/\Cls X.K C/\Meth X.K C m g/\fs.lookup m=none/\
   ∀s1,Inv X pins Z H1 s1->wpAny (model X.prog X.w) X.A (callWith pos (.ref g) [.ref a] (zC2 pos (zAX args X.env)) (zFc pos (zDs [] X.env))) Q X.xe s1)
  (ht:eval (.Call (.Attribute e m apos) args [] pos) X.env=(do
   let ov <-eval e X.env
   zGD apos.atName
   let(f,first) <-zEu [ov] (getMethod ov m pl)
   callWith pos f first (zC2 pos (zAX args X.env)) (zFc pos (zDs [] X.env)))):
  wpAny (model X.prog X.w) X.A (eval (.Call (.Attribute e m apos) args [] pos) X.env) Q X.xe s:=by
 refine PySem.W.methodCall_KW (pl:=pl) (thn (he pins s Z H _ I h) λ u s1 ⟨x,H1,I1,rx,a,C,dx,fs,g,ex,ea,c,k,l,q⟩=>?_) ht;subst ex;obtain rfl:u=zBC a:=rx;exact aEu I1 ea c k l (q s1 I1)
end
section
variable{X:Cx}{pins:List (Addr×Obj)}{Z:St}{H:Hp}{s:zAH}{A:zAj}{E:Value->zAH->Prop}{Q:Value->zAH->Prop}{c:Value}{b:Bool}
inductive wJ(K:zAA)(H:Hp):V->Value->Prop where
 |non:wJ K H .non (.type "NoneType")
 |bl (x:Bool):wJ K H (.bl x) (.type "bool")
 |int (i:Int):wJ K H (.int i) (.type "int")
 |str (x:Str):wJ K H (.str x) (.type "str")
 |flt (x:UInt64):wJ K H (.flt x) (.type "float")
 |lst {a:Addr} {xs:List V} (e:H a=some (.lst xs)):wJ K H (.ref a) (.type "list")
 |frz {a:Addr} {o:Obj} {xs:List V} (e:H a=some (.frz o (.lst xs))):wJ K H (.ref a) (.type "list")
 |tup {a:Addr} {xs:List V} (e:H a=some (.tup xs)):wJ K H (.ref a) (.type "tuple")
 |dK {a:Addr} {kvs:List (Key×V)} (e:H a=some (.dK kvs)):wJ K H (.ref a) (.type "dict")
 |dT {a:Addr} {kvs:List (List Key×V)} (e:H a=some (.dT kvs)):wJ K H (.ref a) (.type "dict")
 |ins {a C dx:Addr} {fs:List (Str×V)} (e:H a=some (.ins C dx fs)) (cl:Cls K C) (ha:zBL K (.ref C) "__class__"=some (some (.builtin "object.__class__")))
   (hn:PySem.W.specialIn K (.builtin "object.__class__") "__get__"=some (some (.builtin "getset_descriptor.__get__"))) (htk:PySem.W.takesIn K (.builtin "object.__class__")=some true)
   (hm:PySem.W.mroIn K C (.type "object")=some true):wJ K H (.ref a) (.ref C)
theorem aGh(I:Inv X pins Z H s)(rx:RelV x u)(ty:wJ X.K H x t)(e:zBt X.K t c=some b)(h:∀tk,Q (.bool b) {s with toks:=tk}):
  wpAny (model X.prog X.w) A (call (.builtin "isinstance") [u,c]) Q E s:=by
 cases ty with
 |non=>cases (show u=zBJ from rx);exact zBK PySem.W.kitx_none I.kIn zDM e (λ z=>nomatch z) h
 |bl y=>cases (show u=zC0 y from rx);exact zBK PySem.W.kitx_bool I.kIn zDM e (λ z=>nomatch z) h
 |int i=>obtain⟨t,q⟩:=(show∃t,u=zEY i t from rx);cases q;exact zBK PySem.W.kitx_int I.kIn zDM e (λ z=>nomatch z) h
 |str y=>obtain⟨t,q⟩:=(show∃t,u=zGf y t from rx);cases q;exact zBK PySem.W.kitx_str I.kIn zDM e (λ z=>nomatch z) h
 |flt y=>obtain⟨t,q⟩:=(show∃t,u=zIu y t from rx);cases q;exact zBK PySem.W.kitx_float I.kIn zDM e (λ z=>nomatch z) h
 |@lst a xs ea=>
  cases (show u=zBC a from rx);obtain⟨_,_,n,_,h1⟩:=(show cR X.prog X.w H s.heap a (.lst xs)from I.hok a _ ea);exact zBK zHF I.kIn ⟨_,h1,rfl⟩ e (λ z=>nomatch z) h
 |@frz a ob xs ea=>
  cases (show u=zBC a from rx);obtain⟨_,_,_,n,_,h1⟩:=(show cR X.prog X.w H s.heap a (.frz ob (.lst xs))from I.hok a _ ea);exact zBK zHF I.kIn ⟨_,h1,rfl⟩ e (λ z=>nomatch z) h
 |@tup a xs ea=>
  cases (show u=zBC a from rx);obtain⟨_,_,_,p⟩:=(show cR X.prog X.w H s.heap a (.tup xs)from I.hok a _ ea);obtain⟨o,h1,h2,_⟩:=p;exact zBK zGs I.kIn ⟨o,h1,h2⟩ e (λ z=>nomatch z) h
 |@dK a kvs ea=>
  cases (show u=zBC a from rx);obtain⟨_,_,vs,_,p⟩:=(show cR X.prog X.w H s.heap a (.dK kvs)from I.hok a _ ea);obtain⟨o,es,ep,h1,h2,_⟩:=p;exact zBK zEr I.kIn ⟨o,h1,h2.1⟩ e (λ z=>nomatch z) h
 |@dT a kvs ea=>
  cases (show u=zBC a from rx);obtain⟨_,_,xs,_,o,es,ep,h1,h2,_⟩:=(show cR X.prog X.w H s.heap a (.dT kvs)from I.hok a _ ea);exact zBK zEr I.kIn ⟨o,h1,h2.1⟩ e (λ z=>nomatch z) h
 |@ins a C dx fs ea cl ha hn htk hm=>
  cases (show u=zBC a from rx);obtain⟨mA,O,_⟩:=yK I.hok ea;obtain⟨od,J,_⟩:=O.look;exact zBK (PySem.W.kitx_own (cl.get _) cl.hd ha hn htk hm) I.kIn J e (λ z=>nomatch z) h
end
structure gJ(k:Nat)(A:zAj):Prop where
 hd:A.handled=none
 dp:A.depth+3*k+5<zFR
 un:A.units+16*k+200<cLine
theorem gJ.mono(r:gJ k A)(h:j<=k):gJ j A:=⟨r.hd,by have:=r.dp;omega,by have:=r.un;omega⟩
theorem gJ.deeper(r:gJ (k+1) A)(env:Env):gJ k (A.deeper env):=
 ⟨r.hd,by have:=r.dp;show A.depth+1+3*k+5<_;omega,by have:=r.un;show A.units+3+16*k+200<_;omega⟩
theorem gJ.depth(r:gJ k A):A.depth<zFR:=by have:=r.dp;omega
theorem gJ.units(r:gJ k A):A.units+64<cLine:=by have:=r.un;omega
theorem gJ.units0(r:gJ k A):A.units<cLine:=by have:=r.un;omega
def tG:TA:=λ _ H Q=>Q [] H
def jd(ta:TE)(tr:TA):TA:=λ Z H Q=>ta Z H λ x H1=>tr Z H1 λ xs H2=>Q (x::xs) H2
section
variable{X:Cx}{e:Expr}{es:List Expr}{te:TE}{t:TA}{pos:Pos}
theorem dY:PA X [] tG:=λ _ _ _ _ H Q I h=>Calls.spliced_nil ⟨[],H,I,.nil,h⟩
theorem ak(ha:PE X e te)(hr:PA X es t)(hs:zAX (e::es) X.env=(false,eval e X.env)::zAX es X.env:=by rfl):PA X (e::es) (jd te t):=by
 intro pos pins s Z H Q I h;rw[hs];show wpAny _ _ (spliced ((false,eval e X.env)::zC2 pos (zAX es X.env))) _ _ s;refine Calls.spliced_cons (thn (ha pins s Z H _ I h) λ u s1 ⟨x,H1,I1,r1,q1⟩=>?_);exact thn (hr pos pins s1 Z H1 _ I1 q1) λ us s2 ⟨xs,H2,I2,r2,q2⟩=>⟨x::xs,H2,I2,.cons r1 r2,q2⟩
def aP7(t:TA):TE:=λ Z H Q=>t Z H λ xs H1=>xs.length<=zAV/\∀p,H1 p=none->Q (.ref p) (upd H1 p (.tup xs))
def aPb(t:TA):TE:=λ Z H Q=>t Z H λ xs H1=>xs.length<=zAV/\∀p,H1 p=none->Q (.ref p) (upd H1 p (.lst xs))
theorem aNJ{x1}(h:PA X es t):PE X (.Tuple es x1 pos) (aP7 t):=by
 intro pins s Z H Q I hq;refine wpAny_Tuple_spliced (thn (h pos pins s Z H _ I hq) λ us s1 ⟨xs,H1,I1,r,z,q⟩=>⟨by rw[<-r.length];exact z,?_⟩);have hf:H1 s1.heap.objs.size=none:=I1.hok.fresh (zAP _);refine⟨.ref s1.heap.objs.size,upd H1 s1.heap.objs.size (.tup xs),I1.laid (t':=s1.toks) (λ b u e=>zAC _ e) (zAP _) ?_,rfl,q _ hf⟩;exact⟨⟨z,NoD.push _⟩,us,r,⟨_,zAJ _ rfl,rfl,_,rfl⟩⟩
theorem aNN(h:PA X es t):PE X (.List es pos) (aPb t):=by
 intro pins s Z H Q I hq;refine wpAny_List_spliced (thn (h pos pins s Z H _ I hq) λ us s1 ⟨xs,H1,I1,r,z,q⟩=>⟨by rw[<-r.length];exact z,?_⟩);have hf:H1 s1.heap.objs.size=none:=I1.hok.fresh (zAP _);refine⟨.ref s1.heap.objs.size,upd H1 s1.heap.objs.size (.lst xs),I1.laid (t':=s1.toks) (λ b u e=>zAC _ e) (zAP _) ?_,rfl,q _ hf⟩;exact⟨z,us,0,r,zAJ _ rfl⟩
end
abbrev Sp:=List V->Hp->VK->XK->Prop
abbrev CXT:=List Env->Hp->zAH->XK->Value->zAH->Prop
structure aDm(P:zA3)(w:World)(K:zAA)(mg:Str->Option Value)(base:Heap)(A:zAj)(outer:List Env)(s:zAH)(H:Hp):Prop where
 frames:A.frames=some outer
 mod:Mod K mg base
 bs:∀b o,base.get? b=some o->s.heap.get? b=some o/\H b=none
 bsz:base.objs.size<=s.heap.objs.size
 funs:s.heap.FunFrames base outer
 frf:∀b∈frs outer,H b=none
 hok:HOk P w H s.heap
 bare:zEo s.gens
def CE(outer:List Env)(P:zA3)(w:World)(H:Hp)(s:zAH)(Q:VK)(u:Value)(s':zAH):Prop:=
 ∃v H',s'.os=s.os/\zEo s'.gens/\Un (frs outer) [] H H' s.heap s'.heap/\HOk P w H' s'.heap/\RelV v u/\Q v H'
def CR(CX:CXT)(outer:List Env)(P:zA3)(w:World)(H:Hp)(s:zAH)(Q:VK)(E:XK)(r:zFO)(s':zAH):Prop:=
 match r with
 | .ok (.ret u)=>CE outer P w H s Q u s'
 | .ok _=>False
 | .error e=>CX outer H s E e s'
structure cP(P:zA3)(w:World)(K:zAA)(mg:Str->Option Value)(base:Heap)(CX:CXT)(k:Nat)(f:Addr)(fd:zAe)(ps:List Str)(sp:Sp):Prop where
 len:∀vs H Q E,sp vs H Q E->vs.length=ps.length
 run:∀(A:zAj) (outer:List Env) (s:zAH) (H:Hp) (args:Args) (us:List Value) (vs:List V) (Q:VK) (E:XK),gJ k A->aDm P w K mg base A outer s H->zHV s fd args (ps.zip us)->Vals vs us->sp vs H Q E->
  zBs (model P w) A (.call (.ref f) args) (CR CX outer P w H s Q E) s
section
variable{X:Cx}{pins:List (Addr×Obj)}{Z:St}{H:Hp}{s s':zAH}
theorem Inv.env0(I:Inv X pins Z H s):aDm X.prog X.w X.K X.mg X.base X.A X.stack s H:=
 ⟨I.ok.frames,I.ok.mod,I.bs,zAm I.ok.bsz I.sz,I.stack,I.stkFree,I.hok,I.bare⟩
theorem Inv.after(I:Inv X pins Z H s)(h:CE X.stack X.prog X.w H s Q u s'):EP X pins Z Q u s':=by
 obtain⟨v,H',os,bare,un,hok,r,q⟩:=h;obtain⟨hh,g,d,t,os'⟩:=s';obtain rfl:os'=s.os:=os;exact⟨v,H',I.call (h':=hh) (g':=g) (d':=d) (t':=t) (ch:=[]) un hok bare (λ b z=>absurd z (by simp)),r,q⟩
end
def aAs(sp:Sp)(dvs:List V)(E:XK)(t:TA):TE:=λ Z H Q=>t Z H λ vs H1=>sp (vs++dvs) H1 Q E
def tMeth(C:Addr)(m:Str)(sp:Sp)(dvs:List V)(E:XK)(ta:TE)(t:TA):TE:=λ Z H Q=>ta Z H λ x H1=>∃a dx fs,x= .ref a/\H1 a=some (.ins C dx fs)/\fs.lookup m=none/\
 t Z H1 λ vs H2=>sp (x::(vs++dvs)) H2 Q E
def tMake(C:Addr)(sp:Sp)(dvs:List V)(E:XK)(t:TA):TE:=λ Z H Q=>t Z H λ vs H1=>∀x dx,H1 x=none->H1 dx=none->dx≠x->
 sp (.ref x::(vs++dvs)) (upd (upd H1 dx (.own x)) x (.ins C dx [])) (λ v H2=>v= .non/\Q (.ref x) H2) E
def Binds(K:zAA)(fd:zAe)(ps:List Str)(ds:List Value):Prop:=
 ∀(s:zAH) (us:List Value),K.In s.heap->(us++ds).length=ps.length->zHV s fd ⟨us,[]⟩ (ps.zip (us++ds))
theorem Binds.all{K:zAA}{fd:zAe}{ps:List Str}(h:∀us:List Value,us.length=ps.length->zIc fd ⟨us,[]⟩=pure (ps.zip us)):Binds K fd ps []:=λ s us _ hl=>by
 rw[zAy]at hl ⊢;exact .of_eq (h us hl)
def uM(CX:CXT)(X:Cx)(E:XK):Prop:=∀(pins:List (Addr×Obj)) (Z:St) (H:Hp) (s:zAH) (e:Value) (s':zAH),Inv X pins Z H s->CX X.stack H s E e s'->X.xe e s'
section
variable{X:Cx}{CX:CXT}{k:Nat}{f:Addr}{fd:zAe}{ps:List Str}{sp:Sp}{dvs:List V}{ds:List Value}{E:XK}{x:Str}{p pos:Pos}{e:Expr}{es:List Expr}{t:TA}
theorem aEH(F:cP X.prog X.w X.K X.mg X.base CX k f fd ps sp)(hr:gJ k X.A)(hb:Binds X.K fd ps ds)(hd:Vals dvs ds)(hx:uM CX X E)
  (I:Inv X pins Z H s)(r:Vals vs us)(h:sp (vs++dvs) H Q E):wpAny (model X.prog X.w) X.A (call (.ref f) us) (EP X pins Z Q) X.xe s:=by
 have r2:Vals (vs++dvs) (us++ds):=r.append hd;have hl:(us++ds).length=ps.length:=by rw[<-r2.length];exact F.len _ _ _ _ h
 refine zHU (zDI (F.run X.A X.stack s H ⟨us,[]⟩ (us++ds) (vs++dvs) Q E hr I.env0 (hb s us I.kIn hl) r2 h) λ r s' hq=>?_);cases r with
 |error e=>exact hx pins Z H s e s' I hq
 |ok fl=>
  cases fl with
  |ret u=>exact I.after hq
  |next=>exact zAQ hq
  |brk=>exact zAQ hq
  |cont=>exact zAQ hq
theorem aKi(F:cP X.prog X.w X.K X.mg X.base CX k f fd ps sp)(hr:gJ k X.A)(hg:Gl X x)(hm:X.mg x=some (.ref f))(hk:zB0 X.K (.ref f)=true)(hb:Binds X.K fd ps ds)(hd:Vals dvs ds)(hx:uM CX X E)
  (ha:PA X (e::es) t)(hdb:(x==("__debug__":Str))=false:=by decide)(he:zAX (e::es) X.env=(false,eval e X.env)::zAX es X.env:=by rfl)(hpl:(zC2 pos (zAX es X.env)).any (·.1)=false:=by rfl):
  PE X (.Call (.Name x p) (e::es) [] pos) (aAs sp dvs E t):=by
 intro pins s Z H Q I h;refine zBe (qw I hg hm ?_ hdb);refine zDa (h₀:=X.base) I.ok.mod.kin hk (thn (ha pos pins s Z H _ I h) λ us s1 ⟨vs,H1,I1,r,q⟩=>⟨I1.kIn,?_⟩) he hpl;exact aEH F hr hb hd hx I1 r q
end
structure aY(N P:List Str)(sc:Scope):Prop where
 kind:sc.kind= .function
 co:sc.isCoroutine=false
 gen:sc.isGenerator=false
 nd:N.Nodup
 pre:N.take P.length=P
 par:∀x∈P,sc.names.lookup x=some .local\/sc.names.lookup x=some .cell
 nofree:∀y∈sc.names,y.2≠.free
theorem aB4{zEc:Str->Option zDh}{x:Str}:∀{binds:List (Str×Value)} {m:Str->Option Value},(∀v,(x,v)∉binds)->bindL zEc binds m x=m x
 |[],_,_=>rfl
 |(n,v)::r,m,h=>by
  unfold bindL;rw[aB4 λ w hw=>h w (zAM _ hw)];split
  .have:x≠n:=by rintro rfl;exact h v zAK
   simp[this]
  .rfl
theorem aB6{zEc:Str->Option zDh}{x:Str}:∀{binds:List (Str×Value)} {m:Str->Option Value},(∀v,(x,v)∉binds)->bindC zEc binds m x=m x
 |[],_,_=>rfl
 |(n,v)::r,m,h=>by
  unfold bindC;rw[aB6 λ w hw=>h w (zAM _ hw)];split
  .rfl
  .have:x≠n:=by rintro rfl;exact h v zAK
   simp[this]
theorem aB5{zEc:Str->Option zDh}{x:Str}{v:Value}:∀{P:List Str} {vs:List Value} {i:Nat} {m:Str->Option Value},P.Nodup->P[i]? =some x->vs[i]? =some v->zEc x=some .local->
  bindL zEc (P.zip vs) m x=some v
 |[],_,_,_,_,h,_,_=>by simp at h
 |_::_,[],_,_,_,_,h,_=>by simp at h
 |p::P,w::vs,0,m,nd,h1,h2,hk=>by
  simp at h1 h2;subst h1;subst h2;show bindL zEc ((p,w)::P.zip vs) m p=_;unfold bindL;rw[aB4 λ v hv=>(zBH.mp nd).1 (zDB hv).1,if_pos hk];simp
 |p::P,w::vs,i+1,m,nd,h1,h2,hk=>by
  show bindL zEc ((p,w)::P.zip vs) m x=_;unfold bindL;exact aB5 (i:=i) (zBH.mp nd).2 (by simpa using h1) (by simpa using h2) hk
theorem aB7{zEc:Str->Option zDh}{x:Str}{v:Value}:∀{P:List Str} {vs:List Value} {i:Nat} {m:Str->Option Value},P.Nodup->P[i]? =some x->vs[i]? =some v->zEc x≠some .local->
  bindC zEc (P.zip vs) m x=some v
 |[],_,_,_,_,h,_,_=>by simp at h
 |_::_,[],_,_,_,_,h,_=>by simp at h
 |p::P,w::vs,0,m,nd,h1,h2,hk=>by
  simp at h1 h2;subst h1;subst h2;show bindC zEc ((p,w)::P.zip vs) m p=_;unfold bindC;rw[aB6 λ v hv=>(zBH.mp nd).1 (zDB hv).1,if_neg hk];simp
 |p::P,w::vs,i+1,m,nd,h1,h2,hk=>by
  show bindC zEc ((p,w)::P.zip vs) m x=_;unfold bindC;exact aB7 (i:=i) (zBH.mp nd).2 (by simpa using h1) (by simpa using h2) hk
def start(N:List Str)(vs:List V):St:=vs.map some++zA6 (N.length-vs.length) none
def xr(CX:CXT)(P:zA3)(w:World)(K:zAA)(mg:Str->Option Value)(base:Heap)(N:List Str)(qual:Str)(scope:Scope)(f:Addr)(cd:Value)(A:zAj)(outer:List Env)(s:zAH)(H:Hp)(E:XK):Cx where
 prog:=P
 w:=w
 K:=K
 mg:=mg
 base:=base
 A:=A.deeper (zCv qual scope s.heap.objs.size f cd)
 N:=N
 z0:=s
 zI:=H
 env:=zCv qual scope s.heap.objs.size f cd
 outer:=outer
 stack:=zCv qual scope s.heap.objs.size f cd::outer
 ex:=[]
 calm:=true
 fn:=λ _=>true
 pn:=[]
 xe:=λ e s'=>wpAny (model P w) (A.deeper (zCv qual scope s.heap.objs.size f cd)) (leaving (zCv qual scope s.heap.objs.size f cd) e) (λ _ s''=>CX outer H s E e s'') (λ e' s''=>CX outer H s E e' s'') s'
theorem vJ{sc:Scope}{n:Nat}{x:Str}(h:sc.names.lookup x=some .cell):∃c,(zCu n sc.names []).lookup x=some c:=by
 have q:=zDC sc.names n [] (.inl h);exact Option.isSome_iff_exists.mp q
theorem wA{CX:CXT}{P:zA3}{w:World}{K:zAA}{mg:Str->Option Value}{base:Heap}{N ps:List Str}{qual:Str}{scope:Scope}{f:Addr}{cd:Value}{A:zAj}{outer:List Env}{s s1:zAH}{H:Hp}{E:XK}{us:List Value}{vs:List V}
  (S:aY N ps scope)(hd:A.handled=none)(e0:aDm P w K mg base A outer s H)(hl:vs.length=ps.length)(r:Vals vs us)
  (x:InCallC s s.heap.objs.size (bindL (zCv qual scope s.heap.objs.size f cd).kindOf (ps.zip us) λ _=>none) (zCu (s.heap.objs.size+1) scope.names []) (bindC (zCv qual scope s.heap.objs.size f cd).kindOf (ps.zip us) λ _=>none) s1):
  Inv (xr CX P w K mg base N qual scope f cd A outer s H E) [] (start N vs) H s1:=by
 have hpl:ps.length<=N.length:=by have:=congrArg zFk S.pre;rw[zB2]at this;omega
 obtain⟨h1,tk,rfl,hk⟩:=x.done;have noA:∀b:Addr,b∉(xr CX P w K mg base N qual scope f cd A outer s H E).ex:=λ b z=>absurd (show b∈([]:List Addr)from z) (by simp)
 refine⟨⟨e0.mod,S.kind,rfl,rfl,zAP _,λ y z c h1 h2=>?_,λ y hy=>?_,λ y c _ h=>?_,λ _=>hd,zG8 e0.frames,.inr ⟨rfl,rfl⟩,λ b z=>absurd z (noA b),e0.bs,e0.bsz,λ b _ _=>noA b,λ b z=>absurd z (noA b),e0.funs,e0.frf⟩,
  rfl,e0.bare,Un.kept hk,⟨_,x.toInCall.ns,λ i y v h1 h2 h3=>?_⟩,λ y c h=>⟨_,x.cell y c h⟩,e0.hok.fresh (zAP _),λ y c h=>?_,λ p hp=>absurd (show p∈([]:List (Addr×Obj))from hp) (by simp),e0.hok.kept hk,?_,λ p hp=>absurd (show p∈([]:List (Addr×Obj))from hp) (by simp)⟩
 .exact name_of_addr x.apart (zAi h1) (zAi h2)
 .have hy:scope.names.lookup y=some .cell\/scope.names.lookup y=some .free:=hy
  rcases hy with hy|hy
  .exact vJ hy
  .exact absurd rfl (S.nofree _ (zAi hy))
 .exact zBm (x.above y c (zAi h))
 .have hi:i<vs.length:=by
   unfold start at h2;by_cases hi:i<vs.length
   .exact hi
   .rw[zDe (by simpa using hi)]at h2
    rw[zDA]at h2;split at h2<;>cases h2
  have ha:vs[i]? =some v:=by
   unfold start at h2;rw[zCj (by simpa using hi),zAT]at h2;cases e:vs[i]? with
   |none=>rw[e]at h2;cases h2
   |some a=>rw[e]at h2;cases h2;rfl
  obtain⟨u,hu,rv⟩:=r.get ha;have hp:ps[i]? =some y:=by
   rw[<-S.pre,List.getElem?_take_of_lt (by omega)];exact h1
  have ndP:ps.Nodup:=by rw[<-S.pre];exact S.nd.sublist (List.take_sublist _ _)
  refine⟨u,rv,?_⟩;rcases S.par y (zAw hp)with k|k
  .exact .inl ⟨k,aB5 ndP hp hu k⟩
  .obtain⟨c,e⟩:=vJ (n:=s.heap.objs.size+1) k
   refine .inr ⟨.inl k,c,e,?_⟩;have q:=x.cell y c e;rw[aB7 ndP hp hu (by show scope.names.lookup y≠_;rw[k];decide)]at q;exact q
 .exact e0.hok.fresh (zBm (x.above y c (zAi h)))
 .unfold start
  show _=N.length;rw[zA1,zAF,zC6];omega
theorem aPR{CX:CXT}{P:zA3}{w:World}{K:zAA}{mg:Str->Option Value}{base:Heap}{k:Nat}{f:Addr}{name qual:Str}{params:zDN}{body:List Stmt}{scope:Scope}{dV kV doc pm cdv ct oc:Value}{an od:Option Addr}
  {osl:Array (Option Value)}{N ps:List Str}{sp:Sp}(lk:K.lookup f=some ⟨oc,od,.func (zBk name qual params body scope dV kV doc pm an cdv ct),osl⟩)(hcd:zDH K cdv qual=true)(S:aY N ps scope)
  (len:∀vs H Q E,sp vs H Q E->vs.length=ps.length)
  (hbody:∀(A:zAj) (outer:List Env) (s:zAH) (H:Hp) (vs:List V) (Q:VK) (E:XK),gJ k (A.deeper (zCv qual scope s.heap.objs.size f cdv))->sp vs H Q E->
   ∃t,PSs (xr CX P w K mg base N qual scope f cdv A outer s H E) body t/\t {nx:=λ _ H'=>Q .non H',rt:=Q} (start N vs) H):
  cP P w K mg base CX (k+1) f (zBk name qual params body scope dV kV doc pm an cdv ct) ps sp:=by
 refine⟨len,λ A outer s H args us vs Q E hr e0 hb r hsp=>?_⟩;have hl:=len _ _ _ _ hsp;have KX:K.In s.heap:=e0.mod.kin.keeps λ b o e=>(e0.bs b o e).1
 have lim:s.heap.NoLimit:=e0.mod.nolimit.keeps λ b o e=>(e0.bs b o e).1
 have hkind:∀y∈ps.zip us,scope.names.lookup y.1=some .local\/(scope.names.lookup y.1=some .cell/\((zCu (s.heap.objs.size+1) scope.names []).lookup y.1).isSome=true):=λ⟨n,v⟩ hy=>by
  rcases S.par n (zDB hy).1 with q|q
  .exact .inl q
  .exact .inr ⟨q,zDC _ _ _ (.inl q)⟩
 refine zEt hr.depth (KX _ _ lk) rfl S.co S.gen rfl (zEl KX hcd) (hb _ _ _ _ ?_);refine zEE S.kind hkind λ env he s1 x=>?_
 subst he;refine⟨lim.keeps x.toInCall.keep,zII ?_⟩;obtain⟨t,ht,hq⟩:=hbody A outer s H vs Q E (hr.deeper _) hsp;have I:Inv (xr CX P w K mg base N qual scope f cdv A outer s H E) [] (start N vs) H s1:=wA S hr.hd e0 hl r x;refine zAz (ht [] s1 (start N vs) H _ I hq) (λ fl s' hs=>?_) λ e s' hs=>hs
 have fin:∀{Z':St} {H':Hp} {v:V} {u:Value},Inv (xr CX P w K mg base N qual scope f cdv A outer s H E) [] Z' H' s'->RelV v u->Q v H'->CE outer P w H s Q u s':=
  λ{Z' H' v u} J rv q=>⟨v,H',J.os,J.bare,J.base,J.hok,rv,q⟩
 cases fl with
 |ret u=>
  obtain⟨v,Z',H',J,rv,q⟩:=hs;exact fin J rv q
 |next=>
  obtain⟨Z',H',J,q⟩:=hs;exact fin (v:=V.non) (u:=zBJ) J rfl q
 |brk=>
  obtain⟨_,_,_,q⟩:=hs;exact zAQ q
 |cont=>
  obtain⟨_,_,_,q⟩:=hs;exact zAQ q
section
variable{X:Cx}{x:Str}{p pos:Pos}{e:Expr}{es:List Expr}{t:TA}{id T:String}{r:List V->Hp->VK->Prop}
def tCB(r:List V->Hp->VK->Prop)(t:TA):TE:=λ Z H Q=>t Z H λ vs H1=>r vs H1 Q
theorem pZ(hc:dj X (.builtin id) r)(hg:Gl X x)(hm:X.mg x=none)(hv:zAt x=some (.builtin id))(ha:PA X (e::es) t)(hn:x≠"__name__":=by decide)(hdb:(x==("__debug__":Str))=false:=by decide)
  (he:zAX (e::es) X.env=(false,eval e X.env)::zAX es X.env:=by rfl)(hpl:(zC2 pos (zAX es X.env)).any (·.1)=false:=by rfl):PE X (.Call (.Name x p) (e::es) [] pos) (tCB r t):=by
 intro pins s Z H Q I h;refine zBe (uD I hg hm hv ?_ hn hdb);exact PyProof.Rows.callWith_builtin1 (thn (ha pos pins s Z H _ I h) λ us s1 ⟨vs,H1,I1,r1,q1⟩=>hc pins s1 Z H1 vs us Q I1 r1 q1) he hpl
theorem jw(hc:dj X (.type T) r)(hg:Gl X x)(hm:X.mg x=none)(hv:zAt x=some (.type T))(ha:PA X (e::es) t)(hn:x≠"__name__":=by decide)(hdb:(x==("__debug__":Str))=false:=by decide)
  (he:zAX (e::es) X.env=(false,eval e X.env)::zAX es X.env:=by rfl)(hpl:(zC2 pos (zAX es X.env)).any (·.1)=false:=by rfl):PE X (.Call (.Name x p) (e::es) [] pos) (tCB r t):=by
 intro pins s Z H Q I h;refine zBe (uD I hg hm hv ?_ hn hdb);exact zBq (thn (ha pos pins s Z H _ I h) λ us s1 ⟨vs,H1,I1,r1,q1⟩=>hc pins s1 Z H1 vs us Q I1 r1 q1) he hpl
end
end L2
namespace HT
open PySem PyProof.Rows
def lexLt:List Int->List Int->Bool
 |[],[]=>false
 |[],_::_=>true
 |_::_,[]=>false
 |x::xs,y::ys=>if x=y then lexLt xs ys else decide (x<y)
theorem lQ(x y:Int)(xs ys:List Int):lexLt (x::xs) (y::ys)=if x=y then lexLt xs ys else decide (x<y):=rfl
theorem aAe:lexLt [] []=false:=rfl
theorem zg(y:Int)(ys:List Int):lexLt [] (y::ys)=true:=rfl
theorem zm(x:Int)(xs:List Int):lexLt (x::xs) []=false:=rfl
theorem aD4(A:zAj)(s:zAH)(a:Int)(t:Tok)(c:Int)(u:Tok):∃e,zDr A s (.int a t) (.int c u) e/\(e=true↔a=c):=
 ⟨(a==c),zGT a t c u,by simp⟩
theorem aHo(A:zAj)(s:zAH)(a:Int)(t:Tok)(c:Int)(u:Tok)(prog:zA3)(w:World)(E:Value->zAH->Prop)(Q:Value->zAH->Prop)(h:Q (.bool (decide (a<c))) s):
  wpAny (model prog w) A (richCompare .Lt (.int a t) (.int c u)) Q E s:=
 (zFo h:wpAny (model prog w) A (zAs .Lt (.int a t) (.int c u)) Q E s)
section
open PySem.SeqAt
open PySem.AutoSeq1(wpAny_loadPart')
open PySem.MeetsSeq PySem.MeetsSeq2 PySem.MeetsSeq3
theorem aA1(l b:Addr)(items items2:Array Value)(n n2:Nat)(dd dd2:Option Addr)(sl sl2:Array (Option Value))(ns ms:List Int)(hi:zBS items.toList ns)(hj:zBS items2.toList ms):
  Meets (zCN.«tuple.__lt__» ⟨[.ref l,.ref b],[]⟩)
   (λ _ R s=>s.heap.get? l=some {cls:=.type "tuple",dict:=dd,data:=.seq items n,slots:=sl}/\s.heap.get? b=some {cls:=.type "tuple",dict:=dd2,data:=.seq items2 n2,slots:=sl2}/\
    R (.ok (.ret (.bool (lexLt ns ms)))) s):=
 .of_wp λ prog w A R s h=>by
  obtain⟨hp,g,d,tk,os⟩:=s;obtain⟨hl,hb,h⟩:=h;have f2:=zF8;have z1:items.size=ns.length:=by rw[<-hi.length];simp
  have z2:items2.size=ms.length:=by rw[<-hj.length];simp
  wp_walk using zCH hl,zCH hb,zGZ _ (λ rest b s'=>b.1=none/\s'=⟨hp,g,d,tk,os⟩/\∃(vs ws:List Value) (ns' ms':List Int),rest=vs.zip ws/\
   zBS vs ns'/\zBS ws ms'/\ns'.length+items2.size=ms'.length+items.size/\R (.ok (.ret (.bool (lexLt ns' ms')))) ⟨hp,g,d,tk,os⟩) _
  case turn=>
   rintro⟨y,x⟩ rest b s' ⟨hb',rfl,vs,ws,ns',ms',hz,hvi,hwi,hlen,hR⟩;cases hvi with
   |nil=>rw[zHh]at hz;cases hz
   |cons a t hvi'=>
    cases hwi with
    |nil=>rw[zH1]at hz;cases hz
    |cons c u hwi'=>
     rw[zBP]at hz;injection hz with hyx hrest
     injection hyx with hy hx
     subst hy hx;rw[lQ]at hR;simp only[zA9]at hlen;obtain⟨e,he,hiff⟩:=aD4 A.in1 ⟨hp,g,d,tk,os⟩ a t c u;refine zAB (he prog w _ _ ?_);cases e with
     |true=>
      rw[if_pos (hiff.mp rfl)]at hR;wp_walk;exact⟨rfl,rfl,_,_,_,_,hrest,hvi',hwi',by omega,hR⟩
     |false=>
      rw[if_neg (λ q=>absurd (hiff.mpr q) zA5)]at hR;have hri:=aHo A.in1 ⟨hp,g,d,tk,os⟩ a t c u prog w;wp_walk using hri;exact⟨_,rfl,by simpa using hR⟩
  case fin=>
   rintro⟨b1,b2⟩ s' ⟨hb',rfl,vs,ws,ns',ms',hz,hvi,hwi,hlen,hR⟩;simp only at hb';subst hb';have hv:lexLt ns' ms'=decide (items.size<items2.size):=by
    cases hvi with
    |nil=>
     cases hwi with
     |nil=>
      simp only[zBN]at hlen;rw[aAe];exact(decide_eq_false (by omega)).symm
     |cons c u hw=>
      simp only[zBN,zA9]at hlen;rw[zg];exact(decide_eq_true (by omega)).symm
    |cons a t hv=>
     cases hwi with
     |nil=>
      simp only[zBN,zA9]at hlen;rw[zm];exact(decide_eq_false (by omega)).symm
     |cons c u hw=>
      rw[zBP]at hz;cases hz
   rw[hv]at hR;wp_walk;exact⟨_,rfl,by simpa[zET]using hR⟩
  case h=>
   exact⟨rfl,rfl,items.toList,items2.toList,ns,ms,rfl,hi,hj,by omega,h⟩
end
section
variable{prog:zA3}{w:World}{A:zAj}{E:Value->zAH->Prop}{s:zAH}
theorem aE9(hl:IsTup s.heap l items)(hb:IsTup s.heap b items2)(hi:zBS items.toList ns)(hj:zBS items2.toList ms)
  (hu:A.units<cLine)(h:Q (.bool (lexLt ns ms)) s):wpAny (model prog w) A (zAs .Lt (.ref l) (.ref b)) Q E s:=by
 obtain⟨⟨cls,dd,data,sl⟩,ho,hc,n,hd⟩:=id hl;obtain⟨⟨cls2,dd2,data2,sl2⟩,ho2,hc2,n2,hd2⟩:=id hb;simp only at hc hd hc2 hd2;subst hc hd hc2 hd2;exact zHp (op:=.Lt) ⟨_,ho,rfl⟩ ⟨_,ho2,rfl⟩ PySem.F.slot_tuple_lt PySem.F.entry_tuple_lt (PySem.F.args_tuple_lt_2 _ _) (aA1 l b items items2 n n2 dd dd2 sl sl2 ns ms hi hj)
  ⟨ho,ho2,show zC0 (lexLt ns ms)≠zGv/\Q (.bool (lexLt ns ms)) s from⟨(λ x=>nomatch x),h⟩⟩ hu
theorem aLh(ht:IsTup s.heap t vs.toArray)(hb:IsTup s.heap b ws.toArray)(hv:vs≠[])
  (h1:ws=[]->Q (.ref t) s)(h2:ws≠[]->Q (.ref s.heap.objs.size) {s with heap:=s.heap.push {cls:=.type "tuple",data:=.seq (vs++ws).toArray}})
  (hsz:vs.length+ws.length<=zAV):wpAny (model prog w) A (zCU .Add (.ref t) (.ref b)) Q E s:=by
 obtain⟨⟨cls,dd,data,sl⟩,ho,hc,n,hd⟩:=id ht;obtain⟨⟨cls2,dd2,data2,sl2⟩,ho2,hc2,n2,hd2⟩:=id hb;simp only at hc hd hc2 hd2;subst hc hd hc2 hd2;have e:vs.toArray++ws.toArray=(vs++ws).toArray:=by simp
 by_cases hw:ws=[]
 .exact zIJ ⟨_,ho,rfl⟩ ⟨_,ho2,rfl⟩ zGX zHa zED zDq (zDi _ _)
   (tuple_addW1 t b vs.toArray ws.toArray n n2 dd dd2 sl sl2 (by simpa using hv) (by simp[hw])) ⟨ho,ho2,h1 hw⟩
 .refine zIJ ⟨_,ho,rfl⟩ ⟨_,ho2,rfl⟩ zGX zHa zED zDq (zDi _ _)
   (tuple_addW2 t b vs.toArray ws.toArray n n2 dd dd2 sl sl2 (by simpa using hv) (by simpa using hw) (by rw[zAR,zAR];exact hsz)) ⟨ho,ho2,?_⟩
  rw[e];exact h2 hw
def sIx(n d:Nat):Option Int->Nat
 |none=>d
 |some v=>if v<0 then(v+(n:Int)).toNat else min v.toNat n
theorem aMn(n d:Nat)(hd:d<=n)(o:Option Int):sIx n d o<=n:=by
 cases o with
 |none=>exact hd
 |some v=>
  show(if v<0 then(v+(n:Int)).toNat else min v.toNat n)<=n
  by_cases hv:v<0
  .rw[if_pos hv];omega
  .rw[if_neg hv];exact Nat.min_le_right _ _
theorem aFy(v:Int)(n d:Nat):(if v<0 then max (v+(n:Int)) 0 else min v (n:Int))=((sIx n d (some v):Nat):Int):=by
 show(if v<0 then max (v+(n:Int)) 0 else min v (n:Int))=(((if v<0 then(v+(n:Int)).toNat else min v.toNat n):Nat):Int)
 by_cases hv:v<0
 .simp only[if_pos hv];omega
 .simp only[if_neg hv];omega
theorem aFF(lo hi:Option Int)(n:Nat):zB9 lo hi 1 (n:Int)=(((sIx n 0 lo:Nat):Int),((sIx n n hi:Nat):Int)):=by
 have h1:¬((1:Int)<0):=by omega
 unfold zB9;simp only[h1,if_false];refine zG5 ?_ ?_
 .cases lo with
  |none=>rfl
  |some v=>exact aFy v n 0
 .cases hi with
  |none=>rfl
  |some v=>exact aFy v n n
theorem aEW(i j:Nat):zBI (i:Int) (j:Int) 1=j-i:=by
 unfold zBI;have h1:(1:Int)>0:=by omega
 simp only[h1,if_true,Int.ediv_one];split<;>omega
theorem yo(p:zGI v o)(h:Q o s):wpAny (model prog w) A (zIk v) Q E s:=by
 cases p with
 |none=>exact zFS h
 |int i t=>exact slicePart_int h
theorem nH{sl:Addr}{vl vu:Value}{lo hi:Option Int}{n:Nat}{Q:Int×Int×Nat->zAH->Prop}(hs:s.heap.IsSliceOf sl vl vu .none)(pl:zGI vl lo)(pu:zGI vu hi)
  (h:Q (((sIx n 0 lo:Nat):Int),1,sIx n n hi-sIx n 0 lo) s):wpAny (model prog w) A (zCX (.ref sl) (pure (n:Int))) Q E s:=by
 obtain⟨os,hos,hcs,hds⟩:=id hs;unfold zCX zEp;refine zAB (zAB (zBX hos hds (x:=vl) rfl (zAB (zBX hos hds (x:=vu) rfl (zAB (zBX hos hds (x:=.none) rfl (zAE ?_)))))));refine zAB (zFS ?_);show wpAny _ _ (if ((1:Int)==0)=true then _ else _) _ _ s;rw[if_neg (by decide)];refine zAB (yo pl (zAB (yo pu (zAB (zAE ?_)))));show wpAny _ _ (match zB9 lo hi 1 (n:Int)with|(lo,hi)=>pure (lo,(1:Int),zBI lo hi 1)) _ _ s;rw[aFF lo hi n];show wpAny _ _ (pure (((sIx n 0 lo:Nat):Int),(1:Int),zBI ((sIx n 0 lo:Nat):Int) ((sIx n n hi:Nat):Int) 1)) _ _ s;rw[aEW];exact zAE h
theorem aII(xs:Array Value)(i k:Nat):((zAb k).filterMap λ(m:Nat)=>xs[((i:Int)+(m:Int)*1).toNat]?).toArray=((xs.toList.drop i).take k).toArray:=by
 have e:(λ(m:Nat)=>xs[((i:Int)+(m:Int)*1).toNat]?)=λ m=>xs[i+m]?:=by
  funext m
  have:((i:Int)+(m:Int)*1).toNat=i+m:=by omega
  rw[this]
 rw[e]
 have:=pick_run xs i k
 rw[List.filterMap_map]at this;have e2:((λ x=>xs[x]?)∘λ x=>i+x)=λ m=>xs[i+m]?:=rfl
 rw[e2]at this;rw[this]
theorem uo{t sl:Addr}{items:Array Value}{vl vu:Value}{lo hi:Option Int}{Q:Value->zAH->Prop}(ht:IsTup s.heap t items)(hs:s.heap.IsSliceOf sl vl vu .none)(pl:zGI vl lo)(pu:zGI vu hi)
  (hw:¬(sIx items.size 0 lo=0/\sIx items.size items.size hi=items.size))
  (h:Q (.ref s.heap.objs.size) {s with heap:=s.heap.push {cls:=.type "tuple",data:=.seq ((items.toList.drop (sIx items.size 0 lo)).take (sIx items.size items.size hi-sIx items.size 0 lo)).toArray}})
  (hsz:items.size<=zAV):wpAny (model prog w) A (zEP (.ref t) (.ref sl)) Q E s:=by
 have htake:sizeOk (.seq ((items.toList.drop (sIx items.size 0 lo)).take (sIx items.size items.size hi-sIx items.size 0 lo)).toArray):=by
  show((items.toList.drop (sIx items.size 0 lo)).take (sIx items.size items.size hi-sIx items.size 0 lo)).toArray.size<=zAV
  rw[zAR,zB2,zBp,zA7];omega
 have hj:sIx items.size items.size hi<=items.size:=aMn _ _ (zAP _) hi;obtain⟨os,hos,hcs,hds⟩:=id hs;have hTs:s.TypeIs (.ref sl) "slice":=⟨os,hos,hcs⟩;unfold zEP
 try with_reducible refine zBo ?_
 first|refine zAB (zAE ?_)|skip
 refine zAB (zGE ht.typeIs (by decide) ?_);refine zAB (zBF (name:=zCT "__getitem__") ht.typeIs zAx
  (zBO zAx ht.typeIs zFX ?_ (zFb _ _)))
 show wpAny _ _ (zDO (.ref t)>>=_) _ _ s;refine zAB (zHb ht ?_);refine zAB (zD5 hTs ?_);rw[if_pos (by decide)];refine zAB (nH hs pl pu ?_);have hno:¬((((sIx items.size 0 lo:Nat):Int)==0&&(1:Int)==1&&(sIx items.size items.size hi-sIx items.size 0 lo)==items.size)=true):=by
  intro q;rw[zAN,zAN]at q;have q1:((sIx items.size 0 lo:Nat):Int)=0:=zDQ q.1.1;have q2:sIx items.size items.size hi-sIx items.size 0 lo=items.size:=zDQ q.2;exact hw ⟨by omega,by omega⟩
 show wpAny _ _ (if (((sIx items.size 0 lo:Nat):Int)==0&&(1:Int)==1&&(sIx items.size items.size hi-sIx items.size 0 lo)==items.size)=true then _ else _) _ _ s;rw[if_neg hno,aII]
 first
  |exact zAB (m:=zBM _) (zAv (zAE ⟨_,rfl,zAE h⟩) htake)
  |exact zAB (m:=zBM _) (zAv (zAB (zAE (zAE ⟨_,rfl,zAE h⟩))) htake)
  |exact zAB (zAB (m:=zBM _) (zAv (zAE (zAE ⟨_,rfl,zAE h⟩)) htake))
  |exact zAB (zAB (m:=zBM _) (zAv (zAE ⟨_,rfl,zAE h⟩) htake))
end
end HT
namespace L2
open PySem PySem.Spec PyProof.Rows
abbrev TO:=St->Hp->(Option Int->Hp->Prop)->Prop
def PO(X:Cx)(e:Option Expr)(t:TO):Prop:=
 ∀(pins:List (Addr×Obj)) (s:zAH) (Z:St) (H:Hp) (Q:Option Int->Hp->Prop),Inv X pins Z H s->t Z H Q->
  wpAny (model X.prog X.w) X.A (evalPart e X.env) (λ u s'=>∃o H',Inv X pins Z H' s'/\zGI u o/\Q o H') X.xe s
def aJy:TO:=λ _ H Q=>Q none H
def aO6(t:TE):TO:=λ Z H Q=>t Z H λ x H1=>∃i,x= .int i/\Q (some i) H1
theorem intsAre_of:∀{us:List Value},Vals (ns.map V.int) us->zBS us ns:=by
 induction ns with
 |nil=>intro us r;rw[zDg]at r;cases r;exact .nil
 |cons n ns ih=>
  intro us r;rw[zAG]at r;cases r with
  |cons r1 r2=>
   obtain⟨t,e⟩:=r1;subst e;exact .cons n t (ih r2)
section
variable{X:Cx}{e:Expr}{te:TE}{lo hi:Option Expr}{tl th:TO}{pos p2:Pos}
theorem aK9:PO X none aJy:=by
 intro pins s Z H Q I h;rw[zH7];exact zAE ⟨none,H,I,.none,h⟩
theorem aK8(h:PE X e te):PO X (some e) (aO6 te):=by
 intro pins s Z H Q I hw;rw[evalPart_some];refine thn (h pins s Z H _ I hw) λ u s1 ⟨x,H1,I1,r1,q1⟩=>?_
 obtain⟨i,rfl,q⟩:=q1;obtain⟨t,rfl⟩:=r1;exact⟨some i,H1,I1,.int i t,q⟩
def SlR(X:Cx)(r:V->Option Int->Option Int->Hp->VK->Prop):Prop:=
 ∀(pins:List (Addr×Obj)) (s:zAH) (Z:St) (H:Hp) (x:V) (v vl vu:Value) (lo hi:Option Int) (sl:Addr) (Q:VK),Inv X pins Z H s->RelV x v->s.heap.IsSliceOf sl vl vu .none->zGI vl lo->zGI vu hi->r x lo hi H Q->
  ∃T id,zDn (.type T) "__getitem__"=pure (some (.builtin id))/\s.TypeIs v T/\wpAny (model X.prog X.w) X.A (zEP v (.ref sl)) (EP X pins Z Q) X.xe s
theorem SlR.or(h:SlR X r)(h':SlR X r'):SlR X (λ x lo hi H Q=>r x lo hi H Q\/r' x lo hi H Q):=by
 intro pins s Z H x v vl vu lo hi sl Q I rx hs pl pu q;rcases q with q|q
 .exact h pins s Z H x v vl vu lo hi sl Q I rx hs pl pu q
 .exact h' pins s Z H x v vl vu lo hi sl Q I rx hs pl pu q
def tSl(r:V->Option Int->Option Int->Hp->VK->Prop)(te:TE)(tl th:TO):TE:=λ Z H Q=>te Z H λ x H1=>tl Z H1 λ l H2=>th Z H2 λ u H3=>r x l u H3 Q
theorem aIL(hr:SlR X r)(he:PE X e te)(hl:PO X lo tl)(hu:PO X hi th):PE X (.Subscript e (.Slice lo hi none p2) pos) (tSl r te tl th):=by
 intro pins s Z H Q I h;refine zHR (thn (he pins s Z H _ I h) λ v s1 ⟨x,H1,I1,r1,q1⟩=>?_);refine wpAny_Slice (thn (hl pins s1 Z H1 _ I1 q1) λ vl s2 ⟨l,H2,I2,pl,q2⟩=>thn (hu pins s2 Z H2 _ I2 q2) λ vu s3 ⟨u,H3,I3,pu,q3⟩=>?_);rw[zH7];refine zAE ?_;have I4:Inv X pins Z H3 {s3 with heap:=s3.heap.push {cls:=.type "slice",data:=.fields #[vl,vu,.none]}}:=I3.kept (t':=s3.toks) λ b ob q=>zAC _ q
 obtain⟨T,id,hT,ht,hg⟩:=hr pins {s3 with heap:=s3.heap.push {cls:=.type "slice",data:=.fields #[vl,vu,.none]}} Z H3 x v vl vu l u s3.heap.objs.size Q I4 r1 (zF9 ..) pl pu q3;show wpAny (model X.prog X.w) X.A (zFe e (.Slice lo hi none p2) v (.ref s3.heap.objs.size)) (EP X pins Z Q) X.xe {s3 with heap:=s3.heap.push {cls:=.type "slice",data:=.fields #[vl,vu,.none]}};exact tail_any (ops:=[.ref s3.heap.objs.size,v]) ht hT hg (by with_unfolding_all rfl)
def aAT(xs:List V)(lo hi:Option Int):List V:=(xs.drop (HT.sIx xs.length 0 lo)).take (HT.sIx xs.length xs.length hi-HT.sIx xs.length 0 lo)
theorem xJ(xs:List V)(lo hi:Option Int):(aAT xs lo hi).length<=xs.length:=by
 unfold aAT;rw[zB2,zBp];omega
def aKZ(K:zAA):R2:=λ x y H Q=>∃a b ns ms,x= .ref a/\y= .ref b/\SqT K H a (ns.map V.int)/\SqT K H b (ms.map V.int)/\Q (.bl (HT.lexLt ns ms)) H
theorem aN4(hu:X.A.units<cLine):OpR X (zAs .Lt) (aKZ X.K):=by
 intro pins s Z H x y v u Q I rx ry h;obtain⟨a,b,ns,ms,rfl,rfl,ha,hb,q⟩:=h;cases rx;cases ry;obtain⟨its,r1,p1,_⟩:=I.tuple ha;obtain⟨its2,r2,p2,_⟩:=I.tuple hb;have i1:zBS its.toArray.toList ns:=intsAre_of r1;have i2:zBS its2.toArray.toList ms:=intsAre_of r2;exact HT.aE9 p1 p2 i1 i2 hu ⟨.bl (HT.lexLt ns ms),H,I,rfl,q⟩
def aOu(K:zAA):R2:=λ x y H Q=>∃a b xs ys,x= .ref a/\y= .ref b/\SqT K H a xs/\SqT K H b ys/\xs≠[]/\xs.length+ys.length<=zAV/\
 (ys=[]->Q (.ref a) H)/\(ys≠[]->∀p,H p=none->Q (.ref p) (upd H p (.tup (xs++ys))))
theorem Vals.nil_iff(r:Vals xs us):us=[]↔xs=[]:=by
 cases r with
 |nil=>simp
 |cons _ _=>simp
theorem aKu:OpR X (zCU .Add) (aOu X.K):=by
 intro pins s Z H x y v u Q I rx ry h;obtain⟨a,b,xs,ys,rfl,rfl,ha,hb,hx,hz,q1,q2⟩:=h;cases rx;cases ry;obtain⟨its,r1,p1,_⟩:=I.tuple ha;obtain⟨its2,r2,p2,_⟩:=I.tuple hb;refine HT.aLh p1 p2 (λ z=>hx (r1.nil_iff.mp z)) (λ z=>⟨.ref a,H,I,rfl,q1 (r2.nil_iff.mp z)⟩) (λ z=>?_) (by rw[<-r1.length,<-r2.length];exact hz);refine⟨.ref s.heap.objs.size,_,I.laid (t':=s.toks) (o:=.tup (xs++ys)) (λ b ob q=>zAC _ q) (zAP _) ?_,rfl,q2 (λ w=>z (r2.nil_iff.mpr w)) _ (I.hok.fresh (zAP _))⟩;exact⟨⟨by rw[zA1];exact hz,NoD.push _⟩,_,r1.append r2,zG9 _ _⟩
end
def ixN(n:Nat)(i:Int):Option Nat:=if 0<=i then(if i<n then some i.toNat else none)else if -(n:Int)<=i then some (i+n).toNat else none
def atI{α:Type}(xs:List α)(i:Int):Option α:=(ixN xs.length i).bind λ j=>xs[j]?
theorem aLP(h:ixN n i=some j):seqIndex? i n=some j/\j<n/\-(n:Int)<=i/\i<n:=by
 unfold ixN at h;by_cases h0:0<=i
 .rw[if_pos h0]at h
  by_cases h1:i<n
  .rw[if_pos h1]at h
   have e:i.toNat=j:=zAp h;exact⟨by rw[seqIndex_of h0 h1,e],by omega,by omega,h1⟩
  .rw[if_neg h1]at h;cases h
 .rw[if_neg h0]at h
  by_cases h1: -(n:Int)<=i
  .rw[if_pos h1]at h
   have e:(i+n).toNat=j:=zAp h;exact⟨by rw[seqIndex_neg (by omega) h1,e],by omega,h1,by omega⟩
  .rw[if_neg h1]at h;cases h
theorem aC6(h:atI xs i=some v):∃j,seqIndex? i xs.length=some j/\xs[j]? =some v/\j<xs.length/\-(xs.length:Int)<=i/\i<xs.length:=by
 unfold atI at h;cases e:ixN xs.length i with
 |none=>rw[e]at h;cases h
 |some j=>
  rw[e]at h;obtain⟨h1,h2,h3,h4⟩:=aLP e;exact⟨j,h1,h,h2,h3,h4⟩
def yQ(b:Expr):Prop:=∀o i,zGk b false o i=operate [o,i] (zEP o i)
def IxR(X:Cx)(r:R2):Prop:=
 ∀(value slice:Expr) (pins:List (Addr×Obj)) (s:zAH) (Z:St) (H:Hp) (x y:V) (v u:Value) (Q:VK),Inv X pins Z H s->RelV x v->RelV y u->r x y H Q->
  zGk slice false v u=operate [v,u] (zEP v u)->wpAny (model X.prog X.w) X.A (zFe value slice v u) (EP X pins Z Q) X.xe s
def MtR(X:Cx)(id:String)(r:V->List V->Hp->VK->Prop):Prop:=
 ∀(pins:List (Addr×Obj)) (s:zAH) (Z:St) (H:Hp) (x:V) (xs:List V) (v:Value) (us:List Value) (Q:VK),Inv X pins Z H s->RelV x v->Vals xs us->r x xs H Q->
  wpAny (model X.prog X.w) X.A (call (.builtin id) (v::us)) (EP X pins Z Q) X.xe s
section
variable{X:Cx}{a b:Expr}{ta tb:TE}{pos:Pos}
theorem IxR.or(h:IxR X r)(h':IxR X r'):IxR X (λ x y H Q=>r x y H Q\/r' x y H Q):=by
 intro value slice pins s Z H x y v u Q I rx ry q hs;rcases q with q|q
 .exact h value slice pins s Z H x y v u Q I rx ry q hs
 .exact h' value slice pins s Z H x y v u Q I rx ry q hs
theorem aIN{r:R2}(hr:IxR X r)(ha:PE X a ta)(hb:PE X b tb)(hs:yQ b):PE X (.Subscript a b pos) (tOp r ta tb):=by
 intro pins s Z H Q I h;exact zHR (aOS ha hb I h λ v u s2 x y H2 I2 rx ry q=>hr a b pins s2 Z H2 x y v u Q I2 rx ry q (hs _ _))
def aMv(K:zAA):R2:=λ x y H Q=>∃p xs i v,x= .ref p/\y= .int i/\SqL K H p xs/\atI xs i=some v/\Q v H
def aOs(K:zAA):R2:=λ x y H Q=>∃p xs i v,x= .ref p/\y= .int i/\SqT K H p xs/\atI xs i=some v/\Q v H
def aOt:R2:=λ x y H Q=>∃z i c,x= .str z/\y= .int i/\z.length<=zAV/\atI z.cps.toList i=some c/\Q (.str ⟨#[c]⟩) H
theorem aCO:IxR X (aMv X.K):=by
 intro value slice pins s Z H x y v u Q I rx ry h hs;obtain⟨p,xs,i,z,rfl,rfl,hq,he,q⟩:=h;cases rx;obtain⟨t,rfl⟩:=ry;obtain⟨its,r,pl,hz⟩:=I.list hq;obtain⟨j,h1,h2,h3,h4,h5⟩:=aC6 he;obtain⟨w,ew,rw'⟩:=r.get h2;have hl:=r.length;have hn:=zf;have fin:EP X pins Z Q w s:=⟨z,H,I,rw',q⟩;by_cases h0:0<=i
 .have hj:i.toNat=j:=by
   rw[seqIndex_of h0 h5]at h1;exact zAp h1
  exact item_listR pl.isList h0 (by omega) (by rw[hj];simpa using ew) fin hs
 .have hj:(i+(its.toArray.size:Int)).toNat=j:=by
   rw[seqIndex_neg (by omega) h4]at h1;rw[zAR,<-hl];exact zAp h1
  exact zHq (x:=w) pl.isList.typeIs zJA.lookup
   (wpAny_getItem_list_neg (Q:=λ r s'=>r=w/\EP X pins Z Q r s') pl.isList (by omega) (by rw[zAR]<;>omega) (by omega) (by rw[hj];simpa using ew) ⟨rfl,fin⟩) hs
theorem aNs:IxR X (aOs X.K):=by
 intro value slice pins s Z H x y v u Q I rx ry h hs;obtain⟨p,xs,i,z,rfl,rfl,hq,he,q⟩:=h;cases rx;obtain⟨t,rfl⟩:=ry;obtain⟨its,r,pl,hz⟩:=I.tuple hq;obtain⟨j,h1,h2,h3,h4,h5⟩:=aC6 he;obtain⟨w,ew,rw'⟩:=r.get h2;have hl:=r.length;have hn:=zf;have fin:EP X pins Z Q w s:=⟨z,H,I,rw',q⟩;exact zHq (x:=w) pl.typeIs slot_tuple_getitem.lookup
  (getItem_tuple (j:=j) (Q:=λ r s'=>r=w/\EP X pins Z Q r s') pl (by omega) (by omega) (by rw[zAR,<-hl];exact h1) (by simpa using ew) ⟨rfl,fin⟩) hs
theorem aNt:IxR X aOt:=by
 intro value slice pins s Z H x y v u Q I rx ry h hs;obtain⟨z,i,c,rfl,rfl,hz,he,q⟩:=h;obtain⟨t,rfl⟩:=rx;obtain⟨t',rfl⟩:=ry;obtain⟨j,h1,h2,h3,h4,h5⟩:=aC6 he;have hl:z.cps.toList.length=z.length:=by simp[Str.length]
 rw[hl]at h1 h4 h5;have hn:=zf;exact tail_any (typeIs_str s z t) slot_str_getitem.lookup (getItem_str (c:=c) (by
  have e1:decide (i < -(2^63:Int))=false:=decide_eq_false (by omega);have e2:decide (i ≥ 2^63)=false:=decide_eq_false (by omega);rw[e1,e2,Bool.or_false]) (by rw[h1];simpa using h2) ⟨.str ⟨#[c]⟩,H,I.tok _,⟨_,rfl⟩,q⟩) hs
def rIx(K:zAA):R2:=λ x y H Q=>aMv K x y H Q\/aOs K x y H Q\/aOt x y H Q
theorem aNu:IxR X (rIx X.K):=aCO.or (aNs.or aNt)
theorem aBg(lo hi:Option Int)(n:Nat):(zDt lo hi none n).1=((HT.sIx n 0 lo:Nat):Int)/\(zDt lo hi none n).2.1=((HT.sIx n n hi:Nat):Int)/\(zDt lo hi none n).2.2=1:=by
 refine⟨?_,?_,rfl⟩
 .cases lo with
  |none=>simp[zDt,HT.sIx]
  |some i=>
   simp only[zDt,HT.sIx,zH2,show(1:Int)>0 by decide,if_true];by_cases h:i<0
   .simp only[h,if_true]<;>omega
   .simp only[h,if_false]<;>omega
 .cases hi with
  |none=>simp[zDt,HT.sIx]
  |some i=>
   simp only[zDt,HT.sIx,zH2,show(1:Int)>0 by decide,if_true];by_cases h:i<0
   .simp only[h,if_true]<;>omega
   .simp only[h,if_false]<;>omega
theorem aA3(its:List Value)(lo hi:Option Int):slicePick its.toArray lo hi none=((its.drop (HT.sIx its.length 0 lo)).take (HT.sIx its.length its.length hi-HT.sIx its.length 0 lo)).toArray:=by
 obtain⟨h1,h2,h3⟩:=aBg lo hi its.toArray.size;unfold slicePick;rw[h1,h2,h3];simp only[sliceRange_one,pick_run,zAR]<;>rfl
def aOp(K:zAA):V->Option Int->Option Int->Hp->VK->Prop:=λ x lo hi H Q=>∃a xs,x= .ref a/\SqL K H a xs/\∀p,H p=none->Q (.ref p) (upd H p (.lst (aAT xs lo hi)))
theorem aKG:SlR X (aOp X.K):=by
 intro pins s Z H x v vl vu lo hi sl Q I rx hs pl pu h;obtain⟨a,xs,rfl,hx,q⟩:=h;cases rx;obtain⟨its,r,ht,hz⟩:=I.list hx;have hlen:=r.length;refine⟨"list",_,zJA.lookup,ht.isList.typeIs,?_⟩;refine wpAny_getItem_list_slice ht.isList hs pl pu .none (by simp) ?_ (by rw[zAR]<;>omega);rw[aA3,<-hlen];refine⟨.ref s.heap.objs.size,_,I.laid (t':=s.toks) (o:=.lst (aAT xs lo hi)) (λ b ob q=>zAC _ q) (zAP _) ?_,rfl,q _ (I.hok.fresh (zAP _))⟩;exact⟨zAm (xJ xs lo hi) hz,_,0,(r.drop (HT.sIx xs.length 0 lo)).take (HT.sIx xs.length xs.length hi-HT.sIx xs.length 0 lo),zAJ _ rfl⟩
theorem vK:dj X (.builtin "len") (λ xs H Q=>∃p ys,xs=[.ref p]/\(SqL X.K H p ys\/SqT X.K H p ys)/\Q (.int ys.length) H):=by
 intro pins s Z H xs us Q I r h;obtain⟨p,ys,rfl,hq,q⟩:=h;obtain⟨u,rfl,rx⟩:=vals1 r;cases rx;have hn:=zf;rcases hq with hq|hq
 .obtain⟨its,r',pl,hz⟩:=I.list hq
  have hlen:=r'.length;exact Calls.call_len_list pl.isList (by simp only[zAR]<;>omega) ⟨.int ys.length,H,I.tok _,⟨s.toks+1,by rw[zAR,hlen]⟩,q⟩
 .obtain⟨its,r',pl,hz⟩:=I.tuple hq
  have hlen:=r'.length;exact len_tuple pl (by simp only[zAR]<;>omega) ⟨.int ys.length,H,I.tok _,⟨s.toks+1,by rw[zAR,hlen]⟩,q⟩
theorem dj.or(h:dj X f r)(h':dj X f r'):dj X f (λ xs H Q=>r xs H Q\/r' xs H Q):=by
 intro pins s Z H xs us Q I rs q;rcases q with q|q
 .exact h pins s Z H xs us Q I rs q
 .exact h' pins s Z H xs us Q I rs q
theorem aC0:dj X (.type "list") (λ xs H Q=>∃p ys,xs=[.ref p]/\(SqL X.K H p ys\/SqT X.K H p ys)/\∀l,H l=none->Q (.ref l) (upd H l (.lst ys))):=by
 intro pins s Z H xs us Q I r h;obtain⟨p,ys,rfl,hq,q⟩:=h;obtain⟨u,rfl,rx⟩:=vals1 r;cases rx;have fin:∀(its:List Value),Vals ys its->ys.length<=zAV->∀(h':Heap) (c':Nat),(∀b o',s.heap.get? b=some o'->h'.get? b=some o')->
   h'.get? s.heap.objs.size=some {cls:=.type "list",dict:=none,data:=.seq its.toArray c',slots:=#[]}->EP X pins Z Q (.ref s.heap.objs.size) {s with heap:=h'}:=λ its r' hz h' c' kp e=>
  ⟨.ref s.heap.objs.size,_,I.laid (t':=s.toks) kp (zAP _) (show cR X.prog X.w _ h' _ (.lst ys)from⟨hz,its,c',r',e⟩),rfl,q _ (I.hok.fresh (zAP _))⟩
 rcases hq with hq|hq
 .obtain⟨its,r',pl,hz⟩:=I.list hq
  have hlen:=r'.length;obtain⟨o,ho,hc,n,hd⟩:=pl.isList;exact call_list_seq p (.inl rfl) ho hc hd (λ h' c' kp e=>fin its r' hz h' c' kp e) (by simp only[zAR]<;>omega)
 .obtain⟨its,r',pl,hz⟩:=I.tuple hq
  have hlen:=r'.length;obtain⟨o,ho,hc,n,hd⟩:=pl;exact call_list_seq p (.inr rfl) ho hc hd (λ h' c' kp e=>fin its r' hz h' c' kp e) (by simp only[zAR]<;>omega)
theorem aAn:dj X (.type "tuple") (λ xs H Q=>∃p ys,xs=[.ref p]/\((SqL X.K H p ys/\∀l,H l=none->Q (.ref l) (upd H l (.tup ys)))\/(SqT X.K H p ys/\Q (.ref p) H))):=by
 intro pins s Z H xs us Q I r h;obtain⟨p,ys,rfl,h⟩:=h;obtain⟨u,rfl,rx⟩:=vals1 r;cases rx;rcases h with ⟨hq,q⟩|⟨hq,q⟩
 .obtain⟨its,r',pl,hz⟩:=I.list hq
  have hlen:=r'.length;refine call_tuple_list pl.isList (λ h' kp=>?_) (by simp only[zAR]<;>omega);have I1:Inv X pins Z H {s with heap:=h'}:=I.kept (t':=s.toks) kp;have I2:Inv X pins Z (upd H h'.objs.size (.tup ys)) {s with heap:=h'.push {cls:=.type "tuple",data:=.seq its.toArray}}:=
   I1.laid (t':=s.toks) (λ b o e=>zAC _ e) (zAP _) (show cR X.prog X.w _ _ _ (.tup ys)from⟨⟨hz,NoD.push _⟩,its,r',zG9 _ _⟩)
  exact⟨.ref h'.objs.size,_,I2,rfl,q _ (I1.hok.fresh (zAP _))⟩
 .obtain⟨its,r',pl,hz⟩:=I.tuple hq
  exact call_tuple_same pl ⟨.ref p,H,I,rfl,q⟩
def tyV(K:zAA)(T:String)(x:V)(H:Hp):Prop:=match x with
 | .str _=>T="str"
 | .int _=>T="int"
 | .ref p=>(T="list"/\∃xs,SqL K H p xs)\/(T="tuple"/\∃o,K.lookup p=some o/\o.cls= .type "tuple"/\o.dict=none)\/
   (T="dict"/\((∃kvs,H p=some (.dK kvs))\/∃kvs,H p=some (.dT kvs)))\/(T="set"/\∃S n,H p=some (.set S n))
 |_=>False
theorem aHO(I:Inv X pins Z H s)(r:RelV x v)(ty:tyV X.K T x H):
  s.TypeIs v T/\∀a,v= .ref a->∃ob,s.heap.get? a=some ob/\ob.dict=none:=by
 cases x with
 |str z=>
  obtain⟨t,rfl⟩:=r;cases (show T="str" from ty);exact⟨typeIs_str s z t,λ _ e=>nomatch e⟩
 |int i=>
  obtain⟨t,rfl⟩:=r;cases (show T="int" from ty);exact⟨zJB s i t,λ _ e=>nomatch e⟩
 |ref p=>
  cases r;rcases ty with ⟨rfl,xs,hq⟩|⟨rfl,o,hk,hc,hd⟩|⟨rfl,hk⟩|⟨rfl,S,n,hk⟩
  .obtain⟨its,_,pl,_⟩:=I.list hq
   refine⟨pl.isList.typeIs,λ a e=>?_⟩;cases e;obtain⟨o,n,e,c,hd,_⟩:=pl;exact⟨o,e,hd⟩
  .refine⟨⟨o,I.kIn p o hk,hc⟩,λ a e=>?_⟩
   cases e;exact⟨o,I.kIn _ o hk,hd⟩
  .have z:∃o,s.heap.get? p=some o/\o.ExactDict:=by
    rcases hk with ⟨kvs,hk⟩|⟨kvs,hk⟩
    .obtain⟨_,_,_,_,o,_,_,e,ex,_⟩:=I.hok p _ hk
     exact⟨o,e,ex⟩
    .obtain⟨_,_,_,_,o,_,_,e,ex,_⟩:=I.hok p _ hk
     exact⟨o,e,ex⟩
   obtain⟨o,e,ex⟩:=z;refine⟨⟨o,e,ex.1⟩,λ a e2=>?_⟩;cases e2;exact⟨o,e,ex.2.1⟩
  .obtain⟨o,_,_,_,e,ex,_⟩:=I.hok p _ hk
   refine⟨⟨o,e,ex.1⟩,λ a e2=>?_⟩;cases e2;exact⟨o,e,ex.2.1⟩
 |_=>exact zAQ ty
def aM9(K:zAA)(T:String)(r:V->List V->Hp->VK->Prop)(to:TE):TE:=λ Z H Q=>to Z H λ x H1=>tyV K T x H1/\r x [] H1 Q
def tBM(K:zAA)(T:String)(r:V->List V->Hp->VK->Prop)(to:TE)(t:TA):TE:=λ Z H Q=>to Z H λ x H1=>tyV K T x H1/\t Z H1 λ xs H2=>r x xs H2 Q
variable{o e:Expr}{es:List Expr}{to:TE}{t:TA}{name:Str}{apos cpos:Pos}{T id:String}{r:V->List V->Hp->VK->Prop}
theorem aNP(pa:PlainAttrs T)(slot:Slot T name id)(hty:typeOf (.builtin id)=pure (.type "method_descriptor"))(hm:MtR X id r)(ho:PE X o to)
  (hbase:zDP o name X.env (eval o X.env)=eval o X.env:=by rfl)(hline:(apos.endLine==cpos.line)=true:=by rfl):PE X (.Call (.Attribute o name apos) [] [] cpos) (aM9 X.K T r to):=by
 intro pins s Z H Q I h;refine wpAny_Call_method0_late hbase hline (thn (ho pins s Z H _ I h) λ v s1 ⟨x,H1,I1,r1,ty,q1⟩=>?_);obtain⟨h1,h2⟩:=aHO I1 r1 ty;exact⟨T,id,pa,slot,hty,h1,h2,zG2 rfl (PySem.evalArgs_none (hm pins s1 Z H1 x [] v [] Q I1 r1 .nil q1))⟩
theorem aAz(pa:PlainAttrs T)(slot:Slot T name id)(hty:typeOf (.builtin id)=pure (.type "method_descriptor"))(hm:MtR X id r)(ho:PE X o to)(ha:PA X (e::es) t)
  (hbase:zDP o name X.env (eval o X.env)=eval o X.env:=by rfl)
  (hfew:((zC2 cpos (zAX (e::es) X.env)).all (λ x=>!x.1)&&(zFc cpos (zDs [] X.env)).all (λ x=>x.1.isSome)
   &&decide ((e::es).length+([]:List zCs).length+(if ([]:List zCs).isEmpty then 0 else 1)<30))=true:=by rfl)
  (hline:(apos.endLine==cpos.line)=true:=by rfl)(hs:zAX (e::es) X.env=(false,eval e X.env)::zAX es X.env:=by rfl)(hplain:(zC2 cpos (zAX es X.env)).any (·.1)=false:=by rfl):
  PE X (.Call (.Attribute o name apos) (e::es) [] cpos) (tBM X.K T r to t):=by
 intro pins s Z H Q I h;refine wpAny_Call_method_late hbase hfew hline rfl (thn (ho pins s Z H _ I h) λ v s1 ⟨x,H1,I1,r1,ty,q1⟩=>?_);obtain⟨h1,h2⟩:=aHO I1 r1 ty;refine⟨T,id,pa,slot,hty,h1,h2,?_⟩;have hA:=ha cpos pins s1 Z H1 _ I1 q1;rw[hs]at hA ⊢;refine zG2 (by show(false||(zC2 cpos (zAX es X.env)).any (·.1))=false;rw[hplain]<;>rfl) (zGn ?_);exact thn hA λ us s2 ⟨vs,H2,I2,r2,q2⟩=>hm pins s2 Z H2 x vs v us Q I2 r1 r2 q2
end
def MtM(X:Cx)(id:String)(r:V->List V->Hp->VK->Prop):Prop:=
 ∀(pins:List (Addr×Obj)) (s:zAH) (Z:St) (H:Hp) (x:V) (xs:List V) (v:Value) (us:List Value) (Q:VK),Inv X pins Z H s->RelV x v->Vals xs us->r x xs H Q->
  wpAny (model X.prog X.w) X.A (call (.builtin id) (v::us)) (EP X pins Z Q) X.xe s
theorem Vals.one:∀{x:V} {us:List Value},Vals [x] us->∃u,us=[u]/\RelV x u
 |_,_,.cons r .nil=>⟨_,rfl,r⟩
theorem Vals.reverse(h:Vals xs us):Vals xs.reverse us.reverse:=by
 induction h with
 |nil=>exact .nil
 |cons r t ih=>rw[zDL,zDL];exact Vals.append ih (.cons r .nil)
theorem Vals.rep(h:Vals xs us):∀k:Nat,Vals (zA6 k xs).flatten (zA6 k us).flatten
 |0=>.nil
 |k+1=>by
  rw[zBh,zBh,zAk,zAk];exact Vals.append h (Vals.rep h k)
theorem foldl_rep(its:List Value):∀(k:Nat) (acc:List Value),
  zHf (λ x1 x2=>x1++x2) acc.toArray (zA6 k its.toArray)=(acc++(zA6 k its).flatten).toArray
 |0,acc=>by simp
 |k+1,acc=>by
  have e:acc.toArray++its.toArray=(acc++its).toArray:=by simp
  have e2:(acc++its)++(zA6 k its).flatten=acc++(zA6 (k+1) its).flatten:=by
   rw[zBh,zAk,zBg]
  rw[<-e2,<-foldl_rep its k (acc++its),<-e,zBh,zBy]
section
variable{X:Cx}{pins:List (Addr×Obj)}{Z:St}{H:Hp}{s:zAH}{l:Addr}{xs ys:List V}
theorem Inv.lset{its its':List Value}{n:Nat}{f:Array Value->Array Value}{t':Nat}(I:Inv X pins Z H s)(hH:H l=some (.lst xs))
  (e:s.heap.get? l=some {cls:=.type "list",data:=.seq its.toArray n})(hf:f its.toArray=its'.toArray)(hv:Vals ys its')(hz:ys.length<=zAV):
  Inv X pins Z (upd H l (.lst ys)) {s with heap:=s.heap.update l (zCe f),toks:=t'}:=by
 have q:=PySem.IsL.update e f;rw[hf]at q;refine I.write (x:=l) (e:=l) (by rw[hH];exact trivial) (.inl rfl) (λ b' u hb hu=>(Heap.get?_update_other s.heap (zCe f) (zDG hb)).trans hu) ⟨_,q⟩ ?_;exact⟨hz,its',_,hv,q⟩
theorem Inv.lnew(I:Inv X pins Z H s)(hv:Vals ys its)(hz:ys.length<=zAV):
  Inv X pins Z (upd H s.heap.objs.size (.lst ys)) {s with heap:=s.heap.push {cls:=.type "list",data:=.seq its.toArray},toks:=t'}:=
 I.laid (λ _ _ q=>zAC _ q) (zAP _) ⟨hz,its,0,hv,zAJ _ rfl⟩
theorem Inv.fresh(I:Inv X pins Z H s):H s.heap.objs.size=none:=I.hok.fresh (zAP _)
theorem Inv.lstM(I:Inv X pins Z H s)(hH:H l=some (.lst xs)):xs.length<=zAV/\∃(its:List Value) (n:Nat),Vals xs its/\xs.length=its.length/\s.heap.get? l=some {cls:=.type "list",data:=.seq its.toArray n}:=by
 obtain⟨z,its,n,r,e⟩:=I.hok l _ hH;exact⟨z,its,n,r,r.length,e⟩
theorem aCz(h:n<=zAV):zCG n=false:=by
 unfold zCG;exact decide_eq_false (by omega)
end
section
variable{X:Cx}
def aK3:V->List V->Hp->VK->Prop:=λ x vs H Q=>∃l xs y,x= .ref l/\vs=[y]/\H l=some (.lst xs)/\xs.length<zAV/\Q .non (upd H l (.lst (xs++[y])))
theorem vq:MtM X "list.append" aK3:=by
 intro pins s Z H x vs v us Q I rx rv h;obtain⟨l,xs,y,rfl,rfl,hH,hz,q⟩:=h;cases rx;obtain⟨u,rfl,ru⟩:=rv.one;obtain⟨z,its,n,r,hl,e⟩:=I.lstM hH;refine zDm zEJ ⟨_,e,rfl⟩ F.entry_list_append (F.args_list_append_2 _ _) (PySem.list_append l its.toArray n u (by rw[zAR];omega)) ⟨e,?_⟩;refine⟨.non,_,I.lset (its':=its++[u]) hH e (by simp) (r.append (.cons ru .nil)) ?_,rfl,q⟩;rw[zA1,List.length_singleton];omega
def aPj:R2:=λ x y H Q=>∃l b xs zs,x= .ref l/\y= .ref b/\H l=some (.lst xs)/\H b=some (.lst zs)/\xs.length+zs.length<=zAV/\∀p,H p=none->Q (.ref p) (upd H p (.lst (xs++zs)))
theorem aNc:OpR X (zCU .Add) aPj:=by
 intro pins s Z H x y v u Q I rx ry h;obtain⟨l,b,xs,zs,rfl,rfl,hH,hB,hz,q⟩:=h;cases rx;cases ry;obtain⟨z,its,n,r,hl,e⟩:=I.lstM hH;obtain⟨z2,its2,n2,r2,hl2,e2⟩:=I.lstM hB;refine PySem.P.add_list e e2 ?_ (by rw[zAR,zAR];omega);have ea:its.toArray++its2.toArray=(its++its2).toArray:=by simp
 rw[ea];exact⟨.ref _,_,I.lnew (t':=s.toks) (r.append r2) (by rw[zA1];omega),rfl,q _ I.fresh⟩
def aOr:R2:=λ x y H Q=>∃l k xs,x= .ref l/\y= .int k/\H l=some (.lst xs)/\-(2^63)<=k/\k<2^63/\xs.length*k.toNat<=zAV/\
 ∀p,H p=none->Q (.ref p) (upd H p (.lst (zA6 k.toNat xs).flatten))
theorem len_rep(xs:List α)(k:Nat):(zA6 k xs).flatten.length=k*xs.length:=by
 induction k with
 |zero=>simp
 |succ k ih=>rw[zBh,zAk,zA1,ih,Nat.succ_mul,zHB]
theorem aNY:OpR X (zCU .Mult) aOr:=by
 intro pins s Z H x y v u Q I rx ry h;obtain⟨l,k,xs,rfl,rfl,hH,h1,h2,hz,q⟩:=h;cases rx;obtain⟨t,rfl⟩:=ry;obtain⟨z,its,n,r,hl,e⟩:=I.lstM hH;have hlen:its.toArray.size*k.toNat<=zAV:=by rw[zAR,<-hl];exact hz
 have hcap:¬its.toArray.size*k.toNat>(2^63-1) / 8:=by
  have:(zAV:Nat)<=(2^63-1) / 8:=by decide
  omega
 have hfit:¬(!zDT k)=true:=by
  rw[fitsIndex_both h1 h2];exact zA5
 have hlong:¬zCG (its.toArray.size*k.toNat)=true:=by
  rw[aCz hlen];exact zA5
 have hnew:zHf (λ x1 x2=>x1++x2) #[] (zA6 (if its.toArray.isEmpty=true then 0 else k.toNat) its.toArray)=(zA6 k.toNat its).flatten.toArray:=by
  have f0:∀m:Nat,zHf (λ x1 x2=>x1++x2) #[] (zA6 m its.toArray)=(zA6 m its).flatten.toArray:=λ m=>by
   have:=foldl_rep its m []
   rw[zFl]at this;exact this
  rw[f0];cases its with
  |nil=>simp
  |cons a r'=>rw[if_neg (by simp)]
 refine wpAny_binaryOp_repeat_ref (T:="list") (U:="int") (by decide) ⟨_,e,rfl⟩ (λ s'=>zJB s' k t) noFill_list_mul F.fills_int_mul zIo repeat_list F.slot_int_index.lookup
  (zDm zIo (zJB s k t) F.entry_int_rmul (F.args_int_rmul_2 _ _) (int___rmul___int_list k t l its.toArray n)
   ⟨e,rfl,⟨_,e,rfl⟩,zDm F.slot_list_mul ⟨_,e,rfl⟩ F.entry_list_mul (F.args_list_mul_2 _ _) (AutoListH.list___mul___list_int_3 l its.toArray n k t hfit hcap hlong) ⟨e,?_⟩⟩)
 rw[hnew];exact⟨.ref _,_,I.lnew (t':=s.toks) (r.rep k.toNat) (by rw[len_rep,Nat.mul_comm];exact hz),rfl,q _ I.fresh⟩
end
end L2
namespace Att
open PySem PySem.W PySem.Calls PyProof.Rows
theorem xg:∀(ns:List Int) (vs:List Value),WellAll P h vs (ns.map WData.int)->zBS vs ns:=by
 intro ns;induction ns with
 |nil=>
  intro vs w;rw[zDg]at w;cases w;exact .nil
 |cons n ns ih=>
  intro vs w;rw[zAG]at w;cases w with
  |cons a b=>
   cases a;exact .cons _ _ (ih _ b)
theorem aGP{l:OpenLaw}{n:Nat}(hn:l.most=some n){P:Params}{h:Heap}{args:List WData}{vals:List Value}
  (hpre:l.row.toRowW.claim.pre args=true)(hwl:WellAll P h vals args):
  ∃a vs ns,vals=[zBC a]/\args=[WData.list (ns.map WData.int)]/\h.get? a=some {cls:=.type "list",data:=.seq vs.toArray}/\zBS vs ns/\ns.length<=n:=by
 have hsh:WShape.hasAll [] args [.list .int]=true:=(pre_splitW hpre).1;have hc:l.pre.holds [] {args:=args}=true:=(pre_splitW hpre).2;obtain⟨d,r,rfl,h1,h2⟩:=hasAllW_cons hsh;obtain rfl:=hasAllW_nil h2;obtain⟨xs,rfl,h3⟩:=hasW_list h1;obtain⟨ns,rfl⟩:=items_int h3;have hlen:ns.length<=n:=by
  unfold OpenLaw.pre at hc;have h4:(WTm.not (.lt (.lit (.int (n:Int))) (.len (.arg 0)))).holds [] {args:=[.list (ns.map .int)]}=true:=by
   have h4:=(holds_andW hc).1;rw[hn]at h4;exact h4
  have h5:=condW_of h4 (w_not (w_lt w_lit (w_len_list (w_arg rfl))));rw[zAF]at h5;refine zIQ λ q=>?_
  have q':(n:Int)<((ns.length:Nat):Int):=by omega
  first
   |(rw[decide_eq_true q']at h5;exact absurd h5 (by decide))
   |(simp at h5;omega)
 cases hwl with
 |cons w1 w2=>
  cases w2;cases w1 with
  |list ho hall=>exact⟨_,_,ns,rfl,rfl,ho,xg ns _ hall,hlen⟩
theorem aGR(l:OpenLaw)(args:List WData):l.row.toRowW.claim.post args (.bool true) args=true:=
 postW_of (r:=l.row.toRowW) (X:=(true==true))
  (show WShape.has [] (.bool true) .bool=true by first|rfl|decide|simp[WShape.has,WShape.arms,WShape.armsAll])
  (show(WTm.eq .res (.lit (.bool true))).value [] {args:=args,res:=some (.bool true),after:=args}=some (.bool (true==true))from w_eq_bool (w_res rfl) w_lit) rfl
theorem aDf{l:OpenLaw}{n:Nat}{q:zA3}{loose:List Str}{XP:(Str->Option Value)->Heap->Prop}{YP:World->Heap->Prop}{d:DefRec}
  (hn:l.most=some n)(hdf:d.params.defaults=[])
  (call:∀(w:World) (z0 zD:zAH) (mg mb:Str->Option Value) (fa:Addr) (o:Obj) (pm cd doc:Value) (a:Addr) (vs:List Value) (ns:List Int),
   Ground q loose [] XP w z0 mg mb zD.heap->YP w zD.heap->
   zD.heap.get? fa=some o->o.data= .func (docDef d.name d.params d.body d.scope pm cd doc)->zD.heap.CodeRec cd d.name->mg d.name=some (.ref fa)->
   zD.heap.get? a=some {cls:=.type "list",data:=.seq vs.toArray}->zBS vs ns->ns.length<=n->zD.gens=#[]->
   zBs (model l.prog w) zC9 (.call (.ref fa) ⟨[.ref a],[]⟩) (λ r s'=>r= .ok (.ret (.bool true))/\OldK zD.heap s'.heap/\s'.os=zD.os/\zEo s'.gens) zD):
  WalkO q loose XP YP l.row.toRowW d [] (λ f vs=>zH3 f vs):=by
 intro w z0 zD mg mb G Y fa o pm cd doc dV kV ho hd hcd hD hmg hg args vals as hpre hlay hrd hwl hlo;obtain rfl:dV= .none:=Dflts.none hD hdf;obtain rfl:kV= .none:=Dflts.noKw hD;obtain⟨a,vs,ns,rfl,rfl,hobj,hints,hlen⟩:=aGP hn hpre hwl;refine enter_call (zDI (call w z0 zD mg mb fa o pm cd doc a vs ns G Y ho (fd_plain hd) hcd hmg hobj hints hlen hg) λ r s' hq=>?_);obtain⟨rfl,h2,h3,h4⟩:=hq;exact⟨.inl ⟨.bool true,.bool true,[],rfl,λ _=>rfl,.bool true,aGR l _,λ _=>⟨zFt,λ _ hm=>(nomatch hm)⟩⟩,h2,h3,h4⟩
section
variable{prog:zA3}{w:World}{A:zAj}{E:Value->zAH->Prop}{s:zAH}{K:Frag}
theorem make_obj(X:K.In s.heap)(hm:makesIn K C=true)(hi:findIn K (.ref C) "__init__"=some (some (.ref fI)))(hf:isFn K (.ref fI)=true)
  (h:zBs (model prog w) (A.under (.builtin "type.__call__" ⟨.ref C::rest,kw⟩)) (.call (.ref fI) ⟨.ref (s.heap.objs.size+1)::rest,kw⟩) (InitBack (s.heap.objs.size+1) R)
   {s with heap:=(s.heap.push emptyDict).push (instObj C s.heap.objs.size)}):zBs (model prog w) A (.call (.ref C) ⟨rest,kw⟩) R s:=by
 obtain⟨hh,g,d,t,os⟩:=s;exact make_core (makes_of X hm) (looks_findIn X hi) (λ self=>bind_fn X self (beq_iff_eq.mp hf)) (.inl rfl) h
theorem get_field(X:K.In s.heap)(I:zHk s.heap x ox C (some (dictOf es n)))(hg:plainGet K C name=true)(hh:hasDictIn K C=true)(ha:findIn K (.ref C) name=some none)
  (hl:getL name es=some (some v))(hv:handedIn v=true)(h:Q v {s with toks:=s.toks+1}):wpAny (model prog w) A (getAttr (.ref x) name expr) Q E s:=
 get_value X I (plainGet_of hg).1 (findObj_own hh ha rfl hl) hv h
def ledger(h:Heap)(L d:Addr):List (Addr×Obj):=(zAb h.objs.size).filterMap λ a=>if a=L\/a=d then none else(h.get? a).map λ o=>(a,o)
end
end Att
namespace L2
open PySem PySem.Spec PyProof.Rows
theorem aAr:∀{vs:List Value} {ns:List Int},zBS vs ns->Vals (ns.map V.int) vs
 |_,_,.nil=>.nil
 |_,_,.cons n t h=>.cons ⟨t,rfl⟩ (aAr h)
def Only(H:Hp):Prop:=∀b,H b=none\/∃o xs,H b=some (.frz o (.lst xs))
def oX(s:Stmt):zDN:=match s with
 | .FunctionDef _ a _ _ _ _ _ _ _ _=>a
 |_=>{posonlyargs:=[],args:=[],vararg:=none,kwonlyargs:=[],kw_defaults:=[],kwarg:=none,defaults:=[]}
def dX(s:Stmt):List Stmt:=match s with
 | .FunctionDef _ _ b _ _ _ _ _ _ _=>b
 |_=>[]
def aK(s:Stmt):Scope:=match s with
 | .FunctionDef _ _ _ _ _ _ sc _ _ _=>sc
 |_=>{kind:=.function,names:=[],isGenerator:=false,isCoroutine:=false}
abbrev CX0:CXT:=λ _ _ _ _ _ _=>False
abbrev E0:XK:=λ _ _ _=>False
structure Fun(K:zAA)(x qual:Str)(st:Stmt)(f:Addr)(fd:zAe):Prop where
 ex:∃(oc:Value) (od:Option Addr) (kV doc pm:Value) (an:Option Addr) (cdv ct:Value) (osl:Array (Option Value)),
  fd=zBk x qual (oX st) (dX st) (aK st) .none kV doc pm an cdv ct/\K.lookup f=some ⟨oc,od,.func fd,osl⟩/\zDH K cdv qual=true
 kp:zB0 K (.ref f)=true
section
variable{K:zAA}
theorem Fun.binds{x qual:Str}{st:Stmt}{f:Addr}{fd:zAe}{ps:List Str}(F:Fun K x qual st f fd)
  (h:∀(kV doc pm:Value) (an:Option Addr) (cdv ct:Value) (us:List Value),us.length=ps.length->zIc (zBk x qual (oX st) (dX st) (aK st) .none kV doc pm an cdv ct) ⟨us,[]⟩=pure (ps.zip us)):Binds K fd ps []:=by
 obtain⟨oc,od,kV,doc,pm,an,cdv,ct,osl,rfl,lk,hcd⟩:=F.ex;exact .all (h kV doc pm an cdv ct)
theorem aOE{x qual:Str}{st:Stmt}{f:Addr}{oc:Value}{od an:Option Addr}{osl:Array (Option Value)}{kV doc pm cdv ct:Value}(l:K.lookup f=some ⟨oc,od,.func (zBk x qual (oX st) (dX st) (aK st) .none kV doc pm an cdv ct),osl⟩)
  (c:zDH K cdv qual=true)(k:zB0 K (.ref f)=true):Fun K x qual st f (zBk x qual (oX st) (dX st) (aK st) .none kV doc pm an cdv ct):=⟨⟨oc,od,kV,doc,pm,an,cdv,ct,osl,rfl,l,c⟩,k⟩
end
def aW(H H':Hp):Prop:=∀b o,H b=some o->H' b=some o
theorem aW.refl(H:Hp):aW H H:=λ _ _ h=>h
theorem aW.trans(a:aW H H1)(b:aW H1 H2):aW H H2:=λ c o h=>b c o (a c o h)
theorem aW.free(e:aW H H')(h:H' l=zI9):H l=zI9:=by
 cases q:H l with
 |none=>rfl
 |some o=>
  rw[e l o q]at h;cases h
end L2
set_option maxHeartbeats 4000000
namespace HT
open PySem PyProof.Rows
def lexLe:List Int->List Int->Bool
 |[],_=>true
 |_::_,[]=>false
 |x::xs,y::ys=>if x=y then lexLe xs ys else decide (x<=y)
theorem aEe(x y:Int)(xs ys:List Int):lexLe (x::xs) (y::ys)=if x=y then lexLe xs ys else decide (x<=y):=rfl
theorem aHp(A:zAj)(s:zAH)(a:Int)(t:Tok)(c:Int)(u:Tok)(prog:zA3)(w:World)(E:Value->zAH->Prop)(Q:Value->zAH->Prop)(h:Q (.bool (decide (a<=c))) s):
  wpAny (model prog w) A (richCompare .LtE (.int a t) (.int c u)) Q E s:=
 (PyProof.Rows.le_int h:wpAny (model prog w) A (zAs .LtE (.int a t) (.int c u)) Q E s)
section
open PySem.SeqAt
open PySem.AutoSeq1(wpAny_loadPart')
open PySem.MeetsSeq PySem.MeetsSeq2 PySem.MeetsSeq3
theorem aA2(l b:Addr)(items items2:Array Value)(n n2:Nat)(dd dd2:Option Addr)(sl sl2:Array (Option Value))(ns ms:List Int)(hi:zBS items.toList ns)(hj:zBS items2.toList ms):
  Meets (zCN.«tuple.__le__» ⟨[.ref l,.ref b],[]⟩)
   (λ _ R s=>s.heap.get? l=some {cls:=.type "tuple",dict:=dd,data:=.seq items n,slots:=sl}/\s.heap.get? b=some {cls:=.type "tuple",dict:=dd2,data:=.seq items2 n2,slots:=sl2}/\
    R (.ok (.ret (.bool (lexLe ns ms)))) s):=
 .of_wp λ prog w A R s h=>by
  obtain⟨hp,g,d,tk,os⟩:=s;obtain⟨hl,hb,h⟩:=h;have f2:=zF8;have z1:items.size=ns.length:=by rw[<-hi.length];simp
  have z2:items2.size=ms.length:=by rw[<-hj.length];simp
  wp_walk using zCH hl,zCH hb,zGZ _ (λ rest b s'=>b.1=none/\s'=⟨hp,g,d,tk,os⟩/\∃(vs ws:List Value) (ns' ms':List Int),rest=vs.zip ws/\
   zBS vs ns'/\zBS ws ms'/\ns'.length+items2.size=ms'.length+items.size/\R (.ok (.ret (.bool (lexLe ns' ms')))) ⟨hp,g,d,tk,os⟩) _
  case turn=>
   rintro⟨y,x⟩ rest b s' ⟨hb',rfl,vs,ws,ns',ms',hz,hvi,hwi,hlen,hR⟩;cases hvi with
   |nil=>rw[zHh]at hz;cases hz
   |cons a t hvi'=>
    cases hwi with
    |nil=>rw[zH1]at hz;cases hz
    |cons c u hwi'=>
     rw[zBP]at hz;injection hz with hyx hrest
     injection hyx with hy hx
     subst hy hx;rw[aEe]at hR;simp only[zA9]at hlen;obtain⟨e,he,hiff⟩:=aD4 A.in1 ⟨hp,g,d,tk,os⟩ a t c u;refine zAB (he prog w _ _ ?_);cases e with
     |true=>
      rw[if_pos (hiff.mp rfl)]at hR;wp_walk;exact⟨rfl,rfl,_,_,_,_,hrest,hvi',hwi',by lia,hR⟩
     |false=>
      rw[if_neg (λ q=>absurd (hiff.mpr q) zA5)]at hR;have hri:=aHp A.in1 ⟨hp,g,d,tk,os⟩ a t c u prog w;wp_walk using hri;exact⟨_,rfl,by simpa using hR⟩
  case fin=>
   rintro⟨b1,b2⟩ s' ⟨hb',rfl,vs,ws,ns',ms',hz,hvi,hwi,hlen,hR⟩;simp only at hb';subst hb';have hv:lexLe ns' ms'=decide (items.size<=items2.size):=by
    cases hvi with
    |nil=>
     simp only[zBN]at hlen;have e:lexLe [] ms'=true:=by cases ms'<;>rfl
     rw[e];exact(decide_eq_true (by lia)).symm
    |cons a t hv=>
     cases hwi with
     |nil=>
      simp only[zBN,zA9]at hlen;show false=_;exact(decide_eq_false (by lia)).symm
     |cons c u hw=>
      rw[zBP]at hz;cases hz
   rw[hv]at hR;wp_walk;exact⟨_,rfl,by simpa[zET]using hR⟩
  case h=>
   exact⟨rfl,rfl,items.toList,items2.toList,ns,ms,rfl,hi,hj,by lia,h⟩
end
section
variable{prog:zA3}{w:World}{A:zAj}{E:Value->zAH->Prop}{s:zAH}
theorem aEg(hl:IsTup s.heap l items)(hb:IsTup s.heap b items2)(hi:zBS items.toList ns)(hj:zBS items2.toList ms)
  (hu:A.units<cLine)(h:Q (.bool (lexLe ns ms)) s):wpAny (model prog w) A (zAs .LtE (.ref l) (.ref b)) Q E s:=by
 obtain⟨⟨cls,dd,data,sl⟩,ho,hc,n,hd⟩:=id hl;obtain⟨⟨cls2,dd2,data2,sl2⟩,ho2,hc2,n2,hd2⟩:=id hb;simp only at hc hd hc2 hd2;subst hc hd hc2 hd2;exact zHp (op:=.LtE) ⟨_,ho,rfl⟩ ⟨_,ho2,rfl⟩ PySem.F.slot_tuple_le PySem.F.entry_tuple_le (PySem.F.args_tuple_le_2 _ _) (aA2 l b items items2 n n2 dd dd2 sl sl2 ns ms hi hj)
  ⟨ho,ho2,show zC0 (lexLe ns ms)≠zGv/\Q (.bool (lexLe ns ms)) s from⟨(λ x=>nomatch x),h⟩⟩ hu
theorem aJ8{ws:List Value}(ht:IsTup s.heap t #[])(hb:IsTup s.heap b ws.toArray)(h1:Q (.ref b) s):wpAny (model prog w) A (zCU .Add (.ref t) (.ref b)) Q E s:=by
 obtain⟨⟨cls,dd,data,sl⟩,ho,hc,n,hd⟩:=id ht;obtain⟨⟨cls2,dd2,data2,sl2⟩,ho2,hc2,n2,hd2⟩:=id hb;simp only at hc hd hc2 hd2;subst hc hd hc2 hd2;exact zIJ ⟨_,ho,rfl⟩ ⟨_,ho2,rfl⟩ zGX zHa zED zDq (zDi _ _)
   (tuple_addW0 t b #[] ws.toArray n n2 dd dd2 sl sl2 (by simp)) ⟨ho,ho2,h1⟩
theorem uq{lo hi:Option Int}(ht:IsTup s.heap t items)(hs:s.heap.IsSliceOf sl vl vu .none)(pl:zGI vl lo)(pu:zGI vu hi)
  (h1:sIx items.size 0 lo=0)(h2:sIx items.size items.size hi=items.size)
  (h:Q (.ref t) s):wpAny (model prog w) A (zEP (.ref t) (.ref sl)) Q E s:=by
 obtain⟨os,hos,hcs,hds⟩:=id hs;have hTs:s.TypeIs (.ref sl) "slice":=⟨os,hos,hcs⟩;obtain⟨ot,hot,hct,hdt⟩:=id ht;unfold zEP
 try with_reducible refine zBo ?_
 first|refine zAB (zAE ?_)|skip
 refine zAB (zGE ht.typeIs (by decide) ?_);refine zAB (zBF (name:=zCT "__getitem__") ht.typeIs zAx
  (zBO zAx ht.typeIs zFX ?_ (zFb _ _)))
 show wpAny _ _ (zDO (.ref t)>>=_) _ _ s;refine zAB (zHb ht ?_);refine zAB (zD5 hTs ?_);rw[if_pos (by decide)];refine zAB (nH hs pl pu ?_);have hyes:(((sIx items.size 0 lo:Nat):Int)==0&&(1:Int)==1&&(sIx items.size items.size hi-sIx items.size 0 lo)==items.size)=true:=by
  rw[h1,h2];simp
 show wpAny _ _ (if (((sIx items.size 0 lo:Nat):Int)==0&&(1:Int)==1&&(sIx items.size items.size hi-sIx items.size 0 lo)==items.size)=true then _ else _) _ _ s;rw[if_pos hyes];unfold zIm;refine zAB (zAB (zD5 ht.typeIs (zAE ?_)));rw[if_pos (by decide)];exact zAB (zDJ (zAE ⟨_,rfl,zAE h⟩))
theorem aEK(n:Nat):zB9 none none (-1) (n:Int)=((n:Int)-1,-1):=by
 unfold zB9;rfl
theorem aEJ(n:Nat):zBI ((n:Int)-1) (-1) (-1)=n:=by
 unfold zBI;rw[if_neg (by decide)];by_cases h:n=0
 .subst h;rfl
 .rw[if_pos (by lia)]
  have e:((n:Int)-1 - -1-1) / (- -1)+1=n:=by
   rw[show(- -1:Int)=1 by decide,Int.ediv_one];lia
  rw[e];simp
theorem aHk(xs:Array Value):((zAb xs.size).filterMap λ(m:Nat)=>xs[(((xs.size:Int)-1)+(m:Int)*(-1)).toNat]?)=xs.toList.reverse:=by
 apply List.ext_getElem?;intro i;have key:∀n,n<=xs.size->((zAb n).filterMap λ(m:Nat)=>xs[(((xs.size:Int)-1)+(m:Int)*(-1)).toNat]?)=xs.toList.reverse.take n:=by
  intro n;induction n with
  |zero=>intro _;simp
  |succ n ih=>
   intro hn;rw[zFm,List.filterMap_append,ih (by lia),zHg];congr 1;have e:(((xs.size:Int)-1)+(n:Int)*(-1)).toNat=xs.size-1-n:=by lia
   simp only[zBU,List.filterMap_nil,e];rw[List.getElem?_reverse (by rw[zA7];lia)];have e2:xs.toList.length-1-n=xs.size-1-n:=by simp
   rw[e2,zBT];have hlt:xs.size-1-n<xs.size:=by lia
   rw[zBi hlt];rfl
 rw[key xs.size (zAP _),zES (by simp)]
theorem vY{n:Nat}(hs:s.heap.IsSliceOf sl .none .none (.int (-1) u))
  (h:Q ((n:Int)-1,-1,n) s):wpAny (model prog w) A (zCX (.ref sl) (pure (n:Int))) Q E s:=by
 obtain⟨os,hos,hcs,hds⟩:=id hs;unfold zCX zEp;refine zAB (zAB (zBX hos hds (x:=.none) rfl (zAB (zBX hos hds (x:=.none) rfl (zAB (zBX hos hds (x:=.int (-1) u) rfl (zAE ?_)))))));refine zAB (slicePart_int ?_);show wpAny _ _ (if ((-1:Int)==0)=true then _ else _) _ _ s;rw[if_neg (by decide)];refine zAB (zFS (zAB (zFS (zAB (zAE ?_)))));show wpAny _ _ (match zB9 none none (-1) (n:Int)with|(lo,hi)=>pure (lo,(-1:Int),zBI lo hi (-1))) _ _ s;rw[aEK n];show wpAny _ _ (pure ((n:Int)-1,(-1:Int),zBI ((n:Int)-1) (-1) (-1))) _ _ s;rw[aEJ];exact zAE h
theorem um(ht:IsTup s.heap t items)(hs:s.heap.IsSliceOf sl .none .none (.int (-1) u))
  (h:Q (.ref s.heap.objs.size) {s with heap:=s.heap.push {cls:=.type "tuple",data:=.seq items.toList.reverse.toArray}})
  (hsz:items.size<=zAV):wpAny (model prog w) A (zEP (.ref t) (.ref sl)) Q E s:=by
 have htake:sizeOk (.seq items.toList.reverse.toArray):=by
  show items.toList.reverse.toArray.size<=zAV;rw[zAR,zHN,zA7];lia
 obtain⟨os,hos,hcs,hds⟩:=id hs;have hTs:s.TypeIs (.ref sl) "slice":=⟨os,hos,hcs⟩;unfold zEP
 try with_reducible refine zBo ?_
 first|refine zAB (zAE ?_)|skip
 refine zAB (zGE ht.typeIs (by decide) ?_);refine zAB (zBF (name:=zCT "__getitem__") ht.typeIs zAx
  (zBO zAx ht.typeIs zFX ?_ (zFb _ _)))
 show wpAny _ _ (zDO (.ref t)>>=_) _ _ s;refine zAB (zHb ht ?_);refine zAB (zD5 hTs ?_);rw[if_pos (by decide)];refine zAB (vY hs ?_);show wpAny _ _ (if (((items.size:Int)-1==0&&(-1:Int)==1&&items.size==items.size))=true then _ else _) _ _ s;rw[if_neg (by simp)];rw[show((zAb items.size).filterMap λ(k:Nat)=>items[(((items.size:Int)-1)+(k:Int)*(-1)).toNat]?)=items.toList.reverse from aHk items]
 first
  |exact zAB (m:=zBM _) (zAv (zAE ⟨_,rfl,zAE h⟩) htake)
  |exact zAB (m:=zBM _) (zAv (zAB (zAE (zAE ⟨_,rfl,zAE h⟩))) htake)
  |exact zAB (zAB (m:=zBM _) (zAv (zAE (zAE ⟨_,rfl,zAE h⟩)) htake))
  |exact zAB (zAB (m:=zBM _) (zAv (zAE ⟨_,rfl,zAE h⟩) htake))
end
end HT
namespace L2
open PySem PySem.Spec PyProof.Rows
def aLQ(t T:String):Bool:=decide (t=T)||(decide (t="bool")&&decide (T="int"))
theorem aLN{K:zAA}(ht:t∈["NoneType","bool","int","str","list","tuple","dict"])(hT:T∈["bool","int","str","list","tuple","dict"]):
  zBt K (.type t) (.type T)=some (aLQ t T):=by
 simp only[zAL,zAh,or_false]at ht hT;rcases ht with rfl|rfl|rfl|rfl|rfl|rfl|rfl<;>rcases hT with rfl|rfl|rfl|rfl|rfl|rfl<;>kernel_rfl
def sG(t T:String)(b:Bool):Bool:=decide (t∈["NoneType","bool","int","str","list","tuple","dict"])&&decide (T∈["bool","int","str","list","tuple","dict"])&&(aLQ t T==b)
theorem aEk{K:zAA}(h:sG t T b=true):zBt K (.type t) (.type T)=some b:=by
 unfold sG at h;rw[zAN,zAN]at h;rw[aLN (of_decide_eq_true h.1.1) (of_decide_eq_true h.1.2),zDQ h.2]
theorem bA(h:H p=none)(o:HO):aW H (upd H p o):=λ b u q=>by rw[aX (bN q h)];exact q
section
variable{X:Cx}
def aPh(K:zAA):List V->Hp->VK->Prop:=λ xs H Q=>∃x T t b,xs=[x,.ty T]/\wJ K H x (.type t)/\sG t T b=true/\Q (.bl b) H
theorem nY:dj X (.builtin "isinstance") (aPh X.K):=by
 intro pins s Z H xs us Q I r h;obtain⟨x,T,t,b,rfl,ty,ok,q⟩:=h;obtain⟨u,w',rfl,r1,r2⟩:=vals2 r;obtain rfl:w'=zCL T:=r2;exact aGh I r1 ty (aEk ok) λ tk=>⟨.bl b,H,I.tok tk,rfl,q⟩
def aK0(K:zAA):R2:=λ x y H Q=>∃a b ns ms,x= .ref a/\y= .ref b/\SqT K H a (ns.map V.int)/\SqT K H b (ms.map V.int)/\Q (.bl (HT.lexLe ns ms)) H
theorem aN6(hu:X.A.units<cLine):OpR X (zAs .LtE) (aK0 X.K):=by
 intro pins s Z H x y v u Q I rx ry h;obtain⟨a,b,ns,ms,rfl,rfl,ha,hb,q⟩:=h;cases rx;cases ry;obtain⟨its,r1,p1,_⟩:=I.tuple ha;obtain⟨its2,r2,p2,_⟩:=I.tuple hb;have i1:zBS its.toArray.toList ns:=intsAre_of r1;have i2:zBS its2.toArray.toList ms:=intsAre_of r2;exact HT.aEg p1 p2 i1 i2 hu ⟨.bl (HT.lexLe ns ms),H,I,rfl,q⟩
theorem aI2:OpR X (zAs .Is) (λ x y H Q=>∃b c,x= .bl b/\y= .bl c/\Q (.bl (b==c)) H):=by
 intro pins s Z H x y v u Q I rx ry h;obtain⟨b,c,rfl,rfl,q⟩:=h;cases rx;cases ry;exact is_bool (aJW I q rfl)
theorem Inv.big'(I:Inv X pins Z H s):zC7<s.heap.objs.size:=by
 have h:zAY<s.heap.objs.size:=(I.mod.glob.keeps I.bk).lt;exact zCR (by decide) h
def aO9:TE:=λ _ H Q=>∀p,H p=none->Q (.ref p) (upd H p (.dK []))
theorem aKf:PE X (.Dict [] [] pos) aO9:=λ pins s Z H Q I h=>
 wpAny_Dict_empty ⟨.ref s.heap.objs.size,_,I.laid (a:=s.heap.objs.size) (o:=.dK []) (t':=s.toks) (λ _ _ q=>zAC _ q) (zAP _)
  ⟨zAa _,beq_eq_false_iff_ne.mpr (zDG (zAU I.big')),[],.nil,Heap.DictOf.new s.heap⟩,rfl,h _ (I.hok.fresh (zAP _))⟩
end
def ni(l:Addr)(H H':Hp):Prop:=∀b o,b≠l->H b=some o->H' b=some o
theorem aW.sqt{K:zAA}(e:aW H H')(h:SqT K H a xs):SqT K H' a xs:=by
 rcases h with (h|⟨o,h⟩)|h
 .exact .inl (.inl (e _ _ h))
 .exact .inl (.inr ⟨o,e _ _ h⟩)
 .exact .inr h
inductive D where
 |non|bl (b:Bool)|int (i:Int)|str (x:Str)|tup (l:List D)|lst (l:List D)|dct
mutual
inductive Rep(H:Hp):V->D->Prop where
 |non:Rep H .non .non
 |bl (b:Bool):Rep H (.bl b) (.bl b)
 |int (i:Int):Rep H (.int i) (.int i)
 |str (x:Str):Rep H (.str x) (.str x)
 |tup {a:Addr} {xs:List V} {ds:List D} (h:H a=some (.tup xs)) (r:aJk H xs ds):Rep H (.ref a) (.tup ds)
 |lst {a:Addr} {xs:List V} {ds:List D} (h:H a=some (.lst xs)) (r:aJk H xs ds):Rep H (.ref a) (.lst ds)
 |dct {a:Addr} (h:H a=some (.dK [])):Rep H (.ref a) .dct
inductive aJk(H:Hp):List V->List D->Prop where
 |nil:aJk H [] []
 |cons {x:V} {d:D} {xs:List V} {ds:List D} (h:Rep H x d) (r:aJk H xs ds):aJk H (x::xs) (d::ds)
end
theorem PE.weaken(h:PE X e t)(imp:∀Z H Q,t' Z H Q->t Z H Q):PE X e t':=λ pins s Z H Q I q=>h pins s Z H Q I (imp Z H Q q)
theorem OpR.weaken(h:OpR X f r)(imp:∀x y H Q,r' x y H Q->r x y H Q):OpR X f r':=λ pins s Z H x y v u Q I rx ry q=>h pins s Z H x y v u Q I rx ry (imp x y H Q q)
def New(H:Hp)(o:HO)(Q:VK):Prop:=∀p H',aW H H'->H' p=some o->H p=none->Q (.ref p) H'
theorem New.at(n:New H o Q)(hp:H p=none):Q (.ref p) (upd H p o):=n p _ (bA hp o) aj hp
section
variable{X:Cx}{es:List Expr}{t:TA}{pos:Pos}
def aO4(t:TA):TE:=λ Z H Q=>t Z H λ xs H1=>xs.length<=zAV/\New H1 (.tup xs) Q
def aHY(t:TA):TE:=λ Z H Q=>t Z H λ xs H1=>xs.length<=zAV/\New H1 (.lst xs) Q
theorem aKd{x1}(h:PA X es t):PE X (.Tuple es x1 pos) (aO4 t):=by
 have h':PA X es (λ Z H Q=>∃R:List V->Hp->Prop,t Z H R/\∀xs H',R xs H'->Q xs H'):=by
  intro pos pins s Z H Q I ⟨R,q,imp⟩;exact thn (h pos pins s Z H R I q) λ us s' ⟨vs,H',I',r,q'⟩=>⟨vs,H',I',r,imp _ _ q'⟩
 exact(aNJ h').weaken λ Z H Q q=>⟨_,q,λ xs H' ⟨z,n⟩=>⟨z,λ p hp=>n.at hp⟩⟩
theorem qj(h:PA X es t):PE X (.List es pos) (aHY t):=by
 have h':PA X es (λ Z H Q=>∃R:List V->Hp->Prop,t Z H R/\∀xs H',R xs H'->Q xs H'):=by
  intro pos pins s Z H Q I ⟨R,q,imp⟩;exact thn (h pos pins s Z H R I q) λ us s' ⟨vs,H',I',r,q'⟩=>⟨vs,H',I',r,imp _ _ q'⟩
 exact(aNN h').weaken λ Z H Q q=>⟨_,q,λ xs H' ⟨z,n⟩=>⟨z,λ p hp=>n.at hp⟩⟩
def aM7:TE:=λ _ H Q=>New H (.dK []) Q
theorem aIO:PE X (.Dict [] [] pos) aM7:=aKf.weaken λ Z H Q n p hp=>n.at hp
def aHw:R2:=λ x y H Q=>∃l b xs zs,x= .ref l/\y= .ref b/\H l=some (.lst xs)/\H b=some (.lst zs)/\xs.length+zs.length<=zAV/\New H (.lst (xs++zs)) Q
theorem aF8:OpR X (zCU .Add) aHw:=aNc.weaken λ x y H Q ⟨l,b,xs,zs,e1,e2,h1,h2,z,n⟩=>⟨l,b,xs,zs,e1,e2,h1,h2,z,λ p hp=>n.at hp⟩
def zH:V->List V->Hp->VK->Prop:=λ x vs H Q=>∃l xs y,x= .ref l/\vs=[y]/\H l=some (.lst xs)/\xs.length<zAV/\∀H',ni l H H'->H' l=some (.lst (xs++[y]))->Q .non H'
theorem zX:MtM X "list.append" zH:=λ pins s Z H x xs v us Q I rx rv ⟨l,ys,y,e1,e2,h,z,n⟩=>
 vq pins s Z H x xs v us Q I rx rv ⟨l,ys,y,e1,e2,h,z,n _ (λ b o ne hb=>by rw[aX ne];exact hb) aj⟩
end
def az(scope:Scope)(env:Env):List (Str×Addr):=(scope.names.filterMap λ y=>if y.2== .free then(env.cells.lookup y.1).map λ c=>(y.1,c)else none).reverse
theorem aAV(env:Env):∀(names:List (Str×zDh)) (acc:List (Str×Addr)),(∀y∈names,y.2= .free->∃c,env.cells.lookup y.1=some c)->
  (forIn names acc λ(x:Str×zDh) r=>if (x.2== .free)=true then do let c <-cellOf env x.1;pure (zBf ((x.1,c)::r))else pure (zBf r):Sem (List (Str×Addr)))=
   pure ((names.filterMap λ y=>if y.2== .free then(env.cells.lookup y.1).map λ c=>(y.1,c)else none).reverse++acc)
 |[],acc,_=>rfl
 |(n,k)::r,acc,h=>by
  rw[zFj];have ih:=λ acc'=>aAV env r acc' λ y hy=>h y (zAM _ hy)
  by_cases hk:k= .free
  .subst hk
   obtain⟨c,hc⟩:=h (n,.free) zAK rfl;have hc':env.cells.lookup n=some c:=hc;simp only[beq_self_eq_true,if_true,cellOf,hc',zBU,zC5,zDL,zBg,List.singleton_append];exact ih _
  .have hb:(k==zCB)=false:=by simpa using hk
   simp only[hb,zAn,if_false,zBU];exact ih _
theorem j9(h:∀y∈scope.names,y.2= .free->∃c,env.cells.lookup y.1=some c):zFC scope env=pure (az scope env):=by
 have e:=aAV env scope.names [] h;rw[zAy]at e;have e2:zFC scope env=((forIn scope.names ([]:List (Str×Addr)) λ(x:Str×zDh) r=>if (x.2== .free)=true then do let c <-cellOf env x.1;pure (zBf ((x.1,c)::r))else pure (zBf r):Sem (List (Str×Addr)))>>=λ r=>pure r):=rfl;rw[e2,e];rfl
theorem iU(h:(az scope env).lookup x=some c):env.cells.lookup x=some c:=by
 have hm:=zAi h;unfold az at hm;rw[zCp,zCI]at hm;obtain⟨y,hy,e⟩:=hm;split at e
 .cases q:env.cells.lookup y.1 with
  |none=>rw[q]at e;cases e
  |some c'=>
   rw[q]at e;have e':=zAp e;injection e' with e1 e2
   subst e1 e2;exact q
 .cases e
theorem vI(hx:scope.names.lookup x=some .free)(h:env.cells.lookup x=some c):(az scope env).lookup x=some c:=by
 have hm:(x,zCB)∈scope.names:=zAi hx
 have:(x,c)∈az scope env:=by
  unfold az;rw[zCp,zCI];exact⟨_,hm,by simp[h]⟩
 cases q:(az scope env).lookup x with
 |none=>
  exact absurd this (by
   intro hm'
   have:=List.lookup_eq_none_iff.mp q _ hm'
   simp at this)
 |some c'=>
  have:=iU q
  rw[h]at this;exact this.symm▸rfl
def xV(scope:Scope)(C:Addr):List (Str×Addr):=zCu (C+1) scope.names []
theorem nW:∀(names:List (Str×zDh)) (n:Nat) (acc:List (Str×Addr)),zCu n names acc=zCu n names []++acc
 |[],_,_=>rfl
 |(x,k)::r,n,acc=>by
  unfold zCu;split
  .rw[nW r (n+1) ((x,n)::acc),nW r (n+1) [(x,n)],zBg];rfl
  .exact nW r n acc
theorem uJ:∀{names:List (Str×zDh)} {n:Nat} {x:Str} {c:Addr},(x,c)∈zCu n names []->(x,zDV)∈names
 |(y,k)::r,n,x,c,h=>by
  unfold zCu at h;split at h
  .rename_i hk
   rw[nW,zA2]at h;rcases h with h|h
   .exact zAM _ (uJ h)
   .have e:=zAS.mp h
    cases e;rw[zDQ hk];exact zAK
  .exact zAM _ (uJ h)
 |[],_,_,_,h=>by cases h
theorem nP{l m:List (Str×Addr)}(h:(l++m).lookup x=some c):l.lookup x=some c\/(l.lookup x=none/\m.lookup x=some c):=by
 rw[zFA]at h;cases e:l.lookup x with
 |some c'=>rw[e]at h;exact .inl h
 |none=>rw[e]at h;exact .inr ⟨rfl,h⟩
theorem aFc{M:Model}{A:zAj}{E:Value->zAH->Prop}{s:zAH}{scope:Scope}{globals:Addr}{cl:List (Str×Addr)}{qual:Str}{env:Env}{Q:Env->zAH->Prop}
  (h:∀h':Heap,h'.Ns s.heap.objs.size (λ _=>none)->(∀b o,s.heap.get? b=some o->h'.get? b=some o)->CellsOk h' (s.heap.objs.size+1) (xV scope s.heap.objs.size)->
   Q {scope:=scope,locals:=s.heap.objs.size,globals:=globals,cells:=xV scope s.heap.objs.size++cl,qual:=qual,func:=none,code:=env.code,frame:=env.frame,builtins:=env.builtins} {s with heap:=h'}):
  wpAny M A (zFQ scope globals cl [] qual none .none (some env)) Q E s:=by
 simp only[zFQ,Option.isSome_some,if_true];refine zAB (wpAny_alloc ?_);refine zAB (wpAny_layCells _ (λ name kind cells=>by cases hkc:kind==zDV<;>simp[hkc]) _ _ _ _ ?_);have ok:=cellsFrom_ok scope.names (s.heap.push {cls:=.type "dict",data:=.dict #[]}) (s.heap.objs.size+1) [] ⟨λ _ _ hm=>(nomatch hm),zFt⟩ (by rw[zBE];exact zAP _);rw[zBE]at ok;rw[show({s with heap:=s.heap.push {cls:=.type "dict",data:=.dict #[]}}:zAH).heap.objs.size=s.heap.objs.size+1 from zBE ..,nW];refine zAE ?_;exact h _ ((Heap.Ns.new s.heap (.type "dict")).keeps (pushCells_keeps _ _)) (λ b o e=>pushCells_keeps _ _ b o (zAC _ e)) ok
def Cx.block(X:Cx)(scope:Scope)(C:Addr)(N:List Str)(fp:List Addr)(z0:zAH)(zI:Hp):Cx:=
  {prog:=X.prog,w:=X.w,K:=X.K,mg:=X.mg,base:=X.base,A:=X.A,N:=N,z0:=z0,zI:=zI,env:=compEnvC scope (xV scope C++az scope X.env) C X.env,outer:=X.stack,stack:=X.stack,ex:=fp,
    fn:=λ x=>scope.names.lookup x==some .cell,calm:=X.calm,pn:=[],xe:=λ _ _=>False}
structure fj(X:Cx)(scope:Scope)(N:List Str)(st:St->St)(ks:List Nat):Prop where
 kind:scope.kind= .function
 sep:∀y∈scope.names,y.2= .cell->scope.names.lookup y.1=some .cell
 loc:∀y∈scope.names,y.2= .local->scope.names.lookup y.1=some .local
 free:∀y∈scope.names,y.2= .free->X.env.kindOf y.1=some .cell\/X.env.kindOf y.1=some .free
 len:∀Z,(st Z).length=N.length
 val:∀Z (i:Nat) x v,N[i]? =some x->(st Z)[i]? =some (some v)->scope.names.lookup x=some .free/\i∉ks/\∃j:Nat,X.N[j]? =some x/\Z[j]? =some (some v)
theorem aBv(h:(zGC scope env).names.lookup x=some .cell\/(zGC scope env).names.lookup x=some .free):scope.names.lookup x=some .free\/scope.names.lookup x=some .cell:=by
 have go:∀names:List (Str×zDh),((names.map λ(n,k)=>if (k==zCB&&env.scope.kind== .function&&env.kindOf n==some .cell)then(n,zDV)else(n,k)).lookup x=some .cell\/
   (names.map λ(n,k)=>if (k==zCB&&env.scope.kind== .function&&env.kindOf n==some .cell)then(n,zDV)else(n,k)).lookup x=some .free)->names.lookup x=some .free\/names.lookup x=some .cell:=by
  intro names;induction names with
  |nil=>intro h;simp at h
  |cons y r ih=>
   obtain⟨n,k⟩:=y;intro h;rw[zAG]at h;by_cases hx:x==n
   .rw[zAc,hx]
    show some k=some .free\/some k=some .cell;by_cases hcc:(k==zCB&&env.scope.kind== .function&&env.kindOf n==some .cell)=true
    .rw[zAN,zAN]at hcc
     rw[zDQ hcc.1.1];exact .inl rfl
    .simp only[if_neg hcc,zAc,hx]at h
     exact h.elim .inr .inl
   .have hx':(x==n)=false:=by simpa using hx
    rw[zAc,hx'];refine ih ?_;by_cases hcc:(k==zCB&&env.scope.kind== .function&&env.kindOf n==some .cell)=true
    .simp only[if_pos hcc,zAc,hx']at h
     exact h
    .simp only[if_neg hcc,zAc,hx']at h
     exact h
 exact go scope.names h
theorem aBw(h:scope.names.lookup x=some .free):(zGC scope env).names.lookup x=some .cell\/(zGC scope env).names.lookup x=some .free:=by
 have go:∀names:List (Str×zDh),names.lookup x=some .free->((names.map λ(n,k)=>if (k==zCB&&env.scope.kind== .function&&env.kindOf n==some .cell)then(n,zDV)else(n,k)).lookup x=some .cell\/
   (names.map λ(n,k)=>if (k==zCB&&env.scope.kind== .function&&env.kindOf n==some .cell)then(n,zDV)else(n,k)).lookup x=some .free):=by
  intro names;induction names with
  |nil=>intro h;simp at h
  |cons y r ih=>
   obtain⟨n,k⟩:=y;intro h;rw[zAG];by_cases hx:x==n
   .rw[zAc,hx]at h
    have hk:k= .free:=zAp h;by_cases hcc:(k==zCB&&env.scope.kind== .function&&env.kindOf n==some .cell)=true
    .simp only[if_pos hcc,zAc,hx]
     exact .inl trivial
    .simp only[if_neg hcc,zAc,hx]
     exact .inr (by rw[hk])
   .have hx':(x==n)=false:=by simpa using hx
    rw[zAc,hx']at h;by_cases hcc:(k==zCB&&env.scope.kind== .function&&env.kindOf n==some .cell)=true
    .simp only[if_pos hcc,zAc,hx']
     exact ih h
    .simp only[if_neg hcc,zAc,hx']
     exact ih h
 exact go scope.names h
section
variable{X:Cx}{pins:List (Addr×Obj)}{Z:St}{H:Hp}{s:zAH}
theorem Inv.block{st:St->St}{D C:Addr}(I:Inv X pins Z H s)(B:fj X scope N st ks)
  (hfp:∀b∈fp,rQ X pins H b)(hob:∀b∈fp,∃ob,s.heap.get? b=some ob)
  (hD:s.heap.objs.size<=D)(hC:s.heap.objs.size<=C)(hDC:D≠C)(keep:∀b u,s.heap.get? b=some u->h'.get? b=some u)(hns:h'.Ns C λ _=>none)(hcs:CellsOk h' (C+1) (xV scope C))(hDo:∀c,C<c->D≠c)(hacc:cR X.prog X.w (upd H D o) h' D o):
  Inv (X.block scope C N fp s H) [] (st Z) (upd H D o) {s with heap:=h',toks:=tk}:=by
 have hHD:H D=none:=I.hok.fresh hD;have hcl:∀x c,(az scope X.env).lookup x=some c->X.env.cells.lookup x=some c:=λ x c e=>iU e
 have hol:∀x c,(xV scope C).lookup x=some c->C<c/\h'.IsCell c none:=λ x c e=>let⟨q1,q2⟩:=hcs.empty x c (zAi e);⟨q2,q1⟩
 have hlt:∀x c,(az scope X.env).lookup x=some c->c<s.heap.objs.size:=λ x c e=>let⟨v,ic⟩:=I.cell x c (hcl x c e);ic.lt
 have hfresh:∀b∈fp,b<s.heap.objs.size:=λ b hb=>by
  obtain⟨ob,e⟩:=hob b hb;exact zAO e
 refine⟨⟨I.mod,?_,I.ok.glob,I.ok.blt,hC,λ x y c e1 e2=>?_,λ x hx=>?_,λ x c hf e=>?_,I.ok.hd,I.ok.frames,.inl rfl,λ b hb=>⟨?_,λ x c e z=>?_⟩,
  I.bs,?_,λ b ob e hb=>?_,λ b hb hs=>?_,I.stack,I.stkFree⟩,rfl,I.bare,Un.laid keep hD hHD,⟨_,hns,λ i x v e1 e2 hv=>?_⟩,λ x c e=>?_,?_,λ x c e=>?_,λ p hp=>absurd (show p∈([]:List (Addr×Obj))from hp) (by simp),I.hok.laid keep hD hacc,B.len Z,λ p hp=>absurd (show p∈([]:List (Addr×Obj))from hp) (by simp)⟩
 .show(zGC scope X.env).kind= .function
  exact B.kind
 .rcases nP e1 with a1|⟨_,a1⟩<;>rcases nP e2 with a2|⟨_,a2⟩
  .exact PySem.name_of_addr hcs.apart (zAi a1) (zAi a2)
  .exact absurd (hlt y c a2) (zFU.mpr (zAm hC (zBm (hol x c a1).1)))
  .exact absurd (hlt x c a1) (zFU.mpr (zAm hC (zBm (hol y c a2).1)))
  .exact I.ok.inj x y c (hcl x c a1) (hcl y c a2)
 .show∃c,(xV scope C++az scope X.env).lookup x=some c
  rw[zFA];cases e:(xV scope C).lookup x with
  |some c=>exact⟨c,rfl⟩
  |none=>
   rcases aBv hx with hfree|hcell
   .obtain⟨c,hc⟩:=I.ok.has x (B.free (x,.free) (zAi hfree) rfl)
    exact⟨c,vI hfree hc⟩
   .obtain⟨c,hc⟩:=vJ (n:=C+1) hcell
    rw[show(xV scope C).lookup x=some c from hc]at e;cases e
 .rcases nP e with a1|⟨a0,_⟩
  .exact zAm hC (zBm (hol x c a1).1)
  .obtain⟨c',hc'⟩:=vJ (n:=C+1) (zDQ hf)
   rw[show(xV scope C).lookup x=some c' from hc']at a0;cases a0
 .exact zAU (zAW (hfresh b hb) hC)
 .rcases nP e with a1|⟨_,a1⟩
  .exact absurd (hfresh b hb) (zFU.mpr (by rw[<-z];exact zAm hC (zBm (hol x c a1).1)))
  .exact(hfp b hb).2.2.2.2.1 x c (hcl x c a1) z
 .exact zAm I.ok.bsz I.sz
 .rcases(hfp b hb).2.2.2.1 with z|z
  .exact I.ok.noex b ob e z
  .exact absurd (zAW (zAO (I.ok.bs b ob e).1) z) (zBW _)
 .rcases zAL.mp (I.stkSub b hs)with z|z
  .exact(hfp b hb).2.1 z
  .exact(hfp b hb).2.2.1 z
 .obtain⟨hfree,_,j,f1,f2⟩:=B.val Z i x v e1 e2
  obtain⟨m,hn,hl⟩:=I.loc;have hk:=B.free (x,.free) (zAi hfree) rfl;obtain⟨u,ru,hu⟩:=hl j x v f1 f2 (hk.elim (λ z=>.inr (.inl z)) λ z=>.inr (.inr z));rcases hu with ⟨k,_⟩|⟨_,c,ec,ic⟩
  .rcases hk with z|z
   .exact absurd (k.symm.trans z) (by decide)
   .exact absurd (k.symm.trans z) (by decide)
  .have hno:(xV scope C).lookup x=none:=by
    cases e:(xV scope C).lookup x with
    |none=>rfl
    |some c'=>
     have:=B.sep _ (uJ (zAi e)) rfl
     rw[hfree]at this;cases this
   refine⟨u,ru,.inr ⟨?_,c,by show(xV scope C++az scope X.env).lookup x=some c;rw[zFA,hno];exact vI hfree ec,ic.keeps keep⟩⟩;rcases hv with z|z|z
   .have z':(zGC scope X.env).names.lookup x=some .local:=z
    rcases aBw (env:=X.env) hfree with y|y
    .exact absurd (z'.symm.trans y) (by decide)
    .exact absurd (z'.symm.trans y) (by decide)
   .exact .inl z
   .exact .inr z
 .rcases nP e with a1|⟨_,a1⟩
  .exact⟨_,(hol x c a1).2⟩
  .obtain⟨v,ic⟩:=I.cell x c (hcl x c a1)
   exact⟨v,ic.keeps keep⟩
 .show upd H D o C=none
  rw[aX (zDG hDC)];exact I.hok.fresh hC
 .show upd H D o c=none
  rcases nP e with a1|⟨_,a1⟩
  .rw[aX (zDG (hDo c (hol x c a1).1))]
   exact I.hok.fresh (zAm hC (zBm (hol x c a1).1))
  .obtain⟨v,ic⟩:=I.cell x c (hcl x c a1)
   rw[aX (zAU (zAW ic.lt hD))];exact I.freeC x c (hcl x c a1)
end
section
variable{prog:zA3}{w:World}{A:zAj}{R:zFO->zAH->Prop}{s:zAH}
theorem aCW(I:Nat->zAH->Prop)
  (turn:∀n s,I n s->wpAny (model prog w) A (zEd it) (λ r zD=>match r with
   |none=>R (.ok .next) zD
   |some v=>wpAny (model prog w) A (zDR target it v) (λ _ zD=>wpAny (model prog w) A (zGM target env v) (λ _ zS=>
     wpAny (model prog w) A (forIn ifs true λ c r=>if r=true then do let ok <-isTrue c env (eval c env);pure (zBf ok)else pure (zBf r)) (λ ok y9=>
      if ok=true then wpAny (model prog w) A (eval elt env) (λ x yY=>
       wpAny (model prog w) A (call (.builtin "list.append") [acc,x]) (λ _ s₅=>∃m,m<n/\I m s₅) (λ _ _=>False) yY) (λ _ _=>False) y9
      else∃m,m<n/\I m y9) (λ _ _=>False) zS) (λ _ _=>False) zD) (λ _ _=>False) zD) (λ _ _=>False) s)
  (n:Nat)(h:I n s):zBs (model prog w) A (.compLoop (.ListComp elt [⟨target,iter,ifs,0⟩] scope pos) 0 it acc env) R s:=by
 refine codeAny_loop rfl I (λ n s hI=>?_) n h;show wpAny _ A ((zId (.ListComp elt [⟨target,iter,ifs,0⟩] scope pos) 0 it acc env).onRaise (λ x=>do noteFrame x env;theTreesLotGoes x)) _ _ s;refine wpAny_noted ?_;rw[compTurn_list];refine zAB (zDj (zAB (zAz (turn n s hI) (λ r zD zC=>?_) λ _ _ h'=>h'.elim)));cases r with
 |none=>exact zAE zC
 |some v=>
  refine zAB (zAz zC (λ _ zD zC=>?_) λ _ _ h'=>h'.elim);refine zAB (zAz zC (λ _ zS y7=>zAB (zAz y7 (λ ok y9 yT=>?_) λ _ _ h'=>h'.elim)) λ _ _ h'=>h'.elim);cases ok with
  |false=>exact zAE ⟨rfl,yT⟩
  |true=>
   exact zAB (zAB (zAz yT (λ x yY h₄=>zAB (zAz h₄ (λ _ s₅ h₅=>zAE (zAE ⟨rfl,h₅⟩)) λ _ _ h'=>h'.elim)) λ _ _ h'=>h'.elim))
end
def pB(g:TG)(ks:List Nat):Prop:=∀v Z H (Q:St->Hp->Prop),g v Z H Q->g v Z H (λ Z' H'=>Q Z' H'/\Z'.length=Z.length/\∀k,k∉ks->Z'[k]? =Z[k]?)
def aAZ(g:TGs)(ks:List Nat):Prop:=∀vs Z H (Q:St->Hp->Prop),g vs Z H Q->g vs Z H (λ Z' H'=>Q Z' H'/\Z'.length=Z.length/\∀k,k∉ks->Z'[k]? =Z[k]?)
theorem aL2(h:i∈ks):pB (sH i) ks:=λ v Z H Q q=>⟨q,zB8,λ k hk=>zBZ (λ(e:i=k)=>hk (e▸h))⟩
theorem aL1:aAZ aOD ks:=λ vs Z H Q ⟨e,q⟩=>⟨e,q,rfl,λ _ _=>rfl⟩
def aB9(g:TG):Prop:=∀v Z H (Q Q':St->Hp->Prop),(∀Z' H',Q Z' H'->Q' Z' H')->g v Z H Q->g v Z H Q'
def wL(g:TGs):Prop:=∀v Z H (Q Q':St->Hp->Prop),(∀Z' H',Q Z' H'->Q' Z' H')->g v Z H Q->g v Z H Q'
theorem aL4:aB9 (sH i):=λ v Z H Q Q' imp q=>imp _ _ q
theorem aL3:wL aOD:=λ v Z H Q Q' imp ⟨e,q⟩=>⟨e,imp _ _ q⟩
theorem aJQ(h1:aB9 t)(h2:wL u):wL (aJS t u):=λ vs Z H Q Q' imp ⟨v,r,e,q⟩=>⟨v,r,e,h1 _ _ _ _ _ (λ Z' H' q'=>h2 _ _ _ _ _ imp q') q⟩
theorem aJM(h1:pB t ks)(m1:aB9 t)(h2:aAZ u ks)(m2:wL u):aAZ (aJS t u) ks:=λ vs Z H Q ⟨v,r,e,q⟩=>
 ⟨v,r,e,m1 _ _ _ _ _ (λ Z' H' ⟨q',l',k'⟩=>m2 _ _ _ _ _ (λ Z2 H2 ⟨q2,l2,k2⟩=>⟨q2,l2.trans l',λ k hk=>(k2 k hk).trans (k' k hk)⟩) (h2 _ _ _ _ q')) (h1 _ _ _ _ q)⟩
theorem aCT{K:zAA}(h:aAZ t ks):pB (aL5 K n t) ks:=λ v Z H Q ⟨a,xs,e1,e2,e3,q⟩=>⟨a,xs,e1,e2,e3,h _ _ _ _ q⟩
theorem aOC{K:zAA}(h:wL t):aB9 (aL5 K n t):=λ v Z H Q Q' imp ⟨a,xs,e1,e2,e3,q⟩=>⟨a,xs,e1,e2,e3,h _ _ _ _ _ imp q⟩
def aC7(X:Cx)(ifs:List Expr)(t:TT):Prop:=
 ∀(pins:List (Addr×Obj)) (s:zAH) (Z:St) (H:Hp) (Q:Bool->Hp->Prop),Inv X pins Z H s->t Z H Q->
  wpAny (model X.prog X.w) X.A (forIn ifs true λ c r=>if r=true then do let ok <-isTrue c X.env (eval c X.env);pure (zBf ok)else pure (zBf r)) (TP X pins Z Q) X.xe s
def aP6:TT:=λ _ H Q=>Q true H
theorem aNI:aC7 X [] aP6:=λ _ _ _ H _ I h=>wpAny_tests_nil ⟨H,I,h⟩
theorem aNH(h:PT X c t):aC7 X [c] t:=λ pins s Z H Q I q=>wpAny_tests_one (h pins s Z H Q I q)
def tLC(wi:TI)(st:St->St)(g:TG)(tt:TT)(te:TE):TE:=λ Z H Q=>wi Z H λ J H1=>∀l,H1 l=none->∃W:Nat->Nat->List V->Hp->Prop,(∃m,W 0 m [] (upd H1 l (.lst [])))/\
 ∀i m acc H2,W i m acc H2->H2 l=some (.lst acc)/\acc.length<zAV/\((J.stop i H2/\Q (.ref l) H2)\/(J.go i H2/\∀x H3,J.yld i H2 x H3->g x (st Z) H3 λ Z4 H4=>tt Z4 H4 λ ok H5=>
  if ok=true then te Z4 H5 λ y H6=>H6 l=some (.lst acc)/\∃m',m'<m/\W (i+1) m' (acc++[y]) (upd H6 l (.lst (acc++[y])))else∃m',m'<m/\W (i+1) m' acc H5))
section
variable{X:Cx}{elt tg iter:Expr}{ifs:List Expr}{scope:Scope}{pos:Pos}{N:List Str}{st:St->St}{ks:List Nat}{wi:TI}{g:TG}{tt:TT}{te:TE}
theorem aDO(B:fj X scope N st ks)(hc:X.calm=true)(hg:∀C fp z0 zI,PG (X.block scope C N fp z0 zI) tg g)(hgo:pB g ks)(ht:∀C fp z0 zI,aC7 (X.block scope C N fp z0 zI) ifs tt)
  (he:∀C fp z0 zI,PE (X.block scope C N fp z0 zI) elt te){H1:Hp}{Q:VK}{RR:Value->Addr->zFO->zAH->Prop}
  (I:Inv X pins Z H1 zS)(T:Turn X.prog X.w X.K tg J fp it tn)(h0:tn 0 zS.heap)(hfp:∀b∈fp,rQ X pins H1 b)
  (h:∀l,H1 l=none->∃W:Nat->Nat->List V->Hp->Prop,(∃m,W 0 m [] (upd H1 l (.lst [])))/\
   ∀i m acc H2,W i m acc H2->H2 l=some (.lst acc)/\acc.length<zAV/\((J.stop i H2/\Q (.ref l) H2)\/(J.go i H2/\∀x H3,J.yld i H2 x H3->g x (st Z) H3 λ Z4 H4=>tt Z4 H4 λ ok H5=>
    if ok=true then te Z4 H5 λ y H6=>H6 l=some (.lst acc)/\∃m',m'<m/\W (i+1) m' (acc++[y]) (upd H6 l (.lst (acc++[y])))else∃m',m'<m/\W (i+1) m' acc H5)))
  (hRR:∀D C H' s',(∃Z',Inv (X.block scope C N fp zS H1) [] Z' H' s')->zS.heap.objs.size<=C->Q (.ref D) H'->RR (.ref D) C (.ok .next) s'):
  wpAny (model X.prog X.w) X.A (zGj []) (λ acc y9=>wpAny (model X.prog X.w) X.A (zFQ scope X.env.globals (az scope X.env) [] X.env.qual none .none (some X.env)) (λ cenv yY=>
   zBs (model X.prog X.w) X.A (.compStart (.ListComp elt [⟨tg,iter,ifs,0⟩] scope pos) 0 (.ref it) acc {cenv with scope:=zGC scope X.env}) (RR acc cenv.locals) yY) E y9) E zS:=by
 refine zAv (aFc λ zC y6 y8 y3=>?_);dsimp only at y6 y8 y3 ⊢;generalize hH2:zS.heap.push {cls:=.type "list",dict:=none,data:=.seq ([]:List Value).toArray}=P2 at y6 y8 y3 ⊢;have hC:P2.objs.size=zS.heap.objs.size+1:=by rw[<-hH2,zBE]
 have hDC:zS.heap.objs.size≠P2.objs.size:=by rw[hC];exact zAU (zBa _)
 have hCle:zS.heap.objs.size<=P2.objs.size:=by rw[hC];exact zEN _
 have old:∀b o,zS.heap.get? b=some o->zC.get? b=some o:=λ b o e=>y8 b o (hH2▸zAC _ e)
 have hacc:zC.get? zS.heap.objs.size=some {cls:=.type "list",dict:=none,data:=.seq ([]:List Value).toArray}:=y8 _ _ (hH2▸zAJ _ rfl);generalize hCe:P2.objs.size=C at y6 y8 y3 hDC hCle hC ⊢;have hHD:H1 zS.heap.objs.size=none:=I.hok.fresh (zAP _);have I0:Inv (X.block scope C N fp zS H1) [] (st Z) (upd H1 zS.heap.objs.size (.lst [])) {zS with heap:=zC,toks:=zS.toks}:=
  I.block B hfp (λ b hb=>by obtain⟨o,e,_⟩:=T.obj 0 _ h0 b hb;exact⟨o,e⟩) (zAP _) hCle hDC old y6 y3 (λ c hc=>zAU (zFE hCle hc)) ⟨zAa _,[],0,.nil,hacc⟩
 obtain⟨W,⟨m0,w0⟩,step⟩:=h _ hHD;have h01:tn 0 zC:=T.keep 0 _ _ h0 λ b _ o e=>old b o e
 have stat:∀{H':Hp},(∀b∈fp,H' b=none)->∀b∈fp,rQ (X.block scope C N fp zS H1) [] H' b:=λ{H'} hn b hb=>
  ⟨hn b hb,(I0.ok.exf b hb).1,I0.ok.exfs b hb,.inl hb,λ x c e=>(I0.ok.exf b hb).2 x c e,λ p hp=>absurd (show p∈([]:List (Addr×Obj))from hp) (by simp)⟩
 have fr0:∀b∈fp,upd H1 zS.heap.objs.size (.lst []) b=none:=λ b hb=>by
  obtain⟨o,e,_⟩:=T.obj 0 _ h0 b hb;rw[aX (zAU (zAO e))];exact(hfp b hb).1
 have loop:∀y9:zAH,y9={zS with heap:=zC,toks:=zS.toks}->
   zBs (model X.prog X.w) X.A (.compLoop (.ListComp elt [⟨tg,iter,ifs,0⟩] scope pos) 0 (.ref it) (.ref zS.heap.objs.size) (X.block scope C N fp zS H1).env) (RR (.ref zS.heap.objs.size) C) y9:=by
  rintro y9 rfl;refine aCW (λ n s'=>∃i acc H2,Inv (X.block scope C N fp zS H1) [] (st Z) H2 s'/\tn i s'.heap/\(∀b∈fp,H2 b=none)/\W i n acc H2) ?_ m0 ⟨0,[],_,I0,h01,fr0,w0⟩;rintro n s3 ⟨i,acc,H2,I2,st2,fr2,w2⟩;obtain⟨hl,hz,alt⟩:=step i n acc H2 w2;rcases alt with ⟨stop,q⟩|⟨go,nxt⟩
  .refine thn (T.done (X.block scope C N fp zS H1) rfl rfl rfl hc i [] s3 (st Z) H2 _ I2 (stat fr2) st2 stop) λ r s4 ⟨hr,I4⟩=>?_
   subst hr;exact hRR _ C H2 s4 ⟨_,I4⟩ hCle q
  .refine thn (T.item (X.block scope C N fp zS H1) rfl rfl rfl hc i [] s3 (st Z) H2 _ I2 (stat fr2) st2 go) λ r s4 ⟨u,hr,h4⟩=>?_
   subst hr;refine thn h4 λ _ s5 ⟨x,H5,I5,r5,y5,st5,fr5⟩=>?_
   have I5':=I5.pinned (stat fr5) (T.obj _ _ st5);refine thn (hg C fp zS H1 _ s5 (st Z) H5 x u _ I5' r5 (hgo _ _ _ _ (nxt x H5 y5))) λ _ s6 ⟨Z6,H6,I6,q6,aEf,ag6⟩=>?_
   refine thn (ht C fp zS H1 _ s6 Z6 H6 _ I6 q6) λ ok s7 ⟨H7,I7,q7⟩=>?_
   have again:∀{H9:Hp} {s9:zAH} {acc':List V},Inv (X.block scope C N fp zS H1) ([]++tX fp s5.heap) Z6 H9 s9->(∃m',m'<n/\W (i+1) m' acc' H9)->
     ∃m,m<n/\∃i acc H2,Inv (X.block scope C N fp zS H1) [] (st Z) H2 s9/\tn i s9.heap/\(∀b∈fp,H2 b=none)/\W i m acc H2:=λ{H9 s9 acc'} I9 ⟨m',hm,w9⟩=>by
    have pin9:∀b∈fp,∀o,s5.heap.get? b=some o->s9.heap.get? b=some o/\H9 b=none:=λ b hb o e=>by
     have z:=I9.pin (b,o) (zA4 _ (zA4 _ (lO hb e)));exact⟨z.1,z.2.1⟩
    refine⟨m',hm,i+1,acc',H9,I9.unpinned.weak (by rw[aEf]) (λ k v e=>?_),T.keep _ _ _ st5 λ b hb o e=>(pin9 b hb o e).1,λ b hb=>?_,w9⟩
    .have hk:k<(st Z).length:=(zAI.mp e).1
     have hkN:k<N.length:=by rw[<-B.len Z];exact hk
     obtain⟨_,hks,_⟩:=B.val Z k _ v (zAD hkN) e;rw[ag6 k hks];exact e
    .obtain⟨o,e,_⟩:=T.obj _ _ st5 b hb
     exact(pin9 b hb o e).2
   cases ok with
   |false=>
    rw[if_neg zA5]at q7 ⊢;exact again I7 q7
   |true=>
    rw[if_pos rfl]at q7 ⊢;refine thn (he C fp zS H1 _ s7 Z6 H7 _ I7 q7) λ u8 s8 ⟨y,H8,I8,r8,hl8,q8⟩=>?_
    refine thn (vq _ s8 Z6 H8 (.ref zS.heap.objs.size) [y] (.ref zS.heap.objs.size) [u8] (λ _ H9=>H9=upd H8 zS.heap.objs.size (.lst (acc++[y]))) I8 rfl (.cons r8 .nil) ⟨_,acc,y,rfl,rfl,hl8,hz,rfl⟩) λ _ s9 ⟨_,H9,I9,_,e9⟩=>?_
    subst e9;exact again I9 q8
 exact codeAny_compStart_list (loop _ rfl) (T.self X.A 0 _ _ _ h01 (loop _ rfl))
theorem aC5(I:Inv X pins Z H1 zS)(hfp:∀b∈fp,rQ X pins H1 b)(h:∃Z',Inv (X.block scope C N fp zS H1) [] Z' H' s'):Inv X pins Z H' s':=by
 obtain⟨Z',J⟩:=h;exact I.call' (ch:=fp) J.os J.base J.hok J.bare λ b hb=>⟨(hfp b hb).2.2.2.1,(hfp b hb).2.1,(hfp b hb).2.2.2.2.1,(hfp b hb).2.2.2.2.2⟩
theorem aOv(B:fj X scope N st ks)(hc:X.calm=true)(hi:PI X tg iter wi)(hg:∀C fp z0 zI,PG (X.block scope C N fp z0 zI) tg g)(hgo:pB g ks)(ht:∀C fp z0 zI,aC7 (X.block scope C N fp z0 zI) ifs tt)
  (he:∀C fp z0 zI,PE (X.block scope C N fp z0 zI) elt te)(hs:∀x,zBQ iter X.env x=pure x:=by intro _;rfl):PE X (.ListComp elt [⟨tg,iter,ifs,0⟩] scope pos) (tLC wi st g tt te):=by
 intro pins s Z H Q I h;have hcl:zFC scope X.env=pure (az scope X.env):=j9 λ y hy hk=>I.ok.has _ (B.free y hy hk)
 rw[eval_ListComp];refine zE1 (use:=none) rfl hs hcl B.kind B.loc (thn (hi pins s Z H _ I h) λ v s1 h1=>thn h1 λ itv s2 h2=>?_);obtain⟨it,fp,tn,J,H2,e,I2,T,st2,f2,hq⟩:=h2;subst e;refine aDO (RR:=λ acc C=>compPost (model X.prog X.w) X.A X.xe none (EP X pins Z Q) acc C) B hc hg hgo ht he I2 T st2 f2 hq ?_;intro D C H' s' hJ hCle q;have I3:=aC5 I2 f2 hJ;obtain⟨Z',J'⟩:=hJ;obtain⟨m,hn,_⟩:=id J'.loc;have hHC:H' C=none:=J'.free;refine⟨m,hn,λ h'' hs''=>⟨.ref D,H',?_,rfl,q⟩⟩;exact I3.turned (t':=s'.toks) (λ b o ne e=>(hs''.2 b ne).trans e) hHC (zB4 (zAW I2.lt hCle)) (.inr (zAm I2.sz hCle))
  (λ x c e z=>by obtain⟨v,ic⟩:=I2.cell x c e;exact absurd (zAW ic.lt (by rw[z];exact hCle)) (zBW _))
  (λ p hp z=>absurd (zAW (I2.pinL hp) (by rw[z];exact hCle)) (zBW _))
theorem aCu(hN:X.N.Nodup)(hx1:X.N[i]? =some x)(hx2:Loc X.env.scope x)(B:fj X scope N st ks)(hc:X.calm=true)(hi:PI X tg iter wi)(hg:∀C fp z0 zI,PG (X.block scope C N fp z0 zI) tg g)(hgo:pB g ks)
  (ht:∀C fp z0 zI,aC7 (X.block scope C N fp z0 zI) ifs tt)(he:∀C fp z0 zI,PE (X.block scope C N fp z0 zI) elt te)(hsw:zCw (.ListComp elt [⟨tg,iter,ifs,0⟩] scope pos) (some (.Name x pos')) spos.line X.env=pure true)
  (hs:∀x,zBQ iter X.env x=pure x:=by intro _;rfl)(hf:X.fn x=true\/X.env.scope.names.lookup x=some .local:=by first|exact .inl rfl|exact .inr rfl|assumption):
  PS X (.Assign [.Name x pos'] (.ListComp elt [⟨tg,iter,ifs,0⟩] scope pos) spos) (aGJ (tLC wi st g tt te) (sH i)):=by
 intro pins s Z H D I h;have hcl:zFC scope X.env=pure (az scope X.env):=j9 λ y hy hk=>I.ok.has _ (B.free y hy hk)
 rw[exec_Assign_Name_used _ _ _ _ hsw];refine zAB (zDj (zAB ?_));show wpAny _ _ (do let _ <-comprehension (.ListComp elt [⟨tg,iter,ifs,0⟩] scope pos) scope X.env _ (zGj []) false (eval iter X.env) (some (zGM (.Name x pos') X.env))) _ _ s;refine zAB (zAz (zE1 (use:=some (zGM (.Name x pos') X.env)) (Q:=λ _ s'=>SP X pins D .next s') rfl hs hcl B.kind B.loc (thn (hi pins s Z H _ I h) λ v s1 h1=>thn h1 λ itv s2 h2=>?_)) (λ _ s' hq=>zAE (zAE hq)) λ _ _ e=>e);obtain⟨it,fp,tn,J,H2,e,I2,T,st2,f2,hq⟩:=h2;subst e;refine aDO (Q:=λ x H1=>sH i x Z H1 D.nx) (RR:=λ acc C=>compPost (model X.prog X.w) X.A X.xe (some (zGM (.Name x pos') X.env)) (λ _ s'=>SP X pins D .next s') acc C) B hc hg hgo ht he I2 T st2 f2 hq ?_;intro DD C H' s' hJ hCle q;have I3:=aC5 I2 f2 hJ;obtain⟨Z',J'⟩:=hJ;obtain⟨m,hn,_⟩:=id J'.loc;have hHC:H' C=none:=J'.free;have neL:C≠X.env.locals:=zB4 (zAW I2.lt hCle);have neC:∀x c,X.env.cells.lookup x=some c->c≠C:=λ x c e z=>by obtain⟨v,ic⟩:=I2.cell x c e;exact absurd (zAW ic.lt (by rw[z];exact hCle)) (zBW _)
 show wpAny _ _ (zGM (.Name x pos') X.env (.ref DD)) _ _ _;refine zJC ?_;refine aAt I3 hN hx1 hx2 (show RelV (.ref DD) (.ref DD)from rfl) (λ s4 I4 ⟨a,hsa,ha⟩=>?_) hf;have nea:C≠a:=by
  rcases ha with z|z
  .rw[z];exact neL
  .exact zDG (neC _ _ z)
 refine⟨m,hn.sameBut hsa nea,λ h'' hs''=>⟨_,H',?_,q⟩⟩;exact I4.turned (t':=s4.toks) (λ b o ne e=>(hs''.2 b ne).trans e) hHC neL (.inr (zAm I2.sz hCle)) neC
  (λ p hp z=>absurd (zAW (I2.pinL hp) (by rw[z];exact hCle)) (zBW _))
end
def CX1(P:zA3)(w:World):CXT:=λ outer H s E e s'=>∃(ea:Addr) (cls a0:Value) (B:Heap) (H':Hp),e= .ref ea/\s'.os=s.os/\zEo s'.gens/\Un (frs outer) [] H H' s.heap s'.heap/\HOk P w H' B/\zIp B outer ea cls a0 s'.heap/\
 (∀b o,s.heap.get? b=some o->H b=none->b∉frs outer->B.get? b=some o)/\(∀b o,s.heap.get? b=some o->b∉frs outer->∃o',B.get? b=some o')/\E cls none H'
structure eQ(X:Cx)(E:XK):Prop where
 stk:X.stack=X.env::X.outer
 fr:X.env.frame=some X.env.locals
 ex:X.ex=[]
 xe:X.xe=λ e s'=>wpAny (model X.prog X.w) X.A (leaving X.env e) (λ _ s''=>CX1 X.prog X.w X.outer X.zI X.z0 E e s'') (λ e' s''=>CX1 X.prog X.w X.outer X.zI X.z0 E e' s'') s'
theorem eQ.of{K:zAA}:
  eQ (xr (CX1 P w) P w K mg base N qual scope f cd A outer z0 zI E) E:=⟨rfl,rfl,rfl,rfl⟩
section
variable{X:Cx}{E:XK}
theorem aJV{B h':Heap}(hX:X.ex=[])(I:Inv X pins Z H s)
  (a1:∀b o,s.heap.get? b=some o->H b=none->b∉frs X.stack->B.get? b=some o)(a2:∀b o,s.heap.get? b=some o->b∉frs X.stack->∃o',B.get? b=some o')
  (a3:B.StaysIn h')(a4:∀b o,b∈frs X.outer->s.heap.get? b=some o->H b=none->(∀vs,o.data≠.fields vs)->∃sl,h'.get? b=some {o with slots:=sl})
  (a5:∀b o,s.heap.get? b=some o->H b=none->H' b=none)(a6:∀b xs,H b=some (.tup xs)->H' b=some (.tup xs))(a7:∀b o u,H b=some (.frz o u)->H' b=some (.frz o u))(a8:∀b ps,H b=some (.tbl ps)->∃more,H' b=some (.tbl (ps++more))):
  Un (frs X.outer) [] X.zI H' X.z0.heap h'/\(∀b o,X.z0.heap.get? b=some o->X.zI b=none->b∉frs X.outer->B.get? b=some o)/\(∀b o,X.z0.heap.get? b=some o->b∉frs X.outer->∃o',B.get? b=some o'):=by
 have nx:∀b,b∉X.ex:=λ b z=>by rw[hX]at z;cases z
 have noS:∀b o,X.z0.heap.get? b=some o->b∉frs X.outer->b∉frs X.stack:=λ b o e nf hb=>by
  rcases zAL.mp (I.stkSub b hb)with z|z
  .exact absurd z (zAU (zAW (zAO e) I.ok.above))
  .exact nf z
 have bk:∀b o,X.z0.heap.get? b=some o->X.zI b=none->b∉frs X.outer->B.get? b=some o:=λ b o e n nf=>
  a1 b o (I.base.keep b o e n nf (nx b)) (I.base.free b o e n (nx b)) (noS b o e nf)
 have ba:∀b o,X.z0.heap.get? b=some o->b∉frs X.outer->∃o',B.get? b=some o':=λ b o e nf=>by
  obtain⟨o1,e1⟩:=I.base.there b o e (nx b);exact a2 b o1 e1 (noS b o e nf)
 have sl:∀b o,X.z0.heap.get? b=some o->X.zI b=none->b∈frs X.outer->∃sl,h'.get? b=some {o with slots:=sl}:=λ b o e n hb=>by
  obtain⟨sl1,e1⟩:=I.base.slot b o e n hb (nx b);obtain⟨_,o2,ho2,hnf⟩:=I.ok.funs.mem hb;rw[e]at ho2;cases ho2;obtain⟨sl2,e2⟩:=a4 b _ hb e1 (I.base.free b o e n (nx b)) hnf;exact⟨sl2,e2⟩
 refine⟨⟨λ b o e n nf _=>a3 b o (bk b o e n nf),λ b o e n hb _=>sl b o e n hb,λ b o e n _=>?_,λ b o e _=>?_,λ b xs e=>a6 b xs (I.base.tups b xs e),λ b o u e=>a7 b o u (I.base.frzs b o u e),λ b ps e=>?_⟩,bk,ba⟩
 .obtain⟨o1,e1⟩:=I.base.there b o e (nx b)
  exact a5 b o1 e1 (I.base.free b o e n (nx b))
 .by_cases hb:b∈frs X.outer
  .obtain⟨s2,e2⟩:=sl b o e (I.ok.frf b hb) hb
   exact⟨_,e2⟩
  .obtain⟨o',e'⟩:=ba b o e hb
   exact⟨o',a3 b o' e'⟩
 .obtain⟨m1,e1⟩:=I.base.tbls b ps e
  obtain⟨m2,e2⟩:=a8 b _ e1;exact⟨m1++m2,by rw[e2,zHK]⟩
theorem eQ.pass(D:eQ X E):uM (CX1 X.prog X.w) X E:=by
 intro pins Z H s e s' I h;obtain⟨ea,cls,a0,B,H',rfl,os,bare,un,hok,fly,bk,ba,hE⟩:=h;rw[D.xe];have fly':=fly;rw[D.stk]at fly';have hfr:=I.ok.frames;rw[D.stk]at hfr;refine wpAny_leaves_onW (L:=X.env.locals) hfr D.fr fly' λ h' fl up=>?_
 have a4:∀b o,b∈frs X.outer->s.heap.get? b=some o->H b=none->(∀vs,o.data≠.fields vs)->∃sl,h'.get? b=some {o with slots:=sl}:=λ b o hb e n nf=>by
  have hb':b∈frs X.stack:=by
   rw[D.stk];unfold frs;rw[zBU,D.fr];exact zAM _ hb
  obtain⟨s1,e1⟩:=un.slot b o e n hb' (λ z=>nomatch z);obtain⟨s2,e2⟩:=up b _ e1 nf;exact⟨s2,e2⟩
 obtain⟨u1,u2,u3⟩:=aJV (B:=B) (h':=h') (H':=H') D.ex I bk ba fl.1 a4 (λ b o e n=>un.free b o e n (λ z=>nomatch z)) un.tups un.frzs un.tbls;exact⟨ea,cls,a0,B,H',rfl,os.trans I.os,bare,u1,hok,fl,u2,u3,hE⟩
theorem eQ.raise(D:eQ X E){ea:Addr}(I:Inv X pins Z H s)
  (hx:Heap.MadeExcOf s.heap h1 ea cls vs)(hE:E cls none H):X.xe (.ref ea) {s with heap:=h1}:=by
 rw[D.xe];have stk:s.heap.FunFrames X.base X.stack:=I.stack;have hin:∀env∈X.stack,∀a,env.frame=some a->a∈frs X.stack:=λ env he a ha=>zCI.mpr ⟨env,he,ha⟩
 have stk2:=zGL stk hin;have hfr:=I.ok.frames;rw[D.stk]at hfr;have stk3:s.heap.FunFrames (zBv s.heap (frs X.stack)) (X.env::X.outer):=by rw[<-D.stk];exact stk2
 refine wpAny_leaves_madeW (L:=X.env.locals) (base:=zBv s.heap (frs X.stack)) hfr D.fr (λ b o q=>zDb _ q) stk3 hx λ h' t fl tup bn up=>?_
 have hok:HOk X.prog X.w H (zBv s.heap (frs X.stack)):=λ a o e=>by
  refine(I.hok a o e).stay (λ b u hb q=>zCO _ q λ hm=>?_) (λ _ z=>z) λ _ _ z=>z
  have hn:=I.stkFree b hm;rcases hb with z|z
  .rw[z,e]at hn;cases hn
  .rw[z]at hn;cases hn
 obtain⟨u1,u2,u3⟩:=aJV (B:=zBv s.heap (frs X.stack)) (h':=h') (H':=H) D.ex I (λ b o e n nf=>zCO _ e nf) (λ b o e nf=>⟨o,zCO _ e nf⟩) fl.1
  (λ b o hb e n nf=>up b o (hx.keeps b o e) nf) (λ b o e n=>n) (λ _ _ e=>e) (λ _ _ _ e=>e) (λ b ps e=>⟨#[],by rw[e];simp⟩)
 exact⟨ea,cls,.ref t,_,H,rfl,I.os,I.bare,u1,hok,fl,u2,u3,hE⟩
theorem eQ.own(D:eQ X E):zIG (model X.prog X.w) X.A X.env X.xe:=λ e s' h=>by
 rw[D.xe]at h ⊢;exact wpAny_leaving_again (SameStack.refl _) h
end
section
variable{P:zA3}{w:World}{K:zAA}{mg:Str->Option Value}{base:Heap}
theorem Fun.okX{st:Stmt}(F:Fun K x q st f fd)(S:aY N ps (aK st))(len:∀vs H Q E,sp vs H Q E->vs.length=ps.length)
  (hbody:∀(cdv:Value) (A:zAj) (outer:List Env) (s:zAH) (H:Hp) (vs:List V) (Q:VK) (E:XK),gJ k (A.deeper (zCv q (aK st) s.heap.objs.size f cdv))->sp vs H Q E->
   ∃t,PSs (xr (CX1 P w) P w K mg base N q (aK st) f cdv A outer s H E) (dX st) t/\t {nx:=λ _ H'=>Q .non H',rt:=Q} (start N vs) H):cP P w K mg base (CX1 P w) (k+1) f fd ps sp:=by
 obtain⟨oc,od,kV,doc,pm,an,cdv,ct,osl,rfl,lk,hcd⟩:=F.ex;exact aPR lk hcd S len λ A outer s H vs Q E hr hsp=>hbody cdv A outer s H vs Q E hr hsp
end
def cF(K:zAA)(C:Addr):Prop:=zFy K C [.type "ValueError",.type "Exception",.type "BaseException",.type "object"] "ValueError.__new__"=true
theorem vm{K:zAA}(X:K.In h)(hm:mg x=some (.ref C))(q:cF K C):OwnCls x C [.type "ValueError",.type "Exception",.type "BaseException",.type "object"] "ValueError.__new__" mg h:=by
 refine⟨hm,?_⟩;unfold cF zFy at q;split at q
 .rename_i dd cd sl ho
  split at q
  .rename_i C' bm k0 k1 k2 k3 n k5 hm' hs
   simp only[zAN,beq_iff_eq,zFK]at q;obtain⟨⟨⟨⟨⟨rfl,rfl⟩,hdel⟩,ht⟩,hok⟩,hni⟩:=q;obtain⟨nm,bs,mro,ns,qn,hd,sn,sub,ab,col,del⟩:=cd;dsimp only at hm' hdel hok hni;subst hm' hdel;have hsl:sl=#[k0,k1,k2,k3,some (.builtin "ValueError.__new__"),k5]:=by
    obtain⟨l⟩:=sl;simp only at hs;rw[hs]
   subst hsl;exact⟨bm,ns,nm,qn,bs,hd,sn,sub,ab,col,dd,k0,k1,k2,k3,k5,_,X _ _ ho,.of_isNs (PySem.W.isNs_of_in X hok),PySem.W.nsMap_none_of_in X hok hni,PySem.W.tail_of_in X ht⟩
  .cases q
 .cases q
def aM6(C:Addr)(E:XK)(ta:TA):TS:=λ _ Z H=>ta Z H λ vs H1=>vs.length<=zAV/\E (.ref C) none H1
section
variable{X:Cx}{E:XK}
theorem aID(D:eQ X E)(hc:X.calm=true){rest:List Expr}(hm:X.mg x=some (.ref C))(hC:cF X.K C)(hg:Gl X x)
  (ha:PA X (yB::rest) ta)(he:zAX (yB::rest) X.env=(false,eval yB X.env)::zAX rest X.env:=by rfl)
  (hplain:(zC2 cpos (zAX rest X.env)).any (·.1)=false:=by rfl)(hd:(x==("__debug__":Str))=false:=by decide):
  PS X (.Raise (some (.Call (.Name x np) (yB::rest) [] cpos)) none pos) (aM6 C E ta):=by
 intro pins s Z H DD I h;obtain⟨tl,NN,nm,q,bs,hdct,sn,sub,ab,col,dd,k0,k1,k2,k3,k5,mN,hCo,hN,hni,T⟩:=(vm (h:=X.base) I.mod.kin hm hC).obj;have FB:=PySem.F.excBase_ValueError;refine wpAny_Raise_call_subU (C:=C) (nm:=nm) (q:=q) (N:=NN) (bs:=bs) (bm:=tl) (hdct:=hdct) (sn:=sn) (sub:=sub) (ab:=ab) (col:=col) (dd:=dd) (k0:=k0) (k1:=k1) (k2:=k2) (k3:=k3) (k5:=k5)
  FB FB.hasB FB (mN:=mN) (T.hasType FB.hasBase) (I.ok.hd hc) (by rw[he];show(false||(zC2 cpos (zAX rest X.env)).any (·.1))=false;rw[hplain];rfl) hni
  (qw I hg hm ⟨rfl,?_⟩ hd)
 have harg:=ha cpos pins s Z H _ I h;rw[he]at harg ⊢;refine zGn (zAz harg (λ vs zS y7=>?_) λ _ _ y=>y);obtain⟨xs,H2,I2,rv,hz,hE⟩:=y7;refine⟨rfl,by show vs.length<=zAV;rw[<-rv.length];exact hz,I2.bk _ _ hCo,hN.keeps I2.bk,T.keeps I2.bk,λ h' ea hx=>D.raise I2 hx hE⟩
end
section
variable{κ:Type}[DecidableEq κ]
def xO(kvs:List (κ×V))(k:κ):Option V:=(kvs.find? λ kv=>decide (kv.1=k)).map (·.2)
def putK(kvs:List (κ×V))(k:κ)(v:V):List (κ×V):=
 if (kvs.any λ kv=>decide (kv.1=k))=true then kvs.map (λ kv=>if kv.1=k then(kv.1,v)else kv)else kvs++[(k,v)]
theorem yV{p:κ×V}{r:List (κ×V)}{k:κ}(e:p.1=k):xO (p::r) k=some p.2:=by simp[xO,zCz,e]
theorem yW{p:κ×V}{r:List (κ×V)}{k:κ}(e:¬p.1=k):xO (p::r) k=xO r k:=by simp[xO,zCz,e]
theorem aDH(kvs:List (κ×V))(k:κ)(v:V):(putK kvs k v).length<=kvs.length+1:=by
 unfold putK;split
 .rw[zAF];omega
 .rw[zA1,zA9,zBN];omega
theorem vU.isSome_eq{o:Option V}{u:Option Value}(r:vU o u):o.isSome=u.isSome:=by
 cases o with
 |none=>cases u with
  |none=>rfl
  |some _=>exact(show False from r).elim
 |some _=>cases u with
  |none=>exact(show False from r).elim
  |some _=>rfl
theorem KV.val{kvs:List (κ×V)}{vs:List (κ×Value)}(r:KV kvs vs)(k:κ):vU (xO kvs k) (zGl vs k):=by
 unfold KV at r;induction r with
 |nil=>exact zDM
 |@cons p q ps qs h t ih=>
  obtain⟨h1,h2⟩:=h;by_cases e:p.1=k
  .have e':q.1=k:=h1.symm.trans e
   have b:zGl (q::qs) k=some q.2:=by simp[zGl,zCz,e']
   rw[yV e,b];exact h2
  .have e':¬q.1=k:=λ z=>e (h1.trans z)
   have b:zGl (q::qs) k=zGl qs k:=by simp[zGl,zCz,e']
   rw[yW e,b];exact ih
theorem KV.any{kvs:List (κ×V)}{vs:List (κ×Value)}(r:KV kvs vs)(k:κ):(kvs.any λ kv=>decide (kv.1=k))=vs.any λ kv=>decide (kv.1=k):=by
 unfold KV at r;induction r with
 |nil=>rfl
 |cons h t ih=>rw[zCb,zCb,ih,h.1]
theorem KV.repl{kvs:List (κ×V)}{vs:List (κ×Value)}(r:KV kvs vs)(k:κ){y:V}{u:Value}(ry:RelV y u):
  KV (kvs.map λ kv=>if kv.1=k then(kv.1,y)else kv) (vs.map λ kv=>if kv.1=k then(kv.1,u)else kv):=by
 unfold KV at r ⊢;induction r with
 |nil=>exact .nil
 |@cons p q ps qs h t ih=>
  rw[zAG,zAG];refine .cons ?_ ih;obtain⟨h1,h2⟩:=h;by_cases e:p.1=k
  .rw[if_pos e,if_pos (h1.symm.trans e)];exact⟨h1,ry⟩
  .rw[if_neg e,if_neg (λ z=>e (h1.trans z))];exact⟨h1,h2⟩
theorem KV.put{kvs:List (κ×V)}{vs:List (κ×Value)}(r:KV kvs vs)(k:κ){y:V}{u:Value}(ry:RelV y u):KV (putK kvs k y) (zIg vs k u):=by
 unfold putK zIg;rw[r.any k];by_cases e:(vs.any λ kv=>decide (kv.1=k))=true
 .rw[if_pos e,if_pos e];exact r.repl k ry
 .rw[if_neg e,if_neg e];exact Paired.snoc r ⟨rfl,ry⟩
end
theorem aFj{P:zA3}{w:World}{k:Key}{u:Value}(r:RelV (kV k) u):(dW P w).is k u=true:=by
 cases k with
 |inl i=>obtain⟨t,e⟩:=(show∃t,u=zEY i t from r);subst e;exact aDD P w i t
 |inr x=>obtain⟨t,e⟩:=(show∃t,u=zGf x t from r);subst e;exact aDC P w x t
theorem aBH{P:zA3}{w:World}:∀{ks:List Key} {us:List Value},Vals (ks.map kV) us->ItemsAre (dW P w) ks us
 |[],_,r=>by rw[zDg]at r;cases r;exact .nil
 |k::ks,_,r=>by
  rw[zAG]at r;cases r with
  |cons h t=>exact .cons (aFj h) (aBH t)
abbrev KT(H:Hp):List (List Key×V)->List (List Key×Addr×Value)->Prop:=zEq λ p q=>p.1=q.1/\H q.2.1=some (.tup (p.1.map kV))/\RelV p.2 q.2.2
theorem KT.val{H:Hp}{kvs:List (List Key×V)}{xs:List (List Key×Addr×Value)}(r:KT H kvs xs)(k:List Key):vU (xO kvs k) ((atKey xs k).map (·.2)):=by
 induction r with
 |nil=>exact zDM
 |@cons p q ps qs h t ih=>
  obtain⟨h1,_,h2⟩:=h;by_cases e:p.1=k
  .have e':q.1=k:=h1.symm.trans e
   have b:atKey (q::qs) k=some q.2:=by simp[atKey,zCz,e']
   rw[yV e,b];exact h2
  .have e':¬q.1=k:=λ z=>e (h1.trans z)
   have b:atKey (q::qs) k=atKey qs k:=by simp[atKey,zCz,e']
   rw[yW e,b];exact ih
section
variable{P:zA3}{w:World}{H:Hp}{h:Heap}{a:Addr}
theorem aMD{u:HO}(ok:HOk P w H h)(e:Rd H a u):cR P w H h a u:=e.ok ok
theorem aFx{kvs:List (Key×V)}(ok:HOk P w H h)(e:Rd H a (.dK kvs)):kvs.length<=zAV/\(a==zC7)=false/\∃vs,KV kvs vs/\h.DictOf (dW P w) a vs:=
 show cR P w H h a (.dK kvs)from aMD ok e
theorem aMS{kvs:List (Key×V)}(ok:HOk P w H h)(e:H a=some (.dK kvs)):kvs.length<=zAV/\(a==zC7)=false/\∃vs,KV kvs vs/\h.DictOf (dW P w) a vs:=aFx ok (.inl e)
theorem aEm{ks:List Key}(ok:HOk P w H h)(e:H a=some (.tup (ks.map kV))):(zIL (dW P w)).is h ks a:=by
 obtain⟨_,its,r,o,h1,h2,n,h3⟩:=(show cR P w H h a (.tup (ks.map kV))from ok a _ e);exact⟨o,its.toArray,n,h1,h2,h3,by simpa using aBH r⟩
theorem aJ0{kvs:List (List Key×V)}(ok:HOk P w H h)(e:Rd H a (.dT kvs)):kvs.length<=zAV/\(a==zC7)=false/\
  ∃xs,KT H kvs xs/\h.DictOfH (zIL (dW P w)) a xs:=by
 obtain⟨z,y,xs,r,o,es,ep,h1,h2,h3,h4,h5⟩:=(show cR P w H h a (.dT kvs)from aMD ok e);refine⟨z,y,xs,r,o,es,ep,h1,h2,h3,h4,λ x hx=>?_,h5⟩;have all:∀{l:List (List Key×V)} {m:List (List Key×Addr×Value)},KT H l m->∀x∈m,(zIL (dW P w)).is h x.1 x.2.1:=by
  intro l m q;induction q with
  |nil=>intro x hx;exact nomatch hx
  |@cons p q ps qs hq t ih=>
   intro x hx;rcases zAL.mp hx with e|hx
   .subst e
    exact aEm ok (by rw[<-hq.1];exact hq.2.1)
   .exact ih x hx
 exact all r x hx
end
def aA0(H:Hp)(a:Addr)(y:V)(r:Option V):Prop:=
 (∃kvs k,Rd H a (.dK kvs)/\y=kV k/\r=xO kvs k)\/∃kvs k b,Rd H a (.dT kvs)/\y= .ref b/\H b=some (.tup (k.map kV))/\r=xO kvs k
theorem aA0.k{H:Hp}{a:Addr}{kvs:List (Key×V)}{k:Key}(e:H a=some (.dK kvs)):aA0 H a (kV k) (xO kvs k):=.inl ⟨kvs,k,.inl e,rfl,rfl⟩
section
variable{X:Cx}{pins:List (Addr×Obj)}{Z:St}{H:Hp}{s:zAH}{a:Addr}{y v:V}{u:Value}{o:Option V}{A:zAj}{E:Value->zAH->Prop}
theorem Inv.big(I:Inv X pins Z H s):zC7<s.heap.objs.size:=by
 have h:zAY<s.heap.objs.size:=(I.mod.glob.keeps I.bk).lt;exact zCR (by decide) h
theorem aGp{Q:Value->zAH->Prop}(hu:A.units+1<cLine)(I:Inv X pins Z H s)(g:aA0 H a y (some v))(ry:RelV y u)(h:∀w' s',Inv X pins Z H s'->RelV v w'->Q w' s'):
  wpAny (model X.prog X.w) A (zEP (.ref a) u) Q E s:=by
 rcases g with ⟨kvs,k,e,ey,l⟩|⟨kvs,k,b,e,ey,eb,l⟩
 .subst ey
  obtain⟨z,hd,vs,rel,dd⟩:=aFx I.hok e;obtain⟨w',hw,rw'⟩:=vU.some_of (v:=v) (o:=zGl vs k) (by rw[l];exact rel.val k);exact wpAny_getItem_of (aFj ry) dd.mapOf hw (h w' _ (I.tok _) rw')
 .subst ey
  cases (show u=zBC b from ry);obtain⟨z,hd,xs,rel,dd⟩:=aJ0 I.hok e;obtain⟨w',hw,rw'⟩:=vU.some_of (v:=v) (o:=(atKey xs k).map (·.2)) (by rw[l];exact rel.val k);obtain⟨p,hp,hp2⟩:=zCZ.mp hw;refine wpAny_getItem_heap (zIh hu) (aEm I.hok eb) dd hp ?_;rw[hp2];exact h w' _ (I.tok _) rw'
theorem aPs{Q:Value->zAH->Prop}(hu:A.units+1<cLine)(I:Inv X pins Z H s)(g:aA0 H a y o)(ry:RelV y u)(h:∀s',Inv X pins Z H s'->Q (.bool o.isSome) s'):
  wpAny (model X.prog X.w) A (zAs .In u (.ref a)) Q E s:=by
 rcases g with ⟨kvs,k,e,ey,l⟩|⟨kvs,k,b,e,ey,eb,l⟩
 .subst ey
  obtain⟨z,hd,vs,rel,dd⟩:=aFx I.hok e;refine wpAny_in_of (aFj ry) hd dd.mapOf ?_;rw[<-(rel.val k).isSome_eq,<-l];exact h _ (I.tok _)
 .subst ey
  cases (show u=zBC b from ry);obtain⟨z,hd,xs,rel,dd⟩:=aJ0 I.hok e;refine wpAny_in_heap (zIh hu) (aEm I.hok eb) hd dd ?_;have q:=(rel.val k).isSome_eq;rw[Option.isSome_map]at q;rw[<-q,<-l];exact h _ (I.tok _)
theorem aOL{P:zA3}{w:World}{H':Hp}{h':Heap}{kvs:List (Key×V)}{vs:List (Key×Value)}(z:kvs.length<=zAV)(hd:(a==zC7)=false)(rel:KV kvs vs)(dd:h'.DictOf (dW P w) a vs):
  cR P w H' h' a (.dK kvs):=⟨z,hd,vs,rel,dd⟩
end
def aP1(i:Expr):Prop:=∀ov iv,zGk i false ov iv=operate [ov,iv] (zEP ov iv)
theorem aKB{prog:zA3}{w:World}{A:zAj}{E:Value->zAH->Prop}{s:zAH}{env:Env}{value slice:Expr}{pos:Pos}{T id:String}{Q:Value->zAH->Prop}
  (hl:zDn (.type T) "__getitem__"=pure (some (.builtin id)))(hs:aP1 slice)
  (h:wpAny (model prog w) A (eval value env) (λ o zD=>wpAny (model prog w) A (eval slice env) (λ i zS=>zS.TypeIs o T/\wpAny (model prog w) A (zEP o i) Q E zS) E zD) E s):
  wpAny (model prog w) A (eval (.Subscript value slice pos) env) Q E s:=by
 refine zHR (zAz h (λ o zD zC=>zAz zC (λ i zS y7=>?_) λ _ _ x=>x) λ _ _ x=>x);obtain⟨hT,y7⟩:=y7;unfold zFe;refine zAB ?_;rw[getitemInPython_of_ne hT.not_modules];refine zAB (zEw hT hl ?_);have fin:wpAny (model prog w) A (zGk slice false o i) (λ r y9=>wpAny (model prog w) A (letTemporaryGo value o r>>=λ _=>pure r) Q E y9) E zS:=by
  rw[hs o i];exact wpAny_operating (zAz y7 (λ r y9 yT=>zAB (wpAny_letTemporaryGo (zAE yT))) λ _ _ x=>x)
 first
  |exact zAE (zAB fin)
  |exact zAB (zAE (zAB fin))
  |exact zAB fin
theorem aD7{X:Cx}{pins:List (Addr×Obj)}{Z:St}{H:Hp}{s:zAH}{a:Addr}{y:V}{o:Option V}(I:Inv X pins Z H s)(g:aA0 H a y o):s.TypeIs (.ref a) "dict":=by
 rcases g with ⟨kvs,k,e,_,_⟩|⟨kvs,k,b,e,_,_,_⟩
 .obtain⟨_,_,vs,_,dd⟩:=aFx I.hok e
  exact dd.typeIs
 .obtain⟨_,_,xs,_,dd⟩:=aJ0 I.hok e
  exact dd.typeIs
def aOa(td ty:TE):TE:=λ Z H Q=>td Z H λ x H1=>ty Z H1 λ y H2=>∃a v,x= .ref a/\aA0 H2 a y (some v)/\Q v H2
section
variable{X:Cx}{o i:Expr}{pos:Pos}{td ty:TE}
theorem aKg(hu:X.A.units+1<cLine)(ho:PE X o td)(hi:PE X i ty)(hs:aP1 i):PE X (.Subscript o i pos) (aOa td ty):=by
 intro pins s Z H Q I h;refine aKB PySem.F.slot_dict_getitem.lookup hs (thn (ho pins s Z H _ I h) λ u s1 ⟨x,H1,I1,rx,q1⟩=>thn (hi pins s1 Z H1 _ I1 q1) λ iv s2 ⟨y,H2,I2,ry,a,v,ex,g,q2⟩=>?_);subst ex;obtain rfl:u=zBC a:=rx;exact⟨aD7 I2 g,aGp hu I2 g ry λ w' s3 I3 rw'=>⟨v,H2,I3,rw',q2⟩⟩
end
end L2
namespace Att
open PySem PySem.W PySem.Calls PyProof.Rows
end Att
namespace L2
open PySem PySem.Spec PyProof.Rows
section
variable{κ:Type}[DecidableEq κ]
end
theorem aAl{pos:Pos}{a b:Int}{c cv:Value}(l:List Value)(h:TriplesOk l)(e:zFd pos (l++[zEZ a,zEZ b,c])=some cv):zFd pos l=some cv\/cv=c:=by
 fun_induction TriplesOk l with
 |case1=>
  simp only[zFl,zFd,zEZ]at e;split at e
  .exact .inr (zAp e).symm
  .cases e
 |case2 a' t b' u x rest ih=>
  simp only[zF2,zFd]at e ⊢;split at e
  .rename_i hc;rw[if_pos hc];exact .inl e
  .rename_i hc;rw[if_neg hc];exact ih h e
 |case3 l h1 h2=>exact h.elim
abbrev Cx.noT(X:Cx):Cx:={X with ta:=[]}
section
variable{X:Cx}{pins:List (Addr×Obj)}{Z:St}{H:Hp}{s:zAH}
theorem Inv.noT(I:Inv X pins Z H s):Inv X.noT pins Z H s:=
 ⟨⟨I.ok.mod,I.ok.kind,I.ok.glob,I.ok.blt,I.ok.above,I.ok.inj,I.ok.has,I.ok.cab,I.ok.hd,I.ok.frames,I.ok.stk,I.ok.exf,I.ok.bs,I.ok.bsz,I.ok.noex,I.ok.exfs,I.ok.funs,I.ok.frf⟩,
  I.os,I.bare,I.base,I.loc,I.cell,I.free,I.freeC,I.pin,I.hok,I.len,λ p hp=>absurd (show p∈([]:List (Addr×Obj))from hp) (by simp)⟩
theorem Inv.ofT{H':Hp}{s':zAH}(I:Inv X pins Z H s)(J:Inv X.noT pins Z H' s')(t:∀p∈X.ta,H' p.1=none/\p.1≠X.env.locals/\p.1∉X.fs/\(∀q∈X.pn++pins,q.1≠p.1)/\∃ps,s'.heap.get? p.1=some {cls:=.none,data:=.fields ps}/\TabOk X.tq H' ps):Inv X pins Z H' s':=
 ⟨I.ok,J.os,J.bare,J.base,J.loc,J.cell,J.free,J.freeC,J.pin,J.hok,J.len,t⟩
structure xM(X:Cx)(P:Addr):Prop where
 ta:∃o,X.ta=[(P,o)]
 ex:P∈X.ex
 tq:X.tq=X.env.qual++"<lambda>"
 code:∃c,X.env.code= .ref c/\zHj X.base c P
 blt:X.base.BuiltinsAt X.mg P
 gne:zAY≠P
def aDk(q:Str)(params:zDN)(body:Expr)(scope:Scope)(cl:List (Str×Addr))(pm:Value)(H:Hp)(f c':Addr)(ctv:Value):Prop:=
 H f=some (.frz (zC3 "<lambda>" q params body scope cl pm c' ctv) (.own f))/\∃oc,H c'=some (.frz oc (.own c'))/\aMV q oc
theorem aIo{P:Addr}{params:zDN}{body:Expr}{scope:Scope}{pos:Pos}{Q:Value->zAH->Prop}{E:Value->zAH->Prop}(Lx:xM X P)(I:Inv X pins Z H s)(hdef:zIy params X.env=([],[]))
  (hfree:∀y∈scope.names,y.2= .free->X.env.kindOf y.1=some .cell\/X.env.kindOf y.1=some .free)
  (h:∀(f c':Addr) (ctv:Value) (H':Hp) (s':zAH),Inv X pins Z H' s'->aW H H'->aDk X.tq params body scope (az scope X.env) ((X.mg "__name__").getD .none) H' f c' ctv->Q (.ref f) s'):
  wpAny (model X.prog X.w) X.A (eval (.Lambda params body scope pos) X.env) Q E s:=by
 obtain⟨o0,hta⟩:=Lx.ta;obtain⟨c,hcode,hC⟩:=Lx.code;obtain⟨hPn,hPL,hPf,hPp,ps,hP,ht⟩:=I.tab (P,o0) (by rw[hta];exact zAK);dsimp only at hPn hPL hPf hPp hP;have hcl:zFC scope X.env=pure (az scope X.env):=j9 λ y hy hk=>I.ok.has _ (hfree y hy hk)
 have hgs:s.heap.Ns zAY X.mg:=by
  obtain⟨o,es,ep,e,r⟩:=I.ok.mod.glob;exact⟨o,es,ep,I.bk _ _ e,r⟩
 have hC':zHj s.heap c P:=hC.keeps I.bk;have hb:s.heap.BuiltinsAt X.mg P:=by
  obtain⟨bm,ob,b1,b2,b3,b4,b5,b6⟩:=Lx.blt;exact⟨bm,ob,b1,b2,b3,b4,I.bk _ _ b5,b6⟩
 refine PySem.W.kla_eval hdef ?_;rw[<-Lx.tq];cases hf:zFd pos ps.toList with
 |some cv=>
  obtain⟨c',oc,rfl,hc',hco⟩:=ht.2 pos cv hf;refine PySem.W.kla_makeFunctionHit hcl I.ok.glob hgs hcode hC' hP ht.1 hf hb λ ctv h' tk k hsz=>?_
  have hfr:H h'.objs.size=none:=I.hok.fresh hsz;have sm:aW H (upd H h'.objs.size (.frz (zC3 "<lambda>" X.tq params body scope (az scope X.env) ((X.mg "__name__").getD .none) c' ctv) (.own h'.objs.size))):=λ b u e=>by rw[aX (bN e hfr)];exact e
  have I':=I.laid (h':=h'.push (zC3 "<lambda>" X.tq params body scope (az scope X.env) ((X.mg "__name__").getD .none) c' ctv)) (t':=tk) (a:=h'.objs.size) (o:=.frz (zC3 "<lambda>" X.tq params body scope (az scope X.env) ((X.mg "__name__").getD .none) c' ctv) (.own h'.objs.size)) (λ b u e=>zAC _ (k b u e)) hsz
   ⟨zAJ _ rfl,_,zAJ _ rfl⟩
  exact h _ c' ctv _ _ I' sm ⟨aj,oc,sm _ _ hc',hco⟩
 |none=>
  refine PySem.W.kla_makeFunction hcl I.ok.glob hgs hcode hC' hP ht.1 hf Lx.gne hb λ c' ctv h' tk hx hge hlt hrec htb=>?_
  obtain⟨c2,oc,vs,t,e2,hoc,hd,hv⟩:=hrec;cases e2;have hcn:H c'=none:=I.hok.fresh hge;have hfn:H h'.objs.size=none:=I.hok.fresh (zAm hge (zBm hlt));have neT:∀b u,H b=some u->b≠c':=λ b u e=>bN e hcn
  have neP:∀b u,H b=some u->b≠P:=λ b u e=>bN e hPn
  have sm:aW H (upd H c' (.frz oc (.own c'))):=λ b u e=>by rw[aX (neT b u e)];exact e
  have hcne:∀x a,X.env.cells.lookup x=some a->a≠P:=λ x a e z=>by
   obtain⟨v,o,ho,hdd⟩:=I.cell x a e;rw[z,hP]at ho;cases ho;cases hdd
  have J:Inv X.noT pins Z (upd H c' (.frz oc (.own c'))) {s with heap:=h',toks:=tk}:=by
   refine I.noT.step (g':=s.gens) (d':=s.drawn) (ch:=[P]) (λ b hb'=>?_) (λ b o _ _ hc e _=>hx b o (λ z=>hc (by simp[z])) e) (λ b o _ _ hc e _=>⟨o.slots,hx b o (λ z=>hc (by simp[z])) e⟩)
    (λ b o _ e n=>by rw[aX (zAU (zAW (zAO e) hge))];exact n) (λ b o hc e=>⟨o,hx b o (λ z=>hc (by simp[z])) e⟩)
    (λ b xs e=>sm _ _ e) (λ b o u e=>sm _ _ e) (λ b ps e=>⟨#[],by rw[sm _ _ e];simp⟩) (λ m hm=>hm.extBut hx (λ z=>hPL z.symm)) (λ b u e=>?_) I.bare
   .have e:b=P:=by simpa using hb'
    subst e;exact⟨.inl Lx.ex,hPL,λ x c e=>hcne x c e,λ p hp=>hPp p hp⟩
   .by_cases hbc:b=c'
    .subst hbc
     rw[aj]at e;cases e;exact⟨hoc,oc,hoc⟩
    .rw[aX hbc]at e
     refine(I.hok b u e).stay (λ d v hd' q=>hx d v ?_ q) (λ d q=>sm _ _ q) λ d xs q=>sm _ _ q
     rcases hd' with z|z
     .rw[z];exact neP b u e
     .exact neP d _ z
  have I':=I.ofT J λ p hp=>by
   rw[hta]at hp;have e:p=(P,o0):=by simpa using hp
   subst e;refine⟨by rw[aX (zAU (zAW (zAO hP) hge))];exact hPn,hPL,hPf,hPp,_,htb,?_⟩;refine⟨?_,λ pos2 cv e=>?_⟩
   .rw[zGw]
    exact TriplesOk_snoc _ _ _ _ ht.1
   .rw[zGw]at e
    rcases aAl _ ht.1 e with z|z
    .obtain⟨c2,oc2,z1,z2,z3⟩:=ht.2 pos2 cv z
     exact⟨c2,oc2,z1,sm _ _ z2,z3⟩
    .exact⟨c',oc,z,aj,vs,t,hd,hv⟩
  have hfr:upd H c' (.frz oc (.own c')) h'.objs.size=none:=by rw[aX (zB4 hlt)];exact hfn
  have sm2:aW (upd H c' (.frz oc (.own c'))) (upd (upd H c' (.frz oc (.own c'))) h'.objs.size (.frz (zC3 "<lambda>" X.tq params body scope (az scope X.env) ((X.mg "__name__").getD .none) c' ctv) (.own h'.objs.size))):=λ b u e=>by rw[aX (bN e hfr)];exact e
  have I2:=I'.laid (h':=h'.push (zC3 "<lambda>" X.tq params body scope (az scope X.env) ((X.mg "__name__").getD .none) c' ctv)) (t':=tk) (a:=h'.objs.size) (o:=.frz (zC3 "<lambda>" X.tq params body scope (az scope X.env) ((X.mg "__name__").getD .none) c' ctv) (.own h'.objs.size)) (λ b u e=>zAC _ e) (zAP _)
   ⟨zAJ _ rfl,_,zAJ _ rfl⟩
  exact h _ c' ctv _ _ I2 (sm.trans sm2) ⟨aj,oc,sm2 _ _ aj,vs,t,hd,hv⟩
def aPc(q:Str)(params:zDN)(body:Expr)(scope:Scope)(cl:List (Str×Addr))(pm:Value):TE:=λ Z H Q=>∀f c' ctv H',aW H H'->aDk q params body scope cl pm H' f c' ctv->Q (.ref f) H'
theorem aNO{P:Addr}{params:zDN}{body:Expr}{scope:Scope}{pos:Pos}(Lx:xM X P)(hdef:zIy params X.env=([],[]))
  (hfree:∀y∈scope.names,y.2= .free->X.env.kindOf y.1=some .cell\/X.env.kindOf y.1=some .free):PE X (.Lambda params body scope pos) (aPc X.tq params body scope (az scope X.env) ((X.mg "__name__").getD .none)):=
 λ pins s Z H Q I h=>aIo Lx I hdef hfree λ f c' ctv H' s' I' sm l=>⟨.ref f,H',I',rfl,h f c' ctv H' sm l⟩
end
def aDr(X:Cx)(k0:Nat)(i:Nat)(E:XK):TE:=λ Z H Q=>∃f cls dd sl fd k sp,Z[i]? =some (some (.ref f))/\H f=some (.frz ⟨cls,dd,.func fd,sl⟩ (.own f))/\cP X.prog X.w X.K X.mg X.base (CX1 X.prog X.w) k f fd [] sp/\k<=k0/\Binds X.K fd [] []/\sp [] H Q E
theorem aIK{X:Cx}{k0 i:Nat}{y:Str}{p pos:Pos}{E:XK}(hr:gJ k0 X.A)(hx:uM (CX1 X.prog X.w) X E)(hN:X.N[i]? =some y)(hv:Vis X.env.scope y)(hd:(y==("__debug__":Str))=false:=by decide)(hcd:(y==("__classdict__":Str))=false:=by decide):
  PE X (.Call (.Name y p) [] [] pos) (aDr X k0 i E):=by
 intro pins s Z H Q I ⟨f,cls,dd,sl,fd,k,sp,hs,hf,F,hk,hb,h⟩;have fin:wpAny (model X.prog X.w) X.A (eval (.Name y p) X.env) (λ v s'=>v= .ref f/\s'=s) X.xe s:=by
  obtain⟨mm,hnn,hl⟩:=I.loc;obtain⟨u,ru,l⟩:=hl i y _ hN hs hv;cases ru;rcases l with ⟨hk2,hm⟩|⟨hk2,c,hc,hcell⟩
  .exact zD1 (zFI I.ok.kind hk2 hnn hm ⟨rfl,rfl⟩) hd
  .rcases hk2 with hk2|hk2
   .exact zD1 (zFZ I.ok.kind hk2 hc hcell ⟨rfl,rfl⟩) hd
   .exact zD1 (zF0 I.ok.kind hk2 hc hcell ⟨rfl,rfl⟩ hcd) hd
 refine zBe (thn fin λ v s' ⟨ev,es'⟩=>?_);subst ev es';obtain⟨ho,_⟩:s'.heap.get? f=some _/\_:=I.hok f _ hf;have KX:PySem.W.Frag.In [(f,⟨cls,dd,.func fd,sl⟩)] s'.heap:=λ b o e=>by
  rw[zAc]at e;by_cases hbf:b=f
  .subst hbf
   simp only[beq_self_eq_true]at e;cases e;exact ho
  .simp only[beq_eq_false_iff_ne.mpr hbf]at e
   cases e
 exact PySem.W.callWith_K0 (K:=[(f,⟨cls,dd,.func fd,sl⟩)]) KX (by simp[zB0,zAc]) (aEH (us:=[]) F (hr.mono hk) hb .nil hx I .nil h)
def cxL(P:zA3)(w:World)(K:zAA)(mg:Str->Option Value)(base:Heap)(N:List Str)(q:Str)(scope:Scope)(cl:List (Str×Addr))(f:Addr)(cd:Value)(A:zAj)(outer:List Env)(s:zAH)(H:Hp)(E:XK):Cx where
 prog:=P
 w:=w
 K:=K
 mg:=mg
 base:=base
 A:=A.deeper (zCn q scope s.heap.objs.size f cd cl)
 N:=N
 z0:=s
 zI:=H
 env:=zCn q scope s.heap.objs.size f cd cl
 outer:=outer
 stack:=zCn q scope s.heap.objs.size f cd cl::outer
 ex:=[]
 calm:=true
 fn:=λ _=>false
 pn:=[]
 xe:=λ e s'=>wpAny (model P w) (A.deeper (zCn q scope s.heap.objs.size f cd cl)) (leaving (zCn q scope s.heap.objs.size f cd cl) e) (λ _ s''=>CX1 P w outer H s E e s'') (λ e' s''=>CX1 P w outer H s E e' s'') s'
theorem eQ.ofL{P:zA3}{w:World}{K:zAA}{mg:Str->Option Value}{base:Heap}{N:List Str}{q:Str}{scope:Scope}{cl:List (Str×Addr)}{f:Addr}{cd:Value}{A:zAj}{outer:List Env}{s:zAH}{H:Hp}{E:XK}:
  eQ (cxL P w K mg base N q scope cl f cd A outer s H E) E:=⟨rfl,rfl,rfl,rfl⟩
structure aAY(scope:Scope):Prop where
 kind:scope.kind= .function
 co:scope.isCoroutine=false
 gen:scope.isGenerator=false
 cell:∀y∈scope.names,y.2≠.cell
 loc:∀y∈scope.names,y.2≠.local
structure aJq(base:Heap)(N:List Str)(Z:St)(scope:Scope)(cl:List (Str×Addr)):Prop where
 inj:∀x y c,cl.lookup x=some c->cl.lookup y=some c->x=y
 has:∀x,scope.names.lookup x=some .free->∃c,cl.lookup x=some c
 cell:∀x c,cl.lookup x=some c->∃v,base.IsCell c v
 val:∀(i:Nat) x v,N[i]? =some x->Z[i]? =some (some v)->scope.names.lookup x=some .free->∃c u,cl.lookup x=some c/\RelV v u/\base.IsCell c (some u)
 len:Z.length=N.length
theorem aNl{P:zA3}{w:World}{K:zAA}{mg:Str->Option Value}{base:Heap}{N:List Str}{q:Str}{params:zDN}{scope:Scope}{cl:List (Str×Addr)}{f c':Addr}{pm ctv:Value}{body:Expr}{k:Nat}{Z:St}{H1:Hp}{sp:Sp}
  (la:aDk q params body scope cl pm H1 f c' ctv)(S:aAY scope)(cp:aJq base N Z scope cl)
  (len:∀vs H Q E,sp vs H Q E->vs=[]/\aW H1 H)
  (hbody:∀(A:zAj) (outer:List Env) (s:zAH) (H:Hp) (Q:VK) (E:XK),gJ k (A.deeper (zCn q scope s.heap.objs.size f (.ref c') cl))->sp [] H Q E->∃te,PE (cxL P w K mg base N q scope cl f (.ref c') A outer s H E) body te/\te Z H Q):
  cP P w K mg base (CX1 P w) (k+1) f (zFa "<lambda>" q params body scope cl pm (.ref c') ctv) [] sp:=by
 refine⟨λ vs H Q E h=>by rw[(len vs H Q E h).1];rfl,λ A outer s H args us vs Q E hr e0 hb r hsp=>?_⟩;obtain⟨rfl,hsm⟩:=len _ _ _ _ hsp;obtain⟨te,hpe,hte⟩:=hbody A outer s H Q E (hr.deeper _) hsp;have hlim:s.heap.NoLimit:=e0.mod.nolimit.keeps λ b o e=>(e0.bs b o e).1
 obtain⟨hf,oc,hc,hco⟩:=la;obtain⟨ho,_⟩:s.heap.get? f=some _/\_:=e0.hok f _ (hsm _ _ hf);obtain⟨hoc,_⟩:s.heap.get? c'=some oc/\_:=e0.hok c' _ (hsm _ _ hc);obtain⟨vs,t,hd,hv⟩:=hco;refine PySem.W.kla_callFunE hr.depth ho rfl S.co S.gen rfl ⟨c',oc,vs,t,rfl,hoc,hd,hv⟩ (hb _ _ _ _ ?_);refine wpAny_newFunctionEnv S.cell (by intro y hy;simp at hy) (λ zC hns hsb=>?_) S.kind;have hk₁:∀b o,s.heap.get? b=some o->zC.get? b=some o:=λ b o e=>hsb.extBut b o (zAU (zAO e)) (zAC _ e)
 refine⟨hlim.keeps hk₁,?_⟩;show zBs _ _ (.expr body (zCn q scope s.heap.objs.size f (.ref c') cl)) _ _;have kb:∀b o,base.get? b=some o->zC.get? b=some o:=λ b o e=>hk₁ b o (e0.bs b o e).1
 have I:Inv (cxL P w K mg base N q scope cl f (.ref c') A outer s H E) [] Z H {s with heap:=zC,toks:=s.toks+(([]:List Str).zip us).length}:=by
  refine⟨⟨e0.mod,S.kind,rfl,rfl,zAP _,cp.inj,λ x hx=>?_,λ x c z=>absurd z zA5,λ _=>hr.hd,zG8 e0.frames,.inr ⟨rfl,rfl⟩,λ b z=>(nomatch z),e0.bs,e0.bsz,λ b _ _=>λ z=>(nomatch z),λ b z=>(nomatch z),e0.funs,e0.frf⟩,
   rfl,e0.bare,Un.kept hk₁,⟨_,hns,λ i x v e1 e2 e3=>?_⟩,λ x c e=>?_,e0.hok.fresh (zAP _),λ x c e=>?_,λ p hp=>(nomatch hp),e0.hok.kept hk₁,cp.len,λ p hp=>(nomatch hp)⟩
  .rcases hx with z|z
   .exact absurd rfl (S.cell _ (zAi z))
   .exact cp.has x z
  .rcases e3 with z|z|z
   .exact absurd rfl (S.loc _ (zAi z))
   .exact absurd rfl (S.cell _ (zAi z))
   .obtain⟨c,u,c1,c2,c3⟩:=cp.val i x v e1 e2 z
    exact⟨u,c2,.inr ⟨.inr z,c,c1,c3.keeps kb⟩⟩
  .obtain⟨v,z⟩:=cp.cell x c e
   exact⟨v,z.keeps kb⟩
  .obtain⟨v,o,z,_⟩:=cp.cell x c e
   exact(e0.bs c o z).2
 refine PySem.W.kla_codeExpr (zAz (hpe [] _ Z H _ I hte) (λ u s' hq=>?_) λ e s' hq=>hq);obtain⟨v,H',J,rv,q⟩:=hq;exact⟨v,H',J.os,J.bare,J.base,J.hok,rv,q⟩
def bse(X:Cx)(s:zAH)(H:Hp):Heap:=zBv s.heap (trk s.heap H++frs X.stack)
section
variable{X:Cx}{pins:List (Addr×Obj)}{Z:St}{H:Hp}{s:zAH}
theorem aFz{b:Addr}{o:Obj}(e:s.heap.get? b=some o)(n:H b=none)(nf:b∉frs X.stack):(bse X s H).get? b=some o:=
 zCO _ e λ hm=>by
  rcases zA2.mp hm with z|z
  .have q:(H b).isSome=true:=(zBD.mp z).2
   rw[n]at q;cases q
  .exact nf z
theorem aOQ{b:Addr}{o:Obj}(e:(bse X s H).get? b=some o):s.heap.get? b=some o/\H b=none:=by
 have e1:=zDb _ e;refine⟨e1,?_⟩;cases q:H b with
 |none=>rfl
 |some u=>
  have hm:b∈trk s.heap H++frs X.stack:=zA0 _ (zBD.mpr ⟨zBV.mpr (zAO e1),by rw[q];rfl⟩);have z:(zBv s.heap (trk s.heap H++frs X.stack)).get? b=none:=zEU _ hm;have e2:(zBv s.heap (trk s.heap H++frs X.stack)).get? b=some o:=e;rw[z]at e2;cases e2
theorem Inv.env1(I:Inv X pins Z H s):aDm X.prog X.w X.K X.mg (bse X s H) X.A X.stack s H:=by
 have kb:∀b o,X.base.get? b=some o->(bse X s H).get? b=some o:=λ b o e=>aFz (I.bs b o e).1 (I.bs b o e).2 λ hb=>by
  have z:=(I.stack.mem hb).1;rw[e]at z;cases z
 have ns:∀{b:Addr} {m:Str->Option Value},X.base.Ns b m->(bse X s H).Ns b m:=λ{b m} ⟨o,es,ep,e,r⟩=>⟨o,es,ep,kb _ _ e,r⟩
 refine⟨I.ok.frames,⟨I.mod.kin.keeps kb,ns I.mod.glob,?_,I.mod.nolimit.keeps kb⟩,λ b o e=>aOQ e,zF6 (zEV _ _),zGL I.stack λ env he a ha=>zA4 _ (zCI.mpr ⟨env,he,ha⟩),I.stkFree,I.hok,I.bare⟩;obtain⟨mb,h1,h2⟩:=I.mod.blt;exact⟨mb,ns h1,h2⟩
theorem aKT{CX:CXT}{k:Nat}{f:Addr}{fd:zAe}{ps:List Str}{sp:Sp}{E:XK}{Q:VK}{vs:List V}{us:List Value}(I:Inv X pins Z H s)(F:cP X.prog X.w X.K X.mg (bse X s H) CX k f fd ps sp)(hr:gJ k X.A)(hb:Binds X.K fd ps [])(hx:uM CX X E)
  (r:Vals vs us)(h:sp vs H Q E):wpAny (model X.prog X.w) X.A (call (.ref f) us) (EP X pins Z Q) X.xe s:=by
 have hl:(us++[]).length=ps.length:=by rw[zAy,<-r.length];exact F.len _ _ _ _ h
 have hb':=hb s us I.kIn hl;rw[zAy]at hb';refine zHU (zDI (F.run X.A X.stack s H ⟨us,[]⟩ us vs Q E hr I.env1 hb' r h) λ r s' hq=>?_);cases r with
 |error e=>exact hx pins Z H s e s' I hq
 |ok fl=>
  cases fl with
  |ret u=>exact I.after hq
  |next=>exact zAQ hq
  |brk=>exact zAQ hq
  |cont=>exact zAQ hq
theorem aOP{scope:Scope}(I:Inv X pins Z H s)(ho:X.outer=[])(S:aAY scope)(hfree:∀y∈scope.names,y.2= .free->X.env.kindOf y.1=some .cell\/X.env.kindOf y.1=some .free):aJq (bse X s H) X.N Z scope (az scope X.env):=by
 have cb:∀x c v,X.env.cells.lookup x=some c->s.heap.IsCell c v->(bse X s H).IsCell c v:=λ x c v e ⟨o,h1,h2⟩=>⟨o,aFz h1 (I.freeC x c e) λ hb=>by
  rcases zAL.mp (I.stkSub c hb)with z|z
  .exact I.cne x c e z
  .have z2:c∈frs X.outer:=z
   rw[ho]at z2;exact absurd z2 (by simp[frs]),h2⟩
 have hk:∀x,scope.names.lookup x=some .free->X.env.kindOf x=some .cell\/X.env.kindOf x=some .free:=λ x hx=>hfree (x,.free) (zAi hx) rfl
 refine⟨λ x y c e1 e2=>I.ok.inj x y c (iU e1) (iU e2),λ x hx=>?_,λ x c e=>?_,λ i x v e1 e2 hx=>?_,I.len⟩
 .obtain⟨c,hc⟩:=I.ok.has x (hk x hx)
  exact⟨c,vI hx hc⟩
 .obtain⟨v,z⟩:=I.cell x c (iU e)
  exact⟨v,cb x c v (iU e) z⟩
 .obtain⟨m,hn,hl⟩:=I.loc
  obtain⟨u,ru,hu⟩:=hl i x v e1 e2 ((hk x hx).elim (λ z=>.inr (.inl z)) λ z=>.inr (.inr z));rcases hu with ⟨k,_⟩|⟨_,c,ec,ic⟩
  .rcases hk x hx with z|z
   .exact absurd (k.symm.trans z) (by decide)
   .exact absurd (k.symm.trans z) (by decide)
  .exact⟨c,u,vI hx ec,ru,cb x c _ ec ic⟩
end
abbrev bmV:List Value:=[.type "ValueError",.type "Exception",.type "BaseException",.type "object"]
section
variable{prog:zA3}{w:World}{A:zAj}{E:Value->zAH->Prop}{h:Heap}{g:Array zG3}{d:Drawn}{t:Nat}{os:OsState}{a:Addr}{o:Obj}
 {nm q:Str}{C N:Addr}{bs bm:List Value}{hdct:Bool}{sn:List Str}{sub:List Value}{ab:Bool}{col:Option Bool}{dd:Option Addr}{k0 k1 k2 k3 k5:Option Value}{newId:String}{K:zAA}
theorem aDb{R:zFO->zAH->Prop}(hC:h.get? C=some (zEa nm q C N bs bm hdct sn sub ab col dd k0 k1 k2 k3 k5 newId))(T:OwnTail h bmV bm)
  (hx:h.get? a=some o)(hc:o.cls= .ref C)(hq:R (.ok (.ret (.ref C))) ⟨h,g,d,t,os⟩):
  zBs (model prog w) A (.call (.builtin "getset_descriptor.__get__") ⟨[.builtin "object.__class__",.ref a,.ref C],[]⟩) R ⟨h,g,d,t,os⟩:=by
 have hT5:(⟨h,g,d,t,os⟩:zAH).TypeIs (.builtin "object.__class__") "getset_descriptor":=zEi;have hcB:(zBC C::bm).contains (.type (".".intercalate ("object.__class__".cutAt '.').dropLast))=true:=by
  rw[F.owner_object_class,zEz,T.hasType (X:="object") (b:=true) (by decide+kernel)];rfl
 refine zFH zGx.plain F.entry_gs_get (zGx.check _ _ _ _ _ _ _ _ hT5 (F.args_gs_get _ _ _) ?_)
 repeat (any_goals (first|assumption|(with_reducible refine zCW hx ?_;rw[hc])|(with_reducible refine zDv hC ?_;rw[hcB])|wp_step))
 refine⟨zCx _ (by decide+kernel),zBd F.entry_object_class ?_⟩
 repeat (any_goals (first|assumption|(with_reducible refine zCW hx ?_;rw[hc])|wp_step))
theorem aCY{M:Model}{nameV:Value}{Q:Unit->zAH->Prop}(hC:h.get? C=some (zEa nm q C N bs bm hdct sn sub ab col dd k0 k1 k2 k3 k5 newId))(T:OwnTail h bmV bm)
  (hx:h.get? a=some o)(hc:o.cls= .ref C)(hq:Q () ⟨h,g,d,t,os⟩):wpAny M A (zGW "BaseException.__getattribute__" ⟨[.ref a,nameV],[]⟩) Q E ⟨h,g,d,t,os⟩:=by
 have hk:builtinKind "BaseException.__getattribute__"=some .slot:=by decide+kernel
 have hsplit:splitId "BaseException.__getattribute__"=some ("BaseException","__getattribute__"):=by decide+kernel
 have hcB:(zBC C::bm).contains (.type "BaseException")=true:=by rw[zEz,T.hasType (X:="BaseException") (b:=true) (by decide+kernel)];rfl
 have ha:=F.args_bexc_ga (.ref a) nameV;simp only[zGW,hk,hsplit];refine zAB ?_
 .unfold isInstance
  repeat (first|(with_reducible refine zCW hx ?_;rw[hc])|(with_reducible refine zDv hC ?_;rw[hcB])|wp_step)
  exact hq
theorem aAm{tk:Tok}{Q:Fin->zAH->Prop}(hC:h.get? C=some (zEa nm q C N bs bm hdct sn sub ab col dd k0 k1 k2 k3 k5 newId))(T:OwnTail h bmV bm)(lk:∀M:Model,zEk M h (zDn (.ref C) "__class__") (some (.builtin "object.__class__")))
  (hx:h.get? a=some o)(hc:o.cls= .ref C)(hq:Q (.done (.ret (.ref C))) ⟨h,g,d,t,os⟩):
  wpAny (model prog w) A (zCN.«object.__getattribute__» ⟨[.ref a,.str "__class__" tk],[]⟩) Q E ⟨h,g,d,t,os⟩:=by
 have hT5:(⟨h,g,d,t,os⟩:zAH).TypeIs (.builtin "object.__class__") "getset_descriptor":=zEi;have f5:=zEi;have f6:=zGx.lookup;have f7:=F.slot_gs_set.lookup
 repeat (any_goals (first|assumption|(with_reducible refine zCW hx ?_;rw[hc])|with_reducible refine(lk _).here ?_|wp_step))
 refine aDb hC T hx hc ?_
 repeat (any_goals (first|assumption|wp_step))
theorem aCX{Q:Option Value->zAH->Prop}(hC:h.get? C=some (zEa nm q C N bs bm hdct sn sub ab col dd k0 k1 k2 k3 k5 newId))(T:OwnTail h bmV bm)(lk:∀M:Model,zEk M h (zDn (.ref C) "__class__") (some (.builtin "object.__class__")))
  (lg:∀M:Model,zEk M h (zDn (.ref C) "__getattribute__") (some (.builtin "BaseException.__getattribute__")))(ln:∀M:Model,zEk M h (zDn (.ref C) "__getattr__") none)
  (hx:h.get? a=some o)(hc:o.cls= .ref C)(hq:Q (some (.ref C)) ⟨h,g,d,t+1,os⟩):wpAny (model prog w) A (zIe (.ref a) "__class__") Q E ⟨h,g,d,t,os⟩:=by
 have by_exc:∀{E:Value->zAH->Prop} {t:Nat} {tk:Tok} {Q:Value->zAH->Prop},Q (.ref C) ⟨h,g,d,t,os⟩->wpAny (model prog w) A (getAttrBy (.ref a) (.str "__class__" tk) false) Q E ⟨h,g,d,t,os⟩:=by
  intro E t tk Q hq;have FB:=PySem.F.excAttr_ValueError;have f3:=FB.ga.bind (.ref a);have hx0:(false&&onTheHeap (zDZ "BaseException.__getattribute__"))=false:=rfl;have hx2:(zDZ "BaseException.__getattribute__"==zDZ "object.__getattribute__")=false:=by decide+kernel
  have hx1:(onTheHeap (zBC C)&&zDZ "BaseException.__getattribute__"==zDZ "object.__getattribute__")=false:=by rw[hx2];rfl
  repeat (any_goals (first|assumption|(with_reducible refine zCW hx ?_;rw[hc])|with_reducible refine(lg _).here ?_|with_reducible refine(ln _).here ?_|wp_step))
  refine zFH FB.ga.plain F.entry_bexc_ga (aCY hC T hx hc (aAm hC T lk hx hc ?_))
  repeat (any_goals (first|assumption|wp_step))
 unfold zIe getAttrBy?
 repeat (any_goals (first|assumption|with_reducible apply by_exc|wp_step))
theorem aIu(hE:cF K C)(ha:zBL K (.ref C) "__class__"=some (some (.builtin "object.__class__")))(hgt:zBL K (.ref C) "__getattribute__"=some (some (.builtin "BaseException.__getattribute__")))
  (hga:zBL K (.ref C) "__getattr__"=some none):PySem.W.KitX K (.ref a) (.ref C) (λ h=>∃o,h.get? a=some o/\o.cls= .ref C) where
 ty:=λ M h _ ⟨o,h1,h2⟩=>h2▸(zIs h1).andThen .now
 it:=λ M h X _=>by
  obtain⟨bm,NN,nm,q,bs,hdct,sn,sub,ab,col,dd,k0,k1,k2,k3,k5,mN,hC,_⟩:=(vm (h:=h) (mg:=λ _=>some (.ref C)) (x:="x") X rfl hE).obj;intro A' Q' E' s' k q;unfold isType loadHead;exact zAB (wpAny_loadPart (k _ _ hC) (zAE q))
 ne:=λ h tp dd its n sl X htp=>by
  obtain⟨bm,NN,nm,q,bs,hdct,sn,sub,ab,col,dd,k0,k1,k2,k3,k5,mN,hC,_⟩:=(vm (h:=h) (mg:=λ _=>some (.ref C)) (x:="x") X rfl hE).obj;refine Bool.eq_false_iff.mpr λ z=>?_
  have e:C=tp:=Value.ref.inj (beq_iff_eq.mp z);subst e;rw[hC]at htp;exact absurd (congrArg Obj.cls (zAp htp)) (by show zCL "type"≠zCL "tuple";decide+kernel)
 ca:=λ{prog w A E Q s} X ⟨o,h1,h2⟩ k=>by
  obtain⟨h,g,d,t,os⟩:=s;obtain⟨bm,NN,nm,q,bs,hdct,sn,sub,ab,col,dd,k0,k1,k2,k3,k5,mN,hC,hN,hni,T⟩:=(vm (h:=h) (mg:=λ _=>some (.ref C)) (x:="x") X rfl hE).obj;exact aCX hC T (λ M=>zDW X ha) (λ M=>zDW X hgt) (λ M=>zDW X hga) h1 h2 k
end
def excφ(a C:Addr):Heap->Prop:=λ h=>∃o,h.get? a=some o/\o.cls= .ref C
theorem excφ_stay{a C:Addr}:∀h1 h2:Heap,excφ a C h1->(∀o,h1.get? a=some o->h2.get? a=some o)->excφ a C h2:=λ h1 h2 ⟨o,e,c⟩ k=>⟨o,k o e,c⟩
structure aLu(K:zAA)(C:Addr):Prop where
 ex:cF K C
 ca:zBL K (.ref C) "__class__"=some (some (.builtin "object.__class__"))
 gt:zBL K (.ref C) "__getattribute__"=some (some (.builtin "BaseException.__getattribute__"))
 ga:zBL K (.ref C) "__getattr__"=some none
section
variable{X:Cx}
def aMH(K:zAA):List V->Hp->VK->Prop:=λ xs H Q=>∃a C y c b,xs=[.ref a,y]/\RelV y c/\H a=some (.ext (excφ a C))/\aLu K C/\zBt K (.ref C) c=some b/\Q (.bl b) H
theorem aHA:dj X (.builtin "isinstance") (aMH X.K):=by
 intro pins s Z H xs us Q I r h;obtain⟨a,C,y,c,b,rfl,ry,ha,kc,e,q⟩:=h;obtain⟨u,w',rfl,r1,r2⟩:=vals2 r;cases r1;have hc:w'=c:=by
  cases y<;>first
   |(cases r2;cases ry;rfl)
   |(obtain⟨t1,rfl⟩:=r2;obtain⟨t2,rfl⟩:=ry;exact absurd e (by simp[zBt,PySem.W.kitCls]))
 subst hc;obtain⟨p,_⟩:excφ a C s.heap/\_:=I.hok a _ ha;exact zBK (aIu kc.ex kc.ca kc.gt kc.ga) I.kIn p e (λ z=>nomatch z) λ tk=>⟨.bl b,H,I.tok tk,rfl,q⟩
end
abbrev Cx.re(X:Cx)(A:zAj)(c:Bool)(pl:List (Addr×Obj))(E:Value->zAH->Prop):Cx:={X with A:=A,calm:=c,pn:=X.pn++pl,xe:=E}
section
variable{X:Cx}{pins:List (Addr×Obj)}{Z:St}{H:Hp}{s:zAH}
theorem Inv.re{A:zAj}{c:Bool}{E:Value->zAH->Prop}(I:Inv X pins Z H s)(hf:A.frames=X.A.frames)(hd:c=true->A.handled=none):Inv (X.re A c pins E) [] Z H s:=
 ⟨⟨I.ok.mod,I.ok.kind,I.ok.glob,I.ok.blt,I.ok.above,I.ok.inj,I.ok.has,I.ok.cab,hd,hf.trans I.ok.frames,I.ok.stk,I.ok.exf,I.ok.bs,I.ok.bsz,I.ok.noex,I.ok.exfs,I.ok.funs,I.ok.frf⟩,
  I.os,I.bare,I.base,I.loc,I.cell,I.free,I.freeC,λ p hp=>I.pin p (by rw[zAy]at hp;exact hp),I.hok,I.len,λ p hp=>let⟨a,b,c,d,e⟩:=I.tab p hp;⟨a,b,c,λ q hq=>d q (by rw[zAy]at hq;exact hq),e⟩⟩
theorem Inv.unre{A:zAj}{c:Bool}{E:Value->zAH->Prop}{pins2:List (Addr×Obj)}{Z2:St}{H2:Hp}{s2:zAH}(ok:X.Ok)(J:Inv (X.re A c pins E) pins2 Z2 H2 s2):Inv X pins Z2 H2 s2:=
 ⟨ok,J.os,J.bare,J.base,J.loc,J.cell,J.free,J.freeC,λ p hp=>J.pin p (zA0 _ hp),J.hok,J.len,λ p hp=>let⟨a,b,c,d,e⟩:=J.tab p hp;⟨a,b,c,λ q hq=>d q (zA0 _ hq),e⟩⟩
theorem Inv.track{a:Addr}{o:HO}(I:Inv X pins Z H s)(ha:H a=none)(h0:X.z0.heap.get? a=none)(hL:X.env.locals≠a)(hc:∀x c,X.env.cells.lookup x=some c->c≠a)(hp:∀p∈X.ta++(X.pn++pins),p.1≠a)
  (new:cR X.prog X.w (upd H a o) s.heap a o):Inv X pins Z (upd H a o) s:=by
 have ne:∀b u,H b=some u->b≠a:=λ b u e=>bN e ha
 refine⟨I.ok,I.os,I.bare,⟨I.base.keep,I.base.slot,λ b ob e n nx=>?_,I.base.there,λ b xs e=>?_,λ b ob u e=>?_,λ b ps e=>?_⟩,I.loc,I.cell,?_,λ x c e=>?_,λ p hp'=>?_,λ b u e=>?_,I.len,λ p hp'=>?_⟩
 .rw[aX (λ z=>by rw[z,h0]at e;cases e)]
  exact I.base.free b ob e n nx
 .have e1:=I.base.tups b xs e
  rw[aX (ne b _ e1)];exact e1
 .have e1:=I.base.frzs b ob u e
  rw[aX (ne b _ e1)];exact e1
 .obtain⟨m,e1⟩:=I.base.tbls b ps e
  exact⟨m,by rw[aX (ne b _ e1)];exact e1⟩
 .rw[aX hL];exact I.free
 .rw[aX (hc x c e)];exact I.freeC x c e
 .obtain⟨p1,p2,p3⟩:=I.pin p hp'
  exact⟨p1,by rw[aX (hp p (zA4 _ hp'))];exact p2,p3⟩
 .by_cases hb:b=a
  .subst hb;rw[aj]at e;cases e;exact new
  .rw[aX hb]at e
   exact(I.hok b u e).stay (λ c v _ q=>q) (λ c q=>by rw[aX (ne c _ q)];exact q) λ c xs q=>by rw[aX (ne c _ q)];exact q
 .obtain⟨n1,n2,n3,n0,ps,n4,n5⟩:=I.tab p hp'
  exact⟨by rw[aX (hp p (zA0 _ hp'))];exact n1,n2,n3,n0,ps,n4,n5.mono λ b o u e=>by rw[aX (ne b _ e)];exact e⟩
theorem Inv.gone{i:Nat}{n:Str}{h':Heap}{m:Str->Option Value}{v:Option Value}{tk:Nat}(I:Inv X pins Z H s)(hN:X.N.Nodup)(hi:X.N[i]? =some n)(hm:s.heap.Ns X.env.locals m)(hn:h'.Ns X.env.locals λ x=>if x=n then v else m x)(hs:zDU X.env.locals s.heap h'):
  Inv X pins (Z.set i none) H {s with heap:=h',toks:=tk}:=by
 obtain⟨m0,hm0,hl⟩:=id I.loc;have cne:=I.cne;have em:m0=m:=by
  obtain⟨o1,es1,ep1,e1,d1,k1⟩:=hm0;obtain⟨o2,es2,ep2,e2,d2,k2⟩:=hm;rw[e1]at e2;cases e2;rw[d1]at d2;cases d2;funext x;exact(k1.2 x).symm.trans (k2.2 x)
 subst em;obtain⟨oL,_,_,hoL,_⟩:=id hm0;have keep:∀b o,b≠X.env.locals->s.heap.get? b=some o->h'.get? b=some o:=λ b o nb e=>(hs.2 b nb).trans e
 refine⟨I.ok,I.os,I.bare,⟨λ b o e n' hb hx=>?_,λ b o e n' hb hx=>?_,I.base.free,λ b o e hx=>?_,I.base.tups,I.base.frzs,I.base.tbls⟩,⟨_,hn,λ j y v' e1 e2 e3=>?_⟩,λ y c e=>?_,I.free,I.freeC,λ p hp=>?_,λ b u e=>?_,by simpa using I.len,λ p hp=>?_⟩
 .exact keep b o (zAU (zAW (zAO e) I.ok.above)) (I.base.keep b o e n' hb hx)
 .obtain⟨sl,e1⟩:=I.base.slot b o e n' hb hx
  exact⟨sl,keep b _ (zAU (zAW (zAO e) I.ok.above)) e1⟩
 .obtain⟨o',e1⟩:=I.base.there b o e hx
  exact⟨o',keep b _ (zAU (zAW (zAO e) I.ok.above)) e1⟩
 .have hj:j≠i:=λ z=>by
   subst z;rw[List.getElem?_set]at e2;simp at e2
  rw[zBZ (zDG hj)]at e2;obtain⟨u,r,q⟩:=hl j y v' e1 e2 e3;refine⟨u,r,?_⟩;have yn:y≠n:=λ z=>hj (zT hN e1 (z▸hi))
  rcases q with ⟨k,e⟩|⟨k,c,e,z⟩
  .exact .inl ⟨k,by simp[yn,e]⟩
  .exact .inr ⟨k,c,e,z.sameBut hs (cne y c e)⟩
 .obtain⟨v',z⟩:=I.cell y c e
  exact⟨v',z.sameBut hs (cne y c e)⟩
 .obtain⟨p1,p2,p3,p4⟩:=I.pin p hp
  exact⟨keep _ _ p3 p1,p2,p3,p4⟩
 .refine(I.hok b u e).stay (λ c v' hc q=>keep c v' ?_ q) (λ _ q=>q) λ _ _ q=>q
  rintro rfl;rcases hc with z|z
  .rw[<-z,I.free]at e;cases e
  .rw[I.free]at z;cases z
 .obtain⟨n1,n2,n3,n0,ps,n4,n5⟩:=I.tab p hp
  exact⟨n1,n2,n3,n0,ps,keep _ _ n2 n4,n5⟩
end
section
variable{M:Model}{A:zAj}{E:Value->zAH->Prop}{h:Heap}{g:Array zG3}{d:Drawn}{t:Nat}{os:OsState}
variable{nm q:Str}{C N:Addr}{bs bm:List Value}{hdct:Bool}{sn:List Str}{sub:List Value}{ab:Bool}{col:Option Bool}{dd:Option Addr}{k0 k1 k2 k3 k5:Option Value}{newId:String}
variable{nm' q':Str}{C' N':Addr}{bs' bm':List Value}{hdct':Bool}{sn':List Str}{sub':List Value}{ab':Bool}{col':Option Bool}{dd':Option Addr}{k0' k1' k2' k3' k5':Option Value}{newId':String}
theorem aAQ{e:Addr}{oe:Obj}{Q:Bool->zAH->Prop}(hC:h.get? C=some (zEa nm q C N bs bm hdct sn sub ab col dd k0 k1 k2 k3 k5 newId))(hC':h.get? C'=some (zEa nm' q' C' N' bs' bm' hdct' sn' sub' ab' col' dd' k0' k1' k2' k3' k5' newId'))
  (he:h.get? e=some oe)(hcls:oe.cls= .ref C)(hb':bm'.contains (.type "BaseException")=true)(hs:(zBC C::bm).contains (.ref C')=true)
  (hq:Q true ⟨h,g,d,t,os⟩):wpAny M A (excMatches (.ref e) (.ref C')) Q E ⟨h,g,d,t,os⟩:=by
 have hcB:(zBC C'::bm').contains (.type "BaseException")=true:=by rw[zEz,hb',zIi]
 have f:=tc_notTuple;unfold excMatches
 repeat (first|(with_reducible refine zCW he ?_;rw[hcls])|with_reducible refine zCW hC' ?_|(with_reducible refine zDv hC' ?_;rw[hcB])|(with_reducible refine zDv hC ?_;rw[hs])|wp_step)
 exact hq
end
theorem cR.there{P:zA3}{w:World}{H:Hp}{h:Heap}{a:Addr}{o:HO}(x:cR P w H h a o):∃ob,h.get? a=some ob:=by
 cases o with
 |lst xs=>obtain⟨_,_,_,_,e⟩:=x;exact⟨_,e⟩
 |tup xs=>
  obtain⟨_,_,_,p⟩:=x;obtain⟨o,e,_⟩:=p;exact⟨_,e⟩
 |dK kvs=>obtain⟨_,_,_,_,o,_,_,e,_⟩:=x;exact⟨_,e⟩
 |dT kvs=>obtain⟨_,_,_,_,o,_,_,e,_⟩:=x;exact⟨_,e⟩
 |set S n=>obtain⟨o,_,_,_,e,_⟩:=x;exact⟨_,e⟩
 |ins C dx fs=>obtain⟨_,_,_,e,_⟩:=x;exact⟨_,e⟩
 |own y=>exact x
 |xd fs=>obtain⟨_,⟨_,_,_,e,_⟩,_⟩:=x;exact⟨_,e⟩
 |rng lo hi=>obtain⟨_,_,_,e⟩:=x;exact⟨_,e⟩
 |frz ob u=>obtain⟨e,_⟩:=x;exact⟨_,e⟩
 |tbl ps=>exact⟨_,show h.get? a=some _ from x⟩
 |met f y=>exact⟨_,show h.get? a=some _ from x⟩
 |ext φ=>obtain⟨_,e,_⟩:=x;exact e
def wD(K:zAA)(C C':Addr):Bool:=
 match K.lookup C with
 |some ⟨_,_,.cls cd,_⟩=>cd.mro.contains (.ref C')
 |_=>false
abbrev Cx.tr(X:Cx)(pins:List (Addr×Obj))(E':XK):Cx:=X.re X.A true pins λ e s'=>∃Z H s,Inv X pins Z H s/\CX1 X.prog X.w X.stack H s E' e s'
abbrev Cx.ha(X:Cx)(pins:List (Addr×Obj))(ea:Addr):Cx:=X.re (X.A.mark (some (.ref ea))) false pins λ _ _=>False
def aHW(X:Cx)(i:Nat)(C':Addr)(E':XK)(tb th:TS):TS:=λ D Z H=>tb D Z H/\∀cls H1,E' cls none H1->∃C,cls= .ref C/\cF X.K C/\wD X.K C C'=true/\∀(Z1:St) (ea:Addr),Z1.length=X.N.length->H1 ea=none->
 th {nx:=λ Z' H'=>D.nx (Z'.set i none) H',rt:=D.rt,bk:=λ Z' H'=>D.bk (Z'.set i none) H',ct:=λ Z' H'=>D.ct (Z'.set i none) H'} (Z1.set i (some (.ref ea))) (upd H1 ea (.ext (excφ ea C)))
section
variable{X:Cx}{E E':XK}
theorem Cx.aLx{pins:List (Addr×Obj)}(J:(X.tr pins E').Ok):X.Ok:=
 ⟨J.mod,J.kind,J.glob,J.blt,J.above,J.inj,J.has,J.cab,λ _=>J.hd rfl,J.frames,J.stk,J.exf,J.bs,J.bsz,J.noex,J.exfs,J.funs,J.frf⟩
theorem Cx.tr_pass{pins:List (Addr×Obj)}:uM (CX1 X.prog X.w) (X.tr pins E') E':=λ pins2 Z H s e s' I h=>⟨Z,H,s,Inv.unre (Cx.aLx I.ok) I,h⟩
theorem aIC(D:eQ X E)(hc:X.calm=true)(hN:X.N.Nodup){i:Nat}{n:Str}(hi:X.N[i]? =some n)(hl:X.env.scope.names.lookup n=some .local){x:Str}{C':Addr}(hm:X.mg x=some (.ref C'))(hg:Gl X x)(hC':cF X.K C')
  {body suite:List Stmt}{b₀:Stmt}{tb th:TS}{np hpos pos:Pos}(hb:∀pins,PSs (X.tr pins E') body tb)(hs:∀pins ea,PSs (X.ha pins ea) (b₀::suite) th)(hdb:(x==("__debug__":Str))=false:=by decide):
  PS X (.Try body [.ExceptHandler (some (.Name x np)) (some n) (b₀::suite) hpos] [] [] pos) (aHW X i C' E' tb th):=by
 intro pins s Z H DD I hh;obtain⟨h1,h2⟩:=hh;refine wpAny_Try_except (zAz (hb pins [] s Z H DD (I.re rfl λ _=>I.ok.hd hc) h1) (λ f s1 q=>?_) λ e s1 q=>?_)
 .cases f with
  |next=>
   obtain⟨Z',H',J,q⟩:=q;exact zDu ⟨Z',H',Inv.unre I.ok J,q⟩
  |brk=>obtain⟨Z',H',J,q⟩:=q;exact⟨Z',H',Inv.unre I.ok J,q⟩
  |cont=>obtain⟨Z',H',J,q⟩:=q;exact⟨Z',H',Inv.unre I.ok J,q⟩
  |ret u=>obtain⟨v,Z',H',J,r,q⟩:=q;exact⟨v,Z',H',Inv.unre I.ok J,r,q⟩
 .obtain⟨Z1,H1,s0,J,ea,cls,a0,B,H2,rfl,os,bare,un,hok,fly,bk,ba,hE⟩:=q
  obtain⟨C,rfl,hC,hsub,hth⟩:=h2 cls H2 hE;have hfr:=I.ok.frames;rw[D.stk]at hfr;have fly':=fly;rw[D.stk]at fly';have mk:∀hh:Heap,zIp B X.stack ea (.ref C) a0 hh->s1.heap.UpToSlots hh->Inv X pins Z1 H2 {s1 with heap:=hh}:=λ hh fl up=>by
   refine J.call' (ch:=[]) os ⟨λ b o e n nf _=>fl.1 b o (bk b o e n nf),λ b o e n hb _=>?_,un.free,λ b o e _=>?_,un.tups,un.frzs,un.tbls⟩ (λ a o e=>(hok a o e).stay (λ b u _ q=>fl.1 b u q) (λ _ z=>z) λ _ _ z=>z) bare (λ b z=>nomatch z)
   .obtain⟨s2,e2⟩:=un.slot b o e n hb (λ z=>nomatch z)
    obtain⟨_,o3,e3,nf⟩:=fly.2.2.1.mem hb;rw[e2]at e3;cases e3;obtain⟨s4,e4⟩:=up b _ e2 nf;exact⟨s4,e4⟩
   .by_cases hb:b∈frs X.stack
    .obtain⟨_,o3,e3,nf⟩:=fl.2.2.1.mem hb
     exact⟨o3,e3⟩
    .obtain⟨o',e'⟩:=ba b o e hb
     exact⟨o',fl.1 b o' e'⟩
  refine wpAny_looks_onW hfr D.fr fly' λ h3 held up3=>?_
  refine wpAny_landsW held λ h4 fly4 up4=>?_
  rw[<-D.stk]at fly4;have J4:=mk h4 fly4 (up3.trans up4);have K4:Inv (X.ha pins ea) [] Z1 H2 {s1 with heap:=h4}:=J4.re rfl (λ z=>nomatch z);obtain⟨ob4,he4,hc4⟩:=fly4.there;obtain⟨tl,NN,nm,q,bs,hdct,sn,sub,ab,col,dd,k0,k1,k2,k3,k5,mN,hCo,hNn,hni,T⟩:=(vm (h:=h4) (mg:=λ _=>some (.ref C)) (x:="x") J4.kIn rfl hC).obj;obtain⟨tl',NN',nm',q',bs',hdct',sn',sub',ab',col',dd',k0',k1',k2',k3',k5',mN',hCo',hNn',hni',T'⟩:=(vm (h:=h4) (mg:=λ _=>some (.ref C')) (x:="x") J4.kIn rfl hC').obj;have hmro:(zBC C::tl).contains (.ref C')=true:=by
   unfold wD at hsub;split at hsub
   .rename_i oc od cd sl ho
    have e:=J4.kIn _ _ ho;have e2:(some _:Option Obj)=some _:=e.symm.trans hCo;injection e2 with e2
    have e3:=congrArg Obj.data e2;injection e3 with e3
    subst e3;exact hsub
   .cases hsub
  refine wpAny_handleBy_cons (codeAny_handlers_test (qw (X:=X.ha pins ea) K4 hg hm ?_ hdb)) (by intro q;cases q);refine aAQ hCo hCo' he4 hc4 (T'.hasType (X:="BaseException") (b:=true) (by decide+kernel)) hmro ?_;refine codeAny_handlers_suite_as ?_;refine lands_againW fly4 λ h5 fly5 up5=>?_
  have J5:=mk h5 fly5 ((up3.trans up4).trans up5);obtain⟨f1,f2,f3,oe,vs,T5,oT,ts,he5,⟨hcl5,h05⟩,hd5,_⟩:=id fly5;have nof:ea∉frs X.stack:=λ z=>by
   obtain⟨_,o3,e3,nf⟩:=f3.mem z;rw[he5]at e3;cases e3;exact nf vs hd5
  have inB:∀b o,s0.heap.get? b=some o->b∉frs X.stack->b≠ea:=λ b o e nf z=>by
   obtain⟨o',e'⟩:=ba b o e nf;rw[z,f2]at e';cases e'
  have hL:X.env.locals∈frs X.stack:=by
   rw[D.stk];unfold frs;rw[zBU,D.fr];exact zAK
  have h2n:H2 ea=none:=by
   cases e:H2 ea with
   |none=>rfl
   |some o=>
    obtain⟨ob,e'⟩:=(hok ea o e).there;rw[f2]at e';cases e'
  have J6:Inv X pins Z1 (upd H2 ea (.ext (excφ ea C))) {s1 with heap:=h5}:=by
   refine J5.track h2n ?_ (λ z=>nof (z▸hL)) (λ y c e z=>?_) (λ p hp z=>?_) ⟨⟨oe,he5,hcl5⟩,⟨oe,he5⟩,excφ_stay⟩
   .cases e:X.z0.heap.get? ea with
    |none=>rfl
    |some o=>
     obtain⟨o',e'⟩:=J.base.there ea o e (by rw[D.ex];exact λ z=>nomatch z);exact absurd rfl (inB ea o' e' nof)
   .obtain⟨v,o,ho,hd⟩:=J5.cell y c e
    rw[z]at ho;have e2:some o=some oe:=ho.symm.trans he5;cases e2;rw[hd]at hd5;cases hd5
   .have hh:∃o,s0.heap.get? p.1=some o/\p.1≠X.env.locals/\p.1∉X.fs:=by
     rcases zA2.mp hp with z|z
     .obtain⟨_,a,b,_,_,c,_⟩:=J.tab p z
      exact⟨_,c,a,b⟩
     .obtain⟨p1,p2,p3,p4,_⟩:=J.pin p z
      exact⟨_,p1,p3,p4⟩
    obtain⟨o,p1,p3,p4⟩:=hh;refine inB p.1 o p1 (λ w=>?_) z;rcases zAL.mp (J.stkSub p.1 w)with z|z
    .exact p3 z
    .exact p4 z
  have K6:Inv (X.ha pins ea) [] Z1 (upd H2 ea (.ext (excφ ea C))) {s1 with heap:=h5}:=J6.re rfl (λ z=>nomatch z);refine ye (X:=X.ha pins ea) (v:=.ref ea) K6 hN hi (.inl hl) rfl (λ s7 I7=>?_) (.inr hl);refine zAz (hs pins ea [] s7 _ _ _ I7 (hth Z1 ea J.len h2n)) (λ f s8 q8=>?_) λ _ _ z=>z.elim
  have goes:∀{Z':St} {H':Hp} {Q:zAH->Prop},Inv (X.ha pins ea) [] Z' H' s8->(∀s9,Inv X pins (Z'.set i none) H' s9->Q s9)->
    wpAny (model X.prog X.w) X.A (do bindName X.env n .none;unbindBehindTheSuite X.env n hpos) (λ _ s9=>Q s9) X.xe s8:=λ{Z' H' Q} K8 k=>by
   have J8:Inv X pins Z' H' s8:=Inv.unre I.ok K8;obtain⟨m,hmm,_⟩:=id J8.loc;refine wpAny_nameGoes_keeps hl hmm (by rw[I.ok.kind];rfl) λ h' v hn hsb=>k _ (Inv.gone J8 hN hi hmm hn hsb)
  cases f with
  |next=>obtain⟨Z',H',K8,q⟩:=q8;exact goes K8 λ s9 J9=>⟨_,_,J9,q⟩
  |brk=>obtain⟨Z',H',K8,q⟩:=q8;exact goes K8 λ s9 J9=>⟨_,_,J9,q⟩
  |cont=>obtain⟨Z',H',K8,q⟩:=q8;exact goes K8 λ s9 J9=>⟨_,_,J9,q⟩
  |ret u=>obtain⟨v,Z',H',K8,r,q⟩:=q8;exact goes K8 λ s9 J9=>⟨v,_,_,J9,r,q⟩
end
structure mD(k:Nat)(A:zAj):Prop where
 dp:A.depth+3*k+5<zFR
 un:A.units+16*k+200<cLine
theorem gJ.h{k:Nat}{A:zAj}(r:gJ k A):mD k A:=⟨r.dp,r.un⟩
theorem mD.mark{k:Nat}{A:zAj}{v:Option Value}(r:mD k A):mD k (A.mark v):=⟨r.dp,r.un⟩
theorem mD.mono{j k:Nat}{A:zAj}(r:mD k A)(h:j<=k):mD j A:=⟨by have:=r.dp;omega,by have:=r.un;omega⟩
theorem mD.deeper{k:Nat}{A:zAj}(r:mD (k+1) A)(env:Env):mD k (A.deeper env):=
 ⟨by have:=r.dp;show A.depth+1+3*k+5<_;omega,by have:=r.un;show A.units+3+16*k+200<_;omega⟩
theorem mD.depth{k:Nat}{A:zAj}(r:mD k A):A.depth<zFR:=by have:=r.dp;omega
abbrev aJ9(A:zAj):zAj:={A with handled:=none}
structure FnH(P:zA3)(w:World)(K:zAA)(mg:Str->Option Value)(base:Heap)(k:Nat)(f:Addr)(fd:zAe)(ps:List Str)(sp:Sp):Prop where
 len:∀vs H Q E,sp vs H Q E->vs.length=ps.length
 run:∀(A:zAj) (outer:List Env) (s:zAH) (H:Hp) (args:Args) (us:List Value) (vs:List V) (Q:VK) (E:XK),mD k A->aDm P w K mg base A outer s H->zHV s fd args (ps.zip us)->Vals vs us->sp vs H Q E->
  zBs (model P w) A (.call (.ref f) args) (CR CX0 outer P w H s Q E) s
abbrev cxH(P:zA3)(w:World)(K:zAA)(mg:Str->Option Value)(base:Heap)(N:List Str)(q:Str)(scope:Scope)(f:Addr)(cd:Value)(A:zAj)(outer:List Env)(s:zAH)(H:Hp):Cx:=
 (xr CX0 P w K mg base N q scope f cd (aJ9 A) outer s H λ _ _ _=>False).re (A.deeper (zCv q scope s.heap.objs.size f cd)) false [] λ _ _=>False
section
variable{P:zA3}{w:World}{K:zAA}{mg:Str->Option Value}{base:Heap}
theorem Fun.okH{x q:Str}{st:Stmt}{f:Addr}{fd:zAe}{N ps:List Str}{k:Nat}{sp:Sp}(F:Fun K x q st f fd)(S:aY N ps (aK st))(len:∀vs H Q E,sp vs H Q E->vs.length=ps.length)
  (hbody:∀(cdv:Value) (A:zAj) (outer:List Env) (s:zAH) (H:Hp) (vs:List V) (Q:VK) (E:XK),mD k (A.deeper (zCv q (aK st) s.heap.objs.size f cdv))->sp vs H Q E->
   ∃t,PSs (cxH P w K mg base N q (aK st) f cdv A outer s H) (dX st) t/\t {nx:=λ _ H'=>Q .non H',rt:=Q} (start N vs) H):FnH P w K mg base (k+1) f fd ps sp:=by
 obtain⟨oc,od,kV,doc,pm,an,cdv,ct,osl,rfl,lk,hcd⟩:=F.ex;refine⟨len,λ A outer s H args us vs Q E hr e0 hb r hsp=>?_⟩;have KX:K.In s.heap:=e0.mod.kin.keeps λ b o e=>(e0.bs b o e).1
 have par:∀y∈ps.zip us,(aK st).names.lookup y.1=some .local\/((aK st).names.lookup y.1=some .cell/\((zCu (s.heap.objs.size+1) (aK st).names []).lookup y.1).isSome=true):=λ y hy=>
  (S.par y.1 (zDB (a:=y.1) (b:=y.2) hy).1).imp id λ z=>⟨z,zDC _ _ _ (.inl z)⟩
 refine zEt hr.depth (KX _ _ lk) rfl S.co S.gen rfl (zEl KX hcd) (hb _ _ _ _ (zEE S.kind par λ env he s1 x=>?_));cases he;refine⟨(e0.mod.nolimit.keeps λ b o e=>(e0.bs b o e).1).keeps x.toInCall.keep,zII ?_⟩;obtain⟨t,ht,hq⟩:=hbody cdv A outer s H vs Q E (hr.deeper _) hsp;have e1:aDm P w K mg base (aJ9 A) outer s H:=⟨e0.frames,e0.mod,e0.bs,e0.bsz,e0.funs,e0.frf,e0.hok,e0.bare⟩;have I0:Inv (xr CX0 P w K mg base N q (aK st) f cdv (aJ9 A) outer s H λ _ _ _=>False) [] (start N vs) H s1:=wA S rfl e1 (len _ _ _ _ hsp) r x;have I1:Inv (cxH P w K mg base N q (aK st) f cdv A outer s H) [] (start N vs) H s1:=I0.re rfl (λ z=>nomatch z);refine zAz (ht [] s1 (start N vs) H _ I1 hq) (λ fl s' hs=>?_) λ e s' hs=>hs.elim
 cases fl with
 |ret u=>obtain⟨v,Z',H',J,rv,q⟩:=hs;exact⟨v,H',J.os,J.bare,J.base,J.hok,rv,q⟩
 |next=>obtain⟨Z',H',J,q⟩:=hs;exact⟨.non,H',J.os,J.bare,J.base,J.hok,rfl,q⟩
 |brk=>obtain⟨_,_,_,q⟩:=hs;exact q.elim
 |cont=>obtain⟨_,_,_,q⟩:=hs;exact q.elim
end
section
variable{X:Cx}{k:Nat}{f:Addr}{fd:zAe}{ps:List Str}{sp:Sp}{dvs:List V}{ds:List Value}{E:XK}{x:Str}{p pos:Pos}{e:Expr}{es:List Expr}{t:TA}
theorem aIQ(F:FnH X.prog X.w X.K X.mg X.base k f fd ps sp)(hr:mD k X.A)(hg:Gl X x)(hm:X.mg x=some (.ref f))(hk:zB0 X.K (.ref f)=true)(hb:Binds X.K fd ps ds)(hd:Vals dvs ds)
  (ha:PA X (e::es) t)(hdb:(x==("__debug__":Str))=false:=by decide)(he:zAX (e::es) X.env=(false,eval e X.env)::zAX es X.env:=by rfl)(hpl:(zC2 pos (zAX es X.env)).any (·.1)=false:=by rfl):
  PE X (.Call (.Name x p) (e::es) [] pos) (aAs sp dvs E t):=by
 intro pins s Z H Q I h;refine zBe (qw I hg hm (zDa (h₀:=X.base) I.ok.mod.kin hk (thn (ha pos pins s Z H _ I h) λ us s1 hz=>?_) he hpl) hdb);obtain⟨vs,H1,I1,r,q⟩:=hz;refine⟨I1.kIn,zHU (zDI (F.run X.A X.stack s1 H1 ⟨us,[]⟩ (us++ds) (vs++dvs) Q E hr I1.env0 (hb s1 us I1.kIn ?_) (r.append hd) q) λ r' s' hq=>?_)⟩
 .rw[<-(r.append hd).length];exact F.len _ _ _ _ q
 .cases r' with
  |error e=>exact zAQ hq
  |ok fl=>
   cases fl with
   |ret u=>exact I1.after hq
   |next=>exact zAQ hq
   |brk=>exact zAQ hq
   |cont=>exact zAQ hq
end
def spW(wd:Addr->Option Str):Sp:=λ vs H Q _=>∃ea C w,vs=[.ref ea]/\H ea=some (.ext (excφ ea C))/\wd C=some w/\∀H',aW H H'->Q (.str w) H'
def spR(P:zA3)(w:World)(K:zAA)(mg:Str->Option Value)(base:Heap)(k0:Nat)(told:Str)(wd:Addr->Option Str):Sp:=λ vs H Q _=>∃f cls dd sl fd k sp,vs=[.ref f]/\H f=some (.frz ⟨cls,dd,.func fd,sl⟩ (.own f))/\cP P w K mg base (CX1 P w) k f fd [] sp/\k<=k0/\Binds K fd [] []/\
 sp [] H (λ _ H'=>Q (.str told) H') (λ c _ H1=>∃C wo,c= .ref C/\wd C=some wo/\∀H',aW H1 H'->Q (.str wo) H')
section
variable{X:Cx}{E:XK}{n0 n1 n2 few cn pe told:Str}{C' fc:Addr}{fdc:zAe}{kc k0:Nat}{wd:Addr->Option Str}
theorem aHn(D:eQ X E)(hc:X.calm=true)(hN:X.N=[n0,n1,n2])(nd:X.N.Nodup)(l0:X.env.scope.names.lookup n0=some .local)(l1:X.env.scope.names.lookup n1=some .local)(l2:X.env.scope.names.lookup n2=some .local)(hf:∀x,X.fn x=true)
  (hm:X.mg few=some (.ref C'))(hg:Gl X few)(hC':cF X.K C')(FC:FnH X.prog X.w X.K X.mg X.base kc fc fdc [pe] (spW wd))(hgc:Gl X cn)(hmc:X.mg cn=some (.ref fc))(hkc:zB0 X.K (.ref fc)=true)(hbc:Binds X.K fdc [pe] [])
  (hr:gJ k0 X.A)(hkk:kc<=k0)(hw:∀C w,wd C=some w->cF X.K C/\wD X.K C C'=true){p1 p2 p3 p4 p5 p6 p7 p8 p9 p10 p11 p12 p13 p14 p15 p16:Pos}{j1:Nat}{vs:List V}{H:Hp}{Q:VK}{E0:XK}(h:spR X.prog X.w X.K X.mg X.base k0 told wd vs H Q E0)
  (d1:(few==("__debug__":Str))=false:=by decide)(d2:(cn==("__debug__":Str))=false:=by decide)(d3:(n0==("__debug__":Str))=false:=by decide)(d4:(n1==("__debug__":Str))=false:=by decide)(d5:(n2==("__debug__":Str))=false:=by decide)
  (d6:(n0==("__classdict__":Str))=false:=by decide)(d7:(n1==("__classdict__":Str))=false:=by decide)(d8:(n2==("__classdict__":Str))=false:=by decide):
  ∃t,PSs X [.Assign [.Name n1 p1] (.Constant (.str told) j1 p2) p3,.Try [.Expr (.Call (.Name n0 p4) [] [] p5) p6] [.ExceptHandler (some (.Name few p7)) (some n2) [.Assign [.Name n1 p8] (.Call (.Name cn p9) [.Name n2 p10] [] p11) p12] p13] [] [] p14,.Return (some (.Name n1 p15)) p16] t/\
   t {nx:=λ _ H'=>Q .non H',rt:=Q} (start X.N vs) H:=by
 obtain⟨f,cls,dd,sl,fd,k,sp,rfl,hH,F,hk,hb,hsp⟩:=h;have i0:X.N[0]? =some n0:=by rw[hN];rfl
 have i1:X.N[1]? =some n1:=by rw[hN];rfl
 have i2:X.N[2]? =some n2:=by rw[hN];rfl
 refine⟨_,gZ (oK nd i1 (.inl l1) gQ (hf:=.inl (hf _))) (gZ (aIC (E':=λ c _ H1=>∃C wo,c= .ref C/\wd C=some wo/\∀H',aW H1 H'->Q (.str wo) H') D hc nd i2 l2 hm hg hC' (tb:=yd (aDr X k0 0 λ c _ H1=>∃C wo,c= .ref C/\wd C=some wo/\∀H',aW H1 H'->Q (.str wo) H')) (th:=aGJ (aAs (spW wd) [] E (jd (rD 2) tG)) (sH 1))
  (λ pins=>oJ (qi (aIK (X:=X.tr pins _) hr Cx.tr_pass i0 (.inl l0) d3 d6))) (λ pins ea=>oJ (oK (X:=X.ha pins ea) nd i1 (.inl l1) (aIQ (X:=X.ha pins ea) FC ((hr.h.mono hkk).mark) hgc hmc hkc hbc .nil (ak (jN (X:=X.ha pins ea) i2 (.inl l2) d5 d8) dY) d2) (hf:=.inl (hf _)))) d1) (oJ (zJ (jN i1 (.inl l1) d4 d7)))),?_⟩
 have hs:start X.N [.ref f]=[some (.ref f),none,none]:=by rw[hN];rfl
 rw[hs];have e:(λ(_:V) H1=>Q (.str told) H1)=λ(_:V) H1=>aM5 (rD 1) {nx:=λ _ H'=>Q .non H',rt:=Q} [some (.ref f),some (.str told),none] H1:=by
  funext v H1;exact propext ⟨λ q=>⟨_,rfl,q⟩,λ⟨v',e',q⟩=>by cases e';exact q⟩
 rw[e]at hsp;have key:aHW X 2 C' (λ c _ H1=>∃C wo,c= .ref C/\wd C=some wo/\∀H',aW H1 H'->Q (.str wo) H') (yd (aDr X k0 0 λ c _ H1=>∃C wo,c= .ref C/\wd C=some wo/\∀H',aW H1 H'->Q (.str wo) H')) (aGJ (aAs (spW wd) [] E (jd (rD 2) tG)) (sH 1))
  {nx:=aM5 (rD 1) {nx:=λ _ H'=>Q .non H',rt:=Q},rt:=Q} [some (.ref f),some (.str told),none] H:=?_
 .exact key
 refine⟨⟨f,cls,dd,sl,fd,k,sp,rfl,hH,F,hk,hb,hsp⟩,λ c H1 ⟨C,wo,ec,hwd,hq⟩=>⟨C,ec,(hw C wo hwd).1,(hw C wo hwd).2,λ Z1 ea hl hn=>?_⟩⟩
 .rw[hN]at hl
  obtain⟨a,b,c,rfl⟩:∃a b c,Z1=[a,b,c]:=by
   match Z1,hl with
   |[a,b,c],_=>exact⟨a,b,c,rfl⟩
  refine⟨.ref ea,rfl,ea,C,wo,rfl,aj,hwd,λ H' sm=>⟨.str wo,rfl,hq H' λ b o e=>sm b o ?_⟩⟩;rw[aX (bN e hn)];exact e
end
def aDs(K:zAA)(c:V):TE:=tCB (aMH K) (jd (rD 0) (jd (tC c) tG))
def o7(K:zAA):List V->TA
 |[]=>tG
 |c::cs=>jd (aDs K c) (o7 K cs)
def aFN:List Str->TA
 |[]=>tG
 |x::xs=>jd (tC (.str x)) (aFN xs)
def Kt(K:zAA)(C:Addr)(c:V)(b:Bool):Prop:=∃u,RelV c u/\zBt K (.ref C) u=some b
section
variable{K:zAA}{Z:St}{H:Hp}{ea C:Addr}
theorem aBc{c:V}{b:Bool}{Q:VK}(hs:Z[0]? =some (some (.ref ea)))(hH:H ea=some (.ext (excφ ea C)))(hk:aLu K C)(h:Kt K C c b)(q:Q (.bl b) H):aDs K c Z H Q:=by
 obtain⟨u,r,e⟩:=h;exact⟨.ref ea,hs,ea,C,c,u,b,rfl,r,hH,hk,e,q⟩
theorem pG(hs:Z[0]? =some (some (.ref ea)))(hH:H ea=some (.ext (excφ ea C)))(hk:aLu K C):∀{cs:List V} {bs:List Bool} {Q:List V->Hp->Prop},zEq (Kt K C) cs bs->Q (bs.map V.bl) H->o7 K cs Z H Q
 |_,_,_,.nil,q=>q
 |_,_,_,.cons h r,q=>aBc hs hH hk h (pG hs hH hk r q)
theorem aCb:∀{l:List Str} {Q:List V->Hp->Prop},Q (l.map V.str) H->aFN l Z H Q
 |[],_,q=>q
 |x::l,_,q=>aCb (l:=l) (Q:=λ xs H2=>_) q
end
structure Wd(K:zAA)(c1 c2:V)(ks:List (List V))(ws:List Str)(C:Addr)(w:Str):Prop where
 k:aLu K C
 q1:Kt K C c1 true
 q2:Kt K C c2 true
 bs:∃(b1 b2 b3 b4:List Bool) (j:Nat) (k1 k2 k3 k4:List V),ks=[k1,k2,k3,k4]/\zEq (Kt K C) k1 b1/\zEq (Kt K C) k2 b2/\zEq (Kt K C) k3 b3/\zEq (Kt K C) k4 b4/\(b1++b2++b3++b4).length<=100/\(b1++b2++b3++b4).count true=1/\
  (b1++b2++b3++b4)[j]? =some true/\(∀m,m<j->(b1++b2++b3++b4)[m]? =some false)/\ws[j]? =some w
section
variable{X:Cx}{n0 n1 n2 odd:Str}{c1 c2:V}{k1 k2 k3 k4:List V}{l1 l2:List Str}{a1 a2:Expr}{as1 as2 e1 e2 e3 e4 w1 w2:List Expr}{kw1 kw2:List zCs}{Q:VK}{H:Hp}{vs:List V}
 {p1 p2 p3 p4 p5 p6 p7 p8 p9 p10 p11 p12 p13 p14 p15 p16 p17 p18 p19 p20 p21 p22 p23 p24 p25 p26 p27 p28 p29 p30 p31 p32 p33 p34 p35 p36 p37 p38 p39 p40:Pos}{q1 q2 q3 q4 q5 q6 q7:Pos}{j1 j2 j3 j4 j5:Nat}{E0:XK}{wd:Addr->Option Str}
end
structure wK(d:Nat)(e tg iter:Expr)(ifs:List Expr)(body:Env->Addr->Sem Unit):Prop where
 under:∀(A:zAj) (it:Value) (D:Addr) (env:Env),A.under (.compLoop e d it (.ref D) env)=A
 den:∀(prog:zA3) (w:World) (it:Value) (D:Addr) (env:Env),(model prog w).den (.compLoop e d it (.ref D) env)=(zId e d it (.ref D) env).onRaise (λ x=>do noteFrame x env;theTreesLotGoes x)
 turn:∀(it:Value) (D:Addr) (env:Env),zId e d it (.ref D) env=(do
   zGD iter.pos
   match <-zEd it with
   |none=>pure (.done .next)
   |some v=>
    zDR tg it v
    zGM tg env v
    let mut ok:=true
    for c in ifs do if ok then ok <-isTrue c env (eval c env)
    if ok then
     body env D
    again (.compLoop e d it (.ref D) env))
section
variable{s:zAH}{A:zAj}{prog:zA3}{w:World}{R:zFO->zAH->Prop}
theorem vH{D:Addr}(hb:wK d e tg iter ifs body)(I:Nat->zAH->Prop)
  (one:∀n s,I n s->wpAny (model prog w) A (zEd it) (λ r zD=>match r with
   |none=>R (.ok .next) zD
   |some v=>wpAny (model prog w) A (zDR tg it v) (λ _ zD=>wpAny (model prog w) A (zGM tg env v) (λ _ zS=>
     wpAny (model prog w) A (forIn ifs true λ c r=>if r=true then do let ok <-isTrue c env (eval c env);pure (zBf ok)else pure (zBf r)) (λ ok y9=>if ok=true then wpAny (model prog w) A (body env D) (λ _ s₅=>∃m,m<n/\I m s₅) (λ _ _=>False) y9
      else∃m,m<n/\I m y9) (λ _ _=>False) zS) (λ _ _=>False) zD) (λ _ _=>False) zD) (λ _ _=>False) s)
  (n:Nat)(h:I n s):zBs (model prog w) A (.compLoop e d it (.ref D) env) R s:=by
 refine codeAny_loop rfl I (λ n s hJ=>?_) n h;rw[hb.under,hb.den];refine wpAny_noted ?_;rw[hb.turn];refine zAB (zDj (zAB (zAz (one n s hJ) (λ r zD zC=>?_) λ _ _ h'=>h'.elim)));cases r with
 |none=>exact zAE zC
 |some v=>
  refine zAB (zAz zC (λ _ zD zC=>?_) λ _ _ h'=>h'.elim);refine zAB (zAz zC (λ _ zS y7=>zAB (zAz y7 (λ ok y9 yT=>?_) λ _ _ h'=>h'.elim)) λ _ _ h'=>h'.elim);cases ok with
  |false=>exact zAE (zFs rfl yT)
  |true=>exact zAB (zAz yT (λ _ yY h₄=>zAE ⟨rfl,h₄⟩) λ _ _ h'=>h'.elim)
end
def yP(d:Nat)(e:Expr):Prop:=∀{prog:zA3} {w:World} {A:zAj} {R:zFO->zAH->Prop} {s:zAH} {it acc:Value} {env:Env},
  zBs (model prog w) A (.compLoop e d it acc env) R s->
  wpAny (model prog w) A (zHS it) (λ it' s'=>zBs (model prog w) A (.compLoop e d it' acc env) R s') (notedBy (model prog w) A env λ x s'=>R (.error x) s') s->
  zBs (model prog w) A (.compStart e d it acc env) R s
structure aJr(mk:Sem Value)(obs:Obj->Prop)(o:Addr->HO):Prop where
 make:∀{prog:zA3} {w:World} {A:zAj} {Q:Value->zAH->Prop} {E:Value->zAH->Prop} {s:zAH},(∀ob,obs ob->Q (.ref s.heap.objs.size) {s with heap:=s.heap.push ob})->wpAny (model prog w) A mk Q E s
 live:∀ob,obs ob->ob.isFreed=false
 ok:∀{P:zA3} {w:World} {H:Hp} {h:Heap} {a:Addr} {ob:Obj},obs ob->h.get? a=some ob->zC7<a->cR P w H h a (o a)
def PB(X:Cx)(body:Env->Addr->Sem Unit)(tb:Addr->St->Hp->(Hp->Prop)->Prop):Prop:=
 ∀(D:Addr) (pins:List (Addr×Obj)) (s:zAH) (Z:St) (H:Hp) (Q:Hp->Prop),Inv X pins Z H s->tb D Z H Q->wpAny (model X.prog X.w) X.A (body X.env D) (λ _ s'=>∃H',Inv X pins Z H' s'/\Q H') X.xe s
theorem aPu(I:Inv X pins Z H s):zC7<s.heap.objs.size:=
 zCR (by decide) (I.mod.glob.keeps I.bk).lt
def aOc(o:Addr->HO)(wi:TI)(st:St->St)(g:TG)(tt:TT)(tb:Addr->St->Hp->(Hp->Prop)->Prop):TE:=λ Z H Q=>wi Z H λ J H1=>∀l,H1 l=none->∃W:Nat->Nat->Hp->Prop,(∃m,W 0 m (upd H1 l (o l)))/\
 ∀i m H2,W i m H2->((J.stop i H2/\Q (.ref l) H2)\/(J.go i H2/\∀x H3,J.yld i H2 x H3->g x (st Z) H3 λ Z4 H4=>tt Z4 H4 λ ok H5=>
  if ok=true then tb l Z4 H5 λ H6=>∃m',m'<m/\W (i+1) m' H6 else∃m',m'<m/\W (i+1) m' H5))
section
variable{X:Cx}{e tg iter:Expr}{ifs:List Expr}{scope:Scope}{N:List Str}{st:St->St}{ks:List Nat}{wi:TI}{g:TG}{tt:TT}{body:Env->Addr->Sem Unit}{tb:Addr->St->Hp->(Hp->Prop)->Prop}{pos:Pos}{mk:Sem Value}{obs:Obj->Prop}{o:Addr->HO}
theorem aJ7(B:fj X scope N st ks)(hc:X.calm=true)(hT:wK 0 e tg iter ifs body)(hS:yP 0 e)(hA:aJr mk obs o)(hg:∀C fp z0 zI,PG (X.block scope C N fp z0 zI) tg g)(hgo:pB g ks)(ht:∀C fp z0 zI,aC7 (X.block scope C N fp z0 zI) ifs tt)
  (he:∀C fp z0 zI,PB (X.block scope C N fp z0 zI) body tb){Q:VK}{RR:Value->Addr->zFO->zAH->Prop}
  (I:Inv X pins Z H1 zS)(T:Turn X.prog X.w X.K tg J fp it tn)(h0:tn 0 zS.heap)(hfp:∀b∈fp,rQ X pins H1 b)
  (h:∀l,H1 l=none->∃W:Nat->Nat->Hp->Prop,(∃m,W 0 m (upd H1 l (o l)))/\
   ∀i m H2,W i m H2->((J.stop i H2/\Q (.ref l) H2)\/(J.go i H2/\∀x H3,J.yld i H2 x H3->g x (st Z) H3 λ Z4 H4=>tt Z4 H4 λ ok H5=>
    if ok=true then tb l Z4 H5 λ H6=>∃m',m'<m/\W (i+1) m' H6 else∃m',m'<m/\W (i+1) m' H5)))
  (hRR:∀D C H' s',(∃Z',Inv (X.block scope C N fp zS H1) [] Z' H' s')->zS.heap.objs.size<=C->Q (.ref D) H'->RR (.ref D) C (.ok .next) s'):
  wpAny (model X.prog X.w) X.A mk (λ acc y9=>wpAny (model X.prog X.w) X.A (zFQ scope X.env.globals (az scope X.env) [] X.env.qual none .none (some X.env)) (λ cenv yY=>
   zBs (model X.prog X.w) X.A (.compStart e 0 (.ref it) acc {cenv with scope:=zGC scope X.env}) (RR acc cenv.locals) yY) E y9) E zS:=by
 refine hA.make λ ob hob=>aFc λ zC y6 y8 y3=>?_
 dsimp only at y6 y8 y3 ⊢;generalize hH2:zS.heap.push ob=P2 at y6 y8 y3 ⊢;have hC:P2.objs.size=zS.heap.objs.size+1:=by rw[<-hH2,zBE]
 have hDC:zS.heap.objs.size≠P2.objs.size:=by rw[hC];exact zAU (zBa _)
 have hCle:zS.heap.objs.size<=P2.objs.size:=by rw[hC];exact zEN _
 have old:∀b o,zS.heap.get? b=some o->zC.get? b=some o:=λ b o e=>y8 b o (hH2▸zAC _ e)
 have hacc:zC.get? zS.heap.objs.size=some ob:=y8 _ _ (hH2▸zAJ _ (hA.live ob hob));generalize hCe:P2.objs.size=C at y6 y8 y3 hDC hCle hC ⊢;have hHD:H1 zS.heap.objs.size=none:=I.hok.fresh (zAP _);have I0:Inv (X.block scope C N fp zS H1) [] (st Z) (upd H1 zS.heap.objs.size (o zS.heap.objs.size)) {zS with heap:=zC,toks:=zS.toks}:=
  I.block B hfp (λ b hb=>by obtain⟨o,e,_⟩:=T.obj 0 _ h0 b hb;exact⟨o,e⟩) (zAP _) hCle hDC old y6 y3 (λ c hc=>zAU (zFE hCle hc)) (hA.ok hob hacc (aPu I))
 obtain⟨W,⟨m0,w0⟩,step⟩:=h _ hHD;have h01:tn 0 zC:=T.keep 0 _ _ h0 λ b _ o e=>old b o e
 have stat:∀{H':Hp},(∀b∈fp,H' b=none)->∀b∈fp,rQ (X.block scope C N fp zS H1) [] H' b:=λ{H'} hn b hb=>
  ⟨hn b hb,(I0.ok.exf b hb).1,I0.ok.exfs b hb,.inl hb,λ x c e=>(I0.ok.exf b hb).2 x c e,λ p hp=>absurd (show p∈([]:List (Addr×Obj))from hp) (by simp)⟩
 have fr0:∀b∈fp,upd H1 zS.heap.objs.size (o zS.heap.objs.size) b=none:=λ b hb=>by
  obtain⟨o,e,_⟩:=T.obj 0 _ h0 b hb;rw[aX (zAU (zAO e))];exact(hfp b hb).1
 have loop:∀sx:zAH,sx={zS with heap:=zC,toks:=zS.toks}->
   zBs (model X.prog X.w) X.A (.compLoop e 0 (.ref it) (.ref zS.heap.objs.size) (X.block scope C N fp zS H1).env) (RR (.ref zS.heap.objs.size) C) sx:=by
  rintro sx rfl;refine vH hT (λ n s'=>∃i H2,Inv (X.block scope C N fp zS H1) [] (st Z) H2 s'/\tn i s'.heap/\(∀b∈fp,H2 b=none)/\W i n H2) ?_ m0 ⟨0,_,I0,h01,fr0,w0⟩;rintro n s3 ⟨i,H2,I2,st2,fr2,w2⟩;rcases step i n H2 w2 with ⟨stop,q⟩|⟨go,nxt⟩
  .refine thn (T.done (X.block scope C N fp zS H1) rfl rfl rfl hc i [] s3 (st Z) H2 _ I2 (stat fr2) st2 stop) λ r s4 ⟨hr,I4⟩=>?_
   subst hr;exact hRR _ C H2 s4 ⟨_,I4⟩ hCle q
  .refine thn (T.item (X.block scope C N fp zS H1) rfl rfl rfl hc i [] s3 (st Z) H2 _ I2 (stat fr2) st2 go) λ r s4 ⟨u,hr,h4⟩=>?_
   subst hr;refine thn h4 λ _ s5 ⟨x,H5,I5,r5,y5,st5,fr5⟩=>?_
   have I5p:=I5.pinned (stat fr5) (T.obj _ _ st5);refine thn (hg C fp zS H1 _ s5 (st Z) H5 x u _ I5p r5 (hgo _ _ _ _ (nxt x H5 y5))) λ _ s6 ⟨Z6,H6,I6,q6,aEf,ag6⟩=>?_
   refine thn (ht C fp zS H1 _ s6 Z6 H6 _ I6 q6) λ ok s7 ⟨H7,I7,q7⟩=>?_
   have again:∀{H9:Hp} {s9:zAH},Inv (X.block scope C N fp zS H1) ([]++tX fp s5.heap) Z6 H9 s9->(∃m',m'<n/\W (i+1) m' H9)->
     ∃m,m<n/\∃i H2,Inv (X.block scope C N fp zS H1) [] (st Z) H2 s9/\tn i s9.heap/\(∀b∈fp,H2 b=none)/\W i m H2:=λ{H9 s9} I9 ⟨m',hm,w9⟩=>by
    have pin9:∀b∈fp,∀o,s5.heap.get? b=some o->s9.heap.get? b=some o/\H9 b=none:=λ b hb o e=>by
     have z:=I9.pin (b,o) (zA4 _ (zA4 _ (lO hb e)));exact⟨z.1,z.2.1⟩
    refine⟨m',hm,i+1,H9,I9.unpinned.weak (by rw[aEf]) (λ k v e=>?_),T.keep _ _ _ st5 λ b hb o e=>(pin9 b hb o e).1,λ b hb=>?_,w9⟩
    .have hk:k<(st Z).length:=(zAI.mp e).1
     have hkN:k<N.length:=by rw[<-B.len Z];exact hk
     obtain⟨_,hks,_⟩:=B.val Z k _ v (zAD hkN) e;rw[ag6 k hks];exact e
    .obtain⟨o,e,_⟩:=T.obj _ _ st5 b hb
     exact(pin9 b hb o e).2
   cases ok with
   |false=>
    rw[if_neg zA5]at q7 ⊢;exact again I7 q7
   |true=>
    rw[if_pos rfl]at q7 ⊢;exact thn (he C fp zS H1 _ _ s7 Z6 H7 _ I7 q7) λ _ s8 ⟨H8,I8,q8⟩=>again I8 q8
 exact hS (loop _ rfl) (T.self X.A 0 _ _ _ h01 (loop _ rfl))
theorem aOw(B:fj X scope N st ks)(hc:X.calm=true)(hi:PI X tg iter wi)(hg:∀C fp z0 zI,PG (X.block scope C N fp z0 zI) tg g)(hgo:pB g ks)(ht:∀C fp z0 zI,aC7 (X.block scope C N fp z0 zI) ifs tt)
  (hT:wK 0 e tg iter ifs body)(hS:yP 0 e)(hA:aJr mk obs o)(he:∀C fp z0 zI,PB (X.block scope C N fp z0 zI) body tb)(hcs:clausesOf e=⟨tg,iter,ifs,0⟩::gs)(hev:eval e X.env=comprehension e scope X.env (firstIterPos (⟨tg,iter,ifs,0⟩::gs) pos) mk false (eval iter X.env))(hs:∀x,zBQ iter X.env x=pure x:=by intro _;rfl):PE X e (aOc o wi st g tt tb):=by
 intro pins s Z H Q I h;have hcl:zFC scope X.env=pure (az scope X.env):=j9 λ y hy hk=>I.ok.has _ (B.free y hy hk)
 rw[hev];refine zE1 (use:=none) hcs hs hcl B.kind B.loc (thn (hi pins s Z H _ I h) λ v s1 h1=>thn h1 λ itv s2 h2=>?_);obtain⟨it,fp,tn,J,H2,e,I2,T,st2,f2,hq⟩:=h2;subst e;refine aJ7 (RR:=λ acc C=>compPost (model X.prog X.w) X.A X.xe none (EP X pins Z Q) acc C) B hc hT hS hA hg hgo ht he I2 T st2 f2 hq ?_;intro D C H' s' hJ hCle q;have I3:=aC5 I2 f2 hJ;obtain⟨Z',J'⟩:=hJ;obtain⟨m,hn,_⟩:=id J'.loc;have hHC:H' C=none:=J'.free;refine⟨m,hn,λ h'' hs''=>⟨.ref D,H',?_,rfl,q⟩⟩;exact I3.turned (t':=s'.toks) (λ b o ne e=>(hs''.2 b ne).trans e) hHC (zB4 (zAW I2.lt hCle)) (.inr (zAm I2.sz hCle))
  (λ x c e z=>by obtain⟨v,ic⟩:=I2.cell x c e;exact absurd (zAW ic.lt (by rw[z];exact hCle)) (zBW _))
  (λ p hp z=>absurd (zAW (I2.pinL hp) (by rw[z];exact hCle)) (zBW _))
end
def aCI(elt:Expr)(env:Env)(D:Addr):Sem Unit:=do let _ <-call (.builtin "list.append") [.ref D,<-eval elt env]
def aLz(te:TE):Addr->St->Hp->(Hp->Prop)->Prop:=λ D Z H Q=>te Z H λ y H1=>∃acc,H1 D=some (.lst acc)/\acc.length<zAV/\Q (upd H1 D (.lst (acc++[y])))
theorem aNU(he:PE X elt te):PB X (aCI elt) (aLz te):=by
 intro D pins s Z H Q I h;unfold aCI;refine zAB (thn (he pins s Z H _ I h) λ u s1 ⟨y,H1,I1,r1,acc,hD,hz,q⟩=>zAB ?_);refine thn (vq _ s1 Z H1 (.ref D) [y] (.ref D) [u] (λ _ H9=>H9=upd H1 D (.lst (acc++[y]))) I1 rfl (.cons r1 .nil) ⟨_,acc,y,rfl,rfl,hD,hz,rfl⟩) λ _ s2 ⟨_,H2,I2,_,e⟩=>?_
 subst e;exact zAE ⟨_,I2,q⟩
theorem aLn:aJr (zGj []) (λ ob=>ob={cls:=.type "list",data:=.seq #[]}) (λ _=>.lst []) where
 make:=λ h=>zAv (h _ rfl)
 live:=by rintro ob rfl;rfl
 ok:=by
  rintro P w H h a ob rfl hg hb;exact⟨zAa _,[],_,.nil,hg⟩
def uf(e iter2:Expr)(env:Env)(D:Addr):Sem Unit:=do
 let x <-eval iter2 env
 zGD iter2.pos
 let x <-zBQ iter2 env x;let _ <-runOwn (.compStart e 1 (<-zEu [x] (zHS x)) (.ref D) env) env
theorem aHR(elt tg iter tg2 iter2:Expr)(ifs ifs2:List Expr)(scope:Scope)(pos:Pos):wK 0 (.ListComp elt [⟨tg,iter,ifs,0⟩,⟨tg2,iter2,ifs2,0⟩] scope pos) tg iter ifs (uf (.ListComp elt [⟨tg,iter,ifs,0⟩,⟨tg2,iter2,ifs2,0⟩] scope pos) iter2):=
 ⟨λ _ _ _ _=>rfl,λ _ _ _ _ _=>rfl,λ _ _ _=>by unfold uf zId;simp only[bind_assoc];rfl⟩
theorem aHQ(elt tg iter tg2 iter2:Expr)(ifs ifs2:List Expr)(scope:Scope)(pos:Pos):wK 1 (.ListComp elt [⟨tg,iter,ifs,0⟩,⟨tg2,iter2,ifs2,0⟩] scope pos) tg2 iter2 ifs2 (aCI elt):=
 ⟨λ _ _ _ _=>rfl,λ _ _ _ _ _=>rfl,λ _ _ _=>rfl⟩
theorem aCc(hcl:(clausesOf e)[d]? =some ⟨tg,iter,ifs,0⟩)(hu:∀(A:zAj) (it acc:Value) (env:Env),A.under (.compStart e d it acc env)=A)
  (hd:∀(prog:zA3) (w:World) (it acc:Value) (env:Env),(model prog w).den (.compStart e d it acc env)=(compStart e d it acc env).onRaise (λ x=>do noteFrame x env;zGD theWindowsPlace)):yP d e:=by
 intro prog w A R s it acc env h0 h;refine zGg ?_;rw[hu,hd];refine wpAny_notedAt ?_;unfold compStart;rw[hcl];show wpAny _ A (ask>>=_) _ _ s;refine zAB (zDD (wpAny_ite ?_));split
 .first|exact zAB (zAE (zAE (zFs rfl h0)))|exact zAE (zFs rfl h0)
 .first
   |exact zAB (zDJ (zAB (zDj (zAB (zAz h (λ it2 s2 h2=>zAE (zFs rfl h2)) λ _ _ x=>x)))))
   |(refine zAB (zDJ ?_);(show wpAny _ _ (zGD iter.pos>>=_) _ _ s);exact zAB (zDj (zAB (zAz h (λ it2 s2 h2=>zAE (zFs rfl h2)) λ _ _ x=>x))))
def aHU(ks:List Nat)(wi:TI)(g:TG)(tt:TT)(tb:Addr->St->Hp->(Hp->Prop)->Prop):Addr->St->Hp->(Hp->Prop)->Prop:=λ D Z H Q=>(∀k∈ks,∀v,Z[k]?≠some (some v))/\wi Z H λ J H1=>∃W:Nat->Nat->Hp->Prop,(∃m,W 0 m H1)/\
 ∀i m H2,W i m H2->((J.stop i H2/\Q H2)\/(J.go i H2/\∀x H3,J.yld i H2 x H3->g x Z H3 λ Z4 H4=>tt Z4 H4 λ ok H5=>
  if ok=true then tb D Z4 H5 λ H6=>∃m',m'<m/\W (i+1) m' H6 else∃m',m'<m/\W (i+1) m' H5))
theorem aKj(hc:X.calm=true)(hx:∀v s,X.xe v s->False)(hT:wK 1 e tg iter ifs body)(hS:yP 1 e)
  (hi:PI X tg iter wi)(hg:PG X tg g)(hgo:pB g ks)(ht:aC7 X ifs tt)(he:PB X body tb)(hs:∀x,zBQ iter X.env x=pure x:=by intro _;rfl):PB X (uf e iter) (aHU ks wi g tt tb):=by
 have nf:∀{α:Type} {m:Sem α} {Q:α->zAH->Prop} {s:zAH},wpAny (model X.prog X.w) X.A m Q X.xe s->wpAny (model X.prog X.w) X.A m Q (λ _ _=>False) s:=λ h=>zAz h (λ _ _ q=>q) hx
 intro D pins s Z H Q I h;obtain⟨hno,h⟩:=h;unfold uf;refine zAB (thn (hi pins s Z H _ I h) λ v s1 h1=>zAB (zDj (zAB (zF1 (hs v) (zAB (zBo (thn h1 λ itv s2 h2=>zAB ?_)))))));obtain⟨it,fp,tn,J,H1,e1,I1,T,st1,f1,W,⟨m0,w0⟩,step⟩:=h2;subst e1;have stat:∀{H':Hp},(∀b∈fp,H' b=none)->∀b∈fp,rQ X pins H' b:=λ{H'} hn b hb=>⟨hn b hb,(f1 b hb).2⟩
 have loop:zBs (model X.prog X.w) X.A (.compLoop e 1 (.ref it) (.ref D) X.env) (λ r s'=>match r with| .ok _=>(∃H',Inv X pins Z H' s'/\Q H')| .error _=>False) s2:=by
  refine vH hT (λ n s'=>∃i H2,Inv X pins Z H2 s'/\tn i s'.heap/\(∀b∈fp,H2 b=none)/\W i n H2) ?_ m0 ⟨0,H1,I1,st1,λ b hb=>(f1 b hb).1,w0⟩;rintro n s3 ⟨i,H2,I2,st2,fr2,w2⟩;rcases step i n H2 w2 with ⟨stop,q⟩|⟨go,nxt⟩
  .refine thn (T.done X rfl rfl rfl hc i pins s3 Z H2 _ I2 (stat fr2) st2 stop) λ r s4 ⟨hr,I4⟩=>?_
   subst hr;exact⟨H2,I4,q⟩
  .refine thn (T.item X rfl rfl rfl hc i pins s3 Z H2 _ I2 (stat fr2) st2 go) λ r s4 ⟨u,hr,h4⟩=>?_
   subst hr;refine thn h4 λ _ s5 ⟨x,H5,I5,r5,y5,st5,fr5⟩=>?_
   have I5p:=I5.pinned (stat fr5) (T.obj _ _ st5);refine thn (nf (hg _ s5 Z H5 x u _ I5p r5 (hgo _ _ _ _ (nxt x H5 y5)))) λ _ s6 ⟨Z6,H6,I6,q6,aEf,ag6⟩=>?_
   refine thn (nf (ht _ s6 Z6 H6 _ I6 q6)) λ ok s7 ⟨H7,I7,q7⟩=>?_
   have again:∀{H9:Hp} {s9:zAH},Inv X (pins++tX fp s5.heap) Z6 H9 s9->(∃m',m'<n/\W (i+1) m' H9)->∃m,m<n/\∃i H2,Inv X pins Z H2 s9/\tn i s9.heap/\(∀b∈fp,H2 b=none)/\W i m H2:=λ{H9 s9} I9 ⟨m',hm,w9⟩=>by
    have pin9:∀b∈fp,∀o,s5.heap.get? b=some o->s9.heap.get? b=some o/\H9 b=none:=λ b hb o e=>by
     have z:=I9.pin (b,o) (zA4 _ (zA4 _ (lO hb e)));exact⟨z.1,z.2.1⟩
    refine⟨m',hm,i+1,H9,I9.unpinned.weak (by rw[aEf]) (λ k v e=>?_),T.keep _ _ _ st5 λ b hb o e=>(pin9 b hb o e).1,λ b hb=>?_,w9⟩
    .by_cases hk:k∈ks
     .exact absurd e (hno k hk v)
     .rw[ag6 k hk];exact e
    .obtain⟨o,e,_⟩:=T.obj _ _ st5 b hb
     exact(pin9 b hb o e).2
   cases ok with
   |false=>
    rw[if_neg zA5]at q7 ⊢;exact again I7 q7
   |true=>
    rw[if_pos rfl]at q7 ⊢;exact thn (nf (he D _ s7 Z6 H7 _ I7 q7)) λ _ s8 ⟨H8,I8,q8⟩=>again I8 q8
 refine wpAny_runOwn (h:=none) (zDI (hS loop (T.self X.A 0 _ _ _ st1 loop)) λ r s' hr=>?_);cases r with
 |ok f=>exact zAE hr
 |error x=>exact hr.elim
end L2
namespace VL
open PySem PySem.Spec PyProof.Rows L2
inductive D where
 |non|bl (b:Bool)|int (i:Int)|str (x:Str)|tup (l:List D)|lst (l:List D)|dct (ks vs:List D)|set (l:List Int)|scr (l:List Int)|fn (x:Str)
instance:Inhabited D:=⟨.non⟩
def kD:Key->D
 | .inl i=>.int i
 | .inr x=>.str x
variable{K:zAA}
def sr(K:zAA)(H:Hp)(a:Addr)(ns:List Int):Prop:=(∃o,H a=some (.frz o (.lst (ns.map V.int))))\/
 ∃(o:Obj) (its:Array Value) (n:Nat),K.lookup a=some o/\o.cls= .type "list"/\o.dict=none/\o.data= .seq its n/\its.size<=zAV/\Vals (ns.map V.int) its.toList
theorem sr.sq(h:sr K H a ns):SqL K H a (ns.map V.int):=by
 rcases h with h|h
 .exact .inl (.inr h)
 .exact .inr h
def hsh(ns:List Int):Int:=reduceHash (zIl (ns.map hashInt))
def dxO(a:Addr)(es:List (List Int×Addr×V)):HO:=.ext λ h=>es.length<=zAV/\(a==zC7)=false/\∃(xs:List (List Int×Addr×Value)) (o:Obj) (ts:Array DictEntry) (ep:Nat),zEq (λ e x=>e.1=x.1/\e.2.1=x.2.1/\RelV e.2.2 x.2.2) es xs/\
 h.get? a=some o/\o.ExactDict/\o.data= .dict ts ep/\ts.toList=xs.map λ x=>⟨hsh x.1,.ref x.2.1,x.2.2⟩
structure DxK(K:zAA)(H:Hp)(a:Addr)(es:List (List Int×Addr×V)):Prop where
 at_:H a=some (dxO a es)
 ks:∀e∈es,SqT K H e.2.1 (e.1.map V.int)
 nd:(es.map (·.1)).Nodup
mutual
inductive Rp(K:zAA):(Addr->Prop)->Hp->V->D->Prop where
 |non {A:Addr->Prop} {H:Hp}:Rp K A H .non .non
 |bl {A:Addr->Prop} {H:Hp} (b:Bool):Rp K A H (.bl b) (.bl b)
 |int {A:Addr->Prop} {H:Hp} (i:Int):Rp K A H (.int i) (.int i)
 |str {A:Addr->Prop} {H:Hp} (x:Str):Rp K A H (.str x) (.str x)
 |tup {A:Addr->Prop} {H:Hp} {a:Addr} {xs:List V} {ds:List D} (h:SqT K H a xs) (r:Rps K A H xs ds):Rp K A H (.ref a) (.tup ds)
 |lst {A:Addr->Prop} {H:Hp} {a:Addr} {xs:List V} {ds:List D} (h:H a=some (.lst xs)) (m:A a) (r:Rps K (λ p=>A p/\p≠a) H xs ds):Rp K A H (.ref a) (.lst ds)
 |dK {A:Addr->Prop} {H:Hp} {a:Addr} {kvs:List (Key×V)} {ds:List D} (h:H a=some (.dK kvs)) (m:A a) (r:Rps K (λ p=>A p/\p≠a) H (kvs.map (·.2)) ds):Rp K A H (.ref a) (.dct (kvs.map λ p=>kD p.1) ds)
 |dT {A:Addr->Prop} {H:Hp} {a:Addr} {es:List (List Int×Addr×V)} {ds:List D} (h:DxK K H a es) (m:A a) (r:Rps K (λ p=>A p/\p≠a) H (es.map (·.2.2)) ds):Rp K A H (.ref a) (.dct (.non::es.map λ e=>.tup (e.1.map .int)) ds)
 |set {A:Addr->Prop} {H:Hp} {a:Addr} {S:Int->Bool} {l:List Int} (h:H a=some (.set S l.length)) (m:A a) (hS:∀i,S i=decide (i∈l)) (nd:l.Nodup):Rp K A H (.ref a) (.set l)
 |scr {A:Addr->Prop} {H:Hp} {a:Addr} {ns:List Int} (h:sr K H a ns):Rp K A H (.ref a) (.scr ns)
 |fn {A:Addr->Prop} {H:Hp} {a:Addr} {x:Str} (h:zA8 K zAY x=some (some (.ref a))):Rp K A H (.ref a) (.fn x)
inductive Rps(K:zAA):(Addr->Prop)->Hp->List V->List D->Prop where
 |nil {A:Addr->Prop} {H:Hp}:Rps K A H [] []
 |cons {A:Addr->Prop} {H:Hp} {x:V} {d:D} {xs:List V} {ds:List D} (h:Rp K A H x d) (r:Rps K A H xs ds):Rps K A H (x::xs) (d::ds)
end
theorem sr.mono(s:aW H H')(h:sr K H a ns):sr K H' a ns:=by
 rcases h with ⟨o,h⟩|h
 .exact .inl ⟨o,s _ _ h⟩
 .exact .inr h
theorem DxK.mono(h:DxK K H a es)(s:aW H H'):DxK K H' a es:=⟨s _ _ h.at_,λ e he=>s.sqt (h.ks e he),h.nd⟩
theorem Rp.mono'(s:aW H H')(r:Rp K A H x d)(hA:∀p o,H p=some o->A p->A' p):Rp K A' H' x d:=
 Rp.rec (motive_1:=λ A H x d _=>∀H',aW H H'->∀A':Addr->Prop,(∀p o,H p=some o->A p->A' p)->Rp K A' H' x d) (motive_2:=λ A H xs ds _=>∀H',aW H H'->∀A':Addr->Prop,(∀p o,H p=some o->A p->A' p)->Rps K A' H' xs ds)
  (λ _ _ _ _=>.non) (λ b _ _ _ _=>.bl b) (λ i _ _ _ _=>.int i) (λ x _ _ _ _=>.str x) (λ h _ ih _ s _ hA=>.tup (s.sqt h) (ih _ s _ hA))
  (λ h m _ ih _ s _ hA=>.lst (s _ _ h) (hA _ _ h m) (ih _ s _ λ p o e z=>⟨hA p o e z.1,z.2⟩)) (λ h m _ ih _ s _ hA=>.dK (s _ _ h) (hA _ _ h m) (ih _ s _ λ p o e z=>⟨hA p o e z.1,z.2⟩))
  (λ h m _ ih _ s _ hA=>.dT (h.mono s) (hA _ _ h.at_ m) (ih _ s _ λ p o e z=>⟨hA p o e z.1,z.2⟩)) (λ h m hS nd _ s _ hA=>.set (s _ _ h) (hA _ _ h m) hS nd) (λ h _ s _ _=>.scr (h.mono s)) (λ h _ _ _ _=>.fn h) (λ _ _ _ _=>.nil) (λ _ _ ih ir _ s _ hA=>.cons (ih _ s _ hA) (ir _ s _ hA)) r H' s A' hA
theorem Rps.mono'(s:aW H H')(r:Rps K A H xs ds)(hA:∀p o,H p=some o->A p->A' p):Rps K A' H' xs ds:=
 Rps.rec (motive_1:=λ A H x d _=>∀H',aW H H'->∀A':Addr->Prop,(∀p o,H p=some o->A p->A' p)->Rp K A' H' x d) (motive_2:=λ A H xs ds _=>∀H',aW H H'->∀A':Addr->Prop,(∀p o,H p=some o->A p->A' p)->Rps K A' H' xs ds)
  (λ _ _ _ _=>.non) (λ b _ _ _ _=>.bl b) (λ i _ _ _ _=>.int i) (λ x _ _ _ _=>.str x) (λ h _ ih _ s _ hA=>.tup (s.sqt h) (ih _ s _ hA))
  (λ h m _ ih _ s _ hA=>.lst (s _ _ h) (hA _ _ h m) (ih _ s _ λ p o e z=>⟨hA p o e z.1,z.2⟩)) (λ h m _ ih _ s _ hA=>.dK (s _ _ h) (hA _ _ h m) (ih _ s _ λ p o e z=>⟨hA p o e z.1,z.2⟩))
  (λ h m _ ih _ s _ hA=>.dT (h.mono s) (hA _ _ h.at_ m) (ih _ s _ λ p o e z=>⟨hA p o e z.1,z.2⟩)) (λ h m hS nd _ s _ hA=>.set (s _ _ h) (hA _ _ h m) hS nd) (λ h _ s _ _=>.scr (h.mono s)) (λ h _ _ _ _=>.fn h) (λ _ _ _ _=>.nil) (λ _ _ ih ir _ s _ hA=>.cons (ih _ s _ hA) (ir _ s _ hA)) r H' s A' hA
theorem Rp.mono(s:aW H H')(hA:∀p o,H p=some o->A p->A' p)(r:Rp K A H x d):Rp K A' H' x d:=r.mono' s hA
theorem Rps.mono(s:aW H H')(hA:∀p o,H p=some o->A p->A' p)(r:Rps K A H x d):Rps K A' H' x d:=r.mono' s hA
theorem Rp.up(s:aW H H')(r:Rp K A H x d):Rp K A H' x d:=r.mono s λ _ _ _ h=>h
theorem Rp.wk(hA:∀p o,H p=some o->A p->A' p)(r:Rp K A H x d):Rp K A' H x d:=r.mono (aW.refl H) hA
theorem Rps.up(s:aW H H')(r:Rps K A H x d):Rps K A H' x d:=r.mono s λ _ _ _ h=>h
theorem Rps.wk(hA:∀p o,H p=some o->A p->A' p)(r:Rps K A H x d):Rps K A' H x d:=r.mono (aW.refl H) hA
def lR:HO->Bool
 | .lst _=>true| .dK _=>true| .dT _=>true| .set _ _=>true| .ext _=>true|_=>false
theorem aBe(s:ni l H H')(hl:H l=some o)(ho:lR o=true)(h:SqT K H a xs):SqT K H' a xs:=by
 rcases h with (h|⟨u,h⟩)|h
 .refine .inl (.inl (s _ _ (λ e=>?_) h))
  subst e;rw[hl]at h;cases h;cases ho
 .refine .inl (.inr ⟨u,s _ _ (λ e=>?_) h⟩)
  subst e;rw[hl]at h;cases h;cases ho
 .exact .inr h
theorem aFW(s:ni l H H')(hl:H l=some o)(ho:lR o=true)(h:sr K H a ns):sr K H' a ns:=by
 rcases h with ⟨u,h⟩|h
 .exact .inl ⟨u,s _ _ (λ e=>by subst e;rw[hl]at h;cases h;cases ho) h⟩
 .exact .inr h
theorem DxK.but(h:DxK K H a es)(s:ni l H H')(hl:H l=some o)(ho:lR o=true)(ne:a≠l):DxK K H' a es:=
 ⟨s _ _ ne h.at_,λ e he=>aBe s hl ho (h.ks e he),h.nd⟩
theorem Rp.but'(s:ni l H H')(hl:H l=some o)(ho:lR o=true)(r:Rp K A H x d)(hA:¬A l):Rp K A H' x d:=
 Rp.rec (motive_1:=λ A H x d _=>∀H',ni l H H'->∀o:HO,H l=some o->lR o=true->¬A l->Rp K A H' x d) (motive_2:=λ A H xs ds _=>∀H',ni l H H'->∀o:HO,H l=some o->lR o=true->¬A l->Rps K A H' xs ds)
  (λ _ _ _ _ _ _=>.non) (λ b _ _ _ _ _ _=>.bl b) (λ i _ _ _ _ _ _=>.int i) (λ x _ _ _ _ _ _=>.str x) (λ h _ ih _ s o hl ho hA=>.tup (aBe s hl ho h) (ih _ s o hl ho hA))
  (λ h m _ ih _ s o hl ho hA=>.lst (s _ _ (λ e=>hA (e▸m)) h) m (ih _ s o hl ho λ z=>hA z.1)) (λ h m _ ih _ s o hl ho hA=>.dK (s _ _ (λ e=>hA (e▸m)) h) m (ih _ s o hl ho λ z=>hA z.1))
  (λ h m _ ih _ s o hl ho hA=>.dT (h.but s hl ho λ e=>hA (e▸m)) m (ih _ s o hl ho λ z=>hA z.1)) (λ h m hS nd _ s o hl ho hA=>.set (s _ _ (λ e=>hA (e▸m)) h) m hS nd) (λ h _ s o hl ho _=>.scr (aFW s hl ho h)) (λ h _ _ _ _ _ _=>.fn h) (λ _ _ _ _ _ _=>.nil) (λ _ _ ih ir _ s o hl ho hA=>.cons (ih _ s o hl ho hA) (ir _ s o hl ho hA)) r H' s o hl ho hA
theorem Rps.but'(s:ni l H H')(hl:H l=some o)(ho:lR o=true)(r:Rps K A H xs ds)(hA:¬A l):Rps K A H' xs ds:=
 Rps.rec (motive_1:=λ A H x d _=>∀H',ni l H H'->∀o:HO,H l=some o->lR o=true->¬A l->Rp K A H' x d) (motive_2:=λ A H xs ds _=>∀H',ni l H H'->∀o:HO,H l=some o->lR o=true->¬A l->Rps K A H' xs ds)
  (λ _ _ _ _ _ _=>.non) (λ b _ _ _ _ _ _=>.bl b) (λ i _ _ _ _ _ _=>.int i) (λ x _ _ _ _ _ _=>.str x) (λ h _ ih _ s o hl ho hA=>.tup (aBe s hl ho h) (ih _ s o hl ho hA))
  (λ h m _ ih _ s o hl ho hA=>.lst (s _ _ (λ e=>hA (e▸m)) h) m (ih _ s o hl ho λ z=>hA z.1)) (λ h m _ ih _ s o hl ho hA=>.dK (s _ _ (λ e=>hA (e▸m)) h) m (ih _ s o hl ho λ z=>hA z.1))
  (λ h m _ ih _ s o hl ho hA=>.dT (h.but s hl ho λ e=>hA (e▸m)) m (ih _ s o hl ho λ z=>hA z.1)) (λ h m hS nd _ s o hl ho hA=>.set (s _ _ (λ e=>hA (e▸m)) h) m hS nd) (λ h _ s o hl ho _=>.scr (aFW s hl ho h)) (λ h _ _ _ _ _ _=>.fn h) (λ _ _ _ _ _ _=>.nil) (λ _ _ ih ir _ s o hl ho hA=>.cons (ih _ s o hl ho hA) (ir _ s o hl ho hA)) r H' s o hl ho hA
theorem Rp.but(s:ni l H H')(hl:H l=some o)(ho:lR o=true)(hA:¬A l)(r:Rp K A H x d):Rp K A H' x d:=r.but' s hl ho hA
theorem Rps.but(s:ni l H H')(hl:H l=some o)(ho:lR o=true)(hA:¬A l)(r:Rps K A H x d):Rps K A H' x d:=r.but' s hl ho hA
mutual
def imm:D->Bool
 | .tup l=>oU l
 | .lst _=>false
 | .dct _ _=>false
 | .set _=>false
 |_=>true
def oU:List D->Bool
 |[]=>true
 |d::r=>imm d&&oU r
end
theorem aBJ(e:oU (d::r)=true):imm d=true/\oU r=true:=by
 simp only[oU,zAN]at e;exact e
theorem aLV(e:imm (.tup l)=true):oU l=true:=by simpa[imm]using e
theorem aLZ(e:imm (.lst l)=true):False:=by simp[imm]at e
theorem aFo(e:imm (.dct l k)=true):False:=by simp[imm]at e
theorem aLW(e:imm (.set l)=true):False:=by simp[imm]at e
theorem Rp.imm'(r:Rp K A H x d)(e:VL.imm d=true):Rp K A' H x d:=
 Rp.rec (motive_1:=λ _ H x d _=>VL.imm d=true->Rp K A' H x d) (motive_2:=λ _ H xs ds _=>oU ds=true->Rps K A' H xs ds)
  (λ _=>.non) (λ b _=>.bl b) (λ i _=>.int i) (λ x _=>.str x) (λ h _ ih e=>.tup h (ih (aLV e)))
  (λ _ _ _ _ e=>(aLZ e).elim) (λ _ _ _ _ e=>(aFo e).elim) (λ _ _ _ _ e=>(aFo e).elim) (λ _ _ _ _ e=>(aLW e).elim) (λ h _=>.scr h) (λ h _=>.fn h) (λ _=>.nil) (λ _ _ ih ir e=>.cons (ih (aBJ e).1) (ir (aBJ e).2)) r e
theorem Rp.imm(r:Rp K A H x d)(h:VL.imm d=true):Rp K A' H x d:=r.imm' h
theorem Rp.int_inv(r:Rp K A H v (.int i)):v= .int i:=by cases r;rfl
theorem Rp.bl_inv(r:Rp K A H v (.bl b)):v= .bl b:=by cases r;rfl
theorem Rp.tup_inv(r:Rp K A H v (.tup ds)):∃a xs,v= .ref a/\SqT K H a xs/\Rps K A H xs ds:=by cases r with|tup h r=>exact⟨_,_,rfl,h,r⟩
theorem Rp.lst_inv(r:Rp K A H v (.lst ds)):∃a xs,v= .ref a/\H a=some (.lst xs)/\A a/\Rps K (λ p=>A p/\p≠a) H xs ds:=by cases r with|lst h m r=>exact⟨_,_,rfl,h,m,r⟩
theorem Rp.scr_inv(r:Rp K A H v (.scr ns)):∃a,v= .ref a/\sr K H a ns:=by cases r with|scr h=>exact⟨_,rfl,h⟩
theorem Rps.one_inv(r:Rps K A H vs [d]):∃v,vs=[v]/\Rp K A H v d:=by cases r with|cons h r=>cases r;exact⟨_,rfl,h⟩
section
variable{A:Addr->Prop}{H:Hp}
theorem Rps.length:∀{xs:List V} {ds:List D},Rps K A H xs ds->xs.length=ds.length:=by
 intro xs ds h;induction xs generalizing ds with
 |nil=>cases h;rfl
 |cons x xs ih=>cases h with|cons _ r=>exact congrArg (·+1) (ih r)
theorem Rps.get:∀{xs:List V} {ds:List D} {i:Nat} {x:V},Rps K A H xs ds->xs[i]? =some x->∃d,ds[i]? =some d/\Rp K A H x d
 |_,_,_,_,.nil,e=>by simp at e
 |_,_,0,_,.cons h _,e=>by simp at e;subst e;exact⟨_,rfl,h⟩
 |_,_,i+1,x,.cons _ r,e=>by
  obtain⟨d,h1,h2⟩:=Rps.get (i:=i) (x:=x) r (by simpa using e);exact⟨d,by simpa using h1,h2⟩
theorem Rps.getD:∀{xs:List V} {ds:List D} {i:Nat} {d:D},Rps K A H xs ds->ds[i]? =some d->∃x,xs[i]? =some x/\Rp K A H x d
 |_,_,_,_,.nil,e=>by simp at e
 |_,_,0,_,.cons h _,e=>by simp at e;subst e;exact⟨_,rfl,h⟩
 |_,_,i+1,d,.cons _ r,e=>by
  obtain⟨x,h1,h2⟩:=Rps.getD (i:=i) (d:=d) r (by simpa using e);exact⟨x,by simpa using h1,h2⟩
theorem Rps.append:∀{xs ys:List V} {ds es:List D},Rps K A H xs ds->Rps K A H ys es->Rps K A H (xs++ys) (ds++es):=by
 intro xs ys ds es h s;induction xs generalizing ds with
 |nil=>cases h;exact s
 |cons x xs ih=>cases h with|cons h r=>exact .cons h (ih r)
theorem Rps.take:∀{xs:List V} {ds:List D} (n:Nat),Rps K A H xs ds->Rps K A H (xs.take n) (ds.take n)
 |_,_,0,_=>.nil
 |_,_,_+1,.nil=>.nil
 |_,_,n+1,.cons h r=>.cons h (Rps.take n r)
theorem Rps.drop:∀{xs:List V} {ds:List D} (n:Nat),Rps K A H xs ds->Rps K A H (xs.drop n) (ds.drop n)
 |_,_,0,r=>r
 |_,_,_+1,.nil=>.nil
 |_,_,n+1,.cons _ r=>Rps.drop n r
theorem Rps.reverse:∀{xs:List V} {ds:List D},Rps K A H xs ds->Rps K A H xs.reverse ds.reverse:=by
 intro xs ds h;induction xs generalizing ds with
 |nil=>cases h;exact .nil
 |cons x xs ih=>
  cases h with
  |cons h r=>
   rw[zDL,zDL];exact Rps.append (ih r) (.cons h .nil)
theorem Rps.ints:∀{ns:List Int},Rps K A H (ns.map V.int) (ns.map D.int)
 |[]=>.nil
 |n::ns=>.cons (.int n) Rps.ints
theorem Rps.ints_of:∀{xs:List V} {ns:List Int},Rps K A H xs (ns.map D.int)->xs=ns.map V.int
 |_,[],.nil=>rfl
 |_,n::ns,.cons h r=>by
  cases h;rw[zAG,Rps.ints_of r]
end
theorem aQ(h:a=b):a=b:=h
inductive Rs(α:Type) where
 |ok (a:α)|ex (c:Str)|st
noncomputable def Rs.bd{α β:Type}:Rs α->(α->Rs β)->Rs β
 | .ok a,f=>f a
 | .ex c,_=>.ex c
 | .st,_=>.st
@[simp] theorem aM(a:α)(f:α->Rs β):(Rs.ok a).bd f=f a:=aQ rfl
theorem cM{r:Rs α}(h:r.bd f= .ok b):∃a,r= .ok a/\f a= .ok b:=by
 cases r with
 |ok a=>exact⟨a,rfl,h⟩
 |ex c=>cases h
 |st=>cases h
inductive Slot where
 |no|sh (d:D)|nw (d:D)|ow (d:D)|oz (d:D)|o2 (l:List (List D))
abbrev En:=List Slot
abbrev Lab:=Addr->Nat×Nat
abbrev Mode:=Option (List Nat)
def inM(m:Mode)(n:Nat):Prop:=match m with
 |none=>True
 |some L=>n∈L
def jn:Mode->Mode->Mode
 |some a,some b=>some (a++b)
 |_,_=>none
theorem aPM(h:inM a n):inM (jn a b) n:=by
 cases a with
 |none=>cases b<;>exact trivial
 |some L=>
  cases b with
  |none=>exact trivial
  |some M=>exact zA0 _ h
theorem aPL(h:inM b n):inM (jn a b) n:=by
 cases a with
 |none=>cases b<;>exact trivial
 |some L=>
  cases b with
  |none=>exact trivial
  |some M=>exact zA4 _ h
def fpM(m:Mode)(lab:Lab)(H:Hp):Addr->Prop:=λ p=>H p=none\/inM m (lab p).1
theorem aJU(h:fpM a lab H p):fpM (jn a b) lab H p:=h.imp id aPM
theorem aJT(h:fpM b lab H p):fpM (jn a b) lab H p:=h.imp id aPL
theorem ut(s:aW H H')(h:fpM m lab H' p):fpM m lab H p:=h.imp (λ z=>s.free z) id
structure Gx where
 H0:Hp
 E:XK
 cl:Str->Addr
def aI9:D->Bool
 | .lst _=>true
 | .dct _ _=>true
 | .set _=>true
 |_=>false
def gU(K:zAA)(H:Hp)(lab:Lab)(i:Nat)(v:V):Slot->Prop
 | .no=>True
 | .sh d=>Rp K (λ p=>(lab p).1<=1) H v d
 | .nw d=>Rp K (λ p=>(lab p).1=1) H v d
 | .ow d=>Rp K (λ p=>(lab p).1=1\/(lab p).1=i+2) H v d/\(aI9 d=true->∃a,v= .ref a/\(lab a).1=i+2)
 | .oz d=>∃a xs ds,v= .ref a/\d= .lst ds/\H a=some (.lst xs)/\(lab a).1=i+2/\Rps K (λ p=>(lab p).1<=1) H xs ds
 | .o2 l=>∃a xs,v= .ref a/\H a=some (.lst xs)/\lab a=(i+2,0)/\xs.length=l.length/\∀(j:Nat) x ds,xs[j]? =some x->l[j]? =some ds->Rp K (λ p=>lab p=(i+2,j+1)) H x (.lst ds)
structure RR(K:zAA)(G:Gx)(U:List (V×D))(Y:En)(Z:L2.St)(H:Hp)(lab:Lab):Prop where
 len:Z.length=Y.length
 sl:∀(i:Nat) (s:Slot),Y[i]? =some s->s= .no\/∃v,Z[i]? =some (some v)/\gU K H lab i v s
 old:aW G.H0 H
 new:∀p,(lab p).1≠0->G.H0 p=none
 tm:∀q∈U,Rp K (λ p=>(lab p).1<=1) H q.1 q.2
theorem gU.up(s:aW H H')(h:gU K H lab i v x):gU K H' lab i v x:=by
 cases x with
 |no=>exact trivial
 |sh d=>exact Rp.up s h
 |nw d=>exact Rp.up s h
 |ow d=>exact⟨Rp.up s h.1,h.2⟩
 |oz d=>
  obtain⟨a,xs,ds,e1,e2,e3,e4,e5⟩:=h;exact⟨a,xs,ds,e1,e2,s _ _ e3,e4,e5.up s⟩
 |o2 l=>
  obtain⟨a,xs,e1,e2,e3,e4,e5⟩:=h;exact⟨a,xs,e1,s _ _ e2,e3,e4,λ j x ds f1 f2=>(e5 j x ds f1 f2).up s⟩
theorem aMo(r:Rp K A H (.ref a) d)(hm:aI9 d=true):∃o,H a=some o/\lR o=true/\A a:=by
 cases r with
 |lst h m _=>exact⟨_,h,rfl,m⟩
 |dK h m _=>exact⟨_,h,rfl,m⟩
 |dT h m _=>exact⟨_,h.at_,rfl,m⟩
 |set h m _ _=>exact⟨_,h,rfl,m⟩
 |tup _ _=>cases hm
 |scr _=>cases hm
 |fn _=>cases hm
theorem gU.lab{lab lab':Lab}(hl:∀p o,H p=some o->lab' p=lab p)(h:gU K H lab i v x):gU K H lab' i v x:=by
 cases x with
 |no=>exact trivial
 |sh d=>exact Rp.wk (λ p o e q=>(hl p o e).symm▸q) h
 |nw d=>exact Rp.wk (λ p o e q=>(hl p o e).symm▸q) h
 |ow d=>
  obtain⟨h,t⟩:=h;refine⟨Rp.wk (λ p o e q=>(hl p o e).symm▸q) h,λ m=>?_⟩;obtain⟨a,rfl,ea⟩:=t m;obtain⟨o,ho,_⟩:=aMo h m;exact⟨a,rfl,(congrArg (·.1) (hl a o ho)).trans ea⟩
 |oz d=>
  obtain⟨a,xs,ds,e1,e2,e3,e4,e5⟩:=h;exact⟨a,xs,ds,e1,e2,e3,(congrArg (·.1) (hl _ _ e3)).trans e4,Rps.wk (λ p o e q=>(hl p o e).symm▸q) e5⟩
 |o2 l=>
  obtain⟨a,xs,e1,e2,e3,e4,e5⟩:=h;exact⟨a,xs,e1,e2,(hl _ _ e2).trans e3,e4,λ j x ds f1 f2=>Rp.wk (λ p o e q=>(hl p o e).symm▸q) (e5 j x ds f1 f2)⟩
section
variable{G:Gx}{U:List (V×D)}{Y:En}{Z:L2.St}{H H':Hp}{lab lab':Lab}
theorem RR.up(R:RR K G U Y Z H lab)(s:aW H H'):RR K G U Y Z H' lab:=
 ⟨R.len,λ i x e=>(R.sl i x e).imp id λ⟨v,e1,e2⟩=>⟨v,e1,e2.up s⟩,R.old.trans s,R.new,λ q hq=>(R.tm q hq).up s⟩
theorem RR.relab(R:RR K G U Y Z H lab)(hl:∀p o,H p=some o->lab' p=lab p)(hn:∀p,(lab' p).1≠0->G.H0 p=none):RR K G U Y Z H lab':=
 ⟨R.len,λ i x e=>(R.sl i x e).imp id λ⟨v,e1,e2⟩=>⟨v,e1,e2.lab hl⟩,R.old,hn,λ q hq=>Rp.wk (λ p o e z=>by rw[hl p o e];exact z) (R.tm q hq)⟩
theorem RR.drop(R:RR K G (U'++U) Y Z H lab):RR K G U Y Z H lab:=⟨R.len,R.sl,R.old,R.new,λ z hz=>R.tm z (zA4 _ hz)⟩
theorem RR.put(R:RR K G U Y Z H lab)(h:gU K H lab i v s):RR K G U (Y.set i s) (Z.set i (some v)) H lab:=by
 refine⟨by rw[zB8,zB8,R.len],λ j x e=>?_,R.old,R.new,R.tm⟩;by_cases hj:i=j
 .subst hj
  have hi:i<Y.length:=by
   have:=(zAI.mp e).1
   rwa [zB8]at this
  rw[zCA hi]at e;cases e;exact .inr ⟨v,by rw[zCA (by rw[R.len];exact hi)],h⟩
 .rw[zBZ hj]at e
  rcases R.sl j x e with z|⟨u,e1,e2⟩
  .exact .inl z
  .exact .inr ⟨u,by rw[zBZ hj];exact e1,e2⟩
def cO(H:Hp)(n:Nat)(lab:Lab):Lab:=λ p=>match H p with
 |none=>(n,0)
 |some _=>lab p
theorem bT(h:H p=some o):cO H n lab p=lab p:=by unfold cO;rw[h]
theorem zU(h:H p=none):cO H n lab p=(n,0):=by unfold cO;rw[h]
theorem RR.fresh{P:Nat->Prop}(h1:P 1)(hm:∀k,inM m k->P k)(R:RR K G U Y Z H lab)(s:aW H H')(r:Rp K (fpM m lab H) H' v d):
  RR K G U Y Z H' (cO H 1 lab)/\Rp K (λ p=>P (cO H 1 lab p).1) H' v d:=by
 refine⟨(R.relab (λ p o e=>bT e) λ p hp=>?_).up s,Rp.wk (λ p o e z=>?_) r⟩
 .cases e:H p with
  |none=>exact R.old.free e
  |some o=>rw[bT e]at hp;exact R.new p hp
 .rcases z with z|z
  .rw[zU z];exact h1
  .cases e:H p with
   |none=>rw[zU e];exact h1
   |some o=>rw[bT e];exact hm _ z
theorem RR.freshO(i:Nat)(hm:∀k,inM m k->k=1\/k=i+2)(R:RR K G U Y Z H lab)(s:aW H H')(r:Rp K (fpM m lab H) H' v d)(ht:aI9 d=true->∃a,v= .ref a/\H a=none):
  ∃lab',RR K G U Y Z H' lab'/\gU K H' lab' i v (.ow d):=by
 obtain⟨R',r'⟩:=R.fresh (P:=λ k=>k=1\/k=i+2) (.inl rfl) hm s r;cases hd:aI9 d with
 |false=>exact⟨_,R',r',λ z=>absurd z (by simp[hd])⟩
 |true=>
  obtain⟨a,rfl,ha⟩:=ht hd;refine⟨λ p=>if p=a then(i+2,0)else cO H 1 lab p,?_,Rp.wk (λ p o e z=>?_) r',λ _=>⟨a,rfl,by show(if a=a then((i+2,0):Nat×Nat)else cO H 1 lab a).1=i+2;rw[if_pos rfl]⟩⟩
  .refine(R.relab (lab':=λ p=>if p=a then(i+2,0)else cO H 1 lab p) (λ p o e=>?_) λ p hp=>?_).up s
   .rw[if_neg (λ z=>by subst z;rw[ha]at e;cases e),bT e]
   .by_cases z:p=a
    .subst z;exact R.old.free ha
    .rw[if_neg z]at hp;exact R'.new p hp
  .dsimp only
   by_cases q:p=a
   .rw[if_pos q];exact .inr rfl
   .rw[if_neg q];exact z
theorem aMO(h:gU K H lab i v (.oz d)):Rp K (λ p=>(lab p).1<=1\/(lab p).1=i+2) H v d:=by
 obtain⟨a,xs,ds,rfl,rfl,h1,h2,h3⟩:=h;exact .lst h1 (.inr h2) (h3.wk λ p o e z=>⟨.inl z,λ q=>by subst q;lia⟩)
end
structure Ct where
 ι:Type
 X:ι->Cx
 prog:zA3
 w:World
 K:zAA
 mg:Str->Option Value
 base:Heap
 k:Nat
 G:Gx
 cx:∀i,(X i).prog=prog/\(X i).w=w/\(X i).K=K/\(X i).mg=mg/\(X i).base=base
 calm:∀i,(X i).calm=true
 room:∀i,gJ k (X i).A
 own:∀i,zIG (model (X i).prog (X i).w) (X i).A (X i).env (X i).xe
 pass:∀i,uM (CX1 (X i).prog (X i).w) (X i) G.E
 dOk:Bool
 dcx:dOk=true->∀i,eQ (X i) G.E
theorem Ct.hK(C:Ct)(i:C.ι):(C.X i).K=C.K:=(C.cx i).2.2.1
def WR{α:Type}(G:Gx)(r:Rs α)(P:α->Prop):Prop:=match r with
 | .ok a=>P a
 | .ex c=>∀H',aW G.H0 H'->G.E (.ref (G.cl c)) none H'
 | .st=>False
theorem WR.bd(h:WR G (r.bd k) P):WR G r (λ a=>WR G (k a) P):=by
 cases r with
 |ok a=>exact h
 |ex c=>exact h
 |st=>exact h
theorem WR.imp(h:WR G r P)(f:∀a,r= .ok a->P a->P' a):WR G r P':=by
 cases r with
 |ok a=>exact f a rfl h
 |ex c=>exact h
 |st=>exact h
abbrev QE(K:zAA)(m:Mode)(lab:Lab)(H:Hp)(Q:VK):D->Prop:=λ d=>∀v H',aW H H'->Rp K (fpM m lab H) H' v d->Q v H'
abbrev QA(K:zAA)(m:Mode)(lab:Lab)(H:Hp)(Q:List V->Hp->Prop):List D->Prop:=λ ds=>∀vs H',aW H H'->Rps K (fpM m lab H) H' vs ds->Q vs H'
abbrev QT(H:Hp)(Q:Bool->Hp->Prop):Bool->Prop:=λ b=>∀H',aW H H'->Q b H'
def jg(K:zAA)(G:Gx)(m:Mode)(t:TE)(f:En->Rs D):Prop:=∀U Z H Y lab (Q:VK),RR K G U Y Z H lab->WR G (f Y) (QE K m lab H Q)->t Z H Q
def aLp(K:zAA)(G:Gx)(m:Mode)(t:TA)(f:En->Rs (List D)):Prop:=∀U Z H Y lab (Q:List V->Hp->Prop),RR K G U Y Z H lab->WR G (f Y) (QA K m lab H Q)->t Z H Q
def aDj(K:zAA)(G:Gx)(t:TT)(f:En->Rs Bool):Prop:=∀U Z H Y lab (Q:Bool->Hp->Prop),RR K G U Y Z H lab->WR G (f Y) (QT H Q)->t Z H Q
def SE(C:Ct)(m:Mode)(e:Expr)(f:En->Rs D):Prop:=∃t,(∀i,PE (C.X i) e t)/\jg C.K C.G m t f
def SA(C:Ct)(m:Mode)(es:List Expr)(f:En->Rs (List D)):Prop:=∃t,(∀i,PA (C.X i) es t)/\aLp C.K C.G m t f
def ST(C:Ct)(e:Expr)(f:En->Rs Bool):Prop:=∃t,(∀i,PT (C.X i) e t)/\aDj C.K C.G t f
def SW(C:Ct)(e:Expr)(f:En->Rs Bool):Prop:=∃t,(∀i,PW (C.X i) e t)/\aDj C.K C.G t f
theorem SW.st(h:SW C e f):ST C e f:=let⟨t,h1,h2⟩:=h;⟨t,λ i=>(h1 i).pt,h2⟩
def jc(i:Nat):En->Rs D:=λ Y=>match Y[i]? with
 |some (.sh d)=>.ok d
 |some (.nw d)=>.ok d
 |some (.ow d)=>.ok d
 |some (.oz d)=>.ok d
 |some (.o2 l)=>.ok (.lst (l.map .lst))
 |_=>.st
def aD(i:Nat):En->Rs D:=λ Y=>match Y[i]? with
 |some (.sh d)=>.ok d
 |some (.nw d)=>.ok d
 |_=>.st
def fL(i:Nat):En->Rs D:=λ Y=>match Y[i]? with
 |some (.nw d)=>.ok d
 |_=>.st
def xN(i:Nat):En->Rs D:=λ Y=>match Y[i]? with
 |some (.ow d)=>.ok d
 |some (.o2 l)=>.ok (.lst (l.map .lst))
 |_=>.st
def cD(d:D):En->Rs D:=λ _=>.ok d
theorem aFb{K:zAA}{H:Hp}{lab:Lab}{i:Nat}{v:V}{l:List (List D)}(h:gU K H lab i v (.o2 l)):Rp K (λ p=>(lab p).1=i+2) H v (.lst (l.map .lst)):=by
 obtain⟨a,xs,rfl,ha,hla,hlen,hin⟩:=h;refine .lst ha (by rw[hla]) ?_;have go:∀(xs:List V) (l:List (List D)) (n:Nat),xs.length=l.length->0<n->(∀(j:Nat) x ds,xs[j]? =some x->l[j]? =some ds->Rp K (λ p=>lab p=(i+2,n+j)) H x (.lst ds))->Rps K (λ p=>(lab p).1=i+2/\p≠a) H xs (l.map .lst):=by
  intro xs;induction xs with
  |nil=>intro l n hl _ _;cases l with|nil=>exact .nil|cons _ _=>simp at hl
  |cons x xs ih=>
   intro l n hl hn h;cases l with
   |nil=>simp at hl
   |cons ds l=>
    refine .cons (Rp.wk (λ p o e z=>⟨by rw[z],λ e=>by rw[e,hla]at z;have z2:(0:Nat)=n+0:=congrArg zEG z;lia⟩) (h 0 x ds rfl rfl)) (ih l (n+1) (by simpa using hl) (by lia) λ j y es e1 e2=>?_);have z:=h (j+1) y es (by simpa using e1) (by simpa using e2);rw[show n+1+j=n+(j+1)by lia];exact z
 exact go xs l 1 hlen (by lia) λ j x ds e1 e2=>by have z:=hin j x ds e1 e2;rw[show 1+j=j+1 by lia];exact z
section
variable{C:Ct}{pos:Pos}
theorem aKJ(K:zAA)(G:Gx)(i:Nat):jg K G (some [0,1,i+2]) (rD i) (jc i):=by
 intro U Z H Y lab Q R W;unfold jc at W;cases e:Y[i]? with
 |none=>rw[e]at W;exact W.elim
 |some s=>
  rw[e]at W;rcases R.sl i s e with rfl|⟨v,ev,hv⟩
  .exact zAQ W
  .cases s with
   |no=>exact zAQ W
   |sh d=>exact⟨v,ev,W v H (aW.refl H) (Rp.wk (λ p o e z=>.inr (by show(lab p).1∈[0,1,i+2];rcases(show(lab p).1=0\/(lab p).1=1 by lia)with q|q<;>rw[q]<;>simp)) hv)⟩
   |nw d=>exact⟨v,ev,W v H (aW.refl H) (Rp.wk (λ p o e z=>.inr (by show(lab p).1∈[0,1,i+2];rw[z];simp)) hv)⟩
   |ow d=>exact⟨v,ev,W v H (aW.refl H) (Rp.wk (λ p o e z=>.inr (by show(lab p).1∈[0,1,i+2];rcases z with q|q<;>rw[q]<;>simp)) hv.1)⟩
   |oz d=>exact⟨v,ev,W v H (aW.refl H) (Rp.wk (λ p o e z=>.inr (by show(lab p).1∈[0,1,i+2];rcases(show(lab p).1=0\/(lab p).1=1\/(lab p).1=i+2 by lia)with q|q|q<;>rw[q]<;>simp)) (aMO hv))⟩
   |o2 l=>exact⟨v,ev,W v H (aW.refl H) (Rp.wk (λ p o e z=>.inr (by show(lab p).1∈[0,1,i+2];rw[z];simp)) (aFb hv))⟩
theorem aH4(K:zAA)(G:Gx)(i:Nat):jg K G (some [0,1]) (rD i) (aD i):=by
 intro U Z H Y lab Q R W;unfold aD at W;cases e:Y[i]? with
 |none=>rw[e]at W;exact W.elim
 |some s=>
  rw[e]at W;rcases R.sl i s e with rfl|⟨v,ev,hv⟩
  .exact zAQ W
  .cases s with
   |sh d=>exact⟨v,ev,W v H (aW.refl H) (Rp.wk (λ p o e z=>.inr (by show(lab p).1∈[0,1];rcases(show(lab p).1=0\/(lab p).1=1 by lia)with q|q<;>rw[q]<;>simp)) hv)⟩
   |nw d=>exact⟨v,ev,W v H (aW.refl H) (Rp.wk (λ p o e z=>.inr (by show(lab p).1∈[0,1];rw[z];simp)) hv)⟩
   |_=>exact zAQ W
theorem aH6(K:zAA)(G:Gx)(i:Nat):jg K G (some [1]) (rD i) (fL i):=by
 intro U Z H Y lab Q R W;unfold fL at W;cases e:Y[i]? with
 |none=>rw[e]at W;exact W.elim
 |some s=>
  rw[e]at W;rcases R.sl i s e with rfl|⟨v,ev,hv⟩
  .exact zAQ W
  .cases s with
   |nw d=>exact⟨v,ev,W v H (aW.refl H) (Rp.wk (λ p o e z=>.inr (by show(lab p).1∈[1];rw[z];simp)) hv)⟩
   |_=>exact zAQ W
theorem aH5(K:zAA)(G:Gx)(i:Nat):jg K G (some [1,i+2]) (rD i) (xN i):=by
 intro U Z H Y lab Q R W;unfold xN at W;cases e:Y[i]? with
 |none=>rw[e]at W;exact W.elim
 |some s=>
  rw[e]at W;rcases R.sl i s e with rfl|⟨v,ev,hv⟩
  .exact zAQ W
  .cases s with
   |ow d=>exact⟨v,ev,W v H (aW.refl H) (Rp.wk (λ p o e z=>.inr (by show(lab p).1∈[1,i+2];rcases z with q|q<;>rw[q]<;>simp)) hv.1)⟩
   |o2 l=>exact⟨v,ev,W v H (aW.refl H) (Rp.wk (λ p o e z=>.inr (by show(lab p).1∈[1,i+2];rw[z];simp)) (aFb hv))⟩
   |_=>exact zAQ W
theorem m9(i:Nat)(hN:∀j,(C.X j).N[i]? =some x:=by intro _;rfl)(hv:∀j,Vis (C.X j).env.scope x:=by intro _;first|exact zCf rfl|exact zCC (zCf rfl)|exact zCC (zCC rfl))(hd:(x==("__debug__":Str))=false:=by decide)
  (hcd:(x==("__classdict__":Str))=false:=by decide):SE C (some [0,1,i+2]) (.Name x pos) (jc i):=⟨_,λ j=>jN (hN j) (hv j) hd hcd,aKJ _ _ i⟩
theorem aC(i:Nat)(hN:∀j,(C.X j).N[i]? =some x:=by intro _;rfl)(hv:∀j,Vis (C.X j).env.scope x:=by intro _;first|exact zCf rfl|exact zCC (zCf rfl)|exact zCC (zCC rfl))(hd:(x==("__debug__":Str))=false:=by decide)
  (hcd:(x==("__classdict__":Str))=false:=by decide):SE C (some [0,1]) (.Name x pos) (aD i):=⟨_,λ j=>jN (hN j) (hv j) hd hcd,aH4 _ _ i⟩
theorem cN(i:Nat)(hN:∀j,(C.X j).N[i]? =some x:=by intro _;rfl)(hv:∀j,Vis (C.X j).env.scope x:=by intro _;first|exact zCf rfl|exact zCC (zCf rfl)|exact zCC (zCC rfl))(hd:(x==("__debug__":Str))=false:=by decide)
  (hcd:(x==("__classdict__":Str))=false:=by decide):SE C (some [1]) (.Name x pos) (fL i):=⟨_,λ j=>jN (hN j) (hv j) hd hcd,aH6 _ _ i⟩
theorem nq(i:Nat)(hN:∀j,(C.X j).N[i]? =some x:=by intro _;rfl)(hv:∀j,Vis (C.X j).env.scope x:=by intro _;first|exact zCf rfl|exact zCC (zCf rfl)|exact zCC (zCC rfl))(hd:(x==("__debug__":Str))=false:=by decide)
  (hcd:(x==("__classdict__":Str))=false:=by decide):SE C (some [1,i+2]) (.Name x pos) (xN i):=⟨_,λ j=>jN (hN j) (hv j) hd hcd,aH5 _ _ i⟩
theorem aH:SE C (some []) (.Constant (.int i) j pos) (cD (.int i)):=⟨_,λ _=>aEX,λ U Z H Y lab Q R W=>W _ H (aW.refl H) (.int i)⟩
theorem fD:SE C (some []) (.Constant (.bool b) j pos) (cD (.bl b)):=⟨_,λ _=>aIR,λ U Z H Y lab Q R W=>W _ H (aW.refl H) (.bl b)⟩
theorem vZ:SE C (some []) (.Constant .none j pos) (cD .non):=⟨_,λ _=>aNM,λ U Z H Y lab Q R W=>W _ H (aW.refl H) .non⟩
theorem nu:SE C (some []) (.Constant (.str x) j pos) (cD (.str x)):=⟨_,λ _=>gQ,λ U Z H Y lab Q R W=>W _ H (aW.refl H) (.str x)⟩
theorem aFU(hm:C.mg x=some u)(r:RelV v u)(hd:∀A H,Rp C.K A H v d)(hdb:(x==("__debug__":Str))=false:=by decide)(hg:∀i,Gl (C.X i) x:=by intro _;rfl):SE C (some []) (.Name x pos) (cD d):=
 ⟨_,λ i=>fG (hg i) (by rw[(C.cx i).2.2.2.1];exact hm) r hdb,λ U Z H Y lab Q R W=>W _ H (aW.refl H) (hd _ _)⟩
def qH(d:D):Rs D:=if imm d=true then .ok d else .st
def aq(f:En->Rs D):En->Rs D:=λ Y=>(f Y).bd qH
theorem aZ(h:SE C m e f):SE C (some []) e (aq f):=by
 obtain⟨t,h1,h2⟩:=h;refine⟨t,h1,λ U Z H Y lab Q R W=>h2 U Z H Y lab Q R (W.bd.imp λ d _ w v H' s r=>?_)⟩;unfold qH at w;by_cases hd:imm d=true
 .rw[if_pos hd]at w
  exact w v H' s (r.imm hd)
 .rw[if_neg hd]at w
  exact zAQ w
def aG:En->Rs (List D):=λ _=>.ok []
def aA(f:En->Rs D)(g:En->Rs (List D)):En->Rs (List D):=λ Y=>(f Y).bd λ d=>(g Y).bd λ ds=>.ok (d::ds)
variable{m m1 m2:Mode}{e a b:Expr}{es:List Expr}{f fa fb:En->Rs D}{g:En->Rs (List D)}
theorem aF:SA C (some []) [] aG:=⟨_,λ _=>dY,λ U Z H Y lab Q R W=>W _ H (aW.refl H) .nil⟩
theorem aB(h:SE C m1 e f)(hr:SA C m2 es g)(hs:∀i,zAX (e::es) (C.X i).env=(false,eval e (C.X i).env)::zAX es (C.X i).env:=by intro _;rfl):SA C (jn m1 m2) (e::es) (aA f g):=by
 obtain⟨t,h1,h2⟩:=h;obtain⟨u,k1,k2⟩:=hr;refine⟨_,λ i=>ak (h1 i) (k1 i) (hs i),λ U Z H Y lab Q R W=>?_⟩;refine h2 U Z H Y lab _ R (W.bd.imp λ d _ w x H1 s1 r1=>?_);refine k2 U Z H1 Y lab _ (R.up s1) (w.bd.imp λ ds _ w xs H2 s2 r2=>?_);exact w (x::xs) H2 (s1.trans s2) (.cons (r1.mono s2 λ p o _ z=>aJU z) (r2.wk λ p o _ z=>aJT (ut s1 z)))
def bj(g:En->Rs (List D)):En->Rs D:=λ Y=>(g Y).bd λ ds=>if ds.length<=zAV then .ok (.tup ds)else .st
def dZ(g:En->Rs (List D)):En->Rs D:=λ Y=>(g Y).bd λ ds=>if ds.length<=zAV then .ok (.lst ds)else .st
theorem bI{x1}(h:SA C m es g):SE C m (.Tuple es x1 pos) (bj g):=by
 obtain⟨t,h1,h2⟩:=h;refine⟨_,λ i=>aKd (h1 i),λ U Z H Y lab Q R W=>h2 U Z H Y lab _ R (W.bd.imp λ ds _ w xs H1 s1 r1=>?_)⟩;by_cases hz:ds.length<=zAV
 .rw[if_pos hz]at w
  exact⟨by rw[r1.length];exact hz,λ p H' s hp _=>w _ H' (s1.trans s) (.tup (SqT.of hp) (r1.up s))⟩
 .rw[if_neg hz]at w
  exact zAQ w
theorem gM(h:SA C m es g):SE C m (.List es pos) (dZ g):=by
 obtain⟨t,h1,h2⟩:=h;refine⟨_,λ i=>qj (h1 i),λ U Z H Y lab Q R W=>h2 U Z H Y lab _ R (W.bd.imp λ ds _ w xs H1 s1 r1=>?_)⟩;by_cases hz:ds.length<=zAV
 .rw[if_pos hz]at w
  exact⟨by rw[r1.length];exact hz,λ p H' s hp hn=>w _ H' (s1.trans s) (.lst hp (.inl (s1.free hn)) ((r1.wk λ q o e z=>⟨z,λ e'=>by subst e';rw[hn]at e;cases e⟩).up s))⟩
 .rw[if_neg hz]at w
  exact zAQ w
theorem aKR:SE C (some []) (.Dict [] [] pos) (cD (.dct [] [])):=
 ⟨_,λ _=>aIO,λ U Z H Y lab Q R W p H' s hp hn=>W _ H' s (.dK (kvs:=[]) hp (.inl hn) .nil)⟩
def aO3(H:Hp)(v:V)(d:D):Prop:=aI9 d=true->∃a,v= .ref a/\H a=none
def aP0(K:zAA)(G:Gx)(m:Mode)(t:TE)(f:En->Rs D):Prop:=∀U Z H Y lab (Q:VK),RR K G U Y Z H lab->WR G (f Y) (λ d=>∀v H',aW H H'->Rp K (fpM m lab H) H' v d->aO3 H v d->Q v H')->t Z H Q
def SF(C:Ct)(m:Mode)(e:Expr)(f:En->Rs D):Prop:=∃t,(∀i,PE (C.X i) e t)/\aP0 C.K C.G m t f
theorem m6(h:SA C m es g):SF C m (.List es pos) (dZ g):=by
 obtain⟨t,h1,h2⟩:=h;refine⟨_,λ i=>qj (h1 i),λ U Z H Y lab Q R W=>h2 U Z H Y lab _ R (W.bd.imp λ ds _ w xs H1 s1 r1=>?_)⟩;by_cases hz:ds.length<=zAV
 .rw[if_pos hz]at w
  exact⟨by rw[r1.length];exact hz,λ p H' s hp hn=>w _ H' (s1.trans s) (.lst hp (.inl (s1.free hn)) ((r1.wk λ q o e z=>⟨z,λ e'=>by subst e';rw[hn]at e;cases e⟩).up s)) λ _=>⟨p,rfl,s1.free hn⟩⟩
 .rw[if_neg hz]at w
  exact zAQ w
def OpS(K:zAA)(r:R2)(fd:D->D->Rs D):Prop:=∀(A:Addr->Prop) x y d e H (Q:VK) z,Rp K A H x d->Rp K A H y e->fd d e= .ok z->(∀v H',aW H H'->Rp K (λ p=>H p=none\/A p) H' v z->Q v H')->r x y H Q
def UnS(K:zAA)(r:V->Hp->VK->Prop)(fd:D->Rs D):Prop:=∀(A:Addr->Prop) x d H (Q:VK) z,Rp K A H x d->fd d= .ok z->(∀v H',aW H H'->Rp K (λ p=>H p=none\/A p) H' v z->Q v H')->r x H Q
def su(K:zAA)(r:List V->Hp->VK->Prop)(fd:List D->Rs D):Prop:=∀(A:Addr->Prop) xs ds H (Q:VK) z,Rps K A H xs ds->fd ds= .ok z->(∀v H',aW H H'->Rp K (λ p=>H p=none\/A p) H' v z->Q v H')->r xs H Q
def okD(r:Rs D):Rs D:=match r with
 | .ok d=>.ok d
 |_=>.st
def op2(fd:D->D->Rs D)(fa fb:En->Rs D):En->Rs D:=λ Y=>(fa Y).bd λ x=>(fb Y).bd λ y=>okD (fd x y)
def op1(fd:D->Rs D)(fa:En->Rs D):En->Rs D:=λ Y=>(fa Y).bd λ x=>okD (fd x)
def opA(fd:List D->Rs D)(fa:En->Rs (List D)):En->Rs D:=λ Y=>(fa Y).bd λ x=>okD (fd x)
theorem WR.okD(h:WR G (okD r) P):∃z,r= .ok z/\P z:=by
 cases r with
 |ok z=>exact⟨z,rfl,h⟩
 |ex c=>exact zAQ h
 |st=>exact zAQ h
theorem aBi{K:zAA}{G:Gx}{r:R2}{ta tb:TE}{fd:D->D->Rs D}(hs:OpS K r fd)(h1:jg K G m1 ta fa)(h2:jg K G m2 tb fb):jg K G (jn m1 m2) (tOp r ta tb) (op2 fd fa fb):=by
 intro U Z H Y lab Q R W;refine h1 U Z H Y lab _ R (W.bd.imp λ d _ w x H1 s1 r1=>?_);refine h2 U Z H1 Y lab _ (R.up s1) (w.bd.imp λ e _ w y H2 s2 r2=>?_);obtain⟨z,ez,w⟩:=w.okD;refine hs (fpM (jn m1 m2) lab H) x y d e H2 Q z (r1.mono s2 λ p o _ q=>aJU q) (r2.wk λ p o _ q=>aJT (ut s1 q)) ez λ v H' s r=>w v H' ((s1.trans s2).trans s) (r.wk λ p o _ q=>?_)
 rcases q with q|q
 .exact .inl ((s1.trans s2).free q)
 .exact q
theorem aKK{K:zAA}{G:Gx}{r:V->Hp->VK->Prop}{ta:TE}{fd:D->Rs D}(hs:UnS K r fd)(h1:jg K G m ta fa):jg K G m (tUn r ta) (op1 fd fa):=by
 intro U Z H Y lab Q R W;refine h1 U Z H Y lab _ R (W.bd.imp λ d _ w x H1 s1 r1=>?_);obtain⟨z,ez,w⟩:=w.okD;refine hs (fpM m lab H) x d H1 Q z r1 ez λ v H' s r=>w v H' (s1.trans s) (r.wk λ p o _ q=>?_)
 rcases q with q|q
 .exact .inl (s1.free q)
 .exact q
theorem aFQ{K:zAA}{G:Gx}{r:List V->Hp->VK->Prop}{ta:TA}{fd:List D->Rs D}(hs:su K r fd)(h1:aLp K G m ta g):jg K G m (tCB r ta) (opA fd g):=by
 intro U Z H Y lab Q R W;refine h1 U Z H Y lab _ R (W.bd.imp λ d _ w x H1 s1 r1=>?_);obtain⟨z,ez,w⟩:=w.okD;refine hs (fpM m lab H) x d H1 Q z r1 ez λ v H' s r=>w v H' (s1.trans s) (r.wk λ p o _ q=>?_)
 rcases q with q|q
 .exact .inl (s1.free q)
 .exact q
theorem gO(h:SE C m e f)(hi:∀Y d,f Y= .ok d->imm d=true):SE C (some []) e f:=by
 obtain⟨t,h1,h2⟩:=h;exact⟨t,h1,λ U Z H Y lab Q R W=>h2 U Z H Y lab Q R (W.imp λ d ed w v H' s r=>w v H' s (r.imm (hi Y d ed)))⟩
theorem jo(h:∀x y z,fd x y= .ok z->imm z=true)(e:op2 fd fa fb Y= .ok d):imm d=true:=by
 obtain⟨x,_,e⟩:=cM e;obtain⟨y,_,e⟩:=cM e;unfold okD at e;split at e
 .rename_i z hz
  cases e;exact h x y _ hz
 .cases e
theorem aLX(h:∀x z,fd x= .ok z->imm z=true)(e:op1 fd fa Y= .ok d):imm d=true:=by
 obtain⟨x,_,e⟩:=cM e;unfold okD at e;split at e
 .rename_i z hz
  cases e;exact h x _ hz
 .cases e
theorem qz(h:∀x z,fd x= .ok z->imm z=true)(e:opA fd g Y= .ok d):imm d=true:=by
 obtain⟨x,_,e⟩:=cM e;unfold okD at e;split at e
 .rename_i z hz
  cases e;exact h x _ hz
 .cases e
theorem aAv(ro:∀i,OpR (C.X i) (zCU op) r)(hs:OpS C.K r fd)(ha:SE C m1 a fa)(hb:SE C m2 b fb):SE C (jn m1 m2) (.BinOp a op b pos) (op2 fd fa fb):=by
 obtain⟨t,h1,h2⟩:=ha;obtain⟨u,k1,k2⟩:=hb;exact⟨_,λ i=>aIM (ro i) (h1 i) (k1 i),aBi hs h2 k2⟩
theorem aOi(ro:∀i,UnR (C.X i) (unaryOp op) r)(hs:UnS C.K r fd)(ha:SE C m a fa):SE C m (.UnaryOp op a pos) (op1 fd fa):=by
 obtain⟨t,h1,h2⟩:=ha;exact⟨_,λ i=>aMN (ro i) (h1 i),aKK hs h2⟩
theorem yt(ro:∀i,OpR (C.X i) (zAs op) r)(hs:OpS C.K r fd)(ha:SE C m1 a fa)(hb:SE C m2 b fb)(hm:zB5 op b=false:=by first|exact aI5 _|(with_unfolding_all rfl)):
  SE C (jn m1 m2) (.Compare a [op] [b] pos) (op2 fd fa fb):=by
 obtain⟨t,h1,h2⟩:=ha;obtain⟨u,k1,k2⟩:=hb;exact⟨_,λ i=>aKh (ro i) (h1 i) (k1 i) hm,aBi hs h2 k2⟩
variable{p:Pos}{x:Str}{id T:String}
theorem pN(ro:∀i,dj (C.X i) (.builtin id) r)(hs:su C.K r fd)(hg:∀i,Gl (C.X i) x)(hm:C.mg x=none)(hv:zAt x=some (.builtin id))(ha:SA C m (e::es) g)
  (hn:x≠"__name__":=by decide)(hdb:(x==("__debug__":Str))=false:=by decide)(he:∀i,zAX (e::es) (C.X i).env=(false,eval e (C.X i).env)::zAX es (C.X i).env:=by intro _;rfl)
  (hpl:∀i,(zC2 pos (zAX es (C.X i).env)).any (·.1)=false:=by intro _;rfl):SE C m (.Call (.Name x p) (e::es) [] pos) (opA fd g):=by
 obtain⟨t,h1,h2⟩:=ha;exact⟨_,λ i=>pZ (ro i) (hg i) (by rw[(C.cx i).2.2.2.1];exact hm) hv (h1 i) hn hdb (he i) (hpl i),aFQ hs h2⟩
theorem yu(ro:∀i,dj (C.X i) (.type T) r)(hs:su C.K r fd)(hg:∀i,Gl (C.X i) x)(hm:C.mg x=none)(hv:zAt x=some (.type T))(ha:SA C m (e::es) g)
  (hn:x≠"__name__":=by decide)(hdb:(x==("__debug__":Str))=false:=by decide)(he:∀i,zAX (e::es) (C.X i).env=(false,eval e (C.X i).env)::zAX es (C.X i).env:=by intro _;rfl)
  (hpl:∀i,(zC2 pos (zAX es (C.X i).env)).any (·.1)=false:=by intro _;rfl):SE C m (.Call (.Name x p) (e::es) [] pos) (opA fd g):=by
 obtain⟨t,h1,h2⟩:=ha;exact⟨_,λ i=>jw (ro i) (hg i) (by rw[(C.cx i).2.2.2.1];exact hm) hv (h1 i) hn hdb (he i) (hpl i),aFQ hs h2⟩
def wI(f g:En->Rs D):En->Rs D:=λ Y=>(f Y).bd λ d=>match d with
 | .bl true=>g Y
 | .bl false=>.ok (.bl false)
 |_=>.st
def aKy:D->Rs D
 | .bl b=>.ok (.bl (!b))
 |_=>.st
variable{rest:List Expr}
theorem mj{op}(h:SE C m a fa):SE C m (.BoolOp op [a] pos) fa:=by
 obtain⟨t,h1,h2⟩:=h;exact⟨_,λ i=>aNK (h1 i),h2⟩
theorem lD(ha:SE C m1 a fa)(hb:SE C m2 (.BoolOp .And (b::rest) pos) fb):SE C m2 (.BoolOp .And (a::b::rest) pos) (wI fa fb):=by
 obtain⟨t,h1,h2⟩:=ha;obtain⟨u,k1,k2⟩:=hb;refine⟨_,λ i=>aNQ (h1 i) (k1 i),λ U Z H Y lab Q R W=>h2 U Z H Y lab _ R (W.bd.imp λ d _ w x H1 s1 r1=>?_)⟩;cases r1 with
 |bl c=>
  refine⟨c,rfl,?_⟩;cases c with
  |true=>
   rw[if_pos rfl];exact k2 U Z H1 Y lab Q (R.up s1) (w.imp λ z _ w v H' s r=>w v H' (s1.trans s) (r.wk λ p o _ q=>ut s1 q))
  |false=>
   rw[if_neg zA5];exact w _ H1 s1 (.bl false)
 |_=>exact zAQ w
theorem aHd(ha:SE C m a fa):SE C (some []) (.UnaryOp .Not a pos) (op1 aKy fa):=by
 obtain⟨t,h1,h2⟩:=ha;refine⟨_,λ i=>aNL (h1 i),λ U Z H Y lab Q R W=>h2 U Z H Y lab _ R (W.bd.imp λ d _ w x H1 s1 r1=>?_)⟩;obtain⟨z,ez,w⟩:=w.okD;cases r1 with
 |bl c=>cases ez;exact⟨c,rfl,w _ H1 s1 (.bl _)⟩
 |_=>cases ez
def chD(fd fd':D->D->Rs D)(fa fb fc:En->Rs D):En->Rs D:=λ Y=>(fa Y).bd λ x=>(fb Y).bd λ y=>(okD (fd x y)).bd λ z=>match z with
 | .bl true=>(fc Y).bd λ w=>okD (fd' y w)
 | .bl false=>.ok (.bl false)
 |_=>.st
theorem aGM{K:zAA}{G:Gx}{r r':R2}{ta tb tc:TE}{fd fd':D->D->Rs D}{fc:En->Rs D}{m3:Mode}(hs:OpS K r fd)(hs':OpS K r' fd')(hi:∀x y z,fd' x y= .ok z->imm z=true)(h1:jg K G m1 ta fa)(h2:jg K G m2 tb fb)(h3:jg K G m3 tc fc):
  jg K G (some []) (aHZ r r' ta tb tc) (chD fd fd' fa fb fc):=by
 intro U Z H Y lab Q R W;refine h1 U Z H Y lab _ R (W.bd.imp λ d _ w x H1 s1 r1=>?_);refine h2 U Z H1 Y lab _ (R.up s1) (w.bd.imp λ e _ w y H2 s2 r2=>?_);obtain⟨z,ez,w⟩:=w.bd.okD;refine hs (λ _=>True) x y d e H2 _ z (r1.mono s2 λ p o _ q=>trivial) (r2.wk λ p o _ q=>trivial) ez λ v H3 s3 r3=>?_
 cases r3 with
 |bl c=>
  refine⟨c,rfl,?_⟩;cases c with
  |false=>
   rw[if_neg zA5];exact w _ H3 ((s1.trans s2).trans s3) (.bl false)
  |true=>
   rw[if_pos rfl];refine h3 U Z H3 Y lab _ ((R.up s1).up (s2.trans s3)) (w.bd.imp λ e' _ w y' H4 s4 r4=>?_);obtain⟨z',ez',w⟩:=w.okD;exact hs' (λ _=>True) y y' e e' H4 Q z' (r2.mono (s3.trans s4) λ p o _ q=>trivial) (r4.wk λ p o _ q=>trivial) ez' λ v H5 s5 r5=>w v H5 ((((s1.trans s2).trans s3).trans s4).trans s5) (r5.imm (hi _ _ _ ez'))
 |_=>exact zAQ w
theorem aCl(ro:∀i,OpR (C.X i) (zAs op) r)(hs:OpS C.K r fd)(ro':∀i,OpR (C.X i) (zAs op') r')(hs':OpS C.K r' fd')(hi:∀x y z,fd' x y= .ok z->imm z=true)
  (ha:SE C m1 a fa)(hb:SE C m2 b fb)(hc:SE C m3 c fc)(hm:zIK [op,op'] [b,c]=false:=by with_unfolding_all rfl):SE C (some []) (.Compare a [op,op'] [b,c] pos) (chD fd fd' fa fb fc):=by
 obtain⟨t,h1,h2⟩:=ha;obtain⟨u,k1,k2⟩:=hb;obtain⟨v,l1,l2⟩:=hc;exact⟨_,λ i=>aIP (ro i) (ro' i) (h1 i) (k1 i) (l1 i) hm,aGM hs hs' hi h2 k2 l2⟩
def aM2:D->Rs Bool
 | .non=>.ok false
 | .bl b=>.ok b
 | .int i=>.ok (i !=0)
 | .tup l=>.ok (!l.isEmpty)
 | .lst l=>.ok (!l.isEmpty)
 |_=>.st
def blD:D->Rs Bool
 | .bl b=>.ok b
 |_=>.st
def tst(f:En->Rs D):En->Rs Bool:=λ Y=>(f Y).bd aM2
def tsb(f:En->Rs D):En->Rs Bool:=λ Y=>(f Y).bd blD
theorem aAB{K:zAA}{A:Addr->Prop}{H:Hp}{xs:List V}{ds:List D}(r:Rps K A H xs ds):(!ds.isEmpty)= !xs.isEmpty:=by cases r<;>rfl
theorem fO(ha:SE C m a fa)(he:∀i whole,isTrue a (C.X i).env whole=(do let v <-whole;zGD a.pos;zEu [v] (truthy v)):=by intro _ _;rfl):ST C a (tst fa):=by
 obtain⟨t,h1,h2⟩:=ha;refine⟨λ Z H Q=>t Z H λ x H'=>∃k,aOW C.K x H' k/\Q k H',λ i=>by rw[<-C.hK i];exact aIA (h1 i) (he i),λ U Z H Y lab Q R W=>h2 U Z H Y lab _ R (W.bd.imp λ d _ w x H1 s1 r1=>?_)⟩;cases r1 with
 |non=>exact⟨false,rfl,w H1 s1⟩
 |bl b=>exact⟨b,rfl,w H1 s1⟩
 |int i=>exact⟨i !=0,rfl,w H1 s1⟩
 |tup h r=>exact⟨_,.inr (.inl ⟨_,h,rfl⟩),by rw[<-aAB r];exact w H1 s1⟩
 |lst h m r=>exact⟨_,.inl ⟨_,SqL.of h,rfl⟩,by rw[<-aAB r];exact w H1 s1⟩
 |_=>exact zAQ w
theorem aFP{K:zAA}{G:Gx}{t:TE}{f:En->Rs D}(h:jg K G m t f):aDj K G (aHX t) (tsb f):=λ U Z H Y lab Q R W=>h U Z H Y lab _ R (W.bd.imp λ d _ w x H1 s1 r1=>by
 cases r1 with
 |bl b=>exact⟨b,rfl,w H1 s1⟩
 |_=>exact zAQ w)
theorem pK(ro:∀i,OpR (C.X i) (zAs op) r)(hs:OpS C.K r fd)(ha:SE C m1 a fa)(hb:SE C m2 b fb)(hm:zB5 op b=false:=by first|exact aI5 _|(with_unfolding_all rfl)):
  ST C (.Compare a [op] [b] pos) (tsb (op2 fd fa fb)):=by
 obtain⟨t,h1,h2⟩:=ha;obtain⟨u,k1,k2⟩:=hb;exact⟨_,λ i=>aF0 (ro i) (h1 i) (k1 i) hm,aFP (aBi hs h2 k2)⟩
variable{ga gb:En->Rs Bool}
def uK(f g:En->Rs Bool):En->Rs Bool:=λ Y=>(f Y).bd λ k=>if k=true then g Y else .ok false
def orT(f g:En->Rs Bool):En->Rs Bool:=λ Y=>(f Y).bd λ k=>if k=true then .ok true else g Y
def jJ(f:En->Rs Bool):En->Rs Bool:=λ Y=>(f Y).bd λ k=>.ok (!k)
theorem qd(ha:ST C a ga):SW C (.BoolOp .And [a] pos) ga:=let⟨t,h1,h2⟩:=ha;⟨t,λ i=>aK4 (h1 i),h2⟩
theorem lA(ha:ST C a ga):SW C (.BoolOp .Or [a] pos) ga:=let⟨t,h1,h2⟩:=ha;⟨t,λ i=>aHx (h1 i),h2⟩
theorem tH(ha:ST C a ga)(hb:SW C (.BoolOp .And (b::rest) pos) gb):SW C (.BoolOp .And (a::b::rest) pos) (uK ga gb):=by
 obtain⟨t,h1,h2⟩:=ha;obtain⟨u,k1,k2⟩:=hb;refine⟨_,λ i=>aMx (h1 i) (k1 i),λ U Z H Y lab Q R W=>h2 U Z H Y lab _ R (W.bd.imp λ k _ w H1 s1=>?_)⟩;cases k with
 |true=>
  rw[if_pos rfl]at w ⊢;exact k2 U Z H1 Y lab Q (R.up s1) (w.imp λ z _ w H' s=>w H' (s1.trans s))
 |false=>
  rw[if_neg zA5]at w ⊢;exact w H1 s1
theorem pH(ha:ST C a ga)(hb:SW C (.BoolOp .Or (b::rest) pos) gb):SW C (.BoolOp .Or (a::b::rest) pos) (orT ga gb):=by
 obtain⟨t,h1,h2⟩:=ha;obtain⟨u,k1,k2⟩:=hb;refine⟨_,λ i=>aML (h1 i) (k1 i),λ U Z H Y lab Q R W=>h2 U Z H Y lab _ R (W.bd.imp λ k _ w H1 s1=>?_)⟩;cases k with
 |false=>
  rw[if_neg zA5]at w ⊢;exact k2 U Z H1 Y lab Q (R.up s1) (w.imp λ z _ w H' s=>w H' (s1.trans s))
 |true=>
  rw[if_pos rfl]at w ⊢;exact w H1 s1
theorem gK(ha:ST C a ga):ST C (.UnaryOp .Not a pos) (jJ ga):=by
 obtain⟨t,h1,h2⟩:=ha;exact⟨_,λ i=>aET (h1 i),λ U Z H Y lab Q R W=>h2 U Z H Y lab _ R (W.bd.imp λ k _ w H1 s1=>w H1 s1)⟩
end
inductive Ou where
 |nx (Y:En)|rt (d:D)|bk (Y:En)|ct (Y:En)|ex (c:Str)|st
noncomputable def Rs.bo{α:Type}:Rs α->(α->Ou)->Ou
 | .ok a,f=>f a
 | .ex c,_=>.ex c
 | .st,_=>.st
@[simp] theorem bU(a:α)(f:α->Ou):(Rs.ok a).bo f=f a:=aQ rfl
noncomputable def Ou.sq:Ou->(En->Ou)->Ou
 | .nx Y,f=>f Y
 |o,_=>o
@[simp] theorem ao(Y:En)(f:En->Ou):(Ou.nx Y).sq f=f Y:=aQ rfl
@[simp] theorem sq_rt(d:D)(f:En->Ou):(Ou.rt d).sq f= .rt d:=aQ rfl
@[simp] theorem sq_ex(c:Str)(f:En->Ou):(Ou.ex c).sq f= .ex c:=aQ rfl
def WS(K:zAA)(G:Gx)(U:List (V×D))(o:Ou)(De:Ends):Prop:=match o with
 | .nx Y=>∀Z H lab,RR K G U Y Z H lab->De.nx Z H
 | .bk Y=>∀Z H lab,RR K G U Y Z H lab->De.bk Z H
 | .ct Y=>∀Z H lab,RR K G U Y Z H lab->De.ct Z H
 | .rt d=>∀v H,aW G.H0 H->Rp K (λ p=>G.H0 p=none) H v d->De.rt v H
 | .ex c=>∀H',aW G.H0 H'->G.E (.ref (G.cl c)) none H'
 | .st=>False
theorem WS.bo{K:zAA}(h:WS K G U (r.bo k) De):WR G r (λ a=>WS K G U (k a) De):=by
 cases r with
 |ok a=>exact h
 |ex c=>exact h
 |st=>exact h
def aPY(K:zAA)(G:Gx)(t:TS)(f:En->Ou):Prop:=∀U Z H Y lab (De:Ends),RR K G U Y Z H lab->WS K G U (f Y) De->t De Z H
def SS(C:Ct)(s:Stmt)(f:En->Ou):Prop:=∃t,(∀i,PS (C.X i) s t)/\aPY C.K C.G t f
def SSs(C:Ct)(s:List Stmt)(f:En->Ou):Prop:=∃t,(∀i,PSs (C.X i) s t)/\aPY C.K C.G t f
section
variable{C:Ct}{pos:Pos}{s:Stmt}{ss:List Stmt}{f g:En->Ou}{e:Expr}{m:Mode}{fe:En->Rs D}
theorem bM:SSs C [] .nx:=⟨_,λ _=>aBy,λ U Z H Y lab De R W=>W Z H lab R⟩
def bF(f g:En->Ou):En->Ou:=λ Y=>(f Y).sq g
theorem aL(h:SS C s f):SSs C [s] f:=let⟨t,h1,h2⟩:=h;⟨t,λ i=>oJ (h1 i),h2⟩
theorem aJ(h:SS C s f)(k:SSs C ss g):SSs C (s::ss) (bF f g):=by
 obtain⟨t,h1,h2⟩:=h;obtain⟨u,k1,k2⟩:=k;refine⟨_,λ i=>gZ (h1 i) (k1 i),λ U Z H Y lab De R W=>h2 U Z H Y lab _ R ?_⟩;unfold bF at W;cases h:f Y with
 |nx Y'=>rw[h]at W;exact λ Z' H' lab' R'=>k2 U Z' H' Y' lab' De R' W
 |rt d=>rw[h]at W;exact W
 |bk Y'=>rw[h]at W;exact W
 |ct Y'=>rw[h]at W;exact W
 |ex c=>rw[h]at W;exact W
 |st=>rw[h]at W;exact W
def frz(i:Nat)(Y:En):En:=match Y[i]? with
 |some (.ow d)=>Y.set i (.nw d)
 |some (.o2 l)=>Y.set i (.nw (.lst (l.map .lst)))
 |_=>Y
def aPE:Mode->Bool
 |some L=>L.all (·!=0)
 |none=>false
def retS(fe:En->Rs D):En->Ou:=λ Y=>(fe Y).bo .rt
theorem au(he:SE C m e fe)(hm:aPE m=true:=by rfl):SS C (.Return (some e) pos) (retS fe):=by
 obtain⟨t,h1,h2⟩:=he;refine⟨_,λ i=>zJ (h1 i),λ U Z H Y lab De R W=>h2 U Z H Y lab _ R (W.bo.imp λ d _ w v H' s r=>w v H' (R.old.trans s) (r.wk λ p o _ z=>?_))⟩;rcases z with z|z
 .exact R.old.free z
 .cases m with
  |none=>cases hm
  |some L=>
   refine R.new p λ e0=>?_
   have:=zAf.mp hm _ z
   rw[e0]at this;simp at this
def aFw(fe:En->Rs D):En->Ou:=λ Y=>(fe Y).bo λ _=>.nx Y
theorem aKD(he:SE C m e fe)(hs:∀i,zCw e none pos.line (C.X i).env=pure false:=by intro _;rfl):SS C (.Expr e pos) (aFw fe):=by
 obtain⟨t,h1,h2⟩:=he;exact⟨_,λ i=>qi (h1 i) (hs i),λ U Z H Y lab De R W=>h2 U Z H Y lab _ R (W.bo.imp λ d _ w v H' s r=>w Z H' lab (R.up s))⟩
def ifS(c:En->Rs Bool)(f g:En->Ou):En->Ou:=λ Y=>(c Y).bo λ k=>if k=true then f Y else g Y
theorem cZ{a b:List Stmt}(hc:ST C c fc)(ha:SSs C a f)(hb:SSs C b g):SS C (.If c a b pos) (ifS fc f g):=by
 obtain⟨tc,c1,c2⟩:=hc;obtain⟨t,h1,h2⟩:=ha;obtain⟨u,k1,k2⟩:=hb;refine⟨_,λ i=>aIE (c1 i) (h1 i) (k1 i),λ U Z H Y lab De R W=>c2 U Z H Y lab _ R (W.bo.imp λ k _ w H1 s1=>?_)⟩;cases k with
 |true=>rw[if_pos rfl]at w ⊢;exact h2 U Z H1 Y lab De (R.up s1) w
 |false=>rw[if_neg zA5]at w ⊢;exact k2 U Z H1 Y lab De (R.up s1) w
def SV(C:Ct)(i:Nat)(s:Stmt)(m:Mode)(f:En->Rs D):Prop:=∃t,(∀j,PS (C.X j) s (aGJ t (sH i)))/\jg C.K C.G m t f
theorem eZ(he:SE C m e fe)(hN:∀j,(C.X j).N[i]? =some x:=by intro _;rfl)(hx:∀j,Loc (C.X j).env.scope x:=by intro _;first|exact zCf rfl|exact zCC rfl)(hs:∀j,zCw e (some (.Name x pos')) pos.line (C.X j).env=pure false:=by intro _;rfl)(hf:∀j,(C.X j).fn x=true\/(C.X j).env.scope.names.lookup x=some .local:=by intro _;first|exact .inl rfl|exact .inr rfl)(nd:∀j,(C.X j).N.Nodup:=by intro _;assumption):
  SV C i (.Assign [.Name x pos'] e pos) m fe:=by
 obtain⟨t,h1,h2⟩:=he;exact⟨t,λ j=>oK (nd j) (hN j) (hx j) (h1 j) (hs j) (hf j),h2⟩
def SVF(C:Ct)(i:Nat)(s:Stmt)(m:Mode)(f:En->Rs D):Prop:=∃t,(∀j,PS (C.X j) s (aGJ t (sH i)))/\aP0 C.K C.G m t f
theorem pI(he:SF C m e fe)(hN:∀j,(C.X j).N[i]? =some x:=by intro _;rfl)(hx:∀j,Loc (C.X j).env.scope x:=by intro _;first|exact zCf rfl|exact zCC rfl)(hs:∀j,zCw e (some (.Name x pos')) pos.line (C.X j).env=pure false:=by intro _;rfl)(hf:∀j,(C.X j).fn x=true\/(C.X j).env.scope.names.lookup x=some .local:=by intro _;first|exact .inl rfl|exact .inr rfl)(nd:∀j,(C.X j).N.Nodup:=by intro _;assumption):
  SVF C i (.Assign [.Name x pos'] e pos) m fe:=by
 obtain⟨t,h1,h2⟩:=he;exact⟨t,λ j=>oK (nd j) (hN j) (hx j) (h1 j) (hs j) (hf j),h2⟩
def aF9(P:Nat->Bool):Mode->Bool
 |some L=>L.all P
 |none=>false
theorem qm(h:aF9 P m=true):∀k,inM m k->P k=true:=by
 intro k hk;cases m with
 |none=>cases h
 |some L=>exact zAf.mp h k hk
abbrev okS:Mode->Bool:=aF9 λ k=>decide (k<=1)
abbrev okN:Mode->Bool:=aF9 λ k=>k==1
abbrev okO(i:Nat):Mode->Bool:=aF9 λ k=>k==1||k==i+2
def cg(i:Nat)(fe:En->Rs D):En->Ou:=λ Y=>(fe Y).bo λ d=>.nx (Y.set i (.sh d))
def mG(i:Nat)(fe:En->Rs D):En->Ou:=λ Y=>(fe Y).bo λ d=>.nx (Y.set i (.nw d))
def m7(i:Nat)(fe:En->Rs D):En->Ou:=λ Y=>(fe Y).bo λ d=>.nx (Y.set i (.ow d))
theorem RR.shared{K:zAA}(hm:okS m=true)(R:RR K G U Y Z H lab)(s:aW H H')(r:Rp K (fpM m lab H) H' v d):
  RR K G U Y Z H' (cO H 1 lab)/\Rp K (λ p=>(cO H 1 lab p).1<=1) H' v d:=R.fresh (P:=λ k=>k<=1) (by decide) (λ k hk=>of_decide_eq_true (qm hm k hk)) s r
theorem bY{i:Nat}(h:SV C i s m fe)(hm:okS m=true:=by rfl):SS C s (cg i fe):=by
 obtain⟨t,h1,h2⟩:=h;refine⟨_,h1,λ U Z H Y lab De R W=>h2 U Z H Y lab _ R (W.bo.imp λ d _ w v H' s r=>?_)⟩;obtain⟨R',r'⟩:=R.shared hm s r;exact w _ _ _ (R'.put (s:=.sh d) r')
theorem fC(h:SV C i s m fe)(hm:okN m=true:=by rfl):SS C s (mG i fe):=by
 obtain⟨t,h1,h2⟩:=h;refine⟨_,h1,λ U Z H Y lab De R W=>h2 U Z H Y lab _ R (W.bo.imp λ d _ w v H' s r=>?_)⟩;obtain⟨R',r'⟩:=R.fresh (P:=λ k=>k=1) rfl (λ k hk=>beq_iff_eq.mp (qm hm k hk)) s r;exact w _ _ _ (R'.put (s:=.nw d) r')
theorem iZ(h:SVF C i s m fe)(hm:okO i m=true:=by rfl):SS C s (m7 i fe):=by
 obtain⟨t,h1,h2⟩:=h;refine⟨_,h1,λ U Z H Y lab De R W=>h2 U Z H Y lab _ R (W.bo.imp λ d _ w v H' s r ht=>?_)⟩;obtain⟨lab',R',r'⟩:=R.freshO i (λ k hk=>by have:=qm hm k hk;simpa using this) s r ht;exact w _ _ _ (R'.put (s:=.ow d) r')
def aJj(K:zAA)(G:Gx)(g:TG)(fg:D->En->Rs En):Prop:=∀U v d Z H Y lab (Q:L2.St->Hp->Prop) Y',RR K G U Y Z H lab->Rp K (λ p=>(lab p).1<=1) H v d->fg d Y= .ok Y'->(∀Z',RR K G U Y' Z' H lab->Q Z' H)->g v Z H Q
def aPZ(K:zAA)(G:Gx)(g:TGs)(fg:List D->En->Rs En):Prop:=∀U vs ds Z H Y lab (Q:L2.St->Hp->Prop) Y',RR K G U Y Z H lab->Rps K (λ p=>(lab p).1<=1) H vs ds->fg ds Y= .ok Y'->(∀Z',RR K G U Y' Z' H lab->Q Z' H)->g vs Z H Q
def SG(C:Ct)(tg:Expr)(ks:List Nat)(fg:D->En->Rs En):Prop:=∃g,(∀i,PG (C.X i) tg g)/\aJj C.K C.G g fg/\pB g ks/\aB9 g
def SGs(C:Ct)(tg:List Expr)(ks:List Nat)(fg:List D->En->Rs En):Prop:=∃g,(∀i,PGs (C.X i) tg g)/\aPZ C.K C.G g fg/\aAZ g ks/\wL g
def gnm(i:Nat):D->En->Rs En:=λ d Y=>.ok (Y.set i (.sh d))
def uF:List D->En->Rs En:=λ ds Y=>match ds with
 |[]=>.ok Y
 |_=>.st
def dN(f:D->En->Rs En)(g:List D->En->Rs En):List D->En->Rs En:=λ ds Y=>match ds with
 |d::r=>(f d Y).bd (g r)
 |_=>.st
def rN(n:Nat)(g:List D->En->Rs En):D->En->Rs En:=λ d Y=>match d with
 | .tup ds=>if ds.length=n then g ds Y else .st
 |_=>.st
variable{ks:List Nat}{fg:D->En->Rs En}{fgs:List D->En->Rs En}{tg:Expr}{tgs:List Expr}
theorem cA(hN:∀j,(C.X j).N[i]? =some x:=by intro _;rfl)(hx:∀j,Loc (C.X j).env.scope x:=by intro _;first|exact zCf rfl|exact zCC rfl)(hf:∀j,(C.X j).fn x=true\/(C.X j).env.scope.names.lookup x=some .local:=by intro _;first|exact .inl rfl|exact .inr rfl)(nd:∀j,(C.X j).N.Nodup:=by intro _;assumption)(hk:i∈ks:=by decide):SG C (.Name x pos) ks (gnm i):=
 ⟨_,λ j=>aKc (nd j) (hN j) (hx j) (hf j),λ U v d Z H Y lab Q Y' R r e q=>by cases e;exact q _ (R.put (s:=.sh d) r),aL2 hk,aL4⟩
theorem aBk:SGs C [] ks uF:=by
 refine⟨_,λ _=>aKb,λ U vs ds Z H Y lab Q Y' R r e q=>?_,aL1,aL3⟩;cases r with
 |nil=>cases e;exact⟨rfl,q _ R⟩
 |cons _ _=>cases e
theorem nJ(h:SG C tg ks fg)(k:SGs C tgs ks fgs)(hs:∀i,(zD0 (tg::tgs) (C.X i).env).map (·.2)=zGM tg (C.X i).env::(zD0 tgs (C.X i).env).map (·.2):=by intro _;rfl):SGs C (tg::tgs) ks (dN fg fgs):=by
 obtain⟨g,h1,h2,h3,h4⟩:=h;obtain⟨u,k1,k2,k3,k4⟩:=k;refine⟨_,λ i=>aIJ (h1 i) (k1 i) (hs i),λ U vs ds Z H Y lab Q Y' R r e q=>?_,aJM h3 h4 k3 k4,aJQ h4 k4⟩;cases r with
 |nil=>cases e
 |cons h r=>
  obtain⟨Y1,e1,e2⟩:=cM e;exact⟨_,_,rfl,h2 U _ _ Z H Y lab _ Y1 R h e1 λ Z1 R1=>k2 U _ _ Z1 H Y1 lab Q Y' R1 r e2 q⟩
theorem aDy(h:SGs C tgs ks fgs)(hn:∀i,(zD0 tgs (C.X i).env).length=n:=by intro _;rfl)(hst:∀i,(zD0 tgs (C.X i).env).findIdx? (·.1)=none:=by intro _;rfl):SG C (.Tuple tgs k pos) ks (rN n fgs):=by
 obtain⟨u,k1,k2,k3,k4⟩:=h;refine⟨aL5 C.K n u,λ i=>by rw[<-C.hK i];exact aNG (C.calm i) (k1 i) (hn i) (hst i),λ U v d Z H Y lab Q Y' R r e q=>?_,aCT k3,aOC k4⟩;cases r with
 |tup h r=>
  unfold rN at e;dsimp only at e;split at e
  .rename_i hl
   exact⟨_,_,rfl,h,by rw[r.length];exact hl,k2 U _ _ Z H Y lab Q Y' R r e q⟩
  .cases e
 |_=>cases e
def JL(K:zAA)(lab:Lab)(J:It)(H:Hp)(ds:List D):Prop:=∀i,(ds.length<=i->J.stop i H)/\(i<ds.length->J.go i H/\∀x H',J.yld i H x H'->aW H H'/\∃d,ds[i]? =some d/\Rp K (λ p=>(lab p).1<=1) H' x d)
def aJi(K:zAA)(G:Gx)(wi:TI)(f:En->Rs (List D)):Prop:=∀U Z H Y lab (Rr:It->Hp->Prop),RR K G U Y Z H lab->
 WR G (f Y) (λ ds=>∀J H1 lab1 U1,aW H H1->(∀p o,H p=some o->lab1 p=lab p)->RR K G (U1++U) Y Z H1 lab1->(∀lab' H',(∀q∈U1,Rp K (λ p=>(lab' p).1<=1) H' q.1 q.2)->JL K lab' J H' ds)->Rr J H1)->wi Z H Rr
def SI(C:Ct)(tg iter:Expr)(f:En->Rs (List D)):Prop:=∃wi,(∀i,PI (C.X i) tg iter wi)/\aJi C.K C.G wi f
def aPO(K:zAA)(tl:TE):TI:=λ Z H R=>tl Z H λ x H1=>∃a,x= .ref a/\(((∃xs,SqL K H1 a xs)/\R (Itl K a) H1)\/((∃xs,SqT K H1 a xs)/\R (Itt K a) H1))
theorem aNF(hl:PE X l tl):PI X tg l (aPO X.K tl):=by
 intro pins s Z H R I h;refine thn (hl pins s Z H _ I h) λ v s1 ⟨x,H1,I1,r1,a,e,q1⟩=>?_
 subst e;cases r1;have hp:∀b∈[s1.heap.objs.size],rQ X pins H1 b:=λ b hb=>by
  have e:b=s1.heap.objs.size:=by simpa using hb
  rw[e];exact I1.fpOk (zAP _) (I1.hok.fresh (zAP _))
 rcases q1 with ⟨⟨xs,hq⟩,q⟩|⟨⟨xs,hq⟩,q⟩
 .obtain⟨its,rv,p,hz⟩:=I1.list hq
  refine zE2 p.isList ?_;exact⟨_,_,_,_,H1,rfl,I1.kept (t':=s1.toks) λ b o e=>zAC _ e,aGH a _,⟨_,zAJ _ rfl,rfl,rfl⟩,hp,q⟩
 .obtain⟨its,rv,p,hz⟩:=I1.tuple hq
  refine zCM (show s1.heap.IsTuple a its.toArray from p) ?_;exact⟨_,_,_,_,H1,rfl,I1.kept (t':=s1.toks) λ b o e=>zAC _ e,aDp a _,⟨_,zAJ _ rfl,rfl,rfl⟩,hp,q⟩
def itD:D->Rs (List D)
 | .tup l=>.ok l
 | .lst l=>.ok l
 | .scr l=>.ok (l.map .int)
 |_=>.st
def dI(fe:En->Rs D):En->Rs (List D):=λ Y=>(fe Y).bd itD
theorem aFk{K:zAA}(h:SqL K H a xs)(r:Rps K (λ p=>(lab p).1<=1) H xs ds):JL K lab (Itl K a) H ds:=by
 have hl:=r.length;refine λ i=>⟨λ hi=>⟨xs,h,by lia⟩,λ hi=>⟨⟨xs,xs[i]'(by lia),h,by simp[hl,hi]⟩,λ x H' y=>?_⟩⟩
 obtain⟨e,y⟩:=y;subst e;obtain⟨d,h1,h2⟩:=r.get (y xs h);exact⟨aW.refl _,d,h1,h2⟩
theorem aNr{K:zAA}(h:SqT K H a xs)(r:Rps K (λ p=>(lab p).1<=1) H xs ds):JL K lab (Itt K a) H ds:=by
 have hl:=r.length;refine λ i=>⟨λ hi=>⟨xs,h,by lia⟩,λ hi=>⟨⟨xs,xs[i]'(by lia),h,by simp[hl,hi]⟩,λ x H' y=>?_⟩⟩
 obtain⟨e,y⟩:=y;subst e;obtain⟨d,h1,h2⟩:=r.get (y xs h);exact⟨aW.refl _,d,h1,h2⟩
theorem iB(he:SE C m e fe)(hm:okS m=true:=by rfl):SI C tg e (dI fe):=by
 obtain⟨t,p1,p2⟩:=he;refine⟨aPO C.K t,λ i=>by rw[<-C.hK i];exact aNF (p1 i),λ U Z H Y lab Rr R W=>p2 U Z H Y lab _ R (W.bd.imp λ d _ w v H1 s r=>?_)⟩;obtain⟨R',r'⟩:=R.shared hm s r;cases d with
 |tup l=>
  cases r' with
  |tup h q=>
   rename_i a xs;refine⟨_,rfl,.inr ⟨⟨_,h⟩,w _ H1 _ [(.ref a,.tup l)] s (λ p o e=>bT e) ⟨R'.len,R'.sl,R'.old,R'.new,λ z hz=>?_⟩ λ lab' H' hq=>?_⟩⟩
   .rcases zAL.mp hz with rfl|hz
    .exact .tup h q
    .exact R'.tm z hz
   .have z:=hq _ (zAK ..)
    cases z with
    |tup h' q'=>exact aNr h' q'
 |lst l=>
  cases r' with
  |lst h mm q=>
   rename_i a xs;refine⟨_,rfl,.inl ⟨⟨_,SqL.of h⟩,w _ H1 _ [(.ref a,.lst l)] s (λ p o e=>bT e) ⟨R'.len,R'.sl,R'.old,R'.new,λ z hz=>?_⟩ λ lab' H' hq=>?_⟩⟩
   .rcases zAL.mp hz with rfl|hz
    .exact .lst h mm q
    .exact R'.tm z hz
   .have z:=hq _ (zAK ..)
    cases z with
    |lst h' _ q'=>exact aFk (SqL.of h') (q'.wk λ _ _ _ z=>z.1)
 |scr l=>
  cases r' with
  |scr h=>
   rename_i a;refine⟨_,rfl,.inl ⟨⟨_,h.sq⟩,w _ H1 _ [(.ref a,.scr l)] s (λ p o e=>bT e) ⟨R'.len,R'.sl,R'.old,R'.new,λ z hz=>?_⟩ λ lab' H' hq=>?_⟩⟩
   .rcases zAL.mp hz with rfl|hz
    .exact .scr h
    .exact R'.tm z hz
   .have z:=hq _ (zAK ..)
    cases z with
    |scr h'=>exact aFk h'.sq Rps.ints
 |_=>exact zAQ w
end
section
variable{C:Ct}{pos:Pos}{s:Stmt}{ss:List Stmt}{f:En->Ou}{e a b:Expr}{es:List Expr}{m:Mode}{fa:En->Rs D}{ks:List Nat}{fg:D->En->Rs En}{tg:Expr}{fi:En->Rs (List D)}{ga:En->Rs (List D)}
def bZ(lo hi:Int):List D:=(zAb (hi-lo).toNat).map λ(k:Nat)=>.int (lo+(k:Int))
def iV:List D->Rs (List D)
 |[.int j]=>if -(2^62)<=j/\j<2^62 then .ok (bZ 0 j)else .st
 |_=>.st
def xU:List D->Rs (List D)
 |[.int i,.int j]=>if (-(2^62)<=i/\i<2^62)/\(-(2^62)<=j/\j<2^62)then .ok (bZ i j)else .st
 |_=>.st
def cY(r:List D->Rs (List D))(ga:En->Rs (List D)):En->Rs (List D):=λ Y=>(ga Y).bd r
theorem aIv{K:zAA}{lo hi:Int}:JL K lab (Itr lo (hi-lo).toNat) H (bZ lo hi):=by
 have hl:(bZ lo hi).length=(hi-lo).toNat:=by unfold bZ;simp
 refine λ i=>⟨λ h=>by show(hi-lo).toNat<=i;lia,λ h=>⟨by show i<(hi-lo).toNat;lia,λ x H' y=>?_⟩⟩
 obtain⟨e,rfl⟩:=y;subst e;refine⟨aW.refl _,.int (lo+i),?_,.int _⟩;unfold bZ;rw[zAT,zHM (by lia)];rfl
theorem gm(ha:SA C m [a] ga)(hm:C.mg "range"=none)(hs:∀i,zAX [a] (C.X i).env=[(false,eval a (C.X i).env)]:=by intro _;rfl)(hg:∀i,Gl (C.X i) "range":=by intro _;rfl):SI C tg (.Call (.Name "range" p) [a] [] pos) (cY iV ga):=by
 obtain⟨t,h1,h2⟩:=ha;refine⟨_,λ i=>aGV (hg i) (by rw[(C.cx i).2.2.2.1];exact hm) (h1 i) (hs i),λ U Z H Y lab Rr R W=>h2 U Z H Y lab _ R (W.bd.imp λ ds _ w vs H1 s r=>?_)⟩;unfold iV at w;split at w
 .rename_i j _
  split at w
  .rename_i hj
   cases r with
   |cons h r=>
    cases h;cases r;refine⟨j,rfl,hj.1,hj.2,?_⟩;have z:=w (Itr 0 (j-0).toNat) H1 lab [] s (λ _ _ _=>rfl) (R.up s) λ lab' H' _=>aIv
    rwa [Int.sub_zero]at z
  .exact zAQ w
 .exact zAQ w
theorem aBj(ha:SA C m [a,b] ga)(hm:C.mg "range"=none)(hs:∀i,zAX [a,b] (C.X i).env=[(false,eval a (C.X i).env),(false,eval b (C.X i).env)]:=by intro _;rfl)(hs2:∀i,zAX [b] (C.X i).env=[(false,eval b (C.X i).env)]:=by intro _;rfl)(hg:∀i,Gl (C.X i) "range":=by intro _;rfl):SI C tg (.Call (.Name "range" p) [a,b] [] pos) (cY xU ga):=by
 obtain⟨t,h1,h2⟩:=ha;refine⟨_,λ i=>aGU (hg i) (by rw[(C.cx i).2.2.2.1];exact hm) (h1 i) (hs i) (hs2 i),λ U Z H Y lab Rr R W=>h2 U Z H Y lab _ R (W.bd.imp λ ds _ w vs H1 s r=>?_)⟩;unfold xU at w;split at w
 .rename_i i j _
  split at w
  .rename_i hj
   cases r with
   |cons h r=>
    cases h;cases r with
    |cons h r=>
     cases h;cases r;exact⟨i,j,rfl,⟨hj.1.1,hj.1.2,hj.2.1,hj.2.2⟩,w (Itr i (j-i).toNat) H1 lab [] s (λ _ _ _=>rfl) (R.up s) λ lab' H' _=>aIv⟩
  .exact zAQ w
 .exact zAQ w
def forL(fg:D->En->Rs En)(b:En->Ou):List D->En->Ou
 |[],Y=>.nx Y
 |d::ds,Y=>match fg d Y with
  | .ok Y1=>match b Y1 with
   | .nx Y2=>forL fg b ds Y2
   | .ct Y2=>forL fg b ds Y2
   | .bk Y2=>.nx Y2
   |o=>o
  |_=>.st
def iY(fi:En->Rs (List D))(fg:D->En->Rs En)(b:En->Ou):En->Ou:=λ Y=>(fi Y).bo λ ds=>forL fg b ds Y
theorem fB(hi:SI C tg e fi)(hg:SG C tg ks fg)(hb:SSs C ss f)(hs:∀i,∀x,zBQ e (C.X i).env x=pure x:=by intro _ _;rfl):SS C (.For tg e ss [] pos) (iY fi fg f):=by
 obtain⟨wi,i1,i2⟩:=hi;obtain⟨gg,g1,g2,_,g4⟩:=hg;obtain⟨tb,b1,b2⟩:=hb;refine⟨_,λ i=>aNB (C.own i) (C.calm i) (i1 i) (g1 i) (b1 i) (hs i),λ U Z H Y lab De R W=>i2 U Z H Y lab _ R (W.bo.imp λ ds _ w J H1 lab1 U1 s1 _ R1 jl=>?_)⟩;refine⟨λ i n Z' H'=>∃Y' lab',RR C.K C.G (U1++U) Y' Z' H' lab'/\n=ds.length-i/\i<=ds.length/\WS C.K C.G U (forL fg f (ds.drop i) Y') De,⟨ds.length,Y,lab1,R1,by lia,by lia,w⟩,?_⟩;rintro i n Z' H' ⟨Y',lab',R',rfl,hi,w'⟩;have jj:=jl lab' H' λ q hq=>R'.tm q (zA0 _ hq)
 by_cases hlt:i<ds.length
 .obtain⟨go,yl⟩:=(jj i).2 hlt
  refine .inr ⟨go,λ Z2 H2=>∃Y2 lab2,RR C.K C.G (U1++U) Y2 Z2 H2 lab2/\WS C.K C.G U (forL fg f (ds.drop (i+1)) Y2) De,λ Z2 H2 ⟨Y2,lab2,R2,w2⟩=>⟨ds.length-(i+1),by lia,Y2,lab2,R2,rfl,hlt,w2⟩,λ x H2 hy=>?_⟩;obtain⟨s2,d,ed,rx⟩:=yl x H2 hy;replace R':=R'.up s2;have ed2:ds.drop i=d::ds.drop (i+1):=by
   rw[zCi hlt]
   have:=zAD hlt
   rw[ed]at this;cases this;rfl
  rw[ed2]at w';unfold forL at w';cases eg:fg d Y' with
  |ex c=>rw[eg]at w';exact zAQ w'
  |st=>rw[eg]at w';exact zAQ w'
  |ok Y1=>
   rw[eg]at w';refine g2 (U1++U) x d Z' H2 Y' lab' _ Y1 R' rx eg λ Z1 R1'=>b2 (U1++U) Z1 H2 Y1 lab' _ R1' ?_
   dsimp only at w';cases eb:f Y1 with
   |nx Y2=>rw[eb]at w';exact λ Z2 H3 lab2 R2=>⟨Y2,lab2,R2,w'⟩
   |ct Y2=>rw[eb]at w';exact λ Z2 H3 lab2 R2=>⟨Y2,lab2,R2,w'⟩
   |bk Y2=>rw[eb]at w';exact λ Z2 H3 lab2 R2=>w' Z2 H3 lab2 R2.drop
   |rt d=>rw[eb]at w';exact w'
   |ex c=>rw[eb]at w';exact w'
   |st=>rw[eb]at w';exact w'
 .have e:i=ds.length:=by lia
  subst e;rw[zEL]at w';exact .inl ⟨(jj _).1 (zAP _),w' Z' H' lab' R'.drop⟩
def itW(c:En->Rs Bool)(b:En->Ou):Nat->En->Ou
 |0,_=>.st
 |n+1,Y=>(c Y).bo λ k=>if k=true then(match b Y with
   | .nx Y2=>itW c b n Y2
   | .ct Y2=>itW c b n Y2
   | .bk Y2=>.nx Y2
   |o=>o)else .nx Y
def fuel:Nat:=1000000
def sy(c:En->Rs Bool)(b:En->Ou):En->Ou:=itW c b fuel
theorem yg(hc:ST C c fc)(hb:SSs C ss f):SS C (.While c ss [] pos) (sy fc f):=by
 obtain⟨tc,c1,c2⟩:=hc;obtain⟨tb,b1,b2⟩:=hb;refine⟨_,λ i=>aIB (C.own i) (c1 i) (b1 i),λ U Z H Y lab De R W=>?_⟩;refine⟨λ n Z' H'=>∃Y' lab',RR C.K C.G U Y' Z' H' lab'/\WS C.K C.G U (itW fc f n Y') De,⟨fuel,Y,lab,R,W⟩,?_⟩;rintro n Z' H' ⟨Y',lab',R',w'⟩;cases n with
 |zero=>exact zAQ w'
 |succ n=>
  refine c2 U Z' H' Y' lab' _ R' (WS.bo (show WS C.K C.G U ((fc Y').bo _) De from w') |>.imp λ k _ w H1 s1=>?_);cases k with
  |false=>
   rw[if_neg zA5]at w ⊢;exact w Z' H1 lab' (R'.up s1)
  |true=>
   rw[if_pos rfl]at w ⊢;refine⟨λ Z2 H2=>∃Y2 lab2,RR C.K C.G U Y2 Z2 H2 lab2/\WS C.K C.G U (itW fc f n Y2) De,λ Z2 H2 ⟨Y2,lab2,R2,w2⟩=>⟨n,zBa n,Y2,lab2,R2,w2⟩,?_⟩;refine b2 U Z' H1 Y' lab' _ (R'.up s1) ?_;cases eb:f Y' with
   |nx Y2=>rw[eb]at w;exact λ Z2 H3 lab2 R2=>⟨Y2,lab2,R2,w⟩
   |ct Y2=>rw[eb]at w;exact λ Z2 H3 lab2 R2=>⟨Y2,lab2,R2,w⟩
   |bk Y2=>rw[eb]at w;exact w
   |rt d=>rw[eb]at w;exact w
   |ex c=>rw[eb]at w;exact w
   |st=>rw[eb]at w;exact w
def zG(x:Str)(ga:En->Rs (List D)):En->Ou:=λ Y=>(ga Y).bo λ ds=>if ds.length<=zAV then .ex x else .st
theorem aCd{rest:List Expr}(hd:C.dOk=true)(hm:C.mg x=some (.ref Ca))(hcl:C.G.cl x=Ca)(hC:cF C.K Ca)(ha:SA C m (yB::rest) ga)(he:∀i,zAX (yB::rest) (C.X i).env=(false,eval yB (C.X i).env)::zAX rest (C.X i).env:=by intro _;rfl)(hplain:∀i,(zC2 cpos (zAX rest (C.X i).env)).any (·.1)=false:=by intro _;rfl)(hdb:(x==("__debug__":Str))=false:=by decide)(hg:∀i,Gl (C.X i) x:=by intro _;rfl):SS C (.Raise (some (.Call (.Name x np) (yB::rest) [] cpos)) none pos) (zG x ga):=by
 obtain⟨t,h1,h2⟩:=ha;refine⟨_,λ i=>aID (C.dcx hd i) (C.calm i) (by rw[(C.cx i).2.2.2.1];exact hm) (by rw[C.hK i];exact hC) (hg i) (h1 i) (he i) (hplain i) hdb,λ U Z H Y lab De R W=>h2 U Z H Y lab _ R (W.bo.imp λ ds _ w vs H1 s r=>?_)⟩;by_cases hz:ds.length<=zAV
 .rw[if_pos hz]at w
  refine⟨by rw[r.length];exact hz,?_⟩
  have:=w H1 (R.old.trans s)
  rwa [hcl]at this
 .rw[if_neg hz]at w
  exact zAQ w
def spF(K:zAA)(cl:Str->Addr)(n:Nat)(F:List D->Rs D):Sp:=λ vs H Q E=>∃ds,vs.length=n/\Rps K (λ _=>True) H vs ds/\WR ⟨H,E,cl⟩ (F ds) (λ d=>∀v H',aW H H'->Rp K (λ p=>H p=none) H' v d->Q v H')
def aU(F:List D->Rs D)(ga:En->Rs (List D)):En->Rs D:=λ Y=>(ga Y).bd F
theorem aCg{K:zAA}(hn:∀Y ds,ga Y= .ok ds->ds.length=n)(h:aLp K G m t ga):jg K G (some []) (aAs (spF K G.cl n F) [] G.E t) (aU F ga):=by
 intro U Z H Y lab Q R W;refine h U Z H Y lab _ R (W.bd.imp λ ds eds w vs H1 s r=>⟨ds,by rw[zAy,r.length];exact hn Y ds eds,by rw[zAy];exact r.wk λ _ _ _ _=>trivial,?_⟩);cases hF:F ds with
 |ok d=>
  rw[hF]at w;exact λ v H' s' r'=>w v H' (s.trans s') (r'.wk λ p o _ z=>.inl (s.free z))
 |ex c=>rw[hF]at w;exact λ H' s'=>w H' ((R.old.trans s).trans s')
 |st=>rw[hF]at w;exact w
variable{k:Nat}{fn:Addr}{fd:zAe}{ps:List Str}{x:Str}{p:Pos}{F:List D->Rs D}{n:Nat}
theorem aKS(hF:cP C.prog C.w C.K C.mg C.base (CX1 C.prog C.w) k fn fd ps (spF C.K C.G.cl n F))(hr:k<=C.k)(hm:C.mg x=some (.ref fn))(hk:zB0 C.K (.ref fn)=true)(hb:Binds C.K fd ps [])(ha:SA C m (e::es) ga)(hn:∀Y ds,ga Y= .ok ds->ds.length=n)(hdb:(x==("__debug__":Str))=false:=by decide)(he:∀i,zAX (e::es) (C.X i).env=(false,eval e (C.X i).env)::zAX es (C.X i).env:=by intro _;rfl)(hpl:∀i,(zC2 pos (zAX es (C.X i).env)).any (·.1)=false:=by intro _;rfl)(hg:∀i,Gl (C.X i) x:=by intro _;rfl):SE C (some []) (.Call (.Name x p) (e::es) [] pos) (aU F ga):=by
 obtain⟨t,h1,h2⟩:=ha;refine⟨_,λ i=>?_,aCg hn h2⟩;obtain⟨e1,e2,e3,e4,e5⟩:=C.cx i;refine aKi (CX:=CX1 (C.X i).prog (C.X i).w) (by rw[e1,e2,e3,e4,e5];exact hF) ((C.room i).mono hr) (hg i) (by rw[e4];exact hm) (by rw[e3];exact hk) (by rw[e3];exact hb) .nil (C.pass i) (h1 i) hdb (he i) (hpl i)
theorem aFg(h:aG Y= .ok ds):ds.length=0:=by cases h;rfl
theorem zp(h:∀Y ds,ga Y= .ok ds->ds.length=n):∀Y ds,aA fa ga Y= .ok ds->ds.length=n+1:=λ Y ds e=>by
 obtain⟨d,_,e⟩:=cM e;obtain⟨r,er,e⟩:=cM e;cases e;rw[zA9,h Y r er]
end
def az(mg:Str->Option Value):Str->Addr:=λ x=>match mg x with
 |some (.ref a)=>a
 |_=>0
abbrev ctD(P:zA3)(w:World)(K:zAA)(mg:Str->Option Value)(base:Heap)(N:List Str)(q:Str)(sc:Scope)(f:Addr)(cdv:Value)(A:zAj)(outer:List Env)(s:zAH)(H:Hp)(E:XK)(k:Nat)(hr:gJ k (A.deeper (zCv q sc s.heap.objs.size f cdv))):Ct where
 ι:=Unit
 X:=λ _=>xr (CX1 P w) P w K mg base N q sc f cdv A outer s H E
 prog:=P
 w:=w
 K:=K
 mg:=mg
 base:=base
 k:=k
 G:=⟨H,E,az mg⟩
 cx:=λ _=>⟨rfl,rfl,rfl,rfl,rfl⟩
 calm:=λ _=>rfl
 room:=λ _=>hr
 own:=λ _=>eQ.own eQ.of
 pass:=λ _=>eQ.pass eQ.of
 dOk:=true
 dcx:=λ _ _=>eQ.of
def bC(n:Nat)(ds:List D):En:=ds.map .sh++zA6 (n-ds.length) .no
def dw(n:Nat)(f:En->Ou):List D->Rs D:=λ ds=>match f (bC n ds)with
 | .nx _=>.ok .non
 | .rt d=>.ok d
 | .ex c=>.ex c
 |_=>.st
theorem RR.start{K:zAA}(r:Rps K (λ _=>True) H vs ds):RR K ⟨H,E,cl⟩ [] (bC N.length ds) (start N vs) H (λ _=>(0,0)):=by
 have hl:=r.length;refine⟨by unfold bC L2.start;simp[hl],λ i s e=>?_,aW.refl H,λ p hp=>absurd rfl hp,λ q hq=>by cases hq⟩;unfold bC at e;by_cases hi:i<ds.length
 .rw[zCj (by simpa using hi),zAT]at e
  cases ed:ds[i]? with
  |none=>rw[ed]at e;cases e
  |some d=>
   rw[ed]at e;cases e;obtain⟨x,ex,rx⟩:=r.getD ed;refine .inr ⟨x,?_,rx.wk λ _ _ _ _=>zAa _⟩;unfold L2.start;rw[zCj (by simpa[hl]using hi),zAT,ex];rfl
 .rw[zDe (by simpa using hi),zDA]at e
  split at e
  .cases e;exact .inl rfl
  .cases e
section
variable{P:zA3}{w:World}{K:zAA}{mg:Str->Option Value}{base:Heap}
theorem aOF{x q:Str}{st:Stmt}(F:L2.Fun K x q st fn fd)(S:aY N ps (aK st))
  (hb:∀cdv A outer s H E hr,SSs (ctD P w K mg base N q (aK st) fn cdv A outer s H E k hr) (dX st) f):
  cP P w K mg base (CX1 P w) (k+1) fn fd ps (spF K (az mg) ps.length (dw N.length f)):=by
 refine F.okX S (λ vs H Q E ⟨ds,hl,_⟩=>hl) λ cdv A outer s H vs Q E hr ⟨ds,hl,r,W⟩=>?_
 obtain⟨t,h1,h2⟩:=hb cdv A outer s H E hr;refine⟨t,h1 (),h2 [] _ H _ _ _ (RR.start r) ?_⟩;unfold dw at W;cases e:f (bC N.length ds)with
 |nx Y=>rw[e]at W;exact λ Z' H' lab R=>W .non H' R.old .non
 |rt d=>rw[e]at W;exact λ v H' s r=>W v H' s r
 |ex c=>rw[e]at W;exact W
 |bk Y=>rw[e]at W;exact zAQ W
 |ct Y=>rw[e]at W;exact zAQ W
 |st=>rw[e]at W;exact zAQ W
theorem aL7{st:Stmt}(F:L2.Fun K x q st fn fd)(S:aY N ps (aK st))
  (hb:∀cdv A outer s H E hr,SSs (ctD P w K mg base N q (aK st) fn cdv A outer s H E k hr) (dX st) f)(hn:ps.length=n)(hF:dw N.length f=FF):
  cP P w K mg base (CX1 P w) (k+1) fn fd ps (spF K (az mg) n FF):=by
 subst hn hF;exact aOF F S hb
end
theorem OpR.or(h:OpR X f r)(h':OpR X f r'):OpR X f (λ x y H Q=>r x y H Q\/r' x y H Q):=by
 intro pins s Z H x y v u Q I rx ry q;rcases q with q|q
 .exact h pins s Z H x y v u Q I rx ry q
 .exact h' pins s Z H x y v u Q I rx ry q
theorem OpS.or{K:zAA}(h:OpS K r fd)(h':OpS K r' fd'):OpS K (λ x y H Q=>r x y H Q\/r' x y H Q) (λ d e=>match fd d e with
  | .ok z=>.ok z
  |_=>fd' d e):=by
 intro A x y d e H Q z rx ry ez q;dsimp only at ez;cases hd:fd d e with
 |ok w=>rw[hd]at ez;cases ez;exact .inl (h A x y d e H Q _ rx ry hd q)
 |ex c=>rw[hd]at ez;exact .inr (h' A x y d e H Q z rx ry ez q)
 |st=>rw[hd]at ez;exact .inr (h' A x y d e H Q z rx ry ez q)
section
variable{K:zAA}
def i2(p:Int->Int->Bool)(g:Int->Int->D):D->D->Rs D
 | .int i,.int j=>if p i j=true then .ok (g i j)else .st
 |_,_=>.st
theorem aE0{g:Int->Int->Int}(hp:∀i j,p i j=true->c i j):OpS K (rI c λ i j=>.int (g i j)) (i2 p λ i j=>.int (g i j)):=by
 intro A x y d e H Q z rx ry ez q;unfold i2 at ez;split at ez
 .rename_i i j
  split at ez
  .rename_i h
   cases ez;obtain rfl:=rx.int_inv;obtain rfl:=ry.int_inv;exact⟨i,j,rfl,rfl,hp i j h,q _ H (aW.refl H) (.int _)⟩
  .cases ez
 .cases ez
theorem aKo{g:Int->Int->Int}:OpS K (rI0 λ i j=>.int (g i j)) (i2 (λ _ _=>true) λ i j=>.int (g i j)):=by
 intro A x y d e H Q z rx ry ez q;unfold i2 at ez;split at ez
 .rename_i i j
  cases ez;obtain rfl:=rx.int_inv;obtain rfl:=ry.int_inv;exact⟨i,j,rfl,rfl,q _ H (aW.refl H) (.int _)⟩
 .cases ez
theorem aBz{g:Int->Int->Bool}:OpS K (rI0 λ i j=>.bl (g i j)) (i2 (λ _ _=>true) λ i j=>.bl (g i j)):=by
 intro A x y d e H Q z rx ry ez q;unfold i2 at ez;split at ez
 .rename_i i j
  cases ez;obtain rfl:=rx.int_inv;obtain rfl:=ry.int_inv;exact⟨i,j,rfl,rfl,q _ H (aW.refl H) (.bl _)⟩
 .cases ez
theorem aCS{g:Int->Int->Int}:∀x y z,i2 p (λ i j=>.int (g i j)) x y= .ok z->imm z=true:=by
 intro x y z e;unfold i2 at e;split at e
 .split at e
  .cases e;rfl
  .cases e
 .cases e
theorem aJH{g:Int->Int->Bool}:∀x y z,i2 p (λ i j=>.bl (g i j)) x y= .ok z->imm z=true:=by
 intro x y z e;unfold i2 at e;split at e
 .split at e
  .cases e;rfl
  .cases e
 .cases e
def bG:D->D->Rs D
 | .int i,.int j=>.ok (.int (i+j))
 | .lst l,.lst m=>if l.length+m.length<=zAV then .ok (.lst (l++m))else .st
 | .tup l,.tup m=>if l.length+m.length<=zAV then .ok (.tup (l++m))else .st
 |_,_=>.st
def aMK(K:zAA):R2:=λ x y H Q=>∃a b xs ys,x= .ref a/\y= .ref b/\SqT K H a xs/\SqT K H b ys/\xs.length+ys.length<=zAV/\
 (xs=[]->Q (.ref b) H)/\(ys=[]->Q (.ref a) H)/\New H (.tup (xs++ys)) Q
theorem aKt:OpR X (zCU .Add) (aMK X.K):=by
 intro pins s Z H x y v u Q I rx ry h;obtain⟨a,b,xs,ys,rfl,rfl,ha,hb,hz,q0,q1,q2⟩:=h;by_cases hx:xs=[]
 .subst hx
  cases rx;cases ry;obtain⟨its,r1,p1,_⟩:=I.tuple ha;obtain⟨its2,r2,p2,_⟩:=I.tuple hb;cases r1;exact HT.aJ8 p1 p2 ⟨.ref b,H,I,rfl,q0 rfl⟩
 .exact aKu pins s Z H _ _ v u Q I rx ry ⟨a,b,xs,ys,rfl,rfl,ha,hb,hx,hz,q1,λ _ p hp=>q2.at hp⟩
def aFZ(K:zAA):R2:=λ x y H Q=>rI0 (λ i j=>.int (i+j)) x y H Q\/(aHw x y H Q\/aMK K x y H Q)
theorem aKv:OpR X (zCU .Add) (aFZ X.K):=OpR.or aNd (OpR.or aF8 aKt)
theorem aIZ:OpS K (aFZ K) bG:=by
 intro A x y d e H Q z rx ry ez q;unfold bG at ez;split at ez
 .cases ez;obtain rfl:=rx.int_inv;obtain rfl:=ry.int_inv;exact .inl ⟨_,_,rfl,rfl,q _ H (aW.refl H) (.int _)⟩
 .split at ez
  .rename_i hl
   cases ez;obtain⟨_,_,rfl,h1,m1,r1⟩:=rx.lst_inv;obtain⟨_,_,rfl,h2,m2,r2⟩:=ry.lst_inv;refine .inr (.inl ⟨_,_,_,_,rfl,rfl,h1,h2,by rw[r1.length,r2.length];exact hl,λ p H' s hp hn=>q _ H' s (.lst hp (.inl hn) ?_)⟩);exact(((r1.wk λ _ _ _ z=>z.1).append (r2.wk λ _ _ _ z=>z.1)).wk (A':=λ q=>(H q=none\/A q)/\q≠p) λ q o e z=>⟨.inr z,λ e'=>by subst e';rw[hn]at e;cases e⟩).up s
  .cases ez
 .split at ez
  .rename_i hl
   cases ez;obtain⟨_,_,rfl,h1,r1⟩:=rx.tup_inv;obtain⟨_,_,rfl,h2,r2⟩:=ry.tup_inv;have r1':=r1.wk (A':=λ p=>H p=none\/A p) λ _ _ _ z=>.inr z
   have r2':=r2.wk (A':=λ p=>H p=none\/A p) λ _ _ _ z=>.inr z
   refine .inr (.inr ⟨_,_,_,_,rfl,rfl,h1,h2,by rw[r1.length,r2.length];exact hl,λ e=>?_,λ e=>?_,λ p H' s hp hn=>q _ H' s (.tup (SqT.of hp) ((r1'.append r2').up s))⟩)
   .subst e
    cases r1';exact q _ H (aW.refl H) (.tup h2 r2')
   .subst e
    cases r2';rw[zAy]at q;exact q _ H (aW.refl H) (.tup h1 r1')
  .cases ez
 .cases ez
def iW:D->D->Rs D
 | .int i,.int j=>if (decide (-(2^64)<i)&&decide (i<2^64))||(decide (-(2^64)<j)&&decide (j<2^64))then .ok (.int (i*j))else .st
 | .lst l,.int k=>if decide (-(2^63)<=k)&&decide (k<2^63)&&decide (l.length*k.toNat<=zAV)&&oU l then .ok (.lst (zA6 k.toNat l).flatten)else .st
 |_,_=>.st
theorem Rps.rep(r:Rps K A H xs ds):∀k:Nat,Rps K A H (zA6 k xs).flatten (zA6 k ds).flatten
 |0=>.nil
 |k+1=>by
  rw[zBh,zBh,zAk,zAk];exact r.append (Rps.rep r k)
def aMF:R2:=λ x y H Q=>rI aLv (λ i j=>.int (i*j)) x y H Q\/aOr x y H Q
theorem aKr:OpR X (zCU .Mult) aMF:=OpR.or aN1 aNY
theorem aNV:OpS K aMF iW:=by
 intro A x y d e H Q z rx ry ez q;unfold iW at ez;split at ez
 .split at ez
  .rename_i hc
   cases ez;obtain rfl:=rx.int_inv;obtain rfl:=ry.int_inv;refine .inl ⟨_,_,rfl,rfl,?_,q _ H (aW.refl H) (.int _)⟩;simp only[zFg,zAN,decide_eq_true_eq]at hc;exact hc
  .cases ez
 .split at ez
  .rename_i hc
   simp only[zAN,decide_eq_true_eq]at hc;cases ez;obtain⟨_,_,rfl,h1,m1,r1⟩:=rx.lst_inv;obtain rfl:=ry.int_inv;refine .inr ⟨_,_,_,rfl,rfl,h1,hc.1.1.1,hc.1.1.2,by rw[r1.length];exact hc.1.2,λ p hp=>q _ _ (bA hp _) (.lst aj (.inl hp) ?_)⟩;exact((r1.rep _).wk (A':=λ q=>(H q=none\/A q)/\q≠p) λ q o e z=>⟨.inr z.1,λ e'=>by subst e';rw[hp]at e;cases e⟩).up (bA hp _)
  .cases ez
 .cases ez
def intsOf:List D->Option (List Int)
 |[]=>some []
 | .int i::r=>(intsOf r).map (i::·)
 |_=>none
theorem dm:∀{l:List D} {ns:List Int},intsOf l=some ns->l=ns.map .int
 |[],ns,h=>by cases h;rfl
 | .int i::r,ns,h=>by
  simp only[intsOf,zCZ]at h;obtain⟨ms,h1,rfl⟩:=h;rw[dm h1];rfl
 | .non::_,_,h=>by cases h
 | .bl _::_,_,h=>by cases h
 | .str _::_,_,h=>by cases h
 | .tup _::_,_,h=>by cases h
 | .lst _::_,_,h=>by cases h
 | .dct _ _::_,_,h=>by cases h
 | .set _::_,_,h=>by cases h
 | .scr _::_,_,h=>by cases h
theorem iH:∀ns:List Int,intsOf (ns.map .int)=some ns
 |[]=>rfl
 |n::ns=>by simp only[zAG,intsOf,iH ns,zC5]
def ltT(p:List Int->List Int->Bool):D->D->Rs D
 | .tup l,.tup m=>match intsOf l,intsOf m with
  |some ns,some ms=>.ok (.bl (p ns ms))
  |_,_=>.st
 |_,_=>.st
theorem aFY(r:Rp K A H x (.tup l))(e:intsOf l=some ns):∃a,x= .ref a/\SqT K H a (ns.map V.int):=by
 have:=dm e
 subst this;cases r with
 |tup h r=>
  have:=r.ints_of
  subst this;exact⟨_,rfl,h⟩
theorem aF6(hr:∀x y H Q,(∃a b ns ms,x= .ref a/\y= .ref b/\SqT K H a (ns.map V.int)/\SqT K H b (ms.map V.int)/\Q (.bl (p ns ms)) H)->r x y H Q):OpS K r (ltT p):=by
 intro A x y d e H Q z rx ry ez q;unfold ltT at ez;split at ez
 .split at ez
  .rename_i ns ms e1 e2
   cases ez;obtain⟨a,rfl,ha⟩:=aFY rx e1;obtain⟨b,rfl,hb⟩:=aFY ry e2;exact hr _ _ _ _ ⟨a,b,ns,ms,rfl,rfl,ha,hb,q _ H (aW.refl H) (.bl _)⟩
  .cases ez
 .cases ez
def ltD:D->D->Rs D:=λ d e=>match i2 (λ _ _=>true) (λ i j=>.bl (decide (i<j))) d e with
 | .ok z=>.ok z
 |_=>ltT HT.lexLt d e
def leD:D->D->Rs D:=λ d e=>match i2 (λ _ _=>true) (λ i j=>.bl (decide (i<=j))) d e with
 | .ok z=>.ok z
 |_=>ltT HT.lexLe d e
def gtD:D->D->Rs D:=i2 (λ _ _=>true) (λ i j=>.bl (decide (j<i)))
def geD:D->D->Rs D:=i2 (λ _ _=>true) (λ i j=>.bl (decide (j<=i)))
theorem aN3(hu:X.A.units<cLine):OpR X (zAs .Lt) (λ x y H Q=>rI0 (λ i j=>.bl (decide (i<j))) x y H Q\/aKZ X.K x y H Q):=OpR.or aOz (aN4 hu)
theorem aN5(hu:X.A.units<cLine):OpR X (zAs .LtE) (λ x y H Q=>rI0 (λ i j=>.bl (decide (i<=j))) x y H Q\/aK0 X.K x y H Q):=OpR.or aPA (aN6 hu)
theorem aIW:OpS K (λ x y H Q=>rI0 (λ i j=>.bl (decide (i<j))) x y H Q\/aKZ K x y H Q) ltD:=OpS.or aBz (aF6 λ _ _ _ _ h=>h)
theorem aIX:OpS K (λ x y H Q=>rI0 (λ i j=>.bl (decide (i<=j))) x y H Q\/aK0 K x y H Q) leD:=OpS.or aBz (aF6 λ _ _ _ _ h=>h)
theorem aFm(e:ltT p x y= .ok z):imm z=true:=by
 unfold ltT at e;split at e
 .split at e
  .cases e;rfl
  .cases e
 .cases e
theorem aJD:∀x y z,ltD x y= .ok z->imm z=true:=by
 intro x y z e;unfold ltD at e;split at e
 .rename_i w hw;cases e;exact aJH _ _ _ hw
 .exact aFm e
theorem aNy:∀x y z,leD x y= .ok z->imm z=true:=by
 intro x y z e;unfold leD at e;split at e
 .rename_i w hw;cases e;exact aJH _ _ _ hw
 .exact aFm e
def isD(neg:Bool):D->D->Rs D
 | .bl a,.bl b=>if neg then .st else .ok (.bl (a==b))
 |d,.non=>match d with
  | .non=>.ok (.bl (!neg))
  |_=>.ok (.bl neg)
 |_,_=>.st
theorem aN7:OpR X (zAs .Is) (λ x y H Q=>(∃b c,x= .bl b/\y= .bl c/\Q (.bl (b==c)) H)\/(y= .non/\Q (.bl (decide (x= .non))) H)):=OpR.or aI2 aN8
theorem aMp(r:Rp K A H x d)(h:d≠.non):x≠.non:=by
 cases r with
 |non=>exact absurd rfl h
 |_=>exact λ e=>by cases e
theorem aOy:OpS K (λ x y H Q=>(∃b c,x= .bl b/\y= .bl c/\Q (.bl (b==c)) H)\/(y= .non/\Q (.bl (decide (x= .non))) H)) (isD false):=by
 intro A x y d e H Q z rx ry ez q;unfold isD at ez;split at ez
 .cases ez;cases rx;cases ry;exact .inl ⟨_,_,rfl,rfl,q _ H (aW.refl H) (.bl _)⟩
 .cases ry
  split at ez
  .cases ez;cases rx;exact .inr ⟨rfl,by rw[decide_eq_true rfl];exact q _ H (aW.refl H) (.bl _)⟩
  .rename_i hn
   cases ez;exact .inr ⟨rfl,by rw[decide_eq_false (aMp rx hn)];exact q _ H (aW.refl H) (.bl _)⟩
 .cases ez
theorem aNz:∀x y z,isD n x y= .ok z->imm z=true:=by
 intro x y z e;unfold isD at e;split at e
 .split at e
  .cases e
  .cases e;rfl
 .split at e<;>(cases e;rfl)
 .cases e
def aDA:D->Rs D
 | .int i=>.ok (.int (-i))
 |_=>.st
theorem aMY:UnS K (rU λ i=>.int (-i)) aDA:=by
 intro A x d H Q z rx ez q;cases rx with
 |int i=>cases ez;exact⟨i,rfl,q _ H (aW.refl H) (.int _)⟩
 |_=>cases ez
theorem aLY:∀x z,aDA x= .ok z->imm z=true:=by
 intro x z e;cases x with
 |int i=>cases e;rfl
 |_=>cases e
def atD(l:List D)(i:Int):Rs D:=match atI l i with
 |some d=>.ok d
 |none=>.st
def ixD:D->D->Rs D
 | .tup l,.int i=>atD l i
 | .lst l,.int i=>atD l i
 | .scr l,.int i=>atD (l.map .int) i
 |_,_=>.st
theorem Rps.at(r:Rps K A H xs ds)(e:atI ds i=some d):∃x,atI xs i=some x/\Rp K A H x d:=by
 unfold atI at e ⊢;rw[r.length];cases h:ixN ds.length i with
 |none=>rw[h]at e;cases e
 |some j=>
  rw[h]at e;obtain⟨x,e1,e2⟩:=r.getD (i:=j) (d:=d) e;exact⟨x,e1,e2⟩
theorem aOx:OpS K (rIx K) ixD:=by
 intro A x y d e H Q z rx ry ez q;unfold ixD at ez;split at ez
 .unfold atD at ez
  split at ez
  .rename_i w hw
   cases ez;obtain⟨_,_,rfl,h,r⟩:=rx.tup_inv;obtain rfl:=ry.int_inv;obtain⟨v,e1,e2⟩:=r.at hw;exact .inr (.inl ⟨_,_,_,v,rfl,rfl,h,e1,q v H (aW.refl H) (e2.wk λ _ _ _ z=>.inr z)⟩)
  .cases ez
 .unfold atD at ez
  split at ez
  .rename_i w hw
   cases ez;obtain⟨_,_,rfl,h,m,r⟩:=rx.lst_inv;obtain rfl:=ry.int_inv;obtain⟨v,e1,e2⟩:=r.at hw;exact .inl ⟨_,_,_,v,rfl,rfl,SqL.of h,e1,q v H (aW.refl H) (e2.wk λ _ _ _ z=>.inr z.1)⟩
  .cases ez
 .unfold atD at ez
  split at ez
  .rename_i w hw
   cases ez;obtain⟨_,rfl,h⟩:=rx.scr_inv;obtain rfl:=ry.int_inv;obtain⟨v,e1,e2⟩:=(Rps.ints (K:=K) (A:=A) (H:=H)).at hw;exact .inl ⟨_,_,_,v,rfl,rfl,h.sq,e1,q v H (aW.refl H) (e2.wk λ _ _ _ z=>.inr z)⟩
  .cases ez
 .cases ez
def dR:List D->Rs D
 |[.tup l]=>.ok (.int l.length)
 |[.lst l]=>.ok (.int l.length)
 |[.scr l]=>.ok (.int l.length)
 |_=>.st
theorem aJ4:su K (λ xs H Q=>∃p ys,xs=[.ref p]/\(SqL K H p ys\/SqT K H p ys)/\Q (.int ys.length) H) dR:=by
 intro A xs ds H Q z r ez q;unfold dR at ez;split at ez
 .cases ez
  obtain⟨_,rfl,h0⟩:=r.one_inv;obtain⟨_,_,rfl,h,r⟩:=h0.tup_inv;exact⟨_,_,rfl,.inr h,by rw[r.length];exact q _ H (aW.refl H) (.int _)⟩
 .cases ez
  obtain⟨_,rfl,h0⟩:=r.one_inv;obtain⟨_,_,rfl,h,m,r⟩:=h0.lst_inv;exact⟨_,_,rfl,.inl (SqL.of h),by rw[r.length];exact q _ H (aW.refl H) (.int _)⟩
 .cases ez
  obtain⟨_,rfl,h0⟩:=r.one_inv;obtain⟨_,rfl,h⟩:=h0.scr_inv;exact⟨_,_,rfl,.inl h.sq,by rw[zAF];exact q _ H (aW.refl H) (.int _)⟩
 .cases ez
theorem aFn:∀x z,dR x= .ok z->imm z=true:=by
 intro x z e;unfold dR at e;split at e<;>first|(cases e;rfl)|cases e
def tyD:D->String
 | .non=>"NoneType"| .bl _=>"bool"| .int _=>"int"| .str _=>"str"| .tup _=>"tuple"| .lst _=>"list"| .dct _ _=>"dict"| .set _=>"set"| .scr _=>"script"| .fn _=>"function"
def jO(T:String):D->Rs D:=λ d=>if sG (tyD d) T true=true then .ok (.bl true)else if sG (tyD d) T false=true then .ok (.bl false)else .st
def aMG(K:zAA)(T:String):List V->Hp->VK->Prop:=λ xs H Q=>∃x d A b,xs=[x,.ty T]/\Rp K A H x d/\sG (tyD d) T b=true/\Q (.bl b) H
theorem aGz:dj X (.builtin "isinstance") (aMG X.K T):=by
 intro pins s Z H xs us Q I rv h;obtain⟨x,d,A,b,rfl,rd,ok,q⟩:=h;cases rd with
 |tup h r=>
  obtain⟨u,w',rfl,ru,rw'⟩:=vals2 rv;cases ru;cases rw';obtain⟨its,_,⟨o,h1,h2,_⟩,_⟩:=I.tuple h;exact zBK zGs I.kIn ⟨o,h1,h2⟩ (aEk ok) (λ z=>nomatch z) λ tk=>⟨.bl b,H,I.tok _,rfl,q⟩
 |set h m hS nd=>cases b<;>simp[sG,tyD]at ok
 |scr h=>cases b<;>simp[sG,tyD]at ok
 |fn h=>cases b<;>simp[sG,tyD]at ok
 |non=>exact nY pins s Z H _ us Q I rv ⟨_,T,_,b,rfl,.non,ok,q⟩
 |bl c=>exact nY pins s Z H _ us Q I rv ⟨_,T,_,b,rfl,.bl c,ok,q⟩
 |int c=>exact nY pins s Z H _ us Q I rv ⟨_,T,_,b,rfl,.int c,ok,q⟩
 |str c=>exact nY pins s Z H _ us Q I rv ⟨_,T,_,b,rfl,.str c,ok,q⟩
 |lst h m r=>exact nY pins s Z H _ us Q I rv ⟨_,T,_,b,rfl,.lst h,ok,q⟩
 |dK h m r=>exact nY pins s Z H _ us Q I rv ⟨_,T,_,b,rfl,.dK h,ok,q⟩
 |dT h m r=>
  obtain⟨u,w',rfl,ru,rw'⟩:=vals2 rv;cases ru;cases rw';obtain⟨⟨_,_,_,o,_,_,_,h1,h2,_⟩,_⟩:=(show cR X.prog X.w H s.heap _ (dxO _ _)from I.hok _ _ h.at_);exact zBK zEr I.kIn ⟨o,h1,h2.1⟩ (aEk ok) (λ z=>nomatch z) λ tk=>⟨.bl b,H,I.tok _,rfl,q⟩
end
section
variable{C:Ct}{pos p p2:Pos}{m:Mode}{a:Expr}{fa:En->Rs D}
theorem jL(ha:SE C m a fa)(hm:C.mg "isinstance"=none)(hmT:C.mg x=none)(hn:x≠"__name__":=by decide)(hd:(x==("__debug__":Str))=false:=by decide)(he:∀i,zAX [a,.Name x p2] (C.X i).env=(false,eval a (C.X i).env)::zAX [.Name x p2] (C.X i).env:=by intro _;rfl)(hpl:∀i,(zC2 pos (zAX [.Name x p2] (C.X i).env)).any (·.1)=false:=by intro _;rfl)(hg:∀i,Gl (C.X i) "isinstance":=by intro _;rfl)(hv:zAt "isinstance"=some (.builtin "isinstance"):=by decide+kernel)(hgT:∀i,Gl (C.X i) x:=by intro _;rfl)(hvT:zAt x=some (.type T):=by decide+kernel):
  SE C (some []) (.Call (.Name "isinstance" p) [a,.Name x p2] [] pos) (op1 (jO T) fa):=by
 obtain⟨t,h1,h2⟩:=ha;refine⟨tCB (aMG C.K T) (jd t (jd (tC (.ty T)) tG)),λ i=>?_,λ U Z H Y lab Q R W=>?_⟩
 .rw[<-C.hK i]
  exact pZ aGz (hg i) (by rw[(C.cx i).2.2.2.1];exact hm) hv (ak (h1 i) (ak (aF3 (v:=.ty T) (hgT i) (by rw[(C.cx i).2.2.2.1];exact hmT) hvT rfl hn hd) dY) (he i)) (by decide) (by decide) (he i) (hpl i)
 .refine h2 U Z H Y lab _ R (W.bd.imp λ d _ w x H1 s1 r1=>?_)
  obtain⟨z,ez,w⟩:=w.okD;unfold jO at ez;split at ez
  .rename_i h;cases ez;exact⟨x,d,_,true,rfl,r1,h,w _ H1 s1 (.bl _)⟩
  .split at ez
   .rename_i h;cases ez;exact⟨x,d,_,false,rfl,r1,h,w _ H1 s1 (.bl _)⟩
   .cases ez
end
def xP:Slot->Slot
 | .ow d=>.sh d
 | .nw d=>.sh d
 | .oz d=>.sh d
 | .o2 l=>.sh (.lst (l.map .lst))
 |s=>s
def shE(Y:En):En:=Y.map xP
def stV(js:List (Option Nat))(Z:L2.St):L2.St:=js.map λ o=>o.bind λ j=>(Z[j]?).join
def stE(js:List (Option Nat))(Y:En):En:=js.map λ o=>match o with
 |none=>.no
 |some j=>(Y[j]?).getD .no
theorem aKU{K:zAA}(h:gU K H lab i v s):∃d,(s= .no\/xP s= .sh d)/\(s= .no\/Rp K (λ _=>True) H v d):=by
 cases s with
 |no=>exact⟨.non,.inl rfl,.inl rfl⟩
 |sh d=>exact⟨d,.inr rfl,.inr (Rp.wk (λ _ _ _ _=>trivial) h)⟩
 |nw d=>exact⟨d,.inr rfl,.inr (Rp.wk (λ _ _ _ _=>trivial) h)⟩
 |ow d=>exact⟨d,.inr rfl,.inr (Rp.wk (λ _ _ _ _=>trivial) h.1)⟩
 |oz d=>exact⟨d,.inr rfl,.inr (Rp.wk (λ _ _ _ _=>trivial) (aMO h))⟩
 |o2 l=>exact⟨_,.inr rfl,.inr (Rp.wk (λ _ _ _ _=>trivial) (aFb h))⟩
theorem RR.shE{K:zAA}(R:RR K G U Y Z H lab):RR K G U (shE Y) Z H (λ _=>(0,0)):=by
 refine⟨by unfold VL.shE;rw[zAF];exact R.len,λ i s e=>?_,R.old,λ p hp=>absurd rfl hp,λ q hq=>(R.tm q hq).wk λ _ _ _ _=>zAa _⟩;unfold VL.shE at e;rw[zAT]at e;cases e0:Y[i]? with
 |none=>rw[e0]at e;cases e
 |some s0=>
  rw[e0]at e;cases e;rcases R.sl i s0 e0 with rfl|⟨v,ev,hv⟩
  .exact .inl rfl
  .obtain⟨d,h1,h2⟩:=aKU hv
   rcases h1 with rfl|h1
   .exact .inl rfl
   .rcases h2 with rfl|h2
    .exact .inl rfl
    .exact .inr ⟨v,ev,by rw[h1];exact h2.wk λ _ _ _ _=>zAa _⟩
theorem aH2{i:Nat}(e:(stE js Y)[i]? =some s):s= .no\/∃j,js[i]? =some (some j)/\Y[j]? =some s:=by
 unfold stE at e;rw[zAT]at e;cases ej:js[i]? with
 |none=>rw[ej]at e;cases e
 |some o=>
  rw[ej]at e;cases o with
  |none=>cases e;exact .inl rfl
  |some j=>
   cases er:Y[j]? with
   |none=>simp[er]at e;exact .inl e.symm
   |some s'=>simp[er]at e;subst e;exact .inr ⟨j,rfl,er⟩
theorem RR.block{K:zAA}{U:List (V×D)}(R:RR K G U (VL.shE Y) Z H lab)(hz:∀p,(lab p).1<=1)(hl:H l=none):
  RR K G U (stE js (VL.shE Y)) (stV js Z) H (λ p=>if p=l then(2,0)else(0,0)):=by
 have nl:∀p o,H p=some o->p≠l:=λ p o e z=>by subst z;rw[hl]at e;cases e
 refine⟨by unfold stE stV;rw[zAF,zAF],λ i s e=>?_,R.old,λ p hp=>?_,λ q hq=>(R.tm q hq).wk λ p o e _=>by rw[if_neg (nl p o e)];exact zAa _⟩
 .rcases aH2 e with rfl|⟨j,ej,es⟩
  .exact .inl rfl
  .rcases R.sl j s es with rfl|⟨v,ev,hv⟩
   .exact .inl rfl
   .refine .inr ⟨v,?_,?_⟩
    .unfold stV
     rw[zAT,ej];simp[ev]
    .unfold VL.shE at es
     rw[zAT]at es;cases e0:Y[j]? with
     |none=>rw[e0]at es;cases es
     |some s0=>
      rw[e0]at es;cases es;cases s0 with
      |no=>trivial
      |oz d=>exact Rp.wk (λ p o e _=>by show(if p=l then((2,0):Nat×Nat)else(0,0)).1<=1;rw[if_neg (nl p o e)];exact zAa _) hv
      |nw d=>exact Rp.wk (λ p o e _=>by show(if p=l then((2,0):Nat×Nat)else(0,0)).1<=1;rw[if_neg (nl p o e)];exact zAa _) hv
      |sh d=>exact Rp.wk (λ p o e _=>by show(if p=l then((2,0):Nat×Nat)else(0,0)).1<=1;rw[if_neg (nl p o e)];exact zAa _) hv
      |ow d=>exact Rp.wk (λ p o e _=>by show(if p=l then((2,0):Nat×Nat)else(0,0)).1<=1;rw[if_neg (nl p o e)];exact zAa _) hv
      |o2 d=>exact Rp.wk (λ p o e _=>by show(if p=l then((2,0):Nat×Nat)else(0,0)).1<=1;rw[if_neg (nl p o e)];exact zAa _) hv
 .by_cases hp':p=l
  .subst hp';exact R.old.free hl
  .exact absurd (show(if p=l then((2,0):Nat×Nat)else(0,0)).1=0 by rw[if_neg hp']) hp
def aPt(XN N:List Str)(js:List (Option Nat))(ks:List Nat)(sc:Scope):Bool:=(zAb js.length).all λ i=>match js[i]? with
 |some (some j)=>match N[i]?,XN[j]? with
  |some x,some y=>x==y&&sc.names.lookup x==some .free&& !ks.contains i
  |_,_=>false
 |_=>true
theorem aC3(h1:sc.kind= .function)(h2:(sc.names.all λ y=>y.2 != .cell||sc.names.lookup y.1==some .cell)=true)(h3:(sc.names.all λ y=>y.2 != .local||sc.names.lookup y.1==some .local)=true)
  (h4:(sc.names.all λ y=>y.2 != .free||(X.env.kindOf y.1==some .cell||X.env.kindOf y.1==some .free))=true)(h5:js.length=N.length)(h6:aPt X.N N js ks sc=true):fj X sc N (stV js) ks:=by
 refine⟨h1,λ y hy e=>?_,λ y hy e=>?_,λ y hy e=>?_,λ Z=>by unfold stV;rw[zAF];exact h5,λ Z i x v e1 e2=>?_⟩
 .have:=zAf.mp h2 y hy
  rw[e]at this;simpa using this
 .have:=zAf.mp h3 y hy
  rw[e]at this;simpa using this
 .have:=zAf.mp h4 y hy
  rw[e]at this;simpa using this
 .unfold stV at e2
  rw[zAT]at e2;cases ej:js[i]? with
  |none=>rw[ej]at e2;cases e2
  |some o=>
   rw[ej]at e2;cases o with
   |none=>cases e2
   |some j=>
    have hi:i<js.length:=(zAI.mp ej).1
    have:=zAf.mp h6 i (zBV.mpr hi)
    rw[ej,e1]at this;dsimp only at this;cases ey:X.N[j]? with
    |none=>rw[ey]at this;cases this
    |some y=>
     rw[ey]at this;simp only[zAN,beq_iff_eq,zFK]at this;obtain⟨⟨h,h'⟩,h''⟩:=this;subst h;refine⟨h',λ hk=>?_,j,ey,?_⟩
     .rw[List.contains_iff_mem.mpr hk]at h'';cases h''
     .simp only[zC5,zFN,zGP]at e2
      cases es:Z[j]? with
      |none=>rw[es]at e2;cases e2
      |some w=>rw[es]at e2;simp at e2;subst e2;rfl
abbrev Ct.blk(C:Ct)(sc:Scope)(N:List Str):Ct where
 ι:=C.ι×Addr×List Addr×zAH×Hp
 X:=λ i=>(C.X i.1).block sc i.2.1 N i.2.2.1 i.2.2.2.1 i.2.2.2.2
 prog:=C.prog
 w:=C.w
 K:=C.K
 mg:=C.mg
 base:=C.base
 k:=C.k
 G:={C.G with E:=λ _ _ _=>False}
 cx:=λ i=>C.cx i.1
 calm:=λ i=>C.calm i.1
 room:=λ i=>C.room i.1
 own:=λ i=>PassesOwn.never
 pass:=λ i pins Z H s e s' I h=>by obtain⟨_,_,_,_,_,_,_,_,_,_,_,_,_,hE⟩:=h;exact hE
 dOk:=false
 dcx:=λ h=>absurd h zA5
def lcL(Y:En)(fg:D->En->Rs En)(ft:En->Rs Bool)(fe:En->Rs D):List D->Rs (List D)
 |[]=>.ok []
 |d::ds=>(fg d Y).bd λ Y1=>(ft Y1).bd λ k=>if k=true then(fe Y1).bd λ y=>(lcL Y fg ft fe ds).bd λ ys=>.ok (y::ys)else lcL Y fg ft fe ds
def lcD(fi:En->Rs (List D))(js:List (Option Nat))(fg:D->En->Rs En)(ft:En->Rs Bool)(fe:En->Rs D):En->Rs D:=λ Y=>(fi (shE Y)).bd λ ds=>
 if ds.length<zAV then(match lcL (stE js (shE Y)) fg ft fe ds with
  | .ok l=>.ok (.lst l)
  |_=>.st)else .st
def aHF(C:Ct)(ifs:List Expr)(f:En->Rs Bool):Prop:=∃t,(∀i,aC7 (C.X i) ifs t)/\aDj C.K C.G t f
def dO:En->Rs Bool:=λ _=>.ok true
theorem lC:aHF C [] dO:=⟨_,λ _=>aNI,λ U Z H Y lab Q R W=>W H (aW.refl H)⟩
theorem aDz(h:ST C c f):aHF C [c] f:=let⟨t,h1,h2⟩:=h;⟨t,λ i=>aNH (h1 i),h2⟩
theorem aDP(h:lcL Y fg ft fe (d::ds)= .ok l):
  ∃Y1 k,fg d Y= .ok Y1/\ft Y1= .ok k/\((k=true/\∃y ys,fe Y1= .ok y/\lcL Y fg ft fe ds= .ok ys/\l=y::ys)\/(k=false/\lcL Y fg ft fe ds= .ok l)):=by
 unfold lcL at h;obtain⟨Y1,e1,h⟩:=cM h;obtain⟨k,e2,h⟩:=cM h;refine⟨Y1,k,e1,e2,?_⟩;cases k with
 |true=>
  rw[if_pos rfl]at h;obtain⟨y,e3,h⟩:=cM h;obtain⟨ys,e4,h⟩:=cM h;cases h;exact .inl ⟨rfl,y,ys,e3,e4,rfl⟩
 |false=>
  rw[if_neg zA5]at h;exact .inr ⟨rfl,h⟩
theorem RR.but_blk{K:zAA}{U:List (V×D)}(R:RR K G U (stE js (VL.shE Y)) Z H (λ p=>if p=l then(2,0)else(0,0)))(B:ni l H H')(hl:H l=some o)(ho:lR o=true)(h0:G.H0 l=none):
  RR K G U (stE js (VL.shE Y)) Z H' (λ p=>if p=l then(2,0)else(0,0)):=by
 have lab1l:¬((λ p=>if p=l then((2,0):Nat×Nat)else(0,0)) l).1<=1:=by simp
 refine⟨R.len,λ j s e=>?_,λ b o hb=>?_,R.new,λ q hq=>(R.tm q hq).but B hl ho lab1l⟩
 .rcases R.sl j s e with z|⟨u,e1,e2⟩
  .exact .inl z
  .refine .inr ⟨u,e1,?_⟩
   rcases aH2 e with rfl|⟨jx,ej,es⟩
   .trivial
   .unfold VL.shE at es
    rw[zAT]at es;cases e0:Y[jx]? with
    |none=>rw[e0]at es;cases es
    |some s0=>rw[e0]at es;cases es;cases s0<;>first|trivial|exact Rp.but B hl ho lab1l e2
 .exact B b o (λ z=>by subst z;rw[h0]at hb;cases hb) (R.old b o hb)
theorem RR.blk0{K:zAA}(R:RR K G U (VL.shE Y) Z H lab)(hG:G'.H0=G.H0):RR K G' U (VL.shE Y) Z H (λ _=>(0,0)):=by
 refine⟨R.len,λ i s e=>?_,by rw[hG];exact R.old,λ p hp=>absurd rfl hp,λ q hq=>(R.tm q hq).wk λ _ _ _ _=>zAa _⟩;rcases R.sl i s e with rfl|⟨v,ev,hv⟩
 .exact .inl rfl
 .unfold VL.shE at e
  rw[zAT]at e;cases e0:Y[i]? with
  |none=>rw[e0]at e;cases e
  |some s0=>rw[e0]at e;cases e;cases s0<;>first|exact .inl rfl|exact .inr ⟨v,ev,Rp.wk (λ _ _ _ _=>zAa _) hv⟩
section
variable{K:zAA}{G:Gx}{wi:TI}{fi:En->Rs (List D)}{js:List (Option Nat)}{g:TG}{fg:D->En->Rs En}{tt:TT}{ft:En->Rs Bool}{te:TE}{fe:En->Rs D}
theorem aH7(hi:aJi K G wi fi)(hg:aJj K {G with E:=λ _ _ _=>False} g fg)(ht:aDj K {G with E:=λ _ _ _=>False} tt ft)(he:jg K {G with E:=λ _ _ _=>False} (some []) te fe):
  jg K G (some []) (tLC wi (stV js) g tt te) (lcD fi js fg ft fe):=by
 intro U Z H Y lab Q R W;refine hi U Z H _ _ _ R.shE (W.bd.imp λ ds _ w J H1 lab1 U1 s1 _ R1 jl=>?_);intro l hl;obtain⟨hlen,out,hout,w⟩:ds.length<zAV/\∃out,lcL (stE js (VL.shE Y)) fg ft fe ds= .ok out/\QE K (some []) lab H Q (.lst out):=by
  by_cases hlen:ds.length<zAV
  .rw[if_pos hlen]at w
   cases hout:lcL (stE js (VL.shE Y)) fg ft fe ds with
   |ok out=>rw[hout]at w;exact⟨hlen,out,rfl,w⟩
   |ex c=>rw[hout]at w;exact zAQ w
   |st=>rw[hout]at w;exact zAQ w
  .rw[if_neg hlen]at w
   exact zAQ w
 have R0:RR K {G with E:=λ _ _ _=>False} (U1++U) (VL.shE Y) Z H1 (λ _=>(0,0)):=R1.blk0 rfl;have RB:=R0.block (js:=js) (λ _=>zAa _) hl;have hHl:H l=none:=s1.free hl;have lab1l:¬((λ p=>if p=l then((2,0):Nat×Nat)else(0,0)) l).1<=1:=by simp
 refine⟨λ i n acc H2=>∃pre,n=ds.length-i/\i<=ds.length/\H2 l=some (.lst acc)/\RR K {G with E:=λ _ _ _=>False} (U1++U) (stE js (VL.shE Y)) (stV js Z) H2 (λ p=>if p=l then(2,0)else(0,0))/\aW H H2/\acc.length<=i/\
  Rps K (λ p=>H p=none/\p≠l) H2 acc pre/\∃post,lcL (stE js (VL.shE Y)) fg ft fe (ds.drop i)= .ok post/\out=pre++post,⟨ds.length,[],by lia,by lia,aj,RB.up (bA hl _),s1.trans (bA hl _),zAP _,.nil,out,hout,rfl⟩,?_⟩
 rintro i n acc H2 ⟨pre,rfl,hi,hH2,R2,s2,hacc,rpre,post,hpost,eout⟩;refine⟨hH2,by lia,?_⟩;have jj:=jl _ H2 λ q hq=>R2.tm q (zA0 _ hq)
 by_cases hlt:i<ds.length
 .obtain⟨go,yl⟩:=(jj i).2 hlt
  refine .inr ⟨go,λ x H3 hy=>?_⟩;obtain⟨s3,d,ed,rx⟩:=yl x H3 hy;replace R2:=R2.up s3;replace hH2:=s3 _ _ hH2;replace s2:=s2.trans s3;replace rpre:=rpre.up s3;have ed2:ds.drop i=d::ds.drop (i+1):=by
   rw[zCi hlt]
   have:=zAD hlt
   rw[ed]at this;cases this;rfl
  rw[ed2]at hpost;obtain⟨Y1,k,e1,e2,e3⟩:=aDP hpost;refine hg (U1++U) x d _ H3 _ _ _ Y1 R2 rx e1 λ Z4 R4=>?_
  refine ht (U1++U) Z4 H3 Y1 _ _ R4 ?_;rw[e2];intro H5 s5;rcases e3 with ⟨rfl,y,ys,e3,e4,rfl⟩|⟨rfl,e4⟩
  .rw[if_pos rfl]
   refine he (U1++U) Z4 H5 Y1 _ _ (R4.up s5) ?_;rw[e3];intro v H6 s6 r6;have hl6:H6 l=some (.lst acc):=s6 _ _ (s5 _ _ hH2);have B:ni l H6 (upd H6 l (.lst (acc++[v]))):=λ b o ne hb=>by rw[aX ne];exact hb
   refine⟨hl6,ds.length-(i+1),by lia,pre++[y],rfl,hlt,aj,?_,?_,by rw[zA1];simp;lia,?_,ys,e4,by rw[eout];simp⟩
   .exact(R2.up (s5.trans s6)).but_blk B hl6 rfl (R1.old.free hl)
   .exact λ b o hb=>B b o (λ z=>by subst z;rw[hHl]at hb;cases hb) (((s2.trans s5).trans s6) b o hb)
   .refine((rpre.up (s5.trans s6)).append (.cons (r6.wk λ p o _ z=>?_) .nil)).but B hl6 rfl λ z=>z.2 rfl
    rcases z with z|z
    .exact⟨(s2.trans s5).free z,λ e=>by subst e;rw[s5 _ _ hH2]at z;cases z⟩
    .cases z
  .rw[if_neg zA5]
   exact⟨ds.length-(i+1),by lia,pre,rfl,hlt,s5 _ _ hH2,R2.up s5,s2.trans s5,by lia,rpre.up s5,post,e4,eout⟩
 .have ei:i=ds.length:=by lia
  subst ei;rw[zEL]at hpost;cases hpost;rw[zAy]at eout;subst eout;exact .inl ⟨(jj _).1 (zAP _),w _ H2 s2 (.lst hH2 (.inl hHl) (rpre.wk λ p o _ z=>⟨.inl z.1,z.2⟩))⟩
end
section
variable{C:Ct}{pos:Pos}{elt tg iter:Expr}{ifs:List Expr}{sc:Scope}{N:List Str}{js:List (Option Nat)}{ks:List Nat}{fi:En->Rs (List D)}{fg:D->En->Rs En}{ft:En->Rs Bool}{fe:En->Rs D}
theorem cV{C:Ct}(nd:N.Nodup:=by decide+kernel)(hk:i∈ks:=by decide)(hN:∀j,((C.blk sc N).X j).N[i]? =some x:=by intro _;rfl)(hx:∀j,Loc ((C.blk sc N).X j).env.scope x:=by intro _;first|exact zCf rfl|exact zCC rfl)
  (hf:∀j,((C.blk sc N).X j).fn x=true\/((C.blk sc N).X j).env.scope.names.lookup x=some .local:=by intro _;first|exact .inl rfl|exact .inr rfl):SG (C.blk sc N) (.Name x pos) ks (gnm i):=
 cA hN hx hf (λ _=>nd) hk
theorem yr(hi:SI C tg iter fi)(hg:SG (C.blk sc N) tg ks fg)(ht:aHF (C.blk sc N) ifs ft)(he:SE (C.blk sc N) (some []) elt fe)(hs:∀i x,zBQ iter (C.X i).env x=pure x:=by intro _ _;rfl)(hB:∀i,fj (C.X i) sc N (stV js) ks:=by intro _;exact aC3 rfl rfl rfl rfl rfl rfl):SE C (some []) (.ListComp elt [⟨tg,iter,ifs,0⟩] sc pos) (lcD fi js fg ft fe):=by
 obtain⟨wi,i1,i2⟩:=hi;obtain⟨g,g1,g2,g3,g4⟩:=hg;obtain⟨tt,t1,t2⟩:=ht;obtain⟨te,e1,e2⟩:=he;exact⟨_,λ i=>aOv (hB i) (C.calm i) (i1 i) (λ c fp z0 zI=>g1 (i,c,fp,z0,zI)) g3 (λ c fp z0 zI=>t1 (i,c,fp,z0,zI)) (λ c fp z0 zI=>e1 (i,c,fp,z0,zI)) (hs i),aH7 i2 g2 t2 e2⟩
theorem aMB(hi:SI C tg iter fi)(hg:SG (C.blk sc N) tg ks fg)(ht:aHF (C.blk sc N) ifs ft)(he:SE (C.blk sc N) (some []) elt fe)(hN:∀j,(C.X j).N[i]? =some x:=by intro _;rfl)(hx:∀j,Loc (C.X j).env.scope x:=by intro _;first|exact zCf rfl|exact zCC rfl)(hsw:∀j,zCw (.ListComp elt [⟨tg,iter,ifs,0⟩] sc pos) (some (.Name x pos')) spos.line (C.X j).env=pure true:=by intro _;rfl)(hs:∀i x,zBQ iter (C.X i).env x=pure x:=by intro _ _;rfl)(hf:∀j,(C.X j).fn x=true\/(C.X j).env.scope.names.lookup x=some .local:=by intro _;first|exact .inl rfl|exact .inr rfl)(nd:∀j,(C.X j).N.Nodup:=by intro _;assumption)(hB:∀i,fj (C.X i) sc N (stV js) ks:=by intro _;exact aC3 rfl rfl rfl rfl rfl rfl):
  SV C i (.Assign [.Name x pos'] (.ListComp elt [⟨tg,iter,ifs,0⟩] sc pos) spos) (some []) (lcD fi js fg ft fe):=by
 obtain⟨wi,i1,i2⟩:=hi;obtain⟨g,g1,g2,g3,g4⟩:=hg;obtain⟨tt,t1,t2⟩:=ht;obtain⟨te,e1,e2⟩:=he;exact⟨_,λ j=>aCu (nd j) (hN j) (hx j) (hB j) (C.calm j) (i1 j) (λ c fp z0 zI=>g1 (j,c,fp,z0,zI)) g3 (λ c fp z0 zI=>t1 (j,c,fp,z0,zI)) (λ c fp z0 zI=>e1 (j,c,fp,z0,zI)) (hsw j) (hs j) (hf j),aH7 i2 g2 t2 e2⟩
end
theorem RR.mut{K:zAA}(R:RR K G U Y Z H lab)(ev:Z[i]? =some (some v))(hl:H l=some o)(ho:lR o=true)(hlab:(lab l).1=i+2)
  (B:ni l H H')(h':gU K H' lab i v s'):RR K G U (Y.set i s') Z H' lab:=by
 refine⟨by rw[zB8];exact R.len,λ j x e=>?_,λ b u hb=>B b u (λ z=>?_) (R.old b u hb),R.new,λ q hq=>(R.tm q hq).but B hl ho λ z=>by lia⟩
 .by_cases hj:i=j
  .subst hj
   have hi:i<Y.length:=by
    have:=(zAI.mp e).1
    rwa [zB8]at this
   rw[zCA hi]at e;cases e;exact .inr ⟨v,ev,h'⟩
  .rw[zBZ hj]at e
   rcases R.sl j x e with z|⟨u,e1,e2⟩
   .exact .inl z
   .refine .inr ⟨u,e1,?_⟩
    cases x with
    |no=>trivial
    |sh d=>exact Rp.but B hl ho (λ z=>by lia) e2
    |nw d=>exact Rp.but B hl ho (λ z=>by lia) e2
    |ow d=>exact⟨Rp.but B hl ho (λ z=>by lia) e2.1,e2.2⟩
    |oz d=>
     obtain⟨a,xs,ds,q1,q2,q3,q4,q5⟩:=e2;exact⟨a,xs,ds,q1,q2,B a _ (λ z=>by subst z;exact hj (by lia)) q3,q4,Rps.but B hl ho (λ z=>by lia) q5⟩
    |o2 ll=>
     obtain⟨a,xs,q1,q2,q3,q4,q5⟩:=e2;refine⟨a,xs,q1,B a _ (λ z=>?_) q2,q3,q4,λ jj y ds f1 f2=>(q5 jj y ds f1 f2).but B hl ho λ z=>?_⟩
     .rw[z]at q3;rw[q3]at hlab;exact hj (by simpa using hlab.symm)
     .rw[z]at hlab;exact hj (by simpa using hlab.symm)
 .subst z
  have:=R.new b (by rw[hlab];lia)
  rw[this]at hb;cases hb
section
variable{C:Ct}{pos apos cpos p:Pos}{e a:Expr}{fe fa:En->Rs D}{i:Nat}{x:Str}{m:Mode}
def jt(i:Nat)(fe:En->Rs D):En->Ou:=λ Y=>match Y[i]? with
 |some (.ow (.lst ds))=>(fe Y).bo λ d=>if ds.length<zAV then .nx (Y.set i (.ow (.lst (ds++[d]))))else .st
 |_=>.st
theorem eU(i:Nat)(he:SE C m e fe)(hm:okN m=true:=by rfl)(hN:∀j,(C.X j).N[i]? =some x:=by intro _;rfl)(hv:∀j,Vis (C.X j).env.scope x:=by intro _;first|exact zCf rfl|exact zCC (zCf rfl)|exact zCC (zCC rfl))(hd:(x==("__debug__":Str))=false:=by decide)
  (hcd:(x==("__classdict__":Str))=false:=by decide)(hs1:∀j,zAX [e] (C.X j).env=[(false,eval e (C.X j).env)]:=by intro _;rfl)
  (hbase:∀j,zDP (.Name x p) "append" (C.X j).env (eval (.Name x p) (C.X j).env)=eval (.Name x p) (C.X j).env:=by intro _;rfl)
  (hfew:∀j,((zC2 cpos (zAX [e] (C.X j).env)).all (λ x=>!x.1)&&(zFc cpos (zDs [] (C.X j).env)).all (λ x=>x.1.isSome)&&decide ([e].length+([]:List zCs).length+(if ([]:List zCs).isEmpty then 0 else 1)<30))=true:=by intro _;rfl)
  (hline:(apos.endLine==cpos.line)=true:=by rfl)
  (hsw:∀j,zCw (.Call (.Attribute (.Name x p) "append" apos) [e] [] cpos) none pos.line (C.X j).env=pure false:=by intro _;rfl):
  SS C (.Expr (.Call (.Attribute (.Name x p) "append" apos) [e] [] cpos) pos) (jt i fe):=by
 obtain⟨t,h1,h2⟩:=he;refine⟨yd (tBM C.K "list" zH (rD i) (jd t tG)),λ j=>qi (by rw[<-C.hK j];exact aAz zBr zEJ zFr zX (jN (hN j) (hv j) hd hcd) (ak (h1 j) dY (hs1 j)) (hbase j) (hfew j) hline (hs1 j) rfl) (hsw j),λ U Z H Y lab De R W=>?_⟩;unfold jt at W;cases es:Y[i]? with
 |none=>rw[es]at W;exact zAQ W
 |some s=>
  rw[es]at W;split at W
  .rename_i ds hs
   cases hs;rcases R.sl i _ es with z|⟨v,ev,hv'⟩
   .cases z
   .obtain⟨hv1,htop⟩:=hv'
    obtain⟨a0,ea0,la0⟩:=htop rfl;subst ea0;cases hv1 with
    |lst h mm r=>
     rename_i xs;refine⟨.ref a0,ev,.inl ⟨rfl,xs,SqL.of h⟩,h2 U Z H Y lab _ R (W.bo.imp λ d _ w y H2 s2 r2=>?_)⟩;by_cases hz:ds.length<zAV
     .rw[if_pos hz]at w
      refine⟨a0,xs,y,rfl,rfl,s2 _ _ h,by rw[r.length];exact hz,λ H3 B h3=>?_⟩;obtain⟨R',r'⟩:=R.fresh (P:=λ k=>k=1) rfl (λ k hk=>beq_iff_eq.mp (qm hm k hk)) s2 r2;have la:(cO H 1 lab a0).1=i+2:=by rw[bT h];exact la0
      refine w Z H3 _ (R'.mut ev (s2 _ _ h) rfl la B ⟨.lst h3 (.inr la) ?_,λ _=>⟨a0,rfl,la⟩⟩);have ra:Rps C.K (λ p=>((cO H 1 lab p).1=1\/(cO H 1 lab p).1=i+2)/\p≠a0) H2 (xs++[y]) (ds++[d]):=by
       refine(r.mono s2 λ p o e z=>⟨by rw[bT e];exact z.1,z.2⟩).append (.cons (r'.wk λ p o e z=>⟨.inl z,λ q=>?_⟩) .nil);subst q;rw[la]at z;lia
      exact ra.but B (s2 _ _ h) rfl λ z=>z.2 rfl
     .rw[if_neg hz]at w
      exact zAQ w
  .exact zAQ W
def at2(ll:List (List D)):D->Option (Nat×List D)
 | .int n=>(ixN ll.length n).bind λ j=>(ll[j]?).map λ ds=>(j,ds)
 |_=>none
def qU(i:Nat)(fa fe:En->Rs D):En->Ou:=λ Y=>match Y[i]? with
 |some (.o2 ll)=>(fa Y).bo λ k=>match at2 ll k with
  |some (j,ds)=>(fe Y).bo λ d=>if ds.length<zAV then .nx (Y.set i (.o2 (ll.set j (ds++[d]))))else .st
  |none=>.st
 |_=>.st
theorem aJc(h:at2 ll k=some (j,ds)):∃n,k= .int n/\ixN ll.length n=some j/\ll[j]? =some ds:=by
 cases k with
 |int n=>
  simp only[at2,Option.bind_eq_some_iff,zCZ]at h;obtain⟨j',h1,ds',h2,h3⟩:=h;cases h3;exact⟨n,rfl,h1,h2⟩
 |_=>cases h
theorem aDv(i:Nat){p2:Pos}(ha:SE C m a fa)(he:SE C (some []) e fe)(hN:∀j,(C.X j).N[i]? =some x:=by intro _;rfl)(hv:∀j,Vis (C.X j).env.scope x:=by intro _;first|exact zCf rfl|exact zCC (zCf rfl)|exact zCC (zCC rfl))(hd:(x==("__debug__":Str))=false:=by decide)
  (hcd:(x==("__classdict__":Str))=false:=by decide)(hs1:∀j,zAX [e] (C.X j).env=[(false,eval e (C.X j).env)]:=by intro _;rfl)(hp:yQ a:=by exact λ _ _=>rfl)
  (hbase:∀j,zDP (.Subscript (.Name x p) a p2) "append" (C.X j).env (eval (.Subscript (.Name x p) a p2) (C.X j).env)=eval (.Subscript (.Name x p) a p2) (C.X j).env:=by intro _;rfl)
  (hfew:∀j,((zC2 cpos (zAX [e] (C.X j).env)).all (λ x=>!x.1)&&(zFc cpos (zDs [] (C.X j).env)).all (λ x=>x.1.isSome)&&decide ([e].length+([]:List zCs).length+(if ([]:List zCs).isEmpty then 0 else 1)<30))=true:=by intro _;rfl)
  (hline:(apos.endLine==cpos.line)=true:=by rfl)
  (hsw:∀j,zCw (.Call (.Attribute (.Subscript (.Name x p) a p2) "append" apos) [e] [] cpos) none pos.line (C.X j).env=pure false:=by intro _;rfl):
  SS C (.Expr (.Call (.Attribute (.Subscript (.Name x p) a p2) "append" apos) [e] [] cpos) pos) (qU i fa fe):=by
 obtain⟨t,h1,h2⟩:=he;obtain⟨ta,a1,a2⟩:=ha;refine⟨yd (tBM C.K "list" zH (tOp (aMv C.K) (rD i) ta) (jd t tG)),λ j=>qi (by rw[<-C.hK j];exact aAz zBr zEJ zFr zX (aIN aCO (jN (hN j) (hv j) hd hcd) (a1 j) hp) (ak (h1 j) dY (hs1 j)) (hbase j) (hfew j) hline (hs1 j) rfl) (hsw j),λ U Z H Y lab De R W=>?_⟩;unfold qU at W;cases es:Y[i]? with
 |none=>rw[es]at W;exact zAQ W
 |some s=>
  rw[es]at W;cases s with
  |o2 ll=>
   dsimp only at W;rcases R.sl i _ es with z|⟨v,ev,top,xs,rfl,ht,hlt,hlen,hin⟩
   .cases z
   .refine⟨.ref top,ev,a2 U Z H Y lab _ R (W.bo.imp λ k _ w kv H1 s1 r1=>?_)⟩
    cases hk:at2 ll k with
    |none=>rw[hk]at w;exact zAQ w
    |some q=>
     obtain⟨j,ds⟩:=q;rw[hk]at w;dsimp only at w;obtain⟨n,rfl,hj,hds⟩:=aJc hk;cases r1;have hjx:∃xj,xs[j]? =some xj:=by
      have:j<xs.length:=by rw[hlen];exact(zAI.mp hds).1
      exact⟨_,zAD this⟩
     obtain⟨xj,hxj⟩:=hjx;have hr:=hin j xj ds hxj hds;cases hr with
     |lst hl ml rl=>
      rename_i l ys;refine⟨top,xs,n,.ref l,rfl,rfl,SqL.of (s1 _ _ ht),by unfold atI;rw[hlen,hj];exact hxj,.inl ⟨rfl,ys,SqL.of (s1 _ _ hl)⟩,h2 U Z H1 Y lab _ (R.up s1) (w.bo.imp λ d _ w y H2 s2 r2=>?_)⟩;by_cases hz:ds.length<zAV
      .rw[if_pos hz]at w
       have s12:=s1.trans s2;refine⟨l,ys,y,rfl,rfl,s12 _ _ hl,by rw[rl.length];exact hz,λ H3 B h3=>?_⟩;have ltop:l≠top:=λ e=>by rw[e,hlt]at ml;cases ml
       let lab':Lab:=λ p=>match H1 p with
        |none=>(i+2,j+1)
        |some _=>lab p
       have lo:∀{p o},H1 p=some o->lab' p=lab p:=λ{p o} e=>by show(match H1 p with|none=>_|some _=>_)=_;rw[e]
       have ln:∀{p},H1 p=none->lab' p=(i+2,j+1):=λ{p} e=>by show(match H1 p with|none=>_|some _=>_)=_;rw[e]
       have R':RR C.K C.G U Y Z H2 lab':=((R.up s1).relab (λ p o e=>lo e) λ p hp=>by
        cases e:H1 p with
        |none=>exact(R.old.trans s1).free e
        |some o=>rw[lo e]at hp;exact R.new p hp).up s2
       have labl:lab' l=(i+2,j+1):=by rw[lo (s1 _ _ hl)];exact ml
       refine w Z H3 lab' (R'.mut ev (s12 _ _ hl) rfl (by rw[labl]) B ⟨top,xs,rfl,B _ _ (zDG ltop) (s12 _ _ ht),by rw[lo (s1 _ _ ht)];exact hlt,by rw[zB8];exact hlen,λ jj z dz f1 f2=>?_⟩);by_cases hjj:j=jj
       .subst hjj
        rw[hxj]at f1;cases f1;rw[zCA (zAI.mp hds).1]at f2;cases f2;refine .lst h3 labl ?_;have ra:Rps C.K (λ p=>lab' p=(i+2,j+1)/\p≠l) H2 (ys++[y]) (ds++[d]):=by
         refine(rl.mono s12 λ p o e z=>⟨by rw[lo (s1 _ _ e)];exact z.1,z.2⟩).append (.cons (r2.wk λ p o e z=>?_) .nil);rcases z with z|z
         .exact⟨ln z,λ q=>by subst q;rw[s1 _ _ hl]at z;cases z⟩
         .cases z
        exact ra.but B (s12 _ _ hl) rfl λ z=>z.2 rfl
       .rw[zBZ hjj]at f2
        refine((hin jj z dz f1 f2).mono s12 (A':=λ p=>lab' p=(i+2,jj+1)) λ p o e q=>by rw[lo (s1 _ _ e)];exact q).but B (s12 _ _ hl) rfl λ q=>?_
        rw[labl]at q;simp only[Prod.mk.injEq]at q;lia
      .rw[if_neg hz]at w
       exact zAQ w
  |_=>exact zAQ W
end
mutual
def eqD:D->D->Bool
 | .non,.non=>true
 | .bl a,.bl b=>a==b
 | .bl a,.int b=>(if a then 1 else 0)==b
 | .int a,.bl b=>a==(if b then 1 else 0)
 | .int a,.int b=>a==b
 | .str a,.str b=>a==b
 | .tup l,.tup m=>nG l m
 | .lst l,.lst m=>nG l m
 |_,_=>false
def nG:List D->List D->Bool
 |[],[]=>true
 |x::xs,y::ys=>eqD x y&&nG xs ys
 |_,_=>false
end
mutual
def qQ:D->Nat
 | .tup l=>gh l+1
 | .lst l=>gh l+1
 |_=>0
def gh:List D->Nat
 |[]=>0
 |d::r=>max (qQ d) (gh r)
end
mutual
def bJ:D->Bool
 | .tup l=>bW l
 | .lst l=>bW l
 | .dct _ _=>false
 | .set _=>false
 | .scr _=>false
 | .fn _=>false
 |_=>true
def bW:List D->Bool
 |[]=>true
 |d::r=>bJ d&&bW r
end
mutual
theorem uz:∀d:D,bJ d=true->eqD d d=true
 | .non,_=>by simp[eqD]
 | .bl b,_=>by simp[eqD]
 | .int i,_=>by simp[eqD]
 | .str x,_=>by simp[eqD]
 | .tup l,h=>by simp only[eqD];exact wF l (by simpa[bJ]using h)
 | .lst l,h=>by simp only[eqD];exact wF l (by simpa[bJ]using h)
 | .dct _ _,h=>by simp[bJ]at h
 | .set _,h=>by simp[bJ]at h
 | .scr _,h=>by simp[bJ]at h
theorem wF:∀l:List D,bW l=true->nG l l=true
 |[],_=>by simp[nG]
 |d::r,h=>by
  simp only[bW,zAN]at h;simp only[nG,zAN];exact⟨uz d h.1,wF r h.2⟩
end
structure nZ(K:zAA)(H:Hp)(s:zAH):Prop where
 tup:∀{a:Addr} {xs:List V},SqT K H a xs->∃its:List Value,Vals xs its/\s.heap.IsTuple a its.toArray
 lst:∀{a:Addr} {xs:List V},H a=some (.lst xs)->∃its:List Value,Vals xs its/\s.heap.IsList a its.toArray
 inj:∀{a:Addr} {xs ys:List V},SqT K H a xs->SqT K H a ys->xs=ys
 ne:∀{a:Addr} {xs ys:List V},SqT K H a xs->H a=some (.lst ys)->False
theorem Inv.seqOk(I:L2.Inv X pins Z H s):nZ X.K H s where
 tup:=λ h=>let⟨its,r,p,_⟩:=I.tuple h;⟨its,r,p⟩
 lst:=λ h=>let⟨its,r,p,_⟩:=I.list (SqL.of h);⟨its,r,p.isList⟩
 inj:=λ h h'=>I.tuple_inj h h'
 ne:=λ h h'=>by
  obtain⟨its,_,⟨o,e,c,_⟩,_⟩:=I.tuple h;obtain⟨its2,_,⟨o2,n2,e2,c2,_⟩,_⟩:=I.list (SqL.of h');rw[e]at e2;cases e2;rw[c]at c2;injection c2 with c3
  exact absurd c3 (by decide)
section
variable{K:zAA}{H:Hp}{s:zAH}
def ndP:D->Prop
 | .dct _ _=>False
 | .set _=>False
 | .scr _=>False
 | .fn _=>False
 |_=>True
theorem ndx{d:D}(h:bJ d=true):ndP d:=by cases d<;>first|exact zDM|(simp[bJ]at h)
theorem bV(h:bJ (.dct a b)=true):False:=by simp[bJ]at h
theorem gA(h:bJ (.set a)=true):False:=by simp[bJ]at h
theorem gB(h:bJ (.scr a)=true):False:=by simp[bJ]at h
theorem jA(h:bJ (.fn a)=true):False:=by simp[bJ]at h
theorem jy(h:bJ (.tup a)=true):bW a=true:=by simpa[bJ]using h
theorem jz(h:bJ (.lst a)=true):bW a=true:=by simpa[bJ]using h
theorem mO(h:bW (d::a)=true):bJ d=true/\bW a=true:=by
 simp only[bW,zAN]at h;exact h
def aLt(K:zAA)(s:zAH)(H:Hp)(x:V)(d:D):Prop:=nZ K H s->∀(A':Addr->Prop) (e:D),Rp K A' H x e->bJ d=true->bJ e=true->d=e
def aDl(K:zAA)(s:zAH)(H:Hp)(xs:List V)(ds:List D):Prop:=nZ K H s->∀(A':Addr->Prop) (es:List D),Rps K A' H xs es->bW ds=true->bW es=true->ds=es
theorem aLT(ha:SqT K H a xs)(ih:aDl K s H xs ds):aLt K s H (.ref a) (.tup ds):=λ ok A' e h n1 n2=>by
 cases h with
 |tup hb r'=>
  have e:=ok.inj ha hb;subst e;rw[ih ok _ _ r' (jy n1) (jy n2)]
 |lst hb _ _=>exact(ok.ne ha hb).elim
 |_=>exact zAQ (ndx n2)
theorem aLU(ha:H a=some (.lst xs))(ih:aDl K s H xs ds):aLt K s H (.ref a) (.lst ds):=λ ok A' e h n1 n2=>by
 cases h with
 |tup hb r'=>exact(ok.ne hb ha).elim
 |lst hb _ r'=>
  rw[ha]at hb;cases hb;rw[ih ok _ _ r' (jz n1) (jz n2)]
 |_=>exact zAQ (ndx n2)
theorem aJA(h1:aLt K s H x d)(h2:aDl K s H xs ds):aDl K s H (x::xs) (d::ds):=λ ok A' es h n1 n2=>by
 cases h with
 |cons k r'=>rw[h1 ok _ _ k (mO n1).1 (mO n2).1,h2 ok _ _ r' (mO n1).2 (mO n2).2]
theorem Rp.inj(ok:nZ K H s)(r:Rp K A H x d)(h:Rp K A' H x e)(n1:bJ d=true)(n2:bJ e=true):d=e:=
 Rp.rec (motive_1:=λ _ H x d _=>aLt K s H x d) (motive_2:=λ _ H xs ds _=>aDl K s H xs ds)
  (λ _ _ _ h _ _=>by cases h;rfl) (λ _ _ _ _ h _ _=>by cases h;rfl) (λ _ _ _ _ h _ _=>by cases h;rfl) (λ _ _ _ _ h _ _=>by cases h;rfl) (λ ha _ ih=>aLT ha ih) (λ ha _ _ ih=>aLU ha ih)
  (λ _ _ _ _ _ _ _ _ n1 _=>(bV n1).elim) (λ _ _ _ _ _ _ _ _ n1 _=>(bV n1).elim) (λ _ _ _ _ _ _ _ _ n1 _=>(gA n1).elim) (λ _ _ _ _ _ n1 _=>(gB n1).elim) (λ _ _ _ _ _ n1 _=>(jA n1).elim)
  (λ _ _ _ h _ _=>by cases h;rfl) (λ _ _ h1 h2=>aJA h1 h2) r ok A' e h n1 n2
end
theorem aD3:∀(l m:List D),nG l m=((zAb (min l.length m.length)).all (λ j=>match l[j]?,m[j]? with|some a,some b=>eqD a b|_,_=>true)&&l.length==m.length)
 |[],[]=>by simp[nG]
 |[],y::ys=>by simp[nG]
 |x::xs,[]=>by simp[nG]
 |x::xs,y::ys=>by
  have ih:=aD3 xs ys;simp only[nG,ih,zA9,Nat.succ_min_succ,List.range_succ_eq_map,zEy,zIq,zCP,zGp,zBu,Nat.succ_eq_add_one,Nat.add_one_inj,zGG];congr 1;congr 1;simp
theorem aB0:∀{l:List D} {d:D},d∈l->qQ d<=gh l
 |x::r,d,h=>by
  simp only[gh];rcases zAL.mp h with rfl|h
  .exact zIZ _ _
  .exact zAm (aB0 h) (zIP _ _)
theorem uA:∀{l:List D} {d:D},d∈l->bW l=true->bJ d=true
 |x::r,d,h,n=>by
  simp only[bW,zAN]at n;rcases zAL.mp h with rfl|h
  .exact n.1
  .exact uA h n.2
theorem lX(hn:n=ds.length)(hm:m=es.length):((zAb (min n m)).all (λ j=>match ds[j]?,es[j]? with|some a,some b=>eqD a b|_,_=>true)&&n==m)=nG ds es:=by
 subst hn hm;exact(aD3 ds es).symm
section
variable{K:zAA}{H:Hp}{s:zAH}
def aJo(K:zAA)(H:Hp)(s:zAH)(n:Nat):Prop:=∀(A1 A2:Addr->Prop) (x y:V) (d e:D) (A:zAj) (u v:Value),Rp K A1 H x d->Rp K A2 H y e->RelV x u->RelV y v->qQ d<=n->bJ d=true->bJ e=true->A.units+n<cLine->zDr A s u v (eqD d e)
def aJp(K:zAA)(H:Hp)(s:zAH)(n:Nat):Prop:=∀(A1 A2:Addr->Prop) (xs ys:List V) (ds es:List D) (A:zAj) (us vs:List Value),Rps K A1 H xs ds->Rps K A2 H ys es->Vals xs us->Vals ys vs->gh ds<=n->bW ds=true->bW es=true->A.units+n<cLine->
  ∀(j:Nat) (h1:j<us.toArray.size) (h2:j<vs.toArray.size),zDr A s us.toArray[j] vs.toArray[j] (match ds[j]?,es[j]? with|some a,some b=>eqD a b|_,_=>true)
theorem aAR(ok:nZ K H s)(n:Nat)(IH:∀k,n=k+1->aJp K H s k):aJo K H s n:=by
 intro A1 A2 x y d e A u v r1 r2 ru rv hd nd ne hu;have hu0:A.units<cLine:=by lia
 cases r1 with
 |tup h1 q1=>
  rename_i a xs ds;cases ru;obtain⟨its,w1,t1⟩:=ok.tup h1;cases r2 with
  |tup h2 q2=>
   rename_i b ys es;cases rv;obtain⟨its2,w2,t2⟩:=ok.tup h2;by_cases hab:a=b
   .subst hab
    have e:=Rp.inj ok (Rp.tup h1 q1) (Rp.tup h2 q2) nd ne;rw[<-e,uz _ nd];exact zFB _
   .simp only[qQ]at hd
    obtain⟨k,rfl⟩:∃k,n=k+1:=⟨n-1,by lia⟩
    have z:=zG7 t1 t2 hu0 (IH k rfl _ _ _ _ _ _ _ _ _ q1 q2 w1 w2 (by lia) (jy nd) (jy ne) (by show A.units+1+k<cLine;lia));rw[lX (by rw[zAR,<-w1.length,q1.length]) (by rw[zAR,<-w2.length,q2.length])]at z;simp only[eqD];exact zE6 hab z
  |lst h2 mm2 q2=>
   cases rv;obtain⟨its2,w2,t2⟩:=ok.lst h2;simp only[eqD];exact SeqAt.EqAt.tuple_list t1 t2 hu0
  |non=>cases rv;simp only[eqD];exact SeqAt.EqAt.tuple_none t1 hu0
  |bl b=>cases rv;simp only[eqD];exact SeqAt.EqAt.tuple_bool b t1 hu0
  |int i=>obtain⟨tk,rfl⟩:=rv;simp only[eqD];exact SeqAt.EqAt.tuple_int i tk t1 hu0
  |str i=>obtain⟨tk,rfl⟩:=rv;simp only[eqD];exact SeqAt.EqAt.tuple_str i tk t1 hu0
  |_=>exact zAQ (ndx ne)
 |lst h1 mm1 q1=>
  rename_i a xs ds;cases ru;obtain⟨its,w1,t1⟩:=ok.lst h1;cases r2 with
  |lst h2 mm2 q2=>
   rename_i b ys es;cases rv;obtain⟨its2,w2,t2⟩:=ok.lst h2;by_cases hab:a=b
   .subst hab
    have e:=Rp.inj ok (Rp.lst h1 mm1 q1) (Rp.lst h2 mm2 q2) nd ne;rw[<-e,uz _ nd];exact zFB _
   .simp only[qQ]at hd
    obtain⟨k,rfl⟩:∃k,n=k+1:=⟨n-1,by lia⟩
    have l1:its.toArray.size=ds.length:=by rw[zAR,<-w1.length,q1.length]
    have l2:its2.toArray.size=es.length:=by rw[zAR,<-w2.length,q2.length]
    by_cases hl:its.toArray.size=its2.toArray.size
    .have z:=zGd t1 t2 hl hu0 (IH k rfl _ _ _ _ _ _ _ _ _ q1 q2 w1 w2 (by lia) (jz nd) (jz ne) (by show A.units+1+k<cLine;lia))
     have z':=lX (ds:=ds) (es:=es) l1 l2;rw[<-hl,zE9,beq_self_eq_true,zEF]at z';rw[z']at z;simp only[eqD];exact zE6 hab z
    .have z:=zFW t1 t2 (by simpa using hl) hu0
     have z':=lX (ds:=ds) (es:=es) l1 l2;rw[beq_eq_false_iff_ne.mpr hl,zEf]at z';simp only[eqD];rw[<-z'];exact zE6 hab z
  |tup h2 q2=>
   cases rv;obtain⟨its2,w2,t2⟩:=ok.tup h2;simp only[eqD];exact SeqAt.EqAt.list_tuple t1 t2 hu0
  |non=>cases rv;simp only[eqD];exact SeqAt.EqAt.list_none t1 hu0
  |bl b=>cases rv;simp only[eqD];exact SeqAt.EqAt.list_bool b t1 hu0
  |int i=>obtain⟨tk,rfl⟩:=rv;simp only[eqD];exact SeqAt.EqAt.list_int i tk t1 hu0
  |str i=>obtain⟨tk,rfl⟩:=rv;simp only[eqD];exact SeqAt.EqAt.list_str i tk t1 hu0
  |_=>exact zAQ (ndx ne)
 |non=>
  cases ru;cases r2 with
  |tup h2 q2=>cases rv;obtain⟨_,_,t2⟩:=ok.tup h2;simp only[eqD];exact SeqAt.EqAt.none_tuple t2 hu0
  |lst h2 mm2 q2=>cases rv;obtain⟨_,_,t2⟩:=ok.lst h2;simp only[eqD];exact SeqAt.EqAt.none_list t2 hu0
  |dK _ _ _=>exact(bV ne).elim
  |dT _ _ _=>exact(bV ne).elim
  |set _ _ _ _=>exact(gA ne).elim
  |scr _=>exact(gB ne).elim
  |fn _=>exact(jA ne).elim
  |non=>cases rv;simp only[eqD];exact zFB _
  |bl b=>cases rv;simp only[eqD];exact SeqAt.EqAt.none_bool b
  |int i=>obtain⟨tk,rfl⟩:=rv;simp only[eqD];exact SeqAt.EqAt.none_int i tk
  |str i=>obtain⟨tk,rfl⟩:=rv;simp only[eqD];exact SeqAt.EqAt.none_str i tk
 |bl a=>
  cases ru;cases r2 with
  |tup h2 q2=>cases rv;obtain⟨_,_,t2⟩:=ok.tup h2;simp only[eqD];exact SeqAt.EqAt.bool_tuple a t2 hu0
  |lst h2 mm2 q2=>cases rv;obtain⟨_,_,t2⟩:=ok.lst h2;simp only[eqD];exact SeqAt.EqAt.bool_list a t2 hu0
  |dK _ _ _=>exact(bV ne).elim
  |dT _ _ _=>exact(bV ne).elim
  |set _ _ _ _=>exact(gA ne).elim
  |scr _=>exact(gB ne).elim
  |fn _=>exact(jA ne).elim
  |non=>cases rv;simp only[eqD];exact SeqAt.EqAt.bool_none a
  |bl b=>cases rv;simp only[eqD];exact zFz a b
  |int i=>obtain⟨tk,rfl⟩:=rv;simp only[eqD];exact SeqAt.EqAt.bool_int a i tk
  |str i=>obtain⟨tk,rfl⟩:=rv;simp only[eqD];exact SeqAt.EqAt.bool_str a i tk
 |int a=>
  obtain⟨tu,rfl⟩:=ru;cases r2 with
  |tup h2 q2=>cases rv;obtain⟨_,_,t2⟩:=ok.tup h2;simp only[eqD];exact SeqAt.EqAt.int_tuple a tu t2 hu0
  |lst h2 mm2 q2=>cases rv;obtain⟨_,_,t2⟩:=ok.lst h2;simp only[eqD];exact SeqAt.EqAt.int_list a tu t2 hu0
  |dK _ _ _=>exact(bV ne).elim
  |dT _ _ _=>exact(bV ne).elim
  |set _ _ _ _=>exact(gA ne).elim
  |scr _=>exact(gB ne).elim
  |fn _=>exact(jA ne).elim
  |non=>cases rv;simp only[eqD];exact SeqAt.EqAt.int_none a tu
  |bl b=>cases rv;simp only[eqD];exact SeqAt.EqAt.int_bool a tu b
  |int i=>obtain⟨tk,rfl⟩:=rv;simp only[eqD];exact zGT a tu i tk
  |str i=>obtain⟨tk,rfl⟩:=rv;simp only[eqD];exact zGU a tu i tk
 |str a=>
  obtain⟨tu,rfl⟩:=ru;cases r2 with
  |tup h2 q2=>cases rv;obtain⟨_,_,t2⟩:=ok.tup h2;simp only[eqD];exact SeqAt.EqAt.str_tuple a tu t2 hu0
  |lst h2 mm2 q2=>cases rv;obtain⟨_,_,t2⟩:=ok.lst h2;simp only[eqD];exact SeqAt.EqAt.str_list a tu t2 hu0
  |dK _ _ _=>exact(bV ne).elim
  |dT _ _ _=>exact(bV ne).elim
  |set _ _ _ _=>exact(gA ne).elim
  |scr _=>exact(gB ne).elim
  |fn _=>exact(jA ne).elim
  |non=>cases rv;simp only[eqD];exact SeqAt.EqAt.str_none a tu
  |bl b=>cases rv;simp only[eqD];exact SeqAt.EqAt.str_bool a tu b
  |int i=>obtain⟨tk,rfl⟩:=rv;simp only[eqD];exact zGV a tu i tk
  |str i=>obtain⟨tk,rfl⟩:=rv;simp only[eqD];exact SeqAt.EqAt.str_str a tu i tk
 |_=>exact zAQ (ndx nd)
theorem aBT(ok:nZ K H s)(n:Nat)(IH:aJo K H s n):aJp K H s n:=by
 intro A1 A2 xs ys ds es A us vs q1 q2 w1 w2 hd nd ne hu j h1 h2;have hj1:j<us.length:=by simpa using h1
 have hj2:j<vs.length:=by simpa using h2
 have hx:j<xs.length:=by rw[w1.length];exact hj1
 have hy:j<ys.length:=by rw[w2.length];exact hj2
 have ex:=zAD hx;have ey:=zAD hy;obtain⟨d,ed,rd⟩:=q1.get ex;obtain⟨e,ee,re⟩:=q2.get ey;obtain⟨u,eu,ru⟩:=w1.get ex;obtain⟨v,ev,rv⟩:=w2.get ey;have e1:us.toArray[j]=u:=by
  rw[zGz];exact zAp ((zAD hj1).symm.trans eu)
 have e2:vs.toArray[j]=v:=by
  rw[zGz];exact zAp ((zAD hj2).symm.trans ev)
 rw[e1,e2,ed,ee];exact IH _ _ _ _ _ _ _ _ _ rd re ru rv (zAm (aB0 (zAw ed)) hd) (uA (zAw ed) nd) (uA (zAw ee) ne) hu
theorem aJZ(ok:nZ K H s):∀n,aJo K H s n
 |0=>aAR ok 0 λ k h=>absurd h (by simp)
 |n+1=>aAR ok (n+1) λ k h=>by
  have h':=zGK h;subst h';exact aBT ok n (aJZ ok n)
theorem aOH(ok:nZ K H s):∀{A1 A2:Addr->Prop} {x y:V} {d e:D} (n:Nat) {A:zAj} {u v:Value},Rp K A1 H x d->Rp K A2 H y e->RelV x u->RelV y v->qQ d<=n->bJ d=true->bJ e=true->A.units+n<cLine->zDr A s u v (eqD d e)
 |_,_,_,_,_,_,n,A,u,v,r1,r2,ru,rv,hd,nd,ne,hu=>aJZ ok n _ _ _ _ _ _ _ _ _ r1 r2 ru rv hd nd ne hu
theorem aMQ(ok:nZ K H s):∀{A1 A2:Addr->Prop} {xs ys:List V} {ds es:List D} (n:Nat) {A:zAj} {us vs:List Value},Rps K A1 H xs ds->Rps K A2 H ys es->Vals xs us->Vals ys vs->gh ds<=n->bW ds=true->bW es=true->A.units+n<cLine->
  ∀(j:Nat) (h1:j<us.toArray.size) (h2:j<vs.toArray.size),zDr A s us.toArray[j] vs.toArray[j] (match ds[j]?,es[j]? with|some a,some b=>eqD a b|_,_=>true)
 |_,_,xs,ys,ds,es,n,A,us,vs,q1,q2,w1,w2,hd,nd,ne,hu,j,h1,h2=>aBT ok n (aJZ ok n) _ _ _ _ _ _ _ _ _ q1 q2 w1 w2 hd nd ne hu j h1 h2
theorem aHq(ok:nZ K H s)(n:Nat)(r1:Rp K A1 H x d)(r2:Rp K A2 H y e)(ru:RelV x u)(rv:RelV y v)(hd:qQ d<=n)(nd:bJ d=true)(ne:bJ e=true)(hu:A.units+n<cLine):
  SeqAt.RcAt A s u v (eqD d e)/\SeqAt.RcNeAt A s u v (!eqD d e):=by
 have hu0:A.units<cLine:=by lia
 cases r1 with
 |tup h1 q1=>
  rename_i a xs ds;cases ru;obtain⟨its,w1,t1⟩:=ok.tup h1;cases r2 with
  |tup h2 q2=>
   rename_i b ys es;cases rv;obtain⟨its2,w2,t2⟩:=ok.tup h2;simp only[qQ]at hd;obtain⟨k,rfl⟩:∃k,n=k+1:=⟨n-1,by lia⟩
   have he:=aMQ ok (A:=A.in1) k q1 q2 w1 w2 (by lia) (jy nd) (jy ne) (by show A.units+1+k<cLine;lia);have z:=zG7 t1 t2 hu0 he;have z2:=SeqAt.RcNeAt.tuples t1 t2 hu0 he;rw[lX (by rw[zAR,<-w1.length,q1.length]) (by rw[zAR,<-w2.length,q2.length])]at z z2;simp only[eqD];exact⟨z,z2⟩
  |lst h2 mm2 q2=>
   cases rv;obtain⟨its2,w2,t2⟩:=ok.lst h2;simp only[eqD];exact⟨SeqAt.RcAt.tuple_list t1 t2 hu0,SeqAt.RcNeAt.tuple_list t1 t2 hu0⟩
  |non=>cases rv;simp only[eqD];exact⟨SeqAt.RcAt.tuple_none t1 hu0,SeqAt.RcNeAt.tuple_none t1 hu0⟩
  |bl b=>cases rv;simp only[eqD];exact⟨SeqAt.RcAt.tuple_bool b t1 hu0,SeqAt.RcNeAt.tuple_bool b t1 hu0⟩
  |int i=>obtain⟨tk,rfl⟩:=rv;simp only[eqD];exact⟨SeqAt.RcAt.tuple_int i tk t1 hu0,SeqAt.RcNeAt.tuple_int i tk t1 hu0⟩
  |str i=>obtain⟨tk,rfl⟩:=rv;simp only[eqD];exact⟨SeqAt.RcAt.tuple_str i tk t1 hu0,SeqAt.RcNeAt.tuple_str i tk t1 hu0⟩
  |_=>exact zAQ (ndx ne)
 |lst h1 mm1 q1=>
  rename_i a xs ds;cases ru;obtain⟨its,w1,t1⟩:=ok.lst h1;cases r2 with
  |lst h2 mm2 q2=>
   rename_i b ys es;cases rv;obtain⟨its2,w2,t2⟩:=ok.lst h2;simp only[qQ]at hd;obtain⟨k,rfl⟩:∃k,n=k+1:=⟨n-1,by lia⟩
   have l1:its.toArray.size=ds.length:=by rw[zAR,<-w1.length,q1.length]
   have l2:its2.toArray.size=es.length:=by rw[zAR,<-w2.length,q2.length]
   have z':=lX (ds:=ds) (es:=es) l1 l2;by_cases hl:its.toArray.size=its2.toArray.size
   .have he:=aMQ ok (A:=A.in1) k q1 q2 w1 w2 (by lia) (jz nd) (jz ne) (by show A.units+1+k<cLine;lia)
    have z:=zGd t1 t2 hl hu0 he;have z2:=SeqAt.RcNeAt.lists t1 t2 hl hu0 he;rw[<-hl,zE9,beq_self_eq_true,zEF]at z';rw[z']at z z2;simp only[eqD];exact⟨z,z2⟩
   .rw[beq_eq_false_iff_ne.mpr hl,zEf]at z'
    simp only[eqD];rw[<-z'];exact⟨zFW t1 t2 (by simpa using hl) hu0,SeqAt.RcNeAt.lists_lengths t1 t2 (by simpa using hl) hu0⟩
  |tup h2 q2=>
   cases rv;obtain⟨its2,w2,t2⟩:=ok.tup h2;simp only[eqD];exact⟨SeqAt.RcAt.list_tuple t1 t2 hu0,SeqAt.RcNeAt.list_tuple t1 t2 hu0⟩
  |non=>cases rv;simp only[eqD];exact⟨SeqAt.RcAt.list_none t1 hu0,SeqAt.RcNeAt.list_none t1 hu0⟩
  |bl b=>cases rv;simp only[eqD];exact⟨SeqAt.RcAt.list_bool b t1 hu0,SeqAt.RcNeAt.list_bool b t1 hu0⟩
  |int i=>obtain⟨tk,rfl⟩:=rv;simp only[eqD];exact⟨SeqAt.RcAt.list_int i tk t1 hu0,SeqAt.RcNeAt.list_int i tk t1 hu0⟩
  |str i=>obtain⟨tk,rfl⟩:=rv;simp only[eqD];exact⟨SeqAt.RcAt.list_str i tk t1 hu0,SeqAt.RcNeAt.list_str i tk t1 hu0⟩
  |_=>exact zAQ (ndx ne)
 |non=>
  cases ru;cases r2 with
  |tup h2 q2=>cases rv;obtain⟨_,_,t2⟩:=ok.tup h2;simp only[eqD];exact⟨SeqAt.RcAt.none_tuple t2 hu0,SeqAt.RcNeAt.none_tuple t2 hu0⟩
  |lst h2 mm2 q2=>cases rv;obtain⟨_,_,t2⟩:=ok.lst h2;simp only[eqD];exact⟨SeqAt.RcAt.none_list t2 hu0,SeqAt.RcNeAt.none_list t2 hu0⟩
  |dK _ _ _=>exact(bV ne).elim
  |dT _ _ _=>exact(bV ne).elim
  |set _ _ _ _=>exact(gA ne).elim
  |scr _=>exact(gB ne).elim
  |fn _=>exact(jA ne).elim
  |non=>cases rv;simp only[eqD];exact⟨SeqAt.RcAt.none_none,SeqAt.RcNeAt.none_none⟩
  |bl b=>cases rv;simp only[eqD];exact⟨SeqAt.RcAt.none_bool b,SeqAt.RcNeAt.none_bool b⟩
  |int i=>obtain⟨tk,rfl⟩:=rv;simp only[eqD];exact⟨SeqAt.RcAt.none_int i tk,SeqAt.RcNeAt.none_int i tk⟩
  |str i=>obtain⟨tk,rfl⟩:=rv;simp only[eqD];exact⟨SeqAt.RcAt.none_str i tk,SeqAt.RcNeAt.none_str i tk⟩
 |bl a=>
  cases ru;cases r2 with
  |tup h2 q2=>cases rv;obtain⟨_,_,t2⟩:=ok.tup h2;simp only[eqD];exact⟨SeqAt.RcAt.bool_tuple a t2 hu0,SeqAt.RcNeAt.bool_tuple a t2 hu0⟩
  |lst h2 mm2 q2=>cases rv;obtain⟨_,_,t2⟩:=ok.lst h2;simp only[eqD];exact⟨SeqAt.RcAt.bool_list a t2 hu0,SeqAt.RcNeAt.bool_list a t2 hu0⟩
  |dK _ _ _=>exact(bV ne).elim
  |dT _ _ _=>exact(bV ne).elim
  |set _ _ _ _=>exact(gA ne).elim
  |scr _=>exact(gB ne).elim
  |fn _=>exact(jA ne).elim
  |non=>cases rv;simp only[eqD];exact⟨SeqAt.RcAt.bool_none a,SeqAt.RcNeAt.bool_none a⟩
  |bl b=>cases rv;simp only[eqD];exact⟨SeqAt.RcAt.bool_bool a b,SeqAt.RcNeAt.bool_bool a b⟩
  |int i=>obtain⟨tk,rfl⟩:=rv;simp only[eqD];exact⟨SeqAt.RcAt.bool_int a i tk,SeqAt.RcNeAt.bool_int a i tk⟩
  |str i=>obtain⟨tk,rfl⟩:=rv;simp only[eqD];exact⟨SeqAt.RcAt.bool_str a i tk,SeqAt.RcNeAt.bool_str a i tk⟩
 |int a=>
  obtain⟨tu,rfl⟩:=ru;cases r2 with
  |tup h2 q2=>cases rv;obtain⟨_,_,t2⟩:=ok.tup h2;simp only[eqD];exact⟨SeqAt.RcAt.int_tuple a tu t2 hu0,SeqAt.RcNeAt.int_tuple a tu t2 hu0⟩
  |lst h2 mm2 q2=>cases rv;obtain⟨_,_,t2⟩:=ok.lst h2;simp only[eqD];exact⟨SeqAt.RcAt.int_list a tu t2 hu0,SeqAt.RcNeAt.int_list a tu t2 hu0⟩
  |dK _ _ _=>exact(bV ne).elim
  |dT _ _ _=>exact(bV ne).elim
  |set _ _ _ _=>exact(gA ne).elim
  |scr _=>exact(gB ne).elim
  |fn _=>exact(jA ne).elim
  |non=>cases rv;simp only[eqD];exact⟨SeqAt.RcAt.int_none a tu,SeqAt.RcNeAt.int_none a tu⟩
  |bl b=>cases rv;simp only[eqD];exact⟨SeqAt.RcAt.int_bool a tu b,SeqAt.RcNeAt.int_bool a tu b⟩
  |int i=>obtain⟨tk,rfl⟩:=rv;simp only[eqD];exact⟨SeqAt.RcAt.int_int a tu i tk,SeqAt.RcNeAt.int_int a tu i tk⟩
  |str i=>obtain⟨tk,rfl⟩:=rv;simp only[eqD];exact⟨SeqAt.RcAt.int_str a tu i tk,SeqAt.RcNeAt.int_str a tu i tk⟩
 |str a=>
  obtain⟨tu,rfl⟩:=ru;cases r2 with
  |tup h2 q2=>cases rv;obtain⟨_,_,t2⟩:=ok.tup h2;simp only[eqD];exact⟨SeqAt.RcAt.str_tuple a tu t2 hu0,SeqAt.RcNeAt.str_tuple a tu t2 hu0⟩
  |lst h2 mm2 q2=>cases rv;obtain⟨_,_,t2⟩:=ok.lst h2;simp only[eqD];exact⟨SeqAt.RcAt.str_list a tu t2 hu0,SeqAt.RcNeAt.str_list a tu t2 hu0⟩
  |dK _ _ _=>exact(bV ne).elim
  |dT _ _ _=>exact(bV ne).elim
  |set _ _ _ _=>exact(gA ne).elim
  |scr _=>exact(gB ne).elim
  |fn _=>exact(jA ne).elim
  |non=>cases rv;simp only[eqD];exact⟨SeqAt.RcAt.str_none a tu,SeqAt.RcNeAt.str_none a tu⟩
  |bl b=>cases rv;simp only[eqD];exact⟨SeqAt.RcAt.str_bool a tu b,SeqAt.RcNeAt.str_bool a tu b⟩
  |int i=>obtain⟨tk,rfl⟩:=rv;simp only[eqD];exact⟨SeqAt.RcAt.str_int a tu i tk,SeqAt.RcNeAt.str_int a tu i tk⟩
  |str i=>obtain⟨tk,rfl⟩:=rv;simp only[eqD];exact⟨SeqAt.RcAt.str_str a tu i tk,SeqAt.RcNeAt.str_str a tu i tk⟩
 |_=>exact zAQ (ndx nd)
end
section
variable{K:zAA}{H:Hp}{s:zAH}
open Classical in
def rO(K:zAA)(H:Hp)(d:D)(u:Value):Bool:=if h:∃e,bJ e=true/\∃y,RelV y u/\Rp K (λ _=>True) H y e then eqD (choose h) d else false
theorem aFv(ok:nZ K H s)(r:RelV y u)(h:Rp K A H y e)(ne:bJ e=true):rO K H d u=eqD e d:=by
 have hx:∃e,bJ e=true/\∃y,RelV y u/\Rp K (λ _=>True) H y e:=⟨e,ne,y,r,h.wk λ _ _ _ _=>trivial⟩
 unfold rO;rw[dif_pos hx];obtain⟨n',y',r',h'⟩:=Classical.choose_spec hx;have e1:=RelV.inj r r';subst e1;rw[Rp.inj ok h' h n' ne]
def inD(d:D)(es:List D):Bool:=es.any λ e=>eqD e d
theorem vO(ok:nZ K H s):∀{A:Addr->Prop} {xs:List V} {es:List D} {us:List Value},Rps K A H xs es->Vals xs us->bW es=true->us.any (rO K H d)=inD d es:=by
 intro A xs es us h v n;induction v generalizing es with
 |nil=>cases h;rfl
 |cons k t ih=>
  cases h with
  |cons h r=>
   simp only[bW,zAN]at n;unfold inD;rw[zCb,zCb,aFv ok k h n.1,ih r n.2];rfl
theorem yL(ok:nZ K H s)(rx:Rp K A0 H x d)(rv:RelV x v)(hu:A.units+n<cLine)(nd:bJ d=true):∀{A1:Addr->Prop} {xs:List V} {es:List D} {us:List Value},Rps K A1 H xs es->Vals xs us->gh es<=n->bW es=true->∀u∈us,zDr A s u v (rO K H d u):=by
 intro A1 xs es us h v' hd ne u hm;induction v' generalizing es with
 |nil=>cases hm
 |cons k t ih=>
  cases h with
  |cons h r=>
   simp only[gh]at hd;simp only[bW,zAN]at ne;rcases zAL.mp hm with z|z
   .subst z
    rw[aFv ok k h ne.1];exact aOH ok n h rx k rv (zAm (zIZ _ _) hd) ne.1 nd hu
   .exact ih r (zAm (zIP _ _) hd) ne.2 z
end
section
variable{X:Cx}
def aHv(K:zAA)(neg:Bool):R2:=λ x y H Q=>∃A B d e,Rp K A H x d/\Rp K B H y e/\qQ d<=60/\bJ d=true/\bJ e=true/\Q (.bl (if neg then !eqD d e else eqD d e)) H
theorem aNa(hu:X.A.units+64<cLine):OpR X (zAs .Eq) (aHv X.K false):=by
 intro pins s Z H x y v u Q I rx ry h;obtain⟨A,B,d,e,r1,r2,hd,nd,ne,q⟩:=h;exact(aHq (Inv.seqOk I) 60 r1 r2 rx ry hd nd ne (by lia)).1 X.prog X.w X.xe _ ⟨.bl (eqD d e),H,I,rfl,q⟩
theorem aN0(hu:X.A.units+64<cLine):OpR X (zAs .NotEq) (aHv X.K true):=by
 intro pins s Z H x y v u Q I rx ry h;obtain⟨A,B,d,e,r1,r2,hd,nd,ne,q⟩:=h;exact(aHq (Inv.seqOk I) 60 r1 r2 rx ry hd nd ne (by lia)).2 X.prog X.w X.xe _ ⟨.bl (!eqD d e),H,I,rfl,q⟩
def aHu(K:zAA)(neg:Bool):R2:=λ x y H Q=>∃A B d a es,Rp K A H x d/\y= .ref a/\(Rp K B H (.ref a) (.lst es)\/Rp K B H (.ref a) (.tup es))/\gh es<=60/\bJ d=true/\bW es=true/\Q (.bl (if neg then !inD d es else inD d es)) H
theorem aN9(hu:X.A.units+64<cLine):OpR X (zAs .In) (aHu X.K false):=by
 intro pins s Z H x y v u Q I rx ry h;obtain⟨A,B,d,a,es,rd,rfl,ra,hd,nd,ne,q⟩:=h;cases ry;have ok:=Inv.seqOk I;have hu1:X.A.in1.units+60<cLine:=by show X.A.units+1+60<cLine;lia
 rcases ra with ra|ra
 .cases ra with
  |lst ha _ r=>
   obtain⟨its,rv,tl⟩:=ok.lst ha;refine SeqAt.in_listAt (rO X.K H d) tl (λ w hw=>yL ok rd rx hu1 nd r rv hd ne w (by simpa using hw)) ⟨.bl _,H,I,rfl,?_⟩;rw[show its.toArray.any (rO X.K H d)=its.any (rO X.K H d)by simp,vO ok r rv ne];exact q
 .cases ra with
  |tup ha r=>
   obtain⟨its,rv,tl⟩:=ok.tup ha;refine SeqAt.in_tupleAt (rO X.K H d) tl (λ w hw=>yL ok rd rx hu1 nd r rv hd ne w (by simpa using hw)) ⟨.bl _,H,I,rfl,?_⟩;rw[show its.toArray.any (rO X.K H d)=its.any (rO X.K H d)by simp,vO ok r rv ne];exact q
theorem aGY(hu:X.A.units+64<cLine):OpR X (zAs .NotIn) (aHu X.K true):=by
 intro pins s Z H x y v u Q I rx ry h;obtain⟨A,B,d,a,es,rd,rfl,ra,hd,nd,ne,q⟩:=h;cases ry;have ok:=Inv.seqOk I;have hu1:X.A.in1.units+60<cLine:=by show X.A.units+1+60<cLine;lia
 rcases ra with ra|ra
 .cases ra with
  |lst ha _ r=>
   obtain⟨its,rv,tl⟩:=ok.lst ha;refine SeqAt.notIn_listAt (rO X.K H d) tl (λ w hw=>yL ok rd rx hu1 nd r rv hd ne w (by simpa using hw)) ⟨.bl _,H,I,rfl,?_⟩;rw[show its.toArray.any (rO X.K H d)=its.any (rO X.K H d)by simp,vO ok r rv ne];exact q
 .cases ra with
  |tup ha r=>
   obtain⟨its,rv,tl⟩:=ok.tup ha;refine SeqAt.notIn_tupleAt (rO X.K H d) tl (λ w hw=>yL ok rd rx hu1 nd r rv hd ne w (by simpa using hw)) ⟨.bl _,H,I,rfl,?_⟩;rw[show its.toArray.any (rO X.K H d)=its.any (rO X.K H d)by simp,vO ok r rv ne];exact q
end
section
variable{K:zAA}
def eqR(neg:Bool):D->D->Rs D:=λ d e=>if decide (qQ d<=60)&&bJ d&&bJ e then .ok (.bl (if neg then !eqD d e else eqD d e))else .st
def inR(neg:Bool):D->D->Rs D:=λ d e=>match e with
 | .lst es=>if decide (gh es<=60)&&bJ d&&bW es then .ok (.bl (if neg then !inD d es else inD d es))else .st
 | .tup es=>if decide (gh es<=60)&&bJ d&&bW es then .ok (.bl (if neg then !inD d es else inD d es))else .st
 |_=>.st
theorem os_eq:OpS K (aHv K n) (eqR n):=by
 intro A x y d e H Q z rx ry ez q;unfold eqR at ez;split at ez
 .rename_i h
  simp only[zAN,decide_eq_true_eq]at h;cases ez;exact⟨A,A,d,e,rx,ry,h.1.1,h.1.2,h.2,q _ H (aW.refl H) (.bl _)⟩
 .cases ez
theorem aIY:OpS K (aHu K n) (inR n):=by
 intro A x y d e H Q z rx ry ez q;unfold inR at ez;split at ez
 .split at ez
  .rename_i h
   simp only[zAN,decide_eq_true_eq]at h;cases ez;cases ry with
   |lst ha mm r=>exact⟨A,A,d,_,_,rx,rfl,.inl (.lst ha mm r),h.1.1,h.1.2,h.2,q _ H (aW.refl H) (.bl _)⟩
  .cases ez
 .split at ez
  .rename_i h
   simp only[zAN,decide_eq_true_eq]at h;cases ez;cases ry with
   |tup ha r=>exact⟨A,A,d,_,_,rx,rfl,.inr (.tup ha r),h.1.1,h.1.2,h.2,q _ H (aW.refl H) (.bl _)⟩
  .cases ez
 .cases ez
theorem aJG:∀x y z,eqR n x y= .ok z->imm z=true:=by
 intro x y z e;unfold eqR at e;split at e
 .cases e;rfl
 .cases e
theorem aOA:∀x y z,inR n x y= .ok z->imm z=true:=by
 intro x y z e;unfold inR at e;split at e
 .split at e
  .cases e;rfl
  .cases e
 .split at e
  .cases e;rfl
  .cases e
 .cases e
end
section
variable{K:zAA}
def boolsOf:List D->Option (List Bool)
 |[]=>some []
 | .bl i::r=>(boolsOf r).map (i::·)
 |_=>none
theorem vL:∀{l:List D} {ns:List Bool},boolsOf l=some ns->l=ns.map .bl
 |[],ns,h=>by cases h;rfl
 | .bl i::r,ns,h=>by
  simp only[boolsOf,zCZ]at h;obtain⟨ms,h1,rfl⟩:=h;rw[vL h1];rfl
 | .non::_,_,h=>by cases h
 | .int _::_,_,h=>by cases h
 | .str _::_,_,h=>by cases h
 | .tup _::_,_,h=>by cases h
 | .lst _::_,_,h=>by cases h
 | .dct _ _::_,_,h=>by cases h
 | .set _::_,_,h=>by cases h
 | .scr _::_,_,h=>by cases h
theorem xK:∀ns:List Bool,boolsOf (ns.map .bl)=some ns
 |[]=>rfl
 |n::ns=>by simp only[zAG,boolsOf,xK ns,zC5]
theorem aB2{X:Cx}:∀{bs:List Bool} {us:List Value},Vals (bs.map V.bl) us->LSm.BoolsAre us bs
 |[],_,.nil=>.nil
 |b::bs,_,.cons r t=>by
  have e:_=zC0 b:=r;subst e;exact .cons b (aB2 (X:=X) t)
theorem Rps.bools_of:∀{xs:List V} {bs:List Bool},Rps K A H xs (bs.map D.bl)->xs=bs.map V.bl
 |_,[],.nil=>rfl
 |_,n::ns,.cons h r=>by
  cases h;rw[zAG,Rps.bools_of r]
def qW(f:List Bool->Bool):List D->Rs D
 |[.lst l]=>match boolsOf l with
  |some bs=>.ok (.bl (f bs))
  |none=>.st
 |_=>.st
theorem aJb{X:Cx}(hc:X.calm=true):dj X (.builtin "all") (λ xs H Q=>∃(p:Addr) (bs:List Bool),xs=[.ref p]/\H p=some (.lst (bs.map V.bl))/\Q (.bl (bs.all id)) H):=by
 intro pins s Z H xs us Q I r h;obtain⟨p,bs,rfl,hp,q⟩:=h;obtain⟨u,rfl,ru⟩:=vals1 r;cases ru;obtain⟨its,rv,pl,hz⟩:=I.list (SqL.of hp);have hb:=aB2 (X:=X) rv;have hl:=pl.isList;have hlt:p<s.heap.objs.size:=by obtain⟨_,e,_⟩:=hl;exact zAO e
 refine call_all_walk (zE2 hl ?_);refine⟨s.heap.objs.size,[s.heap.objs.size,p],[s.heap.objs.size],its.toArray.size,_,_,λ i=>(bs[i]?).getD true,rfl,zH5 (A:=X.A.in1) (I.ok.hd hc) _ p (zAU hlt) its.toArray,
  ⟨⟨_,zAJ _ rfl,rfl,rfl⟩,hl.push _⟩,λ i v s' Q' E' hP hQ=>?_,λ h' tk hk=>?_⟩
 .obtain⟨b,e,rfl⟩:=hb.get i v (by simpa using hP)
  simp only[e,Option.getD_some]at hQ;exact zCF hQ
 .have e:((zAb its.toArray.size).all λ i=>(bs[i]?).getD true)=bs.all id:=by
   rw[zAR,hb.length];exact LSm.range_all bs
  rw[e];exact⟨.bl _,H,I.kept (LSm.kept_iter hk),rfl,q⟩
theorem aON:su K (λ xs H Q=>∃(p:Addr) (bs:List Bool),xs=[.ref p]/\H p=some (.lst (bs.map V.bl))/\Q (.bl (f bs)) H) (qW f):=by
 intro A xs ds H Q z r ez q;unfold qW at ez;split at ez
 .split at ez
  .rename_i l bs e
   cases ez
   have:=vL e
   subst this;cases r with
   |cons h r=>
    cases r;cases h with
    |lst h m r=>
     have:=r.bools_of
     subst this;exact⟨_,bs,rfl,h,q _ H (aW.refl H) (.bl _)⟩
  .cases ez
 .cases ez
theorem aL0:∀x z,qW f x= .ok z->imm z=true:=by
 intro x z e;unfold qW at e;split at e
 .split at e
  .cases e;rfl
  .cases e
 .cases e
def mmD(f:Int->Int->Int):List D->Rs D
 |[.int i,.int j]=>.ok (.int (f i j))
 |_=>.st
theorem aMU:su K (λ xs H Q=>∃i j,xs=[.int i,.int j]/\Q (.int (f i j)) H) (mmD f):=by
 intro A xs ds H Q z r ez q;unfold mmD at ez;split at ez
 .cases ez
  cases r with
  |cons h r=>
   cases h;cases r with
   |cons h r=>
    cases h;cases r;exact⟨_,_,rfl,q _ H (aW.refl H) (.int _)⟩
 .cases ez
theorem aJC:∀x z,mmD f x= .ok z->imm z=true:=by
 intro x z e;unfold mmD at e;split at e
 .cases e;rfl
 .cases e
def dG:List D->Rs D
 |[.lst l]=>.ok (.tup l)
 |[.tup l]=>.ok (.tup l)
 |_=>.st
def aBD:List D->Rs D
 |[.lst l]=>.ok (.lst l)
 |[.tup l]=>.ok (.lst l)
 |_=>.st
theorem aJ3:su K (λ xs H Q=>∃p ys,xs=[.ref p]/\((SqL K H p ys/\∀l,H l=none->Q (.ref l) (upd H l (.tup ys)))\/(SqT K H p ys/\Q (.ref p) H))) dG:=by
 intro A xs ds H Q z r ez q;unfold dG at ez;split at ez
 .cases ez
  cases r with
  |cons h r=>
   cases r;cases h with
   |lst h m r=>exact⟨_,_,rfl,.inl ⟨SqL.of h,λ l hl=>q _ _ (bA hl _) (.tup (SqT.of aj) ((r.wk λ _ _ _ z=>.inr z.1).up (bA hl _)))⟩⟩
 .cases ez
  cases r with
  |cons h r=>
   cases r;cases h with
   |tup h r=>exact⟨_,_,rfl,.inr ⟨h,q _ H (aW.refl H) (.tup h (r.wk λ _ _ _ z=>.inr z))⟩⟩
 .cases ez
theorem aLc:su K (λ xs H Q=>∃p ys,xs=[.ref p]/\(SqL K H p ys\/SqT K H p ys)/\∀l,H l=none->Q (.ref l) (upd H l (.lst ys))) aBD:=by
 intro A xs ds H Q z r ez q;unfold aBD at ez;split at ez
 .cases ez
  cases r with
  |cons h r=>
   cases r;cases h with
   |lst h m r=>exact⟨_,_,rfl,.inl (SqL.of h),λ l hl=>q _ _ (bA hl _) (.lst aj (.inl hl) ((r.wk λ p o e z=>⟨.inr z.1,λ e'=>by subst e';rw[hl]at e;cases e⟩).up (bA hl _)))⟩
 .cases ez
  cases r with
  |cons h r=>
   cases r;cases h with
   |tup h r=>exact⟨_,_,rfl,.inr h,λ l hl=>q _ _ (bA hl _) (.lst aj (.inl hl) ((r.wk λ p o e z=>⟨.inr z,λ e'=>by subst e';rw[hl]at e;cases e⟩).up (bA hl _)))⟩
 .cases ez
end
def cutD(l:List D)(lo hi:Option Int):List D:=(l.drop (HT.sIx l.length 0 lo)).take (HT.sIx l.length l.length hi-HT.sIx l.length 0 lo)
theorem Rps.cut{K:zAA}(r:Rps K A H xs ds)(lo hi:Option Int):Rps K A H (aAT xs lo hi) (cutD ds lo hi):=by
 unfold aAT cutD;rw[r.length];exact(r.drop _).take _
def slD(d:D)(lo hi:Option Int):Rs D:=match d with
 | .tup l=>.ok (.tup (cutD l lo hi))
 | .lst l=>.ok (.lst (cutD l lo hi))
 |_=>.st
def aOo(K:zAA):V->Option Int->Option Int->Hp->VK->Prop:=λ x lo hi H Q=>(∃a xs,x= .ref a/\SqT K H a xs/\∀c H',aW H H'->SqT K H' c (aAT xs lo hi)->Q (.ref c) H')\/aOp K x lo hi H Q
theorem aKF:SlR X (λ x lo hi H Q=>∃a xs,x= .ref a/\SqT X.K H a xs/\∀c H',aW H H'->SqT X.K H' c (aAT xs lo hi)->Q (.ref c) H'):=by
 intro pins s Z H x v vl vu lo hi sl Q I rx hs pl pu h;obtain⟨a,xs,rfl,hx,q⟩:=h;cases rx;obtain⟨its,r,ht,hz⟩:=I.tuple hx;have hlen:its.toArray.size=xs.length:=by rw[zAR];exact r.length.symm
 refine⟨"tuple",_,zAx.lookup,ht.typeIs,?_⟩;by_cases hw:HT.sIx xs.length 0 lo=0/\HT.sIx xs.length xs.length hi=xs.length
 .refine HT.uq ht hs pl pu (by rw[hlen];exact hw.1) (by rw[hlen];exact hw.2) ⟨.ref a,H,I,rfl,q a H (aW.refl H) ?_⟩
  have:aAT xs lo hi=xs:=by
   unfold aAT;rw[hw.1,hw.2,List.drop_zero,Nat.sub_zero,zIC]
  rw[this];exact hx
 .refine HT.uo ht hs pl pu (by rw[hlen];exact hw) ?_ (by rw[hlen];exact hz)
  rw[hlen];refine⟨.ref s.heap.objs.size,_,I.laid (t':=s.toks) (o:=.tup (aAT xs lo hi)) (λ b ob q=>zAC _ q) (zAP _) ?_,rfl,q _ _ (bA (I.hok.fresh (zAP _)) _) (SqT.of aj)⟩;exact⟨⟨zAm (xJ xs lo hi) hz,NoD.push _⟩,_,(r.drop (HT.sIx xs.length 0 lo)).take (HT.sIx xs.length xs.length hi-HT.sIx xs.length 0 lo),zG9 _ _⟩
theorem aPg:SlR X (aOo X.K):=aKF.or aKG
section
variable{C:Ct}{pos p2:Pos}{m:Mode}{a e:Expr}{fa fe:En->Rs D}{lo hi:Option Expr}
def aPz(K:zAA)(G:Gx)(t:TO)(f:En->Rs (Option Int)):Prop:=∀U Z H Y lab (Q:Option Int->Hp->Prop),RR K G U Y Z H lab->WR G (f Y) (λ o=>∀H',aW H H'->Q o H')->t Z H Q
def SO(C:Ct)(e:Option Expr)(f:En->Rs (Option Int)):Prop:=∃t,(∀i,PO (C.X i) e t)/\aPz C.K C.G t f
def fV:En->Rs (Option Int):=λ _=>.ok none
def fU(fe:En->Rs D):En->Rs (Option Int):=λ Y=>(fe Y).bd λ d=>match d with
 | .int i=>.ok (some i)
 |_=>.st
theorem cz:SO C none fV:=⟨_,λ _=>aK9,λ U Z H Y lab Q R W=>W H (aW.refl H)⟩
theorem cu(h:SE C m e fe):SO C (some e) (fU fe):=by
 obtain⟨t,h1,h2⟩:=h;refine⟨_,λ i=>aK8 (h1 i),λ U Z H Y lab Q R W=>h2 U Z H Y lab _ R (W.bd.imp λ d _ w x H1 s r=>?_)⟩;cases r with
 |int i=>exact⟨i,rfl,w H1 s⟩
 |_=>exact zAQ w
def cU(fa:En->Rs D)(fl fh:En->Rs (Option Int)):En->Rs D:=λ Y=>(fa Y).bd λ d=>(fl Y).bd λ l=>(fh Y).bd λ h=>okD (slD d l h)
theorem cC{fl fh:En->Rs (Option Int)}(ha:SE C m a fa)(hl:SO C lo fl)(hh:SO C hi fh):SE C m (.Subscript a (.Slice lo hi none p2) pos) (cU fa fl fh):=by
 obtain⟨t,h1,h2⟩:=ha;obtain⟨tl,l1,l2⟩:=hl;obtain⟨th,k1,k2⟩:=hh;refine⟨tSl (aOo C.K) t tl th,λ i=>by rw[<-C.hK i];exact aIL aPg (h1 i) (l1 i) (k1 i),λ U Z H Y lab Q R W=>h2 U Z H Y lab _ R (W.bd.imp λ d _ w x H1 s1 r1=>?_)⟩;refine l2 U Z H1 Y lab _ (R.up s1) (w.bd.imp λ ol _ w H2 s2=>?_);refine k2 U Z H2 Y lab _ ((R.up s1).up s2) (w.bd.imp λ oh _ w H3 s3=>?_);obtain⟨z,ez,w⟩:=w.okD;have s:=s1.trans (s2.trans s3);have r3:=r1.up (s2.trans s3);cases d with
 |tup l=>
  cases ez;cases r3 with
  |tup h r=>exact .inl ⟨_,_,rfl,h,λ c H' s' hc=>w _ H' (s.trans s') (.tup hc ((r.cut ol oh).up s'))⟩
 |lst l=>
  cases ez;cases r3 with
  |lst h mm r=>
   exact .inr ⟨_,_,rfl,SqL.of h,λ p hp=>w _ _ (s.trans (bA hp _)) (.lst aj (.inl (s.free hp)) (((r.cut ol oh).wk λ q o e z=>⟨z.1,λ e'=>by subst e';rw[hp]at e;cases e⟩).up (bA hp _)))⟩
 |_=>cases ez
def aKY:D->Rs D
 | .tup l=>.ok (.tup l.reverse)
 |_=>.st
def aMA(K:zAA)(te:TE):TE:=λ Z H Q=>te Z H λ x H1=>∃a xs,x= .ref a/\SqT K H1 a xs/\∀c H',aW H1 H'->H' c=some (.tup xs.reverse)->Q (.ref c) H'
theorem aKe(he:PE X e te):PE X (.Subscript e (.Slice none none (some (.UnaryOp .USub (.Constant (.int 1) j p3) p4)) p2) pos) (aMA X.K te):=by
 intro pins s Z H Q I h;refine zHR (thn (he pins s Z H _ I h) λ v s1 ⟨x,H1,I1,r1,q1⟩=>?_);obtain⟨a,xs,rfl,hx,q⟩:=q1;cases r1;have hm:PE X (.UnaryOp .USub (.Constant (.int 1) j p3) p4) (tUn (rU λ i=>.int (-i)) (tC (.int 1))):=aMN aHN aEX;refine wpAny_Slice ?_;rw[zH7];refine zAE (zAE ?_);rw[evalPart_some];refine thn (hm pins s1 Z H1 (λ z H2=>z= .int (-1)/\H2=H1) I1 ⟨1,rfl,rfl,rfl⟩) λ u s2 ⟨z,H2,I2,r2,ez,eH⟩=>?_
 subst ez eH;obtain⟨tk,rfl⟩:=r2;have I4:Inv X pins Z H2 {s2 with heap:=s2.heap.push {cls:=.type "slice",data:=.fields #[.none,.none,.int (-1) tk]}}:=I2.kept (t':=s2.toks) λ b ob q=>zAC _ q
 obtain⟨its,r,ht,hz⟩:=I4.tuple hx;have hlen:its.toArray.size=xs.length:=by rw[zAR];exact r.length.symm
 show wpAny (model X.prog X.w) X.A (zFe e _ (.ref a) (.ref s2.heap.objs.size)) (EP X pins Z Q) X.xe _;refine tail_any (ops:=[.ref a,.ref s2.heap.objs.size]) ht.typeIs zAx.lookup ?_ (by with_unfolding_all rfl);refine HT.um ht (zF9 ..) ?_ (by rw[hlen];exact hz);refine⟨.ref _,_,I4.laid (t':=s2.toks) (o:=.tup xs.reverse) (λ b ob q=>zAC _ q) (zAP _) ?_,rfl,q _ _ (bA (I4.hok.fresh (zAP _)) _) aj⟩;exact⟨⟨by rw[zHN];exact hz,NoD.push _⟩,_,r.reverse,zG9 _ _⟩
theorem aHb(h:SE C m e fe):SE C m (.Subscript e (.Slice none none (some (.UnaryOp .USub (.Constant (.int 1) j p3) p4)) p2) pos) (op1 aKY fe):=by
 obtain⟨t,h1,h2⟩:=h;refine⟨aMA C.K t,λ i=>by rw[<-C.hK i];exact aKe (h1 i),λ U Z H Y lab Q R W=>h2 U Z H Y lab _ R (W.bd.imp λ d _ w x H1 s1 r1=>?_)⟩;obtain⟨z,ez,w⟩:=w.okD;cases d with
 |tup l=>
  cases ez;cases r1 with
  |tup h r=>exact⟨_,_,rfl,h,λ c H' s hc=>w _ H' (s1.trans s) (.tup (SqT.of hc) (r.reverse.up s))⟩
 |_=>cases ez
end
section
variable{C:Ct}{pos p:Pos}{m m1 m2 m3:Mode}{a b c e:Expr}{fa fb fc:En->Rs D}{ga:En->Rs (List D)}
theorem Ct.u0(C:Ct)(i:C.ι):(C.X i).A.units<cLine:=(C.room i).units0
theorem Ct.u64(C:Ct)(i:C.ι):(C.X i).A.units+64<cLine:=(C.room i).units
theorem Ct.ltR(C:Ct)(i:C.ι):OpR (C.X i) (zAs .Lt) (λ x y H Q=>rI0 (λ i j=>.bl (decide (i<j))) x y H Q\/aKZ C.K x y H Q):=by have h:=aN3 (X:=C.X i) (C.u0 i);rw[C.hK i]at h;exact h
theorem Ct.leR(C:Ct)(i:C.ι):OpR (C.X i) (zAs .LtE) (λ x y H Q=>rI0 (λ i j=>.bl (decide (i<=j))) x y H Q\/aK0 C.K x y H Q):=by have h:=aN5 (X:=C.X i) (C.u0 i);rw[C.hK i]at h;exact h
theorem Ct.eqRl(C:Ct)(i:C.ι):OpR (C.X i) (zAs .Eq) (aHv C.K false):=by have h:=aNa (X:=C.X i) (C.u64 i);rw[C.hK i]at h;exact h
theorem Ct.neRl(C:Ct)(i:C.ι):OpR (C.X i) (zAs .NotEq) (aHv C.K true):=by have h:=aN0 (X:=C.X i) (C.u64 i);rw[C.hK i]at h;exact h
theorem Ct.inRl(C:Ct)(i:C.ι):OpR (C.X i) (zAs .In) (aHu C.K false):=by have h:=aN9 (X:=C.X i) (C.u64 i);rw[C.hK i]at h;exact h
theorem Ct.ninRl(C:Ct)(i:C.ι):OpR (C.X i) (zAs .NotIn) (aHu C.K true):=by have h:=aGY (X:=C.X i) (C.u64 i);rw[C.hK i]at h;exact h
theorem Ct.aOV(C:Ct)(i:C.ι):OpR (C.X i) (zCU .Add) (aFZ C.K):=by have h:=aKv (X:=C.X i);rw[C.hK i]at h;exact h
def pJ:D->D->Rs D:=i2 (λ _ _=>true) λ i j=>.int (i-j)
def aAL:D->D->Rs D:=i2 (λ _ j=>decide (0<j)&&decide (j<1073741824)) λ i j=>.int (i / j)
def uB:D->D->Rs D:=i2 (λ _ j=>decide (0<j)) λ i j=>.int (i%j)
def aIH:D->D->Rs D:=i2 (λ i j=>decide (0<=j)&&decide (j<=1000000)&&decide (i.natAbs<2^64)) λ i j=>.int (i^j.toNat)
theorem bB(ha:SE C m1 a fa)(hb:SE C m2 b fb):SE C (jn m1 m2) (.BinOp a .Add b pos) (op2 bG fa fb):=aAv C.aOV aIZ ha hb
theorem pM(ha:SE C m1 a fa)(hb:SE C m2 b fb):SE C (jn m1 m2) (.BinOp a .Mult b pos) (op2 iW fa fb):=aAv (λ _=>aKr) aNV ha hb
theorem tL(ha:SE C m1 a fa)(hb:SE C m2 b fb):SE C (some []) (.BinOp a .Sub b pos) (op2 pJ fa fb):=gO (aAv (λ _=>aNX) aKo ha hb) λ _ _ h=>jo aCS h
theorem aFV(ha:SE C m1 a fa)(hb:SE C m2 b fb):SE C (some []) (.BinOp a .FloorDiv b pos) (op2 aAL fa fb):=gO (aAv (λ _=>aKs) (aE0 λ i j h=>by simpa[aP3]using h) ha hb) λ _ _ h=>jo aCS h
theorem tM(ha:SE C m1 a fa)(hb:SE C m2 b fb):SE C (some []) (.BinOp a .Mod b pos) (op2 uB fa fb):=gO (aAv (λ _=>aN2) (aE0 λ i j h=>by simpa using h) ha hb) λ _ _ h=>jo aCS h
theorem aHc(ha:SE C m1 a fa)(hb:SE C m2 b fb):SE C (some []) (.BinOp a .Pow b pos) (op2 aIH fa fb):=gO (aAv (λ _=>aNZ) (aE0 λ i j h=>by simp only[zAN,decide_eq_true_eq]at h;exact⟨h.1.1,h.1.2,h.2⟩) ha hb) λ _ _ h=>jo aCS h
theorem v4(ha:SE C m a fa):SE C (some []) (.UnaryOp .USub a pos) (op1 aDA fa):=gO (aOi (λ _=>aHN) aMY ha) λ _ _ h=>aLX aLY h
theorem aOk(ha:SE C m1 a fa)(hb:SE C m2 b fb):SE C (some []) (.Compare a [.Lt] [b] pos) (op2 ltD fa fb):=gO (yt C.ltR aIW ha hb) λ _ _ h=>jo aJD h
theorem aHe(ha:SE C m1 a fa)(hb:SE C m2 b fb):SE C (some []) (.Compare a [.Eq] [b] pos) (op2 (eqR false) fa fb):=gO (yt C.eqRl os_eq ha hb) λ _ _ h=>jo aJG h
theorem aOj(ha:SE C m1 a fa)(hb:SE C m2 b fb):SE C (some []) (.Compare a [.NotEq] [b] pos) (op2 (eqR true) fa fb):=gO (yt C.neRl os_eq ha hb) λ _ _ h=>jo aJG h
theorem aOm(ha:SE C m1 a fa)(hb:SE C m2 b fb)(hm:zB5 .In b=false:=by with_unfolding_all rfl):SE C (some []) (.Compare a [.In] [b] pos) (op2 (inR false) fa fb):=gO (yt C.inRl aIY ha hb hm) λ _ _ h=>jo aOA h
theorem aOl(ha:SE C m1 a fa)(hb:SE C m2 b fb):SE C (some []) (.Compare a [.Is] [b] pos) (op2 (isD false) fa fb):=gO (yt (λ _=>aN7) aOy ha hb) λ _ _ h=>jo aNz h
theorem yf(ha:SE C m1 a fa)(hb:SE C m2 b fb):ST C (.Compare a [.Lt] [b] pos) (tsb (op2 ltD fa fb)):=pK C.ltR aIW ha hb
theorem aH1(ha:SE C m1 a fa)(hb:SE C m2 b fb):ST C (.Compare a [.Gt] [b] pos) (tsb (op2 gtD fa fb)):=pK (λ _=>aPB) aBz ha hb
theorem aOf(ha:SE C m1 a fa)(hb:SE C m2 b fb):ST C (.Compare a [.GtE] [b] pos) (tsb (op2 geD fa fb)):=pK (λ _=>aPC) aBz ha hb
theorem rW(ha:SE C m1 a fa)(hb:SE C m2 b fb):ST C (.Compare a [.Eq] [b] pos) (tsb (op2 (eqR false) fa fb)):=pK C.eqRl os_eq ha hb
theorem rT(ha:SE C m1 a fa)(hb:SE C m2 b fb):ST C (.Compare a [.NotEq] [b] pos) (tsb (op2 (eqR true) fa fb)):=pK C.neRl os_eq ha hb
theorem aOe(ha:SE C m1 a fa)(hb:SE C m2 b fb)(hm:zB5 .In b=false:=by with_unfolding_all rfl):ST C (.Compare a [.In] [b] pos) (tsb (op2 (inR false) fa fb)):=pK C.inRl aIY ha hb hm
theorem aDt(ha:SE C m1 a fa)(hb:SE C m2 b fb)(hm:zB5 .NotIn b=false:=by with_unfolding_all rfl):ST C (.Compare a [.NotIn] [b] pos) (tsb (op2 (inR true) fa fb)):=pK C.ninRl aIY ha hb hm
theorem aKP(ha:SE C m1 a fa)(hb:SE C m2 b fb)(hc:SE C m3 c fc)(hm:zIK [.LtE,.LtE] [b,c]=false:=by with_unfolding_all rfl):SE C (some []) (.Compare a [.LtE,.LtE] [b,c] pos) (chD leD leD fa fb fc):=aCl C.leR aIX C.leR aIX aNy ha hb hc hm
theorem aFT(ha:SE C m1 a fa)(hb:SE C m2 b fb)(hc:SE C m3 c fc)(hm:zIK [.LtE,.Lt] [b,c]=false:=by with_unfolding_all rfl):SE C (some []) (.Compare a [.LtE,.Lt] [b,c] pos) (chD leD ltD fa fb fc):=aCl C.leR aIX C.ltR aIW aJD ha hb hc hm
theorem aN(ha:SE C m1 a fa)(hb:SE C m2 b fb)(hp:yQ b:=by exact λ _ _=>rfl):SE C m1 (.Subscript a b pos) (op2 ixD fa fb):=by
 obtain⟨t,h1,h2⟩:=ha;obtain⟨u,k1,k2⟩:=hb;refine⟨tOp (rIx C.K) t u,λ i=>by rw[<-C.hK i];exact aIN aNu (h1 i) (k1 i) hp,λ U Z H Y lab Q R W=>?_⟩;refine h2 U Z H Y lab _ R (W.bd.imp λ d _ w x H1 s1 r1=>?_);refine k2 U Z H1 Y lab _ (R.up s1) (w.bd.imp λ e _ w y H2 s2 r2=>?_);obtain⟨z,ez,w⟩:=w.okD;have hi:imm e=true:=by
  unfold ixD at ez;split at ez<;>first|rfl|cases ez
 refine aOx (fpM m1 lab H) x y d e H2 Q z (r1.up s2) (r2.imm hi) ez λ v H' s r=>w v H' ((s1.trans s2).trans s) (r.wk λ p o _ q=>?_)
 rcases q with q|q
 .exact .inl ((s1.trans s2).free q)
 .exact q
theorem iC(hm:C.mg "len"=none)(ha:SA C m [a] ga)(he:∀i,zAX [a] (C.X i).env=[(false,eval a (C.X i).env)]:=by intro _;rfl)(hg:∀i,Gl (C.X i) "len":=by intro _;rfl):SE C (some []) (.Call (.Name "len" p) [a] [] pos) (opA dR ga):=
 gO (pN (λ i=>by have h:=vK (X:=C.X i);rw[C.hK i]at h;exact h) aJ4 hg hm zIT ha (by decide) (by decide) he) λ _ _ h=>qz aFn h
theorem aBm(hm:C.mg "all"=none)(ha:SA C m [a] ga)(he:∀i,zAX [a] (C.X i).env=[(false,eval a (C.X i).env)]:=by intro _;rfl)(hg:∀i,Gl (C.X i) "all":=by intro _;rfl)(hv:zAt "all"=some (.builtin "all"):=by decide+kernel):SE C (some []) (.Call (.Name "all" p) [a] [] pos) (opA (qW λ bs=>bs.all id) ga):=
 gO (pN (λ i=>aJb (C.calm i)) aON hg hm hv ha (by decide) (by decide) he) λ _ _ h=>qz aL0 h
theorem aKN(hm:C.mg "min"=none)(ha:SA C m [a,b] ga)(he:∀i,zAX [a,b] (C.X i).env=(false,eval a (C.X i).env)::zAX [b] (C.X i).env:=by intro _;rfl)(hpl:∀i,(zC2 pos (zAX [b] (C.X i).env)).any (·.1)=false:=by intro _;rfl)(hg:∀i,Gl (C.X i) "min":=by intro _;rfl)(hv:zAt "min"=some (.builtin "min"):=by decide+kernel):SE C (some []) (.Call (.Name "min" p) [a,b] [] pos) (opA (mmD λ i j=>if j<i then j else i) ga):=
 gO (pN (λ i=>aGw (C.calm i)) aMU hg hm hv ha (by decide) (by decide) he hpl) λ _ _ h=>qz aJC h
theorem aKO(hm:C.mg "max"=none)(ha:SA C m [a,b] ga)(he:∀i,zAX [a,b] (C.X i).env=(false,eval a (C.X i).env)::zAX [b] (C.X i).env:=by intro _;rfl)(hpl:∀i,(zC2 pos (zAX [b] (C.X i).env)).any (·.1)=false:=by intro _;rfl)(hg:∀i,Gl (C.X i) "max":=by intro _;rfl)(hv:zAt "max"=some (.builtin "max"):=by decide+kernel):SE C (some []) (.Call (.Name "max" p) [a,b] [] pos) (opA (mmD λ i j=>if j>i then j else i) ga):=
 gO (pN (λ i=>aGx (C.calm i)) aMU hg hm hv ha (by decide) (by decide) he hpl) λ _ _ h=>qz aJC h
theorem ie(hm:C.mg "tuple"=none)(ha:SA C m [a] ga)(he:∀i,zAX [a] (C.X i).env=[(false,eval a (C.X i).env)]:=by intro _;rfl)(hg:∀i,Gl (C.X i) "tuple":=by intro _;rfl)(hv:zAt "tuple"=some (.type "tuple"):=by decide+kernel):SE C m (.Call (.Name "tuple" p) [a] [] pos) (opA dG ga):=
 yu (λ i=>by have h:=aAn (X:=C.X i);rw[C.hK i]at h;exact h) aJ3 hg hm hv ha (by decide) (by decide) he
theorem aFR(hm:C.mg "list"=none)(ha:SA C m [a] ga)(he:∀i,zAX [a] (C.X i).env=[(false,eval a (C.X i).env)]:=by intro _;rfl)(hg:∀i,Gl (C.X i) "list":=by intro _;rfl)(hv:zAt "list"=some (.type "list"):=by decide+kernel):SE C m (.Call (.Name "list" p) [a] [] pos) (opA aBD ga):=
 yu (λ i=>by have h:=aC0 (X:=C.X i);rw[C.hK i]at h;exact h) aLc hg hm hv ha (by decide) (by decide) he
def OpF(K:zAA)(r:R2)(fd:D->D->Rs D):Prop:=∀(A:Addr->Prop) x y d e H (Q:VK) z,Rp K A H x d->Rp K A H y e->fd d e= .ok z->(∀v H',aW H H'->Rp K (λ p=>H p=none\/A p) H' v z->aO3 H v z->Q v H')->r x y H Q
theorem aNe{K:zAA}:OpF K (aFZ K) bG:=by
 intro A x y d e H Q z rx ry ez q;cases z with
 |lst l=>
  unfold bG at ez;split at ez
  .cases ez
  .split at ez
   .rename_i hl
    cases ez;cases rx with
    |lst h1 m1 r1=>
     cases ry with
     |lst h2 m2 r2=>
      refine .inr (.inl ⟨_,_,_,_,rfl,rfl,h1,h2,by rw[r1.length,r2.length];exact hl,λ p H' s hp hn=>q _ H' s (.lst hp (.inl hn) ?_) λ _=>⟨p,rfl,hn⟩⟩);exact(((r1.wk λ _ _ _ z=>z.1).append (r2.wk λ _ _ _ z=>z.1)).wk (A':=λ q=>(H q=none\/A q)/\q≠p) λ q o e z=>⟨.inr z,λ e'=>by subst e';rw[hn]at e;cases e⟩).up s
   .cases ez
  .split at ez<;>cases ez
  .cases ez
 |dct ks vs=>
  unfold bG at ez;split at ez
  .cases ez
  .split at ez<;>cases ez
  .split at ez<;>cases ez
  .cases ez
 |set l=>
  unfold bG at ez;split at ez
  .cases ez
  .split at ez<;>cases ez
  .split at ez<;>cases ez
  .cases ez
 |_=>exact aIZ A x y d e H Q _ rx ry ez λ v H' s r=>q v H' s r λ hm=>by cases hm
theorem aMj(ha:SE C m1 a fa)(hb:SE C m2 b fb):SF C (jn m1 m2) (.BinOp a .Add b pos) (op2 bG fa fb):=by
 obtain⟨t,h1,h2⟩:=ha;obtain⟨u,k1,k2⟩:=hb;refine⟨_,λ i=>aIM (C.aOV i) (h1 i) (k1 i),?_⟩;intro U Z H Y lab Q R W;refine h2 U Z H Y lab _ R (W.bd.imp λ d _ w x H1 s1 r1=>?_);refine k2 U Z H1 Y lab _ (R.up s1) (w.bd.imp λ e _ w y H2 s2 r2=>?_);obtain⟨z,ez,w⟩:=w.okD;refine aNe (fpM (jn m1 m2) lab H) x y d e H2 Q z (r1.mono s2 λ p o _ q=>aJU q) (r2.wk λ p o _ q=>aJT (ut s1 q)) ez λ v H' s r ht=>w v H' ((s1.trans s2).trans s) (r.wk λ p o _ q=>?_) λ hm=>?_
 .rcases q with q|q
  .exact .inl ((s1.trans s2).free q)
  .exact q
 .obtain⟨a,e1,e2⟩:=ht hm
  exact⟨a,e1,(s1.trans s2).free e2⟩
theorem aMl{K:zAA}{a:Addr}(hO:Only H)(h:SqL K H a (ns.map V.int)):sr K H a ns:=by
 rcases h with (h|⟨o,h⟩)|h
 .rcases hO a with z|⟨o,xs,z⟩
  .rw[h]at z;cases z
  .rw[h]at z;cases z
 .exact .inl ⟨o,h⟩
 .exact .inr h
end
abbrev ctL(P:zA3)(w:World)(K:zAA)(mg:Str->Option Value)(base:Heap)(N:List Str)(q:Str)(sc:Scope)(cl:List (Str×Addr))(f:Addr)(cdv:Value)(A:zAj)(outer:List Env)(s:zAH)(H:Hp)(E:XK)(k:Nat)(hr:gJ k (A.deeper (zCn q sc s.heap.objs.size f cdv cl))):Ct where
 ι:=Unit
 X:=λ _=>cxL P w K mg base N q sc cl f cdv A outer s H E
 prog:=P
 w:=w
 K:=K
 mg:=mg
 base:=base
 k:=k
 G:=⟨H,E,az mg⟩
 cx:=λ _=>⟨rfl,rfl,rfl,rfl,rfl⟩
 calm:=λ _=>rfl
 room:=λ _=>hr
 own:=λ _=>eQ.own eQ.ofL
 pass:=λ _=>eQ.pass eQ.ofL
 dOk:=true
 dcx:=λ _ _=>eQ.ofL
def shS:Slot->Slot
 | .no=>.no
 | .sh d=>.sh d
 | .nw d=>.sh d
 | .ow d=>.sh d
 | .oz d=>.sh d
 | .o2 l=>.sh (.lst (l.map .lst))
theorem gU.shut{K:zAA}{H:Hp}{lab:Lab}{i:Nat}{v:V}{x:Slot}(h:gU K H lab i v x):gU K H (λ _=>(0,0)) i v (shS x):=by
 cases x with
 |no=>exact trivial
 |sh d=>exact Rp.wk (λ _ _ _ _=>zAa _) h
 |nw d=>exact Rp.wk (λ _ _ _ _=>zAa _) h
 |ow d=>exact Rp.wk (λ _ _ _ _=>zAa _) h.1
 |oz d=>
  obtain⟨a,xs,ds,rfl,rfl,e3,e4,e5⟩:=h;exact .lst e3 (zAa _) (Rps.wk (λ p o e z=>⟨zAa _,λ ep=>by
   have z':(lab p).1<=1:=z;rw[ep,e4]at z';omega⟩) e5)
 |o2 l=>exact Rp.wk (λ _ _ _ _=>zAa _) (aFb h)
theorem RR.shut{K:zAA}{G:Gx}{U:List (V×D)}{Y:En}{Z:L2.St}{H:Hp}{lab:Lab}{E:XK}{cl:Str->Addr}(R:RR K G U Y Z H lab):RR K ⟨H,E,cl⟩ [] (Y.map shS) Z H (λ _=>(0,0)):=by
 refine⟨by rw[zAF];exact R.len,λ i s e=>?_,aW.refl H,λ p hp=>absurd rfl hp,λ q hq=>by cases hq⟩;rw[zAT]at e;cases hr:Y[i]? with
 |none=>rw[hr]at e;cases e
 |some x=>
  rw[hr]at e;cases e;rcases R.sl i x hr with z|⟨v,e1,e2⟩
  .subst z;exact .inl rfl
  .exact .inr ⟨v,e1,e2.shut⟩
def aOh(cl:Str->Addr)(H1:Hp)(r:Rs D):Sp:=λ vs H Q E=>vs=[]/\aW H1 H/\WR ⟨H,E,cl⟩ r (λ _=>∀v H',aW H H'->Q v H')
def aBx(wn:Str->Option Str)(told:Str)(fe:En->Rs D):En->Rs D:=λ Y=>match fe (Y.map shS)with
 | .ok _=>.ok (.str told)
 | .ex c=>(match wn c with
  |some w=>.ok (.str w)
  |none=>.st)
 | .st=>.st
def aO5(P:zA3)(w:World)(K:zAA)(mg:Str->Option Value)(N:List Str)(q:Str)(params:zDN)(body:Expr)(scope:Scope)(k0:Nat)(told:Str)(wd:Addr->Option Str)(E:XK):TE:=λ Z H Q=>
 ∀(base:Heap) (cl:List (Str×Addr)) (f c':Addr) (ctv pm:Value) (H1:Hp),aW H H1->aDk q params body scope cl pm H1 f c' ctv->aJq base N Z scope cl->spR P w K mg base k0 told wd [.ref f] H1 Q E
section
variable{C:Ct}{m:Mode}{x pc told q:Str}{p pos lpos:Pos}{k k0 kb:Nat}{fn:Addr}{fd:zAe}{wd:Addr->Option Str}{wn:Str->Option Str}{params:zDN}{body:Expr}{scope:Scope}{N:List Str}{fe:En->Rs D}
theorem aMk(hF:∀base,cP C.prog C.w C.K C.mg base (CX1 C.prog C.w) k fn fd [pc] (spR C.prog C.w C.K C.mg base k0 told wd))(hr:k<=C.k)(hm:C.mg x=some (.ref fn))(hk:zB0 C.K (.ref fn)=true)(hb:Binds C.K fd [pc] [])
  (hL:∀i,(∃P,xM (C.X i) P)/\(C.X i).outer=[]/\(C.X i).N=N/\(C.X i).tq=q)(S:aAY scope)(hcl:C.G.cl=az C.mg)(hwn:∀c w,wn c=some w->wd (az C.mg c)=some w)(hkb:kb+1<=k0)
  (hbody:∀base cl f cd A outer s H E hr,SE (ctL C.prog C.w C.K C.mg base N q scope cl f cd A outer s H E kb hr) m body fe)
  (hbnd:∀cl pm c' ctv,zIc (zFa "<lambda>" q params body scope cl pm (.ref c') ctv) ⟨[],[]⟩=pure []:=by intro _ _ _ _;rfl)(hdef:∀i,zIy params (C.X i).env=([],[]):=by intro _;rfl)
  (hfree:∀i,∀y∈scope.names,y.2= .free->(C.X i).env.kindOf y.1=some .cell\/(C.X i).env.kindOf y.1=some .free)(hdb:(x==("__debug__":Str))=false:=by decide)(hg:∀i,Gl (C.X i) x:=by intro _;rfl):
  SE C (some []) (.Call (.Name x p) [.Lambda params body scope lpos] [] pos) (aBx wn told fe):=by
 refine⟨aO5 C.prog C.w C.K C.mg N q params body scope k0 told wd C.G.E,λ i=>?_,λ U Z H Y lab Q R W=>?_⟩
 .obtain⟨e1,e2,e3,e4,e5⟩:=C.cx i
  obtain⟨⟨P,Lx⟩,ho,eN,eq⟩:=hL i;intro pins s Z H Q I h;refine zBe (qw I (hg i) (by rw[e4];exact hm) ?_ hdb);have ha:PA (C.X i) [.Lambda params body scope lpos] _:=ak (aNO Lx (hdef i) (hfree i)) dY;refine zDa (h₀:=(C.X i).base) I.ok.mod.kin (by rw[e3];exact hk) (thn (ha pos pins s Z H (λ vs H1=>aW H H1/\∃f c' ctv,vs=[.ref f]/\aDk (C.X i).tq params body scope (L2.az scope (C.X i).env) (((C.X i).mg "__name__").getD .none) H1 f c' ctv) I
   (λ f c' ctv H' sm l=>⟨sm,f,c',ctv,rfl,l⟩)) λ us s1 ⟨vs,H1,I1,r,sm,f,c',ctv,ev,la⟩=>⟨I1.kIn,?_⟩)
  subst ev;have hz:=h (bse (C.X i) s1 H1) (L2.az scope (C.X i).env) f c' ctv _ H1 sm (by rw[<-eq];exact la) (by rw[<-eN];exact aOP I1 ho S (hfree i));exact aKT (CX:=CX1 (C.X i).prog (C.X i).w) I1 (by rw[e1,e2,e3,e4];exact hF _) ((C.room i).mono hr) (by rw[e3];exact hb) (C.pass i) r (by rw[e1,e2,e3,e4]at*;exact hz)
 .intro base cl f c' ctv pm H1 sm la cp
  have R1:=R.up sm;have FL:cP C.prog C.w C.K C.mg base (CX1 C.prog C.w) (kb+1) f (zFa "<lambda>" q params body scope cl pm (.ref c') ctv) [] (aOh (az C.mg) H1 (fe (Y.map shS))):=by
   refine aNl la S cp (λ vs H Q E h=>⟨h.1,h.2.1⟩) λ A outer s H2 Q2 E2 hr2 hsp=>?_
   obtain⟨t,h1,h2⟩:=hbody base cl f (.ref c') A outer s H2 E2 hr2;exact⟨t,h1 (),h2 [] Z H2 _ _ Q2 (R1.up hsp.2.1).shut (hsp.2.2.imp λ d _ z v H' s' _=>z v H' s')⟩
  refine⟨f,_,_,_,_,kb+1,_,rfl,la.1,FL,hkb,λ s us _ hl=>?_,rfl,aW.refl H1,?_⟩
  .have e:us=[]:=by
    rw[zAy]at hl;exact zG4.mp hl
   subst e;exact .of_eq (hbnd cl pm c' ctv)
  .unfold aBx at W
   cases he:fe (Y.map shS)with
   |ok d=>rw[he]at W;exact λ v H' s'=>W (.str told) H' (sm.trans s') (.str told)
   |ex c=>
    rw[he]at W;cases hw:wn c with
    |none=>simp only[hw]at W;exact W.elim
    |some w=>
     simp only[hw]at W;exact λ H' s'=>⟨_,w,rfl,hwn c w hw,λ H'' s''=>W (.str w) H'' (sm.trans (s'.trans s'')) (.str w)⟩
   |st=>rw[he]at W;exact W.elim
end
end VL
namespace L2
open PySem PySem.Spec PyProof.Rows
def cxW(P:zA3)(w:World)(K:zAA)(mg:Str->Option Value)(base:Heap)(N:List Str)(qual:Str)(scope:Scope)(f:Addr)(cd:Value)(A:zAj)(s:zAH)(H:Hp)(Pt:Addr):Cx where
 prog:=P
 w:=w
 K:=K
 mg:=mg
 base:=base
 A:=A.deeper (zCv qual scope s.heap.objs.size f cd)
 N:=N
 z0:=s
 zI:=H
 env:=zCv qual scope s.heap.objs.size f cd
 outer:=[]
 stack:=[zCv qual scope s.heap.objs.size f cd]
 ex:=[Pt]
 calm:=true
 fn:=λ _=>true
 pn:=[]
 xe:=λ _ _=>False
 ta:=[(Pt,zCS #[])]
 tq:=qual++".<locals>."++"<lambda>"
section
variable{P:zA3}{w:World}{K:zAA}{mg:Str->Option Value}{base:Heap}{N ps:List Str}{qual:Str}{scope:Scope}{f Pt:Addr}{cd:Value}{A:zAj}{s s1:zAH}{H:Hp}{vs:List V}{us:List Value}
theorem aEr(S:aY N ps scope)(hd:A.handled=none)(e0:aDm P w K mg base A [] s H)(hl:vs.length=ps.length)(r:Vals vs us)
  (hP:s.heap.get? Pt=some (zCS #[]))(hH:H Pt=none)(hb:base.get? Pt=none)
  (x:InCallC s s.heap.objs.size (bindL (zCv qual scope s.heap.objs.size f cd).kindOf (ps.zip us) λ _=>none) (zCu (s.heap.objs.size+1) scope.names []) (bindC (zCv qual scope s.heap.objs.size f cd).kindOf (ps.zip us) λ _=>none) s1):
  Inv (cxW P w K mg base N qual scope f cd A s H Pt) [] (start N vs) H s1:=by
 have I:Inv (xr (CX1 P w) P w K mg base N qual scope f cd A [] s H λ _ _ _=>False) [] (start N vs) H s1:=wA S hd e0 hl r x;obtain⟨h1,tk,e1,hk⟩:=x.done;have hlt:=zAO hP;have hne:∀b∈[Pt],b≠s.heap.objs.size:=λ b hb z=>by
  have e:b=Pt:=by simpa using hb
  rw[e]at z;exact absurd hlt (by rw[z];exact zBW _)
 refine⟨⟨I.ok.mod,I.ok.kind,I.ok.glob,I.ok.blt,I.ok.above,I.ok.inj,I.ok.has,I.ok.cab,I.ok.hd,I.ok.frames,I.ok.stk,λ b hb2=>⟨hne b hb2,λ y c e z=>?_⟩,I.ok.bs,I.ok.bsz,λ b o e hb'=>?_,λ b _=>λ z=>(nomatch z),I.ok.funs,I.ok.frf⟩,
  I.os,I.bare,I.base.mono (λ b z=>z) (λ b z=>(nomatch z)),I.loc,I.cell,I.free,I.freeC,I.pin,I.hok,I.len,λ p hp=>?_⟩
 .have q:s.heap.objs.size<=c:=I.ok.cab y c rfl e
  have e2:b=Pt:=by simpa using(show b∈[Pt]from hb2)
  rw[z,e2]at q;exact absurd hlt (zFU.mpr q)
 .have e2:b=Pt:=by simpa using(show b∈[Pt]from hb')
  have e3:base.get? b=some o:=e;rw[e2,hb]at e3;cases e3
 .have e2:p=(Pt,zCS #[]):=by simpa using(show p∈[(Pt,zCS #[])]from hp)
  subst e2;refine⟨hH,hne Pt zAK,λ z=>(nomatch z),λ q hq=>(nomatch hq),#[],?_,trivial,λ pos cv e=>nomatch e⟩;subst e1;exact hk _ _ hP
end
theorem aG8{P:zA3}{w:World}{K:zAA}{mg mb:Str->Option Value}{k:Nat}{fa a c Pt:Addr}{x:Str}{zD:zAH}{vs:List Value}{ns:List Int}{N:List Str}{oc doc pm ct dV kV:Value}{od:Option Addr}{osl:Array (Option Value)}{name qual:Str}{params:zDN}{body:List Stmt}{scope:Scope}{an:Option Addr}
  (KX:K.In zD.heap)(hns:zD.heap.Ns zAY mg)(hb:zD.heap.Ns zIx mb)(hbb:∀x:Str,x≠"__name__"->mb x=zAt x)(hlim:zD.heap.NoLimit)(hg:zD.gens=#[])
  (ha:zD.heap.get? a=some {cls:=.type "list",data:=.seq vs.toArray})(hi:zBS vs ns)(hl:ns.length<=zAV)(hr:gJ (k+1) zC9)
  (hP:zD.heap.get? Pt=some (zCS #[]))(hKP:K.lookup Pt=none)(hC:zDz K c Pt=true)(hbl:zD.heap.BuiltinsAt mg Pt)
  (lk:K.lookup fa=some ⟨oc,od,.func (zBk name qual params body scope dV kV doc pm an (.ref c) ct),osl⟩)(hcd:zDH K (.ref c) qual=true)(S:aY N [x] scope)
  (hbind:∀(s:zAH) (u:Value),zHV s (zBk name qual params body scope dV kV doc pm an (.ref c) ct) ⟨[u],[]⟩ [(x,u)])
  (hbody:∀(base:Heap) (s:zAH) (H:Hp),gJ k (zC9.deeper (zCv qual scope s.heap.objs.size fa (.ref c)))->xM (cxW P w K mg base N qual scope fa (.ref c) zC9 s H Pt) Pt->Only H->SqL K H a (ns.map V.int)->
   ∃t,PSs (cxW P w K mg base N qual scope fa (.ref c) zC9 s H Pt) body t/\t {nx:=λ _ _=>False,rt:=λ v _=>v= .bl true} (start N [.ref a]) H):
  zBs (model P w) zC9 (.call (.ref fa) ⟨[.ref a],[]⟩) (λ r s'=>r= .ok (.ret (.bool true))/\OldK zD.heap s'.heap/\s'.os=zD.os/\zEo s'.gens) zD:=by
 have rv:=aAr hi;have lenV:=hi.length;have aP:a≠Pt:=λ z=>by
  rw[z,hP]at ha;have e2:=congrArg Obj.cls (zAp ha);cases e2
 have core:∀H:Hp,Only H->SqL K H a (ns.map V.int)->HOk P w H zD.heap->(∀b,H b≠none->b=a)->(H a≠none->K.lookup a=none)->
   zBs (model P w) zC9 (.call (.ref fa) ⟨[.ref a],[]⟩) (λ r s'=>r= .ok (.ret (.bool true))/\OldK zD.heap s'.heap/\s'.os=zD.os/\zEo s'.gens) zD:=by
  intro H hO hS hok hA hK;have hPn:H Pt=none:=by
   cases q:H Pt with
   |none=>rfl
   |some u=>exact absurd (hA Pt (by rw[q];simp)).symm aP
  let B:=zBv (aJK zD.heap H) [Pt];have base_of:∀{b:Addr} {o:Obj},zD.heap.get? b=some o->H b=none->b≠Pt->B.get? b=some o:=λ e n ne=>zCO _ (aJJ e n) (by simpa using ne)
  have noA:∀{b:Addr} {o:Obj} {es:Array DictEntry} {ep:Nat},zD.heap.get? b=some o->o.data= .dict es ep->H b=none/\b≠Pt:=λ{b o es ep} e d=>by
   refine⟨?_,λ z=>?_⟩
   .cases q:H b with
    |none=>rfl
    |some u=>
     have e':b=a:=hA b (by rw[q];simp);subst e';rw[ha]at e;cases e;have d':Data.seq vs.toArray _=Data.dict es ep:=d;cases d'
   .rw[z,hP]at e
    cases e;cases d
  have nsK:∀{b:Addr} {m:Str->Option Value},zD.heap.Ns b m->B.Ns b m:=λ{b m} ⟨o,es,ep,e,d,r⟩=>⟨o,es,ep,base_of e (noA e d).1 (noA e d).2,d,r⟩
  have hKb:K.In B:=λ b o e=>base_of (KX b o e) (by
   cases q:H b with
   |none=>rfl
   |some u=>
    have e':b=a:=hA b (by rw[q];simp);subst e';rw[hK (by rw[q];simp)]at e;cases e) (λ z=>by rw[z,hKP]at e;cases e)
  have hM:Mod K mg B:=⟨hKb,nsK hns,⟨mb,nsK hb,hbb⟩,let⟨mc,h1,h2⟩:=hlim;⟨mc,nsK h1,h2⟩⟩;have e0:aDm P w K mg B zC9 [] zD H:=⟨rfl,hM,λ b o e=>aKx (zDb _ e),zF6 ((zEV _ _).trans (aGm _ _)),trivial,λ b hb=>absurd (show b∈([]:List Addr)from hb) (by simp),hok,.of_eq hg⟩;have gP:zAY≠Pt:=by
   obtain⟨o,es,ep,e,d,_⟩:=hns;exact(noA e d).2
  have hLx:xM (cxW P w K mg B N qual scope fa (.ref c) zC9 zD H Pt) Pt:=by
   refine⟨⟨_,rfl⟩,zAK,rfl,⟨c,rfl,zGb hKb hC⟩,?_,gP⟩;obtain⟨bm,o,b1,b2,b3,b4,b5,b6,b7,b8⟩:=hbl;refine⟨bm,o,b1,b2,b3,b4,base_of b5 ?_ b4,b6,b7,b8⟩;cases q:H bm with
   |none=>rfl
   |some u=>
    have e':bm=a:=hA bm (by rw[q];simp);rw[e',ha]at b5;cases b5;cases b8
  have hkind:∀y∈[x].zip [zBC a],scope.names.lookup y.1=some .local\/(scope.names.lookup y.1=some .cell/\((zCu (zD.heap.objs.size+1) scope.names []).lookup y.1).isSome=true):=λ⟨n,v⟩ hy=>by
   rcases S.par n (zDB hy).1 with q|q
   .exact .inl q
   .exact .inr ⟨q,zDC _ _ _ (.inl q)⟩
  refine zEt hr.depth (KX _ _ lk) rfl S.co S.gen rfl (zEl KX hcd) (hbind zD (.ref a) _ _ _ _ ?_);refine zEE S.kind hkind λ env he s1 x'=>?_
  subst he;refine⟨hlim.keeps x'.toInCall.keep,zII ?_⟩;obtain⟨t,ht,hq⟩:=hbody B zD H (hr.deeper _) hLx hO hS;have I:Inv (cxW P w K mg B N qual scope fa (.ref c) zC9 zD H Pt) [] (start N [.ref a]) H s1:=aEr (ps:=[x]) (us:=[.ref a]) S hr.hd e0 rfl (.cons rfl .nil) hP hPn (zEU _ zAK) x';refine zAz (ht [] s1 (start N [.ref a]) H _ I hq) (λ fl s' hs=>?_) λ e s' hs=>hs.elim
  cases fl with
  |next=>obtain⟨_,_,_,q⟩:=hs;exact q.elim
  |brk=>obtain⟨_,_,_,q⟩:=hs;exact q.elim
  |cont=>obtain⟨_,_,_,q⟩:=hs;exact q.elim
  |ret u=>
   obtain⟨v,Z',H',J,rv',q⟩:=hs;have q':v= .bl true:=q;subst q';obtain rfl:u=zC0 true:=rv';obtain⟨_,_,_,_,ps,hps,_⟩:=J.tab (Pt,zCS #[]) zAK;have all:∀b o,zD.heap.get? b=some o->b≠Pt->s'.heap.get? b=some o:=λ b o e ne=>by
    cases q:H b with
    |none=>exact J.base.keep b o e q (λ z=>(nomatch z)) (by simpa[cxW]using ne)
    |some u=>
     rcases hO b with z|⟨ob,xs,z⟩
     .rw[q]at z;cases z
     .have z2:=J.base.frzs b ob _ z
      obtain⟨e1,_⟩:=hok b _ z;obtain⟨e2,_⟩:=J.hok b _ z2;rw[e]at e1;cases e1;exact e2
   refine⟨rfl,⟨λ b o e=>?_,λ b o e=>?_⟩,J.os,J.bare⟩
   .by_cases hbP:b=Pt
    .subst hbP
     rw[hP]at e;cases e;obtain⟨⟨o1,vs1,f1,f2,f3,f4⟩,_⟩:=(zGb KX hC).tab hP;exact .inr (.inl ⟨⟨c,o1,vs1,f1,f2,f3,f4⟩,rfl,#[],ps,rfl,by simpa using hps⟩)
    .exact .inl (all b o e hbP)
   .by_cases hbP:b=Pt
    .subst hbP;exact⟨_,hps⟩
    .exact⟨o,all b o e hbP⟩
 cases hk:K.lookup a with
 |some o=>
  have e:=KX a o hk;rw[ha]at e;cases e;refine core (λ _=>none) (λ _=>.inl rfl) (.inr ⟨_,vs.toArray,_,hk,rfl,rfl,rfl,by rw[zAR,lenV];exact hl,by simpa using rv⟩) (λ b u z=>by have z':(none:Option HO)=some u:=z;cases z') (λ b z=>absurd rfl z) λ z=>absurd rfl z
 |none=>
  refine core (λ b=>if b=a then some (.frz {cls:=.type "list",data:=.seq vs.toArray} (.lst (ns.map V.int)))else none) (λ b=>?_) (.inl (.inr ⟨{cls:=.type "list",data:=.seq vs.toArray},if_pos rfl⟩)) (λ b u z=>?_) (λ b z=>?_) λ _=>hk
  .by_cases hb:b=a
   .exact .inr ⟨_,_,if_pos hb⟩
   .exact .inl (if_neg hb)
  .by_cases hb:b=a
   .have z':=(if_pos hb).symm.trans z
    cases z';subst hb;exact⟨ha,by rw[zAF];exact hl,vs,_,rv,ha⟩
   .have z':=(if_neg hb).symm.trans z
    cases z'
  .by_cases hb:b=a
   .exact hb
   .exact absurd (if_neg hb) z
end L2
namespace VL
open PySem PySem.Spec PyProof.Rows L2
abbrev ctW(P:zA3)(w:World)(K:zAA)(mg:Str->Option Value)(base:Heap)(N:List Str)(q:Str)(sc:Scope)(f:Addr)(cdv:Value)(A:zAj)(s:zAH)(H:Hp)(Pt:Addr)(k:Nat)(hr:gJ k (A.deeper (zCv q sc s.heap.objs.size f cdv))):Ct where
 ι:=Unit
 X:=λ _=>cxW P w K mg base N q sc f cdv A s H Pt
 prog:=P
 w:=w
 K:=K
 mg:=mg
 base:=base
 k:=k
 G:=⟨H,λ _ _ _=>False,az mg⟩
 cx:=λ _=>⟨rfl,rfl,rfl,rfl,rfl⟩
 calm:=λ _=>rfl
 room:=λ _=>hr
 own:=λ _=>λ _ _ h=>zAQ h
 pass:=λ _=>λ _ _ _ _ _ _ _ ⟨_,_,_,_,_,_,_,_,_,_,_,_,_,z⟩=>z
 dOk:=false
 dcx:=λ z=>nomatch z
theorem aIn{P:zA3}{w:World}{K:zAA}{mg:Str->Option Value}{base:Heap}{N:List Str}{q:Str}{sc:Scope}{fa a Pt:Addr}{cdv:Value}{A:zAj}{s:zAH}{H:Hp}{k:Nat}{hr:gJ k (A.deeper (zCv q sc s.heap.objs.size fa cdv))}{body:List Stmt}{f:En->Ou}{ns:List Int}
  (hb:SSs (ctW P w K mg base N q sc fa cdv A s H Pt k hr) body f)(e:dw N.length f [.scr ns]= .ok (.bl true))(r:Rps K (λ _=>True) H [.ref a] [.scr ns]):
  ∃t,PSs (cxW P w K mg base N q sc fa cdv A s H Pt) body t/\t {nx:=λ _ _=>False,rt:=λ v _=>v= .bl true} (start N [.ref a]) H:=by
 obtain⟨t,h1,h2⟩:=hb;refine⟨t,h1 (),h2 [] _ H _ _ _ (RR.start r) ?_⟩;unfold dw at e;cases ef:f (bC N.length [.scr ns])with
 |nx Y=>rw[ef]at e;cases e
 |rt d=>rw[ef]at e;cases e;exact λ v H' s r=>r.bl_inv
 |ex c=>rw[ef]at e;cases e
 |bk Y=>rw[ef]at e;cases e
 |ct Y=>rw[ef]at e;cases e
 |st=>rw[ef]at e;cases e
theorem aEL{P:zA3}{w:World}{K:zAA}{mg:Str->Option Value}{base:Heap}{x q n0 n1 n2 few cn pe told:Str}{st:Stmt}{f fc C':Addr}{fd fdc:zAe}{kc k0:Nat}{wd:Addr->Option Str}{p1 p2 p3 p4 p5 p6 p7 p8 p9 p10 p11 p12 p13 p14 p15 p16:Pos}{j1:Nat}
  (F:L2.Fun K x q st f fd)(S:aY [n0,n1,n2] [n0] (aK st))(hst:dX st=[.Assign [.Name n1 p1] (.Constant (.str told) j1 p2) p3,.Try [.Expr (.Call (.Name n0 p4) [] [] p5) p6] [.ExceptHandler (some (.Name few p7)) (some n2) [.Assign [.Name n1 p8] (.Call (.Name cn p9) [.Name n2 p10] [] p11) p12] p13] [] [] p14,.Return (some (.Name n1 p15)) p16])
  (l0:(aK st).names.lookup n0=some .local)(l1:(aK st).names.lookup n1=some .local)(l2:(aK st).names.lookup n2=some .local)(g1:(aK st).names.lookup few=some .globalImplicit)(g2:(aK st).names.lookup cn=some .globalImplicit)
  (hm:mg few=some (.ref C'))(hC':cF K C')(FC:FnH P w K mg base kc fc fdc [pe] (spW wd))(hmc:mg cn=some (.ref fc))(hkc:zB0 K (.ref fc)=true)(hbc:Binds K fdc [pe] [])(hkk:kc<=k0)(hw:∀C w,wd C=some w->cF K C/\wD K C C'=true)
  (d1:(few==("__debug__":Str))=false:=by decide)(d2:(cn==("__debug__":Str))=false:=by decide)(d3:(n0==("__debug__":Str))=false:=by decide)(d4:(n1==("__debug__":Str))=false:=by decide)(d5:(n2==("__debug__":Str))=false:=by decide)
  (d6:(n0==("__classdict__":Str))=false:=by decide)(d7:(n1==("__classdict__":Str))=false:=by decide)(d8:(n2==("__classdict__":Str))=false:=by decide):
  cP P w K mg base (CX1 P w) (k0+1) f fd [n0] (spR P w K mg base k0 told wd):=by
 refine F.okX S (λ vs H Q E ⟨_,_,_,_,_,_,_,e,_⟩=>by rw[e];rfl) λ cdv A outer s H vs Q E hr hsp=>?_
 rw[hst];exact aHn (X:=xr (CX1 P w) P w K mg base [n0,n1,n2] q (aK st) f cdv A outer s H E) eQ.of rfl rfl S.nd l0 l1 l2 (λ _=>rfl) hm g1 hC' FC g2 hmc hkc hbc hr hkk hw hsp d1 d2 d3 d4 d5 d6 d7 d8
end VL
namespace L2
open PySem PySem.Spec PyProof.Rows
theorem iu{X:Cx}{n0:Str}{e:Expr}{c:V}{p p' pos:Pos}(hN:X.N[0]? =some n0)(hv:X.env.scope.names.lookup n0=some .local)(hg:Gl X "isinstance")(hm:X.mg "isinstance"=none)(hc:PE X e (tC c))(hse:zAX [e] X.env=(false,eval e X.env)::zAX [] X.env:=by rfl)
  (hpl:(zC2 pos (zAX [e] X.env)).any (·.1)=false:=by rfl)(d:(n0==("__debug__":Str))=false:=by decide)(d':(n0==("__classdict__":Str))=false:=by decide):PE X (.Call (.Name "isinstance" p) [.Name n0 p',e] [] pos) (aDs X.K c):=
 pZ aHA hg hm rfl (ak (jN hN (.inl hv) d d') (ak hc dY hse)) (hpl:=hpl)
section
variable{P:zA3}{w:World}{K:zAA}{mg:Str->Option Value}{base:Heap}{x q n0 n1 n2 odd:Str}{st:Stmt}{f:Addr}{fd:zAe}{k:Nat}{wd:Addr->Option Str}{c1 c2:V}{k1 k2 k3 k4:List V}{l1 l2:List Str}{a1 a2:Expr}{as1 as2 e1 e2 e3 e4 w1 w2:List Expr}{kw1 kw2:List zCs}
 {p1 p2 p3 p4 p5 p6 p7 p8 p9 p10 p11 p12 p13 p14 p15 p16 p17 p18 p19 p20 p21 p22 p23 p24 p25 p26 p27 p28 p29 p30 p31 p32 p33 p34 p35 p36 p37 p38 p39 p40:Pos}{q1 q2 q3 q4 q5 q6 q7:Pos}{j1 j2 j3 j4 j5:Nat}
end
structure aGD(P:zA3)(w:World)(K:zAA)(mg:Str->Option Value)(fa Pt:Addr)(k n:Nat):Prop where
 ex:∃(x name qual:Str) (params:zDN) (body:List Stmt) (scope:Scope) (dV kV doc pm ct oc:Value) (an od:Option Addr) (c:Addr) (osl:Array (Option Value)) (N:List Str),
  K.lookup Pt=none/\zDz K c Pt=true/\K.lookup fa=some ⟨oc,od,.func (zBk name qual params body scope dV kV doc pm an (.ref c) ct),osl⟩/\zDH K (.ref c) qual=true/\aY N [x] scope/\
  (∀(s:zAH) (u:Value),zHV s (zBk name qual params body scope dV kV doc pm an (.ref c) ct) ⟨[u],[]⟩ [(x,u)])/\
  ∀(a:Addr) (ns:List Int),ns.length<=n->∀(base:Heap) (s:zAH) (H:Hp),gJ k (zC9.deeper (zCv qual scope s.heap.objs.size fa (.ref c)))->xM (cxW P w K mg base N qual scope fa (.ref c) zC9 s H Pt) Pt->Only H->SqL K H a (ns.map V.int)->
   ∃t,PSs (cxW P w K mg base N qual scope fa (.ref c) zC9 s H Pt) body t/\t {nx:=λ _ _=>False,rt:=λ v _=>v= .bl true} (start N [.ref a]) H
theorem aHL{l:zFV}{n k:Nat}{q:zA3}{loose:List Str}{XP:(Str->Option Value)->Heap->Prop}{YP:World->Heap->Prop}{d:DefRec}{K:Params->zAA}{Pt:Addr}
  (hn:l.most=some n)(hn2:n<=zAV)(hdf:d.params.defaults=[])(hr:gJ (k+1) zC9)
  (hY:∀(w:World) (h:Heap),YP w h->(K w.params).In h/\h.get? Pt=some (zCS #[]))
  (F:∀(w:World) (mg:Str->Option Value) (fa:Addr) (h:Heap),(K w.params).In h->h.Ns zAY mg->mg d.name=some (.ref fa)->aGD l.prog w (K w.params) mg fa Pt k n):
  zIH q loose XP YP l.row.toRowW d [] (λ f vs=>zH3 f vs):=by
 refine Att.aDf hn hdf λ w z0 zD mg mb fa o pm cd doc a vs ns G Y ho hd hcd hmg hobj hints hlen hg=>?_
 obtain⟨KX,hP⟩:=hY w _ Y;obtain⟨x,name,qual,params,body,scope,dV,kV,doc,pm,ct,oc,an,od,c,osl,N,h1,h2,h3,h4,h5,h6,h7⟩:=(F w mg fa _ KX G.T.g hmg).ex;have hbl:zD.heap.BuiltinsAt mg Pt:=by
  obtain⟨bm,ob,b1,b2,b3,b4,b5,b6⟩:=G.T.bmain;refine⟨bm,ob,b1,b2,λ z=>?_,λ z=>?_,b3,b4,b5,b6⟩
  .obtain⟨o,es,ep,e,hd,_⟩:=G.T.g
   rw[z,e]at b3;cases b3;rw[hd]at b6;cases b6
  .rw[z,hP]at b3;cases b3;cases b4
 exact aG8 KX G.T.g G.T.b G.T.builtins G.T.nolimit hg hobj hints (zAm hlen hn2) hr hP h1 h2 hbl h3 h4 h5 h6 λ base s H r1 r2 r3 r4=>h7 a ns hlen base s H r1 r2 r3 r4
def clB(K:zAA)(few C:Addr):Bool:=zFy K C [.type "ValueError",.type "Exception",.type "BaseException",.type "object"] "ValueError.__new__"&&decide (zBL K (.ref C) "__class__"=some (some (.builtin "object.__class__")))&&decide (zBL K (.ref C) "__getattribute__"=some (some (.builtin "BaseException.__getattribute__")))&&decide (zBL K (.ref C) "__getattr__"=some none)&&decide (zBt K (.ref C) (.ref few)=some true)&&decide (zBt K (.ref C) (.type "ValueError")=some true)&&wD K C few
def aEy(K:zAA)(few:Addr)(cs:List Addr):Bool:=(zAb cs.length).all λ j=>match cs[j]? with
 |none=>true
 |some C=>clB K few C&&(zAb cs.length).all λ i=>match cs[i]? with
  |none=>true
  |some c=>decide (zBt K (.ref C) (.ref c)=some (i==j))
theorem lookup_at{C:Addr}{w:Str}:∀{cs:List Addr} {ws:List Str},(cs.zip ws).lookup C=some w->∃j:Nat,cs[j]? =some C/\ws[j]? =some w
 |[],_,h=>by cases h
 |_::_,[],h=>by cases h
 |c::cs,x::ws,h=>by
  rw[zBP,zAc]at h;by_cases e:C==c
  .simp only[e]at h
   cases h;exact⟨0,by rw[zDQ e];rfl,rfl⟩
  .simp only[e]at h
   obtain⟨j,h1,h2⟩:=lookup_at h;exact⟨j+1,h1,h2⟩
theorem aLw{K:zAA}{few c0 c1 c2 c3 c4 c5 c6 c7 c8 c9 c10 c11:Addr}{ws:List Str}(h:aEy K few [c0,c1,c2,c3,c4,c5,c6,c7,c8,c9,c10,c11]=true){C:Addr}{w:Str}(hw:([c0,c1,c2,c3,c4,c5,c6,c7,c8,c9,c10,c11].zip ws).lookup C=some w):
  Wd K (.ref few) (.ty "ValueError") [[.ref c0,.ref c1,.ref c2],[.ref c3,.ref c4,.ref c5],[.ref c6,.ref c7,.ref c8],[.ref c9,.ref c10,.ref c11]] ws C w/\cF K C/\wD K C few=true:=by
 obtain⟨j,h1,h2⟩:=lookup_at hw;have hj:j<12:=(zAI.mp h1).1;have h3:=zAf.mp h j (zBV.mpr hj);simp only[h1,zAN]at h3;obtain⟨h4,h5⟩:=h3;have F:∀(i:Nat) c,[c0,c1,c2,c3,c4,c5,c6,c7,c8,c9,c10,c11][i]? =some c->Kt K C (.ref c) (i==j):=λ i c e=>by
  have h6:=zAf.mp h5 i (zBV.mpr (zAI.mp e).1);simp only[e]at h6;exact⟨_,rfl,of_decide_eq_true h6⟩
 unfold clB at h4;simp only[zAN,decide_eq_true_eq]at h4;obtain⟨⟨⟨⟨⟨⟨q1,q2⟩,q3⟩,q4⟩,q5⟩,q6⟩,q7⟩:=h4;refine⟨⟨⟨q1,q2,q3,q4⟩,⟨_,rfl,q5⟩,⟨_,rfl,q6⟩,[0==j,1==j,2==j],[3==j,4==j,5==j],[6==j,7==j,8==j],[9==j,10==j,11==j],j,_,_,_,_,rfl,.cons (F 0 c0 rfl) (.cons (F 1 c1 rfl) (.cons (F 2 c2 rfl) .nil)),.cons (F 3 c3 rfl) (.cons (F 4 c4 rfl) (.cons (F 5 c5 rfl) .nil)),
  .cons (F 6 c6 rfl) (.cons (F 7 c7 rfl) (.cons (F 8 c8 rfl) .nil)),.cons (F 9 c9 rfl) (.cons (F 10 c10 rfl) (.cons (F 11 c11 rfl) .nil)),by simp,?_,?_,?_,h2⟩,q1,q7⟩
 .exact(by decide:∀j,j<12->([0==j,1==j,2==j]++[3==j,4==j,5==j]++[6==j,7==j,8==j]++[9==j,10==j,11==j]).count true=1) j hj
 .exact(by decide:∀j,j<12->([0==j,1==j,2==j]++[3==j,4==j,5==j]++[6==j,7==j,8==j]++[9==j,10==j,11==j])[j]? =some true) j hj
 .exact λ m hm=>(by decide:∀j,j<12->∀m,m<j->([0==j,1==j,2==j]++[3==j,4==j,5==j]++[6==j,7==j,8==j]++[9==j,10==j,11==j])[m]? =some false) j hj m hm
theorem aIp{scope sc:Scope}(h:∀y∈scope.names,y.2= .free->sc.names.lookup y.1=some .cell\/sc.names.lookup y.1=some .free):∀y∈scope.names,y.2= .free->sc.names.lookup y.1=some .cell\/sc.names.lookup y.1=some .free:=h
theorem aDc{K:zAA}{few:Addr}{cs:List Addr}(h:aEy K few cs=true){i j:Nat}{C c:Addr}(hj:cs[j]? =some C)(hi:cs[i]? =some c):zBt K (.ref C) (.ref c)=some (i==j):=by
 have h3:=zAf.mp h j (zBV.mpr (zAI.mp hj).1);simp only[hj,zAN]at h3;have h6:=zAf.mp h3.2 i (zBV.mpr (zAI.mp hi).1);simp only[hi]at h6;exact of_decide_eq_true h6
theorem aLf{K:zAA}{few:Addr}{cs:List Addr}(h:aEy K few cs=true){i j:Nat}{C:Addr}(hj:cs[j]? =some C)(hi:cs[i]? =some C):i=j:=by
 have a:=aDc h hj hi;have b:=aDc h hj hj;rw[a]at b;have e:=zAp b;rw[beq_self_eq_true]at e;exact zDQ e
theorem zb{C:Addr}{w:Str}:∀{cs:List Addr} {ws:List Str} {j:Nat},(∀i:Nat,cs[i]? =some C->i=j)->cs[j]? =some C->ws[j]? =some w->(cs.zip ws).lookup C=some w
 |[],_,_,_,h,_=>by simp at h
 |_::_,[],_,_,_,h=>by simp at h
 |c::cs,x::ws,j,u,h1,h2=>by
  rw[zBP,zAc];by_cases e:C==c
  .have e0:0=j:=u 0 (by rw[zDQ e];rfl)
   subst e0;simp only[e];simpa using h2
  .simp only[e]
   cases j with
   |zero=>
    have e1:c=C:=by simpa using h1
    rw[e1]at e;simp at e
   |succ j=>exact zb (j:=j) (λ i hi=>zGK (u (i+1) hi)) h1 h2
theorem aO0{K:zAA}{few:Addr}{cs:List Addr}{ws:List Str}(h:aEy K few cs=true){j:Nat}{C:Addr}{w:Str}(h1:cs[j]? =some C)(h2:ws[j]? =some w):(cs.zip ws).lookup C=some w:=zb (λ i hi=>aLf h h1 hi) h1 h2
end L2
namespace VL
open PySem PySem.Spec PyProof.Rows L2
theorem aOZ{K:zAA}{mg:Str->Option Value}{few c0 c1 c2 c3 c4 c5 c6 c7 c8 c9 c10 c11:Addr}{ws:List Str}{ns:List Str}(h:aEy K few [c0,c1,c2,c3,c4,c5,c6,c7,c8,c9,c10,c11]=true)
  (hl:ns.map (VL.az mg)=[c0,c1,c2,c3,c4,c5,c6,c7,c8,c9,c10,c11]):∀c w,(ns.zip ws).lookup c=some w->([c0,c1,c2,c3,c4,c5,c6,c7,c8,c9,c10,c11].zip ws).lookup (VL.az mg c)=some w:=λ c w e=>by
 have go:∀(ns:List Str) (ws:List Str),(ns.zip ws).lookup c=some w->∃j:Nat,ns[j]? =some c/\ws[j]? =some w:=by
  intro ns;induction ns with
  |nil=>intro ws h;cases h
  |cons x ns ih=>
   intro ws h;cases ws with
   |nil=>cases h
   |cons y ws=>
    rw[zBP,zAc]at h;by_cases e:c==x
    .simp only[e]at h
     cases h;exact⟨0,by rw[zDQ e];rfl,rfl⟩
    .simp only[e]at h
     obtain⟨j,h1,h2⟩:=ih ws h;exact⟨j+1,h1,h2⟩
 obtain⟨j,h1,h2⟩:=go ns ws e;refine aO0 h (j:=j) ?_ h2;rw[<-hl,zAT,h1];rfl
section
variable{O:zFn}{kz:Nat->O.α}{n:Nat}
def Wr{α:Type}(kz:Nat->O.α)(n:Nat):zGS α->(α->Prop)->Prop
 | .ret a,Q=>Q a
 | .ask i j k,Q=>i<n/\j<n/\Wr kz n (k (O.blt (kz i) (kz j))) Q
theorem Wr.bindI:∀{t:zGS α},Wr kz n t (λ a=>Wr kz n (g a) Q)->Wr kz n (t.bind g) Q
 | .ret _,h=>h
 | .ask _ _ _,⟨h1,h2,h3⟩=>⟨h1,h2,Wr.bindI h3⟩
abbrev Pm(n:Nat)(p:Array Nat):Prop:=p.Perm (zAb n).toArray
theorem Pm.sz(h:Pm n p):p.size=n:=by
 have:=h.size_eq
 simpa using this
theorem Pm.in(h:Pm n p)(hi:i<n):p.getD i 0<n:=by
 have hs:i<p.size:=by rw[h.sz];exact hi
 have e:p.getD i 0=p[i]:=by simp[zC8,hs]
 rw[e];have hm:p[i]∈(zAb n).toArray:=h.mem_iff.mp (Array.getElem_mem hs);simpa using hm
def Kp(kz:Nat->O.α)(p:Array Nat)(i:Nat):O.α:=kz (p.getD i 0)
theorem aDS(h:p[i]? =q[j]?):Kp kz p i=Kp kz q j:=by
 unfold Kp;congr 1;rw[zBx,zBx,h]
theorem aIt(hs:c<p.size)(hd:d<=c)(k:Nat):
  Kp kz (bubble p c d) k=if k=c-d then Kp kz p c else if c-d<k/\k<=c then Kp kz p (k-1)else Kp kz p k:=by
 have e:=getElem?_bubble hs d hd k;by_cases u1:k=c-d
 .rw[if_pos u1]at e ⊢
  exact aDS e
 .rw[if_neg u1]at e ⊢
  by_cases u2:c-d<k/\k<=c
  .rw[if_pos u2]at e ⊢
   exact aDS e
  .rw[if_neg u2]at e ⊢
   exact aDS e
theorem aEj(hj:j<=p.size)(k:Nat):Kp kz (zEO p i j) k=if i<=k/\k<j then Kp kz p (i+j-1-k)else Kp kz p k:=by
 unfold zEO;have e:=getElem?_mirror_all (i:=i) hj k;by_cases u1:i<=k/\k<j
 .rw[if_pos u1]at e ⊢
  exact aDS e
 .rw[if_neg u1]at e ⊢
  exact aDS e
theorem qy(hj:j<=p.size)(he:∀k,i<=k->k<j->Kp kz p k=Kp kz p (j-1))(k:Nat):Kp kz (zEO p i j) k=Kp kz p k:=by
 rw[aEj hj];split
 .rw[he _ (by lia) (by lia),he k (by lia) (by lia)]
 .rfl
def Up(kz:Nat->O.α)(p:Array Nat)(k:Nat):Prop:=∀i j,i<=j->j<k->O.kle (Kp kz p i) (Kp kz p j)
def Dn(kz:Nat->O.α)(p:Array Nat)(k:Nat):Prop:=∀i j,i<=j->j<k->O.kle (Kp kz p j) (Kp kz p i)
theorem zF(h:Pm n p)(i j:Nat):Pm n (zEO p i j):=(mirror_perm _ _ _ _).trans h
theorem Up.succ(h:Up kz p m)(hm:1<=m)(hl:O.kle (Kp kz p (m-1)) (Kp kz p m)):Up kz p (m+1):=by
 intro i j hij hj;by_cases q:j<m
 .exact h i j hij q
 .have q':j=m:=by lia
  subst q';by_cases q2:i=j
  .rw[q2];exact zCt _
  .exact zEB (h i (j-1) (by lia) (by lia)) hl
theorem Dn.succ(h:Dn kz p m)(hm:1<=m)(hl:O.kle (Kp kz p m) (Kp kz p (m-1))):Dn kz p (m+1):=by
 intro i j hij hj;by_cases q:j<m
 .exact h i j hij q
 .have q':j=m:=by lia
  subst q';by_cases q2:i=j
  .rw[q2];exact zCt _
  .exact zEB hl (h i (j-1) (by lia) (by lia))
theorem aDn(hp:Pm n p)(hr:r<=n):∀(f m:Nat),1<=m->m+f=r->Up kz p m->
  (∀m',1<=m'->m'<=r->Up kz p m'->(m'=r\/O.klt (Kp kz p m') (Kp kz p (m'-1)))->Q m')->Wr kz n (PySem.W.kas_asc p f m) Q
 |0,m,h1,hm,hu,k=>k m h1 (by lia) hu (.inl (by lia))
 |f+1,m,h1,hm,hu,k=>by
  refine⟨hp.in (by lia),hp.in (by lia),?_⟩;have hd:O.blt (kz (p.getD m 0)) (kz (p.getD (m-1) 0))=O.blt (Kp kz p m) (Kp kz p (m-1)):=rfl;rw[hd];cases hb:O.blt (Kp kz p m) (Kp kz p (m-1))with
  |true=>exact k m h1 (by lia) hu (.inr hb)
  |false=>exact aDn hp hr f (m+1) (by lia) (by lia) (hu.succ h1 hb) k
theorem yD(hr:r<=n):∀(f:Nat) (p:Array Nat) (m e:Nat),Pm n p->1<=m->m+f=r->Dn kz p m->e+1<=m->(∀i,m-(e+1)<=i->i<m->Kp kz p i=Kp kz p (m-1))->
  (∀p' m' e',Pm n p'->1<=m'->m'<=r->Dn kz p' m'->e'+1<=m'->(∀i,m'-(e'+1)<=i->i<m'->Kp kz p' i=Kp kz p' (m'-1))->Q (p',m',e'))->Wr kz n (PySem.W.kas_desc f p m e) Q
 |0,p,m,e,hp,h1,hm,hd,he,hq,k=>k p m e hp h1 (by lia) hd he hq
 |f+1,p,m,e,hp,h1,hm,hd,he,hq,k=>by
  have hsz:m<=p.size:=by rw[hp.sz];lia
  refine⟨hp.in (by lia),hp.in (by lia),?_⟩;have hx:O.blt (kz (p.getD m 0)) (kz (p.getD (m-1) 0))=O.blt (Kp kz p m) (Kp kz p (m-1)):=rfl;rw[hx];cases hb:O.blt (Kp kz p m) (Kp kz p (m-1))with
  |true=>
   have hd':Dn kz p (m+1):=hd.succ h1 (zEx hb);dsimp only;rw[if_pos rfl];by_cases hz:e>0
   .rw[if_pos hz]
    refine yD hr f _ (m+1) 0 (zF hp _ _) (by lia) (by lia) (λ i j hij hj=>?_) (by lia) (λ i u v=>by congr 1;lia) k;rw[qy hsz hq,qy hsz hq];exact hd' i j hij hj
   .rw[if_neg hz]
    exact yD hr f p (m+1) 0 hp (by lia) (by lia) hd' (by lia) (λ i u v=>by congr 1;lia) k
  |false=>
   dsimp only;rw[if_neg (by simp)];refine⟨hp.in (by lia),hp.in (by lia),?_⟩;have hy:O.blt (kz (p.getD (m-1) 0)) (kz (p.getD m 0))=O.blt (Kp kz p (m-1)) (Kp kz p m):=rfl;rw[hy];cases hc:O.blt (Kp kz p (m-1)) (Kp kz p m)with
   |true=>exact k p m e hp h1 (by lia) hd he hq
   |false=>
    dsimp only;rw[if_neg (by simp)];have hee:Kp kz p m=Kp kz p (m-1):=zGq hc hb;refine yD hr f p (m+1) (e+1) hp (by lia) (by lia) (hd.succ h1 hc) (by lia) (λ i u v=>?_) k;rw[show m+1-1=m by lia];by_cases hi:i=m
    .rw[hi]
    .rw[hee]
     exact hq i (by lia) (by lia)
theorem aFI(hr:r<=n)(hp:Pm n p)(h1:1<=m)(hm:m<=r)(hd:Dn kz p m)(k:∀m' p',Pm n p'->1<=m'->m'<=r->Up kz p' m'->Q (m',p')):Wr kz n (PySem.W.kas_tail3 m r p) Q:=by
 have hsz:m<=p.size:=by rw[hp.sz];lia
 refine Wr.bindI (aDn (zF hp 0 m) hr (r-m) m h1 (by lia) (λ i j hij hj=>?_) λ m' a1 a2 a3 _=>k m' _ (zF hp 0 m) a1 a2 a3);rw[aEj hsz,aEj hsz,if_pos (by lia),if_pos (by lia)];exact hd _ _ (by lia) (by lia)
theorem wM(hr:r<=n)(hp:Pm n p)(hm:m+1<=r)(hd:Dn kz p (m+1))(k:∀m' p',Pm n p'->1<=m'->m'<=r->Up kz p' m'->Q (m',p')):Wr kz n (PySem.W.kas_descPart m r p) Q:=by
 refine Wr.bindI (yD hr (r-(m+1)) p (m+1) 0 hp (by lia) (by lia) hd (by lia) (λ i u v=>by congr 1;lia) λ p' m' e' a1 a2 a3 a4 a5 a6=>?_);have hsz:m'<=p'.size:=by rw[a1.sz];lia
 dsimp only;by_cases hz:e'>0
 .rw[if_pos hz]
  refine aFI hr (zF a1 _ _) a2 a3 (λ i j hij hj=>?_) k;rw[qy hsz a6,qy hsz a6];exact a4 i j hij hj
 .rw[if_neg hz]
  exact aFI hr a1 a2 a3 a4 k
theorem aHJ(hr:r<=n)(hp:Pm n p)(h1:1<=r)(k:∀m' p',Pm n p'->1<=m'->m'<=r->Up kz p' m'->Q (m',p')):Wr kz n (PySem.W.kas_count r p) Q:=by
 refine Wr.bindI (aDn hp hr (r-1) 1 (zAP 1) (by lia) (λ i j hij hj=>by rw[show i=j by lia];exact zCt _) λ m a1 a2 a3 a4=>?_);by_cases hm:m=r
 .rw[if_pos (by simpa using hm)]
  exact k m p hp a1 a2 a3
 .rw[if_neg (by simpa using hm)]
  have hl:O.klt (Kp kz p m) (Kp kz p (m-1)):=a4.resolve_left hm;by_cases hg:m>1
  .rw[if_pos hg]
   refine⟨hp.in (by lia),hp.in (by lia),?_⟩;have hx:O.blt (kz (p.getD 0 0)) (kz (p.getD (m-1) 0))=O.blt (Kp kz p 0) (Kp kz p (m-1)):=rfl;rw[hx];cases hb:O.blt (Kp kz p 0) (Kp kz p (m-1))with
   |true=>exact k m p hp a1 a2 a3
   |false=>
    dsimp only;rw[if_neg (by simp)];have hsz:m<=p.size:=by rw[hp.sz];lia
    have hall:∀i,0<=i->i<m->Kp kz p i=Kp kz p (m-1):=λ i _ hi=>zGq (a3 i (m-1) (by lia) (by lia)) (zEB hb (a3 0 i (by lia) hi))
    refine wM hr (zF hp 0 m) (by lia) (λ i j hij hj=>?_) k;rw[qy hsz hall,qy hsz hall];by_cases hjm:j<m
    .rw[hall i (by lia) (by lia),hall j (by lia) hjm];exact zCt _
    .have hj':j=m:=by lia
     subst hj';by_cases hi:i=j
     .rw[hi];exact zCt _
     .rw[hall i (by lia) (by lia)];exact zEx hl
  .rw[if_neg hg]
   have hm1:m=1:=by lia
   subst hm1;refine wM hr hp (by lia) (λ i j hij hj=>?_) k;by_cases hi:i=j
   .rw[hi];exact zCt _
   .have e1:i=0:=by lia
    have e2:j=1:=by lia
    subst e1 e2;exact zEx hl
theorem yR(hp:Pm n p)(hc:c<n)(hu:Up kz p c):∀(f l r:Nat),l<=r->r<=c->r-l<=f->(∀i,i<l->O.kle (Kp kz p i) (Kp kz p c))->(∀i,r<=i->i<c->O.klt (Kp kz p c) (Kp kz p i))->
  (∀l',l'<=c->(∀i,i<l'->O.kle (Kp kz p i) (Kp kz p c))->(∀i,l'<=i->i<c->O.klt (Kp kz p c) (Kp kz p i))->Q l')->Wr kz n (zHE p c f l r) Q
 |0,l,r,a1,a2,a3,a4,a5,k=>by
  have e:l=r:=by lia
  subst e;exact k l a2 a4 a5
 |f+1,l,r,a1,a2,a3,a4,a5,k=>by
  unfold zHE;by_cases hg:l ≥ r
  .rw[if_pos hg]
   have e:l=r:=by lia
   subst e;exact k l a2 a4 a5
  .rw[if_neg hg]
   refine⟨hp.in hc,hp.in (by lia),?_⟩;have hx:O.blt (kz (p.getD c 0)) (kz (p.getD ((l+r) / 2) 0))=O.blt (Kp kz p c) (Kp kz p ((l+r) / 2)):=rfl;rw[hx];cases hb:O.blt (Kp kz p c) (Kp kz p ((l+r) / 2))with
   |true=>exact yR hp hc hu f l ((l+r) / 2) (by lia) (by lia) (by lia) a4 (λ i u v=>KeyOrd.klt_of_klt_of_kle hb (hu _ _ u v)) k
   |false=>exact yR hp hc hu f ((l+r) / 2+1) r (by lia) a2 (by lia) (λ i u=>zEB (hu i ((l+r) / 2) (by lia) (by lia)) hb) a5 k
theorem aHK:∀(f:Nat) (p:Array Nat) (c:Nat),Pm n p->c+f=n->Up kz p c->(∀p',Pm n p'->Up kz p' n->Q p')->Wr kz n (PySem.W.kas_bin f p c) Q
 |0,p,c,hp,hc,hu,k=>k p hp (by rw[show n=c by lia];exact hu)
 |f+1,p,c,hp,hc,hu,k=>by
  refine Wr.bindI (yR hp (by lia) hu c 0 c (by lia) (zAP c) (by lia) (λ i u=>by lia) (λ i u v=>by lia) λ l a1 a2 a3=>?_);refine aHK f _ (c+1) ((bubble_perm _ _ _).trans hp) (by lia) (λ i j hij hj=>?_) k;have hs:c<p.size:=by rw[hp.sz];lia
  rw[aIt hs (by lia),aIt hs (by lia),show c-(c-l)=l by lia]
  repeat' split
  all_goals first
   |(exfalso;lia)
   |exact O.irrefl _
   |exact a2 _ (by lia)
   |exact KeyOrd.klt_asymm (a3 _ (by lia) (by lia))
   |exact hu _ _ (by lia) (by lia)
theorem aJt(h1:1<=n)(k:∀p,Pm n p->Up kz p n->Q p):Wr kz n (PySem.W.kas_sort n) Q:=by
 refine Wr.bindI (aHJ (zAP n) (zGm _) h1 λ m p a1 a2 a3 a4=>?_);dsimp only;by_cases hm:m<n
 .rw[if_pos hm]
  exact aHK _ p _ a1 (by lia) (by rw[show max m 1=m by lia];exact a4) k
 .rw[if_neg hm]
  exact k p a1 (by rw[show n=m by lia];exact a4)
theorem aCa{I:zAH->Prop}(hc:∀i j (C:Bool->zAH->Prop) s,I s->i<n->j<n->(∀s',I s'->C (O.blt (kz i) (kz j)) s')->cmp i j C s):
  ∀(t:zGS α) (s:zAH),I s->Wr kz n t (λ a=>∀s',I s'->Q a s')->t.kasWp cmp Q s
 | .ret a,s,hI,h=>h s hI
 | .ask i j k,s,hI,⟨h1,h2,h3⟩=>hc i j _ s hI h1 h2 λ s' hI'=>aCa hc _ s' hI' h3
end
theorem aCG:∀a:List Int,HT.lexLt a a=false
 |[]=>rfl
 |x::a=>by rw[HT.lQ,if_pos rfl];exact aCG a
theorem ug:∀a b c:List Int,HT.lexLt a b=true->HT.lexLt b c=true->HT.lexLt a c=true
 |[],[],c,h,_=>by cases h
 |[],_::_,[],_,h=>by cases h
 |[],_::_,_::_,_,_=>rfl
 |_::_,[],_,h,_=>by cases h
 |_::_,_::_,[],_,h=>by cases h
 |x::a,y::b,z::c,h1,h2=>by
  rw[HT.lQ]at h1 h2 ⊢;by_cases e1:x=y
  .subst e1
   rw[if_pos rfl]at h1;by_cases e2:x=z
   .rw[if_pos e2]at h2 ⊢
    exact ug a b c h1 h2
   .rw[if_neg e2]at h2 ⊢
    exact h2
  .rw[if_neg e1]at h1
   simp only[decide_eq_true_eq]at h1;by_cases e2:y=z
   .subst e2
    rw[if_neg e1];simpa using h1
   .rw[if_neg e2]at h2
    simp only[decide_eq_true_eq]at h2;rw[if_neg (by lia)];simp only[decide_eq_true_eq];lia
theorem za:∀a b:List Int,HT.lexLt a b=false->HT.lexLt b a=false->a=b
 |[],[],_,_=>rfl
 |[],_::_,h,_=>by cases h
 |_::_,[],_,h=>by cases h
 |x::a,y::b,h1,h2=>by
  rw[HT.lQ]at h1 h2;by_cases e:x=y
  .subst e
   rw[if_pos rfl]at h1 h2;rw[za a b h1 h2]
  .rw[if_neg e]at h1
   rw[if_neg λ q=>e q.symm]at h2;simp only[decide_eq_false_iff_not]at h1 h2;lia
theorem aIf(a b c:List Int)(h:HT.lexLt a c=true):HT.lexLt a b=true\/HT.lexLt b c=true:=by
 cases e1:HT.lexLt a b with
 |true=>exact .inl rfl
 |false=>
  right;cases e2:HT.lexLt b a with
  |true=>exact ug b a c e2 h
  |false=>rw[<-za a b e1 e2];exact h
def aEd:zFn:=⟨List Int,HT.lexLt,aCG,ug,aIf,za⟩
inductive bh(h:Heap):List Value->List (List Int)->Prop where
 |nil:bh h [] []
 |cons {x:Addr} {o:Obj} {xs:Array Value} {k:Nat} {ns:List Int} {vs:List Value} {nss:List (List Int)} (ho:h.get? x=some o) (hc:o.cls= .type "tuple") (hd:o.data= .seq xs k) (hi:zBS xs.toList ns) (hne:ns≠[]) (r:bh h vs nss):bh h (.ref x::vs) (ns::nss)
theorem bh.mono(k:∀x o,h.get? x=some o->o.cls= .type "tuple"->h'.get? x=some o):∀{vs:List Value} {nss:List (List Int)},bh h vs nss->bh h' vs nss
 |_,_,.nil=>.nil
 |_,_,.cons ho hc hd hi hne r=>.cons (k _ _ ho hc) hc hd hi hne (bh.mono k r)
theorem bh.len:∀{vs:List Value} {nss:List (List Int)},bh h vs nss->vs.length=nss.length
 |_,_,.nil=>rfl
 |_,_,.cons _ _ _ _ _ r=>by rw[zA9,zA9,r.len]
theorem bh.at:∀{vs:List Value} {nss:List (List Int)} {i:Nat},bh h vs nss->i<vs.length->∃x o xs k,vs.getD i zBJ= .ref x/\h.get? x=some o/\o.cls= .type "tuple"/\o.data= .seq xs k/\zBS xs.toList (nss.getD i [])/\nss.getD i []≠[]
 |_,_,_,.nil,hi=>by simp at hi
 |_,_,0,.cons ho hc hd hi hne _,_=>⟨_,_,_,_,rfl,ho,hc,hd,hi,hne⟩
 |_,_,i+1,.cons _ _ _ _ _ r,hi=>by
  obtain⟨x,o,xs,k,q⟩:=bh.at (i:=i) r (by simpa using hi);exact⟨x,o,xs,k,by simpa using q⟩
theorem bh.firsts:∀{vs:List Value} {nss:List (List Int)},bh h vs nss->∃fs,PySem.W.KatTups h vs fs/\fs.length=vs.length/\∀f∈fs,∃n t,f=zEY n t
 |_,_,.nil=>⟨[],.nil,rfl,λ f hf=>by simp at hf⟩
 |_,_,.cons (xs:=xs) ho hc hd hi hne r=>by
  obtain⟨fs,h1,h2,h3⟩:=bh.firsts r;obtain⟨l,rfl⟩:∃l:List Value,xs=l.toArray:=⟨xs.toList,by simp⟩
  rw[show l.toArray.toList=l by simp]at hi;cases hi with
  |nil=>exact absurd rfl hne
  |cons n t q=>
   rename_i l' ns';refine⟨.int n t::fs,.cons ho hc hd (by simp) h1,by simp[h2],λ f hf=>?_⟩;rcases zAL.mp hf with rfl|hf
   .exact⟨n,t,rfl⟩
   .exact h3 f hf
section
variable{prog:zA3}{w:World}{A:zAj}{E:Value->zAH->Prop}{s:zAH}
theorem aDT:∀{xs ys:List Value} {ns ms:List Int} (i:Nat),zBS xs ns->zBS ys ms->fin=decide (xs.length<ys.length)->Q (HT.lexLt ns ms) s->PySem.W.KatLex prog w A b fin Q (xs.zip ys) i s:=by
 intro xs ys ns ms i hx;induction hx generalizing ys ms i with
 |nil=>intro hy hf q;cases hy<;>(subst hf;exact q)
 |@cons x t xs ns r ih=>
  intro hy hf q;cases hy with
  |nil=>subst hf;exact q
  |@cons y u ys ms r'=>?_
  rw[zBP];refine PySem.W.kat_cons (zGY ?_);rw[HT.lQ]at q;by_cases e:x=y
  .rw[if_pos e]at q
   rw[show(x==y)=true by simpa using e];exact PySem.W.kat_yes (ih (i+1) r' (by rw[hf];simp) q)
  .rw[if_neg e]at q
   rw[show(x==y)=false by simpa using e];refine PySem.W.kat_no ?_;cases hb:(b&&i==0)with
   |true=>exact oneLt_int q
   |false=>exact PySem.W.kat_one _ _ (zFo q)
theorem aEn(hx:s.heap.get? x=some ox)(dx:ox.data= .seq xs n)(hy:s.heap.get? y=some oy)(dy:oy.data= .seq ys k)(hi:zBS xs.toList ns)(hj:zBS ys.toList ms)
  (q:Q (HT.lexLt ns ms) s):wpAny (model prog w) A (keyLt' (tuples' b) (.ref x) (.ref y)) Q E s:=
 PySem.W.kat_lt hx dx hy dy (aDT 0 hi hj (by simp) q)
def rH(vs:List Value)(p:Array Nat):Array Value:=(p.toList.map λ i=>vs.getD i zBJ).toArray
theorem aJs(h:vs.length<2):(vs.toArray.zip vs.toArray).map (·.2)=rH vs (zAb vs.length).toArray:=by
 cases vs with
 |nil=>simp[rH]
 |cons v t=>
  cases t with
  |nil=>simp[rH]
  |cons u t=>exact absurd h (zFU.mpr (Nat.le_add_left 2 t.length))
theorem aEc(ho:s.heap.get? a=some (zCV "list" vs.toArray c))(ht:bh s.heap vs nss)(h64:vs.length<64)
  (h:∀p:Array Nat,Pm vs.length p->Up (O:=aEd) (λ i=>nss.getD i []) p vs.length->P (.done (.ret .none)) {s with heap:=zHT s.heap a vs (rH vs p)}):
  wpAny (model prog w) A (zCN.«list.sort» ⟨[.ref a],[]⟩) P E s:=by
 have hlt:a<s.heap.objs.size:=zAO ho;have hz:vs.length<=zAV:=by rw[zBw];lia
 obtain⟨e1,ho1⟩:∃e1,(s.heap.update a (zCe λ _=>(#[]:Array Value))).get? a=some (zCV "list" #[] e1):=⟨_,zGh ho λ _=>#[]⟩
 have keep:∀x o,s.heap.get? x=some o->o.cls= .type "tuple"->(((s.heap.update a (zCe λ _=>(#[]:Array Value))).push (zCV "tuple" vs.toArray 0)).push (zCV "list" #[] 0)).get? x=some o:=λ x o e q=>by
  have hxa:x≠a:=λ z=>by
   subst z;rw[ho]at e;cases e;exact absurd q (show¬(zCL "list"=zCL "tuple")by decide)
  refine zAC _ (zAC _ ?_);rw[zD7 _ _ _ _ hxa];exact e
 have ho6:(((s.heap.update a (zCe λ _=>(#[]:Array Value))).push (zCV "tuple" vs.toArray 0)).push (zCV "list" #[] 0)).get? a=some (zCV "list" #[] e1):=zAC _ (zAC _ ho1);have ht6:=ht.mono keep;rw[list_sort_plain];refine zAB (listItems_at ho rfl (zAB (zH8 ho rfl ?_ (by rw[zAR];exact hz) (zAa _))));refine zAB (zI2 ho1 rfl (zAB (wpAny_newTuple ?_ (by show vs.length<=_;exact hz))));refine zAB (wpAny_newList (zBo ?_) (zAa _));show wpAny (model prog w) A _ P E {s with heap:=((s.heap.update a (zCe λ _=>(#[]:Array Value))).push (zCV "tuple" vs.toArray 0)).push (zCV "list" #[] 0)};dsimp only;have hsz:∀p:Array Nat,Pm vs.length p->(rH vs p).size=vs.length:=λ p a1=>by unfold rH;rw[zAR,zAF,zA7,a1.sz]
 by_cases h2:vs.toArray.size<2
 .rw[if_pos h2,if_pos h2]
  refine zAB (zAE ?_);rw[StateT.run_pure];refine zAB (zAE ?_);have h2':vs.length<2:=by simpa using h2
  have a1:Pm vs.length (zAb vs.length).toArray:=zGm _;have a3:=aJs h2';dsimp only;refine zAB (zI2 ho6 rfl ?_);show wpAny (model prog w) A (Builtin.List.listUpdate (.ref a) (λ _=>(vs.toArray.zip vs.toArray).map (·.2))>>=_) P E _;rw[a3];refine zAB (zH8 ho6 rfl ?_ (zAa _) (by show(rH vs _).size<=_;rw[hsz _ a1];lia));simp only[bne_self_eq_false,zAn,if_false];exact zAE (h _ a1 λ i j hij hj=>by rw[show i=j by lia];exact aCG _)
 .rw[if_neg h2,if_neg h2]
  have h2':2<=vs.length:=zIQ (show¬vs.length<2 by simpa using h2);obtain⟨fs,f1,f2,f3⟩:=ht6.firsts;refine zAB (PySem.W.kat_kind (T:=.type "int") f1 (by lia) (λ v hv=>?_) (by decide) ?_)
  .obtain⟨n,t,rfl⟩:=f3 v hv
   exact zIt
  rw[show(zCL "int" !=zCL "tuple")=true by decide];refine zAB (zAz (PySem.W.kat_run (κ:=tuples' true) (ks:=vs) (vs:=vs) (Q:=λ st s'=>s'={s with heap:=((s.heap.update a (zCe λ _=>(#[]:Array Value))).push (zCV "tuple" vs.toArray 0)).push (zCV "list" #[] 0)}/\∃p:Array Nat,Pm vs.length p/\Up (O:=aEd) (λ i=>nss.getD i []) p vs.length/\(arrOf st).map (·.2)=rH vs p/\failedOf st=none)
   (G:=λ p s'=>s'={s with heap:=((s.heap.update a (zCe λ _=>(#[]:Array Value))).push (zCV "tuple" vs.toArray 0)).push (zCV "list" #[] 0)}/\Pm vs.length p/\Up (O:=aEd) (λ i=>nss.getD i []) p vs.length)
   rfl h2' h64 (λ p st s' _ b2 b3 b4=>⟨b4.1,p,b4.2.1,b4.2.2,PySem.W.kat_snds rfl b2,b3⟩) ?_) (λ r s' hr=>?_) λ _ _ e=>e)
  .refine aCa (O:=aEd) (kz:=λ i=>nss.getD i []) (n:=vs.length) (I:=λ s'=>s'={s with heap:=((s.heap.update a (zCe λ _=>(#[]:Array Value))).push (zCV "tuple" vs.toArray 0)).push (zCV "list" #[] 0)}) (λ i j C s' hI hi hj hC=>?_) _ _ rfl (aJt (by lia) λ p a1 a2 s' hs'=>⟨hs',a1,a2⟩)
   subst hI;unfold PySem.W.kas_ask;obtain⟨x,ox,xs,kx,x1,x2,_,x4,x5,_⟩:=ht6.at hi;obtain⟨y,oy,ys,ky,y1,y2,_,y4,y5,_⟩:=ht6.at hj;rw[x1,y1];exact aEn x2 x4 y2 y4 x5 y5 (hC _ rfl)
  .obtain⟨⟨⟩,st⟩:=r
   obtain⟨e,p,b1,b2,b3,b4⟩:=hr;subst e;refine zAB (zI2 ho6 rfl ?_);rw[b3,b4];refine zAB (zH8 ho6 rfl ?_ (zAa _) (by show(rH vs p).size<=_;rw[hsz p b1];lia));simp only[bne_self_eq_false,zAn,if_false];exact zAE (h p b1 b2)
end
theorem sub_len[BEq α][LawfulBEq α]:∀{l l':List α},l.Nodup->(∀x∈l,x∈l')->l.length<=l'.length
 |[],_,_,_=>zAa _
 |x::l,l',nd,h=>by
  have hx:x∈l':=h x zAK;have ih:=sub_len (l:=l) (l':=l'.erase x) (zBH.mp nd).2 λ y hy=>(List.mem_erase_of_ne λ e=>by subst e;exact(zBH.mp nd).1 hy).mpr (h y (zAM _ hy))
  rw[zDx hx]at ih
  have:0<l'.length:=zER hx
  rw[zA9];lia
def Ris(xs:Array Nat):Prop:=∀i j,i<j->j<xs.size->xs.getD i 0<xs.getD j 0
theorem aC4(hr:Ris xs):∀(f lo hi:Nat),lo<=hi->hi<=xs.size->hi-lo<=f->(∀i,i<lo->xs.getD i 0<j)->(∀i,hi<=i->i<xs.size->j<=xs.getD i 0)->
  zDY xs j f lo hi<=xs.size/\(∀i,i<zDY xs j f lo hi->xs.getD i 0<j)/\∀i,zDY xs j f lo hi<=i->i<xs.size->j<=xs.getD i 0
 |0,lo,hi,h1,h2,h3,h4,h5=>by
  have e:lo=hi:=by lia
  subst e;exact⟨h2,h4,h5⟩
 |f+1,lo,hi,h1,h2,h3,h4,h5=>by
  unfold zDY;by_cases hl:lo<hi
  .rw[if_pos hl]
   dsimp only;have hm:(lo+hi) / 2<xs.size:=by lia
   have e:xs.getD ((lo+hi) / 2) j=xs.getD ((lo+hi) / 2) 0:=by simp[zC8,hm]
   rw[e];by_cases hc:xs.getD ((lo+hi) / 2) 0<j
   .rw[if_pos hc]
    refine aC4 hr f _ hi (by lia) h2 (by lia) (λ i hi'=>?_) h5;by_cases q:i=(lo+hi) / 2
    .rw[q];exact hc
    .exact zCR (hr i ((lo+hi) / 2) (by lia) hm) hc
   .rw[if_neg hc]
    refine aC4 hr f lo _ (by lia) (by lia) (by lia) h4 λ i q1 q2=>?_
    by_cases q:i=(lo+hi) / 2
    .rw[q];lia
    .have:=hr ((lo+hi) / 2) i (by lia) q2
     lia
  .rw[if_neg hl]
   have e:lo=hi:=by lia
   subst e;exact⟨h2,h4,h5⟩
theorem vM(hr:Ris xs)(j:Nat):zAl xs j<=xs.size/\(∀i,i<zAl xs j->xs.getD i 0<j)/\∀i,zAl xs j<=i->i<xs.size->j<=xs.getD i 0:=
 aC4 hr xs.size 0 xs.size (zAa _) (zAP _) (by lia) (λ i h=>by lia) λ i h1 h2=>by lia
structure fM(t:zCq)(n:Nat):Prop where
 dum:t.dummies=#[]
 siz:t.place.size=n
 ris:Ris t.place
 top:∀i,i<n->t.place.getD i 0<=t.mask
 msk:t.mask=7/\n<5\/t.mask=31/\n<19\/t.mask=127/\n<77
 pla:t.plain=true
theorem fM.fresh(led:Bool):fM (zH4 0 0 led) 0:=⟨rfl,rfl,λ i j _ h=>by simp[zH4]at h,λ i h=>by lia,.inl ⟨rfl,by lia⟩,rfl⟩
theorem fM.few(h:fM t n):n<t.mask:=by
 rcases h.msk with ⟨e,l⟩|⟨e,l⟩|⟨e,l⟩<;>lia
theorem fM.fill(h:fM t n):t.fill=n:=by unfold zHm;rw[h.dum,h.siz];rfl
theorem fM.fits(h:fM t n):t.fits n=true:=by
 unfold zHn;rw[h.fill,h.siz]
 have:=h.few
 simp;lia
theorem aBf(h:fM t n)(j:Nat):t.slot j= .empty\/∃i,i<n/\t.slot j= .live i/\t.place.getD i 0=j:=by
 unfold zHo;dsimp only;by_cases e:(t.place[zAl t.place j]? ==some j)=true
 .rw[if_pos e]
  have e':=beq_iff_eq.mp e;obtain⟨h1,h2⟩:=zCa.mp e';exact .inr ⟨_,by rw[<-h.siz];exact h1,rfl,by simp[zC8,h1,h2]⟩
 .rw[if_neg e]
  have:zEH t.dummies j=false:=by rw[h.dum];unfold zEH;simp
  rw[this];exact .inl (by simp)
theorem aH3(h:fM t n)(e:t.slot j= .empty):∀i,i<n->t.place.getD i 0≠j:=by
 intro i hi q;obtain⟨b1,b2,b3⟩:=vM h.ris j;have hb:zAl t.place j=i:=by
  rcases zIE (zAl t.place j) i with z|z|z
  .have z1:=b3 _ (zAP _) (by rw[h.siz];lia)
   have z2:=h.ris _ i z (by rw[h.siz];exact hi);lia
  .exact z
  .have:=b2 i z
   lia
 have hi':i<t.place.size:=by rw[h.siz];exact hi
 have e2:t.place[i]? =some j:=by rw[zCa];exact⟨hi',by rw[<-q];simp[zC8,hi']⟩
 unfold zHo at e;dsimp only at e;rw[hb,e2]at e;simp at e
def pF(mask:Nat):Nat->Nat×Nat->Nat×Nat
 |0,st=>st
 |k+1,st=>pF mask k (zB1 mask st.1 st.2)
theorem aDJ(mask:Nat):∀(k:Nat) (st:Nat×Nat),(pF mask k st).2=st.2 / 32^k
 |0,st=>by simp[pF]
 |k+1,st=>by
  show(pF mask k (zB1 mask st.1 st.2)).2=_
  rw[aDJ mask k];show st.2 / 32 / 32^k=_;rw[Nat.div_div_eq_div_mul,Nat.pow_succ,Nat.mul_comm]
theorem aDM(mask:Nat):∀(j k:Nat) (st:Nat×Nat),pF mask (j+k) st=pF mask k (pF mask j st)
 |0,k,st=>by rw[zHC];rfl
 |j+1,k,st=>by
  rw[show j+1+k=(j+k)+1 by lia];exact aDM mask j k _
def orb(M:Nat):Nat->Nat->Nat
 |0,i=>i
 |k+1,i=>orb M k ((i*5+1)%M)
theorem yG(M:Nat):∀(j k i:Nat),orb M (j+k) i=orb M k (orb M j i)
 |0,k,i=>by rw[zHC];rfl
 |j+1,k,i=>by
  rw[show j+1+k=(j+k)+1 by lia];exact yG M j k _
theorem aDK(mask:Nat):∀(k i:Nat),pF mask k (i,0)=(orb (mask+1) k i,0)
 |0,i=>rfl
 |k+1,i=>by
  show pF mask k (zB1 mask i 0)=_
  have:zB1 mask i 0=((i*5+1)%(mask+1),0):=by simp[zB1]
  rw[this];exact aDK mask k _
theorem aGX:∀M∈[8,32,128],(∀t∈zAb M,∃k∈zAb M,orb M k 0=t)/\orb M M 0=0:=by decide+kernel
theorem aKp(hm:mask=7\/mask=31\/mask=127)(hi:i<=mask)(ht:t<=mask):∃k,k<=mask/\orb (mask+1) k i=t:=by
 have hM:mask+1∈[8,32,128]:=by rcases hm with e|e|e<;>subst e<;>decide
 obtain⟨h1,h2⟩:=aGX _ hM;obtain⟨a,ha,ea⟩:=h1 i (by simp;lia);obtain⟨b,hb,eb⟩:=h1 t (by simp;lia);simp only[zBV]at ha hb;by_cases hab:a<=b
 .refine⟨b-a,by lia,?_⟩
  rw[<-ea,<-yG,show a+(b-a)=b by lia,eb]
 .refine⟨mask+1-a+b,by lia,?_⟩
  rw[<-ea,<-yG,show a+(mask+1-a+b)=(mask+1)+b by lia,yG,h2,eb]
theorem aLj(h:Int):zBA h<2^64:=by
 unfold zBA;have h1:=zDd h (show(2^64:Int)≠0 by decide);have h2:=zDE h (show(0:Int)<2^64 by decide);lia
theorem aDL(hm:mask=7\/mask=31\/mask=127)(h:Int)(ht:t<=mask)(yA:Nat):∃k,k<mask+15/\(pF mask k (yA,zBA h)).1=t:=by
 have e1:(pF mask 13 (yA,zBA h)).2=0:=by
  rw[aDJ]
  have:=aLj h
  exact Nat.div_eq_of_lt (zCR this (by decide))
 have e2:(pF mask 13 (yA,zBA h)).1<=mask:=by
  show(pF mask 12 (zB1 mask yA (zBA h))).1<=mask
  have go:∀k (st:Nat×Nat),st.1<=mask->(pF mask k st).1<=mask:=by
   intro k;induction k with
   |zero=>intro st q;exact q
   |succ k ih=>
    intro st q;refine ih _ ?_
    show(st.1*5+1+st.2 / 32)%(mask+1)<=mask
    exact zCd (zEC _ (zDl _))
  refine go 12 _ ?_
  show(yA*5+1+zBA h / 32)%(mask+1)<=mask
  exact zCd (zEC _ (zDl _))
 obtain⟨k,hk,ek⟩:=aKp hm e2 ht;refine⟨13+k,by lia,?_⟩;rw[aDM];have e3:pF mask 13 (yA,zBA h)=((pF mask 13 (yA,zBA h)).1,0):=by rw[<-e1]
 rw[e3,aDK];exact ek
theorem aAw(hi:i<=mask):i<=zB6 mask i/\zB6 mask i<=mask/\zB6 mask i<=i+9:=by
 unfold zB6;split<;>lia
section
variable{t:zCq}{n:Nat}{hashAt:Nat->Int}{h:Int}
abbrev aFX(t:zCq)(i pert:Nat):zEW:={j:=i,more:=zB6 t.mask i-i,i:=i,perturb:=pert,dummy:=none}
theorem aJO(fuel:Nat)(p:zEW):zCD t hashAt h (fuel+1) p=(match t.slot p.j with
  | .empty=>some (.empty p.j p.dummy)
  | .dummy=>zCD t hashAt h fuel (t.advance {p with dummy:=some p.j})
  | .live i=>if hashAt i==h then some (.candidate p.j i (t.advance p))else zCD t hashAt h fuel (t.advance p)):=rfl
theorem aJN(T:fM t n)(hh:∀i,i<n->hashAt i≠h):∀(m fuel:Nat) (p:zEW),p.more=m->p.dummy=none->
  (∃j,p.j<=j/\j<=p.j+m/\t.slot j= .empty/\zCD t hashAt h (fuel+m+1) p=some (.empty j none))\/
  (t.slot p.j≠.empty/\zCD t hashAt h (fuel+m+1) p=zCD t hashAt h fuel (aFX t (zB1 t.mask p.i p.perturb).1 (zB1 t.mask p.i p.perturb).2))
 |0,fuel,p,hm,hd=>by
  rw[show fuel+0+1=fuel+1 from rfl,aJO];rcases aBf T p.j with e|⟨i,hi,e,_⟩
  .rw[e]
   exact .inl ⟨p.j,zAP _,zAP _,e,by rw[hd]⟩
  .rw[e]
   right;refine⟨by simp,?_⟩;dsimp only;rw[if_neg (by simpa using hh i hi)];congr 1;unfold zHG;rw[if_neg (by lia)];simp[aFX,hd]
 |m+1,fuel,p,hm,hd=>by
  rw[aJO];rcases aBf T p.j with e|⟨i,hi,e,_⟩
  .rw[e]
   exact .inl ⟨p.j,zAP _,by lia,e,by rw[hd]⟩
  .rw[e]
   dsimp only;rw[if_neg (by simpa using hh i hi)];have ha:t.advance p={p with j:=p.j+1,more:=p.more-1}:=by
    unfold zHG;rw[if_pos (by lia)]
   rw[ha];rcases aJN T hh m fuel {p with j:=p.j+1,more:=p.more-1} (by show p.more-1=m;lia) hd with ⟨j,q1,q2,q3,q4⟩|⟨q1,q2⟩
   .exact .inl ⟨j,by show p.j<=j;have:p.j+1<=j:=q1;lia,by have:j<=p.j+1+m:=q2;lia,q3,q4⟩
   .exact .inr ⟨by simp,q2⟩
theorem aFr(T:fM t n)(hh:∀i,i<n->hashAt i≠h):∀(N fuel i pert:Nat),i<=t.mask->10*N<=fuel->
  (∃j,j<=t.mask/\t.slot j= .empty/\zCD t hashAt h fuel (aFX t i pert)=some (.empty j none))\/∀k,k<N->t.slot (pF t.mask k (i,pert)).1≠.empty
 |0,fuel,i,pert,hi,hf=>.inr λ k hk=>by lia
 |N+1,fuel,i,pert,hi,hf=>by
  obtain⟨r1,r2,r3⟩:=aAw hi;obtain⟨f',rfl⟩:∃f',fuel=f'+(zB6 t.mask i-i)+1:=⟨fuel-(zB6 t.mask i-i)-1,by lia⟩
  rcases aJN T hh (zB6 t.mask i-i) f' (aFX t i pert) rfl rfl with ⟨j,q1,q2,q3,q4⟩|⟨q1,q2⟩
  .exact .inl ⟨j,by have:j<=i+(zB6 t.mask i-i):=q2;lia,q3,q4⟩
  .have hl:(zB1 t.mask i pert).1<=t.mask:=zCd (zEC _ (zDl _))
   rcases aFr T hh N f' _ (zB1 t.mask i pert).2 hl (by lia)with ⟨j,s1,s2,s3⟩|s
   .exact .inl ⟨j,s1,s2,q2.trans s3⟩
   .right
    intro k hk;cases k with
    |zero=>exact q1
    |succ k=>exact s k (by lia)
theorem fM.mask3(T:fM t n):t.mask=7\/t.mask=31\/t.mask=127:=by
 rcases T.msk with ⟨e,_⟩|⟨e,_⟩|⟨e,_⟩
 .exact .inl e
 .exact .inr (.inl e)
 .exact .inr (.inr e)
theorem aEV(T:fM t n)(hh:∀i,i<n->hashAt i≠h):∃j,j<=t.mask/\t.slot j= .empty/\t.probe hashAt h (t.probeStart h)=some (.empty j none):=by
 have hs:zBA h%(t.mask+1)<=t.mask:=zCd (zEC _ (zDl _));rcases aFr T hh (t.mask+15) (10*zDF t.mask) _ (zBA h) hs (by unfold zDF;lia)with z|z
 .exact z
 .exfalso
  have hall:∀x∈zAb (t.mask+1),x∈t.place.toList:=by
   intro x hx;simp only[zBV]at hx;obtain⟨k,hk,ek⟩:=aDL T.mask3 h (t:=x) (by lia) (zBA h%(t.mask+1))
   have:=z k hk
   rw[ek]at this;rcases aBf T x with e|⟨i,hi,_,e⟩
   .exact absurd e this
   .rw[<-e]
    have hi':i<t.place.size:=by rw[T.siz];exact hi
    rw[show t.place.getD i 0=t.place[i]by simp[zC8,hi']];exact zGF hi'
  have:=sub_len zIA hall
  have h2:=T.few;rw[zDy,zA7,T.siz]at this;lia
end
theorem yK(xs:Array α)(p:Nat)(x d:α)(hp:p<=xs.size)(i:Nat):(zBb xs p x).getD i d=if i<p then xs.getD i d else if i=p then x else xs.getD (i-1) d:=by
 have e:∀(ys:Array α) i,ys.getD i d=(ys.toList[i]?).getD d:=λ ys i=>by rw[zBx,zBT]
 rw[e,e,e,SetTable.toList_insertAt];have hl:p<=xs.toList.length:=by simpa using hp
 by_cases h1:i<p
 .rw[if_pos h1,zCj (by rw[zB2];lia),zHZ,if_pos h1]
 .rw[if_neg h1,zDe (by rw[zB2];lia),zB2,Nat.min_eq_left hl]
  by_cases h2:i=p
  .rw[if_pos h2,h2,Nat.sub_self]
   rfl
  .rw[if_neg h2,show i-p=(i-p-1)+1 by lia,zBu,zHY]
   congr 2;lia
theorem aAD(xs:Array α)(p:Nat)(x:α):(zBb xs p x).size=xs.size+1:=by
 rw[<-zA7,(zGA xs p x).length_eq,zFD];simp
theorem wN{t:zCq}(hf:t.fill=n):t.tooFull=decide (t.mask*3<=n*5):=by unfold SetTable.tooFull;rw[hf]
structure sZ(t:zCq)(n:Nat):Prop where
 dum:t.dummies=#[]
 siz:t.place.size=n
 ris:Ris t.place
 top:∀i,i<n->t.place.getD i 0<=t.mask
 msk:t.mask=7/\n<=5\/t.mask=31/\n<=19\/t.mask=127/\n<77
 pla:t.plain=true
theorem sZ.fill(h:sZ t n):t.fill=n:=by unfold zHm;rw[h.dum,h.siz];rfl
theorem sZ.fits(h:sZ t n):t.fits n=true:=by
 unfold zHn;rw[h.fill,h.siz]
 have:=h.msk
 simp;lia
theorem aMy(T:fM t n)(h64:n<63)(hj:j<=t.mask)(he:t.slot j= .empty):sZ (t.put j).1 (n+1)/\(t.put j).2=zAl t.place j/\(t.put j).2<=n/\(t.put j).1.mask=t.mask/\(t.put j).1.led=t.led:=by
 have hno:=aH3 T he;obtain⟨b1,b2,b3⟩:=vM T.ris j;have hsz:=T.siz;have hg:=yK t.place (zAl t.place j) j 0 b1;refine⟨⟨?_,?_,?_,?_,?_,T.pla⟩,rfl,by rw[<-hsz];exact b1,rfl,rfl⟩
 .show(if zEH t.dummies j then SetTable.eraseAt t.dummies (zAl t.dummies j)else t.dummies)=#[]
  rw[T.dum]
  have:zEH #[] j=false:=by unfold zEH;simp
  rw[this];rfl
 .show(zBb t.place _ j).size=n+1
  rw[aAD,hsz]
 .intro a b hab hb
  have hb':b<n+1:=by
   have:b<(zBb t.place (zAl t.place j) j).size:=hb
   rw[aAD,hsz]at this;exact this
  show(zBb t.place (zAl t.place j) j).getD a 0<(zBb t.place (zAl t.place j) j).getD b 0
  rw[hg,hg];by_cases a1:a<zAl t.place j
  .rw[if_pos a1]
   by_cases c1:b<zAl t.place j
   .rw[if_pos c1];exact T.ris a b hab (by lia)
   .rw[if_neg c1]
    by_cases c2:b=zAl t.place j
    .rw[if_pos c2];exact b2 a a1
    .rw[if_neg c2]
     exact T.ris a (b-1) (by lia) (by lia)
  .rw[if_neg a1,if_neg (show¬b<zAl t.place j by lia),if_neg (show¬b=zAl t.place j by lia)]
   by_cases a2:a=zAl t.place j
   .rw[if_pos a2]
    have q1:=b3 (b-1) (by lia) (by lia);have q2:=hno (b-1) (by lia);lia
   .rw[if_neg a2]
    exact T.ris (a-1) (b-1) (by lia) (by lia)
 .intro i hi
  show(zBb t.place (zAl t.place j) j).getD i 0<=t.mask
  rw[hg];split
  .exact T.top i (by lia)
  .split
   .exact hj
   .exact T.top (i-1) (by lia)
 .have:=T.msk
  show t.mask=7/\n+1<=5\/t.mask=31/\n+1<=19\/t.mask=127/\n+1<77;lia
theorem sZ.still{t:zCq}(h:sZ t n)(hf:t.tooFull=false):fM t n:=by
 rw[wN h.fill]at hf;simp only[decide_eq_false_iff_not]at hf;refine⟨h.dum,h.siz,h.ris,h.top,?_,h.pla⟩;rcases h.msk with ⟨e,l⟩|⟨e,l⟩|⟨e,l⟩<;>rw[e]at hf
 .exact .inl ⟨e,by lia⟩
 .exact .inr (.inl ⟨e,by lia⟩)
 .exact .inr (.inr ⟨e,by lia⟩)
theorem sZ.full{t:zCq}(h:sZ t n)(h64:n<=63)(hf:t.tooFull=true):n=5\/n=19:=by
 rw[wN h.fill]at hf;simp only[decide_eq_true_eq]at hf
 have:=h.msk
 lia
def heldBy(owner:Array (Option Nat)):List Nat:=owner.toList.filterMap id
theorem aAH:∀(l:List (Option Nat)) (j x:Nat),l[j]? =some none->((l.set j (some x)).filterMap id).Perm (x::l.filterMap id)
 |[],j,x,h=>by simp at h
 |a::l,0,x,h=>by
  simp at h;subst h;exact zBR _
 |none::l,j+1,x,h=>by
  have ih:=aAH l j x (by simpa using h);simpa using ih
 |some a::l,j+1,x,h=>by
  have ih:=aAH l j x (by simpa using h)
  have:(((some a::l).set (j+1) (some x)).filterMap id).Perm (a::x::l.filterMap id):=by
   simpa using ih.cons a
  exact this.trans (zD3 _ _ _)
theorem aBK:∀(l:List (Option Nat)),(∀j,j<l.length->∃x,l[j]? =some (some x))->(l.filterMap id).length=l.length
 |[],_=>rfl
 |a::l,h=>by
  obtain⟨x,e⟩:=h 0 (by simp);have ex:a=some x:=by simpa using e
  subst ex;have ih:=aBK l λ j hj=>by simpa using h (j+1) (by simpa using hj)
  simp[ih]
theorem aFs(ho:owner.size=mask+1):∀(N i pert:Nat),i<=mask->
  (∃j,owner.toList[j]? =some none/\zCJ mask owner N i pert=some j)\/∀k,k<N->∃x,owner.toList[(pF mask k (i,pert)).1]? =some (some x)
 |0,i,pert,hi=>.inr λ k hk=>by lia
 |N+1,i,pert,hi=>by
  obtain⟨r1,r2,r3⟩:=aAw hi;have hone:zCJ mask owner (N+1) i pert=(match (zAb (zB6 mask i+1-i)).find? λ k=>(owner.getD (i+k) (some 0)).isNone with
   |some k=>some (i+k)
   |none=>zCJ mask owner N (zB1 mask i pert).1 (zB1 mask i pert).2):=rfl
  rw[hone];cases hf:(zAb (zB6 mask i+1-i)).find? λ k=>(owner.getD (i+k) (some 0)).isNone with
  |some k=>
   left;have h1:=List.mem_of_find?_eq_some hf;have h2:=List.find?_some hf;simp only[zBV]at h1;have hlt:i+k<owner.size:=by lia
   refine⟨i+k,?_,rfl⟩;have e:owner.getD (i+k) (some 0)=owner[i+k]:=by simp[zC8,hlt]
   rw[e]at h2;rw[zBT,zCa];exact⟨hlt,by simpa using h2⟩
  |none=>
   have h0:=List.find?_eq_none.mp hf 0 (by simp;lia);have hlt:i<owner.size:=by lia
   have e:owner.getD (i+0) (some 0)=owner[i]:=by simp[zC8,hlt]
   rw[e]at h0;have hl:(zB1 mask i pert).1<=mask:=zCd (zEC _ (zDl _));rcases aFs ho N _ (zB1 mask i pert).2 hl with ⟨j,s1,s2⟩|s
   .exact .inl ⟨j,s1,s2⟩
   .right
    intro k hk;cases k with
    |zero=>
     show∃x,owner.toList[i]? =some (some x)
     rw[zBT];cases q:owner[i]with
     |none=>rw[q]at h0;simp at h0
     |some x=>exact⟨x,by rw[zCa];exact⟨hlt,q⟩⟩
    |succ k=>exact s k (by lia)
theorem aGn(hm:mask=7\/mask=31\/mask=127)(ho:owner.size=mask+1)(hfew:(heldBy owner).length<mask+1)(h:Int):
  ∃j,owner.toList[j]? =some none/\zCJ mask owner (zDF mask) (zBA h%(mask+1)) (zBA h)=some j:=by
 rcases aFs ho (zDF mask) _ (zBA h) (zCd (zEC (zBA h) (zDl mask)))with z|z
 .exact z
 .exfalso
  have:=aBK owner.toList λ j hj=>by
   rw[zA7,ho]at hj;obtain⟨k,hk,ek⟩:=aDL hm h (t:=j) (by lia) (zBA h%(mask+1));obtain⟨x,e⟩:=z k (by unfold zDF;lia);rw[ek]at e;exact⟨x,e⟩
  unfold heldBy at hfew;rw[this,zA7]at hfew;lia
def yJ(mask:Nat)(acc:Option (Array (Option Nat)×Nat))(h:Int):Option (Array (Option Nat)×Nat):=do
 let(owner,k) <-acc
 let j <-zCJ mask owner (zDF mask) (zBA h%(mask+1)) (zBA h)
 pure (owner.setIfInBounds j (some k),k+1)
theorem aDQ(hm:mask=7\/mask=31\/mask=127):∀(hs:List Int) (owner:Array (Option Nat)) (k:Nat),owner.size=mask+1->(heldBy owner).Perm (zAb k)->k+hs.length<=mask->
  ∃owner',hs.foldl (yJ mask) (some (owner,k))=some (owner',k+hs.length)/\owner'.size=mask+1/\(heldBy owner').Perm (zAb (k+hs.length))
 |[],owner,k,ho,hp,hl=>⟨owner,rfl,ho,hp⟩
 |h::hs,owner,k,ho,hp,hl=>by
  rw[zA9]at hl;obtain⟨j,e1,e2⟩:=aGn hm ho (by rw[hp.length_eq,zDy];lia) h;have hst:yJ mask (some (owner,k)) h=some (owner.setIfInBounds j (some k),k+1):=by
   unfold yJ;simp[e2]
  rw[zBy,hst];obtain⟨o',f1,f2,f3⟩:=aDQ hm hs (owner.setIfInBounds j (some k)) (k+1) (by simpa using ho) (by
   unfold heldBy;rw[Array.toList_setIfInBounds];refine(aAH owner.toList j k e1).trans ?_;rw[zFm];exact(List.Perm.cons k hp).trans (List.perm_append_singleton k _).symm) (by lia)
  refine⟨o',?_,f2,?_⟩
  .rw[f1,zA9,show k+1+hs.length=k+(hs.length+1)by lia]
  .rw[zA9,show k+(hs.length+1)=k+1+hs.length by lia]
   exact f3
theorem aJL(m:Nat):heldBy (zF7 m none)=[]:=by
 unfold heldBy;rw[Array.toList_replicate];induction m with
 |zero=>rfl
 |succ m ih=>rw[zBh];simpa using ih
theorem aDR(hm:mask=7\/mask=31\/mask=127)(hs:Array Int)(hl:hs.size<=mask):∃owner,zGt mask hs=some owner/\owner.size=mask+1/\(heldBy owner).Perm (zAb hs.size):=by
 obtain⟨o',f1,f2,f3⟩:=aDQ hm hs.toList (zF7 (mask+1) none) 0 (by simp) (by rw[aJL];exact zBR _) (by simpa using hl);refine⟨o',?_,f2,by simpa using f3⟩;have e:zGt mask hs=(hs.foldl (yJ mask) (some (zF7 (mask+1) none,0))).map (·.1):=rfl;rw[e,<-Array.foldl_toList,f1];rfl
def nD(owner:Array (Option Nat))(m:Nat):List (Nat×Nat):=(zAb m).filterMap λ j=>(owner.getD j none).map (j,·)
theorem aDF:∀(l:List (Option Nat)) (b:Nat) (f:Nat->Option Nat),(∀i,i<l.length->f (b+i)=(l[i]?).getD none)->
  ((zHP b l.length).filterMap λ j=>(f j).map (j,·)).map (·.2)=l.filterMap id
 |[],_,_,_=>rfl
 |a::l,b,f,h=>by
  have h0:=h 0 (by simp);simp at h0;have ih:=aDF l (b+1) f λ i hi=>by
   have:=h (i+1) (by simpa using hi)
   rw[show b+(i+1)=b+1+i by lia]at this;simpa using this
  rw[zA9,zIB,zBU,h0];cases a with
  |none=>simpa using ih
  |some x=>simpa using ih
theorem aEb(owner:Array (Option Nat)):(nD owner owner.size).map (·.2)=heldBy owner:=by
 have:=aDF owner.toList 0 (λ j=>owner.getD j none) λ i hi=>by
  rw[zHC,zBx,zBT]
 unfold nD heldBy;rw[zHA,<-this,zA7]
theorem aDG(f:Nat->Option Nat):∀(m b:Nat),(((zHP b m).filterMap λ j=>(f j).map (j,·)).map (·.1)).Pairwise (·< ·)/\∀x∈((zHP b m).filterMap λ j=>(f j).map (j,·)).map (·.1),b<=x/\x<b+m
 |0,b=>⟨.nil,λ x hx=>by simp at hx⟩
 |m+1,b=>by
  obtain⟨ih1,ih2⟩:=aDG f m (b+1);rw[zIB,zBU];cases hf:f b with
  |none=>
   simp only[zHi];exact⟨ih1,λ x hx=>by have:=ih2 x hx;lia⟩
  |some y=>
   simp only[zC5,zAG];refine⟨zAo.mpr ⟨λ x hx=>by have:=ih2 x hx;lia,ih1⟩,λ x hx=>?_⟩;rcases zAL.mp hx with e|hx
   .lia
   .have:=ih2 x hx
    lia
theorem aMq{l:List Nat}(h:l.Pairwise (·< ·)):Ris l.toArray:=by
 intro i j hij hj;have hj':j<l.length:=by simpa using hj
 have e:∀k,k<l.length->l.toArray.getD k 0=l[k]!:=λ k hk=>by simp[zC8,hk]
 have:=zCm.mp h i j (by lia) hj' hij
 simp[zC8,hj',show i<l.length by lia];exact this
theorem aHm{t:zCq}(hp:t.plain=true)(hn:n=5\/n=19)(hs:Array Int)(hl:hs.size=n):
  ∃t' order,t.relaid hs (zEX n)=some (t',order)/\fM t' n/\t'.led=t.led/\order.toList.Perm (zAb n):=by
 have hm:∃mask,zGe (zEX n)-1=mask/\(mask=31/\n=5\/mask=127/\n=19):=by
  rcases hn with e|e<;>subst e
  .exact⟨31,by decide,.inl ⟨rfl,rfl⟩⟩
  .exact⟨127,by decide,.inr ⟨rfl,rfl⟩⟩
 obtain⟨mask,em,hmn⟩:=hm;have hm3:mask=7\/mask=31\/mask=127:=by lia
 obtain⟨owner,o1,o2,o3⟩:=aDR hm3 hs (by lia);have hsnd:=aEb owner;obtain⟨r1,r2⟩:=aDG (λ j=>owner.getD j none) (mask+1) 0;rw[<-zHA]at r1 r2;have hlen:((nD owner (mask+1)).map (·.1)).length=n:=by
  rw[zAF,<-zAF (f:=(·.2)),<-o2,hsnd,o3.length_eq,zDy,hl]
 refine⟨{mask:=mask,place:=((nD owner (mask+1)).map (·.1)).toArray,dummies:=#[],finger:=t.finger,led:=t.led,moves:=t.movedTo mask,plain:=t.plain},((nD owner (mask+1)).map (·.2)).toArray,?_,⟨rfl,?_,aMq r1,?_,?_,hp⟩,rfl,?_⟩
 .unfold SetTable.relaid SetTable.laid
  rw[em,o1];rfl
 .simpa using hlen
 .intro i hi
  have hi':i<((nD owner (mask+1)).map (·.1)).length:=by rw[hlen];exact hi
  show((nD owner (mask+1)).map (·.1)).toArray.getD i 0<=mask
  have:((nD owner (mask+1)).map (·.1)).toArray.getD i 0=((nD owner (mask+1)).map (·.1))[i]:=by
   rw[zBx,List.getElem?_toArray,zAD hi'];rfl
  rw[this]
  have:=r2 _ (zCo hi')
  lia
 .show mask=7/\n<5\/mask=31/\n<19\/mask=127/\n<77
  lia
 .show((nD owner (mask+1)).map (·.2)).Perm (zAb n)
  rw[<-o2,hsnd,<-hl];exact o3
abbrev bc(es:Array (Int×Value))(ep:Nat)(t:zCq):Obj:={cls:=.type "set",dict:=none,data:=.set es ep t}
def SetT(h:Heap)(a:Addr)(es:Array (Int×Value))(t:zCq):Prop:=∃ep,h.get? a=some (bc es ep t)
structure TupAt(h:Heap)(x:Addr)(ns:List Int):Prop where
 ex:∃o xs k,h.get? x=some o/\o.cls= .type "tuple"/\o.data= .seq xs k/\zBS xs.toList ns
theorem sE:∀{vs:List Value} {ns:List Int},zBS vs ns->ItemsAre (zFY prog w) ns vs
 |_,_,.nil=>.nil
 |_,_,.cons n t r=>.cons (intKind_is _ _ n t) (sE r)
section
variable{prog:zA3}{w:World}{A:zAj}{E:Value->zAH->Prop}{s:zAH}
theorem nR{fuel:Nat}:∀{vs:List Value} {ns:List Int},zBS vs ns->∀v∈vs,zGi fuel v=pure true
 |_,_,.nil,v,hv=>by simp at hv
 |_,_,.cons n t r,v,hv=>by
  rcases zAL.mp hv with rfl|hv
  .cases fuel<;>rfl
  .exact nR r v hv
theorem xm{x:Addr}(hx:TupAt s.heap x ns)(h:Q true s):wpAny (model prog w) A (zGi 8 (.ref x)) Q E s:=by
 obtain⟨o,xs,k,ho,hc,hd,hi⟩:=hx.ex;have hT:s.TypeIs (.ref x) "tuple":=⟨o,ho,hc⟩;unfold zGi;refine zAB (zEw hT PySem.F.slot_tuple_hash.lookup ?_);dsimp only;refine zAB (zCE ho hd ?_);refine zAB ?_;show wpAny (model prog w) A (forIn xs _ _) _ _ _;rw[<-Array.forIn_toList];refine zAz (zGZ _ (λ rest b s'=>b.1=none/\s'=s/\∀v∈rest,zGi 7 v=pure true) (λ b s'=>b.1=none/\s'=s) ?_ ?_ _ _ ⟨rfl,rfl,nR hi⟩) ?_ λ _ _ e=>e
 .rintro v rest b s' ⟨hb,rfl,hr⟩
  rw[hr v zAK];refine zAB (zAE ?_);simp only[zG1,zAn,if_false];exact zAE ⟨rfl,rfl,λ u hu=>hr u (zAM _ hu)⟩
 .rintro b s' ⟨hb,rfl,_⟩
  exact⟨hb,rfl⟩
 .rintro⟨b1,b2⟩ s' ⟨hb,rfl⟩
  dsimp only at hb;subst hb;exact zAE h
theorem aH0(ho:s.heap.get? a=some (bc es ep t))(hz:es'.size<=63)
  (h:(s.heap.update a (zIF es' t')).get? a=some (bc es' (ep+1) t')->Q () {s with heap:=s.heap.update a (zIF es' t')}):wpAny (model prog w) A (storeSet a es' t') Q E s:=by
 refine wpAny_storeSet_of ho rfl (h ?_) (by rw[zBw];lia)
 have:=zE3 (zIF es' t') ho (by rw[putSet_of es' t' rfl];rfl)
 rw[putSet_of es' t' rfl]at this;exact this
theorem yp(ho:s.heap.get? a=some (bc es ep t))(T:fM t es.size)(hne:∀e∈es.toList,e.1≠h)
  (q:∀j,j<=t.mask->t.slot j= .empty->Q (.free j false) s):wpAny (model prog w) A (setSearch a x h true) Q E s:=by
 unfold setSearch;unfold setSearchFrom;refine zAB (zBn ho rfl T.fits ?_);dsimp only;have hg:t.gaveWay=false:=by
  unfold SetTable.gaveWay;rcases T.mask3 with e|e|e<;>rw[e]<;>decide
 rw[hg];simp only[zAn,if_false];obtain⟨j,j1,j2,j3⟩:=aEV (hashAt:=λ i=>(es[i]?.map (·.1)).getD 0) T (h:=h) λ i hi=>by
  have e:es[i]? =some es[i]:=zBi hi;rw[e];exact hne _ (zGF hi)
 have j3':t.probe (λ i=>(es[i]?.map (·.1)).getD 0) h ((none:Option zEW).getD (t.probeStart h))=some (.empty j none):=j3;split
 .rename_i met heq
  have e:some met=some (.empty j none):=heq.symm.trans j3';cases e;exact zAE (q j j1 j2)
 .rename_i hno
  exact(hno _ j3').elim
theorem aCh(ho:s.heap.get? a=some (bc es ep t))(T:sZ t n)(hn:es.size=n)(h5:n=5\/n=19)
  (q:∀h' es' t',zDU a s.heap h'->SetT h' a es' t'->fM t' n->t'.led=t.led->es'.toList.Perm es.toList->Q () {s with heap:=h'}):wpAny (model prog w) A (setRelay a (zEX n)) Q E s:=by
 have hsz:zGe (zEX n)<=zAV:=by
  rw[zBw];rcases h5 with e|e<;>rw[e]<;>decide
 obtain⟨t',order,r1,r2,r3,r4⟩:=aHm T.pla h5 (es.map (·.1)) (by rw[Array.size_map];exact hn);have hperm:(order.filterMap (es[·]?)).toList.Perm es.toList:=by
  rw[Array.toList_filterMap];refine(r4.filterMap _).trans ?_;rw[<-hn,filterMap_getElem?_range]
 have hes:(order.filterMap (es[·]?)).size=es.size:=by rw[<-zA7,hperm.length_eq,zA7]
 unfold setRelay;refine zAB (zBn ho rfl (by rw[hn];exact T.fits) ?_);dsimp only;rw[if_neg (by lia),r1];refine zAB ?_;refine zF1 (a:=(order.filterMap (es[·]?),t')) ?_ ?_
 .show(if ((order.filterMap (es[·]?)).size !=es.size)=true then _ else pure (order.filterMap (es[·]?),t'))=_
  rw[hes];simp only[bne_self_eq_false,zAn,if_false]
 .exact aH0 ho (by rw[hes,hn];lia) λ e=>q _ _ t' (zB7 ..) ⟨_,e⟩ r2 r3 hperm
theorem SetT.keep(S:SetT h a es t)(k:∀o,h.get? a=some o->h'.get? a=some o):SetT h' a es t:=let⟨ep,e⟩:=S;⟨ep,k _ e⟩
theorem aEB(hu:A.units<cLine)(S:SetT s.heap a es t)(T:fM t es.size)(hx:TupAt s.heap x ns)(h64:es.size<63)(hne:∀e∈es.toList,e.1≠hsh ns)
  (q:∀h' tk es' t',zDU a s.heap h'->s.toks<=tk->SetT h' a es' t'->fM t' (es.size+1)->t'.led=t.led->es'.toList.Perm (es.toList++[(hsh ns,.ref x)])->Q true {s with heap:=h',toks:=tk}):wpAny (model prog w) A (setAdd a (.ref x)) Q E s:=by
 obtain⟨ep,ho⟩:=S;obtain⟨o,xs,k,xo,xc,xd,xi⟩:=hx.ex;unfold setAdd;refine zBo (zAB ?_);refine wpAny_pyHash_tuple (knd:=zFY prog w) (ks:=ns) hu ⟨o,xs,k,xo,xc,xd,sE xi⟩ ?_;have eh:tupleKeyHash (zFY prog w) ns=hsh ns:=rfl;rw[eh];unfold setAddHashed;refine zBo ?_;unfold setAddHashedIn;refine zAB (zBn ho rfl T.fits ?_);dsimp only;have hb:byScan (.ref x) es=false:=rfl;rw[hb];simp only[zAn,if_false];refine zAB (yp ho T hne λ j j1 j2=>?_);dsimp only;refine zAB (zBn ho rfl T.fits ?_);dsimp only;obtain⟨P,p1,p2,p3,p4⟩:=aMy T h64 j1 j2;have hes:(zBb es (t.put j).2 (hsh ns,zBC x)).size=es.size+1:=aAD _ _ _;have hperm:(zBb es (t.put j).2 (hsh ns,zBC x)).toList.Perm (es.toList++[(hsh ns,zBC x)]):=by
  have:=zGA es (t.put j).2 (hsh ns,zBC x)
  rwa [zFD]at this
 rw[P.pla];simp only[if_true];refine zAB (xm (ns:=ns) ⟨o,xs,k,xo,xc,xd,xi⟩ ?_);simp only[if_true];refine zAB (aH0 ho (by rw[hes];lia) λ e1=>?_);simp only[zIV,Bool.true_and];cases hf:(t.put j).1.tooFull with
 |true=>
  simp only[if_true];have h5:=P.full (by lia) hf;refine zAB (aCh (s:={s with heap:=_,toks:=_}) e1 P hes h5 λ h' es' t' b1 b2 b3 b4 b5=>?_);exact zAE (q h' _ es' t' ((zB7 s.heap a _).trans b1) (zIO _ _) b2 b3 (b4.trans p4) (b5.trans hperm))
 |false=>
  simp only[zAn,if_false];exact zAE (q _ _ _ _ (zB7 ..) (zIO _ _) ⟨_,e1⟩ (P.still hf) p4 hperm)
end
def prs(vs:List Value)(nss:List (List Int)):List (Int×Value):=(vs.zip nss).map λ p=>(hsh p.2,p.1)
theorem yF(h:vs.length=nss.length):(prs vs nss).length=vs.length:=by
 unfold prs;rw[zAF,zD9,<-h,zE9]
theorem aNC{i:Nat}(h1:vs[i]? =some v)(h2:nss[i]? =some ns):(prs vs nss)[i]? =some (hsh ns,v):=by
 unfold prs;rw[zAT,(zDk (z:=(v,ns))).mpr ⟨h1,h2⟩];rfl
theorem aK5(h:vs.length=nss.length):(prs vs nss).map (·.1)=nss.map hsh:=by
 unfold prs;rw[zAu]
 have:(vs.zip nss).map zEG=nss:=zEM (by lia)
 conv=>rhs;rw[<-this]
 rw[zAu];rfl
theorem bh.tup{i:Nat}(t:bh h vs nss)(hv:vs[i]? =some v):∃x ns,v= .ref x/\nss[i]? =some ns/\TupAt h x ns:=by
 have hi:i<vs.length:=(zAI.mp hv).1;obtain⟨x,o,xs,k,e1,e2,e3,e4,e5,_⟩:=t.at hi;have hi2:i<nss.length:=by rw[<-t.len];exact hi
 refine⟨x,nss.getD i [],?_,by simp[hi2],⟨o,xs,k,e2,e3,e4,e5⟩⟩;rw[<-e1];simp[hv]
section
variable{prog:zA3}{w:World}{A:zAj}{R:zFO->zAH->Prop}{I:Addr}{fp wr:List Addr}{G:Array zG3->Array zG3->Prop}{n:Nat}{St:Nat->zAH->Prop}{vs:List Value}{nss:List (List Int)}
theorem aGO(W:WalksS prog w A.in1 I fp wr G n (λ i v=>vs.toArray[i]? =some v) St)(S:Addr)(hSf:S∉fp)(hn:n=vs.length)(hu:A.in1.units<cLine)(h64:n<64)(hnd:(nss.map hsh).Nodup)(hin:∀x,.ref x∈vs->x∉wr)(led:Bool):
  ∀(k i:Nat) (s:zAH) (es:Array (Int×Value)) (t:zCq),n-i=k->i<=n->St i s->bh s.heap vs nss->SetT s.heap S es t->fM t i->t.led=led->es.toList.Perm ((prs vs nss).take i)->
   (∀s' es' t',Moved (S::wr) G s s'->SetT s'.heap S es' t'->fM t' n->t'.led=led->es'.toList.Perm (prs vs nss)->R (.ok (.ret .none)) s')->
   zBs (model prog w) A (.builtin "set.update.loop" ⟨[.ref S,.ref I],[]⟩) R s:=by
 have hSw:S∉wr:=λ h=>hSf (W.sub _ h)
 have hsb:∀b∈wr,b∈S::wr:=λ b hb=>zAM _ hb
 intro k;induction k with
 |zero=>
  intro i s es t hk hi hst ht hS hT hl hp hR;have hin':i=n:=by lia
  subst hin';refine zBd zDp ?_;rw[zBY zC1 _];show wpAny _ A.in1 (zEd (.ref I)>>=_) _ _ s;refine zAB (W.done s _ _ hst λ s' hm=>zAE (hR s' es t (hm.mono hsb) (hS.keep λ o e=>hm.heap S _ hSw e) hT hl ?_))
  have:(prs vs nss).length<=i:=by rw[yF ht.len,hn];exact zAP _
  rwa [zES this]at hp
 |succ k ih=>
  intro i s es t hk hi hst ht hS hT hl hp hR;have hlt:i<n:=by lia
  refine zBd zDp ?_;rw[zBY zC1 _];show wpAny _ A.in1 (zEd (.ref I)>>=_) _ _ s;refine zAB (W.item i s _ _ hlt hst λ v s' hP' hst' hm=>?_);have hP:vs[i]? =some v:=by simpa using hP'
  obtain⟨x,ns,rfl,hns,hx⟩:=ht.tup hP;have hxw:∀y,.ref y∈vs->y∉wr:=hin
  have ht':bh s'.heap vs nss:=by
   have go:∀{us:List Value} {ms:List (List Int)},(∀y,.ref y∈us->y∉wr)->bh s.heap us ms->bh s'.heap us ms:=by
    intro us ms hy z;induction z with
    |nil=>exact .nil
    |cons ho hc hd hi hne r ih2=>exact .cons (hm.heap _ _ (hy _ zAK) ho) hc hd hi hne (ih2 λ y m=>hy y (zAM _ m))
   exact go hin ht
  have hS':SetT s'.heap S es t:=hS.keep λ o e=>hm.heap S _ hSw e
  have hx':TupAt s'.heap x ns:=by
   obtain⟨y,ms,e1,e2,e3⟩:=ht'.tup hP;cases e1;rw[hns]at e2;cases e2;exact e3
  have hsz:es.size=i:=by
   rw[<-zA7,hp.length_eq,zB2,yF ht.len];lia
  have hT':fM t es.size:=by rw[hsz];exact hT
  have hat:=aNC hP hns;have hnew:∀e∈es.toList,e.1≠hsh ns:=by
   intro e he q;have h1:e∈(prs vs nss).take i:=hp.mem_iff.mp he;obtain⟨j,hj⟩:=List.getElem?_of_mem h1;have hj':j<i:=by
    have:=(zAI.mp hj).1
    rw[zB2]at this;lia
   rw[zHZ,if_pos hj']at hj;have f1:(nss.map hsh)[j]? =some (hsh ns):=by rw[<-aK5 ht.len,zAT,hj,<-q];rfl
   have f2:(nss.map hsh)[i]? =some (hsh ns):=by rw[zAT,hns];rfl
   have hlj:j<(nss.map hsh).length:=(zAI.mp f1).1
   have:=(zCc hlj hnd).mp (f1.trans f2.symm)
   lia
  show wpAny _ A.in1 (zEu [zBC x] (setAdd S (.ref x))>>=_) _ _ s';refine zAB (zBo (aEB hu hS' hT' hx' (by lia) hnew λ h' tk es' t' c1 c2 c3 c4 c5 c6=>?_));have kp:∀b o,b≠S->s'.heap.get? b=some o->h'.get? b=some o:=λ b o hb e=>by rw[c1.2 b hb];exact e
  have ht2:bh h' vs nss:=ht'.mono λ y o e c=>kp y o (λ z=>by
   subst z;obtain⟨ep,q⟩:=hS';rw[q]at e;cases e;exact absurd c (show¬(zCL "set"=zCL "tuple")by decide)) e
  refine zAE ⟨zH9 zC1 _,ih (i+1) _ es' t' (by lia) hlt (W.frame _ s' _ _ hst' c2 λ b hb o e=>kp b o (λ z=>hSf (z▸hb)) e) ht2 c3 (by rw[<-hsz];exact c4) (c5.trans hl) ?_ λ s'' es'' t'' hm'' hS'' hT'' hl'' hp''=>?_⟩
  .refine c6.trans ?_
   rw[zHg,hat];exact hp.append_right _
  .exact hR s'' es'' t'' (Moved.trans W.gtrans ((hm.mono hsb).then_heap c2 λ b o hb e=>kp b o (λ z=>hb (z▸zAK)) e) hm'') hS'' hT'' hl'' hp''
end
end VL
namespace PySem
section
variable{prog:zA3}{w:World}{A:zAj}{E:Value->zAH->Prop}{s:zAH}
theorem aH9(a:Value)(h:Q₁ (.ref s.heap.objs.size) {s with heap:=s.heap.push (VL.bc #[] 0 (.fresh 0 0 (!w.params.followText "set-order")))}):
  zBs (model prog w) A (.call (.builtin "set.__new__") ⟨[.type "set",a],[]⟩) (wants Q₁ E) s:=by
 refine zGg ?_;show wpAny _ A.in1 (zGW "set.__new__" ⟨[.type "set",a],[]⟩>>=λ _=>again (.builtin "set.__new__" ⟨[.type "set",a],[]⟩)) _ _ s;refine zAB (zF1 (F.newCall_set_1 a) (zAE ⟨zH9 zGQ _,zBd PySem.F.entry_set_new ?_⟩));rw[zBY zGQ _];unfold zCN.«set.__new__» zHt;have hsub:=sub_set_self;obtain⟨hp,g,d,tk,os⟩:=s;dsimp only;wp_walk;refine zDD (zAE ?_);dsimp only;simp only[newObj];exact zAB (wpAny_alloc (zAE (zAE h)))
set_option maxHeartbeats 3200000 in
theorem qR{l:Addr}{T:String}{oI:Obj}{Φ:Heap->Prop}{Q:Value->zAH->Prop}(hty:s.TypeIs (.ref l) T)(hsls:isSubtype (.type T) (.type "set")=pure false)(hslf:isSubtype (.type T) (.type "frozenset")=pure false)(hne:(zCL T==zCL "dict")=false)
  (hit:∀(zC:Heap) (A₁:zAj) (E₁:Value->zAH->Prop) (Q₁:Value->zAH->Prop),(∀b o,s.heap.get? b=some o->zC.get? b=some o)->Q₁ (.ref zC.objs.size) {s with heap:=zC.push oI}->wpAny (model prog w) A₁ (zHS (.ref l)) Q₁ E₁ {s with heap:=zC})
  (hrun:∀R:zFO->zAH->Prop,(∀h' tk,Φ h'->(∀b o,s.heap.get? b=some o->h'.get? b=some o)->R (.ok (.ret .none)) {s with heap:=h',toks:=tk})->
   zBs (model prog w) A.in1.in1 (.builtin "set.update.loop" ⟨[.ref s.heap.objs.size,.ref (s.heap.push (VL.bc #[] 0 (.fresh 0 0 (!w.params.followText "set-order")))).objs.size],[]⟩) R {s with heap:=(s.heap.push (VL.bc #[] 0 (.fresh 0 0 (!w.params.followText "set-order")))).push oI})
  (h:∀h' tk,Φ h'->(∀b o,s.heap.get? b=some o->h'.get? b=some o)->Q (.ref s.heap.objs.size) {s with heap:=h',toks:=tk}):
  wpAny (model prog w) A (call (.type "set") [.ref l]) Q E s:=by
 obtain⟨c,tl,hmro⟩:=zCy.mro;have hmade:=zCy.made;have hsub:=zCy.sub
 refine zHU (zGg ?_);show wpAny _ _ (callAny (.type "set") _) _ _ _;refine zAE ⟨zCx _ (by decide+kernel),zBd PySem.F.entry_type_call ?_⟩;rw[Around.under_plain (weight_type_call_type "set" [.ref l] []) rfl];have h1:=zCy.notType;have h2:=zCy.canCreate
 have hct:=F.typeCall_set_1 (.ref l);repeat (any_goals (first|assumption|wp_step))
 generalize hled:(!w.params.followText "set-order")=led at hrun;refine zDI (aH9 (.ref l) (E:=E) (Q₁:=λ obj zD=>obj= .ref s.heap.objs.size/\zD={s with heap:=s.heap.push (VL.bc #[] 0 (.fresh 0 0 led))}) ⟨rfl,by rw[hled]⟩) λ r zD hr=>?_
 cases r with
 |error e=>exact hr
 |ok fl=>
  cases fl with
  |ret obj=>
   obtain⟨rfl,rfl⟩:=hr;have hS:(s.heap.push (VL.bc #[] 0 (.fresh 0 0 led))).get? s.heap.objs.size=some (VL.bc #[] 0 (.fresh 0 0 led)):=zAJ _ rfl;have hT:zEn {s with heap:=s.heap.push (VL.bc #[] 0 (.fresh 0 0 led))} (.ref s.heap.objs.size) "set":=⟨_,hS,rfl⟩;have hli:=zCy.init.lookup;have hbi:=zCy.init.bind (.ref s.heap.objs.size)
   repeat (any_goals (first|assumption|wp_step))
   refine zDI (zFH (R:=wants (λ r zS=>r= .none/\∃h' tk,zS={s with heap:=h',toks:=tk}/\Φ h'/\(∀b o,s.heap.get? b=some o->h'.get? b=some o)) E) zCy.init.plain F.entry_set_init (check_set_init_1 hT ?_)) λ r₂ zS hr₂=>?_
   .obtain⟨ol,hol,hcl⟩:=hty
    obtain⟨ocls,odict,odata,oslots⟩:=ol;simp only at hcl;subst hcl;have hol':(s.heap.push (VL.bc #[] 0 (.fresh 0 0 led))).get? l=some {cls:=.type T,dict:=odict,data:=odata,slots:=oslots}:=zAC _ hol;unfold zCN.«set.__init__» noKeywords zHw;generalize hPI:zHS=PI;wp_walk;subst hPI;refine hit _ _ _ _ (λ b o e=>zAC _ e) (zAB (zHJ (hrun _ λ h' tk g1 g2=>?_)));show wpAny _ _ _ _ _ _;refine zAE ?_;show wpAny _ _ (ret zBJ) _ _ _;exact zAE ⟨rfl,h',tk,rfl,g1,g2⟩
   .cases r₂ with
    |error e=>exact hr₂
    |ok fl₂=>
     cases fl₂ with
     |ret r=>
      obtain⟨rfl,h',tk,rfl,g1,g2⟩:=hr₂
      repeat (any_goals (first|assumption|wp_step))
      exact h _ _ g1 g2
     |_=>exact hr₂.elim
  |_=>exact hr.elim
theorem aGu(hh:A.handled=none)(hu:A.units+8<cLine)(hl:s.heap.IsList l vs.toArray)(ht:VL.bh s.heap vs nss)(h64:vs.length<64)(hnd:(nss.map VL.hsh).Nodup)
  (h:∀h' tk es t,VL.SetT h' s.heap.objs.size es t->VL.fM t vs.length->t.led= !w.params.followText "set-order"->es.toList.Perm (VL.prs vs nss)->(∀b o,s.heap.get? b=some o->h'.get? b=some o)->Q (.ref s.heap.objs.size) {s with heap:=h',toks:=tk}):
  wpAny (model prog w) A (call (.type "set") [.ref l]) Q E s:=by
 obtain⟨ol,hol,hcl,nl,hdl⟩:=hl;have hlS:l<s.heap.objs.size:=zAO hol;have hl0:s.heap.IsList l vs.toArray:=⟨ol,hol,hcl,nl,hdl⟩;refine qR (T:="list") (Φ:=λ h'=>∃es t,VL.SetT h' s.heap.objs.size es t/\VL.fM t vs.length/\t.led=(!w.params.followText "set-order")/\es.toList.Perm (VL.prs vs nss)) ⟨ol,hol,hcl⟩ F.sub_list_set zHd (by decide)
  (λ zC A₁ E₁ Q₁ k q=>zE2 (s:={s with heap:=zC}) (items:=vs.toArray) ⟨ol,k _ _ hol,hcl,nl,hdl⟩ q) (λ R hR=>?_) λ h' tk ⟨es,t,g1,g2,g3,g4⟩ g5=>h h' tk es t g1 g2 g3 g4 g5
 generalize (!w.params.followText "set-order")=led at hR ⊢;have hS:(s.heap.push (VL.bc #[] 0 (.fresh 0 0 led))).get? s.heap.objs.size=some (VL.bc #[] 0 (.fresh 0 0 led)):=zAJ _ rfl;have hl1:(s.heap.push (VL.bc #[] 0 (.fresh 0 0 led))).IsList l vs.toArray:=⟨ol,zAC _ hol,hcl,nl,hdl⟩;have hh3:A.in1.in1.in1.handled=none:=by simp[hh]
 have hneI:l≠(s.heap.push (VL.bc #[] 0 (.fresh 0 0 led))).objs.size:=by rw[zBE];exact zAU (zBj hlS)
 have hSf:s.heap.objs.size∉[(s.heap.push (VL.bc #[] 0 (.fresh 0 0 led))).objs.size,l]:=by
  rw[zBE];simp only[zAL,zAh,or_false,not_or];exact⟨zAU (zBa _),zB4 hlS⟩
 have hvt:∀{us:List Value} {ms:List (List Int)},VL.bh s.heap us ms->∀x,.ref x∈us->x<s.heap.objs.size:=by
  intro us ms z;induction z with
  |nil=>intro x hx;simp at hx
  |cons ho _ _ _ _ _ ih=>
   intro x hx;rcases zAL.mp hx with e|hx
   .cases e;exact zAO ho
   .exact ih x hx
 refine VL.aGO ((zH5 hh3 _ l hneI vs.toArray).toS) s.heap.objs.size hSf (by simp) (by simp;omega) (by simpa using h64) hnd (λ x hx=>?_) led (vs.toArray.size-0) 0 _ #[] (.fresh 0 0 led) (by simp) (zAa _)
  ⟨⟨_,zAJ _ rfl,rfl,rfl⟩,(hl1.push _)⟩ (ht.mono λ x o e _=>zAC _ (zAC _ e)) ⟨0,zAC _ hS⟩ (VL.fM.fresh led) rfl (zBR _) ?hR
 case hR=>
  intro s' es t hm hS' hT' hl' hp';obtain⟨h',g',d',tk',os'⟩:=s';have eg:g'=s.gens:=hm.gens;have ed:d'=s.drawn:=hm.drawn;have eo:os'=s.os:=hm.os;subst eg;subst ed;subst eo;refine hR h' tk' ⟨es,t,hS',by simpa using hT',hl',hp'⟩ λ b o e=>hm.heap b o ?_ (zAC _ (zAC _ e))
  have hb:=zAO e;simp only[zAL,zAh,or_false,not_or];rw[zBE];exact⟨zAU hb,zAU (zBj hb)⟩
 have:=hvt ht x hx
 simp only[zAL,zAh,or_false];rw[zBE];exact zAU (zBj this)
end
end PySem
namespace VL
open PySem PySem.Spec PyProof.Rows L2
theorem aDZ:∀{l:List α} {i:Nat} (h:i<l.length),(l[i]::l.eraseIdx i).Perm l
 |a::l,0,_=>zBR _
 |a::l,i+1,h=>by
  have h':i<l.length:=by simpa using h
  have ih:=aDZ (l:=l) (i:=i) h'
  show(l[i]::a::l.eraseIdx i).Perm (a::l)
  exact(zD3 _ _ _).trans (ih.cons a)
theorem aF2(next:Nat->Nat):∀(f k:Nat) (left:List α) (out:Array α),left.length<=f->(pickOrder.go next f k left out).toList.Perm (out.toList++left)
 |0,k,left,out,h=>by
  have:left=[]:=zG4.mp (by omega)
  subst this;rw[zAy];exact zBR _
 |f+1,k,left,out,h=>by
  unfold pickOrder.go;cases left with
  |nil=>simp
  |cons a l=>
   have hlt:next k%(a::l).length<(a::l).length:=zEC _ (by simp)
   rw[zAD hlt];dsimp only;refine(aF2 next f (k+1) _ _ (by rw[List.length_eraseIdx];simp only[hlt,if_true];simp at h ⊢;omega)).trans ?_;rw[zFD,zBg];exact List.Perm.append_left _ (aDZ hlt)
theorem aGT(next:Nat->Nat)(xs:Array α):(pickOrder next xs).toList.Perm xs.toList:=by
 have:=aF2 next xs.size 0 xs.toList #[] (by simp)
 unfold pickOrder;simpa using this
def tY(w:World)(d:Addr)(ep:Nat)(es:Array (Int×Value)):Array (Int×Value):=if w.params.followText "set-order" then pickOrder (w.params.setOrder d ep) es else es
theorem ql(w:World)(d:Addr)(ep:Nat)(es:Array (Int×Value)):(tY w d ep es).toList.Perm es.toList:=by
 unfold tY;split
 .exact aGT _ _
 .exact zBR _
def slotAt(w:World)(t:zCq):Nat->Nat
 |0=>0
 |i+1=>if w.params.followText "set-order" then 0 else t.place.getD i 0+1
theorem aFC(T:fM t n)(hf:w.params.followText "set-order"=false):∀i,i<=n->zAl t.place (slotAt w t i)=i
 |0,_=>by
  obtain⟨b1,b2,b3⟩:=vM T.ris 0;show zAl t.place 0=0;cases h:zAl t.place 0 with
  |zero=>rfl
  |succ k=>
   rw[h]at b2
   have:=b2 0 (by omega)
   omega
 |i+1,hi=>by
  unfold slotAt;rw[hf];simp only[zAn,if_false];obtain⟨b1,b2,b3⟩:=vM T.ris (t.place.getD i 0+1);have hs:=T.siz;rcases zIE (zAl t.place (t.place.getD i 0+1)) (i+1)with z|z|z
  .have:=b3 i (by omega) (by omega)
   omega
  .exact z
  .have h1:=b2 (i+1) (by omega)
   have h2:=T.ris i (i+1) (by omega) (by omega);omega
section
variable{prog:zA3}{w:World}{A:zAj}{E:Value->zAH->Prop}{s:zAH}{d:Addr}{es:Array (Int×Value)}{ep:Nat}{t:zCq}
theorem yq(ho:s.heap.get? d=some (bc es ep t))(T:fM t es.size)(hled:t.led= !w.params.followText "set-order")(hi:i<=es.size)
  (h:Q (((tY w d ep es)[i]?).map λ e=>(e.2,slotAt w t (i+1))) s):wpAny (model prog w) A (setNext d (slotAt w t i) i ep) Q E s:=by
 unfold setNext;refine zAB (zBn ho rfl T.fits ?_);dsimp only;unfold zIz;refine zAB (zAB (zDD (zAE ?_)));show wpAny _ _ (if w.params.followText "set-order"=true then _ else _) _ _ _;unfold tY at h;cases hf:w.params.followText "set-order" with
 |true=>
  rw[hf]at h;simp only[if_true]at h ⊢;simp only[bne_self_eq_false,zAn,if_false];unfold setWalk;refine zAB (zAB (zBn ho rfl T.fits ?_));dsimp only;unfold zIz;refine zAB (zAB (zDD (zAE ?_)));show wpAny _ _ (if w.params.followText "set-order"=true then _ else _) _ _ _;rw[hf];simp only[if_true];refine zAB (zDD (zAE (zAE ?_)));have e1:slotAt w t (i+1)=slotAt w t i:=by
   unfold slotAt;cases i with
   |zero=>simp[hf]
   |succ i=>simp[hf]
  rw[e1]at h;exact h
 |false=>
  rw[hf]at h hled;simp only[zAn,if_false]at h ⊢;have hd:(!t.plain&&decide (es.size>1))=false:=by rw[T.pla];rfl
  show wpAny _ _ (if (!t.plain&&decide (es.size>1))=true then _ else _) _ _ _;rw[hd];simp only[zAn,if_false];refine zAB ?_;show wpAny _ _ (if (!t.led&& !es.isEmpty)=true then _ else _) _ _ _;rw[hled];simp only[zIV,zG1,zIU,zAn,if_false];refine zAE ?_;rw[aFC T hf i hi];have hslot:slotAt w t (i+1)=t.place.getD i 0+1:=by unfold slotAt;rw[hf];rfl
  rw[hslot]at h;by_cases hlt:i<es.size
  .have h1:es[i]? =some es[i]:=zBi hlt
   have hlt2:i<t.place.size:=by rw[T.siz];exact hlt
   have h2:t.place[i]? =some (t.place.getD i 0):=by
    rw[zBi hlt2];simp[zC8,hlt2]
   rw[h1,h2];rw[h1]at h;exact zAE h
  .have h1:es[i]? =none:=zG0 (by omega)
   rw[h1];rw[h1]at h;exact zAE h
theorem cG:PySem.Slot "set_iterator" "__next__" "set_iterator.__next__":=
 .of (owner:="set_iterator") (n:="__next__") (by rw[zEv,zD4];kernel_rfl) (by decide+kernel) (by decide+kernel) (by decide+kernel) (.inl (by decide+kernel)) (by rw[zHI];kernel_rfl)
theorem mJ:PySem.Slot "set_iterator" "__iter__" "set_iterator.__iter__":=
 .of (owner:="set_iterator") (n:="__iter__") (by rw[zEv,zD4];kernel_rfl) (by decide+kernel) (by decide+kernel) (by decide+kernel) (.inl (by decide+kernel)) (by rw[zHI];kernel_rfl)
theorem lY:zH6 table "set_iterator.__next__"=some zCN.«set_iterator.__next__»:=entryFor_of_fast (by kernel_rfl)
theorem uG:zH6 table "set_iterator.__iter__"=some zCN.«dict_keyiterator.__iter__»:=entryFor_alias (id':="dict_keyiterator.__iter__") (by kernel_rfl) rfl (by decide+kernel) (by kernel_rfl)
theorem xn:zH6 table "set.__iter__"=some zCN.«frozenset.__iter__»:=entryFor_alias (id':="frozenset.__iter__") (by kernel_rfl) rfl (by decide+kernel) (by kernel_rfl)
theorem mV(a:Value):argsOk "set_iterator.__next__" ⟨[a],[]⟩:=by unfold argsOk;kernel_rfl
theorem vN(a:Value):argsOk "set_iterator.__iter__" ⟨[a],[]⟩:=by unfold argsOk;kernel_rfl
end
section
variable{prog:zA3}{w:World}{A:zAj}{E:Value->zAH->Prop}{s:zAH}{d I:Addr}{es:Array (Int×Value)}{ep:Nat}{t:zCq}{i':Nat}
abbrev aIy(d:Addr)(sl i n ep:Nat):Obj:={cls:=.type "set_iterator",data:=.fields #[.int sl 0,.int i 0,.ref d,.int n 0,.int ep 0]}
def aLs(h:Heap)(I d:Addr)(sl i n ep:Nat):Prop:=h.get? I=some (aIy d sl i n ep)
theorem aIw{h:Heap}{sl i n ep k:Nat}(e:h.get? I=some {cls:=.type "set_iterator",data:=.fields vs}):(h.update I (zIr (·.setIfInBounds k x))).get? I=some {cls:=.type "set_iterator",data:=.fields (vs.setIfInBounds k x)}:=by
 have:=zE3 (zIr (·.setIfInBounds k x)) e (zHD (zFF rfl _))
 rw[this];rfl
theorem aEA(hI:aLs s.heap I d (slotAt w t i') i' es.size ep)(ho:s.heap.get? d=some (bc es ep t))(T:fM t es.size)(hled:t.led= !w.params.followText "set-order"){v:Value}(hi:i'<es.size)(hv:((tY w d ep es)[i']?).map (·.2)=some v){Q:Option Value->zAH->Prop}
  (h:∀h',aLs h' I d (slotAt w t (i'+1)) (i'+1) es.size ep->zDU I s.heap h'->Q (some v) {s with heap:=h'}):wpAny (model prog w) A (zEd (.ref I)) Q E s:=by
 have hT:s.TypeIs (.ref I) "set_iterator":=⟨_,hI,rfl⟩;unfold zEd;refine zAB (zEb (zBF (name:=zCT "__next__") hT cG (zBO cG hT lY ?_ (mV _))));show wpAny _ _ (fieldsOf (.ref I)>>=_) _ _ s;refine zAB (wpAny_fieldsOf hI rfl ?_);dsimp only;refine zAB ?_;unfold setEntries;refine zAB (zBn ho rfl T.fits (zAE ?_));simp only[bne_self_eq_false,zAn,if_false];refine zAB ?_;simp only[zB3];refine yq ho T hled (zBm hi) ?_;cases hq:(tY w d ep es)[i']? with
 |none=>rw[hq]at hv;cases hv
 |some e=>
  rw[hq]at hv;cases hv;dsimp only[zC5];refine zAB (zEQ hI rfl (by simp) ?_);have e1:=aIw (h:=s.heap) (I:=I) (k:=0) (x:=zEZ (slotAt w t (i'+1))) (sl:=0) (i:=0) (n:=0) (ep:=0) hI;refine zAB (zEQ e1 rfl (by simp) ?_);have e2:=aIw (k:=1) (x:=zEZ (i'+1)) (sl:=0) (i:=0) (n:=0) (ep:=0) e1;exact zAE ⟨_,rfl,zAE (h _ e2 ((zB7 ..).trans (zB7 ..)))⟩
theorem aGN(hh:A.handled=none)(hI:aLs s.heap I d (slotAt w t es.size) es.size es.size ep)(ho:s.heap.get? d=some (bc es ep t))(T:fM t es.size)(hled:t.led= !w.params.followText "set-order")
  (h:∀h',zFi I s.heap h'->Q none {s with heap:=h'}):wpAny (model prog w) A (zEd (.ref I)) Q E s:=by
 have hT:s.TypeIs (.ref I) "set_iterator":=⟨_,hI,rfl⟩;unfold zEd;refine zAB (zEb (zBF (name:=zCT "__next__") hT cG (zBO cG hT lY ?_ (mV _))));show wpAny _ _ (fieldsOf (.ref I)>>=_) _ _ s;refine zAB (wpAny_fieldsOf hI rfl ?_);dsimp only;refine zAB ?_;unfold setEntries;refine zAB (zBn ho rfl T.fits (zAE ?_));simp only[bne_self_eq_false,zAn,if_false];refine zAB ?_;simp only[zB3];refine yq ho T hled (zAP _) ?_;have hq:(tY w d ep es)[es.size]? =none:=zG0 (by
  have:=(ql w d ep es).length_eq
  rw[zA7,zA7]at this;lia)
 rw[hq];dsimp only[zHi];refine zAB (zEQ hI rfl (by simp) ?_);show wpAny _ _ (newExc (.type "StopIteration") []>>=_) _ _ _;refine zAB ?_;simp only[newExc,newTuple];refine zAB (zAv (zAB (m:=zFP _ _) (zF1 (a:=zBJ) (by first|rfl|(simp only[zFP];rfl)) (zAv ?_ (by size_fits)))) (by size_fits));simp only[raiseNew];refine zAB (wpAny_handled ?_);rw[show A.in1.handled=none from hh];refine zAB (zAE (wpAny_throw ?_));refine zAB (zEe (T:="StopIteration") (b:=true) ⟨_,zAJ _ rfl,rfl⟩ zHH ?_);exact zAE (h _ (((zB7 ..).extBut.push _).push _))
theorem aGG(hh:A.handled=none)(I d:Addr)(hne:d≠I)(es:Array (Int×Value))(ep:Nat)(t:zCq)(T:fM t es.size)(hled:t.led= !w.params.followText "set-order"):
  Walks prog w A I [I,d] [I] es.size (λ i v=>((tY w d ep es)[i]?).map (·.2)=some v) (λ i h=>aLs h I d (slotAt w t i) i es.size ep/\h.get? d=some (bc es ep t)) where
 sub:=λ b hb=>by simp at hb;simp[hb]
 frame:=λ _ _ _ st hk=>⟨hk I (by simp) _ st.1,hk d (by simp) _ st.2⟩
 item:=λ i s Q E hi st hQ=>by
  have hl:i<(tY w d ep es).size:=by
   have:=(ql w d ep es).length_eq
   rw[zA7,zA7]at this;lia
  have hv:((tY w d ep es)[i]?).map (·.2)=some (tY w d ep es)[i].2:=by rw[zBi hl];rfl
  refine aEA st.1 st.2 T hled hi hv λ h' hI' hs'=>?_
  exact hQ _ h' s.toks hv ⟨hI',by rw[hs'.2 d hne];exact st.2⟩ λ b o hb e=>hs'.extBut b o (λ h=>hb (by simp[h])) e
 done:=λ s Q E st hQ=>aGN hh st.1 st.2 T hled λ h' he'=>hQ h' s.toks λ b o hb e=>he' b o (λ h=>hb (by simp[h])) e
 self:=λ i s Q E st hQ=>by
  have hT:s.TypeIs (.ref I) "set_iterator":=⟨_,st.1,rfl⟩;refine zJE hT mJ (zBO mJ hT uG ?_ (vN _));show wpAny _ _ (ret (.ref I)) _ _ s;exact zAE ⟨_,rfl,"set_iterator",_,hT,cG.lookup,hQ⟩
theorem aER(ho:s.heap.get? d=some (bc es ep t))(T:fM t es.size)(h:Q (.ref s.heap.objs.size) {s with heap:=s.heap.push (aIy d 0 0 es.size ep)}):wpAny (model prog w) A (zHS (.ref d)) Q E s:=by
 have hT:s.TypeIs (.ref d) "set":=⟨_,ho,rfl⟩;refine zJE hT zGR (zBO zGR hT xn ?_ (PySem.F.args_set_iter_1 _));unfold zCN.«frozenset.__iter__» zHv slotArgs;simp only[List.isEmpty_nil,zG1,zAn,↓reduceIte,bind_assoc,zBN,bne_self_eq_false];unfold zHs zHu;refine zAB (zAE (zAB (zAE (zAB (zAB (wpAny_setEntries_of ho rfl T.fits (zAE ?_)))))));unfold setDrawn;refine zAB (zAB (zBn ho rfl T.fits ?_));dsimp only;unfold zIz;refine zAB (zAB (zDD (zAE (zAE ?_))));have hd:(!w.params.followText "set-order"&&(!t.plain&&decide (es.size>1)))=false:=by rw[T.pla];simp
 show wpAny _ _ (if (!w.params.followText "set-order"&&(!t.plain&&decide (es.size>1)))=true then _ else _) _ _ _;rw[hd];simp only[zAn,if_false];refine zAB (zAE (zAB (wpAny_setEpoch_of ho rfl T.fits ?_)));simp only[newFields];refine zAB (zAv (zAE ⟨_,rfl,"set_iterator",_,⟨_,zAJ _ rfl,rfl⟩,cG.lookup,?_⟩));exact h
theorem aJI(hT:s.TypeIs (.ref r) "set")(h:Q false s):wpAny (model prog w) A (zEm (.ref r)) Q E s:=by
 unfold zEm;refine zAB (zEw hT PySem.F.slot_set_len.lookup ?_);generalize hid:("set.__len__":String)=id0;wp_delta;rw[show splitId id0=some ("set","__len__")from by subst hid;decide+kernel];subst hid;refine zAB (zEe (T:="set") (b:=true) hT (by rw[zHI];kernel_rfl) ?_);refine wpAny_ite_split (λ hab=>absurd hab (by decide)) λ _=>wpAny_ite_split (λ _=>?_) λ hab=>absurd (by decide+kernel) hab
 exact zAB (zD5 hT (zAE h))
theorem aKE(T:fM t es.size)(hled:t.led= !w.params.followText "set-order"):zHl prog w "set" d d es.size (λ i v=>((tY w d ep es)[i]?).map (·.2)=some v) (λ h=>h.get? d=some (bc es ep t)) where
 type:=λ _ hm=>⟨_,hm,rfl⟩
 there:=λ _ hm=>⟨zAO hm,zAO hm⟩
 keep:=λ _ _ hm hk=>hk d (.inl rfl) _ hm
 notList:=by decide
 notTuple:=by decide
 hint:=λ _ _ _ _ hm hq=>aJI ⟨_,hm,rfl⟩ hq
 iter:=λ A s hh hm=>⟨aIy d 0 0 es.size ep,_,(λ _ _ hq=>aER hm T hq),aGG hh _ d (zAU (zAO hm)) es ep t T hled,⟨zAJ _ rfl,zAC _ hm⟩⟩
end
section
variable{prog:zA3}{w:World}{A:zAj}{E:Value->zAH->Prop}{s:zAH}{T:String}{r d:Addr}{n:Nat}{P:Nat->Value->Prop}{OK:Heap->Prop}
theorem aDa(K:zHl prog w T r d n P OK)(hh:A.handled=none)(hok:OK s.heap)(hn:n<=zAV)
  (h:∀h' tk vs,s.heap.objs.size<h'.objs.size->(∀b o,s.heap.get? b=some o->h'.get? b=some o)->vs.length=n->(∀(j:Nat) v,vs[j]? =some v->P j v)->Q vs {s with heap:=h',toks:=tk}):wpAny (model prog w) A (collect (.ref r)) Q E s:=by
 have hlt:=K.there _ hok;unfold collect;refine zAB (zHJ (zBd PySem.F.entry_proto_collect ?_));rw[zBY PySem.F.plain_proto_collect _];show wpAny _ A.in1 (zGj []>>=λ l=>again (.builtin "list.__iadd__" ⟨[l,.ref r],[]⟩)) _ _ s;refine zAB (zAv (zAE ⟨zH9 zFv _,zBd PySem.F.entry_list_iadd ?_⟩));rw[zBY zFv _];show wpAny _ A.in1 (Builtin.List.listExtendWith (.ref s.heap.objs.size) (.ref r) (.ref s.heap.objs.size)) _ _ _;have fin:∀h' tk acc' c',(∀b o,b≠s.heap.objs.size->(s.heap.push (zCV "list" #[] 0)).get? b=some o->h'.get? b=some o)->h'.get? s.heap.objs.size=some {cls:=.type "list",dict:=none,data:=.seq acc' c',slots:=#[]}->ItemsOf P acc' n->
   wpAny (model prog w) A (do match (zBC s.heap.objs.size)with
    | .ref a=>match (<-load a).data with
     | .seq xs _=>pure xs.toList
     |_=>unsupported "internal:collect"
    |_=>unsupported "internal:collect") Q E {s with heap:=h',toks:=tk}:=λ h' tk acc' c' hk hS' hacc=>
  zAB (wpAny_load hS' (zAE (h h' tk acc'.toList (zAO hS') (λ b o e=>hk b o (zAU (zAO e)) (zAC _ e)) (by rw[zA7];exact hacc.1) λ j v e=>hacc.2 j v (by rw[<-zBT];exact e))))
 refine zAz (PySem.W.kdl_extend (A:=A) (s:={s with heap:=s.heap.push (zCV "list" #[] 0)}) (R:=λ r s'=>∃h' tk acc' c',r= .ok (.ret (.ref s.heap.objs.size))/\s'={s with heap:=h',toks:=tk}/\(∀b o,b≠s.heap.objs.size->(s.heap.push (zCV "list" #[] 0)).get? b=some o->h'.get? b=some o)/\h'.get? s.heap.objs.size=some {cls:=.type "list",dict:=none,data:=.seq acc' c',slots:=#[]}/\ItemsOf P acc' n)
  K hh (K.keep _ _ hok λ b _ o e=>zAC _ e) s.heap.objs.size (zB4 hlt.1) (zB4 hlt.2) (.ref s.heap.objs.size) 0 (zAJ _ rfl) (λ h' tk acc' c' hk hS' hacc=>⟨h',tk,acc',c',rfl,rfl,hk,hS',hacc⟩) hn) (λ f s' hf=>?_) λ e s' he=>?_
 .cases f with
  |done f=>
   obtain⟨h',tk,acc',c',q1,q2,q3,q4,q5⟩:=hf;cases q1;subst q2;exact fin h' tk acc' c' q3 q4 q5
  |again c=>
   refine⟨hf.1,zDI hf.2 λ r s' hr=>?_⟩;obtain⟨h',tk,acc',c',q1,q2,q3,q4,q5⟩:=hr;subst q1 q2;exact fin h' tk acc' c' q3 q4 q5
 .obtain⟨h',tk,acc',c',q1,_⟩:=he
  cases q1
end
def aLq(h:Heap)(p:Value×List Int):Prop:=∃x o xs k,p.1= .ref x/\h.get? x=some o/\o.cls= .type "tuple"/\o.data= .seq xs k/\zBS xs.toList p.2/\p.2≠[]
theorem bh.all:∀{vs:List Value} {nss:List (List Int)},bh h vs nss->∀p∈vs.zip nss,aLq h p
 |_,_,.nil,p,hp=>by simp at hp
 |_,_,.cons ho hc hd hi hne r,p,hp=>by
  rw[zBP]at hp;rcases zAL.mp hp with e|hp
  .subst e;exact⟨_,_,_,_,rfl,ho,hc,hd,hi,hne⟩
  .exact r.all p hp
theorem aFK:∀{zs:List (Value×List Int)},(∀p∈zs,aLq h p)->bh h (zs.map (·.1)) (zs.map (·.2))
 |[],_=>.nil
 |p::zs,hz=>by
  obtain⟨x,o,xs,k,e1,e2,e3,e4,e5,e6⟩:=hz p zAK;rw[zAG,zAG,e1];exact .cons e2 e3 e4 e5 e6 (aFK λ q hq=>hz q (zAM _ hq))
theorem oN(h:l.Perm m'):∀{m:List α},m'=m.map f->∃m2:List α,m2.Perm m/\l=m2.map f:=by
 induction h with
 |nil=>intro m e;exact⟨m,zBR _,e⟩
 |cons x p ih=>
  intro m e;cases m with
  |nil=>cases e
  |cons a m=>
   rw[zAG]at e;injection e with e1 e2
   obtain⟨m2,q1,q2⟩:=ih e2;exact⟨a::m2,q1.cons a,by rw[zAG,q2,e1]⟩
 |swap x y l=>
  intro m e;cases m with
  |nil=>cases e
  |cons a m=>
   cases m with
   |nil=>rw[zAG]at e;injection e with _ e2;cases e2
   |cons b m=>
    rw[zAG,zAG]at e;injection e with e1 e2
    injection e2 with e2 e3
    exact⟨b::a::m,zD3 _ _ _,by rw[zAG,zAG,e1,e2,e3]⟩
 |trans p q ih1 ih2=>
  intro m e;obtain⟨m2,a1,a2⟩:=ih2 e;obtain⟨m3,b1,b2⟩:=ih1 a2;exact⟨m3,b1.trans a1,b2⟩
def vR(l:List (List Int)):Prop:=l.Pairwise λ a b=>HT.lexLt b a=false
section
variable{prog:zA3}{w:World}{A:zAj}{E:Value->zAH->Prop}{s:zAH}
theorem aCe{Q:Value->zAH->Prop}(hz:∀p∈zs,aLq s.heap p)(h64:zs.length<64)
  (h:∀(zs':List (Value×List Int)) h' e,zs'.Perm zs->vR (zs'.map (·.2))->(∀b o,s.heap.get? b=some o->h'.get? b=some o)->h'.get? s.heap.objs.size=some (zCV "list" (zs'.map (·.1)).toArray e)->Q (.ref s.heap.objs.size) {s with heap:=h'}):
  wpAny (model prog w) A (zGj (zs.map (·.1))>>=λ l=>zEu [l] (call (.builtin "list.sort") [l])>>=λ _=>ret l) (λ fin s'=>∃r,fin= .done (.ret r)/\Q r s') E s:=by
 have hlen:(zs.map (·.1)).length=zs.length:=zAF _;refine zAB (wpAny_newList ?_ (by rw[zBw];omega));have hoL:(s.heap.push (zCV "list" (zs.map (·.1)).toArray 0)).get? s.heap.objs.size=some (zCV "list" (zs.map (·.1)).toArray 0):=zAJ _ rfl;refine zAB (zBo (zBO slot_list_sort ⟨_,hoL,rfl⟩ entry_list_sort ?_ (args_list_sort _)));refine aEc (s:={s with heap:=s.heap.push (zCV "list" (zs.map (·.1)).toArray 0)}) hoL (aFK λ p hp=>?_) (by omega) λ p a1 a2=>⟨_,rfl,?_⟩
 .obtain⟨x,o,xs,k,e1,e2,e3⟩:=hz p hp
  exact⟨x,o,xs,k,e1,zAC _ e2,e3⟩
 rw[hlen]at a1 a2;have hmap:p.toList.map (λ i=>(zs.map (·.1)).getD i zBJ)=(p.toList.map λ i=>zs.getD i (zBJ,[])).map (·.1):=by
  rw[zAu];refine zCQ λ i hi=>?_
  show(zs.map (·.1)).getD i zBJ=(zs.getD i (zBJ,[])).1
  rw[zAZ,zAZ,zAT];cases zs[i]?<;>rfl
 have hperm:(p.toList.map λ i=>zs.getD i (zBJ,[])).Perm zs:=by
  have h1:p.toList.Perm (zAb zs.length):=by
   have:=Array.perm_iff_toList_perm.mp a1
   simpa using this
  refine(h1.map _).trans ?_
  have:(zAb zs.length).map (λ i=>zs.getD i (zBJ,[]))=zs:=by
   refine zF4 (by simp) λ i h1 h2=>?_
   rw[zCY,zH0,zAZ,zAD h2];rfl
  rw[this]
 have hne:∀b o,s.heap.get? b=some o->b≠s.heap.objs.size:=λ b o e=>zAU (zAO e)
 obtain⟨e1,he1⟩:∃e1,((s.heap.push (zCV "list" (zs.map (·.1)).toArray 0)).update s.heap.objs.size (zCe λ _=>(#[]:Array Value))).get? s.heap.objs.size=some (zCV "list" #[] e1):=⟨_,zGh hoL λ _=>#[]⟩
 have g1:=zAC (zCV "list" #[] 0) (zAC (zCV "tuple" (zs.map (·.1)).toArray 0) he1);have g2:=zGh g1 (λ _=>rH (zs.map (·.1)) p);generalize (if ((rH (zs.map (·.1)) p).size==(#[]:Array Value).size)=true then e1 else e1+1)=c1 at g2;have hend:(zHT (s.heap.push (zCV "list" (zs.map (·.1)).toArray 0)) s.heap.objs.size (zs.map (·.1)) (rH (zs.map (·.1)) p)).get? s.heap.objs.size=some (zCV "list" (rH (zs.map (·.1)) p) c1):=g2;have hout:rH (zs.map (·.1)) p=((p.toList.map λ i=>zs.getD i (zBJ,[])).map (·.1)).toArray:=by unfold rH;rw[hmap]
 have hris:vR ((p.toList.map λ i=>zs.getD i (zBJ,[])).map (·.2)):=by
  unfold vR;rw[zAu];refine zCm.mpr λ i j hi hj hij=>?_
  rw[zAF,zA7,a1.sz]at hi hj;have hk:∀k (hk:k<zs.length),Kp (O:=aEd) (λ i=>(zs.map (·.2)).getD i []) p k=(zs.getD (p.getD k 0) (zBJ,[])).2:=λ k hk=>by
   show(zs.map (·.2)).getD (p.getD k 0) []=_
   rw[zAZ,zAZ,zAT];cases zs[p.getD k 0]?<;>rfl
  have hg:∀k (hk:k<p.toList.length),p.toList[k]=p.getD k 0:=λ k hk=>by
   have:k<p.size:=by simpa using hk
   simp[zC8,this]
  have this:HT.lexLt (Kp (O:=aEd) (λ i=>(zs.map (·.2)).getD i []) p j) (Kp (O:=aEd) (λ i=>(zs.map (·.2)).getD i []) p i)=false:=a2 i j (zBm hij) hj;rw[hk i hi,hk j hj]at this;rw[zCY,zCY,hg,hg];exact this
 have hkeep:∀b o,s.heap.get? b=some o->(zHT (s.heap.push (zCV "list" (zs.map (·.1)).toArray 0)) s.heap.objs.size (zs.map (·.1)) (rH (zs.map (·.1)) p)).get? b=some o:=λ b o e=>by
  unfold zHT;rw[zD7 _ _ _ _ (hne b o e)];refine zAC _ (zAC _ ?_);rw[zD7 _ _ _ _ (hne b o e)];exact zAC _ e
 rw[hout]at hend hkeep;have hq:=h (p.toList.map λ i=>zs.getD i (zBJ,[])) _ c1 hperm hris hkeep hend;rw[<-hout]at hq;exact zAE ⟨_,rfl,hq⟩
theorem uV(h:wpAny (model prog w) A.in1 (collect v) (λ vs s'=>wpAny (model prog w) A.in1 (zGj vs>>=λ l=>zEu [l] (call (.builtin "list.sort") [l])>>=λ _=>ret l) (λ fin s'=>∃r,fin= .done (.ret r)/\Q r s') E s') E s):
  wpAny (model prog w) A (call (.builtin "sorted") [v]) Q E s:=by
 refine Calls.call_function_entry kind_sorted plain_sorted entry_sorted (args_sorted1 _) ?_;unfold zCN.«sorted»;refine zAB (m:=checkCount "sorted" 1 1 _) (zAE (zAB ?_));exact h
end
inductive fK(K:zAA)(H:Hp):List V->List (List Int)->Prop where
 |nil:fK K H [] []
 |cons {a:Addr} {ns:List Int} {vs:List V} {nss:List (List Int)} (h:SqT K H a (ns.map V.int)) (hne:ns≠[]) (r:fK K H vs nss):fK K H (.ref a::vs) (ns::nss)
def lK:V->Value
 | .ref a=>.ref a
 |_=>.none
theorem fK.vals{K:zAA}:∀{vs:List V} {nss:List (List Int)} {us:List Value},fK K H vs nss->Vals vs us->us=vs.map lK:=by
 intro vs nss us t v;induction v generalizing nss with
 |nil=>rfl
 |cons q s ih=>
  cases t with
  |cons _ _ r=>
   cases q;rw[zAG,ih r];rfl
theorem fK.len{K:zAA}:∀{vs:List V} {nss:List (List Int)},fK K H vs nss->vs.length=nss.length
 |_,_,.nil=>rfl
 |_,_,.cons _ _ r=>by rw[zA9,zA9,r.len]
theorem fK.refs{K:zAA}:∀{vs:List V} {nss:List (List Int)},fK K H vs nss->∀v∈vs,RelV v (lK v)
 |_,_,.nil,v,hv=>by simp at hv
 |_,_,.cons _ _ r,v,hv=>by
  rcases zAL.mp hv with e|hv
  .subst e;exact rfl
  .exact r.refs v hv
theorem fK.up{K:zAA}(s:aW H H'):∀{vs:List V} {nss:List (List Int)},fK K H vs nss->fK K H' vs nss
 |_,_,.nil=>.nil
 |_,_,.cons h hne r=>.cons (s.sqt h) hne (r.up s)
theorem fK.at(I:Inv X pins Z H s):∀{vs:List V} {nss:List (List Int)},fK X.K H vs nss->bh s.heap (vs.map lK) nss
 |_,_,.nil=>.nil
 |_,_,.cons h hne r=>by
  obtain⟨its,rv,⟨o,ho,hc,n,hd⟩,_⟩:=I.tuple h;exact .cons ho hc hd (by simpa using intsAre_of rv) hne (r.at I)
theorem aAq:∀{vs:List V},(∀v∈vs,RelV v (lK v))->Vals vs (vs.map lK)
 |[],_=>.nil
 |v::vs,h=>.cons (h v zAK) (aAq λ u hu=>h u (zAM _ hu))
def setφ(w:World)(a:Addr)(us:List Value)(nss:List (List Int)):Heap->Prop:=λ h=>∃es ep t,h.get? a=some (bc es ep t)/\fM t es.size/\t.led=(!w.params.followText "set-order")/\es.toList.Perm (prs us nss)
section
variable{X:Cx}
def aME(K:zAA)(w:World):List V->Hp->VK->Prop:=λ xs H Q=>∃p vs nss,xs=[.ref p]/\SqL K H p vs/\fK K H vs nss/\vs.length<64/\(nss.map hsh).Nodup/\∀a H',aW H H'->H' a=some (.ext (setφ w a (vs.map lK) nss))->H a=none->Q (.ref a) H'
theorem aEz(hc:X.calm=true)(hu:X.A.units+64<cLine):dj X (.type "set") (aME X.K X.w):=by
 intro pins s Z H xs us Q I r h;obtain⟨p,vs,nss,rfl,hp,ht,h64,hnd,q⟩:=h;obtain⟨u,rfl,ru⟩:=vals1 r;cases ru;obtain⟨its,rv,pl,hz⟩:=I.list hp;have e:=ht.vals rv;subst e;refine PySem.aGu (I.ok.hd hc) (by lia) pl.isList (ht.at I) (by rw[zAF];exact h64) hnd λ h' tk es t g1 g2 g3 g4 g5=>?_
 have hfr:H s.heap.objs.size=none:=I.hok.fresh (zAP _);obtain⟨ep,ge⟩:=g1;have hsz:es.size=(vs.map lK).length:=by rw[<-zA7,g4.length_eq,yF (ht.at I).len]
 refine⟨.ref s.heap.objs.size,upd H s.heap.objs.size (.ext (setφ X.w s.heap.objs.size (vs.map lK) nss)),I.laid (t':=tk) g5 (zAP _) ⟨⟨es,ep,t,ge,by rw[hsz];exact g2,g3,g4⟩,⟨_,ge⟩,λ h1 h2 ⟨es,ep,t,e1,e2⟩ k=>⟨es,ep,t,k _ e1,e2⟩⟩,rfl,q _ _ (bA hfr _) aj hfr⟩
def aGC(H:Hp)(vs:List V)(nss:List (List Int))(Q:VK):Prop:=∀zs:List (V×List Int),zs.Perm (vs.zip nss)->vR (zs.map (·.2))->New H (.lst (zs.map (·.1))) Q
theorem yh{pins:List (Addr×Obj)}(I:Inv X pins Z H s)(ht:fK X.K H vs nss)(h64:vs.length<64)(q:aGC H vs nss Q)
  (hs1:∃h1 tk,s1={s with heap:=h1,toks:=tk}/\s.heap.objs.size<=h1.objs.size/\∀b o,s.heap.get? b=some o->h1.get? b=some o){zs:List (Value×List Int)}(hz:zs.Perm ((vs.map lK).zip nss))(hus:us=zs.map (·.1)):
  wpAny (model X.prog X.w) X.A.in1 (zGj us>>=λ l=>zEu [l] (call (.builtin "list.sort") [l])>>=λ _=>ret l) (λ fin s'=>∃r,fin= .done (.ret r)/\EP X pins Z Q r s') X.xe s1:=by
 obtain⟨h1,tk,rfl,hsz,keep⟩:=hs1;subst hus;have hall:∀p∈zs,aLq h1 p:=λ p hp=>by
  obtain⟨x,o,xs,k,e1,e2,e3⟩:=(ht.at I).all p (hz.mem_iff.mp hp);exact⟨x,o,xs,k,e1,keep _ _ e2,e3⟩
 have hlen:zs.length<64:=by
  rw[hz.length_eq,zD9,zAF,<-ht.len,zE9];exact h64
 refine aCe (s:={s with heap:=h1,toks:=tk}) hall hlen λ zs' h' e a1 a2 a3 a4=>?_
 have hmap:(vs.map lK).zip nss=(vs.zip nss).map λ p=>(lK p.1,p.2):=by rw[List.zip_map_left];rfl
 obtain⟨ws,w1,w2⟩:=oN (f:=λ p:V×List Int=>(lK p.1,p.2)) (a1.trans hz) hmap;have hfr:H h1.objs.size=none:=I.hok.fresh hsz;have hmem:∀v∈ws.map (·.1),RelV v (lK v):=λ v hv=>by
  obtain⟨p,hp,rfl⟩:=zAg.mp hv;exact ht.refs p.1 (zDB (w1.mem_iff.mp hp)).1
 have hws:zs'.map (·.1)=(ws.map (·.1)).map lK:=by rw[w2,zAu,zAu];rfl
 have hwl:(ws.map (·.1)).length<=zAV:=by
  rw[zAF,w1.length_eq,zD9,<-ht.len,zE9,zBw];lia
 refine⟨.ref h1.objs.size,upd H h1.objs.size (.lst (ws.map (·.1))),I.laid (t':=tk) (λ b o e=>a3 b o (keep b o e)) hsz ⟨hwl,(ws.map (·.1)).map lK,e,aAq hmem,?_⟩,rfl,(q ws w1 ?_).at hfr⟩
 .rw[<-hws];exact a4
 .have:ws.map (·.2)=zs'.map (·.2):=by rw[w2,zAu];rfl
  rw[this];exact a2
def aEO(K:zAA):List V->Hp->VK->Prop:=λ xs H Q=>∃p vs nss,xs=[.ref p]/\SqL K H p vs/\fK K H vs nss/\vs.length<64/\aGC H vs nss Q
theorem aAo:dj X (.builtin "sorted") (aEO X.K):=by
 intro pins s Z H xs us Q I r h;obtain⟨p,vs,nss,rfl,hp,ht,h64,q⟩:=h;obtain⟨u,rfl,ru⟩:=vals1 r;cases ru;obtain⟨its,rv,pl,hz⟩:=I.list hp;have e:=ht.vals rv;subst e;have hl2:(vs.map lK).length=nss.length:=by rw[zAF];exact ht.len
 refine uV (collect_list pl.isList ?_ (by rw[zAF];exact hz));refine yh I ht h64 q ⟨_,_,rfl,?_,λ b o e=>?_⟩ (zBR _) ?_
 .rw[Heap.size_update,size_push']
  exact zEN _
 .rw[zD7 _ _ _ _ (zAU (zAO e))]
  exact zAC _ e
 .exact(zHz (by lia)).symm
def aHs(K:zAA)(w:World):List V->Hp->VK->Prop:=λ xs H Q=>∃a vs nss,xs=[.ref a]/\H a=some (.ext (setφ w a (vs.map lK) nss))/\fK K H vs nss/\vs.length<64/\aGC H vs nss Q
theorem aAp(hc:X.calm=true):dj X (.builtin "sorted") (aHs X.K X.w):=by
 intro pins s Z H xs us Q I r h;obtain⟨a,vs,nss,rfl,ha,ht,h64,q⟩:=h;obtain⟨u,rfl,ru⟩:=vals1 r;cases ru;obtain⟨⟨es,ep,t,e1,e2,e3,e4⟩,_,_⟩:=I.hok a _ ha;have hl2:(vs.map lK).length=nss.length:=by rw[zAF];exact ht.len
 have hsz:es.size=vs.length:=by rw[<-zA7,e4.length_eq,yF hl2,zAF]
 have hh:X.A.in1.handled=none:=I.ok.hd hc;refine uV (aDa (aKE (ep:=ep) e2 e3) hh e1 (by rw[hsz,zBw];lia) λ h1 tk vs1 k0 k1 k2 k3=>?_);have hperm:(tY X.w a ep es).toList.Perm (prs (vs.map lK) nss):=(ql X.w a ep es).trans e4;obtain⟨zs,z1,z2⟩:=oN (f:=λ p:Value×List Int=>(hsh p.2,p.1)) hperm rfl;have hvs:vs1=zs.map (·.1):=by
  have e5:(tY X.w a ep es).toList.map (·.2)=zs.map (·.1):=by rw[z2,zAu];rfl
  rw[<-e5];have hlen:(tY X.w a ep es).toList.length=es.size:=by rw[(ql X.w a ep es).length_eq,zA7]
  refine zF4 (by rw[k2,zAF,hlen]) λ i g1 g2=>?_
  have:=k3 i _ (zAD g1)
  rw[<-zBT,<-zAT,zAD g2]at this;exact(zAp this).symm
 exact yh I ht h64 q ⟨h1,tk,rfl,zBm k0,k1⟩ z1 hvs
end
def aGj(a:List Int):List (List Int)->List (List Int)
 |[]=>[a]
 |b::l=>if HT.lexLt b a then b::aGj a l else a::b::l
def uW:List (List Int)->List (List Int)
 |[]=>[]
 |a::l=>aGj a (uW l)
theorem wB(a:List Int):∀l,(aGj a l).Perm (a::l)
 |[]=>zBR _
 |b::l=>by
  unfold aGj;split
  .exact((wB a l).cons b).trans (zD3 _ _ _)
  .exact zBR _
theorem tK:∀l,(uW l).Perm l
 |[]=>zBR _
 |a::l=>(wB a _).trans ((tK l).cons a)
theorem aLG(h:HT.lexLt a b=true):HT.lexLt b a=false:=by
 cases e:HT.lexLt b a with
 |false=>rfl
 |true=>have:=ug a b a h e;rw[aCG]at this;cases this
theorem aNg(h1:HT.lexLt b a=false)(h2:HT.lexLt c b=false):HT.lexLt c a=false:=by
 cases e:HT.lexLt c a with
 |false=>rfl
 |true=>
  rcases aIf c b a e with z|z
  .rw[h2]at z;cases z
  .rw[h1]at z;cases z
theorem aAE(a:List Int):∀l,vR l->vR (aGj a l)
 |[],_=>zAo.mpr ⟨λ _ h=>by simp at h,.nil⟩
 |b::l,h=>by
  obtain⟨h1,h2⟩:=zAo.mp h;unfold aGj;cases e:HT.lexLt b a with
  |true=>
   rw[if_pos rfl];refine zAo.mpr ⟨λ x hx=>?_,aAE a l h2⟩;rcases zAL.mp ((wB a l).mem_iff.mp hx)with q|q
   .subst q;exact aLG e
   .exact h1 x q
  |false=>
   rw[if_neg (by simp)];refine zAo.mpr ⟨λ x hx=>?_,h⟩;rcases zAL.mp hx with q|q
   .subst q;exact e
   .exact aNg e (h1 x q)
theorem pL:∀l,vR (uW l)
 |[]=>.nil
 |a::l=>aAE a _ (pL l)
theorem aAx:∀{a b:List (List Int)},a.Perm b->vR a->vR b->a=b
 |[],b,p,_,_=>p.nil_eq
 |x::a,b,p,h1,h2=>by
  cases b with
  |nil=>exact absurd p.length_eq (by simp)
  |cons y b=>
   have hxy:x=y:=by
    obtain⟨q1,_⟩:=zAo.mp h1;obtain⟨q2,_⟩:=zAo.mp h2;have m1:x∈y::b:=p.mem_iff.mp zAK;have m2:y∈x::a:=p.mem_iff.mpr zAK;rcases zAL.mp m1 with e|m1
    .exact e
    .rcases zAL.mp m2 with e|m2
     .exact e.symm
     .exact za _ _ (q2 x m1) (q1 y m2)
   subst hxy;rw[aAx (List.Perm.cons_inv p) (zAo.mp h1).2 (zAo.mp h2).2]
abbrev tupI(ns:List Int):D:=.tup (ns.map .int)
def km:List D->Option (List (List Int))
 |[]=>some []
 | .tup l::r=>match intsOf l,km r with
  |some (n::ns),some nss=>some ((n::ns)::nss)
  |_,_=>none
 |_=>none
theorem mH:∀{l:List D} {nss:List (List Int)},km l=some nss->l=nss.map tupI/\∀ns∈nss,ns≠[]
 |[],nss,h=>by cases h;exact⟨rfl,λ ns h=>by simp at h⟩
 | .tup l::r,nss,h=>by
  unfold km at h;split at h
  .rename_i n ns nss' e1 e2
   cases h;obtain⟨q1,q2⟩:=mH e2;rw[dm e1,q1];refine⟨rfl,λ ms hm=>?_⟩;rcases zAL.mp hm with e|hm
   .subst e;simp
   .exact q2 ms hm
  .cases h
 | .non::_,_,h=>by cases h
 | .int _::_,_,h=>by cases h
 | .bl _::_,_,h=>by cases h
 | .str _::_,_,h=>by cases h
 | .lst _::_,_,h=>by cases h
 | .dct _ _::_,_,h=>by cases h
 | .set _::_,_,h=>by cases h
 | .scr _::_,_,h=>by cases h
theorem yX:∀{nss:List (List Int)},(∀ns∈nss,ns≠[])->km (nss.map tupI)=some nss
 |[],_=>rfl
 |[]::nss,h=>absurd rfl (h [] zAK)
 |(n::ns)::nss,h=>by
  have ih:=yX λ ms hm=>h ms (zAM _ hm)
  rw[zAG];unfold km;rw[ih,show intsOf (List.map D.int (n::ns))=some (n::ns)from iH _]
theorem uT{K:zAA}:∀{xs:List V} {nss:List (List Int)},Rps K A H xs (nss.map tupI)->(∀ns∈nss,ns≠[])->fK K H xs nss
 |_,[],.nil,_=>.nil
 |_,ns::nss,.cons h r,hne=>by
  cases h with
  |tup h r'=>
   have e:=r'.ints_of;subst e;exact .cons h (hne ns zAK) (uT r λ ms hm=>hne ms (zAM _ hm))
theorem aHh{K:zAA}:∀{zs:List (V×List Int)},(∀p∈zs,∃a,p.1= .ref a/\SqT K H a (p.2.map V.int))->Rps K A H (zs.map (·.1)) ((zs.map (·.2)).map tupI)
 |[],_=>.nil
 |p::zs,h=>by
  obtain⟨a,e1,e2⟩:=h p zAK;rw[zAG,zAG,zAG,e1];exact .cons (.tup e2 .ints) (aHh λ q hq=>h q (zAM _ hq))
theorem fK.all{K:zAA}:∀{vs:List V} {nss:List (List Int)},fK K H vs nss->∀p∈vs.zip nss,∃a,p.1= .ref a/\SqT K H a (p.2.map V.int)
 |_,_,.nil,p,hp=>by simp at hp
 |_,_,.cons h _ r,p,hp=>by
  rw[zBP]at hp;rcases zAL.mp hp with e|hp
  .subst e;exact⟨_,rfl,h⟩
  .exact r.all p hp
theorem aCf{K:zAA}(ht:fK K H vs nss)(q:∀v H',aW H H'->Rp K (λ p=>H p=none) H' v (.lst ((uW nss).map tupI))->Q v H'):aGC H vs nss Q:=by
 intro zs hz hr p H' s hp hn;have e:zs.map (·.2)=uW nss:=aAx (((hz.map (·.2)).trans (by rw[zEM (by rw[ht.len];exact zAP _)])).trans (tK nss).symm) hr (pL nss);refine q _ H' s (.lst hp hn ?_);rw[<-e];exact aHh λ p hp=>by
  obtain⟨a,e1,e2⟩:=ht.all p (hz.mem_iff.mp hp);exact⟨a,e1,s.sqt e2⟩
def insI(a:Int):List Int->List Int
 |[]=>[a]
 |b::l=>if b<a then b::insI a l else a::b::l
def sortI:List Int->List Int
 |[]=>[]
 |a::l=>insI a (sortI l)
theorem insI_perm(a:Int):∀l,(insI a l).Perm (a::l)
 |[]=>zBR _
 |b::l=>by
  unfold insI;split
  .exact((insI_perm a l).cons b).trans (zD3 _ _ _)
  .exact zBR _
theorem sortI_perm:∀l,(sortI l).Perm l
 |[]=>zBR _
 |a::l=>(insI_perm a _).trans ((sortI_perm l).cons a)
theorem aDW(a:Int):∀l:List Int,l.Pairwise (·<=·)->(insI a l).Pairwise (·<=·)
 |[],_=>zAo.mpr ⟨λ _ h=>by simp at h,.nil⟩
 |b::l,h=>by
  obtain⟨h1,h2⟩:=zAo.mp h;unfold insI;by_cases e:b<a
  .rw[if_pos e]
   refine zAo.mpr ⟨λ x hx=>?_,aDW a l h2⟩;rcases zAL.mp ((insI_perm a l).mem_iff.mp hx)with q|q
   .lia
   .exact h1 x q
  .rw[if_neg e]
   refine zAo.mpr ⟨λ x hx=>?_,h⟩;rcases zAL.mp hx with q|q
   .lia
   .have:=h1 x q;lia
theorem vX:∀l,(sortI l).Pairwise (·<=·)
 |[]=>.nil
 |a::l=>aDW a _ (vX l)
theorem uQ:∀{us:List Value} {ns:List Int},zBS us ns->Vals (ns.map V.int) us
 |_,_,.nil=>.nil
 |_,_,.cons n t r=>.cons ⟨t,rfl⟩ (uQ r)
section
variable{X:Cx}
def aEP(K:zAA):List V->Hp->VK->Prop:=λ xs H Q=>∃p ns,xs=[.ref p]/\SqL K H p (ns.map V.int)/\ns.length<64/\New H (.lst ((sortI ns).map V.int)) Q
theorem aCZ:dj X (.builtin "sorted") (aEP X.K):=by
 intro pins s Z H xs us Q I r h;obtain⟨p,ns,rfl,hp,h64,q⟩:=h;obtain⟨u,rfl,ru⟩:=vals1 r;cases ru;obtain⟨its,rv,pl,hz⟩:=I.list hp;have hI:zBS its ns:=intsAre_of rv;have hlen:its.length<64:=by
  have:=rv.length
  rw[zAF]at this;lia
 refine sorted_ints pl.isList hI hlen λ out ns' h1 h2 h3=>?_
 have e:ns'=sortI ns:=PySem.W.ksm_same (h2.trans (sortI_perm ns).symm) h3 (vX ns);subst e;obtain⟨e,he⟩:=sortedAll_at s.heap its out;have hfr:H (s.heap.objs.size+1)=none:=I.hok.fresh (zEN _);refine⟨.ref (s.heap.objs.size+1),upd H (s.heap.objs.size+1) (.lst ((sortI ns).map V.int)),I.laid (t':=s.toks) (λ b o q=>sortedAll_old q) (zEN _) ?_,rfl,q.at hfr⟩;refine⟨?_,out.toList,e,uQ h1,?_⟩
 .rw[zAF,h2.length_eq]
  exact zAm (zBm h64) (by decide)
 .rw[Array.toArray_toList]
  exact he
end
def aGE(K:zAA)(r:List V->Hp->VK->Prop)(fd:List D->Rs D):Prop:=∀(A:Addr->Prop) xs ds H (Q:VK) z,Rps K A H xs ds->fd ds= .ok z->(∀v H',aW H H'->Rp K (λ p=>H p=none) H' v z->Q v H')->r xs H Q
theorem aBh{K:zAA}(hs:aGE K r fd)(h1:aLp K G m ta g):jg K G (some []) (tCB r ta) (opA fd g):=by
 intro U Z H Y lab Q R W;refine h1 U Z H Y lab _ R (W.bd.imp λ d _ w x H1 s1 r1=>?_);obtain⟨z,ez,w⟩:=w.okD;exact hs (fpM m lab H) x d H1 Q z r1 ez λ v H' s r=>w v H' (s1.trans s) (r.wk λ p o _ q=>.inl (s1.free q))
def lB:List D->Rs D
 |[.lst l]=>match km l with
  |some nss=>if nss.length<64 then .ok (.lst ((uW nss).map tupI))else .st
  |none=>match intsOf l with
   |some ns=>if ns.length<64 then .ok (.lst ((sortI ns).map .int))else .st
   |none=>.st
 |_=>.st
theorem aGr{K:zAA}:aGE K (λ xs H Q=>aEO K xs H Q\/aEP K xs H Q) lB:=by
 intro A xs ds H Q z r ez q;unfold lB at ez;split at ez
 .cases r with
  |cons h r=>
   cases r;cases h with
   |lst h m r=>
    split at ez
    .rename_i nss e
     obtain⟨e1,e2⟩:=mH e;subst e1;split at ez
     .rename_i hl
      cases ez;have ht:=uT r e2;exact .inl ⟨_,_,nss,rfl,SqL.of h,ht,by rw[ht.len];exact hl,aCf ht q⟩
     .cases ez
    .split at ez
     .rename_i ns e
      have e1:=dm e;subst e1;split at ez
      .rename_i hl
       cases ez;have e2:=r.ints_of;subst e2;exact .inr ⟨_,ns,rfl,SqL.of h,hl,λ p H' s hp hn=>q _ H' s (.lst hp hn .ints)⟩
      .cases ez
     .cases ez
 .cases ez
section
variable{C:Ct}{pos p p2 pos2:Pos}{m:Mode}{a:Expr}{ga:En->Rs (List D)}
theorem qe(hm:C.mg "sorted"=none)(ha:SA C m [a] ga)(he:∀i,zAX [a] (C.X i).env=[(false,eval a (C.X i).env)]:=by intro _;rfl)(hg:∀i,Gl (C.X i) "sorted":=by intro _;rfl)(hv:zAt "sorted"=some (.builtin "sorted"):=by decide+kernel):SE C (some []) (.Call (.Name "sorted" p) [a] [] pos) (opA lB ga):=by
 obtain⟨t,h1,h2⟩:=ha;refine⟨_,λ i=>pZ (r:=λ xs H Q=>aEO C.K xs H Q\/aEP C.K xs H Q) (by rw[<-C.hK i];exact aAo.or aCZ) (hg i) (by rw[(C.cx i).2.2.2.1];exact hm) hv (h1 i) (by decide) (by decide) (he i) rfl,aBh aGr h2⟩
def gY:List D->Rs D
 |[.lst l]=>match km l with
  |some nss=>if nss.length<64/\(nss.map hsh).Nodup then .ok (.lst ((uW nss).map tupI))else .st
  |none=>.st
 |_=>.st
theorem aBl(hm:C.mg "sorted"=none)(hm2:C.mg "set"=none)(ha:SA C m [a] ga)(he:∀i,zAX [a] (C.X i).env=[(false,eval a (C.X i).env)]:=by intro _;rfl)(he2:∀i,zAX [Expr.Call (.Name "set" p2) [a] [] pos2] (C.X i).env=[(false,eval (.Call (.Name "set" p2) [a] [] pos2) (C.X i).env)]:=by intro _;rfl)(hg:∀i,Gl (C.X i) "sorted":=by intro _;rfl)(hv:zAt "sorted"=some (.builtin "sorted"):=by decide+kernel)(hg2:∀i,Gl (C.X i) "set":=by intro _;rfl)(hv2:zAt "set"=some (.type "set"):=by decide+kernel):
  SE C (some []) (.Call (.Name "sorted" p) [.Call (.Name "set" p2) [a] [] pos2] [] pos) (opA gY ga):=by
 obtain⟨t,h1,h2⟩:=ha;have hw:∀i,(C.X i).w=C.w:=λ i=>(C.cx i).2.1
 refine⟨tCB (aHs C.K C.w) (jd (tCB (aME C.K C.w) t) tG),λ i=>pZ (by rw[<-C.hK i,<-hw i];exact aAp (C.calm i)) (hg i) (by rw[(C.cx i).2.2.2.1];exact hm) hv
  (ak (jw (by rw[<-C.hK i,<-hw i];exact aEz (C.calm i) (C.u64 i)) (hg2 i) (by rw[(C.cx i).2.2.2.1];exact hm2) hv2 (h1 i) (by decide) (by decide) (he i) rfl) dY (he2 i)) (by decide) (by decide) (he2 i) rfl,λ U Z H Y lab Q R W=>?_⟩
 refine h2 U Z H Y lab _ R (W.bd.imp λ ds _ w xs H1 s1 r1=>?_);obtain⟨z,ez,w⟩:=w.okD;unfold gY at ez;split at ez
 .cases r1 with
  |cons h r=>
   cases r;cases h with
   |lst h m r=>
    split at ez
    .rename_i nss e
     obtain⟨e1,e2⟩:=mH e;subst e1;split at ez
     .rename_i hl
      cases ez;have ht:=uT r e2;have hlv:=hl.1;rw[<-ht.len]at hlv;refine⟨_,_,nss,rfl,SqL.of h,ht,hlv,hl.2,λ a H2 s2 ha hn=>⟨a,_,nss,rfl,ha,ht.up s2,hlv,?_⟩⟩;exact aCf (ht.up s2) λ v H' s r=>w v H' ((s1.trans s2).trans s) (r.wk λ p o _ q=>.inl ((s1.trans s2).free q))
     .cases ez
    .cases ez
 .cases ez
end
def ddI(ns:List Int):List Int:=ns.foldl zE0 []
theorem aJ2(ns:List Int):zEI (λ i=>ns.getD i 0) ns.length=ddI ns:=by
 unfold zEI ddI;congr 1;refine zF4 (by simp) λ i h1 h2=>?_
 rw[zCY,zH0,zAZ,zAD h2];rfl
theorem aLa(hl:l.Nodup)(n:Int):(zE0 l n).Nodup/\∀x,x∈zE0 l n↔x∈l\/x=n:=by
 unfold zE0;by_cases h:l.any (·==n)=true
 .rw[if_pos h]
  have:n∈l:=by simpa using h
  exact⟨hl,λ x=>⟨.inl,λ q=>q.elim id λ e=>e▸this⟩⟩
 .rw[if_neg h]
  have:n∉l:=by simpa using h
  refine⟨zBB.mpr ⟨hl,by simp,λ x hx y hy e=>?_⟩,λ x=>by simp⟩;rw[zAS]at hy;subst hy;subst e;exact this hx
theorem aJ1:∀(ns acc:List Int),acc.Nodup->(ns.foldl zE0 acc).Nodup/\∀x,x∈ns.foldl zE0 acc↔x∈acc\/x∈ns
 |[],acc,h=>⟨h,λ x=>by simp⟩
 |n::ns,acc,h=>by
  obtain⟨h1,h2⟩:=aLa h n;obtain⟨h3,h4⟩:=aJ1 ns _ h1;refine⟨h3,λ x=>?_⟩;rw[zBy,h4,h2,zAL];constructor
  .rintro((a|a)|a)
   .exact .inl a
   .exact .inr (.inl a)
   .exact .inr (.inr a)
  .rintro(a|a|a)
   .exact .inl (.inl a)
   .exact .inl (.inr a)
   .exact .inr a
theorem wG(ns:List Int):(ddI ns).Nodup:=(aJ1 ns [] (by simp)).1
theorem aLC(ns:List Int)(x:Int):x∈ddI ns↔x∈ns:=by
 have:=(aJ1 ns [] (by simp)).2 x
 unfold ddI;simpa using this
theorem aOM(ns:List Int):(ddI ns).length<=ns.length:=sub_len (wG ns) λ x hx=>(aLC ns x).mp hx
section
variable{X:Cx}
def aHt(K:zAA):List V->Hp->VK->Prop:=λ xs H Q=>∃p ns,xs=[.ref p]/\(SqL K H p (ns.map V.int)\/SqT K H p (ns.map V.int))/\ns.length<4000/\∀a H',aW H H'->H' a=some (.set (λ k=>(ddI ns).any (·==k)) (ddI ns).length)->H a=none->Q (.ref a) H'
theorem aCj(I:Inv X pins Z H s)(q:∀a H',aW H H'->H' a=some (.set (λ k=>(ddI ns).any (·==k)) (ddI ns).length)->H a=none->Q (.ref a) H')
  (g1:h'.SetOf (zFY X.prog X.w) s.heap.objs.size (λ k'=>(zEI (λ i=>ns.getD i 0) ns.length).any (·==k')) (zEI (λ i=>ns.getD i 0) ns.length).length)(g2:∀b o,s.heap.get? b=some o->h'.get? b=some o):EP X pins Z Q (.ref s.heap.objs.size) {s with heap:=h',toks:=tk}:=by
 rw[aJ2]at g1;have hfr:H s.heap.objs.size=none:=I.hok.fresh (zAP _);exact⟨.ref s.heap.objs.size,upd H s.heap.objs.size (.set (λ k=>(ddI ns).any (·==k)) (ddI ns).length),I.laid (t':=tk) g2 (zAP _) g1,rfl,q _ _ (bA hfr _) aj hfr⟩
theorem aCi{s:zAH}{St:Nat->zAH->Prop}(hl:l<s.heap.objs.size)(hi:zBS its ns)(hz:ns.length<4000)
  (W:WalksS prog w A.in1 (s.heap.objs.size+1) [s.heap.objs.size+1,l] [s.heap.objs.size+1] (λ a b=>b=a) its.toArray.size (λ i v=>its.toArray[i]? =some v) St)(st:St 0 {s with heap:=(s.heap.push (bc #[] 0 (.fresh 0 0 led))).push oI})
  (R:zFO->zAH->Prop)(hR:∀h' tk,h'.SetOf (zFY prog w) s.heap.objs.size (λ k'=>(zEI (λ i=>ns.getD i 0) ns.length).any (·==k')) (zEI (λ i=>ns.getD i 0) ns.length).length->(∀b o,s.heap.get? b=some o->h'.get? b=some o)->R (.ok (.ret .none)) {s with heap:=h',toks:=tk}):
  zBs (model prog w) A (.builtin "set.update.loop" ⟨[.ref s.heap.objs.size,.ref (s.heap.objs.size+1)],[]⟩) R {s with heap:=(s.heap.push (bc #[] 0 (.fresh 0 0 led))).push oI}:=by
 have hlen:its.length=ns.length:=IntsAre.length hi;have hSf:s.heap.objs.size∉[s.heap.objs.size+1,l]:=by
  simp only[zAL,zAh,or_false,not_or];exact⟨zAU (zBa _),zB4 hl⟩
 have hsz:its.toArray.size=ns.length:=by rw[zAR];exact hlen
 refine PyProof.Rows.codeAny_set_update_loopS W s.heap.objs.size hSf (λ i=>ns.getD i 0) (λ i v hv=>zHQ hi i v (by simpa using hv)) (by rw[hsz];unfold scanBound;lia) (its.toArray.size-0) 0 _ (by lia) (zAa _) st ?_ λ s' hm hS'=>?_
 .have hget:((s.heap.push (bc #[] 0 (.fresh 0 0 led))).push oI).get? s.heap.objs.size=some (bc #[] 0 (.fresh 0 0 led)):=zAC _ (zAJ _ rfl)
  exact PyProof.Rows.SetOf_congr ((PyProof.Rows.setObjOf_fresh (knd:=zFY prog w) led).setOf hget (by unfold scanBound;lia)) (λ _=>rfl) rfl
 .obtain⟨h',g',d',tk',os'⟩:=s'
  have eg:g'=s.gens:=hm.gens;have ed:d'=s.drawn:=hm.drawn;have eo:os'=s.os:=hm.os;subst eg;subst ed;subst eo;rw[hsz]at hS';refine hR h' tk' hS' λ b o e=>hm.heap b o ?_ (zAC _ (zAC _ e))
  have hb:=zAO e;simp only[zAL,zAh,or_false,not_or];exact⟨zAU hb,zAU (zBj hb)⟩
theorem aGv(hc:X.calm=true):dj X (.type "set") (aHt X.K):=by
 intro pins s Z H xs us Q I r h;obtain⟨p,ns,rfl,hp,hz,q⟩:=h;obtain⟨u,rfl,ru⟩:=vals1 r;cases ru;have hh:X.A.in1.in1.in1.handled=none:=I.ok.hd hc;have hsz:∀o:Obj,(s.heap.push o).objs.size=s.heap.objs.size+1:=λ o=>zBE _ _
 rcases hp with hp|hp
 .obtain⟨its,rv,pl,_⟩:=I.list hp
  have hI:zBS its ns:=intsAre_of rv;have hl0:=pl.isList;obtain⟨ol,hol,hcl,nl,hdl⟩:=pl.isList;have hlS:p<s.heap.objs.size:=zAO hol;refine PySem.qR (T:="list") (Φ:=λ h'=>h'.SetOf (zFY X.prog X.w) s.heap.objs.size (λ k'=>(zEI (λ i=>ns.getD i 0) ns.length).any (·==k')) (zEI (λ i=>ns.getD i 0) ns.length).length) ⟨ol,hol,hcl⟩ F.sub_list_set zHd (by decide)
   (λ zC A₁ E₁ Q₁ k q=>zE2 (s:={s with heap:=zC}) (items:=its.toArray) ⟨ol,k _ _ hol,hcl,nl,hdl⟩ q) (λ R hR=>?_) λ h' tk g1 g2=>aCj I q g1 g2
  rw[hsz];refine aCi hlS hI hz ((zH5 hh _ p (zAU (zBj hlS)) its.toArray).toS) ⟨?_,?_⟩ R hR
  .have e:=zAJ (s.heap.push (bc #[] 0 (.fresh 0 0 (!X.w.params.followText "set-order")))) (o:={cls:=.type "list_iterator",data:=.fields #[.ref p,.int 0 0]}) rfl
   rw[hsz]at e;exact⟨_,e,rfl,rfl⟩
  .exact⟨ol,zAC _ (zAC _ hol),hcl,nl,hdl⟩
 .obtain⟨its,rv,pl,_⟩:=I.tuple hp
  have hI:zBS its ns:=intsAre_of rv;obtain⟨ol,hol,hcl,nl,hdl⟩:=id pl;have hlS:p<s.heap.objs.size:=zAO hol;refine PySem.qR (T:="tuple") (Φ:=λ h'=>h'.SetOf (zFY X.prog X.w) s.heap.objs.size (λ k'=>(zEI (λ i=>ns.getD i 0) ns.length).any (·==k')) (zEI (λ i=>ns.getD i 0) ns.length).length) ⟨ol,hol,hcl⟩ F.sub_tuple_set F.sub_tuple_frozenset (by decide)
   (λ zC A₁ E₁ Q₁ k q=>zCM (s:={s with heap:=zC}) (items:=its.toArray) ⟨ol,k _ _ hol,hcl,nl,hdl⟩ q) (λ R hR=>?_) λ h' tk g1 g2=>aCj I q g1 g2
  rw[hsz];refine aCi hlS hI hz ((Walks.tuple hh _ p (zAU (zBj hlS)) its.toArray).toS) ⟨?_,?_⟩ R hR
  .have e:=zAJ (s.heap.push (bc #[] 0 (.fresh 0 0 (!X.w.params.followText "set-order")))) (o:={cls:=.type "tuple_iterator",data:=.fields #[.ref p,.int 0 0]}) rfl
   rw[hsz]at e;exact⟨_,e,rfl,rfl⟩
  .exact⟨ol,zAC _ (zAC _ hol),hcl,nl,hdl⟩
theorem aGy:dj X (.builtin "len") (λ xs H Q=>∃p S n,xs=[.ref p]/\H p=some (.set S n)/\Q (.int n) H):=by
 intro pins s Z H xs us Q I r h;obtain⟨p,S,n,rfl,hp,q⟩:=h;obtain⟨u,rfl,ru⟩:=vals1 r;cases ru;obtain⟨o,es,ep,t,ho,hex,hd,_,_,hb,hf,hn⟩:=I.hok p _ hp
 have:(es.size:Int)<2^63:=by unfold scanBound at hb;lia
 refine PySem.call_len_set ho hex hd hf this ⟨.int n,H,(I.tok _).tok _,?_,q⟩;exact⟨_,by rw[hn]⟩
end
theorem aHi{K:zAA}(nd:l.Nodup)(h:H a=some (.set (λ k=>l.any (·==k)) l.length))(m:A a):Rp K A H (.ref a) (.set l):=.set h m (λ i=>by
 rw[zD6];simp) nd
def uY:List D->Rs D
 |[.lst l]=>match intsOf l with
  |some ns=>if ns.length<4000 then .ok (.set (ddI ns))else .st
  |none=>.st
 |[.tup l]=>match intsOf l with
  |some ns=>if ns.length<4000 then .ok (.set (ddI ns))else .st
  |none=>.st
 |_=>.st
theorem aOO{K:zAA}:aGE K (aHt K) uY:=by
 intro A xs ds H Q z r ez q;unfold uY at ez;split at ez
 .cases r with
  |cons h r=>
   cases r;cases h with
   |lst h m r=>
    split at ez
    .rename_i ns e
     have e1:=dm e;subst e1;split at ez
     .rename_i hl
      cases ez;have e2:=r.ints_of;subst e2;exact⟨_,ns,rfl,.inl (SqL.of h),hl,λ a H' s ha hn=>q _ H' s (aHi (wG ns) ha hn)⟩
     .cases ez
    .cases ez
 .cases r with
  |cons h r=>
   cases r;cases h with
   |tup h r=>
    split at ez
    .rename_i ns e
     have e1:=dm e;subst e1;split at ez
     .rename_i hl
      cases ez;have e2:=r.ints_of;subst e2;exact⟨_,ns,rfl,.inr h,hl,λ a H' s ha hn=>q _ H' s (aHi (wG ns) ha hn)⟩
     .cases ez
    .cases ez
 .cases ez
def vz:List D->Rs D
 |[.set l]=>.ok (.int l.length)
 |ds=>dR ds
theorem aLd{K:zAA}:su K (λ xs H Q=>(∃p ys,xs=[.ref p]/\(SqL K H p ys\/SqT K H p ys)/\Q (.int ys.length) H)\/∃p S n,xs=[.ref p]/\H p=some (.set S n)/\Q (.int n) H) vz:=by
 intro A xs ds H Q z r ez q;unfold vz at ez;split at ez
 .cases ez
  cases r with
  |cons h r=>
   cases r;cases h with
   |set h m hS nd=>exact .inr ⟨_,_,_,rfl,h,q _ H (aW.refl H) (.int _)⟩
 .exact .inl (aJ4 A xs _ H Q z r ez q)
theorem aJE:∀x z,vz x= .ok z->imm z=true:=by
 intro x z e;unfold vz at e;split at e
 .cases e;rfl
 .exact aFn _ _ e
section
variable{C:Ct}{pos p:Pos}{m:Mode}{a:Expr}{ga:En->Rs (List D)}
theorem aHa(hm:C.mg "set"=none)(ha:SA C m [a] ga)(he:∀i,zAX [a] (C.X i).env=[(false,eval a (C.X i).env)]:=by intro _;rfl)(hg:∀i,Gl (C.X i) "set":=by intro _;rfl)(hv:zAt "set"=some (.type "set"):=by decide+kernel):SE C (some []) (.Call (.Name "set" p) [a] [] pos) (opA uY ga):=by
 obtain⟨t,h1,h2⟩:=ha;refine⟨_,λ i=>jw (r:=aHt C.K) (by rw[<-C.hK i];exact aGv (C.calm i)) (hg i) (by rw[(C.cx i).2.2.2.1];exact hm) hv (h1 i) (by decide) (by decide) (he i) rfl,aBh aOO h2⟩
theorem aFS(hm:C.mg "len"=none)(ha:SA C m [a] ga)(he:∀i,zAX [a] (C.X i).env=[(false,eval a (C.X i).env)]:=by intro _;rfl)(hg:∀i,Gl (C.X i) "len":=by intro _;rfl):SE C (some []) (.Call (.Name "len" p) [a] [] pos) (opA vz ga):=
 gO (pN (λ i=>by have h:=(vK (X:=C.X i)).or aGy;rw[C.hK i]at h;exact h) aLd hg hm zIT ha (by decide) (by decide) he) λ _ _ h=>qz aJE h
end
section
variable{K:zAA}{G:Gx}{wi:TI}{fi:En->Rs (List D)}{g:TG}{fg:D->En->Rs En}{tt:TT}
theorem aMf(hi:aJi K G wi fi)(hg:aJj K {G with E:=λ _ _ _=>False} g fg)(hfg:∀d,∃Y1,fg d [.no]= .ok Y1)(ht:aDj K {G with E:=λ _ _ _=>False} tt dO)(R:RR K G U Y Z H lab)
  (W:WR G (fi (shE Y)) (λ ds=>ds.length<zAV/\∀(l:Addr) (as:List Addr) H',aW H H'->H l=none->H' l=some (.lst (as.map V.ref))->(l::as).Nodup->as.length=ds.length->(∀a∈as,H a=none/\H' a=some (.lst []))->Q (.ref l) H')):
  tLC wi (stV [none]) g tt (aHY tG) Z H Q:=by
 refine hi U Z H _ _ _ R.shE (W.imp λ ds _ w J H1 lab1 U1 s1 _ R1 jl=>?_);obtain⟨hlen,w⟩:=w;intro l hl;have hHl:H l=none:=s1.free hl;have nl:∀p o,H1 p=some o->p≠l:=λ p o e z=>by subst z;rw[hl]at e;cases e
 have RB:RR K {G with E:=λ _ _ _=>False} (U1++U) [.no] (stV [none] Z) H1 (λ p=>if p=l then(2,0)else(0,0)):=by
  refine⟨rfl,λ i s e=>?_,R1.old,λ p hp=>?_,λ q hq=>(R1.tm q hq).wk λ p o e _=>by rw[if_neg (nl p o e)];exact zAa _⟩
  .match i,e with
   |0,e=>cases e;exact .inl rfl
   |i+1,e=>simp at e
  .by_cases z:p=l
   .subst z;exact R1.old.free hl
   .exact absurd (show(if p=l then((2,0):Nat×Nat)else(0,0)).1=0 by rw[if_neg z]) hp
 have labl:¬((λ p=>if p=l then((2,0):Nat×Nat)else(0,0)) l).1<=1:=by simp
 refine⟨λ i n acc H2=>∃as:List Addr,n=ds.length-i/\i<=ds.length/\acc=as.map V.ref/\H2 l=some (.lst acc)/\RR K {G with E:=λ _ _ _=>False} (U1++U) [.no] (stV [none] Z) H2 (λ p=>if p=l then(2,0)else(0,0))/\aW H H2/\as.length=i/\(l::as).Nodup/\∀a∈as,H a=none/\H2 a=some (.lst []),
  ⟨ds.length,[],by omega,by omega,rfl,aj,RB.up (bA hl _),s1.trans (bA hl _),rfl,by simp,λ a h=>by simp at h⟩,?_⟩
 rintro i n acc H2 ⟨as,rfl,hi',rfl,hH2,R2,s2,hlen2,hnd,hal⟩;refine⟨hH2,by rw[zAF];omega,?_⟩;have jj:=jl _ H2 λ q hq=>R2.tm q (zA0 _ hq)
 by_cases hlt:i<ds.length
 .obtain⟨go,yl⟩:=(jj i).2 hlt
  refine .inr ⟨go,λ x H3 hy=>?_⟩;obtain⟨s3,d,ed,rx⟩:=yl x H3 hy;replace R2:=R2.up s3;replace hH2:=s3 _ _ hH2;replace s2:=s2.trans s3;replace hal:=λ a ha=>(⟨(hal a ha).1,s3 _ _ (hal a ha).2⟩:H a=none/\H3 a=some (.lst []))
  obtain⟨Y1,e1⟩:=hfg d;refine hg (U1++U) x d _ H3 _ _ _ Y1 R2 rx e1 λ Z4 R4=>?_
  refine ht (U1++U) Z4 H3 Y1 _ _ R4 λ H5 s5=>?_
  rw[if_pos rfl];refine⟨zAa _,λ p H6 s6 hp hn=>?_⟩;have hl6:H6 l=some (.lst (as.map V.ref)):=s6 _ _ (s5 _ _ hH2);have hpl:p≠l:=λ z=>by subst z;rw[s5 _ _ hH2]at hn;cases hn
  have hpa:p∉as:=λ z=>by
   have:=s5 _ _ (hal p z).2
   rw[hn]at this;cases this
  have hpH:H p=none:=(s2.trans s5).free hn;have B:ni l H6 (upd H6 l (.lst (as.map V.ref++[.ref p]))):=λ b o ne hb=>by rw[aX ne];exact hb
  refine⟨hl6,ds.length-(i+1),by omega,as++[p],rfl,hlt,by rw[zAq];rfl,aj,?_,?_,by rw[zA1];simp;omega,?_,λ a ha=>?_⟩
  .have R6:=R2.up (s5.trans s6)
   refine⟨R6.len,λ j s e=>?_,λ b o hb=>?_,R6.new,λ q hq=>(R6.tm q hq).but B hl6 rfl labl⟩
   .match j,e with
    |0,e=>cases e;exact .inl rfl
    |j+1,e=>simp at e
   .exact B b o (λ z=>by subst z;rw[R1.old.free hl]at hb;cases hb) (R6.old b o hb)
  .exact λ b o hb=>B b o (λ z=>by subst z;rw[hHl]at hb;cases hb) (((s2.trans s5).trans s6) b o hb)
  .obtain⟨n1,n2⟩:=zBH.mp hnd
   refine zBH.mpr ⟨λ z=>?_,zBB.mpr ⟨n2,by simp,λ x hx y hy e=>?_⟩⟩
   .rcases zA2.mp z with z|z
    .exact n1 z
    .exact hpl (zAS.mp z).symm
   .rw[zAS]at hy
    subst hy;subst e;exact hpa hx
  .rcases zA2.mp ha with z|z
   .refine⟨(hal a z).1,?_⟩
    rw[aX λ q=>by subst q;exact(zBH.mp hnd).1 z];exact s6 _ _ (s5 _ _ (hal a z).2)
   .rw[zAS]at z
    subst z;exact⟨hpH,by rw[aX hpl];exact hp⟩
 .have ei:i=ds.length:=by omega
  exact .inl ⟨by rw[ei];exact(jj _).1 (zAP _),w l as H2 s2 hHl hH2 hnd (by omega) hal⟩
end
section
variable{C:Ct}{pos lpos:Pos}{tg iter:Expr}{sc:Scope}{N:List Str}{js:List (Option Nat)}{ks:List Nat}{fi:En->Rs (List D)}{fg:D->En->Rs En}
def llS(i:Nat)(fi:En->Rs (List D))(js:List (Option Nat))(fg:D->En->Rs En):En->Ou:=λ Y=>(fi (shE Y)).bo λ ds=>if ds.length<zAV then .nx (Y.set i (.o2 (zA6 ds.length [])))else .st
theorem aOg(hi:SI C tg iter fi)(hg:SG (C.blk sc N) tg ks fg)(hj:js=[none]:=by rfl)(hfg:∀d,∃Y1,fg d [.no]= .ok Y1:=by intro _;exact⟨_,rfl⟩)(hN:∀j,(C.X j).N[i]? =some x:=by intro _;rfl)(hx:∀j,Loc (C.X j).env.scope x:=by intro _;first|exact zCf rfl|exact zCC rfl)(hsw:∀j,zCw (.ListComp (.List [] lpos) [⟨tg,iter,[],0⟩] sc pos) (some (.Name x pos')) spos.line (C.X j).env=pure true:=by intro _;rfl)(hs:∀i x,zBQ iter (C.X i).env x=pure x:=by intro _ _;rfl)(hf:∀j,(C.X j).fn x=true\/(C.X j).env.scope.names.lookup x=some .local:=by intro _;first|exact .inl rfl|exact .inr rfl)(nd:∀j,(C.X j).N.Nodup:=by intro _;assumption)(hB:∀i,fj (C.X i) sc N (stV js) ks:=by intro _;exact aC3 rfl rfl rfl rfl rfl rfl):
  SS C (.Assign [.Name x pos'] (.ListComp (.List [] lpos) [⟨tg,iter,[],0⟩] sc pos) spos) (llS i fi js fg):=by
 subst hj;obtain⟨wi,i1,i2⟩:=hi;obtain⟨g,g1,g2,g3,g4⟩:=hg;obtain⟨tt,t1,t2⟩:=lC (C:=C.blk sc N);refine⟨_,λ j=>aCu (nd j) (hN j) (hx j) (hB j) (C.calm j) (i1 j) (λ c fp z0 zI=>g1 (j,c,fp,z0,zI)) g3 (λ c fp z0 zI=>t1 (j,c,fp,z0,zI)) (λ c fp z0 zI=>qj dY) (hsw j) (hs j) (hf j),λ U Z H Y lab De R W=>?_⟩;refine aMf i2 g2 hfg t2 R (W.bo.imp λ ds _ w=>?_);by_cases hl:ds.length<zAV
 .rw[if_pos hl]at w
  refine⟨hl,λ l as H' s hn hH hnd hlen hal=>?_⟩;have hlab:∀p o,H p=some o->(λ p=>if p=l then(i+2,0)else if p∈as then(i+2,as.idxOf p+1)else cO H 1 lab p) p=lab p:=λ p o e=>by
   dsimp only;have z1:p≠l:=λ z=>by subst z;rw[hn]at e;cases e
   have z2:p∉as:=λ z=>by rw[(hal p z).1]at e;cases e
   rw[if_neg z1,if_neg z2,bT e]
  have R':RR C.K C.G U Y Z H' (λ p=>if p=l then(i+2,0)else if p∈as then(i+2,as.idxOf p+1)else cO H 1 lab p):=by
   refine(R.relab hlab λ p hp=>?_).up s;cases e:H p with
   |none=>exact R.old.free e
   |some o=>
    have:=hlab p o e
    dsimp only at this hp;rw[this]at hp;exact R.new p hp
  refine w _ _ _ (R'.put (s:=.o2 (zA6 ds.length [])) ⟨l,as.map V.ref,rfl,hH,by dsimp only;rw[if_pos rfl],by rw[zAF,zC6];exact hlen,λ j x es e1 e2=>?_⟩);rw[zAT,zCZ]at e1;obtain⟨a,e1,rfl⟩:=e1;have ees:es=[]:=by
   rw[zDA]at e2;split at e2
   .cases e2;rfl
   .cases e2
  subst ees;have ha:a∈as:=zAw e1;have hla:a≠l:=λ z=>by subst z;exact(zBH.mp hnd).1 ha
  have hj2:j<as.length:=(zAI.mp e1).1;refine .lst (hal a ha).2 ?_ .nil
  show(if a=l then(i+2,0)else if a∈as then(i+2,as.idxOf a+1)else cO H 1 lab a)=(i+2,j+1)
  rw[if_neg hla,if_pos ha];have hix:as.idxOf a<as.length:=List.idxOf_lt_length_iff.mpr ha
  have:as[as.idxOf a]? =some a:=by rw[zAD hix];exact congrArg some (List.getElem_idxOf hix)
  have:=(zCc hix (zBH.mp hnd).2).mp (this.trans e1.symm)
  rw[this]
 .rw[if_neg hl]at w
  exact zAQ w
end
def g8{α:Type}(l:List α)(i:Int)(y:α):List α:=l.take (if i<0 then(i+(l.length:Int)).toNat else min i.toNat l.length)++y::l.drop (if i<0 then(i+(l.length:Int)).toNat else min i.toNat l.length)
theorem aBI(l:List α)(i:Int)(y:α):(g8 l i y).length=l.length+1:=by
 unfold g8;rw[zA1,zA9,zB2,zBp];omega
def aMI:V->List V->Hp->VK->Prop:=λ x vs H Q=>∃l xs i y,x= .ref l/\vs=[.int i,y]/\H l=some (.lst xs)/\-(2^63)<=i/\i<2^63/\xs.length<zAV/\∀H',ni l H H'->H' l=some (.lst (g8 xs i y))->Q .non H'
theorem aKz:MtM X "list.insert" aMI:=by
 intro pins s Z H x vs v us Q I rx rv h;obtain⟨l,xs,i,y,rfl,rfl,hH,h1,h2,hz,q⟩:=h;cases rx;obtain⟨u1,u2,rfl,r1,r2⟩:=vals2 rv;obtain⟨t,rfl⟩:=r1;obtain⟨z,its,n,r,hl,e⟩:=I.lstM hH;have hf:zDT i=true:=by unfold zDT;simp;omega
 refine zDm zFq ⟨_,e,rfl⟩ PySem.F.entry_list_insert (PySem.F.args_list_insert_3 _ _ _) (zIa l its.toArray n i t u2 (by simp[hf]) (by rw[zAR];omega)) ⟨e,?_⟩;refine⟨.non,_,I.lset (ys:=g8 xs i y) (its':=g8 its i u2) hH e ?_ ?_ ?_,rfl,q _ (λ b o ne hb=>by rw[aX ne];exact hb) aj⟩
 .show(its.toArray.extract 0 (if i<0 then(i+(its.toArray.size:Int)).toNat else min i.toNat its.toArray.size)).push u2++its.toArray.extract (if i<0 then(i+(its.toArray.size:Int)).toNat else min i.toNat its.toArray.size)=(g8 its i u2).toArray
  rw[PySem.W.kl_ins_eq,zAR];rfl
 .unfold g8
  rw[hl];exact(r.take _).append (.cons r2 (r.drop _))
 .rw[aBI];omega
theorem Rps.g8{K:zAA}(r:Rps K A H xs ds)(h:Rp K A H x d)(i:Int):Rps K A H (VL.g8 xs i x) (VL.g8 ds i d):=by
 unfold VL.g8;rw[r.length];exact(r.take _).append (.cons h (r.drop _))
section
variable{C:Ct}{pos apos cpos p:Pos}{e e1 e2:Expr}{f1 f2:En->Rs D}{i:Nat}{x:Str}{m m1:Mode}
def aIz(i:Nat)(f1 f2:En->Rs D):En->Ou:=λ Y=>match Y[i]? with
 |some (.ow (.lst ds))=>(f1 Y).bo λ k=>match k with
  | .int n=>(f2 Y).bo λ d=>if -(2^63)<=n/\n<2^63/\ds.length<zAV then .nx (Y.set i (.ow (.lst (g8 ds n d))))else .st
  |_=>.st
 |_=>.st
theorem aGK(i:Nat)(he1:SE C m1 e1 f1)(he2:SE C m e2 f2)(hm:okN m=true:=by rfl)(hN:∀j,(C.X j).N[i]? =some x:=by intro _;rfl)(hv:∀j,Vis (C.X j).env.scope x:=by intro _;first|exact zCf rfl|exact zCC (zCf rfl)|exact zCC (zCC rfl))(hd:(x==("__debug__":Str))=false:=by decide)
  (hcd:(x==("__classdict__":Str))=false:=by decide)(hs1:∀j,zAX [e1,e2] (C.X j).env=(false,eval e1 (C.X j).env)::zAX [e2] (C.X j).env:=by intro _;rfl)(hs2:∀j,zAX [e2] (C.X j).env=[(false,eval e2 (C.X j).env)]:=by intro _;rfl)
  (hbase:∀j,zDP (.Name x p) "insert" (C.X j).env (eval (.Name x p) (C.X j).env)=eval (.Name x p) (C.X j).env:=by intro _;rfl)
  (hfew:∀j,((zC2 cpos (zAX [e1,e2] (C.X j).env)).all (λ x=>!x.1)&&(zFc cpos (zDs [] (C.X j).env)).all (λ x=>x.1.isSome)&&decide ([e1,e2].length+([]:List zCs).length+(if ([]:List zCs).isEmpty then 0 else 1)<30))=true:=by intro _;rfl)
  (hline:(apos.endLine==cpos.line)=true:=by rfl)(hplain:∀j,(zC2 cpos (zAX [e2] (C.X j).env)).any (·.1)=false:=by intro _;rfl)
  (hsw:∀j,zCw (.Call (.Attribute (.Name x p) "insert" apos) [e1,e2] [] cpos) none pos.line (C.X j).env=pure false:=by intro _;rfl):
  SS C (.Expr (.Call (.Attribute (.Name x p) "insert" apos) [e1,e2] [] cpos) pos) (aIz i f1 f2):=by
 obtain⟨t1,a1,a2⟩:=he1;obtain⟨t2,b1,b2⟩:=he2;refine⟨yd (tBM C.K "list" aMI (rD i) (jd t1 (jd t2 tG))),λ j=>qi (by rw[<-C.hK j];exact aAz zBr zFq PySem.F.type_list_insert aKz (jN (hN j) (hv j) hd hcd) (ak (a1 j) (ak (b1 j) dY (hs2 j)) (hs1 j)) (hbase j) (hfew j) hline (hs1 j) (hplain j)) (hsw j),λ U Z H Y lab De R W=>?_⟩;unfold aIz at W;cases es:Y[i]? with
 |none=>rw[es]at W;exact zAQ W
 |some s=>
  rw[es]at W;split at W
  .rename_i ds hs
   cases hs;rcases R.sl i _ es with z|⟨v,ev,hv'⟩
   .cases z
   .obtain⟨hv1,htop⟩:=hv'
    obtain⟨a0,ea0,la0⟩:=htop rfl;subst ea0;cases hv1 with
    |lst h mm r=>
     rename_i xs;refine⟨.ref a0,ev,.inl ⟨rfl,xs,SqL.of h⟩,a2 U Z H Y lab _ R (W.bo.imp λ k _ w y1 H1 s1 r1=>?_)⟩;cases k with
     |int n=>
      cases r1;refine b2 U Z H1 Y lab _ (R.up s1) (w.bo.imp λ d _ w y H2 s2 r2=>?_);by_cases hz: -(2^63)<=n/\n<2^63/\ds.length<zAV
      .rw[if_pos hz]at w
       refine⟨a0,xs,n,y,rfl,rfl,(s1.trans s2) _ _ h,hz.1,hz.2.1,by rw[r.length];exact hz.2.2,λ H3 B h3=>?_⟩;obtain⟨R',r'⟩:=(R.up s1).fresh (P:=λ k=>k=1) rfl (λ k hk=>beq_iff_eq.mp (qm hm k hk)) s2 r2;have h1:H1 a0=some (.lst xs):=s1 _ _ h;have la:(cO H1 1 lab a0).1=i+2:=by rw[bT h1];exact la0
       refine w Z H3 _ (R'.mut ev (s2 _ _ h1) rfl la B ⟨.lst h3 (.inr la) ?_,λ _=>⟨a0,rfl,la⟩⟩);have ra:Rps C.K (λ p=>((cO H1 1 lab p).1=1\/(cO H1 1 lab p).1=i+2)/\p≠a0) H2 (g8 xs n y) (g8 ds n d):=by
        refine(r.mono (s1.trans s2) λ p o e z=>⟨by rw[bT (s1 _ _ e)];exact z.1,z.2⟩).g8 (r'.wk λ p o e z=>⟨.inl z,λ q=>?_⟩) n;subst q;rw[la]at z;omega
       exact ra.but B (s2 _ _ h1) rfl λ z=>z.2 rfl
      .rw[if_neg hz]at w
       exact zAQ w
     |_=>exact zAQ w
  .exact zAQ W
end
theorem len0(h:us.length=0):us=[]:=zF3 h
theorem aPq:∀{us:List α},us.length=1->∃a0,us=[a0]
 |[a0],_=>⟨a0,rfl⟩
theorem aPp:∀{us:List α},us.length=2->∃a0 a1,us=[a0,a1]
 |[a0,a1],_=>⟨a0,a1,rfl⟩
theorem aPo:∀{us:List α},us.length=3->∃a0 a1 a2,us=[a0,a1,a2]
 |[a0,a1,a2],_=>⟨a0,a1,a2,rfl⟩
theorem aPn:∀{us:List α},us.length=4->∃a0 a1 a2 a3,us=[a0,a1,a2,a3]
 |[a0,a1,a2,a3],_=>⟨a0,a1,a2,a3,rfl⟩
theorem aPm:∀{us:List α},us.length=5->∃a0 a1 a2 a3 a4,us=[a0,a1,a2,a3,a4]
 |[a0,a1,a2,a3,a4],_=>⟨a0,a1,a2,a3,a4,rfl⟩
theorem aEf:∀{us:List α},us.length=6->∃a0 a1 a2 a3 a4 a5,us=[a0,a1,a2,a3,a4,a5]
 |[a0,a1,a2,a3,a4,a5],_=>⟨a0,a1,a2,a3,a4,a5,rfl⟩
theorem aPl:∀{us:List α},us.length=7->∃a0 a1 a2 a3 a4 a5 a6,us=[a0,a1,a2,a3,a4,a5,a6]
 |[a0,a1,a2,a3,a4,a5,a6],_=>⟨a0,a1,a2,a3,a4,a5,a6,rfl⟩
def qF(j:Int):List Int:=(zAb j.toNat).map λ(k:Nat)=>0+(k:Int)
def aOq:List V->Hp->VK->Prop:=λ xs H Q=>∃j:Int,xs=[.int j]/\∀p,H p=none->Q (.ref p) (upd H p (.rng 0 j))
theorem aJa:dj X (.type "range") aOq:=by
 intro pins s Z H vs us Q I rv h;obtain⟨j,rfl,q⟩:=h;obtain⟨u,rfl,ru⟩:=rv.one;obtain⟨t,rfl⟩:=ru;exact call_range_1 ⟨.ref s.heap.objs.size,_,I.laid (a:=s.heap.objs.size) (o:=.rng 0 j) (t':=s.toks+1+1) (λ _ _ q=>zAC _ q) (zAP _) ⟨_,_,_,zAJ _ rfl⟩,rfl,q _ (I.hok.fresh (zAP _))⟩
def aCt:List V->Hp->VK->Prop:=λ xs H Q=>∃(p:Addr) (j:Int),xs=[.ref p]/\H p=some (.rng 0 j)/\-(2^62)<=j/\j<=10000/\∀l H',aW H H'->H l=none->H' l=some (.lst ((qF j).map V.int))->Q (.ref l) H'
theorem aJw:∀{ns:List Int} {us:List Value},ns.length=us.length->(∀(k:Nat) i,ns[k]? =some i->∃tk,us[k]? =some (.int i tk))->Vals (ns.map V.int) us:=by
 intro ns;induction ns with
 |nil=>intro us hl _;rw[zF3 hl.symm];exact .nil
 |cons n ns ih=>
  intro us hl h;obtain⟨tk,e⟩:=h 0 n rfl;cases us with
  |nil=>cases e
  |cons u us=>
   have e':u= .int n tk:=zAp e;subst e';exact .cons ⟨tk,rfl⟩ (ih (zGK hl) λ k i hi=>h (k+1) i hi)
theorem aC1(hc:X.calm=true):dj X (.type "list") aCt:=by
 intro pins s Z H vs us Q I rv h;obtain⟨p,j,rfl,hp,h1,h2,q⟩:=h;obtain⟨u,rfl,ru⟩:=rv.one;cases ru;obtain⟨t,u,v,hg⟩:=I.hok p _ hp;have hsz:zD2 0 j 1=(j.toNat:Int):=by
  unfold zD2;simp only[show(1:Int)>0 by decide,if_true];split<;>lia
 refine call_list_range (n:=j.toNat) (I.ok.hd hc) hg ?_ hsz (by lia) λ h' tk acc c' hk hS hacc=>?_
 .have fl:∀x:Int,-(2^62)<=x->x<=2^62->zEg x=true:=λ x hx1 hx2=>by
   unfold zEg;simp;lia
  unfold zIj;rw[hsz,fl 0 (by lia) (by lia),fl j (by lia) (by lia),fl 1 (by lia) (by lia),fl _ (by lia) (by lia),if_pos (by decide),fl (j+(1-1)) (by lia) (by lia),zIi];rfl
 .have hfr:=I.hok.fresh (zAP s.heap.objs.size)
  have hv:Vals ((qF j).map V.int) acc.toList:=by
   have hl:(qF j).length=acc.toList.length:=by rw[show acc.toList.length=acc.size from zA7,hacc.1];simp[qF]
   refine aJw hl λ k i hi=>?_
   have hk2:k<acc.size:=by rw[hacc.1];have:=(zAI.mp hi).1;simpa[qF]using this
   obtain⟨tk,e⟩:=hacc.2 k acc[k] (zBi hk2);refine⟨tk,?_⟩;have ei:i=0+(k:Int)*1:=by
    unfold qF at hi;rw[zAT]at hi;cases c:(zAb j.toNat)[k]? with
    |none=>rw[c]at hi;cases hi
    |some m=>
     rw[c]at hi;cases hi
     have:=zAI.mp c
     have:m=k:=by simpa using this.2.symm
     subst this
     show(0:Int)+(m:Int)=0+(m:Int)*1
     lia
   rw[ei,<-e];simp[hk2]
  refine⟨.ref s.heap.objs.size,upd H s.heap.objs.size (.lst ((qF j).map V.int)),I.laid (t':=tk) hk (zAP _) ⟨?_,acc.toList,c',hv,by simpa using hS⟩,rfl,q _ _ (bA hfr _) hfr aj⟩;simp[qF]
  have:zAV=16777216:=zBw
  lia
def lrR:D->Rs D
 | .int j=>if -(2^62)<=j/\j<=10000 then .ok (.lst (bZ 0 j))else .st
 |_=>.st
def lrD(fa:En->Rs D):En->Rs D:=λ Y=>(fa Y).bd lrR
theorem vd(j:Int):bZ 0 j=(qF j).map D.int:=by
 unfold bZ qF;rw[zAu,Int.sub_zero];rfl
section
variable{C:Ct}{pos pos2 p p2:Pos}{a:Expr}{fa:En->Rs D}{m:Mode}
theorem tO(hmL:C.mg "list"=none)(hmR:C.mg "range"=none)(ha:SE C m a fa)(hs:∀i,zAX [a] (C.X i).env=[(false,eval a (C.X i).env)]:=by intro _;rfl)(hs2:∀i,zAX [.Call (.Name "range" p2) [a] [] pos2] (C.X i).env=[(false,eval (.Call (.Name "range" p2) [a] [] pos2) (C.X i).env)]:=by intro _;rfl)(hgL:∀i,Gl (C.X i) "list":=by intro _;rfl)(hvL:zAt "list"=some (.type "list"):=by decide+kernel)(hgR:∀i,Gl (C.X i) "range":=by intro _;rfl):SE C (some []) (.Call (.Name "list" p) [.Call (.Name "range" p2) [a] [] pos2] [] pos) (lrD fa):=by
 obtain⟨t,h1,h2⟩:=ha;refine⟨tCB aCt (jd (tCB aOq (jd t tG)) tG),λ i=>jw (aC1 (C.calm i)) (hgL i) (by rw[(C.cx i).2.2.2.1];exact hmL) hvL (ak (jw aJa (hgR i) (by rw[(C.cx i).2.2.2.1];exact hmR) zIw (ak (h1 i) dY (hs i)) (by decide) (by decide) (hs i) rfl) dY (hs2 i)) (by decide) (by decide) (hs2 i) rfl,λ U Z H Y lab Q R W=>?_⟩;refine h2 U Z H Y lab _ R (W.bd.imp λ d _ w y H1 s1 r1=>?_);unfold lrR at w;split at w
 .rename_i j _
  by_cases hz: -(2^62)<=j/\j<=10000
  .rw[if_pos hz]at w
   have ey:=r1.int_inv;subst ey;refine⟨j,rfl,λ q hq=>⟨q,j,rfl,aj,hz.1,hz.2,λ l H' s' hl hH'=>?_⟩⟩;have s0:=(s1.trans (bA hq _)).trans s';have hlH:H l=none:=(s1.trans (bA hq _)).free hl;refine w _ H' s0 (.lst hH' (.inl hlH) ?_);rw[vd];exact Rps.ints
  .rw[if_neg hz]at w
   exact zAQ w
 .exact zAQ w
end
def aOV(Y:En)(i:Nat)(ds:List Int):D->Ou
 | .int z=>if ds.length<4000 then .nx (Y.set i (.ow (.set (zE0 ds z))))else .st
 |_=>.st
def trR:D->Rs D
 | .int j=>if -(2^62)<=j/\j<=10000 then .ok (.tup (bZ 0 j))else .st
 |_=>.st
def trD(fa:En->Rs D):En->Rs D:=λ Y=>(fa Y).bd trR
section
variable{prog:zA3}{w:World}{A:zAj}{E:Value->zAH->Prop}{s:zAH}{it t:Addr}{i:Nat}{items:Array Value}
theorem NoD.at{h:Heap}{a:Addr}{o:Obj}(e:h.get? a=some o)(hd:o.dict=none:=by rfl):L2.NoD h a:=λ u q=>by rw[e]at q;cases q;exact hd
theorem oO(hit:s.heap.IsTupleIter it t i)(ht:s.heap.IsTuple t items)(hx:items[i]? =some x)
  (hQ:∀h',h'.IsTupleIter it t (i+1)->zDU it s.heap h'->Q x {s with heap:=h'}):wpAny (model prog w) A (zBG (.ref it)) Q E s:=by
 obtain⟨o,ho,hc,hd⟩:=id hit;obtain⟨ol,hol,_,nl,hdl⟩:=ht;unfold zBG;refine zAB (zBF (name:=zCT "__next__") hit.typeIs zCh (zBO zCh hit.typeIs zGN ?_ (zGH _)));show wpAny _ _ (field (.ref it) 0>>=_) _ _ s;refine zAB (zBX ho hd (x:=.ref t) rfl ?_);show wpAny _ _ (if (zBC t==zBJ)=true then _ else _) _ _ s;rw[if_neg (show¬((zBC t==zBJ)=true)from zA5)];show wpAny _ _ (field (.ref it) 1>>=_) _ _ s;refine zAB (zBX ho hd (x:=.int i 0) rfl ?_);show wpAny _ _ (seqItems? (.ref t)>>=_) _ _ s;refine zAB (zCE hol hdl ?_);simp only[zB3,hx];refine zAB (zEQ ho hd (by simp) (zAE ⟨x,rfl,zAE (hQ _ ⟨_,zE3 _ ho (zHD (zFF hd _)),(Obj.cls_mapFields ..).trans hc,by rw[zFF hd];simp[zEZ]⟩ (zB7 ..))⟩))
theorem qu(hh:A.handled=none)(hit:s.heap.IsTupleIter it t i)(ht:s.heap.IsTuple t items)(hx:items[i]? =none)
  (hE:∀h' e,zFi it s.heap h'->(∃o,h'.get? e=some o/\o.cls= .type "StopIteration")->E (.ref e) {s with heap:=h'}):wpAny (model prog w) A (zBG (.ref it)) Q E s:=by
 obtain⟨o,ho,hc,hd⟩:=id hit;obtain⟨ol,hol,_,nl,hdl⟩:=ht;unfold zBG;refine zAB (zBF (name:=zCT "__next__") hit.typeIs zCh (zBO zCh hit.typeIs zGN ?_ (zGH _)));show wpAny _ _ (field (.ref it) 0>>=_) _ _ s;refine zAB (zBX ho hd (x:=.ref t) rfl ?_);show wpAny _ _ (if (zBC t==zBJ)=true then _ else _) _ _ s;rw[if_neg (show¬((zBC t==zBJ)=true)from zA5)];show wpAny _ _ (field (.ref it) 1>>=_) _ _ s;refine zAB (zBX ho hd (x:=.int i 0) rfl ?_);show wpAny _ _ (seqItems? (.ref t)>>=_) _ _ s;refine zAB (zCE hol hdl ?_);simp only[zB3,hx];refine zAB (zDJ (zAB (zEQ ho hd (by simp) ?_)));show wpAny _ _ (newExc (.type "StopIteration") []>>=_) _ _ _;refine zAB ?_;simp only[newExc,newTuple];refine zAB (zAv ?_ (by size_fits));refine zAB (m:=zFP _ _) (zF1 (a:=zBJ) (by simp only[zFP];rfl) ?_);refine zAv ?_ (by size_fits);simp only[raiseNew];refine zAB (wpAny_handled ?_);first|rw[show A.in1.handled=none from hh]|rw[hh]
 refine zAB (zAE (wpAny_throw ?_));exact hE _ _ (((zB7 ..).extBut.push _).push _) ⟨_,zAJ _ rfl,rfl⟩
end
theorem aOI(hh:A.handled=none)(it t:Addr)(hne:t≠it)(items:Array Value):
  Draws prog w A it [it,t] items.size (λ i v=>items[i]? =some v) (λ i h=>h.IsTupleIter it t i/\h.IsTuple t items) where
 live:=λ _ _ st=>let⟨o,ho,_⟩:=st.1;⟨o,ho⟩
 frame:=λ _ _ _ st hk=>⟨st.1.at λ o e=>hk it (by simp) o e,let⟨o,ho,r⟩:=st.2;⟨o,hk t (by simp) o ho,r⟩⟩
 item:=λ i s Q E hi st hQ=>oO st.1 st.2 (x:=items[i]) (by simp[hi]) λ h' hit' hs'=>hQ _ h' s.toks (by simp[hi]) ⟨hit',let⟨o,ho,r⟩:=st.2;⟨o,(hs'.2 t hne).trans ho,r⟩⟩ hs'
 done:=λ s Q E st hE=>qu hh st.1 st.2 (by simp) hE
theorem aDE(l:Addr)(items:Array Value)(n:Nat)(dct:Option Addr)(sl:Array (Option Value)):
  Meets (zCN.«enumerate.__new__» ⟨[.type "enumerate",.ref l],[]⟩) (λ _ R s=>s.heap.get? l=some {cls:=.type "tuple",dict:=dct,data:=.seq items n,slots:=sl}/\
   R (.ok (.ret (.ref (s.heap.push {cls:=.type "tuple_iterator",data:=.fields #[.ref l,.int 0 0]}).objs.size)))
    {s with heap:=(s.heap.push {cls:=.type "tuple_iterator",data:=.fields #[.ref l,.int 0 0]}).push {cls:=.type "enumerate",data:=.fields #[.none,.bool false,.ref s.heap.objs.size,zEZ 0,.none,.none]}}):=
 .of_wp λ prog w A R s h=>by
  obtain⟨hp,g,d,tk,os⟩:=s;obtain⟨hl,h⟩:=h;have hsub:=sub_enumerate;have hL:zFT (zGu ⟨hp,g,d,tk,os⟩) l items:=⟨_,hl,rfl,n,rfl⟩;wp_walk using zCH hl;refine wpAny_stack_any λ st=>zAE ?_
  split
  .rename_i c _ _ _ _ _
   cases (c==zCL "enumerate")<;>(wp_walk using zCH hl,zCM hL;exact⟨_,rfl,h⟩)
  .wp_walk using zCH hl,zCM hL
   exact⟨_,rfl,h⟩
theorem aFA(hL:s.heap.IsTuple l items)
  (h:∀h',IsEnum h' (s.heap.objs.size+1) s.heap.objs.size 0 .none->h'.IsTupleIter s.heap.objs.size l 0->(∀b o,s.heap.get? b=some o->h'.get? b=some o)->Q (.ref (s.heap.objs.size+1)) {s with heap:=h'}):
  wpAny (model prog w) A (call (.type "enumerate") [.ref l]) Q E s:=by
 obtain⟨⟨c,dct,dt,sl⟩,hl,hc,n,hd⟩:=hL;replace hc:c= .type "tuple":=hc;replace hd:dt= .seq items n:=hd;subst hc hd;refine callType_new F.called_enumerate (by decide) (F.typeCall_enumerate_1 _) (F.newCall_enumerate_1 _) (λ obj=>F.args_object_init_2 obj _) F.entry_enumerate_new (aDE l items n dct sl) ⟨hl,?_⟩;have hz:(s.heap.push {cls:=.type "tuple_iterator",data:=.fields #[.ref l,.int 0 0]}).objs.size=s.heap.objs.size+1:=zBE ..;show _/\_;rw[hz];have he:IsEnum ((s.heap.push {cls:=.type "tuple_iterator",data:=.fields #[.ref l,.int 0 0]}).push {cls:=.type "enumerate",data:=.fields #[.none,.bool false,.ref s.heap.objs.size,zEZ 0,.none,.none]}) (s.heap.objs.size+1) s.heap.objs.size 0 .none:=by
  have:=zAJ (s.heap.push {cls:=.type "tuple_iterator",data:=.fields #[.ref l,.int 0 0]}) (o:={cls:=.type "enumerate",data:=.fields #[.none,.bool false,.ref s.heap.objs.size,zEZ 0,.none,.none]}) rfl
  rw[hz]at this;exact this
 exact⟨⟨_,he,rfl⟩,h _ he ⟨_,zAC _ (zAJ _ rfl),rfl,rfl⟩ λ b o x=>zAC _ (zAC _ x)⟩
theorem aDU{X:Cx}{pins:List (Addr×Obj)}{Z:List (Option V)}{H:Hp}{s:zAH}{h':Heap}{ch:List Addr}{p t':Nat}{o:HO}(I:Inv X pins Z H s)(hf:∀b∈ch,rQ X pins H b)(k:∀b u,b∉ch->s.heap.get? b=some u->h'.get? b=some u)
  (hp:s.heap.objs.size<=p)(new:cR X.prog X.w (upd H p o) h' p o):Inv X pins Z (upd H p o) {s with heap:=h',toks:=t'}:=by
 have hn:=I.hok.fresh hp;have nch:∀b u,H b=some u->b∉ch:=λ b u e z=>by have:=(hf b z).1;rw[e]at this;cases this
 refine I.call (g':=s.gens) (d':=s.drawn) (ch:=ch) ⟨λ b u q _ _ hx=>k b u hx q,λ b u q _ _ hx=>⟨u.slots,k b u hx q⟩,λ b u q n _=>?_,λ b u q hx=>⟨u,k b u hx q⟩,λ b xs q=>?_,λ b u xs q=>?_,λ b ps q=>⟨#[],?_⟩⟩ (λ b u e=>?_) I.bare
  λ b hb=>let⟨_,f1,_,f3,f4,f5⟩:=hf b hb;⟨f3,f1,f4,f5⟩
 .rw[aX (zAU (zAW (zAO q) hp))];exact n
 .rw[aX (bN q hn)];exact q
 .rw[aX (bN q hn)];exact q
 .rw[aX (bN q hn),q];simp
 .by_cases hb:b=p
  .subst hb;rw[aj]at e;cases e;exact new
  .rw[aX hb]at e
   refine(I.hok b u e).stay (λ c v hc q=>k c v ?_ q) (λ c q=>by rw[aX (bN q hn)];exact q) λ c xs q=>by rw[aX (bN q hn)];exact q
   rcases hc with rfl|hc
   .exact nch _ _ e
   .exact nch _ _ hc
def Ite(K:zAA)(a:Addr):It:=
 ⟨λ i H=>∃xs x,SqT K H a xs/\xs[i]? =some x,λ i H x H'=>∃p y,x= .ref p/\H p=none/\H'=upd H p (.tup [.int i,y])/\∀xs,SqT K H a xs->xs[i]? =some y,λ i H=>∃xs,SqT K H a xs/\xs.length<=i⟩
theorem aGI{P:zA3}{w:World}{K:zAA}{elts:List Expr}{x1:Nat}{ps:Pos}(a e it:Addr)(hei:e≠it)(hae:a≠e)(hai:a≠it):
  Turn P w K (.Tuple elts x1 ps) (Ite K a) [e,it] e (λ i h=>(∃old,IsEnum h e it i old)/\h.IsTupleIter it a i) where
 mem:=by simp
 obj:=λ i h st b hb=>by
  obtain⟨⟨old,he⟩,o,e2,c,d⟩:=st;rcases zAL.mp hb with rfl|hb
  .exact⟨_,he,λ v z=>by cases z⟩
  .have q:b=it:=by simpa using hb
   subst q;exact⟨o,e2,λ v z=>by rw[d]at z;cases z⟩
 keep:=λ i h h' st k=>⟨let⟨old,he⟩:=st.1;⟨old,k e (by simp) _ he⟩,st.2.at λ o q=>k it (by simp) o q⟩
 item:=by
  intro X hP hw hK hc i pins s Z H E I hf st hg;subst hP hw hK;obtain⟨xs,x,hq,hx⟩:=hg;obtain⟨its,rv,p,hz⟩:=I.tuple hq;obtain⟨u,hu,ru⟩:=rv.get hx;obtain⟨⟨old,he⟩,hit⟩:=st;refine wpAny_pyNext_enum_itemD (aOI (A:=X.A.in1) (show X.A.in1.handled=none from I.ok.hd hc) it a hai its.toArray) he ⟨hit,p⟩ (by have:=(zAI.mp hu).1;simpa using this) hei (by simp[hei,zDG hae]) λ y h' tk hy ho st' hT hsz hk=>⟨_,rfl,?_⟩
  have ey:y=u:=by
   have:its.toArray[i]? =some u:=by simpa using hu
   rw[this]at hy;exact(zAp hy).symm
  subst ey;have hel:e<s.heap.objs.size:=zAO he;refine wpAny_letOwnedTupleGo_enum ho λ h2 he2 hs2=>⟨.ref s.heap.objs.size,upd H s.heap.objs.size (.tup [.int i,x]),?_,rfl,⟨_,x,rfl,I.hok.fresh (zAP _),rfl,λ ys hy=>by rw[I.tuple_inj hy hq];exact hx⟩,⟨⟨_,by simpa using he2⟩,st'.1.at λ o q=>(hs2.2 it (zDG hei)).trans q⟩,λ b hb=>?_⟩
  .exact aDU (s:=s) (h':=h2) (t':=tk+1) I hf (λ b u hb q=>(hs2.2 b λ z=>hb (by simp[z])).trans (hk b u (λ z=>hb (by simp[z])) (λ z=>hb (by simp[z])) q)) (zAP _) ⟨⟨by simp[zBw],NoD.at ((hs2.2 _ (zB4 hel)).trans hT)⟩,[.int i tk,y],.cons ⟨_,rfl⟩ (.cons ru .nil),_,(hs2.2 _ (zB4 hel)).trans hT,rfl,_,rfl⟩
  .have:=(hf b hb).1
   rw[aX]
   .exact this
   .rintro rfl
    rcases zAL.mp hb with q|q
    .exact absurd hel (by rw[<-q];exact zBW _)
    .obtain⟨o,ho2,_⟩:=hit
     have q2:s.heap.objs.size=it:=by simpa using q
     exact absurd (zAO ho2) (by rw[<-q2];exact zBW _)
 done:=by
  intro X hP hw hK hc i pins s Z H E I hf st hg;subst hP hw hK;obtain⟨xs,hq,hx⟩:=hg;obtain⟨its,rv,p,hz⟩:=I.tuple hq;obtain⟨⟨old,he⟩,hit⟩:=st;obtain⟨f0,f1,f2,f3,f4,f5⟩:=hf it (by simp);have hT:s.TypeIs (.ref e) "enumerate":=⟨_,he,rfl⟩;have hl:=rv.length;unfold zEd;refine zAB (zEb (zBF (name:=zCT "__next__") hT zHW (zBO zHW hT F.entry_enumerate_next ?_ (F.args_enumerate_next_1 _))));show wpAny _ _ (field (.ref e) 2>>=_) _ _ _;refine zAB (zBX he rfl (x:=.ref it) rfl ?_);refine zAB (qu (I.ok.hd hc) hit p (by simp;lia) λ h' x he' hx'=>?_);obtain⟨o,ho,hc⟩:=hx';refine zAB (zEe (T:="StopIteration") (b:=true) ⟨o,ho,hc⟩ zHH ?_);exact zAE ⟨rfl,I.turned (t':=s.toks) (λ b o hb q=>he' b o hb q) f0 f1 f3 f4 f5⟩
 self:=λ _ _ _ _ _ st h=>let⟨⟨_,he⟩,_⟩:=st;zJD he h
def aMP(K:zAA)(tl:TA):TI:=λ Z H R=>tl Z H λ xs H1=>∃a,xs=[.ref a]/\(∃ys,SqT K H1 a ys)/\R (Ite K a) H1
theorem aKa{X:Cx}{elts:List Expr}{x1:Nat}{ps p pos:Pos}{l:Expr}{tl:TA}(hl:PA X [l] tl)(hg:Gl X "enumerate")(hm:X.mg "enumerate"=none)(hv:zAt "enumerate"=some (.type "enumerate"))
  (he:zAX [l] X.env=[(false,eval l X.env)]:=by rfl):PI X (.Tuple elts x1 ps) (.Call (.Name "enumerate" p) [l] [] pos) (aMP X.K tl):=by
 intro pins s Z H R I h;refine zBe (uD I hg hm hv ?_ (by decide) (by decide));refine zBq (thn (hl pos pins s Z H _ I h) λ us s1 ⟨vs,H1,I1,r1,a,e,⟨ys,hy⟩,q⟩=>?_) he rfl;subst e;obtain⟨u,rfl,ru⟩:=r1.one;cases ru;obtain⟨its,rv,pp,hz⟩:=I1.tuple hy;have ha:a<s1.heap.objs.size:=let⟨o,ho,_⟩:=pp;zAO ho
 refine aFA pp λ h' he hit hk=>zJD he ?_
 have n1:s1.heap.objs.size+1≠s1.heap.objs.size:=by lia
 refine⟨_,_,_,_,H1,rfl,I1.kept (t':=s1.toks) hk,aGI a _ _ n1 (zAU (zBj ha)) (zAU ha),⟨⟨_,he⟩,hit⟩,λ b hb=>?_,q⟩;have hle:s1.heap.objs.size<=b:=by
  rcases zAL.mp hb with rfl|hb
  .exact zEN _
  .have:b=s1.heap.objs.size:=by simpa using hb
   exact zF6 this.symm
 exact I1.fpOk hle (I1.hok.fresh hle)
def aAj(l:List D):List D:=l.zipIdx.map λ p=>.tup [.int (p.2:Int),p.1]
def aL9:List D->Rs (List D)
 |[.tup l]=>.ok (aAj l)
 |_=>.st
theorem aLO{K:zAA}{lab:Lab}{H:Hp}{a:Addr}{xs:List V}{ds:List D}(h:SqT K H a xs)(r:Rps K (λ p=>(lab p).1<=1) H xs ds):JL K lab (Ite K a) H (aAj ds):=by
 have hl:=r.length;have hle:(aAj ds).length=ds.length:=by simp[aAj]
 refine λ i=>⟨λ hi=>⟨xs,h,by lia⟩,λ hi=>⟨⟨xs,xs[i]'(by lia),h,by simp[hl,hle▸hi]⟩,λ x H' y=>?_⟩⟩
 obtain⟨p,y,rfl,hp,rfl,hy⟩:=y;obtain⟨d,h1,h2⟩:=r.get (hy xs h);refine⟨bA hp _,.tup [.int (i:Int),d],?_,.tup (.inl (.inl aj)) (.cons (.int _) (.cons (h2.up (bA hp _)) .nil))⟩;unfold aAj;rw[zAT,zGy,h1];simp
section
variable{C:Ct}{m:Mode}{a:Expr}{ga:En->Rs (List D)}{elts:List Expr}{x1:Nat}{ps p pos:Pos}
theorem aKL(ha:SA C m [a] ga)(hm:C.mg "enumerate"=none)(ho:okS m=true:=by rfl)(hs:∀i,zAX [a] (C.X i).env=[(false,eval a (C.X i).env)]:=by intro _;rfl)(hg:∀i,Gl (C.X i) "enumerate":=by intro _;rfl)(hv:zAt "enumerate"=some (.type "enumerate"):=by decide+kernel):
  SI C (.Tuple elts x1 ps) (.Call (.Name "enumerate" p) [a] [] pos) (cY aL9 ga):=by
 obtain⟨t,p1,p2⟩:=ha;refine⟨aMP C.K t,λ i=>by rw[<-C.hK i];exact aKa (p1 i) (hg i) (by rw[(C.cx i).2.2.2.1];exact hm) hv (hs i),λ U Z H Y lab Rr R W=>p2 U Z H Y lab _ R (W.bd.imp λ ds _ w vs H1 s r=>?_)⟩;cases ds with
 |nil=>exact zAQ w
 |cons d ds=>
  cases ds with
  |cons _ _=>cases d<;>exact zAQ w
  |nil=>
   obtain⟨v,rfl,rd⟩:=r.one_inv;cases d with
   |tup l=>
    obtain⟨R',r'⟩:=R.shared ho s rd;obtain⟨b,xs,rfl,h,q⟩:=r'.tup_inv;refine⟨b,rfl,⟨xs,h⟩,w _ H1 _ [(.ref b,.tup l)] s (λ p o e=>bT e) ⟨R'.len,R'.sl,R'.old,R'.new,λ z hz=>?_⟩ λ lab' H' hq=>?_⟩
    .rcases zAL.mp hz with rfl|hz
     .exact .tup h q
     .exact R'.tm z hz
    .have z:=hq _ (zAK ..)
     cases z with
     |tup h' q'=>exact aLO h' q'
   |_=>exact zAQ w
end
abbrev Ent:=List Int×Addr×V
section
theorem ints_of:∀(tks:List (Int×Tok)),zBS (tks.map λ p=>zEY p.1 p.2) (tks.map (·.1))
 |[]=>.nil
 |p::r=>.cons _ _ (ints_of r)
end
theorem Rp.fn_inv{K:zAA}(r:Rp K A H v (.fn x)):∃a,v= .ref a/\zA8 K zAY x=some (some (.ref a)):=by cases r with|fn h=>exact⟨_,rfl,h⟩
structure FnAt(C:Ct)(n:Nat)(x:Str)(F:List D->Rs D):Prop where
 ex:∃(fn:Addr) (fd:zAe) (ps:List Str) (k:Nat),cP C.prog C.w C.K C.mg C.base (CX1 C.prog C.w) k fn fd ps (spF C.K C.G.cl n F)/\k<=C.k/\zA8 C.K zAY x=some (some (.ref fn))/\zB0 C.K (.ref fn)=true/\Binds C.K fd ps []
abbrev aHG:=List (Str×(List D->Rs D))
def Tab(C:Ct)(n:Nat)(tab:aHG):Prop:=∀q∈tab,FnAt C n q.1 q.2
theorem aJx:Tab C n []:=λ q hq=>by cases hq
theorem aHV(hF:cP C.prog C.w C.K C.mg C.base (CX1 C.prog C.w) k fn fd ps (spF C.K C.G.cl n F))(hr:k<=C.k)(hn:zA8 C.K zAY x=some (some (.ref fn)))
  (hk:zB0 C.K (.ref fn)=true)(hb:Binds C.K fd ps [])(h:Tab C n tab):Tab C n ((x,F)::tab):=λ q hq=>by
 rcases zAL.mp hq with rfl|hq
 .exact⟨fn,fd,ps,k,hF,hr,hn,hk,hb⟩
 .exact h q hq
def fnOf(tab:aHG):Rs D->Option (List D->Rs D)
 | .ok (.fn x)=>tab.lookup x
 |_=>none
def aAW(tab:aHG)(i:Nat)(ga:En->Rs (List D)):En->Rs D:=λ Y=>match fnOf tab (aD i Y)with
 |some F=>aU F ga Y
 |none=>.st
theorem aGo(h:fnOf tab r=some F):∃x,r= .ok (.fn x)/\tab.lookup x=some F:=by
 unfold fnOf at h;split at h
 .exact⟨_,rfl,h⟩
 .cases h
def aM8(K:zAA)(cl:Str->Addr)(n:Nat)(E:XK)(tab:aHG)(i:Nat)(t:TA):TE:=λ Z H Q=>∃f x F,Z[i]? =some (some (.ref f))/\(x,F)∈tab/\zA8 K zAY x=some (some (.ref f))/\aAs (spF K cl n F) [] E t Z H Q
theorem lookup_mem{tab:aHG}(h:tab.lookup x=some F):(x,F)∈tab:=by
 induction tab with
 |nil=>cases h
 |cons q tab ih=>
  obtain⟨y,G⟩:=q;rw[zAc]at h;by_cases e:x==y
  .simp only[e]at h
   cases h;rw[zDQ e];exact zAK
  .simp only[e]at h
   exact zAM _ (ih h)
section
variable{C:Ct}{m:Mode}{e:Expr}{es:List Expr}{ga:En->Rs (List D)}{pos p:Pos}{n i:Nat}{y:Str}{tab:aHG}
theorem aHg(hT:Tab C n tab)(ha:SA C m (e::es) ga)(hn:∀Y ds,ga Y= .ok ds->ds.length=n)(hN:∀j,(C.X j).N[i]? =some y:=by intro _;rfl)(hv:∀j,Vis (C.X j).env.scope y:=by intro _;first|exact zCf rfl|exact zCC (zCf rfl)|exact zCC (zCC rfl))
  (hd:(y==("__debug__":Str))=false:=by decide)(hcd:(y==("__classdict__":Str))=false:=by decide)(he:∀i,zAX (e::es) (C.X i).env=(false,eval e (C.X i).env)::zAX es (C.X i).env:=by intro _;rfl)
  (hpl:∀i,(zC2 pos (zAX es (C.X i).env)).any (·.1)=false:=by intro _;rfl):SE C (some []) (.Call (.Name y p) (e::es) [] pos) (aAW tab i ga):=by
 obtain⟨t,h1,h2⟩:=ha;refine⟨aM8 C.K C.G.cl n C.G.E tab i t,λ j=>?_,λ U Z H Y lab Q R W=>?_⟩
 .obtain⟨e1,e2,e3,e4,e5⟩:=C.cx j
  intro pins s Z H Q I ⟨f,x,F,hs,hx,hf,h⟩;obtain⟨fn,fd,ps,k,hF,hr,hn',hk,hb⟩:=(hT _ hx).ex;rw[hf]at hn';cases hn';have fin:wpAny (model (C.X j).prog (C.X j).w) (C.X j).A (eval (.Name y p) (C.X j).env) (λ v s'=>v= .ref f/\s'=s) (C.X j).xe s:=by
   obtain⟨mm,hnn,hl⟩:=I.loc;obtain⟨u,ru,l⟩:=hl i y _ (hN j) hs (hv j);cases ru;rcases l with ⟨hk2,hm⟩|⟨hk2,c,hc,hcell⟩
   .exact zD1 (zFI I.ok.kind hk2 hnn hm ⟨rfl,rfl⟩) hd
   .rcases hk2 with hk2|hk2
    .exact zD1 (zFZ I.ok.kind hk2 hc hcell ⟨rfl,rfl⟩) hd
    .exact zD1 (zF0 I.ok.kind hk2 hc hcell ⟨rfl,rfl⟩ hcd) hd
  refine zBe (thn fin λ v s' ⟨ev,es'⟩=>?_);subst ev es';refine zDa (h₀:=(C.X j).base) I.ok.mod.kin (by rw[e3];exact hk) (thn (h1 j pos pins s' Z H _ I h) λ us s1 ⟨vs,H1,I1,r,q⟩=>⟨I1.kIn,?_⟩) (he j) (hpl j);exact aEH (CX:=CX1 (C.X j).prog (C.X j).w) (by rw[e1,e2,e3,e4,e5];exact hF) ((C.room j).mono hr) (by rw[e3];exact hb) .nil (C.pass j) I1 r q
 .unfold aAW at W
  cases hf:fnOf tab (aD i Y)with
  |none=>rw[hf]at W;exact zAQ W
  |some F=>
   rw[hf]at W;obtain⟨x,hvd,hl⟩:=aGo hf;obtain⟨v,hsv,rv⟩:∃v,Z[i]? =some (some v)/\Rp C.K (λ _=>True) H v (.fn x):=by
    unfold aD at hvd;split at hvd
    .rename_i d' e'
     cases hvd;rcases R.sl i _ e' with z|⟨v,a,b⟩
     .cases z
     .exact⟨v,a,Rp.wk (λ _ _ _ _=>trivial) b⟩
    .rename_i d' e'
     cases hvd;rcases R.sl i _ e' with z|⟨v,a,b⟩
     .cases z
     .exact⟨v,a,Rp.wk (λ _ _ _ _=>trivial) b⟩
    .cases hvd
   obtain⟨a,rfl,hx⟩:=rv.fn_inv;exact⟨a,x,F,hsv,lookup_mem hl,hx,aCg (F:=F) hn h2 U Z H Y lab Q R W⟩
end
def shB:Slot->Bool
 | .no=>true
 | .sh _=>true
 |_=>false
def nsL(Y:En)(fg:D->En->Rs En)(ft:En->Rs Bool)(inn:En->Rs (List D)):List D->Rs (List D)
 |[]=>.ok []
 |d::ds=>(fg d Y).bd λ Y1=>(ft Y1).bd λ k=>if k=true then(inn Y1).bd λ ys=>(nsL Y fg ft inn ds).bd λ zs=>.ok (ys++zs)else nsL Y fg ft inn ds
def inL(fi2:En->Rs (List D))(fg2:D->En->Rs En)(ft2:En->Rs Bool)(fe:En->Rs D):En->Rs (List D):=λ Y1=>if Y1.all shB=true then(fi2 Y1).bd λ ds=>lcL Y1 fg2 ft2 fe ds else .st
def aEh(fi:En->Rs (List D))(js:List (Option Nat))(fg:D->En->Rs En)(ft:En->Rs Bool)(inn:En->Rs (List D)):En->Rs D:=λ Y=>(fi (shE Y)).bd λ ds=>match nsL (stE js (shE Y)) fg ft inn ds with
 | .ok l=>if l.length<zAV then .ok (.lst l)else .st
 |_=>.st
theorem aI4(h:nsL Y fg ft inn (d::ds)= .ok l):
  ∃Y1 k,fg d Y= .ok Y1/\ft Y1= .ok k/\((k=true/\∃ys zs,inn Y1= .ok ys/\nsL Y fg ft inn ds= .ok zs/\l=ys++zs)\/(k=false/\nsL Y fg ft inn ds= .ok l)):=by
 unfold nsL at h;obtain⟨Y1,e1,h⟩:=cM h;obtain⟨k,e2,h⟩:=cM h;refine⟨Y1,k,e1,e2,?_⟩;cases k with
 |true=>
  rw[if_pos rfl]at h;obtain⟨ys,e3,h⟩:=cM h;obtain⟨zs,e4,h⟩:=cM h;exact .inl ⟨rfl,ys,zs,e3,e4,by cases h;rfl⟩
 |false=>
  rw[if_neg zA5]at h;exact .inr ⟨rfl,h⟩
theorem aNx(h:inL fi2 fg2 ft2 fe Y1= .ok ys):Y1.all shB=true/\∃ds,fi2 Y1= .ok ds/\lcL Y1 fg2 ft2 fe ds= .ok ys:=by
 unfold inL at h;split at h
 .rename_i hs
  obtain⟨ds,e1,e2⟩:=cM h;exact⟨hs,ds,e1,e2⟩
 .cases h
theorem RR.butS{K:zAA}(R:RR K G U Y Z H lab)(hs:Y.all shB=true)(hlab:¬(lab l).1<=1)(B:ni l H H')(hl:H l=some o)(ho:lR o=true)(h0:G.H0 l=none):RR K G U Y Z H' lab:=by
 refine⟨R.len,λ j s e=>?_,λ b o hb=>?_,R.new,λ q hq=>(R.tm q hq).but B hl ho hlab⟩
 .rcases R.sl j s e with z|⟨u,e1,e2⟩
  .exact .inl z
  .have hb:=zAf.mp hs s (zAw e)
   cases s with
   |no=>exact .inl rfl
   |sh d=>exact .inr ⟨u,e1,Rp.but B hl ho hlab e2⟩
   |_=>cases hb
 .exact B b o (λ z=>by subst z;rw[h0]at hb;cases hb) (R.old b o hb)
section
variable{K:zAA}{G:Gx}{wi wi2:TI}{fi fi2:En->Rs (List D)}{js:List (Option Nat)}{ks ks2:List Nat}{g g2:TG}{fg fg2:D->En->Rs En}{tt tt2:TT}{ft ft2:En->Rs Bool}{te:TE}{fe:En->Rs D}
theorem aMg(hi:aJi K G wi fi)(hg:aJj K {G with E:=λ _ _ _=>False} g fg)(hgo:pB g ks)(hgm:aB9 g)(hk:∀k∈ks2,k∉ks/\(js[k]?).join=none)(ht:aDj K {G with E:=λ _ _ _=>False} tt ft)(hi2:aJi K {G with E:=λ _ _ _=>False} wi2 fi2)
  (hg2:aJj K {G with E:=λ _ _ _=>False} g2 fg2)(ht2:aDj K {G with E:=λ _ _ _=>False} tt2 ft2)(he:jg K {G with E:=λ _ _ _=>False} (some []) te fe):
  jg K G (some []) (aOc (λ _=>.lst []) wi (stV js) g tt (aHU ks2 wi2 g2 tt2 (aLz te))) (aEh fi js fg ft (inL fi2 fg2 ft2 fe)):=by
 intro U Z H Y lab Q R W;refine hi U Z H _ _ _ R.shE (W.bd.imp λ ds _ w J H1 lab1 U1 s1 _ R1 jl=>?_);intro l hl;obtain⟨out,hout,hlen,w⟩:∃out,nsL (stE js (VL.shE Y)) fg ft (inL fi2 fg2 ft2 fe) ds= .ok out/\out.length<zAV/\QE K (some []) lab H Q (.lst out):=by
  cases hout:nsL (stE js (VL.shE Y)) fg ft (inL fi2 fg2 ft2 fe) ds with
  |ok out=>
   rw[hout]at w;dsimp only at w;split at w
   .rename_i hz;exact⟨out,rfl,hz,w⟩
   .exact zAQ w
  |ex c=>rw[hout]at w;exact zAQ w
  |st=>rw[hout]at w;exact zAQ w
 have R0:RR K {G with E:=λ _ _ _=>False} (U1++U) (VL.shE Y) Z H1 (λ _=>(0,0)):=R1.blk0 rfl;have RB:=R0.block (js:=js) (λ _=>zAa _) hl;have hHl:H l=none:=s1.free hl;have h0l:G.H0 l=none:=R1.old.free hl;have labl:¬((λ p=>if p=l then((2,0):Nat×Nat)else(0,0)) l).1<=1:=by simp
 have hsk:∀k∈ks2,(stV js Z)[k]? =some none\/(stV js Z)[k]? =none:=λ k hk2=>by
  have:=(hk k hk2).2
  unfold stV;rw[zAT];cases e:js[k]? with
  |none=>exact .inr rfl
  |some o=>
   rw[e]at this;cases o with
   |none=>exact .inl rfl
   |some j=>cases this
 refine⟨λ i n H2=>∃(pre:List D) (acc:List V),n=ds.length-i/\i<=ds.length/\H2 l=some (.lst acc)/\RR K {G with E:=λ _ _ _=>False} (U1++U) (stE js (VL.shE Y)) (stV js Z) H2 (λ p=>if p=l then(2,0)else(0,0))/\aW H H2/\Rps K (λ p=>H p=none/\p≠l) H2 acc pre/\
  ∃post,nsL (stE js (VL.shE Y)) fg ft (inL fi2 fg2 ft2 fe) (ds.drop i)= .ok post/\out=pre++post,⟨ds.length,[],[],by lia,by lia,aj,RB.up (bA hl _),s1.trans (bA hl _),.nil,out,hout,rfl⟩,?_⟩
 rintro i n H2 ⟨pre,acc,rfl,hi',hH2,R2,s2,rpre,post,hpost,eout⟩;have jj:=jl _ H2 λ q hq=>R2.tm q (zA0 _ hq)
 by_cases hlt:i<ds.length
 .obtain⟨go,yl⟩:=(jj i).2 hlt
  refine .inr ⟨go,λ x H3 hy=>?_⟩;obtain⟨s3,d,ed,rx⟩:=yl x H3 hy;replace R2:=R2.up s3;replace hH2:=s3 _ _ hH2;replace s2:=s2.trans s3;replace rpre:=rpre.up s3;have ed2:ds.drop i=d::ds.drop (i+1):=by
   rw[zCi hlt]
   have:=zAD hlt
   rw[ed]at this;cases this;rfl
  rw[ed2]at hpost;obtain⟨Y1,k,e1,e2,e3⟩:=aI4 hpost;have hgx:=hgo _ _ _ _ (hg (U1++U) x d _ H3 _ _ (λ Z4 H4=>H4=H3/\RR K {G with E:=λ _ _ _=>False} (U1++U) Y1 Z4 H3 (λ p=>if p=l then(2,0)else(0,0))) Y1 R2 rx e1 λ Z4 R4=>⟨rfl,R4⟩);refine hgm _ _ _ _ _ (λ Z4 H4 ⟨⟨eH,R4⟩,hlen4,hag4⟩=>?_) hgx;subst eH;refine ht (U1++U) Z4 H4 Y1 _ _ R4 ?_;rw[e2];intro H5 s5;rcases e3 with ⟨rfl,ys,zs,e3,e4,rfl⟩|⟨rfl,e4⟩
  .rw[if_pos rfl]
   obtain⟨hsh,ds2,f1,f2⟩:=aNx e3;refine⟨λ k hk2 v e=>?_,?_⟩
   .rw[hag4 k (hk k hk2).1]at e
    rcases hsk k hk2 with z|z<;>rw[z]at e<;>cases e
   refine hi2 (U1++U) Z4 H5 Y1 _ _ (R4.up s5) ?_;rw[f1];intro J2 H6 lab6 U6 s6 hlab6 R6 jl6;have hl6:H6 l=some (.lst acc):=s6 _ _ (s5 _ _ hH2);have lab6l:¬(lab6 l).1<=1:=by rw[hlab6 l _ (s5 _ _ hH2)];exact labl
   refine⟨λ j n2 H7=>∃(pre2:List D) (acc2:List V),n2=ds2.length-j/\j<=ds2.length/\H7 l=some (.lst acc2)/\RR K {G with E:=λ _ _ _=>False} (U6++(U1++U)) Y1 Z4 H7 lab6/\RR K {G with E:=λ _ _ _=>False} (U1++U) (stE js (VL.shE Y)) (stV js Z) H7 (λ p=>if p=l then(2,0)else(0,0))/\aW H H7/\
    Rps K (λ p=>H p=none/\p≠l) H7 acc2 (pre++pre2)/\∃post2,lcL Y1 fg2 ft2 fe (ds2.drop j)= .ok post2/\ys=pre2++post2,
    ⟨ds2.length,[],acc,by lia,by lia,hl6,R6,R2.up (s5.trans s6),(s2.trans s5).trans s6,by rw[zAy];exact rpre.up (s5.trans s6),ys,f2,rfl⟩,?_⟩
   rintro j n2 H7 ⟨pre2,acc2,rfl,hj,hl7,R7,Rb7,s7,rpre2,post2,hpost2,eys⟩;have jj7:=jl6 _ H7 λ q hq=>R7.tm q (zA0 _ hq)
   by_cases hlt2:j<ds2.length
   .obtain⟨go2,yl2⟩:=(jj7 j).2 hlt2
    refine .inr ⟨go2,λ x2 H8 hy2=>?_⟩;obtain⟨s8,d2,ed8,rx2⟩:=yl2 x2 H8 hy2;replace R7:=R7.up s8;replace Rb7:=Rb7.up s8;replace hl7:=s8 _ _ hl7;replace s7:=s7.trans s8;replace rpre2:=rpre2.up s8;have ed9:ds2.drop j=d2::ds2.drop (j+1):=by
     rw[zCi hlt2]
     have:=zAD hlt2
     rw[ed8]at this;cases this;rfl
    rw[ed9]at hpost2;obtain⟨Y2,k2,q1,q2,q3⟩:=aDP hpost2;refine hg2 (U6++(U1++U)) x2 d2 _ H8 _ _ _ Y2 R7 rx2 q1 λ Z9 R9=>?_
    refine ht2 (U6++(U1++U)) Z9 H8 Y2 _ _ R9 ?_;rw[q2];intro H9 s9;rcases q3 with ⟨rfl,y,ys2,q3,q4,rfl⟩|⟨rfl,q4⟩
    .rw[if_pos rfl]
     refine he (U6++(U1++U)) Z9 H9 Y2 _ _ (R9.up s9) ?_;rw[q3];intro v Ha sa ra;have hla:Ha l=some (.lst acc2):=sa _ _ (s9 _ _ hl7);have B:ni l Ha (upd Ha l (.lst (acc2++[v]))):=λ b o ne hb=>by rw[aX ne];exact hb
     have hsz:acc2.length<zAV:=by
      have h1:=rpre2.length;have h2:out.length=pre.length+(pre2.length+(ys2.length+1))+zs.length:=by rw[eout,eys];simp;lia
      rw[zA1]at h1;lia
     refine⟨acc2,hla,hsz,ds2.length-(j+1),by lia,pre2++[y],acc2++[v],rfl,hlt2,aj,(R7.up (s9.trans sa)).butS hsh lab6l B hla rfl h0l,(Rb7.up (s9.trans sa)).but_blk B hla rfl h0l,λ b o hb=>B b o (λ z=>by subst z;rw[hHl]at hb;cases hb) (((s7.trans s9).trans sa) b o hb),?_,ys2,q4,by rw[eys];simp⟩;rw[<-zBg];refine((rpre2.up (s9.trans sa)).append (.cons (ra.wk λ p o _ z=>?_) .nil)).but B hla rfl λ z=>z.2 rfl
     rcases z with z|z
     .exact⟨(s7.trans s9).free z,λ e=>by subst e;rw[s9 _ _ hl7]at z;cases z⟩
     .cases z
    .rw[if_neg zA5]
     exact⟨ds2.length-(j+1),by lia,pre2,acc2,rfl,hlt2,s9 _ _ hl7,R7.up s9,Rb7.up s9,s7.trans s9,rpre2.up s9,post2,q4,eys⟩
   .have ej:j=ds2.length:=by lia
    subst ej;rw[zEL]at hpost2;cases hpost2;rw[zAy]at eys;subst eys;exact .inl ⟨(jj7 _).1 (zAP _),ds.length-(i+1),by lia,_,acc2,rfl,hlt,hl7,Rb7,s7,rpre2,zs,e4,by rw[eout];simp⟩
  .rw[if_neg zA5]
   exact⟨ds.length-(i+1),by lia,pre,acc,rfl,hlt,s5 _ _ hH2,R2.up s5,s2.trans s5,rpre.up s5,post,e4,eout⟩
 .have ei:i=ds.length:=by lia
  subst ei;rw[zEL]at hpost;cases hpost;rw[zAy]at eout;subst eout;exact .inl ⟨(jj _).1 (zAP _),w _ H2 s2 (.lst hH2 (.inl hHl) (rpre.wk λ p o _ z=>⟨.inl z.1,z.2⟩))⟩
end
section
variable{C:Ct}{pos:Pos}{elt tg iter tg2 iter2:Expr}{ifs ifs2:List Expr}{sc:Scope}{N:List Str}{js:List (Option Nat)}{ks ks2:List Nat}{fi fi2:En->Rs (List D)}{fg fg2:D->En->Rs En}{ft ft2:En->Rs Bool}{fe:En->Rs D}
theorem aMC(hi:SI C tg iter fi)(hg:SG (C.blk sc N) tg ks fg)(ht:aHF (C.blk sc N) ifs ft)(hi2:SI (C.blk sc N) tg2 iter2 fi2)(hg2:SG (C.blk sc N) tg2 ks2 fg2)(ht2:aHF (C.blk sc N) ifs2 ft2)(he:SE (C.blk sc N) (some []) elt fe)(hk:∀k∈ks2,k∉ks/\(js[k]?).join=none:=by decide)(hs:∀i x,zBQ iter (C.X i).env x=pure x:=by intro _ _;rfl)(hs2:∀(i:(C.blk sc N).ι) x,zBQ iter2 ((C.blk sc N).X i).env x=pure x:=by intro _ _;rfl)(hB:∀i,fj (C.X i) sc N (stV js) (ks++ks2):=by intro _;exact aC3 rfl rfl rfl rfl rfl rfl):
  SE C (some []) (.ListComp elt [⟨tg,iter,ifs,0⟩,⟨tg2,iter2,ifs2,0⟩] sc pos) (aEh fi js fg ft (inL fi2 fg2 ft2 fe)):=by
 obtain⟨wi,i1,i2⟩:=hi;obtain⟨g,g1,g2,g3,g4⟩:=hg;obtain⟨tt,t1,t2⟩:=ht;obtain⟨wi2,j1,j2⟩:=hi2;obtain⟨gg,h1,h2,h3,h4⟩:=hg2;obtain⟨tt2,u1,u2⟩:=ht2;obtain⟨te,e1,e2⟩:=he;have go1:pB g (ks++ks2):=λ v Z H Q q=>g4 _ _ _ _ _ (λ Z' H' ⟨a,b,c⟩=>⟨a,b,λ k hk=>c k λ z=>hk (zA0 _ z)⟩) (g3 v Z H Q q)
 refine⟨_,λ i=>aOw (pos:=pos) (hB i) (C.calm i) (i1 i) (λ c fp z0 zI=>g1 (i,c,fp,z0,zI)) go1 (λ c fp z0 zI=>t1 (i,c,fp,z0,zI)) (aHR elt tg iter tg2 iter2 ifs ifs2 sc pos) (aCc rfl (λ _ _ _ _=>rfl) λ _ _ _ _ _=>rfl) aLn ?_ rfl rfl (hs i),aMg i2 g2 g3 g4 hk t2 j2 h2 u2 e2⟩;intro c fp z0 zI;exact aKj (C.calm i) (λ _ _ h=>h) (aHQ elt tg iter tg2 iter2 ifs ifs2 sc pos) (aCc rfl (λ _ _ _ _=>rfl) λ _ _ _ _ _=>rfl) (j1 (i,c,fp,z0,zI)) (h1 (i,c,fp,z0,zI)) h3 (u1 (i,c,fp,z0,zI)) (aNU (e1 (i,c,fp,z0,zI))) (hs2 (i,c,fp,z0,zI))
end
end VL
namespace HT
open PySem PySem.Spec PyProof.Rows
end HT
namespace VL
open PySem PySem.Spec PyProof.Rows L2
end VL
namespace PySem.AutoSeq1
set_option maxRecDepth 8000 in
theorem aE7(l:Addr)(items:Array Value)(n:Nat)(b:Addr)(items2:Array Value)(n2:Nat)(dd:Option Addr)(sl:Array (Option Value))(hs0:¬(!items.isEmpty&&zCG (items.size+items2.size))=true)(hs1:items.size<=zAV)(hs2:items.size+items2.size<=zAV+1):
  Meets (zCN.«list.extend» ⟨[.ref l,.ref b],[]⟩) (λ _ R s=>s.heap.get? l=some {cls:=.type "list",dict:=none,data:=.seq items n,slots:=#[]}/\s.heap.get? b=some {cls:=.type "tuple",dict:=dd,data:=.seq items2 n2,slots:=sl}/\
   R (.ok (.ret zBJ)) {s with heap:=s.heap.update l (zCe λ x=>x++items2),toks:=s.toks}):=
 .of_wp λ prog w A R s h=>by
  obtain⟨hp,g,d,tk,os⟩:=s;obtain⟨hl,hb,h⟩:=h;have f1:=idx_int;have f2:=sub_tuple_tuple;have f3:=sub_list_list;have f4:=sub_tuple_list;have f5:=sub_list_tuple;have hz':(items++items2).size<=zAV+1:=by rw[Array.size_append];exact hs2
  wp_walk using(wpAny_updateSeq hl rfl (hz:=hs1) (_hz':=hz')),zCH hl,zCH hb;exact⟨_,rfl,h⟩
end PySem.AutoSeq1
namespace VL
open PySem PySem.Spec PyProof.Rows L2
def aMJ(K:zAA):V->List V->Hp->VK->Prop:=λ x vs H Q=>∃l b xs zs,x= .ref l/\vs=[.ref b]/\H l=some (.lst xs)/\SqT K H b zs/\xs.length+zs.length<=zAV/\∀H',ni l H H'->H' l=some (.lst (xs++zs))->Q .non H'
theorem aLA:MtM X "list.extend" (aMJ X.K):=by
 intro pins s Z H x vs v us Q I rx rv h;obtain⟨l,b,xs,zs,rfl,rfl,hH,hB,hz,q⟩:=h;cases rx;obtain⟨u,rfl,ru⟩:=rv.one;cases ru;obtain⟨z,its,n,r,hl,e⟩:=I.lstM hH;obtain⟨its2,r2,⟨⟨c2,dd,dt,sl⟩,e2,hc2,n2,hd2⟩,z2⟩:=I.tuple hB;replace hc2:c2= .type "tuple":=hc2;replace hd2:dt= .seq its2.toArray n2:=hd2;subst hc2 hd2;have l1:=r.length;have l2:=r2.length;have hsz:its.toArray.size+its2.toArray.size<=zAV:=by rw[zAR,zAR];lia
 have hlong:¬(!its.toArray.isEmpty&&zCG (its.toArray.size+its2.toArray.size))=true:=by
  rw[aCz hsz,zEf];exact zA5
 refine zDm zGo ⟨_,e,rfl⟩ F.entry_list_extend (F.args_list_extend_2 _ _) (AutoSeq1.aE7 l its.toArray n b its2.toArray n2 dd sl hlong (by lia) (by lia)) ⟨e,e2,?_⟩;refine⟨.non,_,I.lset (its':=its++its2) hH e (by simp) (r.append r2) ?_,rfl,q _ (λ b o ne hb=>by rw[aX ne];exact hb) aj⟩;rw[zA1];lia
section
variable{C:Ct}{pos apos cpos p:Pos}{e:Expr}{fe:En->Rs D}{i:Nat}{x:Str}{m:Mode}
def aOG(ds:List D)(k:List D->Ou):D->Ou
 | .tup es=>if ds.length+es.length<=zAV then k (ds++es)else .st
 |_=>.st
def aAi(i:Nat)(fe:En->Rs D):En->Ou:=λ Y=>match Y[i]? with
 |some (.ow (.lst ds))=>(fe Y).bo (aOG ds λ l=>.nx (Y.set i (.ow (.lst l))))
 |_=>.st
theorem aDu(i:Nat)(he:SE C m e fe)(hm:okN m=true:=by rfl)(hN:∀j,(C.X j).N[i]? =some x:=by intro _;rfl)(hv:∀j,Vis (C.X j).env.scope x:=by intro _;first|exact zCf rfl|exact zCC (zCf rfl)|exact zCC (zCC rfl))(hd:(x==("__debug__":Str))=false:=by decide)
  (hcd:(x==("__classdict__":Str))=false:=by decide)(hs1:∀j,zAX [e] (C.X j).env=[(false,eval e (C.X j).env)]:=by intro _;rfl)
  (hbase:∀j,zDP (.Name x p) "extend" (C.X j).env (eval (.Name x p) (C.X j).env)=eval (.Name x p) (C.X j).env:=by intro _;rfl)
  (hfew:∀j,((zC2 cpos (zAX [e] (C.X j).env)).all (λ x=>!x.1)&&(zFc cpos (zDs [] (C.X j).env)).all (λ x=>x.1.isSome)&&decide ([e].length+([]:List zCs).length+(if ([]:List zCs).isEmpty then 0 else 1)<30))=true:=by intro _;rfl)
  (hline:(apos.endLine==cpos.line)=true:=by rfl)
  (hsw:∀j,zCw (.Call (.Attribute (.Name x p) "extend" apos) [e] [] cpos) none pos.line (C.X j).env=pure false:=by intro _;rfl):
  SS C (.Expr (.Call (.Attribute (.Name x p) "extend" apos) [e] [] cpos) pos) (aAi i fe):=by
 obtain⟨t,h1,h2⟩:=he;refine⟨yd (tBM C.K "list" (aMJ C.K) (rD i) (jd t tG)),λ j=>qi (by rw[<-C.hK j];exact aAz zBr zGo PySem.F.type_list_extend aLA (jN (hN j) (hv j) hd hcd) (ak (h1 j) dY (hs1 j)) (hbase j) (hfew j) hline (hs1 j) rfl) (hsw j),λ U Z H Y lab De R W=>?_⟩;unfold aAi at W;cases es:Y[i]? with
 |none=>rw[es]at W;exact zAQ W
 |some s=>
  rw[es]at W;split at W
  .rename_i ds hs
   cases hs;rcases R.sl i _ es with z|⟨v,ev,hv'⟩
   .cases z
   .obtain⟨hv1,htop⟩:=hv'
    obtain⟨a0,ea0,la0⟩:=htop rfl;subst ea0;obtain⟨a1,xs,ea1,h,mm,r⟩:=hv1.lst_inv;cases ea1;refine⟨.ref a0,ev,.inl ⟨rfl,xs,SqL.of h⟩,h2 U Z H Y lab _ R (W.bo.imp λ d _ w y H2 s2 r2=>?_)⟩;cases d with
    |tup es'=>
     dsimp only[aOG]at w;by_cases hz:ds.length+es'.length<=zAV
     .rw[if_pos hz]at w
      obtain⟨R',r'⟩:=R.fresh (P:=λ k=>k=1) rfl (λ k hk=>beq_iff_eq.mp (qm hm k hk)) s2 r2;have la:(cO H 1 lab a0).1=i+2:=by rw[bT h];exact la0
      obtain⟨b,zs,rfl,hb,rb⟩:=r'.tup_inv;refine⟨a0,b,xs,zs,rfl,rfl,s2 _ _ h,hb,by rw[r.length,rb.length];exact hz,λ H3 B h3=>?_⟩;refine w Z H3 _ (R'.mut ev (s2 _ _ h) rfl la B ⟨.lst h3 (.inr la) ?_,λ _=>⟨a0,rfl,la⟩⟩);have ra:Rps C.K (λ p=>((cO H 1 lab p).1=1\/(cO H 1 lab p).1=i+2)/\p≠a0) H2 (xs++zs) (ds++es'):=by
       refine(r.mono s2 λ p o e z=>⟨by rw[bT e];exact z.1,z.2⟩).append (rb.wk λ p o e z=>⟨.inl z,λ q=>?_⟩);subst q;have z1:(cO H 1 lab p).1=1:=z;lia
      exact ra.but B (s2 _ _ h) rfl λ z=>z.2 rfl
     .rw[if_neg hz]at w
      exact zAQ w
    |_=>exact zAQ w
  .exact zAQ W
end
def Enr(K:zAA)(x:Str)(st:Stmt)(f:Addr)(fd:zAe):Prop:=L2.Fun K x x st f fd/\zA8 K zAY x=some (some (.ref f))
theorem enr{K:zAA}{st:Stmt}{oc kV dc pm cd ct:Value}(a:zA8 K zAY x=some (some (.ref f)))
  (l:K.lookup f=some ⟨oc,od,.func (zBk x x (oX st) (dX st) (aK st) .none kV dc pm an cd ct),sl⟩)(c:zDH K cd x=true)(k:zB0 K (.ref f)=true):∃f fd,Enr K x st f fd:=⟨f,_,aOE (st:=st) l c k,a⟩
structure Dnr(K:zAA)(mg:Str->Option Value)(x:Str)(st:Stmt)(ps:List Str)(f:Addr)(d:zAe):Prop where
 F:L2.Fun K x x st f d
 m:mg x=some (.ref f)
 b:L2.Binds K d ps []
section
variable{C:Ct}
theorem aa{st:Stmt}(hF:cP C.prog C.w C.K C.mg C.base (CX1 C.prog C.w) k fn fd ps (spF C.K C.G.cl n F))(D:Dnr C.K C.mg x st ps fn fd)(ha:SA C m (e::es) ga)(hr:k<=C.k:=by exact zE8 rfl)(hg:∀i,Gl (C.X i) x:=by intro _;rfl)
  (hn:∀Y ds,ga Y= .ok ds->ds.length=n:=by repeat (first|exact λ _ _ h=>aFg h|apply zp))(hdb:(x==("__debug__":Str))=false:=by decide)(he:∀i,zAX (e::es) (C.X i).env=(false,eval e (C.X i).env)::zAX es (C.X i).env:=by intro _;rfl)
  (hpl:∀i,(zC2 pos (zAX es (C.X i).env)).any (·.1)=false:=by intro _;rfl):SE C (some []) (.Call (.Name x p) (e::es) [] pos) (aU F ga):=aKS hF hr D.m D.F.kp D.b ha hn hdb he hpl hg
end
theorem bK{P:zA3}{w:World}{K:zAA}{st:Stmt}(D:Dnr K mg q st ps fn fd)(S:aY N ps (aK st))(hb:N.Nodup->∀cdv A outer s H E hr,SSs (ctD P w K mg base N q (aK st) fn cdv A outer s H E k hr) (dX st) f)(hn:ps.length=n:=by rfl)(hF:dw N.length f=FF:=by rfl):
  cP P w K mg base (CX1 P w) (k+1) fn fd ps (spF K (az mg) n FF):=aL7 D.F S (hb S.nd) hn hF
def aFG(items:Array Value)(nss:Nat->List Int)(h:Heap):Prop:=∀i v,items[i]? =some v->∃x its,v= .ref x/\IsTup h x its/\zBS its.toList (nss i)
def aEN(items:Array Value):List Addr:=items.toList.filterMap λ v=>match v with| .ref x=>some x|_=>none
theorem aEM{items:Array Value}{i:Nat}(h:items[i]? =some (zBC x)):x∈aEN items:=by
 unfold aEN;rw[zCI];exact⟨.ref x,by have:=zAw (l:=items.toList) (i:=i) (by simpa using h);exact this,rfl⟩
theorem aFG.keep(T:aFG items nss h)(k:∀b∈aEN items,∀o,h.get? b=some o->h'.get? b=some o):aFG items nss h':=λ i v e=>by
 obtain⟨x,its,rfl,⟨o,h1,h2⟩,h3⟩:=T i v e;exact⟨x,its,rfl,⟨o,k x (aEM e) o h1,h2⟩,h3⟩
theorem TupIter.ext{hp h':Heap}{it t i c}(h:Heap.IsTupleIter hp it t i)(e:zFi c hp h')(n:it≠c):h'.IsTupleIter it t i:=h.at λ o q=>e it o n q
theorem IsTup.ext{hp h':Heap}{t c xs}(h:zFT hp t xs)(e:zFi c hp h')(n:t≠c):h'.IsTuple t xs:=let⟨o,q,r⟩:=h;⟨o,e t o n q,r⟩
section
variable{prog:zA3}{w:World}{A:zAj}{E:Value->zAH->Prop}{s:zAH}{z TI TO i1 i2 l1 l2:Addr}{k:Nat}{xs ys:Array Value}{x y a b:Value}
theorem aGF{Q:Value->zAH->Prop}(D:ZipApart z TI TO i1 i2 l1 l2)(hz:IsZip s.heap z TI TO .none)(hTI:zDo s.heap TI (.ref i1) (.ref i2))(hTO:zDo s.heap TO a b)
  (p1:s.heap.IsTupleIter i1 l1 k)(p2:s.heap.IsTupleIter i2 l2 k)(t1:s.heap.IsTuple l1 xs)(t2:s.heap.IsTuple l2 ys)(hx:xs[k]? =some x)(hy:ys[k]? =some y)
  (hQ:∀h',IsZip h' z TI TO (zEZ s.heap.objs.size)->zDo h' TO x y->h'.IsTupleIter i1 l1 (k+1)->h'.IsTupleIter i2 l2 (k+1)->zDo h' s.heap.objs.size x y->
   (∀c o,c∉[z,TO,i1,i2]->s.heap.get? c=some o->h'.get? c=some o)->Q (.ref s.heap.objs.size) {s with heap:=h'}):
  wpAny (model prog w) A (zCN.«zip.__next__» ⟨[.ref z],[]⟩) (λ fin s'=>∃v,fin= .done (.ret v)/\Q v s') E s:=by
 show wpAny _ _ (field (.ref z) 2>>=_) _ _ _;refine zAB (zBX hz rfl (x:=.bool false) rfl ?_);show wpAny _ _ (field (.ref z) 3>>=_) _ _ _;refine zAB (zBX hz rfl (x:=.ref TI) rfl (zAB (zCE hTI rfl ?_)));show wpAny _ _ (zBl (.ref z)>>=_) _ _ _;refine zAB ?_;unfold zBl;refine zAB (zBX hz rfl (x:=.none) rfl (zAE ?_));simp only[if_true];refine zAB (zDJ (zAB (zBX hz rfl (x:=.ref TO) rfl (zAB (zDS hz (by simp) λ j1 (z1:IsZip j1 z TI TO .ellipsis) s1=>zAB ?_)))));simp only[zID,zIN,zFj,zIY];refine zAB (zAB (zFf ?_));show wpAny _ _ (zBG (.ref i1)>>=_) _ _ _;refine zAB (oO (TupIter.ext p1 s1.extBut D.i1z) (IsTup.ext t1 s1.extBut D.l1z) hx λ j2 q2 s2=>zAE ?_);have o2:zDo j2 TO a b:=s2.extBut _ _ D.TOi1 (s1.extBut _ _ D.TOz hTO);refine zAB (zCE o2 rfl (zAB (zFJ o2 λ j3 (o3:zDo j3 TO x b) s3=>zAB (zI3 (zAE (zAB (zAB (zFf ?_))))))));show wpAny _ _ (zBG (.ref i2)>>=_) _ _ _;refine zAB (oO (TupIter.ext (TupIter.ext (TupIter.ext p2 s1.extBut D.i2z) s2.extBut D.i12.symm) s3.extBut D.TOi2.symm) (IsTup.ext (IsTup.ext (IsTup.ext t2 s1.extBut D.l2z) s2.extBut D.l2i1) s3.extBut D.l2TO) hy λ j4 q4 s4=>zAE ?_);have o4:zDo j4 TO x b:=s4.extBut _ _ D.TOi2 o3;refine zAB (zCE o4 rfl (zAB (zFJ o4 λ j5 (o5:zDo j5 TO x y) s5=>zAB (zI3 (zAE (zAE (zAB (zCE o5 rfl (zAB (wpAny_newTuple ?_))))))))));have sz:j5.objs.size=s.heap.objs.size:=by rw[s5.1,s4.1,s3.1,s2.1,s1.1]
 have z5:IsZip j5 z TI TO .ellipsis:=s5.extBut _ _ D.TOz.symm (s4.extBut _ _ D.i2z.symm (s3.extBut _ _ D.TOz.symm (s2.extBut _ _ D.i1z.symm z1)));have k5:∀c o,c∉[z,TO,i1,i2]->s.heap.get? c=some o->j5.get? c=some o:=λ c o n e=>by
  simp only[zAL,zAh,or_false,not_or]at n;exact s5.extBut _ _ n.2.1 (s4.extBut _ _ n.2.2.2 (s3.extBut _ _ n.2.1 (s2.extBut _ _ n.2.2.1 (s1.extBut _ _ n.1 e))))
 have q15:j5.IsTupleIter i1 l1 (k+1):=TupIter.ext (TupIter.ext (TupIter.ext q2 s3.extBut D.TOi1.symm) s4.extBut D.i12) s5.extBut D.TOi1.symm;have q25:j5.IsTupleIter i2 l2 (k+1):=TupIter.ext q4 s5.extBut D.TOi2.symm;have lz:z<j5.objs.size:=zAO z5;show wpAny _ _ (zDc (.ref z) (.ref j5.objs.size)>>=_) _ _ _;refine zAB ?_;unfold zDc;have z6:IsZip (j5.push {cls:=.type "tuple",data:=.seq #[x,y]}) z TI TO .ellipsis:=zAC _ z5;refine zAB (zDS z6 (by simp) λ j7 (z7:IsZip j7 z TI TO (zEZ j5.objs.size)) s7=>zDS z7 (by simp) λ j8 (z8:IsZip j8 z TI TO (zEZ j5.objs.size)) s8=>?_);have up:∀c o,c≠z->j5.get? c=some o->j8.get? c=some o:=λ c o n e=>s8.extBut _ _ n (s7.extBut _ _ n (zAC _ e))
 have t8:zDo j8 j5.objs.size x y:=s8.extBut _ _ (zB4 lz) (s7.extBut _ _ (zB4 lz) (zAJ _ rfl));rw[sz]at z8 t8;refine zAE ⟨_,rfl,?_⟩;show Q (.ref j5.objs.size) _;rw[sz];exact hQ j8 z8 (up _ _ D.TOz o5) (q15.at λ o e=>up _ o D.i1z e) (q25.at λ o e=>up _ o D.i2z e) t8 λ c o n e=>up c o (λ q=>n (by simp[q])) (k5 c o n e)
theorem aHI{Q:Fin->zAH->Prop}(hh:A.handled=none)(D:ZipApart z TI TO i1 i2 l1 l2)(hz:IsZip s.heap z TI TO .none)(hTI:zDo s.heap TI (.ref i1) (.ref i2))(hTO:zDo s.heap TO a b)
  (p1:s.heap.IsTupleIter i1 l1 k)(p2:s.heap.IsTupleIter i2 l2 k)(t1:s.heap.IsTuple l1 xs)(t2:s.heap.IsTuple l2 ys)(hend:xs[k]? =none\/ys[k]? =none)
  (hE:∀h' e,(∀c o,c∉[z,TO,i1,i2]->s.heap.get? c=some o->h'.get? c=some o)->(∃o,h'.get? e=some o/\o.cls= .type "StopIteration")->E (.ref e) {s with heap:=h'}):
  wpAny (model prog w) A (zCN.«zip.__next__» ⟨[.ref z],[]⟩) Q E s:=by
 show wpAny _ _ (field (.ref z) 2>>=_) _ _ _;refine zAB (zBX hz rfl (x:=.bool false) rfl ?_);show wpAny _ _ (field (.ref z) 3>>=_) _ _ _;refine zAB (zBX hz rfl (x:=.ref TI) rfl (zAB (zCE hTI rfl ?_)));show wpAny _ _ (zBl (.ref z)>>=_) _ _ _;refine zAB ?_;unfold zBl;refine zAB (zBX hz rfl (x:=.none) rfl (zAE ?_));simp only[if_true];refine zAB (zDJ (zAB (zBX hz rfl (x:=.ref TO) rfl (zAB (zDS hz (by simp) λ j1 (z1:IsZip j1 z TI TO .ellipsis) s1=>zAB ?_)))));simp only[zID,zIN,zFj,zIY];refine zAB (zAB (zFf ?_));show wpAny _ _ (zBG (.ref i1)>>=_) _ _ _;have fin:∀{j:Heap} {e:Addr},IsZip j z TI TO .ellipsis->(∀c o,c∉[z,TO,i1,i2]->s.heap.get? c=some o->j.get? c=some o)->(∃o,j.get? e=some o/\o.cls= .type "StopIteration")->wpAny (model prog w) A (setField (.ref z) 0 .none) (λ _ s'=>E (.ref e) s') E {s with heap:=j}:=λ{j e} zj kj ⟨oe,he,ce⟩=>by
  have ne:e≠z:=λ q=>by subst q;rw[zj]at he;cases he;simp at ce
  exact zDS zj (by simp) λ j' _ sj=>hE j' e (λ c o n q=>sj.extBut _ _ (λ q=>n (by simp[q])) (kj c o n q)) ⟨oe,sj.extBut _ _ ne he,ce⟩
 cases hx:xs[k]? with
 |none=>
  refine zAB (qu hh (TupIter.ext p1 s1.extBut D.i1z) (IsTup.ext t1 s1.extBut D.l1z) hx λ j2 e s2 he=>?_);refine fin (s2 _ _ D.i1z.symm z1) (λ c o n q=>?_) he;simp only[zAL,zAh,or_false,not_or]at n;exact s2 _ _ n.2.2.1 (s1.extBut _ _ n.1 q)
 |some x=>
  have hy:ys[k]? =none:=by rcases hend with h|h;rw[hx]at h;cases h;exact h
  refine zAB (oO (TupIter.ext p1 s1.extBut D.i1z) (IsTup.ext t1 s1.extBut D.l1z) hx λ j2 q2 s2=>zAE ?_);have o2:zDo j2 TO a b:=s2.extBut _ _ D.TOi1 (s1.extBut _ _ D.TOz hTO);refine zAB (zCE o2 rfl (zAB (zFJ o2 λ j3 (o3:zDo j3 TO x b) s3=>zAB (zI3 (zAE (zAB (zAB (zFf ?_))))))));show wpAny _ _ (zBG (.ref i2)>>=_) _ _ _;refine zAB (qu hh (TupIter.ext (TupIter.ext (TupIter.ext p2 s1.extBut D.i2z) s2.extBut D.i12.symm) s3.extBut D.TOi2.symm) (IsTup.ext (IsTup.ext (IsTup.ext t2 s1.extBut D.l2z) s2.extBut D.l2i1) s3.extBut D.l2TO) hy λ j4 e s4 he=>?_);refine fin (s4 _ _ D.i2z.symm (s3.extBut _ _ D.TOz.symm (s2.extBut _ _ D.i1z.symm z1))) (λ c o n q=>?_) he;simp only[zAL,zAh,or_false,not_or]at n;exact s4 _ _ n.2.2.2 (s3.extBut _ _ n.2.1 (s2.extBut _ _ n.2.2.1 (s1.extBut _ _ n.1 q)))
theorem aE6(l1 l2:Addr)(xs ys:Array Value):
  Meets (zCN.«zip.__new__» ⟨[.type "zip",.ref l1,.ref l2],[]⟩) (λ _ R s=>s.heap.IsTuple l1 xs/\s.heap.IsTuple l2 ys/\
   ∀h1 h2 h3 h4,h1=s.heap.push {cls:=.type "tuple_iterator",data:=.fields #[.ref l1,.int 0 0]}->h2=h1.push {cls:=.type "tuple_iterator",data:=.fields #[.ref l2,.int 0 0]}->h3=h2.push {cls:=.type "tuple",data:=.seq #[.ref s.heap.objs.size,.ref h1.objs.size]}->h4=h3.push {cls:=.type "tuple",data:=.seq #[.none,.none]}->
   R (.ok (.ret (.ref h4.objs.size))) {s with heap:=h4.push {cls:=.type "zip",data:=.fields #[.none,.bool false,.bool false,.ref h2.objs.size,.ref h3.objs.size]}}):=
 .of_wp λ prog w A R s h=>by
  obtain⟨hp,g,d,tk,os⟩:=s;obtain⟨u1,u2,h⟩:=h;have hsub:=sub_zip;have v1:zFT (zGu ⟨hp,g,d,tk,os⟩) l1 xs:=u1;have v2:zFT (zGu ⟨hp.push {cls:=.type "tuple_iterator",data:=.fields #[.ref l1,.int 0 0]},g,d,tk,os⟩) l2 ys:=let⟨o,q,r⟩:=u2;⟨o,zAC _ q,r⟩
  wp_walk using zCM v1,zCM v2;exact⟨_,rfl,h _ _ _ _ rfl rfl rfl rfl⟩
theorem aGt{Q:Value->zAH->Prop}(t1:s.heap.IsTuple l1 xs)(t2:s.heap.IsTuple l2 ys)
  (h:∀h' n,n=s.heap.objs.size->IsZip h' (n+4) (n+2) (n+3) .none->zDo h' (n+2) (.ref n) (.ref (n+1))->zDo h' (n+3) .none .none->h'.IsTupleIter n l1 0->h'.IsTupleIter (n+1) l2 0->
   (∀c o,s.heap.get? c=some o->h'.get? c=some o)->Q (.ref (n+4)) {s with heap:=h'}):
  wpAny (model prog w) A (call (.type "zip") [.ref l1,.ref l2]) Q E s:=by
 refine callType_new F.called_zip (by decide) (F.typeCall_zip_2 _ _) (F.newCall_zip_2 _ _) (λ obj=>F.args_object_init_3 obj _ _) F.entry_zip_new (aE6 l1 l2 xs ys) ⟨t1,t2,λ h1 h2 h3 h4 e1 e2 e3 e4=>?_⟩;have n1:h1.objs.size=s.heap.objs.size+1:=by rw[e1,zBE]
 have n2:h2.objs.size=s.heap.objs.size+2:=by rw[e2,zBE,n1]
 have n3:h3.objs.size=s.heap.objs.size+3:=by rw[e3,zBE,n2]
 have n4:h4.objs.size=s.heap.objs.size+4:=by rw[e4,zBE,n3]
 have up1:∀c o,s.heap.get? c=some o->h1.get? c=some o:=λ c o q=>by rw[e1];exact zAC _ q
 have up2:∀c o,h1.get? c=some o->h2.get? c=some o:=λ c o q=>by rw[e2];exact zAC _ q
 have up3:∀c o,h2.get? c=some o->h3.get? c=some o:=λ c o q=>by rw[e3];exact zAC _ q
 have up4:∀c o,h3.get? c=some o->h4.get? c=some o:=λ c o q=>by rw[e4];exact zAC _ q
 have g1:=zAJ s.heap (o:={cls:=.type "tuple_iterator",data:=.fields #[.ref l1,.int 0 0]}) rfl;have g2:=zAJ h1 (o:={cls:=.type "tuple_iterator",data:=.fields #[.ref l2,.int 0 0]}) rfl;have g3:=zAJ h2 (o:={cls:=.type "tuple",data:=.seq #[.ref s.heap.objs.size,.ref h1.objs.size]}) rfl;have g4:=zAJ h3 (o:={cls:=.type "tuple",data:=.seq #[.none,.none]}) rfl;rw[<-e1]at g1;rw[<-e2]at g2;rw[<-e3]at g3;rw[<-e4]at g4;have g5:=zAJ h4 (o:={cls:=.type "zip",data:=.fields #[.none,.bool false,.bool false,.ref h2.objs.size,.ref h3.objs.size]}) rfl;show _/\_;rw[n2,n3,n4]at g5;rw[n3]at g4;rw[n1,n2]at g3;rw[n1]at g2;rw[n4,n2,n3];exact⟨⟨_,g5,rfl⟩,h _ _ rfl g5 (zAC _ (up4 _ _ g3)) (zAC _ g4) ⟨_,zAC _ (up4 _ _ (up3 _ _ (up2 _ _ g1))),rfl,rfl⟩ ⟨_,zAC _ (up4 _ _ (up3 _ _ g2)),rfl,rfl⟩
  λ c o q=>zAC _ (up4 _ _ (up3 _ _ (up2 _ _ (up1 _ _ q))))⟩
end
theorem aGi{X:Cx}{pins:List (Addr×Obj)}{Z:List (Option V)}{H:Hp}{s:zAH}{h':Heap}{ch:List Addr}{t':Nat}(I:Inv X pins Z H s)(hf:∀b∈ch,rQ X pins H b)(k:∀b u,b∉ch->s.heap.get? b=some u->h'.get? b=some u):
  Inv X pins Z H {s with heap:=h',toks:=t'}:=by
 have nch:∀b u,H b=some u->b∉ch:=λ b u e z=>by have:=(hf b z).1;rw[e]at this;cases this
 refine I.call (g':=s.gens) (d':=s.drawn) (ch:=ch) ⟨λ b u q _ _ hx=>k b u hx q,λ b u q _ _ hx=>⟨u.slots,k b u hx q⟩,λ b u q n _=>n,λ b u q hx=>⟨u,k b u hx q⟩,λ b xs q=>q,λ b u xs q=>q,λ b ps q=>⟨#[],by rw[q];simp⟩⟩ (λ b u e=>?_) I.bare
  λ b hb=>let⟨_,f1,_,f3,f4,f5⟩:=hf b hb;⟨f3,f1,f4,f5⟩
 refine(I.hok b u e).stay (λ c v hc q=>k c v ?_ q) (λ c q=>q) λ c xs q=>q
 rcases hc with rfl|hc
 .exact nch _ _ e
 .exact nch _ _ hc
def Itz(K:zAA)(a b:Addr):It:=
 ⟨λ i H=>∃xs ys x y,SqT K H a xs/\SqT K H b ys/\xs[i]? =some x/\ys[i]? =some y,λ i H v H'=>∃p x y,v= .ref p/\H p=none/\H'=upd H p (.tup [x,y])/\(∀xs,SqT K H a xs->xs[i]? =some x)/\∀ys,SqT K H b ys->ys[i]? =some y,λ i H=>∃xs ys,SqT K H a xs/\SqT K H b ys/\(xs.length<=i\/ys.length<=i)⟩
theorem aHP{P:zA3}{w:World}{K:zAA}{elts:List Expr}{x1:Nat}{ps:Pos}(a b z TI TO i1 i2:Addr)(D:ZipApart z TI TO i1 i2 a b):
  Turn P w K (.Tuple elts x1 ps) (Itz K a b) [z,TI,TO,i1,i2] z (λ i h=>IsZip h z TI TO .none/\zDo h TI (.ref i1) (.ref i2)/\(∃u v,zDo h TO u v)/\h.IsTupleIter i1 a i/\h.IsTupleIter i2 b i) where
 mem:=by simp
 obj:=λ i h ⟨e1,e2,⟨u,v,e3⟩,⟨o4,e4,_,d4⟩,o5,e5,_,d5⟩ c hc=>by
  simp only[zAL,zAh,or_false]at hc;rcases hc with rfl|rfl|rfl|rfl|rfl
  .exact⟨_,e1,λ v z=>by cases z⟩
  .exact⟨_,e2,λ v z=>by cases z⟩
  .exact⟨_,e3,λ v z=>by cases z⟩
  .exact⟨o4,e4,λ v z=>by rw[d4]at z;cases z⟩
  .exact⟨o5,e5,λ v z=>by rw[d5]at z;cases z⟩
 keep:=λ i h h' ⟨e1,e2,⟨u,v,e3⟩,e4,e5⟩ k=>⟨k _ (by simp) _ e1,k _ (by simp) _ e2,⟨u,v,k _ (by simp) _ e3⟩,e4.at λ o q=>k _ (by simp) o q,e5.at λ o q=>k _ (by simp) o q⟩
 item:=by
  intro X hP hw hK hc i pins s Z H E I hf st hg;subst hP hw hK;obtain⟨xs,ys,x,y,q1,q2,hx,hy⟩:=hg;obtain⟨its,rv,p,hz⟩:=I.tuple q1;obtain⟨its2,rv2,p2,hz2⟩:=I.tuple q2;obtain⟨u,hu,ru⟩:=rv.get hx;obtain⟨u2,hu2,ru2⟩:=rv2.get hy;obtain⟨e1,e2,⟨c,d,e3⟩,e4,e5⟩:=st;have hT:s.TypeIs (.ref z) "zip":=⟨_,e1,rfl⟩;unfold zEd;refine zAB (zEb (zBF (name:=zCT "__next__") hT zEh (zBO zEh hT zI6 (aGF D e1 e2 e3 e4 e5 p p2 (x:=u) (y:=u2) (by simpa using hu) (by simpa using hu2) λ h' f1 f2 f3 f4 f5 k=>zAE ⟨_,rfl,?_⟩) (zIW _))));have lt:∀{c o},s.heap.get? c=some o->c≠s.heap.objs.size:=λ e=>zAU (zAO e)
  have n1:i1≠s.heap.objs.size:=by obtain⟨_,e,_⟩:=e4;exact lt e
  have n2:i2≠s.heap.objs.size:=by obtain⟨_,e,_⟩:=e5;exact lt e
  refine wpAny_letOwnedTupleGo_zip f1 λ h2 z2 s2=>⟨.ref s.heap.objs.size,upd H s.heap.objs.size (.tup [x,y]),?_,rfl,⟨_,x,y,rfl,I.hok.fresh (zAP _),rfl,λ l hl=>by rw[I.tuple_inj hl q1];exact hx,λ l hl=>by rw[I.tuple_inj hl q2];exact hy⟩,
   ⟨z2,s2.extBut _ _ D.TIz (k _ _ (by simp[D.TIz,D.TITO,D.TIi1,D.TIi2]) e2),⟨_,_,s2.extBut _ _ D.TOz f2⟩,TupIter.ext f3 s2.extBut D.i1z,TupIter.ext f4 s2.extBut D.i2z⟩,λ c hc=>?_⟩
  .refine aDU (s:=s) (h':=h2) (t':=s.toks) (ch:=[z,TI,TO,i1,i2]) I hf (λ c v hc q=>(s2.2 c λ e=>hc (by simp[e])).trans (k c v (λ m=>hc ?_) q)) (zAP _) ⟨⟨by simp[zBw],NoD.at ((s2.2 _ (lt e1).symm).trans f5)⟩,[u,u2],.cons ru (.cons ru2 .nil),_,(s2.2 _ (lt e1).symm).trans f5,rfl,_,rfl⟩
   simp only[zAL,zAh,or_false]at m ⊢;rcases m with m|m|m|m<;>simp[m]
  .have:=(hf c hc).1
   rw[aX]
   .exact this
   .rintro rfl
    simp only[zAL,zAh,or_false]at hc;rcases hc with m|m|m|m|m
    .exact lt e1 m.symm
    .exact lt e2 m.symm
    .exact lt e3 m.symm
    .exact n1 m.symm
    .exact n2 m.symm
 done:=by
  intro X hP hw hK hc i pins s Z H E I hf st hg;subst hP hw hK;obtain⟨xs,ys,q1,q2,hx⟩:=hg;obtain⟨its,rv,p,hz⟩:=I.tuple q1;obtain⟨its2,rv2,p2,hz2⟩:=I.tuple q2;obtain⟨e1,e2,⟨c,d,e3⟩,e4,e5⟩:=st;have hT:s.TypeIs (.ref z) "zip":=⟨_,e1,rfl⟩;have hl:=rv.length;have hl2:=rv2.length;unfold zEd;refine zAB (zEb (zBF (name:=zCT "__next__") hT zEh (zBO zEh hT zI6 (aHI (I.ok.hd hc) D e1 e2 e3 e4 e5 p p2 (by simp;lia) λ h' e k he=>?_) (zIW _))));obtain⟨o,ho,hc⟩:=he;refine zAB (zEe (T:="StopIteration") (b:=true) ⟨o,ho,hc⟩ zHH ?_);refine zAE ⟨rfl,aGi (t':=s.toks) (ch:=[z,TI,TO,i1,i2]) I hf λ c v hc q=>k c v (λ m=>hc ?_) q⟩;simp only[zAL,zAh,or_false]at m ⊢;rcases m with m|m|m|m<;>simp[m]
 self:=λ _ _ _ _ _ st h=>wpAny_pyIter_zip st.1 h
def aPN(K:zAA)(tl:TA):TI:=λ Z H R=>tl Z H λ xs H1=>∃a b,xs=[.ref a,.ref b]/\(∃ys,SqT K H1 a ys)/\(∃ys,SqT K H1 b ys)/\R (Itz K a b) H1
theorem aNE{X:Cx}{elts:List Expr}{x1:Nat}{ps p pos:Pos}{l m:Expr}{tl:TA}(hl:PA X [l,m] tl)(hg:Gl X "zip")(hm:X.mg "zip"=none)(hv:zAt "zip"=some (.type "zip"))
  (hs:zAX [l,m] X.env=[(false,eval l X.env),(false,eval m X.env)]:=by rfl)(hs2:zAX [m] X.env=[(false,eval m X.env)]:=by rfl):PI X (.Tuple elts x1 ps) (.Call (.Name "zip" p) [l,m] [] pos) (aPN X.K tl):=by
 intro pins s Z H R I h;refine zBe (uD I hg hm hv ?_ (by decide) (by decide));refine zBq (thn (hl pos pins s Z H _ I h) λ us s1 ⟨vs,H1,I1,r1,a,b,e,⟨ys,hy⟩,⟨ys2,hy2⟩,q⟩=>?_) (by rw[hs,hs2]) (by rw[hs2];rfl);subst e;obtain⟨u,u2,rfl,ru,ru2⟩:∃u u2,us=[u,u2]/\RelV (.ref a) u/\RelV (.ref b) u2:=by
  cases r1 with
  |cons r rr=>
   cases rr with
   |cons r' rr=>cases rr;exact⟨_,_,rfl,r,r'⟩
 cases ru;cases ru2;obtain⟨its,rv,pp,hz⟩:=I1.tuple hy;obtain⟨its2,rv2,pp2,hz2⟩:=I1.tuple hy2;have ha:a<s1.heap.objs.size:=let⟨o,ho,_⟩:=pp;zAO ho
 have hb:b<s1.heap.objs.size:=let⟨o,ho,_⟩:=pp2;zAO ho
 refine aGt pp pp2 λ h' n en e1 e2 e3 e4 e5 hk=>wpAny_pyIter_zip e1 ?_
 rw[<-en]at ha hb;refine⟨_,[n+4,n+2,n+3,n,n+1],_,_,H1,rfl,I1.kept (t':=s1.toks) hk,aHP a b (n+4) (n+2) (n+3) n (n+1) ⟨by lia,by lia,by lia,by lia,by lia,by lia,by lia,by lia,by lia,by lia,by lia,by lia,by lia,by lia,by lia,by lia,by lia,by lia⟩,⟨e1,e2,⟨_,_,e3⟩,e4,e5⟩,λ c hc=>?_,q⟩;have hle:s1.heap.objs.size<=c:=by
  simp only[zAL,zAh,or_false]at hc;lia
 exact I1.fpOk hle (I1.hok.fresh hle)
def aC8(l m:List D):List D:=(l.zip m).map λ p=>.tup [p.1,p.2]
def aC9:List D->Rs (List D)
 |[.tup l,.tup m]=>.ok (aC8 l m)
 |_=>.st
theorem aNq{K:zAA}{lab:Lab}{H:Hp}{a b:Addr}{xs ys:List V}{ds es:List D}(h:SqT K H a xs)(r:Rps K (λ p=>(lab p).1<=1) H xs ds)(h2:SqT K H b ys)(r2:Rps K (λ p=>(lab p).1<=1) H ys es):JL K lab (Itz K a b) H (aC8 ds es):=by
 have hl:=r.length;have hl2:=r2.length;have hle:(aC8 ds es).length=min ds.length es.length:=by simp[aC8]
 refine λ i=>⟨λ hi=>⟨xs,ys,h,h2,by lia⟩,λ hi=>⟨⟨xs,ys,xs[i]'(by lia),ys[i]'(by lia),h,h2,by simp,by simp⟩,λ x H' y=>?_⟩⟩
 obtain⟨p,y,y2,rfl,hp,rfl,hy,hy2⟩:=y;obtain⟨d,g1,g2⟩:=r.get (hy xs h);obtain⟨d2,g3,g4⟩:=r2.get (hy2 ys h2);refine⟨bA hp _,.tup [d,d2],?_,.tup (.inl (.inl aj)) (.cons (g2.up (bA hp _)) (.cons (g4.up (bA hp _)) .nil))⟩;unfold aC8;rw[zAT,zDk (z:=(d,d2)) |>.mpr ⟨g1,g3⟩];rfl
section
variable{C:Ct}{m:Mode}{a b:Expr}{ga:En->Rs (List D)}{elts:List Expr}{x1:Nat}{ps p pos:Pos}
theorem aMh(ha:SA C m [a,b] ga)(hm:C.mg "zip"=none)(ho:okS m=true:=by rfl)(hs:∀i,zAX [a,b] (C.X i).env=[(false,eval a (C.X i).env),(false,eval b (C.X i).env)]:=by intro _;rfl)(hs2:∀i,zAX [b] (C.X i).env=[(false,eval b (C.X i).env)]:=by intro _;rfl)(hg:∀i,Gl (C.X i) "zip":=by intro _;rfl)(hv:zAt "zip"=some (.type "zip"):=by decide+kernel):
  SI C (.Tuple elts x1 ps) (.Call (.Name "zip" p) [a,b] [] pos) (cY aC9 ga):=by
 obtain⟨t,p1,p2⟩:=ha;refine⟨aPN C.K t,λ i=>by rw[<-C.hK i];exact aNE (p1 i) (hg i) (by rw[(C.cx i).2.2.2.1];exact hm) hv (hs i) (hs2 i),λ U Z H Y lab Rr R W=>p2 U Z H Y lab _ R (W.bd.imp λ ds _ w vs H1 s r=>?_)⟩;unfold aC9 at w;split at w
 .rename_i l k _
  cases r with
  |cons r1 rr=>
   obtain⟨v2,rfl,r2⟩:=rr.one_inv;obtain⟨R',r1'⟩:=R.shared ho s r1;obtain⟨_,r2'⟩:=R.shared ho s r2;obtain⟨b,xs,rfl,h,q⟩:=r1'.tup_inv;obtain⟨b2,xs2,rfl,h2,q2⟩:=r2'.tup_inv;refine⟨b,b2,rfl,⟨xs,h⟩,⟨xs2,h2⟩,w _ H1 _ [(.ref b,.tup l),(.ref b2,.tup k)] s (λ p o e=>bT e) ⟨R'.len,R'.sl,R'.old,R'.new,λ z hz=>?_⟩ λ lab' H' hq=>?_⟩
   .rcases zAL.mp hz with rfl|hz
    .exact .tup h q
    .rcases zAL.mp hz with rfl|hz
     .exact .tup h2 q2
     .exact R'.tm z hz
   .have z:=hq _ (zAK ..)
    have z2:=hq _ (zAM _ (zAK ..));cases z with
    |tup h' q'=>
     cases z2 with
     |tup h2' q2'=>exact aNq h' q' h2' q2'
 .exact zAQ w
end
def pY(ks vs:List D):Option (List (Int×D)):=match intsOf ks with
 |some is=>if is.length=vs.length then some (is.zip vs)else none
 |none=>none
def aD8(ps:List (Int×D)):D:=.dct (ps.map λ p=>.int p.1) (ps.map (·.2))
theorem zK(h:pY ks vs=some ps):ks=ps.map (λ p=>.int p.1)/\vs=ps.map (·.2):=by
 unfold pY at h;split at h
 .rename_i is hi
  split at h
  .rename_i hl
   cases h;refine⟨?_,?_⟩
   .rw[dm hi,show(λ p:Int×D=>D.int p.1)=(λ i=>D.int i)∘zG6 from rfl,<-zAu,zHz (by lia)]
   .rw[zEM (by lia)]
  .cases h
 .cases h
theorem aHH:∀ps:List (Int×D),(ps.map (·.1)).zip (ps.map (·.2))=ps
 |[]=>rfl
 |p::ps=>by rw[zAG,zAG,zBP,aHH ps]
theorem vf(ps:List (Int×D)):pY (ps.map λ p=>.int p.1) (ps.map (·.2))=some ps:=by
 unfold pY;have e:intsOf (ps.map λ p=>D.int p.1)=some (ps.map (·.1)):=by
  rw[show(ps.map λ p=>D.int p.1)=(ps.map (·.1)).map D.int by rw[zAu];rfl];exact iH _
 rw[e];dsimp only;rw[if_pos (by rw[zAF,zAF]),aHH]
theorem Rp.dctI_inv{K:zAA}(r:Rp K A H v (.dct ks vs))(h:pY ks vs=some ps):
  ∃a kvs,v= .ref a/\H a=some (.dK kvs)/\A a/\Rps K (λ p=>A p/\p≠a) H (kvs.map (·.2)) (ps.map (·.2))/\kvs.map (·.1)=ps.map λ p=>(zC4 p.1:Key):=by
 obtain⟨h1,h2⟩:=zK h;generalize hd:D.dct ks vs=d at r;cases r with
 |dK hh m r=>
  rename_i kvs ds;injection hd with q1 q2
  subst q2;refine⟨_,kvs,rfl,hh,m,by rw[<-h2];exact r,?_⟩;rw[h1]at q1;clear r h h1 h2 hh;induction kvs generalizing ps with
  |nil=>cases ps with
   |nil=>rfl
   |cons _ _=>cases q1
  |cons p kvs ih=>cases ps with
   |nil=>cases q1
   |cons q ps=>
    obtain⟨p1,p2⟩:=p;rw[zAG,zAG]at q1;injection q1 with q3 q4
    rw[zAG,zAG,ih q4];cases p1 with
    |inl i=>injection q3 with q3;rw[q3]
    |inr x=>cases q3
 |dT hh m r=>
  injection hd with q1 q2
  rw[h1]at q1;cases ps<;>cases q1
 |_=>cases hd
theorem aDo{K:zAA}:∀{kvs:List (Key×V)} {ps:List (Int×D)},Rps K A H (kvs.map (·.2)) (ps.map (·.2))->(kvs.map (·.1)=ps.map λ p=>(zC4 p.1:Key))->∀i:Int,
  (∃d v,ps.lookup i=some d/\xO kvs (.inl i)=some v/\Rp K A H v d)\/(ps.lookup i=none/\xO kvs (.inl i)=none)
 |[],[],_,_,_=>.inr ⟨rfl,rfl⟩
 |[],_::_,_,e,_=>by cases e
 |_::_,[],_,e,_=>by cases e
 |p::kvs,q::ps,r,e,i=>by
  obtain⟨p1,p2⟩:=p;obtain⟨q1,q2⟩:=q;rw[zAG,zAG]at e;injection e with e1 e2
  replace e1:p1= .inl q1:=e1;subst e1;rw[zAG,zAG]at r;cases r with
  |cons h r=>
   by_cases c:q1=i
   .subst c
    exact .inl ⟨q2,p2,by simp[zAc],yV rfl,h⟩
   .have c1:(i==q1)=false:=by simpa using λ z=>c z.symm
    rw[yW (p:=(zC4 q1,p2)) (by simpa using c),zAc,c1];exact aDo r e2 i
def xq:D->D->Rs D
 | .dct ks vs,.int i=>match pY ks vs with
  |some ps=>(match ps.lookup i with
   |some d=>.ok d
   |none=>.st)
  |none=>.st
 |_,_=>.st
def aD6(neg:Bool):D->D->Rs D
 | .int i,.dct ks vs=>match pY ks vs with
  |some ps=>.ok (.bl (neg !=(ps.lookup i).isSome))
  |none=>.st
 |_,_=>.st
def aPi:R2:=λ x y H Q=>∃a v,x= .ref a/\aA0 H a y (some v)/\Q v H
def aMw(neg:Bool):R2:=λ y x H Q=>∃a o,x= .ref a/\aA0 H a y o/\Q (.bl (neg !=o.isSome)) H
theorem aNb{X:Cx}(hu:X.A.units+1<cLine):OpR X (zAs .In) (aMw false):=by
 intro pins s Z H y x u v Q I ry rx ⟨a,o,ex,g,q⟩;subst ex;cases rx;exact aPs hu I g ry λ s3 I3=>⟨.bl o.isSome,H,I3,rfl,by simpa using q⟩
theorem aNW{K:zAA}:OpS K (aMw n) (aD6 n):=by
 intro A x y d e H Q z rx ry ez q;unfold aD6 at ez;split at ez
 .rename_i i ks vs
  cases hp:pY ks vs with
  |none=>rw[hp]at ez;cases ez
  |some ps=>
   rw[hp]at ez;cases ez;have ex:=rx.int_inv;subst ex;obtain⟨a,kvs,rfl,h1,m,r,hk⟩:=ry.dctI_inv hp;refine⟨a,_,rfl,aA0.k (k:=.inl i) h1,?_⟩;rcases aDo r hk i with ⟨d,v,e1,e2,_⟩|⟨e1,e2⟩
   .rw[e2];rw[e1]at q;exact q _ H (aW.refl H) (.bl _)
   .rw[e2];rw[e1]at q;exact q _ H (aW.refl H) (.bl _)
 .cases ez
section
variable{C:Ct}{m1 m2:Mode}{a b:Expr}{fa fb:En->Rs D}{pos:Pos}
theorem Ct.din(C:Ct)(i:C.ι):OpR (C.X i) (zAs .In) (aMw false):=aNb (by have:=(C.room i).un;lia)
theorem aMe(ha:SE C m1 a fa)(hb:SE C m2 b fb)(hm:zB5 .In b=false:=by with_unfolding_all rfl):ST C (.Compare a [.In] [b] pos) (tsb (op2 (aD6 false) fa fb)):=pK C.din aNW ha hb hm
theorem aEC(ha:SE C m1 a fa)(hb:SE C m2 b fb)(hp:yQ b:=by exact λ _ _=>rfl):SE C m1 (.Subscript a b pos) (op2 xq fa fb):=by
 obtain⟨t,h1,h2⟩:=ha;obtain⟨u,k1,k2⟩:=hb;refine⟨tOp aPi t u,λ i=>aKg (by have:=(C.room i).un;lia) (h1 i) (k1 i) hp,λ U Z H Y lab Q R W=>?_⟩;refine h2 U Z H Y lab _ R (W.bd.imp λ d _ w x H1 s1 r1=>?_);refine k2 U Z H1 Y lab _ (R.up s1) (w.bd.imp λ e _ w y H2 s2 r2=>?_);obtain⟨z,ez,wz⟩:=w.okD;cases d with
 |dct ks vs=>
  cases e with
  |int i=>
   cases hp2:pY ks vs with
   |none=>unfold xq at ez;dsimp only at ez;rw[hp2]at ez;cases ez
   |some ps=>
    unfold xq at ez;dsimp only at ez;rw[hp2]at ez;dsimp only at ez;have ey:=r2.int_inv;subst ey;obtain⟨a,kvs,rfl,g1,m,r,hk⟩:=(r1.up s2).dctI_inv hp2;rcases aDo r hk i with ⟨d,v,e1,e2,e3⟩|⟨e1,e2⟩
    .rw[e1]at ez
     cases ez;have g2:aA0 H2 a (.int i) (some v):=by
      have:=aA0.k (k:=.inl i) g1
      rw[e2]at this;exact this
     exact⟨a,v,rfl,g2,wz v H2 (s1.trans s2) (e3.wk λ p o _ q=>q.1)⟩
    .rw[e1]at ez;cases ez
  |_=>cases ez
 |_=>cases ez
end
def aES(ps:List (Int×D))(i:Int)(d:D):List (Int×D):=if (ps.any λ p=>decide (p.1=i))=true then ps.map (λ p=>if p.1=i then(p.1,d)else p)else ps++[(i,d)]
theorem aJd:∀{kvs:List (Key×V)} {ps:List (Int×D)} {i:Int},(kvs.map (·.1)=ps.map λ p=>(zC4 p.1:Key))->(kvs.any λ kv=>decide (kv.1=(.inl i:Key)))=ps.any λ p=>decide (p.1=i)
 |[],[],_,_=>rfl
 |[],_::_,_,e=>by cases e
 |_::_,[],_,e=>by cases e
 |(p1,p2)::kvs,q::ps,i,e=>by
  rw[zAG,zAG]at e;injection e with e1 e2
  replace e1:p1= .inl q.1:=e1;subst e1;rw[zCb,zCb,aJd e2];simp
theorem aHl{K:zAA}{i:Int}{v:V}{d:D}(h:Rp K A H v d):∀{kvs:List (Key×V)} {ps:List (Int×D)},Rps K A H (kvs.map (·.2)) (ps.map (·.2))->(kvs.map (·.1)=ps.map λ p=>(zC4 p.1:Key))->
  Rps K A H ((kvs.map λ kv=>if kv.1= .inl i then(kv.1,v)else kv).map (·.2)) ((ps.map λ p=>if p.1=i then(p.1,d)else p).map (·.2))/\((kvs.map λ kv=>if kv.1= .inl i then(kv.1,v)else kv).map (·.1)=(ps.map λ p=>if p.1=i then(p.1,d)else p).map λ p=>(zC4 p.1:Key))
 |[],[],_,_=>⟨.nil,rfl⟩
 |[],_::_,_,e=>by cases e
 |_::_,[],_,e=>by cases e
 |(p1,p2)::kvs,(q1,q2)::ps,r,e=>by
  rw[zAG,zAG]at e;injection e with e1 e2
  replace e1:p1= .inl q1:=e1;subst e1;rw[zAG,zAG]at r;cases r with
  |cons h1 r1=>
   obtain⟨z1,z2⟩:=aHl h r1 e2;rw[zAG,zAG,zAG,zAG,zAG,zAG,z2];by_cases c:q1=i
   .subst c
    rw[if_pos rfl,if_pos rfl];exact⟨.cons h z1,rfl⟩
   .rw[if_neg (show¬((zC4 q1:Key),p2).1=zC4 i by simpa using c),if_neg (show¬(q1,q2).1=i from c)]
    exact⟨.cons h1 z1,rfl⟩
theorem aMz{K:zAA}{kvs:List (Key×V)}{ps:List (Int×D)}{i:Int}{v:V}{d:D}(r:Rps K A H (kvs.map (·.2)) (ps.map (·.2)))(e:kvs.map (·.1)=ps.map λ p=>(zC4 p.1:Key))(h:Rp K A H v d):
  Rps K A H ((putK kvs (.inl i) v).map (·.2)) ((aES ps i d).map (·.2))/\(putK kvs (.inl i) v).map (·.1)=(aES ps i d).map λ p=>(zC4 p.1:Key):=by
 unfold putK aES;rw[aJd e];split
 .exact aHl h r e
 .rw[zAq,zAq,zAq,zAq,e]
  exact⟨r.append (.cons h .nil),rfl⟩
theorem aLb{K:zAA}{kvs:List (Key×V)}{ps:List (Int×D)}(h:H a=some (.dK kvs))(m:A a)(r:Rps K (λ p=>A p/\p≠a) H (kvs.map (·.2)) (ps.map (·.2)))(e:kvs.map (·.1)=ps.map λ p=>(zC4 p.1:Key)):Rp K A H (.ref a) (aD8 ps):=by
 have e1:(kvs.map λ p=>kD p.1)=ps.map λ p=>.int p.1:=by
  rw[show(kvs.map λ p=>kD p.1)=(kvs.map (·.1)).map kD by rw[zAu];rfl,e,zAu];rfl
 have:=Rp.dK h m r
 rw[e1]at this;exact this
def aAI(acc qs:List (Int×D)):List (Int×D):=qs.foldl (λ ps q=>aES ps q.1 q.2) acc
theorem aHB{X:Cx}:dj X (.type "int") (λ xs H Q=>∃b,xs=[.bl b]/\Q (.int (if b=true then 1 else 0)) H):=by
 intro pins s Z H xs us Q I r h;obtain⟨b,rfl,q⟩:=h;obtain⟨u,rfl,r1⟩:=vals1 r;cases r1;exact call_int_bool ⟨.int _,H,I.tok _,⟨_,rfl⟩,q⟩
def wZ:List D->Rs D
 |[.bl b]=>.ok (.int (if b=true then 1 else 0))
 |_=>.st
theorem aLe{K:zAA}:su K (λ xs H Q=>∃b,xs=[.bl b]/\Q (.int (if b=true then 1 else 0)) H) wZ:=by
 intro A xs ds H Q z r ez q;unfold wZ at ez;split at ez
 .cases ez
  cases r with
  |cons h' r=>cases h';cases r;exact⟨_,rfl,q _ H (aW.refl H) (.int _)⟩
 .cases ez
theorem aJF:∀x z,wZ x= .ok z->imm z=true:=by
 intro x z e;unfold wZ at e;split at e
 .cases e;rfl
 .cases e
section
variable{C:Ct}{pos p:Pos}{m:Mode}{a:Expr}{ga:En->Rs (List D)}
theorem aKQ(hm:C.mg "int"=none)(ha:SA C m [a] ga)(he:∀i,zAX [a] (C.X i).env=[(false,eval a (C.X i).env)]:=by intro _;rfl)(hg:∀i,Gl (C.X i) "int":=by intro _;rfl)(hv:zAt "int"=some (.type "int"):=by decide+kernel):SE C (some []) (.Call (.Name "int" p) [a] [] pos) (opA wZ ga):=
 gO (yu (λ i=>aHB) aLe hg hm hv ha (by decide) (by decide) he) λ _ _ h=>qz aJF h
end
end VL
namespace PySem
open Sem(wp)
theorem aCE:zDn (.type "tuple") "keys"=pure none:=by rw[zEv,zD4];kernel_rfl
theorem aAh(hx:s.heap.get? a=some o)(hc:o.cls= .type "tuple")(hdat:o.data= .seq xs k)(hd:o.dict=none)(hA:A.handled=none)
  (h:∀h' tk e,Heap.NewExcOf s.heap h' e "AttributeError"->Q none {s with heap:=h',toks:=tk}):
  wpAny (model prog w) A (zIe (.ref a) "keys") Q E s:=by
 obtain⟨c,dct,dat,sl⟩:=o;simp only at hc hdat hd;subst hc hdat hd;obtain⟨hp,g,d,tk,os⟩:=s;have hT:∀tk',(⟨hp,g,d,tk',os⟩:zAH).TypeIs (.ref a) "tuple":=λ _=>⟨_,hx,rfl⟩
 have f1:=sub_AttributeError;have f3:=zEA.lookup;have f4:=zEA.bind (.ref a);have f5:=am_tuple_getattr_none;unfold zIe getAttrBy? getAttrBy
 repeat (any_goals (first|assumption|exact hT _|((with_reducible show wpAny _ _ (call (zDZ "tuple.__getattribute__") _ _) _ _ _);refine zDm zEA (hT _) am_entry_tuple_getattribute (F.args_tuple_getattribute_2 _ _) (meets_getattribute_miss_tuple a xs k sl "keys" _ aCE (by decide+kernel) (by size_fits)) ⟨hx,hA,λ h' tk' e hx'=>?_⟩)|wp_step))
 obtain⟨t',u',he⟩:=hx'.there;show wpAny _ _ (zIf _ _ _ _ _ _ _) _ _ _;unfold zIf
 repeat (any_goals (first|assumption|wp_step))
 exact h _ _ _ hx'.of
section
variable{prog:zA3}{w:World}{A:zAj}{E:Value->zAH->Prop}{s:zAH}
theorem aFB(hx:s.heap.get? l=some o)(hc:o.cls= .type "tuple")(hdat:o.data= .seq vs k)(hd:o.dict=none)(hA:A.in1.in1.handled=none)
  (hrun:∀(h':Heap) (tk:Nat),(∀b ob,(s.heap.push {cls:=.type "dict",data:=.dict #[]}).get? b=some ob->h'.get? b=some ob)->zBs (model prog w) A.in1 (.builtin "dict.update.loop" ⟨[.ref s.heap.objs.size,.ref h'.objs.size,zEZ 0,.none],[]⟩) (wants (λ r zS=>r= .none/\Q (.ref s.heap.objs.size) zS) E) {s with heap:=h'.push {cls:=.type "tuple_iterator",data:=.fields #[.ref l,.int 0 0]},toks:=tk}):
  wpAny (model prog w) A (call (.type "dict") [.ref l]) Q E s:=by
 refine callType_codes (Q₁:=λ obj zD=>obj= .ref s.heap.objs.size/\zD={s with heap:=s.heap.push {cls:=.type "dict",data:=.dict #[]}}) F.kt_called_dict (F.kt_typeCall_dict_1 _) F.entry_dict_init (kt_code_dict_new _ ⟨rfl,rfl⟩) ?_;rintro obj zD ⟨rfl,rfl⟩;have hty:zEn {s with heap:=s.heap.push {cls:=.type "dict",data:=.dict #[]}} (.ref s.heap.objs.size) "dict":=⟨_,zAJ _ rfl,rfl⟩;have hx':(s.heap.push {cls:=.type "dict",data:=.dict #[]}).get? l=some o:=zAC _ hx;have htl:zEn {s with heap:=s.heap.push {cls:=.type "dict",data:=.dict #[]}} (.ref l) "tuple":=⟨_,hx',hc⟩;refine⟨hty,F.args_dict_init_2 _ _,?_⟩;unfold zCN.«dict.__init__»;refine zAB ?_;unfold Builtin.Dict.selfAndRest;refine zAB (wpAny_notOrdered_dict hty ?_);show wpAny _ _ (pure (s.heap.objs.size,[zBC l])) _ _ _;refine zAE ?_;show wpAny _ _ (zFL "dict.__init__" s.heap.objs.size (.ref l) [] .none) _ _ _;unfold zFL;refine zAB (zD5 htl ?_);rw[if_pos (by decide)];refine zAB (aAh hx' hc hdat hd (by assumption) λ h' tk e hn=>?_);rw[if_pos (show(none:Option Value).isNone=true from rfl)];have keep:=hn.keeps;have hl:h'.IsTuple l vs:=⟨o,keep _ _ hx',hc,k,hdat⟩;refine zAB (zDJ ?_);refine zAB (zCM hl ?_);exact zAE ⟨zCx _ (by decide+kernel),hrun h' tk keep⟩
theorem ou:zH6 table "dict.update.loop"=some zCN.«dict.update.loop»:=entryFor_of_tree (by kernel_rfl)
inductive mW{K:Type}[DecidableEq K](knd:KeyKind prog w K)(h:Heap):List Value->List (K×Value)->Prop where
 |nil:mW knd h [] []
 |cons {x:Addr} {o:Obj} {n:Nat} {kv v:Value} {k:K} {us:List Value} {ps:List (K×Value)} (ho:h.get? x=some o) (hc:o.cls= .type "tuple") (hd:o.data= .seq #[kv,v] n) (hk:knd.is k kv=true) (r:mW knd h us ps):mW knd h (.ref x::us) ((k,v)::ps)
theorem mW.mono{K:Type}[DecidableEq K]{knd:KeyKind prog w K}{h h':Heap}:∀{us:List Value} {ps:List (K×Value)},mW knd h us ps->(∀x,.ref x∈us->∀o,h.get? x=some o->h'.get? x=some o)->mW knd h' us ps
 |_,_,.nil,_=>.nil
 |_,_,.cons ho hc hd hk r,k=>.cons (k _ zAK _ ho) hc hd hk (r.mono λ x hx=>k x (zAM _ hx))
theorem aEx{K:Type}[DecidableEq K]{knd:KeyKind prog w K}{d it t:Addr}{vs:Array Value}{R:zFO->zAH->Prop}(hdi:d≠it)(hdt:d≠t)(hti:t≠it)(hA:A.handled=none):
  ∀(us:List Value) (ps:List (K×Value)) (i:Nat) (s:zAH) (acc:List (K×Value)),us=vs.toList.drop i->mW knd s.heap us ps->(∀x,.ref x∈us->x≠d/\x≠it)->s.heap.IsTupleIter it t i->s.heap.IsTuple t vs->s.heap.DictOf knd d acc->acc.length+us.length<=zAV->
   (∀h' tk,h'.DictOf knd d (ps.foldl (λ a p=>zIg a p.1 p.2) acc)->(∀b o,b≠d->b≠it->s.heap.get? b=some o->h'.get? b=some o)->R (.ok (.ret .none)) {s with heap:=h',toks:=tk})->
   zBs (model prog w) A (.builtin "dict.update.loop" ⟨[.ref d,.ref it,zEZ (i:Int),.none],[]⟩) R s:=by
 intro us;induction us with
 |nil=>
  intro ps i s acc hu hp _ hit ht hd _ q;cases hp;refine zBd ou ?_;rw[zBY (by decide+kernel) _];unfold zCN.«dict.update.loop»;have hx:vs[i]? =none:=by
   rw[<-zBT,zCk]
   have:=congrArg zFk hu
   rw[zBp,zBN]at this;omega
  refine zAB (zHr hA hit ht hx λ h' he=>?_);refine zAB (zAE (zAE ?_));exact q h' s.toks (hd.extBut he hdi) λ b o _ h2 e=>he b o h2 e
 |cons u us ih=>
  intro ps i s acc hu hp hne hit ht hd hz q;cases hp with
  |@cons x o n kv v k _ ps' ho hc hdt' hk r=>
  refine zBd ou ?_;rw[zBY (by decide+kernel) _];unfold zCN.«dict.update.loop»;have hx:vs[i]? =some (.ref x):=by
   rw[<-zBT]
   have:=congrArg (λ l=>l[0]?) hu
   simpa using this.symm
  refine zAB (zHc hit ht hx λ h' hit' hs=>?_);obtain⟨hxd,hxi⟩:=hne x zAK;have ho':h'.get? x=some o:=by rw[hs.2 x hxi];exact ho
  have hT:zEn {s with heap:=h'} (.ref x) "tuple":=⟨o,ho',hc⟩;have hd':=hd.sameBut hs hdi;refine zAB (zBo (zAB (wpAny_tryCatch ?_)));unfold Builtin.Dict.pairItems;refine zAB (zD5 hT ?_);rw[if_pos (by decide)];refine zAB (zCE ho' hdt' ?_);refine zAE ?_;show wpAny _ _ (zEu [kv,v] (dictSet d kv v)) _ _ _;refine zBo (wpAny_dictSet_pairs (knd:=knd) (k:=k) (hsz:=by omega) hk hd' λ h2 hd2 hs2=>?_);have keep:∀b ob,b≠d->b≠it->s.heap.get? b=some ob->h2.get? b=some ob:=λ b ob n1 n2 e=>by
   rw[hs2.2 b n1];show h'.get? b=some ob;rw[hs.2 b n2];exact e
  have hi2:h2.IsTupleIter it t (i+1):=by
   obtain⟨oi,e1,e2⟩:=hit';exact⟨oi,by rw[hs2.2 it (zDG hdi)];exact e1,e2⟩
  have ht2:h2.IsTuple t vs:=by
   obtain⟨ot,e1,e2⟩:=ht;exact⟨ot,keep t ot (zDG hdt) hti e1,e2⟩
  have hl:(zIg acc k v).length<=acc.length+1:=stored_length_le acc k v;have ei:((i:Int)+1)=((i+1:Nat):Int):=by omega
  refine zAE ⟨zCx _ (by decide+kernel),?_⟩;rw[ei];refine ih ps' (i+1) _ (zIg acc k v) ?_ (r.mono λ y hy ob e=>keep y ob (hne y (zAM _ hy)).1 (hne y (zAM _ hy)).2 e) (λ y hy=>hne y (zAM _ hy)) hi2 ht2 hd2 (by rw[zA9]at hz;omega) λ h3 tk hd3 k3=>?_
  .rw[<-zIX,<-hu]
   rfl
  .exact q h3 tk hd3 λ b ob n1 n2 e=>k3 b ob n1 n2 (keep b ob n1 n2 e)
end
end PySem
namespace VL
open PySem PySem.Spec PyProof.Rows L2
def aEU:List (List Int)->Option (List (Int×Int))
 |[]=>some []
 |[i,j]::r=>(match aEU r with
  |some qs=>some ((i,j)::qs)
  |none=>none)
 |_=>none
theorem aAy:∀{nss:List (List Int)} {qs:List (Int×Int)},aEU nss=some qs->nss=qs.map λ q=>[q.1,q.2]
 |[],_,h=>by cases h;rfl
 |[]::_,_,h=>by cases h
 |[_]::_,_,h=>by cases h
 |[i,j]::r,qs,h=>by
  unfold aEU at h;split at h
  .rename_i q e
   cases h;rw[zAG,<-aAy e]
  .cases h
 |(_::_::_::_)::_,_,h=>by cases h
def aGg(q:Int×Int):Key×V:=(.inl q.1,.int q.2)
def aEQ(K:zAA):List V->Hp->VK->Prop:=λ xs H Q=>∃p vs nss qs,xs=[.ref p]/\SqT K H p vs/\fK K H vs nss/\aEU nss=some qs/\∀l H',aW H H'->H l=none->H' l=some (.dK ((qs.map aGg).foldl (λ a q=>putK a q.1 q.2) []))->Q (.ref l) H'
theorem aBA(I:Inv X pins Z H s):∀{vs:List V} {qs:List (Int×Int)},fK X.K H vs (qs.map λ q=>[q.1,q.2])->∃ps:List (Key×Value),mW (dW X.prog X.w) s.heap (vs.map lK) ps/\KV (qs.map aGg) ps/\∀x,.ref x∈vs.map lK->x<s.heap.objs.size
 |_,[],t=>by cases t;exact⟨[],.nil,.nil,λ x h=>nomatch h⟩
 |_,q::qs,t=>by
  rw[zAG]at t;cases t with
  |@cons a ns vs nss h hne r=>
   obtain⟨ps,p1,p2,p3⟩:=aBA I r;obtain⟨its,rv,⟨o,ho,hc,n,hd⟩,_⟩:=I.tuple h;cases rv with
   |cons ru rv=>
   cases rv with
   |cons ru2 rv=>
   cases rv;rename_i u u2;refine⟨(.inl q.1,u2)::ps,.cons ho hc hd (aFj (k:=.inl q.1) ru) p1,.cons ⟨rfl,ru2⟩ p2,λ x hx=>?_⟩;rcases zAL.mp hx with e|e
   .cases e
    exact zAO ho
   .exact p3 x e
theorem aFi:∀{l:List (Key×V)} {ps acc':List (Key×Value)} {acc:List (Key×V)},KV l ps->KV acc acc'->KV (l.foldl (λ a q=>putK a q.1 q.2) acc) (ps.foldl (λ a p=>zIg a p.1 p.2) acc')
 |_,_,_,_,.nil,h=>h
 |_,_,_,_,.cons (a:=p) (b:=q) ⟨e,r⟩ t,h=>by
  rw[zBy,zBy,e];exact aFi t (h.put q.1 r)
theorem aDI:∀(l:List (Key×V)) (acc:List (Key×V)),(l.foldl (λ a q=>putK a q.1 q.2) acc).length<=acc.length+l.length
 |[],_=>zAP _
 |p::l,acc=>by
  rw[zBy];have h1:=aDI l (putK acc p.1 p.2);have h2:=aDH acc p.1 p.2;rw[zA9];lia
theorem aDe{X:Cx}(hc:X.calm=true):dj X (.type "dict") (aEQ X.K):=by
 intro pins s Z H xs us Q I r h;obtain⟨p,vs,nss,qs,rfl,hp,ht,hq,q⟩:=h;obtain⟨u,rfl,ru⟩:=vals1 r;cases ru;have en:=aAy hq;subst en;obtain⟨its,rv,⟨o,ho,hcl,n,hd⟩,hz⟩:=I.tuple hp;have e:=ht.vals rv;subst e;obtain⟨ps,p1,p2,p3⟩:=aBA I ht;have hpl:=zAO ho;refine aFB ho hcl hd (I.noD hp o ho) (I.ok.hd hc) λ h' tk keep=>?_
 have hd0:h'.get? s.heap.objs.size=some {cls:=.type "dict",data:=.dict #[]}:=keep _ _ (zAJ _ rfl);have hsz:s.heap.objs.size<h'.objs.size:=zAO hd0;have k0:∀b u,s.heap.get? b=some u->h'.get? b=some u:=λ b u e=>keep b u (zAC _ e)
 refine aEx (knd:=dW X.prog X.w) (vs:=(vs.map lK).toArray) (A:=X.A.in1) (t:=p) (zAU hsz) (zB4 hpl) (zAU (zCR hpl hsz)) (I.ok.hd hc) (vs.map lK) ps 0 _ [] (by simp) (p1.mono λ x hx ob e=>zAC _ (k0 x ob e)) (λ x hx=>⟨zAU (p3 x hx),zAU (zCR (p3 x hx) hsz)⟩) ⟨_,zAJ _ rfl,rfl,rfl⟩ ⟨o,zAC _ (k0 p o ho),hcl,n,hd⟩ ?_ ?_ λ h3 tk3 hd3 k3=>⟨rfl,?_⟩
 .exact⟨_,#[],0,zAC _ hd0,⟨rfl,rfl,rfl⟩,rfl,λ _ he=>(by simp at he),Pairs.nil,List.nodup_nil⟩
 .rw[zAF,zBN]
  lia
 .have hl:qs.length=vs.length:=by rw[ht.len,zAF]
  have hfr:H s.heap.objs.size=none:=I.hok.fresh (zAP _);refine⟨.ref s.heap.objs.size,upd H s.heap.objs.size (.dK ((qs.map aGg).foldl (λ a q=>putK a q.1 q.2) [])),I.laid (t':=tk3) (λ b u e=>k3 b u (zAU (zAO e)) (zAU (zCR (zAO e) hsz)) (zAC _ (k0 b u e))) (zAP _) (aOL ?_ (beq_eq_false_iff_ne.mpr (zDG (zAU I.big))) (aFi p2 .nil) hd3),rfl,q _ _ (bA hfr _) hfr aj⟩
  have:=aDI (qs.map aGg) []
  rw[zAF,zBN]at this;lia
def aAS:List D->Rs D
 |[.tup l]=>match km l with
  |some nss=>(match aEU nss with
   |some qs=>.ok (aD8 (aAI [] (qs.map λ q=>(q.1,.int q.2))))
   |none=>.st)
  |none=>.st
 |_=>.st
theorem aD0{K:zAA}:∀(qs:List (Int×Int)) {acc:List (Key×V)} {ps:List (Int×D)},Rps K A H (acc.map (·.2)) (ps.map (·.2))->(acc.map (·.1)=ps.map λ p=>(zC4 p.1:Key))->
  Rps K A H (((qs.map aGg).foldl (λ a q=>putK a q.1 q.2) acc).map (·.2)) ((aAI ps (qs.map λ q=>(q.1,.int q.2))).map (·.2))/\(((qs.map aGg).foldl (λ a q=>putK a q.1 q.2) acc).map (·.1)=(aAI ps (qs.map λ q=>(q.1,.int q.2))).map λ p=>(zC4 p.1:Key))
 |[],_,_,r,e=>⟨r,e⟩
 |q::qs,acc,ps,r,e=>by
  obtain⟨z1,z2⟩:=aMz (i:=q.1) (v:=.int q.2) (d:=.int q.2) r e (.int q.2);exact aD0 qs z1 z2
theorem aJ5{K:zAA}:aGE K (aEQ K) aAS:=by
 intro A xs ds H Q z r ez q;unfold aAS at ez;split at ez
 .cases r with
  |cons h r=>
   cases r;cases h with
   |tup h r=>
    split at ez
    .rename_i nss e
     split at ez
     .rename_i qs e3
      obtain⟨e1,e2⟩:=mH e;subst e1;cases ez;have ht:=uT r e2;refine⟨_,_,nss,qs,rfl,h,ht,e3,λ l H' s hl hl2=>q _ H' s ?_⟩;obtain⟨z1,z2⟩:=aD0 (K:=K) (A:=λ p=>H p=none/\p≠l) (H:=H') qs (acc:=[]) (ps:=[]) .nil rfl;exact aLb hl2 hl z1 z2
     .cases ez
    .cases ez
 .cases ez
section
variable{C:Ct}{pos p:Pos}{m:Mode}{a:Expr}{ga:En->Rs (List D)}
theorem aHf(hm:C.mg "dict"=none)(ha:SA C m [a] ga)(he:∀i,zAX [a] (C.X i).env=[(false,eval a (C.X i).env)]:=by intro _;rfl)(hg:∀i,Gl (C.X i) "dict":=by intro _;rfl)(hv:zAt "dict"=some (.type "dict"):=by decide+kernel):SE C (some []) (.Call (.Name "dict" p) [a] [] pos) (opA aAS ga):=by
 obtain⟨t,h1,h2⟩:=ha;refine⟨_,λ i=>jw (r:=aEQ C.K) (by rw[<-C.hK i];exact aDe (C.calm i)) (hg i) (by rw[(C.cx i).2.2.2.1];exact hm) hv (h1 i) (by decide) (by decide) (he i) rfl,aBh aJ5 h2⟩
end
theorem o8:zDn (.type "dict_values") "__contains__"=pure none:=by rw[zEv,zD4];kernel_rfl
theorem jm:zH6 table "proto.contains_iter"=some zCN.«proto.contains_iter»:=entryFor_of_tree (by kernel_rfl)
def aJm{K:Type}:List (K×Value)->List Int->Prop:=zEq λ p j=>∃t,p.2=zEY j t
section
variable{prog:zA3}{w:World}{A:zAj}{E:Value->zAH->Prop}{K:Type}[DecidableEq K]{knd:KeyKind prog w K}
theorem aJ6(hdi:d≠it)(hA:A.handled=none):
  ∀(ws:List (K×Value)) (js:List Int) (k:Nat) (s:zAH),ws=vs.drop k->aJm ws js->s.heap.IsValIter it d k vs.length ep->s.heap.DictAt knd d vs ep->
   (∀h' tk,(∀b o,b≠it->s.heap.get? b=some o->h'.get? b=some o)->R (.ok (.ret (.bool (js.any (·==i))))) {s with heap:=h',toks:=tk})->
   zBs (model prog w) A (.builtin "proto.contains_iter" ⟨[.ref it,.int i t],[]⟩) R s:=by
 intro ws;induction ws with
 |nil=>
  intro js k s hu hp hit hd q;cases hp;refine zBd jm ?_;rw[zBY (by decide+kernel) _];unfold zCN.«proto.contains_iter»;have hx:vs[k]? =none:=by
   rw[zCk]
   have:=congrArg zFk hu
   rw[zBp,zBN]at this;lia
  refine zAB (wpAny_pyNext_values_end hA hit hd (by have:=zCk.mp hx;lia) λ h' he=>?_);refine zAB (zDJ (zAE ?_));exact q h' s.toks λ b o h2 e=>he b o h2 e
 |cons u us ih=>
  intro js k s hu hp hit hd q;cases hp with
  |cons hv r=>
  rename_i j js;obtain⟨kk,v⟩:=u;obtain⟨tv,ev⟩:=hv;replace ev:v= .int j tv:=ev;subst ev;refine zBd jm ?_;rw[zBY (by decide+kernel) _];unfold zCN.«proto.contains_iter»;have hx:vs[k]? =some (kk,.int j tv):=by
   have:=congrArg (λ l=>l[0]?) hu
   simpa using this.symm
  refine zAB (wpAny_pyNext_values_item hit hd hx λ h' hit' hs=>?_);refine zAB (zGY ?_);have hk:∀b o,b≠it->s.heap.get? b=some o->h'.get? b=some o:=λ b o n e=>(hs.2 b n).trans e
  by_cases e:j=i
  .subst e
   rw[if_pos (by simp)];refine zAB (zDJ (zAE ?_))
   have:=q h' s.toks hk
   rw[zCb,beq_self_eq_true,Bool.true_or]at this;exact this
  .rw[if_neg (by simpa using e)]
   refine zAE ⟨zCx _ (by decide+kernel),?_⟩;refine ih js (k+1) _ ?_ r hit' (hd.extBut hs.extBut hdi) λ h3 tk k3=>?_
   .rw[<-zIX,<-hu]
    rfl
   .have:=q h3 tk λ b o n e=>k3 b o n (hk b o n e)
    rw[zCb,show(j==i)=false by simpa using e,Bool.false_or]at this;exact this
theorem aAk(hA:A.handled=none)(hl:s.heap.IsValuesView l d)(hd:s.heap.DictOf knd d vs)(hj:aJm vs js)
  (h:∀h' tk,(∀b o,s.heap.get? b=some o->h'.get? b=some o)->Q (js.any (·==i)) {s with heap:=h',toks:=tk}):wpAny (model prog w) A (contains (.ref l) (.int i t)) Q E s:=by
 obtain⟨ep,hda⟩:=hd.dictAt;unfold contains;refine zBo ?_;rw[stdlibNamesSay?_of_typeIs hl.typeIs];refine zAB (zEw hl.typeIs o8 ?_);show wpAny _ A (if (none==some zBJ)=true then _ else _) Q E s;rw[if_neg (by simp)];refine zAB (wpAny_callSpecialUnlessNone?_none hl.typeIs o8 ?_);refine zAB (zDJ (zAB (wpAny_tryCatch ?_)));refine wpAny_pyIter_values hl hda ?_;refine zAB (zHJ ?_);have hlt:=hda.lt_size;refine aJ6 (vs:=vs) (d:=d) (ep:=ep) (knd:=knd) (zAU hlt) hA vs js 0 _ rfl hj ⟨_,zAJ _ rfl,rfl,rfl⟩ (hda.push _) λ h' tk k=>?_
 exact zAE (h h' tk λ b o e=>k b o (zAU (zAO e)) (zAC _ e))
end
def aHM(l a:Addr):HO:=.ext λ h=>h.IsValuesView l a
def aHr:V->List V->Hp->VK->Prop:=λ x xs H Q=>∃a kvs,x= .ref a/\xs=[]/\H a=some (.dK kvs)/\∀l,H l=none->Q (.ref l) (upd H l (aHM l a))
def aMu(neg:Bool):R2:=λ y x H Q=>∃(l a:Addr) (kvs:List (Key×V)) (js:List Int) (i:Int),x= .ref l/\y= .int i/\H l=some (aHM l a)/\H a=some (.dK kvs)/\kvs.map (·.2)=js.map V.int/\Q (.bl (neg !=js.any (·==i))) H
theorem aG1:MtR X "dict.values" aHr:=by
 intro pins s Z H x xs v us Q I rx rxs h;obtain⟨a,kvs,rfl,rfl,ha,q⟩:=h;cases rx;cases rxs;obtain⟨z,hd,vs,rel,dd⟩:=aMS I.hok ha;have hfr:H s.heap.objs.size=none:=I.hok.fresh (zAP _);refine call_meetsIn zFp dd.typeIs PySem.F.entry_dict_values (PySem.F.args_dict_values_1 _) (meets_dict_values (dW X.prog X.w) a hd) ⟨⟨vs,dd⟩,⟨.ref s.heap.objs.size,upd H s.heap.objs.size (aHM s.heap.objs.size a),I.laid (t':=s.toks) (λ b o e=>zAC _ e) (zAP _) ?_,rfl,q _ hfr⟩⟩;exact⟨⟨_,zAJ _ rfl,rfl,rfl⟩,⟨_,zAJ _ rfl⟩,λ h1 h2 ⟨o,e,r⟩ k=>⟨o,k o e,r⟩⟩
theorem aDV:∀{kvs:List (Key×V)} {vs:List (Key×Value)} {js:List Int},KV kvs vs->kvs.map (·.2)=js.map V.int->aJm vs js
 |_,_,[],.nil,_=>.nil
 |_,_,_::_,.nil,e=>by cases e
 |_,_,[],.cons _ _,e=>by cases e
 |_,_,j::js,.cons (a:=p) (b:=q) h t,e=>by
  rw[zAG,zAG]at e;injection e with e1 e2
  have h2:=h.2;rw[e1]at h2;exact .cons h2 (aDV t e2)
theorem aKq(hc:X.calm=true):OpR X (zAs .NotIn) (aMu true):=by
 intro pins s Z H y x u v Q I ry rx ⟨l,a,kvs,js,i,ex,ey,hl,ha,hk,q⟩;subst ex;cases rx;subst ey;obtain⟨t,rfl⟩:=ry;obtain⟨z,hd,vs,rel,dd⟩:=aMS I.hok ha;show wpAny (model X.prog X.w) X.A (do return zC0 (!(<-contains (.ref l) (.int i t)))) _ _ s;exact zAB (aAk (I.ok.hd hc) (I.hok l _ hl).1 dd (aDV rel hk) λ h' tk k=>zAE ⟨.bl (!js.any (·==i)),H,I.kept k,rfl,by simpa using q⟩)
def aBa(neg:Bool):D->D->Rs D
 | .int i,.dct ks vs=>match pY ks vs,intsOf vs with
  |some _,some js=>.ok (.bl (neg !=js.any (·==i)))
  |_,_=>.st
 |_,_=>.st
theorem aJv(h:aBa neg d e= .ok z):∃i ks vs ps js,d= .int i/\e= .dct ks vs/\pY ks vs=some ps/\intsOf vs=some js/\z= .bl (neg !=js.any (·==i)):=by
 unfold aBa at h;split at h
 .split at h
  .rename_i i ks vs _ _ ps js h1 h2
   cases h;exact⟨i,ks,vs,ps,js,rfl,rfl,h1,h2,rfl⟩
  .cases h
 .cases h
theorem aKI{K:zAA}{G:Gx}{ta to:TE}{fa fo:En->Rs D}(h1:jg K G m1 ta fa)(h2:jg K G m2 to fo):jg K G (some []) (tOp (aMu n) ta (aM9 K "dict" aHr to)) (op2 (aBa n) fa fo):=by
 intro U Z H Y lab Q R W;refine h1 U Z H Y lab _ R (W.bd.imp λ d _ w x H1 s1 r1=>?_);refine h2 U Z H1 Y lab _ (R.up s1) (w.bd.imp λ e _ w y H2 s2 r2=>?_);obtain⟨z,ez,wz⟩:=w.okD;obtain⟨i,ks,vs,ps,js,rfl,rfl,hp,hj,rfl⟩:=aJv ez;have ex:=(r1.up s2).int_inv;subst ex;obtain⟨a,kvs,rfl,g1,m,r,hk⟩:=r2.dctI_inv hp;refine⟨.inr (.inr (.inl ⟨rfl,.inl ⟨_,g1⟩⟩)),a,kvs,rfl,rfl,g1,λ l hl=>?_⟩;have hne:a≠l:=λ e=>by subst e;rw[g1]at hl;cases hl
 have ev:kvs.map (·.2)=js.map V.int:=by
  rw[<-(zK hp).2,dm hj]at r;exact r.ints_of
 exact⟨l,a,kvs,js,i,rfl,rfl,aj,by rw[aX hne];exact g1,ev,wz _ _ ((s1.trans s2).trans (bA hl _)) (.bl _)⟩
section
variable{C:Ct}{m1 m2:Mode}{a o:Expr}{fa fo:En->Rs D}{pos apos cpos:Pos}
theorem aKC(ha:SE C m1 a fa)(ho:SE C m2 o fo)(hbase:∀j,zDP o "values" (C.X j).env (eval o (C.X j).env)=eval o (C.X j).env:=by intro _;rfl)(hline:(apos.endLine==cpos.line)=true:=by rfl)(hm:zB5 .NotIn (.Call (.Attribute o "values" apos) [] [] cpos)=false:=by with_unfolding_all rfl):
  ST C (.Compare a [.NotIn] [.Call (.Attribute o "values" apos) [] [] cpos] pos) (tsb (op2 (aBa true) fa fo)):=by
 obtain⟨t,h1,h2⟩:=ha;obtain⟨u,k1,k2⟩:=ho;exact⟨aHX (tOp (aMu true) t (aM9 C.K "dict" aHr u)),λ i=>by rw[<-C.hK i];exact aF0 (aKq (C.calm i)) (h1 i) (aNP PySem.F.plainAttrs_dict zFp PySem.F.type_dict_values aG1 (k1 i) (hbase i) hline) hm,aFP (aKI h2 k2)⟩
end
end VL
namespace L2
open PySem PySem.Spec PyProof.Rows
def aB3:Value->Bool
 | .bool b=>b
 |_=>false
theorem aBb:∀{bs:List Bool} {us:List Value},Vals (bs.map V.bl) us->us=bs.map zC0
 |[],_,.nil=>rfl
 |b::bs,_,.cons h t=>by rw[aBb t];cases h;rfl
theorem aFu{A:zAj}{s:zAH}{bs:List Bool}:∀y∈bs.map zC0,zDr A s y (.bool true) (aB3 y):=λ y hy=>by
 obtain⟨b,_,rfl⟩:=zAg.mp hy
 have:=zFz (A:=A) (s:=s) b true
 cases b<;>exact this
def aK2:V->List V->Hp->VK->Prop:=λ x xs H Q=>∃(a:Addr) (bs:List Bool),x= .ref a/\xs=[.bl true]/\H a=some (.lst (bs.map V.bl))/\Q (.int (bs.count true:Nat)) H
def aK1:V->List V->Hp->VK->Prop:=λ x xs H Q=>∃(a:Addr) (bs:List Bool) (j:Nat),x= .ref a/\xs=[.bl true]/\H a=some (.lst (bs.map V.bl))/\bs[j]? =some true/\(∀m,m<j->bs[m]? =some false)/\Q (.int (j:Nat)) H
section
variable{X:Cx}
theorem aG3:MtR X "list.count" aK2:=by
 intro pins s Z H x xs v us Q I rx rxs h;obtain⟨a,bs,rfl,rfl,ha,q⟩:=h;cases rx;obtain⟨u,rfl,ru⟩:=vals1 rxs;cases ru;obtain⟨_,its,n,rv,e⟩:=I.hok a _ ha;have ei:=aBb rv;subst ei;refine zDm zFw ⟨_,e,rfl⟩ PySem.F.entry_list_count (PySem.F.args_list_count_2 _ _) (SeqAt.list_countAt a _ n none #[] (.bool true) aB3) ⟨e,λ y hy=>aFu y (by simpa using hy),?_⟩
 have:(bs.map zC0).countP aB3=bs.count true:=by
  rw[List.countP_map];unfold List.count;congr 1;funext b;cases b<;>rfl
 rw[show(bs.map zC0).toArray.toList=bs.map zC0 from rfl,this];exact⟨.int _,H,I.tok _,⟨_,rfl⟩,q⟩
theorem aG2:MtR X "list.index" aK1:=by
 intro pins s Z H x xs v us Q I rx rxs h;obtain⟨a,bs,j,rfl,rfl,ha,hj,hm,q⟩:=h;cases rx;obtain⟨u,rfl,ru⟩:=vals1 rxs;cases ru;obtain⟨hz,its,n,rv,e⟩:=I.hok a _ ha;have ei:=aBb rv;subst ei;rw[zAF]at hz;have hl:=(zAI.mp hj).1;have h62:zAV<2^62:=by decide
 refine zDm zFx ⟨_,e,rfl⟩ PySem.F.entry_list_index (PySem.F.args_list_index_2 _ _) (SeqAt.list_indexAt a _ n none #[] (.bool true) aB3 j (by simpa using hl) (by omega) ?_ λ m hm1 hmj=>?_) ⟨e,λ y hy=>aFu y (by simpa using hy),⟨.int _,H,I.tok _,⟨_,rfl⟩,q⟩⟩
 .rw[zAD hl]at hj
  simpa[aB3]using hj
 .have h2:=hm m hmj
  rw[zAD (by omega)]at h2;simpa[aB3]using h2
end
section
variable{X:Cx}{n0 n1 n2 odd:Str}{c1 c2:V}{k1 k2 k3 k4:List V}{l1 l2:List Str}{a1 a2:Expr}{as1 as2 e1 e2 e3 e4 w1 w2:List Expr}{kw1 kw2:List zCs}{Q:VK}{H:Hp}{vs:List V}
 {p1 p2 p3 p4 p5 p6 p7 p8 p9 p10 p11 p12 p13 p14 p15 p16 p17 p18 p19 p20 p21 p22 p23 p24 p25 p26 p27 p28 p29 p30 p31 p32 p33 p34 p35 p36 p37 p38 p39 p40:Pos}{q1 q2 q3 q4 q5 q6 q7:Pos}{j1 j2 j3 j4 j5:Nat}{E0:XK}{wd:Addr->Option Str}
theorem aDd(hN:X.N=[n0,n1,n2])(nd:X.N.Nodup)(m0:X.env.scope.names.lookup n0=some .local)(m1:X.env.scope.names.lookup n1=some .local)(m2:X.env.scope.names.lookup n2=some .local)
  (h1:PE X (.Call a1 as1 kw1 p1) (aDs X.K c1))(h2:PE X (.Call a2 as2 kw2 p2) (aDs X.K c2))(g1:PA X e1 (o7 X.K k1))(g2:PA X e2 (o7 X.K k2))(g3:PA X e3 (o7 X.K k3))(g4:PA X e4 (o7 X.K k4))(g5:PA X w1 (aFN l1))
  (hl1:(p20.endLine==p21.line)=true)(hl2:(p30.endLine==p31.line)=true)(hz:l1.length<=100)(h:spW wd vs H Q E0)(hw:∀C w,wd C=some w->Wd X.K c1 c2 [k1,k2,k3,k4] l1 C w)
  (d0:(n0==("__debug__":Str))=false:=by decide)(d1:(n1==("__debug__":Str))=false:=by decide)(d2:(n2==("__debug__":Str))=false:=by decide)
  (f0:(n0==("__classdict__":Str))=false:=by decide)(f1:(n1==("__classdict__":Str))=false:=by decide)(f2:(n2==("__classdict__":Str))=false:=by decide):
  ∃t,PSs X [.If (.BoolOp .Or [.UnaryOp .Not (.Call a1 as1 kw1 p1) p3,.UnaryOp .Not (.Call a2 as2 kw2 p2) p4] p5) [.Return (some (.Constant (.str odd) j1 p6)) p7] [] p8,
   .Assign [.Name n1 p9] (.List e1 p10) p11,.Assign [.Name n1 p12] (.BinOp (.Name n1 p13) .Add (.List e2 p14) p15) p16,.Assign [.Name n1 p17] (.BinOp (.Name n1 p18) .Add (.List e3 p19) p22) p23,.Assign [.Name n1 p24] (.BinOp (.Name n1 p25) .Add (.List e4 p26) p27) p28,
   .If (.Compare (.Call (.Attribute (.Name n1 p29) "count" p20) [.Constant (.bool true) j2 p32] [] p21) [.NotEq] [.Constant (.int 1) j3 p33] p34) [.Return (some (.Constant (.str odd) j4 p35)) p36] [] p37,
   .Assign [.Name n2 p38] (.List w1 p39) p40,.Return (some (.Subscript (.Name n2 q1) (.Call (.Attribute (.Name n1 q4) "index" p30) [.Constant (.bool true) j5 q5] [] p31) q6)) q7] t/\
   t {nx:=λ _ H'=>Q .non H',rt:=Q} (start X.N vs) H:=by
 obtain⟨ea,C,w,rfl,hH,hwd,hq⟩:=h;obtain⟨hk,hq1,hq2,b1,b2,b3,b4,j,k1',k2',k3',k4',ek,r1,r2,r3,r4,hlen,hcnt,hj,hjm,hjw⟩:=hw C w hwd;cases ek;have i0:X.N[0]? =some n0:=by rw[hN];rfl
 have i1:X.N[1]? =some n1:=by rw[hN];rfl
 have i2:X.N[2]? =some n2:=by rw[hN];rfl
 have v1:∀{pos:Pos},PE X (.Name n1 pos) (rD 1):=λ{pos}=>jN i1 (.inl m1) d1 f1
 have cat:∀{pp pq pr:Pos} {es:List Expr} {ks:List V},PA X es (o7 X.K ks)->PE X (.BinOp (.Name n1 pp) .Add (.List es pq) pr) (tOp aHw (rD 1) (aHY (o7 X.K ks))):=λ g=>aIM aF8 v1 (qj g)
 refine⟨_,gZ (aIE (aML (aET (aHz h1)) (aHx (aET (aHz h2)))).pt (oJ (zJ gQ)) aBy)
  (gZ (oK nd i1 (.inl m1) (qj g1) (hf:=.inr m1)) (gZ (oK nd i1 (.inl m1) (cat g2) (hf:=.inr m1)) (gZ (oK nd i1 (.inl m1) (cat g3) (hf:=.inr m1)) (gZ (oK nd i1 (.inl m1) (cat g4) (hf:=.inr m1))
  (gZ (aIE (aNA (aNR (aAz zBr zFw PySem.F.type_list_count aG3 v1 (ak aIR dY) (hline:=hl1)) aEX)) (oJ (zJ gQ)) aBy)
  (gZ (oK nd i2 (.inl m2) (qj g5) (hf:=.inr m2)) (oJ (zJ (aIN aCO (jN i2 (.inl m2) d2 f2) (aAz zBr zFx PySem.F.type_list_index aG2 v1 (ak aIR dY) (hline:=hl2)) λ _ _=>rfl))))))))),?_⟩
 have hs:start X.N [.ref ea]=[some (.ref ea),none,none]:=by rw[hN];rfl
 rw[hs];have sz:∀{n:Nat},n<=100->n<=zAV:=λ h=>zAm h (by decide)
 simp only[zA1]at hlen;refine aBc (ea:=ea) rfl hH hk hq1 ⟨true,rfl,aBc (ea:=ea) rfl hH hk hq2 ⟨true,rfl,?_⟩⟩;refine pG (ea:=ea) rfl hH hk r1 ⟨sz (by rw[zAF];omega),λ a1 H1 s1 ha1 _=>?_⟩;refine⟨.ref a1,rfl,pG (ea:=ea) rfl (s1 _ _ hH) hk r2 ⟨sz (by rw[zAF];omega),λ x2 G2 t2 hx2 _=>⟨a1,x2,_,_,rfl,rfl,t2 _ _ ha1,hx2,sz (by simp only[zAF];omega),λ a2 H2 s2 ha2 _=>?_⟩⟩⟩;have hH2:=s2 _ _ (t2 _ _ (s1 _ _ hH));refine⟨.ref a2,rfl,pG (ea:=ea) rfl hH2 hk r3 ⟨sz (by rw[zAF];omega),λ x3 G3 t3 hx3 _=>⟨a2,x3,_,_,rfl,rfl,t3 _ _ ha2,hx3,sz (by simp only[zAF,zA1];omega),λ a3 H3 s3 ha3 _=>?_⟩⟩⟩;have hH3:=s3 _ _ (t3 _ _ hH2);refine⟨.ref a3,rfl,pG (ea:=ea) rfl hH3 hk r4 ⟨sz (by rw[zAF];omega),λ x4 G4 t4 hx4 _=>⟨a3,x4,_,_,rfl,rfl,t4 _ _ ha3,hx4,sz (by simp only[zAF,zA1];omega),λ a4 H4 s4 ha4 _=>?_⟩⟩⟩;rw[<-zAq,<-zAq,<-zAq]at ha4;generalize hbs:b1++b2++b3++b4=bs at hcnt hj hjm ha4;refine⟨.ref a4,rfl,.inl ⟨rfl,_,.inl (.inl ha4)⟩,a4,bs,rfl,rfl,ha4,1,1,by rw[hcnt];rfl,rfl,false,rfl,?_⟩;refine aCb ⟨sz (by rw[zAF];omega),λ a5 H5 s5 ha5 _=>?_⟩;have ha4':=s5 _ _ ha4;refine⟨.ref a5,rfl,.ref a4,rfl,.inl ⟨rfl,_,.inl (.inl ha4')⟩,a4,bs,j,rfl,rfl,ha4',hj,hjm,a5,_,_,.str w,rfl,rfl,.inl (.inl ha5),?_,?_⟩
 .have hjl:j<l1.length:=(zAI.mp hjw).1
  unfold atI ixN;rw[if_pos (Int.natCast_nonneg j),zAF,if_pos (by omega),zB3]
  show(l1.map V.str)[j]? =_
  rw[zAT,hjw];rfl
 .exact hq _ λ b o e=>s5 _ _ (s4 _ _ (t4 _ _ (s3 _ _ (t3 _ _ (s2 _ _ (t2 _ _ (s1 _ _ e)))))))
end
section
variable{P:zA3}{w:World}{K:zAA}{mg:Str->Option Value}{base:Heap}{x q n0 n1 n2 odd:Str}{st:Stmt}{f:Addr}{fd:zAe}{k:Nat}{wd:Addr->Option Str}{c1 c2:V}{k1 k2 k3 k4:List V}{l1 l2:List Str}{a1 a2:Expr}{as1 as2 e1 e2 e3 e4 w1 w2:List Expr}{kw1 kw2:List zCs}
 {p1 p2 p3 p4 p5 p6 p7 p8 p9 p10 p11 p12 p13 p14 p15 p16 p17 p18 p19 p20 p21 p22 p23 p24 p25 p26 p27 p28 p29 p30 p31 p32 p33 p34 p35 p36 p37 p38 p39 p40:Pos}{q1 q2 q3 q4 q5 q6 q7:Pos}{j1 j2 j3 j4 j5:Nat}
theorem aGs(F:Fun K x q st f fd)(S:aY [n0,n1,n2] [n0] (aK st))
  (hst:dX st=[.If (.BoolOp .Or [.UnaryOp .Not (.Call a1 as1 kw1 p1) p3,.UnaryOp .Not (.Call a2 as2 kw2 p2) p4] p5) [.Return (some (.Constant (.str odd) j1 p6)) p7] [] p8,
   .Assign [.Name n1 p9] (.List e1 p10) p11,.Assign [.Name n1 p12] (.BinOp (.Name n1 p13) .Add (.List e2 p14) p15) p16,.Assign [.Name n1 p17] (.BinOp (.Name n1 p18) .Add (.List e3 p19) p22) p23,.Assign [.Name n1 p24] (.BinOp (.Name n1 p25) .Add (.List e4 p26) p27) p28,
   .If (.Compare (.Call (.Attribute (.Name n1 p29) "count" p20) [.Constant (.bool true) j2 p32] [] p21) [.NotEq] [.Constant (.int 1) j3 p33] p34) [.Return (some (.Constant (.str odd) j4 p35)) p36] [] p37,
   .Assign [.Name n2 p38] (.List w1 p39) p40,.Return (some (.Subscript (.Name n2 q1) (.Call (.Attribute (.Name n1 q4) "index" p30) [.Constant (.bool true) j5 q5] [] p31) q6)) q7])
  (m0:(aK st).names.lookup n0=some .local)(m1:(aK st).names.lookup n1=some .local)(m2:(aK st).names.lookup n2=some .local)
  (h:∀(cdv:Value) (A:zAj) (outer:List Env) (s:zAH) (H:Hp),PE (cxH P w K mg base [n0,n1,n2] q (aK st) f cdv A outer s H) (.Call a1 as1 kw1 p1) (aDs K c1)/\PE (cxH P w K mg base [n0,n1,n2] q (aK st) f cdv A outer s H) (.Call a2 as2 kw2 p2) (aDs K c2)/\
   PA (cxH P w K mg base [n0,n1,n2] q (aK st) f cdv A outer s H) e1 (o7 K k1)/\PA (cxH P w K mg base [n0,n1,n2] q (aK st) f cdv A outer s H) e2 (o7 K k2)/\PA (cxH P w K mg base [n0,n1,n2] q (aK st) f cdv A outer s H) e3 (o7 K k3)/\
   PA (cxH P w K mg base [n0,n1,n2] q (aK st) f cdv A outer s H) e4 (o7 K k4)/\PA (cxH P w K mg base [n0,n1,n2] q (aK st) f cdv A outer s H) w1 (aFN l1))
  (hl1:(p20.endLine==p21.line)=true)(hl2:(p30.endLine==p31.line)=true)(hz:l1.length<=100)(hw:∀C w,wd C=some w->Wd K c1 c2 [k1,k2,k3,k4] l1 C w)
  (d0:(n0==("__debug__":Str))=false:=by decide)(d1:(n1==("__debug__":Str))=false:=by decide)(d2:(n2==("__debug__":Str))=false:=by decide)
  (f0:(n0==("__classdict__":Str))=false:=by decide)(f1:(n1==("__classdict__":Str))=false:=by decide)(f2:(n2==("__classdict__":Str))=false:=by decide):
  FnH P w K mg base 1 f fd [n0] (spW wd):=by
 refine F.okH (k:=0) S (λ vs H Q E ⟨_,_,_,e,_⟩=>by rw[e];rfl) λ cdv A outer s H vs Q E hr hsp=>?_
 obtain⟨g1,g2,g3,g4,g5,g6,g7⟩:=h cdv A outer s H;rw[hst];exact aDd (X:=cxH P w K mg base [n0,n1,n2] q (aK st) f cdv A outer s H) rfl S.nd m0 m1 m2 g1 g2 g3 g4 g5 g6 g7 hl1 hl2 hz hsp hw d0 d1 d2 f0 f1 f2
end
section
variable{X:Cx}{n0 n1 n2 odd:Str}{c1 c2:V}{k1 k2 k3 k4:List V}{l1 l2:List Str}{a1 a2:Expr}{as1 as2 e1 e2 e3 e4 w1 w2:List Expr}{kw1 kw2:List zCs}{Q:VK}{H:Hp}{vs:List V}
 {p1 p2 p3 p4 p5 p6 p7 p8 p9 p10 p11 p12 p13 p14 p15 p16 p17 p18 p19 p20 p21 p22 p23 p24 p25 p26 p27 p28 p29 p30 p31 p32 p33 p34 p35 p36 p37 p38 p39 p40:Pos}{q1 q2 q3 q4 q5 q6 q7:Pos}{j1 j2 j3 j4 j5:Nat}{E0:XK}{wd:Addr->Option Str}
end
section
variable{P:zA3}{w:World}{K:zAA}{mg:Str->Option Value}{base:Heap}{x q n0 n1 n2 odd:Str}{st:Stmt}{f:Addr}{fd:zAe}{k:Nat}{wd:Addr->Option Str}{c1 c2:V}{k1 k2 k3 k4:List V}{l1 l2:List Str}{a1 a2:Expr}{as1 as2 e1 e2 e3 e4 w1 w2:List Expr}{kw1 kw2:List zCs}
 {p1 p2 p3 p4 p5 p6 p7 p8 p9 p10 p11 p12 p13 p14 p15 p16 p17 p18 p19 p20 p21 p22 p23 p24 p25 p26 p27 p28 p29 p30 p31 p32 p33 p34 p35 p36 p37 p38 p39 p40:Pos}{q1 q2 q3 q4 q5 q6 q7:Pos}{j1 j2 j3 j4 j5:Nat}
end
end L2
namespace VL
open PySem PySem.Spec PyProof.Rows L2
theorem dnr{K:zAA}{h:Heap}{mg:Str->Option Value}{x:Str}{st:Stmt}(X:K.In h)(G:h.Ns zAY mg)(e:∃f d,Enr K x st f d)(ps:List Str)
  (hb:∀(kV doc pm:Value) (an:Option Addr) (cdv ct:Value) (us:List Value),us.length=ps.length->zIc (zBk x x (oX st) (dX st) (aK st) .none kV doc pm an cdv ct) ⟨us,[]⟩=pure (ps.zip us):=by
   intro _ _ _ _ _ _ us hl
   first
   |(obtain⟨_,rfl⟩:=aPq hl;rfl)
   |(obtain⟨_,_,rfl⟩:=aPp hl;rfl)
   |(obtain⟨_,_,_,rfl⟩:=aPo hl;rfl)
   |(obtain⟨_,_,_,_,rfl⟩:=aPn hl;rfl)
   |(obtain⟨_,_,_,_,_,rfl⟩:=aPm hl;rfl)
   |(obtain rfl:=len0 hl;rfl)
   |(obtain⟨_,_,_,_,_,_,rfl⟩:=aEf hl;rfl)
   |(obtain⟨_,_,_,_,_,_,_,rfl⟩:=aPl hl;rfl)):∃f d,Dnr K mg x st ps f d/\zA8 K zAY x=some (some (.ref f)):=by
 obtain⟨f,d,F,a⟩:=e;exact⟨f,d,⟨F,zAd X G a,F.binds hb⟩,a⟩
def aCM(K:zAA)(x:Str)(Pt:Addr):Bool:=match zA8 K zAY x with
 |some (some (.ref f))=>(match K.lookup f with
  |some ⟨_,_,.func fd,_⟩=>(match fd.code with| .ref c=>zDz K c Pt|_=>false)
  |_=>false)&&(K.lookup Pt).isNone
 |_=>false
theorem aG9{K:zAA}{h:Heap}{mg:Str->Option Value}{fa Pt:Addr}{x:Str}(X:K.In h)(G:h.Ns zAY mg)(hm:mg x=some (.ref fa))(e:aCM K x Pt=true)
  {o:Obj}{fd:zAe}(lk:K.lookup fa=some o)(hd:o.data= .func fd):K.lookup Pt=none/\∃c,fd.code= .ref c/\zDz K c Pt=true:=by
 unfold aCM at e;split at e
 .rename_i f hf
  have e1:=(zAd X G hf).symm.trans hm;cases e1;rw[zAN]at e;refine⟨by simpa using e.2,?_⟩;have e2:=e.1;rw[lk]at e2;split at e2
  .rename_i fd' _ q
   have q2:=zAp q;rw[q2]at hd;have hd2:Data.func fd'=Data.func fd:=hd;cases hd2;split at e2
   .rename_i c hc
    exact⟨c,hc,e2⟩
   .cases e2
  .cases e2
 .cases e
theorem aLI{P:zA3}{w:World}{K:zAA}{h:Heap}{mg:Str->Option Value}{fa Pt:Addr}{fd:zAe}{k n:Nat}{x:Str}{N:List Str}{st:Stmt}{f:En->Ou}{F:List D->Rs D}(X:K.In h)(G:h.Ns zAY mg)
  (hB:aCM K "law" Pt=true){ps:List Str}(e:Dnr K mg "law" st ps fa fd)(S:aY N [x] (aK st))
  (hbind:∀(kV doc pm:Value) (an:Option Addr) (cdv ct:Value) (s:zAH) (u:Value),zHV s (zBk "law" "law" (oX st) (dX st) (aK st) .none kV doc pm an cdv ct) ⟨[u],[]⟩ [(x,u)])
  (body:∀(base:Heap) (c:Addr) (s:zAH) (H:Hp) (hr:gJ k (zC9.deeper (zCv "law" (aK st) s.heap.objs.size fa (.ref c)))),xM (cxW P w K mg base N "law" (aK st) fa (.ref c) zC9 s H Pt) Pt->List.Nodup N->
   SSs (ctW P w K mg base N "law" (aK st) fa (.ref c) zC9 s H Pt k hr) (dX st) f)
  (hF:F=dw N.length f)(tru:∀ns:List Int,ns.length<=n->F [.scr ns]= .ok (.bl true)):aGD P w K mg fa Pt k n:=by
 obtain⟨oc,od,kV,doc,pm,an,cdv,ct,osl,e1,lk,hcd⟩:=e.F.ex;obtain⟨h1,c,h2,h3⟩:=aG9 X G e.m hB lk rfl;subst e1;obtain rfl:cdv= .ref c:=h2;exact⟨x,"law","law",_,_,_,_,kV,doc,pm,ct,oc,an,od,c,osl,N,h1,h3,lk,hcd,S,λ s u=>hbind kV doc pm an _ ct s u,λ a ns hl base s H hr Lx hO hS=>
  aIn (body base c s H hr Lx S.nd) (by rw[<-hF];exact tru ns hl) (.cons (.scr (aMl hO hS)) .nil)⟩
section
variable{Y:En}{i:Nat}{f g:En->Rs D}{fb gb:En->Rs Bool}{ga:En->Rs (List D)}{u v:En->Ou}{d:D}
@[simp] theorem varD_ap:jc i Y=match Y[i]? with
 |some (.sh d)=>.ok d
 |some (.nw d)=>.ok d
 |some (.ow d)=>.ok d
 |some (.oz d)=>.ok d
 |some (.o2 l)=>.ok (.lst (l.map .lst))
 |_=>.st:=aQ rfl
@[simp] theorem qb:aD i Y=match Y[i]? with
 |some (.sh d)=>.ok d
 |some (.nw d)=>.ok d
 |_=>.st:=aQ rfl
@[simp] theorem varN_ap:fL i Y=match Y[i]? with
 |some (.nw d)=>.ok d
 |_=>.st:=aQ rfl
@[simp] theorem varO_ap:xN i Y=match Y[i]? with
 |some (.ow d)=>.ok d
 |some (.o2 l)=>.ok (.lst (l.map .lst))
 |_=>.st:=aQ rfl
@[simp] theorem cD_ap:cD d Y= .ok d:=aQ rfl
@[simp] theorem dU:aG Y= .ok []:=aQ rfl
@[simp] theorem bR:aA f ga Y=(f Y).bd λ d=>(ga Y).bd λ ds=>.ok (d::ds):=aQ rfl
@[simp] theorem szl:zAV=16777216:=zBw
@[simp] theorem uU:bj ga Y=(ga Y).bd λ ds=>if ds.length<=16777216 then .ok (.tup ds)else .st:=by unfold bj;rw[szl]
@[simp] theorem aLH:dZ ga Y=(ga Y).bd λ ds=>if ds.length<=16777216 then .ok (.lst ds)else .st:=by unfold dZ;rw[szl]
@[simp] theorem gR:okD (.ok d)= .ok d:=aQ rfl
@[simp] theorem dH:op2 fd f g Y=(f Y).bd λ x=>(g Y).bd λ y=>okD (fd x y):=aQ rfl
@[simp] theorem op1_ap:op1 fd f Y=(f Y).bd λ x=>okD (fd x):=aQ rfl
@[simp] theorem ji:opA fd ga Y=(ga Y).bd λ x=>okD (fd x):=aQ rfl
@[simp] theorem qT:aU F ga Y=(ga Y).bd F:=aQ rfl
def aPX(d:D)(r:Rs D):Rs D:=match d with
 | .bl true=>r
 | .bl false=>.ok (.bl false)
 |_=>.st
@[simp] theorem yM:aPX (.bl b) r=if b=true then r else .ok (.bl false):=by cases b<;>rfl
@[simp] theorem yN:wI f g Y=(f Y).bd λ d=>aPX d (g Y):=aQ rfl
@[simp] theorem notD_bl:aKy (.bl b)= .ok (.bl (!b)):=aQ rfl
def chR(d:D)(r:Rs D):Rs D:=match d with
 | .bl true=>r
 | .bl false=>.ok (.bl false)
 |_=>.st
@[simp] theorem chR_bl:chR (.bl b) r=if b=true then r else .ok (.bl false):=by cases b<;>rfl
@[simp] theorem chD_ap:chD fd fd' f g h Y=(f Y).bd λ x=>(g Y).bd λ y=>(okD (fd x y)).bd λ z=>chR z ((h Y).bd λ w=>okD (fd' y w)):=aQ rfl
@[simp] theorem aFM:aM2 (.bl b)= .ok b:=aQ rfl
@[simp] theorem blD_bl:blD (.bl b)= .ok b:=aQ rfl
@[simp] theorem yZ:tst f Y=(f Y).bd aM2:=aQ rfl
@[simp] theorem mZ:tsb f Y=(f Y).bd blD:=aQ rfl
@[simp] theorem vP:uK fb gb Y=(fb Y).bd λ k=>if k=true then gb Y else .ok false:=aQ rfl
@[simp] theorem vo:orT fb gb Y=(fb Y).bd λ k=>if k=true then .ok true else gb Y:=aQ rfl
@[simp] theorem ue:jJ fb Y=(fb Y).bd λ k=>.ok (!k):=aQ rfl
@[simp] theorem aO:bF u v Y=(u Y).sq v:=aQ rfl
@[simp] theorem jX:retS f Y=(f Y).bo .rt:=aQ rfl
@[simp] theorem dropS_ap:aFw f Y=(f Y).bo λ _=>.nx Y:=aQ rfl
@[simp] theorem fW:ifS fb u v Y=(fb Y).bo λ k=>if k=true then u Y else v Y:=aQ rfl
@[simp] theorem aKM:cg i f Y=(f Y).bo λ d=>.nx (Y.set i (.sh d)):=aQ rfl
@[simp] theorem uX:mG i f Y=(f Y).bo λ d=>.nx (Y.set i (.nw d)):=aQ rfl
@[simp] theorem setO_ap:m7 i f Y=(f Y).bo λ d=>.nx (Y.set i (.ow d)):=aQ rfl
@[simp] theorem lU:gnm i d Y= .ok (Y.set i (.sh d)):=aQ rfl
@[simp] theorem gnil_nil:uF [] Y= .ok Y:=aQ rfl
@[simp] theorem gcons_cons:dN a b (d::ds) Y=(a d Y).bd (b ds):=aQ rfl
@[simp] theorem gtup_tup:rN n b (.tup ds) Y=if ds.length=n then b ds Y else .st:=aQ rfl
def nxO(r:Rs En):Ou:=match r with
 | .ok Y=>.nx Y
 |_=>.st
@[simp] theorem itD_tup:itD (.tup l)= .ok l:=aQ rfl
@[simp] theorem itD_lst:itD (.lst l)= .ok l:=aQ rfl
@[simp] theorem itrD_ap:dI f Y=(f Y).bd itD:=aQ rfl
@[simp] theorem fJ:iY ga a u Y=(ga Y).bo λ ds=>forL a u ds Y:=aQ rfl
noncomputable def Ou.tn(o:Ou)(k:En->Ou):Ou:=match o with
 | .nx Y2=>k Y2
 | .ct Y2=>k Y2
 | .bk Y2=>.nx Y2
 |o=>o
@[simp] theorem aLy:(Ou.nx Y).tn k=k Y:=aQ rfl
def okE(r:Rs En)(k:En->Ou):Ou:=match r with
 | .ok Y=>k Y
 |_=>.st
@[simp] theorem jk:okE (.ok Y) k=k Y:=aQ rfl
theorem nT:forL a u (d::ds) Y=okE (a d Y) λ Y1=>(u Y1).tn (forL a u ds):=by
 unfold forL;cases a d Y with
 |ok Y1=>simp only[jk];cases u Y1<;>rfl
 |ex c=>rfl
 |st=>rfl
@[simp] theorem oNone_ap:fV Y= .ok none:=aQ rfl
@[simp] theorem oSome_ap:fU f Y=(f Y).bd λ d=>match d with
 | .int i=>.ok (some i)
 |_=>.st:=aQ rfl
@[simp] theorem aGL:cU f a b Y=(f Y).bd λ d=>(a Y).bd λ l=>(b Y).bd λ h=>okD (slD d l h):=aQ rfl
@[simp] theorem slD_tup:slD (.tup l) a b= .ok (.tup (cutD l a b)):=aQ rfl
@[simp] theorem revD_tup:aKY (.tup l)= .ok (.tup l.reverse):=aQ rfl
@[simp] theorem aFp:aq f Y=(f Y).bd qH:=aQ rfl
@[simp] theorem aKV:cY r ga Y=(ga Y).bd r:=aQ rfl
@[simp] theorem raiseS_ap:zG x ga Y=(ga Y).bo λ ds=>if ds.length<=16777216 then .ex x else .st:=by unfold zG;rw[szl]
@[simp] theorem aFH:dO Y= .ok true:=aQ rfl
end
section
variable{d e:D}{i j:Int}{l m:List D}
theorem jB(h:imm d=true):qH d= .ok d:=by unfold qH;rw[if_pos h]
@[simp] theorem gImm_int:qH (.int i)= .ok (.int i):=aQ rfl
@[simp] theorem addD_int:bG (.int i) (.int j)= .ok (.int (i+j)):=aQ rfl
@[simp] theorem aJg:bG (.lst l) (.lst m)=if l.length+m.length<=16777216 then .ok (.lst (l++m))else .st:=by unfold bG;rw[szl]
@[simp] theorem addD_tup:bG (.tup l) (.tup m)=if l.length+m.length<=16777216 then .ok (.tup (l++m))else .st:=by unfold bG;rw[szl]
@[simp] theorem subD_int:pJ (.int i) (.int j)= .ok (.int (i-j)):=aQ rfl
theorem aBO(h0:0<j)(h1:j<1073741824):aAL (.int i) (.int j)= .ok (.int (i / j)):=by unfold aAL i2;dsimp only;rw[if_pos (by simp[h0,h1])]
theorem nO(h0:0<j):uB (.int i) (.int j)= .ok (.int (i%j)):=by unfold uB i2;dsimp only;rw[if_pos (by simp[h0])]
theorem zW(h0: -(2^64)<i)(h1:i<2^64):iW (.int i) (.int j)= .ok (.int (i*j)):=by unfold iW;dsimp only;rw[if_pos (by simp only[zFg,zAN,decide_eq_true_eq];exact .inl ⟨h0,h1⟩)]
theorem aIa(h0: -(2^64)<j)(h1:j<2^64):iW (.int i) (.int j)= .ok (.int (i*j)):=by unfold iW;dsimp only;rw[if_pos (by simp only[zFg,zAN,decide_eq_true_eq];exact .inr ⟨h0,h1⟩)]
@[simp] theorem negD_int:aDA (.int i)= .ok (.int (-i)):=aQ rfl
@[simp] theorem ltD_int:ltD (.int i) (.int j)= .ok (.bl (decide (i<j))):=aQ rfl
@[simp] theorem leD_int:leD (.int i) (.int j)= .ok (.bl (decide (i<=j))):=aQ rfl
@[simp] theorem gtD_int:gtD (.int i) (.int j)= .ok (.bl (decide (j<i))):=aQ rfl
@[simp] theorem geD_int:geD (.int i) (.int j)= .ok (.bl (decide (j<=i))):=aQ rfl
theorem aCH(ns ms:List Int):ltD (.tup (ns.map .int)) (.tup (ms.map .int))= .ok (.bl (HT.lexLt ns ms)):=by
 unfold ltD ltT i2;simp only[iH]
@[simp] theorem lenD_tup:dR [.tup l]= .ok (.int l.length):=aQ rfl
@[simp] theorem lenD_lst:dR [.lst l]= .ok (.int l.length):=aQ rfl
@[simp] theorem lenD_scr:dR [.scr x]= .ok (.int x.length):=aQ rfl
@[simp] theorem tE:dG [.lst l]= .ok (.tup l):=aQ rfl
@[simp] theorem listD_tup:aBD [.tup l]= .ok (.lst l):=aQ rfl
@[simp] theorem ixD_tup:ixD (.tup l) (.int i)=atD l i:=aQ rfl
@[simp] theorem ixD_lst:ixD (.lst l) (.int i)=atD l i:=aQ rfl
@[simp] theorem ixD_scr:ixD (.scr x) (.int i)=atD (x.map .int) i:=aQ rfl
theorem gw{k:Nat}(h:l[k]? =some d):atD l (k:Int)= .ok d:=by
 have hk:=(zAI.mp h).1;unfold atD atI ixN;rw[if_pos (by omega),if_pos (by omega)];simp[h]
theorem aAX(h0:0<=i)(h1:i<l.length):∃d,atD l i= .ok d/\d∈l/\l[i.toNat]? =some d:=by
 have hk:i.toNat<l.length:=by omega
 have e:=zAD hk;refine⟨_,?_,zCo hk,e⟩
 have:=gw e
 rwa [zBz h0]at this
@[simp] theorem atD_0{r:List D}:atD (d::r) 0= .ok d:=gw (k:=0) rfl
@[simp] theorem atD_1{r:List D}:atD (d::e::r) 1= .ok e:=gw (k:=1) rfl
@[simp] theorem eqR_int:eqR n (.int i) (.int j)= .ok (.bl (if n then !(i==j)else i==j)):=aQ rfl
@[simp] theorem isD_bl:isD false (.bl a) (.bl b)= .ok (.bl (a==b)):=aQ rfl
def knd:D->Bool
 | .set _=>false
 | .scr _=>false
 | .fn _=>false
 |_=>true
theorem aCP(hT:T∈["bool","int","str","list","tuple","dict"])(h:knd d=true):jO T d= .ok (.bl (aLQ (tyD d) T)):=by
 have ht:tyD d∈["NoneType","bool","int","str","list","tuple","dict"]:=by cases d<;>simp_all [tyD,knd]
 unfold jO sG;cases e:aLQ (tyD d) T<;>simp[ht,hT]
def aNv:D->Bool
 | .int _=>true
 | .bl _=>true
 |_=>false
def aPK:D->Bool
 | .bl _=>true
 |_=>false
def nF:D->Bool
 | .tup _=>true
 |_=>false
theorem aFl(h:knd d=true):jO "int" d= .ok (.bl (aNv d)):=by
 rw[aCP (by simp) h];cases d<;>first|rfl|(simp[knd]at h)
theorem aAA(h:knd d=true):jO "bool" d= .ok (.bl (aPK d)):=by
 rw[aCP (by simp) h];cases d<;>first|rfl|(simp[knd]at h)
theorem iQ(h:knd d=true):jO "tuple" d= .ok (.bl (nF d)):=by
 rw[aCP (by simp) h];cases d<;>first|rfl|(simp[knd]at h)
@[simp] theorem isi_tuple_tup:jO "tuple" (.tup l)= .ok (.bl true):=iQ rfl
@[simp] theorem isi_bool_bl:jO "bool" (.bl b)= .ok (.bl true):=aAA rfl
end
@[simp] theorem bD:dw n u ds=match u (bC n ds)with
 | .nx _=>.ok .non
 | .rt d=>.ok d
 | .ex c=>.ex c
 |_=>.st:=aQ rfl
theorem gn(h0: -(2^62)<=j)(h1:j<2^62):iV [.int j]= .ok (bZ 0 j):=by unfold iV;dsimp only;rw[if_pos ⟨h0,h1⟩]
theorem aBt(h0: -(2^62)<=i)(h1:i<2^62)(h2: -(2^62)<=j)(h3:j<2^62):xU [.int i,.int j]= .ok (bZ i j):=by unfold xU;dsimp only;rw[if_pos ⟨⟨h0,h1⟩,h2,h3⟩]
theorem jf{lo hi:Int}:d∈bZ lo hi↔∃k:Int,d= .int k/\lo<=k/\k<hi:=by
 unfold bZ;rw[zAg];constructor
 .rintro⟨n,hn,rfl⟩
  have:=zBV.mp hn
  exact⟨lo+n,rfl,by omega,by omega⟩
 .rintro⟨k,rfl,h1,h2⟩
  exact⟨(k-lo).toNat,zBV.mpr (by omega),by congr 1;omega⟩
end VL
namespace VL.My
open PySem L2
def wdN:Str->Option Str:=λ c=>((["NoWeb","NoPlace","NoWay","NoParting","TooMany","NoForest","NoPlan","NoOneWay","NoOrder","NoText","NoDeed","NoRow"]:List Str).zip (["web","place","way","parting","many","forest","plan","one way","order","text","deed","row"]:List Str)).lookup c
def jQ:En->Ou:=
  (retS (wI (op1 (jO "int") (aD 0)) (op1 aKy (op1 (jO "bool") (aD 0)))))
def mF:List D->Rs D:=dw 1 jQ
def fY:En->Ou:=
  (bF (iY (cY xU (aA (cD (.int 1)) (aA (opA dR (aA (aD 0) aG)) aG))) (gnm 1)
   (ifS (jJ (tsb (op2 ltD (op2 ixD (aD 0) (op2 pJ (aD 1) (cD (.int 1)))) (op2 ixD (aD 0) (aD 1)))))
    (retS (cD (.bl false)))
    Ou.nx))
  (retS (cD (.bl true))))
def du:List D->Rs D:=dw 2 fY
def iT:En->Ou:=
  (retS (op2 (eqR false) (opA lB (aA (aEh (dI (aD 1)) [none,none] (gnm 0) dO (inL (dI (aD 0)) (gnm 1) dO (aq (aD 1)))) aG)) (lrD (aD 0))))
def mY:List D->Rs D:=dw 2 iT
def kW:En->Ou:=
  (bF (llS 1 (cY iV (aA (op2 ixD (aD 0) (cD (.int 0))) aG)) [none] (gnm 0))
  (bF (iY (dI (op2 ixD (aD 0) (cD (.int 1)))) (rN 2 (dN (gnm 2) (dN (gnm 3) uF)))
   (qU 1 (aD 2) (aq (aD 3))))
  (retS (xN 1))))
def rC:List D->Rs D:=dw 4 kW
def di:En->Ou:=
  (retS (aEh (dI (aD 0)) [none,none,none] (gnm 0) dO (inL (cY aC9 (aA (aD 0) (aA (cU (aD 0) (fU (cD (.int 1))) fV) aG))) (rN 2 (dN (gnm 1) (dN (gnm 2) uF))) dO (bj (aA (aq (aD 1)) (aA (aq (aD 2)) aG))))))
def jH:List D->Rs D:=dw 1 di
def dM:En->Ou:=
  (bF (ifS (tsb (op2 ltD (aD 1) (opA dR (aA (aD 0) aG))))
   (retS (aq (op2 ixD (aD 0) (aD 1))))
   Ou.nx)
  (retS (cD (.int 0))))
def eY:List D->Rs D:=dw 2 dM
def iI:En->Ou:=
  (bF (ifS (tsb (op2 geD (aD 0) (op2 aIH (cD (.int 10)) (cD (.int 18)))))
   (bF (cg 3 (aD 0))
   (bF (iY (cY iV (aA (aD 1) aG)) (gnm 4)
    (cg 3 (op2 aAL (aD 3) (aD 2))))
   (retS (op2 uB (aD 3) (aD 2)))))
   Ou.nx)
  (bF (cg 5 (op2 uB (op2 iW (op2 bG (op2 bG (op2 uB (aD 0) (cD (.int 1000000007))) (op2 iW (cD (.int 1009)) (aD 1))) (cD (.int 17))) (cD (.int 69621))) (cD (.int 2147483647))))
  (bF (cg 5 (op2 uB (op2 bG (op2 bG (op2 iW (aD 5) (aD 5)) (op2 iW (cD (.int 40503)) (aD 1))) (cD (.int 5))) (cD (.int 2147483629))))
  (retS (op2 uB (op2 aAL (op2 uB (op2 iW (aD 5) (cD (.int 48271))) (cD (.int 2147483647))) (cD (.int 32))) (aD 2))))))
def aV:List D->Rs D:=dw 6 iI
def iR:En->Ou:=
  (retS (wI (op1 (jO "int") (aD 0)) (op1 aKy (op1 (jO "bool") (aD 0)))))
def mX:List D->Rs D:=dw 1 iR
def lrE:En->Rs D:=op2 ltD (op2 ixD (aD 1) (op2 pJ (aD 0) (cD (.int 1)))) (op2 ixD (aD 1) (aD 0))
def gD:En->Ou:=retS (opA (qW λ bs=>bs.all id) (aA (lcD (cY xU (aA (cD (.int 1)) (aA (opA dR (aA (aD 0) aG)) aG))) [none,some 0] (gnm 0) dO lrE) aG))
def jC:List D->Rs D:=dw 1 gD
def dh:En->Ou:=
  (bF (m7 2 (dZ aG))
  (bF (iY (dI (aD 0)) (gnm 3)
   (aAi 2 (aq (aD 3))))
  (retS (op2 (eqR false) (opA lB (aA (jc 2) aG)) (lrD (aD 1))))))
def jG:List D->Rs D:=dw 4 dh
def pcX:En->Rs D:=op2 ixD (jc 7) (op1 aDA (cD (.int 1)))
def pcW:En->Rs Bool:=tsb (op2 (aD6 false) pcX (fL 2))
def pcB:En->Ou:=jt 7 (op2 xq (fL 2) pcX)
def pcF:En->Ou:=mG 5 (lcD (dI (aD 5)) [none,some 7] (gnm 0) (tsb (op2 (inR true) (aD 0) (aD 1))) (aq (aD 0)))
def pcL:En->Ou:=ifS (tsb (op2 (aBa true) (aD 6) (fL 2))) (bF (m7 7 (dZ (aA (aq (aD 6)) aG))) (bF (sy pcW pcB) (bF (jt 3 (aq (opA dG (aA (jc 7) aG)))) pcF))) Ou.nx
def rcX:En->Rs D:=op2 ixD (jc 8) (op1 aDA (cD (.int 1)))
def rcW:En->Rs Bool:=tsb (op2 (eqR true) (op2 xq (fL 2) rcX) (op2 ixD (jc 8) (cD (.int 0))))
def rcB:En->Ou:=jt 8 (op2 xq (fL 2) rcX)
def rcF:En->Ou:=mG 5 (lcD (dI (aD 5)) [none,some 8] (gnm 0) (tsb (op2 (inR true) (aD 0) (aD 1))) (aq (aD 0)))
def rcL:En->Ou:=bF (m7 8 (dZ (aA (op2 ixD (fL 5) (cD (.int 0))) aG))) (bF (sy rcW rcB) (bF (jt 4 (aq (opA dG (aA (jc 8) aG)))) rcF))
def rcC:En->Rs Bool:=tsb (op2 (eqR true) (fL 5) (dZ aG))
def gF:En->Ou:=bF (mG 2 (opA aAS (aA (aD 1) aG))) (bF (m7 3 (dZ aG)) (bF (m7 4 (dZ aG)) (bF (mG 5 (lrD (op2 ixD (aD 0) (cD (.int 0)))))
  (bF (iY (cY iV (aA (op2 ixD (aD 0) (cD (.int 0))) aG)) (gnm 6) pcL) (bF (sy rcC rcL)
  (retS (bj (aA (opA dG (aA (xN 3) aG)) (aA (opA dG (aA (xN 4) aG)) aG)))))))))
def jD:List D->Rs D:=dw 9 gF
def kO:En->Ou:=
  (retS (wI (aU mF (aA (aD 0) aG)) (chD leD leD (cD (.int 0)) (aD 0) (cD (.int 60)))))
def rB:List D->Rs D:=dw 1 kO
def jR:En->Ou:=
  (retS (wI (aU mF (aA (aD 1) aG)) (chD leD ltD (cD (.int 0)) (aD 1) (aD 0))))
def eG:List D->Rs D:=dw 2 jR
def jP:En->Ou:=
  (bF (m7 2 (dZ aG))
  (bF (iY (cY iV (aA (aD 1) aG)) (gnm 3)
   (aIz 2 (aU aV (aA (aD 0) (aA (op2 bG (cD (.int 100)) (aD 3)) (aA (op2 bG (aD 3) (cD (.int 1))) aG)))) (aq (aD 3))))
  (retS (xN 2))))
def iM:List D->Rs D:=dw 4 jP
def kI:En->Ou:=
  (bF (mG 1 (dZ (aA (cD .non) (aA (cD (.bl true)) (aA (cD (.int 0)) (aA (op1 aDA (cD (.int 1))) (aA (cD (.str "")) (aA (cD (.str "0")) (aA (bj aG) (aA (dZ aG) (aA (cD (.dct [] [])) (aA (bj (aA (bj aG) aG)) (aA (bj (aA (cD (.int 0)) aG)) (aA (bj (aA (bj (aA (cD (.int 0)) (aA (cD (.int 1)) aG))) aG)) (aA (dZ (aA (cD (.int 0)) (aA (cD (.int 1)) aG))) (aA (bj (aA (cD .non) aG)) (aA (bj (aA (cD (.str "a")) (aA (cD (.str "b")) aG))) (aA (op2 aIH (cD (.int 10)) (cD (.int 20))) aG))))))))))))))))))
  (retS (op2 ixD (fL 1) (aU aV (aA (aD 0) (aA (cD (.int 90)) (aA (cD (.int 16)) aG)))))))
def n6:List D->Rs D:=dw 2 kI
def aCN:En->Rs D:=wI (aU mX (aA (aD 0) aG)) (chD leD ltD (cD (.int 0)) (aD 0) (op2 ixD (aD 1) (cD (.int 0))))
def aGa:En->Rs D:=op2 (inR false) (bj (aA (op2 ixD (aD 1) (aD 0)) (aA (op2 ixD (aD 1) (op2 bG (aD 0) (cD (.int 1)))) aG))) (op2 ixD (aD 2) (cD (.int 1)))
def cQ:En->Ou:=bF (ifS (orT (jJ (tst (op1 (jO "tuple") (aD 1)))) (tsb (op2 (eqR false) (opA dR (aA (aD 1) aG)) (cD (.int 0))))) (retS (cD (.bl false))) Ou.nx)
  (bF (ifS (orT (jJ (tst (opA (qW λ bs=>bs.all id) (aA (lcD (dI (aD 1)) [none,some 0] (gnm 0) dO aCN) aG)))) (tsb (op2 ltD (opA vz (aA (opA uY (aA (aD 1) aG)) aG)) (opA dR (aA (aD 1) aG))))) (retS (cD (.bl false))) Ou.nx)
  (retS (opA (qW λ bs=>bs.all id) (aA (lcD (cY iV (aA (op2 pJ (opA dR (aA (aD 1) aG)) (cD (.int 1))) aG)) [none,some 1,some 0] (gnm 0) dO aGa) aG))))
def dF:List D->Rs D:=dw 2 cQ
def dpC:En->Rs D:=lcD (dI (aD 2)) [none,some 4] (gnm 0) (orT (tsb (op2 (eqR false) (op2 ixD (aD 0) (cD (.int 0))) (op2 ixD (aD 1) (cD (.int 0))))) (tsb (op2 (eqR false) (op2 ixD (aD 0) (cD (.int 1))) (op2 ixD (aD 1) (cD (.int 1)))))) (aq (aD 0))
def dpL:En->Ou:=ifS (tsb (op2 gtD (aU aV (aA (aD 0) (aA (op2 bG (cD (.int 60)) (op2 uB (aD 3) (cD (.int 40)))) (aA (cD (.int 3)) aG)))) (cD (.int 0))))
    (ifS (tsb (op2 (eqR false) dpC (dZ aG)))
     (jt 2 (aq (aD 4)))
     Ou.nx)
    Ou.nx
def cH:En->Ou:=bF (m7 2 (dZ aG))
  (bF (iY (cY aL9 (aA (op2 ixD (aD 1) (cD (.int 1))) aG)) (rN 2 (dN (gnm 3) (dN (gnm 4) uF))) dpL)
  (retS (opA dG (aA (xN 2) aG))))
def dD:List D->Rs D:=dw 5 cH
def dg:En->Ou:=
  (bF (cg 4 (aU aV (aA (aD 0) (aA (aD 1) (aA (op2 bG (opA dR (aA (aD 2) aG)) (cD (.int 1))) aG)))))
  (bF (mG 5 (op2 ixD (dZ (aA (cD (.int 0)) (aA (aq (aD 3)) (aA (op1 aDA (cD (.int 1))) (aA (cD (.bl true)) (aA (cD .non) (aA (cD (.str "0")) (aA (dZ (aA (cD (.int 0)) aG)) (aA (op2 pJ (aD 3) (cD (.int 1))) (aA (cD (.int 1)) aG)))))))))) (aU aV (aA (aD 0) (aA (op2 bG (aD 1) (cD (.int 1))) (aA (cD (.int 9)) aG))))))
  (bF (mG 6 (dZ (aA (op2 bG (op2 bG (aq (cU (aD 2) fV (fU (aD 4)))) (bj (aA (fL 5) aG))) (aq (cU (aD 2) (fU (op2 bG (aD 4) (cD (.int 1)))) fV))) (aA (op2 bG (aq (cU (aD 2) fV (fU (aD 4)))) (aq (cU (aD 2) (fU (op2 bG (aD 4) (cD (.int 1)))) fV))) (aA (op2 bG (op2 bG (aq (cU (aD 2) fV (fU (aD 4)))) (bj (aA (fL 5) aG))) (aq (cU (aD 2) (fU (aD 4)) fV))) (aA (aq (op1 aKY (aD 2))) aG))))))
  (bF (mG 6 (op2 bG (fL 6) (dZ (aA (opA aBD (aA (aq (aD 2)) aG)) (aA (op2 bG (aq (aD 2)) (aq (cU (aD 2) fV (fU (cD (.int 1)))))) (aA (op2 bG (aq (cU (aD 2) (fU (cD (.int 1))) fV)) (aq (cU (aD 2) fV (fU (cD (.int 1)))))) (aA (bj aG) (aA (cD .non) (aA (bj (aA (aq (aD 2)) aG)) aG)))))))))
  (retS (op2 ixD (fL 6) (aU aV (aA (aD 0) (aA (op2 bG (aD 1) (cD (.int 2))) (aA (cD (.int 10)) aG))))))))))
def jF:List D->Rs D:=dw 7 dg
def ipE:En->Ou:=ifS (orT (jJ (tst (op1 (jO "tuple") (aD 1)))) (tsb (op2 (eqR true) (opA dR (aA (aD 1) aG)) (cD (.int 2))))) (retS (cD (.bl false))) Ou.nx
def kJ:En->Ou:=bF ipE (retS (wI (aU eG (aA (aD 0) (aA (op2 ixD (aD 1) (cD (.int 0))) aG))) (wI (aU eG (aA (aD 0) (aA (op2 ixD (aD 1) (cD (.int 1))) aG))) (op2 (eqR true) (op2 ixD (aD 1) (cD (.int 0))) (op2 ixD (aD 1) (cD (.int 1)))))))
def n8:List D->Rs D:=dw 2 kJ
def aEw:En->Ou:=ifS (jJ (tst (aU eG (aA (opA dR (aA (aD 0) aG)) (aA (aD 2) aG))))) (retS (cD (.bl false))) Ou.nx
def aEv:En->Ou:=ifS (tsb (op2 (inR true) (op2 ixD (aD 1) (aD 3)) (op2 ixD (aD 0) (op2 ixD (aD 1) (op2 pJ (aD 3) (cD (.int 1))))))) (retS (cD (.bl false))) Ou.nx
def bf:En->Ou:=bF (ifS (orT (jJ (tst (op1 (jO "tuple") (aD 1)))) (tsb (op2 (eqR false) (opA dR (aA (aD 1) aG)) (cD (.int 0))))) (retS (cD (.bl false))) Ou.nx)
  (bF (iY (dI (aD 1)) (gnm 2) aEw)
  (bF (ifS (tsb (op2 (eqR true) (opA vz (aA (opA uY (aA (aD 1) aG)) aG)) (opA dR (aA (aD 1) aG)))) (retS (cD (.bl false))) Ou.nx)
  (bF (iY (cY xU (aA (cD (.int 1)) (aA (opA dR (aA (aD 1) aG)) aG))) (gnm 3) aEv)
  (retS (cD (.bl true))))))
def cB:List D->Rs D:=dw 4 bf
def aKn:En->Ou:=ifS (orT (tsb (op2 ltD (aD 10) (fL 4))) (uK (tsb (op2 (eqR false) (aD 3) (cD (.int 6)))) (tsb (op2 (eqR false) (aD 8) (op2 bG (aD 9) (cD (.int 1)))))))
     (jt 6 (bj (aA (aq (op2 ixD (aD 5) (aD 9))) (aA (aq (op2 ixD (aD 5) (aD 8))) aG))))
     Ou.nx
def aKm:En->Ou:=ifS (orT (uK (tsb (op2 gtD (aD 3) (cD (.int 2)))) (uK (tsb (op2 (eqR true) (aD 3) (cD (.int 7)))) (tsb (op2 ltD (aU aV (aA (aD 0) (aA (op2 bG (aD 7) (cD (.int 50))) (aA (cD (.int 8)) aG)))) (op2 pJ (fL 4) (cD (.int 1))))))) (uK (tsb (op2 (eqR false) (aD 3) (cD (.int 7)))) (tsb (op2 ltD (aD 10) (cD (.int 3))))))
     (jt 6 (bj (aA (aq (op2 ixD (aD 5) (aD 8))) (aA (aq (op2 ixD (aD 5) (aD 9))) aG))))
     Ou.nx
def aIV:En->Ou:=bF (cg 7 (op2 bG (aD 7) (cD (.int 1)))) (bF (cg 10 (aU aV (aA (aD 0) (aA (aD 7) (aA (cD (.int 8)) aG))))) (bF aKn aKm))
def aF4:En->Ou:=iY (cY iV (aA (aD 8) aG)) (gnm 9) aIV
def aF5:En->Ou:=ifS (uK (tsb (op2 (eqR false) (aD 3) (cD (.int 6)))) (tsb (op2 gtD (aD 2) (cD (.int 1)))))
   (jt 6 (bj (aA (aq (op2 ixD (aD 5) (op2 pJ (aD 2) (cD (.int 1))))) (aA (aq (op2 ixD (aD 5) (cD (.int 0)))) aG))))
   Ou.nx
def eX:En->Ou:=bF (cg 2 (aU aV (aA (aD 0) (aA (cD (.int 0)) (aA (op2 bG (aD 1) (cD (.int 1))) aG)))))
  (bF (cg 3 (aU aV (aA (aD 0) (aA (cD (.int 1)) (aA (cD (.int 8)) aG)))))
  (bF (mG 4 (op2 ixD (dZ (aA (cD (.int 1)) (aA (cD (.int 2)) (aA (cD (.int 4)) (aA (cD (.int 2)) (aA (cD (.int 3)) (aA (cD (.int 6)) (aA (cD (.int 1)) (aA (cD (.int 3)) aG))))))))) (aD 3)))
  (bF (cg 5 (aU iM (aA (aD 0) (aA (aD 2) aG))))
  (bF (m7 6 (dZ aG))
  (bF (cg 7 (cD (.int 2)))
  (bF (iY (cY iV (aA (aD 2) aG)) (gnm 8) aF4)
  (bF aF5
  (retS (bj (aA (aq (aD 2)) (aA (opA dG (aA (opA gY (aA (jc 6) aG)) aG)) aG)))))))))))
def gk:List D->Rs D:=dw 11 eX
def orB:En->Ou:=ifS (orT (tsb (op2 ltD (aU aV (aA (aD 0) (aA (aD 7) (aA (cD (.int 8)) aG)))) (fL 4))) (uK (tsb (op2 (eqR false) (aD 3) (cD (.int 5)))) (tsb (op2 (inR false) (aD 8) (bj (aA (op2 bG (op2 iW (cD (.int 2)) (aD 9)) (cD (.int 1))) (aA (op2 bG (op2 iW (cD (.int 2)) (aD 9)) (cD (.int 2))) aG)))))))
     (jt 6 (bj (aA (aq (op2 ixD (aD 5) (aD 9))) (aA (aq (op2 ixD (aD 5) (aD 8))) aG))))
     Ou.nx
def aI1:En->Ou:=bF (cg 7 (op2 bG (aD 7) (cD (.int 1)))) orB
def aF7:En->Ou:=iY (cY iV (aA (aD 8) aG)) (gnm 9) aI1
def eV:En->Ou:=bF (cg 2 (aU aV (aA (aD 0) (aA (cD (.int 0)) (aA (op2 bG (aD 1) (cD (.int 1))) aG)))))
  (bF (cg 3 (aU aV (aA (aD 0) (aA (cD (.int 1)) (aA (cD (.int 6)) aG)))))
  (bF (mG 4 (op2 ixD (dZ (aA (cD (.int 1)) (aA (cD (.int 2)) (aA (cD (.int 3)) (aA (cD (.int 5)) (aA (cD (.int 8)) (aA (cD (.int 0)) aG))))))) (aD 3)))
  (bF (cg 5 (aU iM (aA (aD 0) (aA (aD 2) aG))))
  (bF (m7 6 (dZ aG))
  (bF (cg 7 (cD (.int 2)))
  (bF (iY (cY iV (aA (aD 2) aG)) (gnm 8) aF7)
  (retS (bj (aA (aq (aD 2)) (aA (opA dG (aA (opA lB (aA (jc 6) aG)) aG)) aG))))))))))
def gj:List D->Rs D:=dw 10 eV
def lpA:En->Rs D:=opA (qW λ bs=>bs.all id) (aA (lcD (dI (aD 1)) [none,some 0] (gnm 0) dO (aU dF (aA (aD 1) (aA (aD 0) aG)))) aG)
def lpJ:En->Ou:=ifS (orT (jJ (tst (op1 (jO "tuple") (aD 1)))) (jJ (tst lpA))) (retS (cD (.bl false))) Ou.nx
def lp1:En->Rs D:=aU jC (aA (aD 1) aG)
def lpO:En->Rs D:=aU jG (aA (aD 1) (aA (op2 ixD (aD 0) (cD (.int 0))) aG))
def gG:En->Ou:=bF lpJ (retS (wI lp1 lpO))
def jE:List D->Rs D:=dw 2 gG
def bpI:En->Ou:=ifS (tst (op1 (jO "tuple") (aD 5)))
   (mG 6 (aU jF (aA (aD 0) (aA (op2 bG (aD 1) (cD (.int 1))) (aA (aD 5) (aA (aD 3) aG))))))
   (mG 6 (op2 ixD (dZ (aA (cD (.int 0)) (aA (aq (aD 3)) (aA (cD (.bl true)) (aA (cD .non) (aA (op2 bG (aq (aD 5)) (cD (.int 1))) (aA (bj (aA (aq (aD 5)) aG)) aG))))))) (aU aV (aA (aD 0) (aA (op2 bG (aD 1) (cD (.int 1))) (aA (cD (.int 6)) aG))))))
def bw:En->Ou:=bF (cg 4 (aU aV (aA (aD 0) (aA (aD 1) (aA (op2 bG (opA dR (aA (aD 2) aG)) (cD (.int 1))) aG)))))
  (bF (cg 5 (op2 ixD (op2 bG (aD 2) (bj (aA (bj aG) aG))) (aD 4)))
  (bF bpI
  (bF (m7 7 (dZ (aA (op2 bG (op2 bG (aq (cU (aD 2) fV (fU (aD 4)))) (bj (aA (fL 6) aG))) (aq (cU (aD 2) (fU (op2 bG (aD 4) (cD (.int 1)))) fV))) (aA (op2 bG (aq (cU (aD 2) fV (fU (aD 4)))) (aq (cU (aD 2) (fU (op2 bG (aD 4) (cD (.int 1)))) fV))) (aA (op2 bG (aq (aD 2)) (aq (cU (aD 2) fV (fU (cD (.int 1)))))) aG)))))
  (bF (m7 7 (op2 bG (xN 7) (dZ (aA (aq (op1 aKY (aD 2))) (aA (opA aBD (aA (aq (aD 2)) aG)) (aA (bj (aA (aq (aD 2)) aG)) (aA (cD .non) (aA (op2 bG (aq (aD 2)) (bj (aA (bj aG) aG))) aG))))))))
  (bF (jt 7 (op2 bG (op2 bG (aq (cU (aD 2) fV (fU (aD 4)))) (bj (aA (fL 6) aG))) (aq (cU (aD 2) (fU (aD 4)) fV))))
  (retS (op2 ixD (xN 7) (aU aV (aA (aD 0) (aA (op2 bG (aD 1) (cD (.int 4))) (aA (cD (.int 9)) aG)))))))))))
def cW:List D->Rs D:=dw 8 bw
def bQ:En->Ou:=
  (bF (ifS (jJ (tst (op1 (jO "tuple") (aD 1))))
   (retS (cD (.bl false)))
   Ou.nx)
  (bF (iY (dI (aD 1)) (gnm 2)
   (ifS (jJ (tst (aU n8 (aA (aD 0) (aA (aD 2) aG)))))
    (retS (cD (.bl false)))
    Ou.nx))
  (retS (aU du (aA (aD 1) aG)))))
def bz:List D->Rs D:=dw 3 bQ
def agT:List (Str×(List D->Rs D)):=[("goes_along",cB)]
def agL:En->Ou:=ifS (jJ (tst (aAW agT 2 (aA (aD 0) (aA (aD 3) aG))))) (retS (cD (.bl false))) Ou.nx
def lr:En->Ou:=bF (ifS (jJ (tst (op1 (jO "tuple") (aD 1)))) (retS (cD (.bl false))) Ou.nx) (bF (iY (dI (aD 1)) (gnm 3) agL) (retS (aU du (aA (aD 1) aG))))
def qX:List D->Rs D:=dw 4 lr
def gH:En->Ou:=
  (bF (ifS (orT (jJ (tst (op1 (jO "tuple") (aD 0)))) (tsb (op2 (eqR true) (opA dR (aA (aD 0) aG)) (cD (.int 2)))))
   (retS (cD (.bl false)))
   Ou.nx)
  (retS (wI (aU rB (aA (op2 ixD (aD 0) (cD (.int 0))) aG)) (aU bz (aA (op2 ixD (aD 0) (cD (.int 0))) (aA (op2 ixD (aD 0) (cD (.int 1))) aG))))))
def ju:List D->Rs D:=dw 1 gH
def cj:En->Ou:=
  (ifS (jJ (tst (aU ju (aA (aD 0) aG))))
   (zG "NoOneWay" (aA (cD (.str "this is no one-way web")) aG))
   Ou.nx)
def eO:List D->Rs D:=dw 1 cj
def ilA:En->Rs D:=aU qX (aA (aU rC (aA (aD 0) aG)) (aA (aD 1) (aA (cD (.fn "goes_along")) aG)))
def ilO:En->Rs D:=aU mY (aA (op2 ixD (aD 0) (cD (.int 0))) (aA (aD 1) aG))
def cT:En->Ou:=bF (aFw (aU eO (aA (aD 0) aG))) (retS (wI ilA ilO))
def bx:List D->Rs D:=dw 2 cT
def dJ:En->Ou:=
  (bF (ifS (jJ (tst (aU bx (aA (aD 0) (aA (aD 1) aG)))))
   (zG "NoParting" (aA (cD (.str "this is no one-way parting of the one-way web")) aG))
   Ou.nx)
  (retS (opA dG (aA (opA lB (aA (aU jH (aA (aD 1) aG)) aG)) aG))))
def bH:List D->Rs D:=dw 2 dJ
def lwR:En->Rs (List D):=(cY iV (aA (opA (mmD λ i j=>if j>i then j else i) (aA (cD (.int 1)) (aA (opA (mmD λ i j=>if j<i then j else i) (aA (opA dR (aA (aD 0) aG)) (aA (cD (.int 10)) aG))) aG))) aG))
def lwW:En->Rs (List D):=(dI (dZ (aA (aU gj (aA (aD 2) (aA (cD (.int 7)) aG))) (aA (aU gk (aA (aD 2) (aA (cD (.int 7)) aG))) aG))))
def lwT:En->Ou:=bF (cg 9 (aU jE (aA (aD 3) (aA (aD 8) aG)))) (bF (cg 10 (aU bx (aA (aD 3) (aA (aD 8) aG)))) (bF (ifS (orT (jJ (tst (op1 (jO "bool") (aD 10)))) (tsb (op2 (eqR true) (aD 10) (aD 9)))) (retS (cD (.bl false))) Ou.nx) (bF (cg 11 (aBx wdN "told" (aU bH (aA (aD 3) (aA (aD 8) aG))))) (ifS (tsb (op2 (eqR true) (aD 11) (op2 ixD (dZ (aA (cD (.str "parting")) (aA (cD (.str "told")) aG))) (opA wZ (aA (aD 9) aG))))) (retS (cD (.bl false))) Ou.nx))))
def w6X:En->Rs D:=(opA dG (aA (lcD (cY iV (aA (op2 ixD (aD 3) (cD (.int 0))) aG)) [none] (gnm 0) dO (bj (aA (aq (aD 0)) aG))) aG))
def w7X:En->Rs D:=(dZ (aA (aq (aD 5)) (aA (aq (aD 6)) (aA (bj aG) (aA (aU n6 (aA (aD 2) aG)) aG)))))
def w8X:En->Rs D:=(lcD (cY iV (aA (cD (.int 3)) aG)) [none,some 2,some 5,some 3] (gnm 0) dO (aU cW (aA (aD 1) (aA (op2 bG (cD (.int 70)) (op2 iW (cD (.int 6)) (aD 0))) (aA (aD 2) (aA (op2 ixD (aD 3) (cD (.int 0))) aG))))))
def lwI:En->Ou:=(ifS (uK (tst (aU jE (aA (aD 3) (aA (aD 5) aG)))) (tsb (op2 (eqR true) (aU bH (aA (aD 3) (aA (aD 5) aG))) (aD 4)))) (retS (cD (.bl false))) Ou.nx)
def lwJ:En->Ou:=(ifS (tsb (op2 (eqR true) (aU bH (aA (aD 3) (aA (aD 6) aG))) (bj aG))) (retS (cD (.bl false))) Ou.nx)
def lwB:En->Ou:=bF (cg 4 (aU dD (aA (aD 2) (aA (aD 3) aG)))) (bF (cg 5 (op2 ixD (aU jD (aA (aD 3) (aA (aD 4) aG))) (cD (.int 0)))) (bF (cg 6 w6X) (bF (mG 7 w7X) (bF (mG 7 (op2 bG (fL 7) w8X)) (bF (iY (dI (fL 7)) (gnm 8) lwT) (bF lwI lwJ))))))
def lwK:En->Ou:=bF (cg 2 (aU eY (aA (aD 0) (aA (aD 1) aG)))) (iY lwW (gnm 3) lwB)
def lwZ:En->Rs D:=(wI (op2 (isD false) (aU bx (aA (bj (aA (cD (.int 0)) (aA (bj aG) aG))) (aA (bj aG) aG))) (cD (.bl true))) (op2 (eqR false) (aU bH (aA (bj (aA (cD (.int 0)) (aA (bj aG) aG))) (aA (bj aG) aG))) (bj aG)))
def aB1:En->Ou:=bF (iY lwR (gnm 1) lwK) (retS lwZ)
def aJn:List D->Rs D:=dw 12 aB1
theorem aBZ(hb:0<b)(hb2:b<1073741824):∀(ds:List D) (x:Int) (s:Slot),(∀d∈ds,∃n:Int,d= .int n)->
  ∃y s',forL (gnm 4) (cg 3 (op2 aAL (aD 3) (aD 2))) ds [.sh (.int c),.sh (.int k),.sh (.int b),.sh (.int x),s,.no]= .nx [.sh (.int c),.sh (.int k),.sh (.int b),.sh (.int y),s',.no]
 |[],x,s,_=>⟨x,s,rfl⟩
 |d::ds,x,s,h=>by
  have ih:=aBZ hb hb2 (c:=c) (k:=k) ds (x / b) (.sh d) λ e he=>h e (zAM _ he)
  rw[nT];simp[aBO hb hb2];exact ih
theorem vG(hk0:0<=k)(hk1:k<2^40)(hb:0<b)(hb2:b<1073741824):∃r:Int,aV [.int c,.int k,.int b]= .ok (.int r)/\0<=r/\r<b:=by
 have hp:aIH (.int 10) (.int 18)= .ok (.int 1000000000000000000):=rfl;by_cases hc:(1000000000000000000:Int)<=c
 .have hr:=gn (j:=k) (by lia) (by lia)
  obtain⟨y,s',e⟩:=aBZ hb hb2 (c:=c) (k:=k) (bZ 0 k) c .no λ d hd=>let⟨n,e,_⟩:=jf.mp hd;⟨n,e⟩
  refine⟨y%b,?_,zDd _ (by lia),zDE _ hb⟩;simp[aV,iI,bC,hp,hc,hr,e,nO hb]
 .have s1:∀z:Int,0<=z%2147483647/\z%2147483647<2147483647:=λ z=>⟨zDd _ (by decide),zDE _ (by decide)⟩
  have s2:∀z:Int,0<=z%2147483629/\z%2147483629<2147483629:=λ z=>⟨zDd _ (by decide),zDE _ (by decide)⟩
  have m1:∀z,iW (.int 1009) (.int z)= .ok (.int (1009*z)):=λ z=>zW (by decide) (by decide)
  have m2:∀z,iW (.int z) (.int 69621)= .ok (.int (z*69621)):=λ z=>aIa (by decide) (by decide)
  have m3:∀z,iW (.int 40503) (.int z)= .ok (.int (40503*z)):=λ z=>zW (by decide) (by decide)
  have m4:∀z,iW (.int z) (.int 48271)= .ok (.int (z*48271)):=λ z=>aIa (by decide) (by decide)
  have m5:∀z:Int,iW (.int (z%2147483647)) (.int (z%2147483647))= .ok (.int (z%2147483647*(z%2147483647))):=λ z=>zW (by have:=s1 z;lia) (by have:=s1 z;lia)
  have d1:∀z,uB (.int z) (.int 1000000007)= .ok (.int (z%1000000007)):=λ z=>nO (by decide)
  have d2:∀z,uB (.int z) (.int 2147483647)= .ok (.int (z%2147483647)):=λ z=>nO (by decide)
  have d3:∀z,uB (.int z) (.int 2147483629)= .ok (.int (z%2147483629)):=λ z=>nO (by decide)
  have d4:∀z,aAL (.int z) (.int 32)= .ok (.int (z / 32)):=λ z=>aBO (by decide) (by decide)
  have d5:∀z,uB (.int z) (.int b)= .ok (.int (z%b)):=λ z=>nO hb
  simp[aV,iI,bC,hp,hc,m1,m2,m3,m4,m5,d1,d2,d3,d4,d5,-Int.emod_emod_of_dvd];exact⟨zDd _ (by lia),zDE _ hb⟩
theorem gq(hk0:0<=k)(hk1:k<2^40)(hb:0<b)(hb2:b<1073741824):∃r:Nat,aV [.int c,.int k,.int b]= .ok (.int r)/\(r:Int)<b:=by
 obtain⟨r,e,h0,h1⟩:=vG (c:=c) hk0 hk1 hb hb2;exact⟨r.toNat,by rw[zBz h0];exact e,by lia⟩
theorem aLg(h:0<=k):∃c:Int,eY [.scr ns,.int k]= .ok (.int c):=by
 by_cases hk:k<ns.length
 .obtain⟨d,e,hm,_⟩:=aAX (l:=ns.map .int) (i:=k) h (by simpa using hk)
  obtain⟨c,_,rfl⟩:=zAg.mp hm;exact⟨c,by simp[eY,dM,bC,hk,e]⟩
 .exact⟨0,by simp[eY,dM,bC,hk]⟩
mutual
def pln:D->Bool
 | .tup l=>fu l
 | .lst l=>fu l
 | .set _=>false
 | .scr _=>false
 | .fn _=>false
 |_=>true
def fu:List D->Bool
 |[]=>true
 |d::r=>pln d&&fu r
end
theorem jY(h:pln d=true):knd d=true:=by cases d<;>first|rfl|(simp[pln]at h)
theorem fQ:∀{l:List D} {d:D},fu l=true->d∈l->pln d=true
 |x::r,d,h,hm=>by
  simp only[fu,zAN]at h;rcases zAL.mp hm with rfl|hm
  .exact h.1
  .exact fQ h.2 hm
theorem oM:∀{l:List D},(∀d∈l,pln d=true)->fu l=true
 |[],_=>rfl
 |x::r,h=>by
  simp only[fu,zAN];exact⟨h x (zAK ..),oM λ d hd=>h d (zAM _ hd)⟩
def yS:D->Bool
 | .int _=>true
 |_=>false
def aFe:D->Bool
 | .int i=>decide (0<=i)&&decide (i<=60)
 |_=>false
def bu(m:Int):D->Bool
 | .int i=>decide (0<=i)&&decide (i<m)
 |_=>false
theorem wX(h:knd d=true):mF [d]= .ok (.bl (yS d)):=by
 simp[mF,jQ,bC,aFl h,aAA h];cases d<;>rfl
theorem aEp(h:knd d=true):rB [d]= .ok (.bl (aFe d)):=by
 simp[rB,kO,bC,wX h];cases d<;>simp[yS,aFe]
 rename_i i;by_cases h0:0<=i<;>simp[h0]
theorem qD(h:knd d=true):eG [.int m,d]= .ok (.bl (bu m d)):=by
 simp[eG,jR,bC,wX h];cases d<;>simp[yS,bu]
 rename_i i;by_cases h0:0<=i<;>simp[h0]
def lM(m:Int):D->Bool
 | .tup [.int a,.int b]=>decide (0<=a)&&decide (a<m)&&decide (0<=b)&&decide (b<m)&& !(a==b)
 |_=>false
theorem vh(h:bu m d=true):∃i:Int,d= .int i/\0<=i/\i<m:=by
 cases d with
 |int i=>simp[bu]at h;exact⟨i,rfl,h.1,h.2⟩
 |_=>simp[bu]at h
theorem aHS(h:nF d=true):∃l,d= .tup l:=by cases d<;>first|exact⟨_,rfl⟩|(cases h)
theorem aM0(h:l.length=2):∃x y,l=[x,y]:=by
 match l,h with
 |[x,y],_=>exact⟨x,y,rfl⟩
theorem aIT(h:nF d=false):lM m d=false:=by cases d<;>first|rfl|(cases h)
theorem aGW(h:l.length≠2):lM m (.tup l)=false:=by
 match l,h with
 |[],_=>rfl
 |[x],_=>cases x<;>rfl
 |[x,y],h=>exact absurd rfl h
 |x::y::z::r,_=>cases x<;>first|rfl|(cases y<;>rfl)
theorem aKl(h:bu m x=false):lM m (.tup [x,y])=false:=by
 cases x with
 |int i=>
  cases y with
  |int j=>
   show((((decide (0<=i)&&decide (i<m))&&decide (0<=j))&&decide (j<m))&& !(i==j))=false
   rw[show(decide (0<=i)&&decide (i<m))=false from h];rfl
  |_=>rfl
 |_=>rfl
theorem aKk(h:bu m y=false):lM m (.tup [.int i,y])=false:=by
 cases y with
 |int j=>
  show((((decide (0<=i)&&decide (i<m))&&decide (0<=j))&&decide (j<m))&& !(i==j))=false
  rw[zGG (decide (0<=i)&&decide (i<m)),show(decide (0<=j)&&decide (j<m))=false from h,zEf];rfl
 |_=>rfl
theorem aIS(h1:bu m (.int i)=true)(h2:bu m (.int j)=true):lM m (.tup [.int i,.int j])= !(i==j):=by
 show((((decide (0<=i)&&decide (i<m))&&decide (0<=j))&&decide (j<m))&& !(i==j))= !(i==j)
 rw[zGG (decide (0<=i)&&decide (i<m)),show(decide (0<=j)&&decide (j<m))=true from h2,show(decide (0<=i)&&decide (i<m))=true from h1];rfl
theorem aNw(hk:knd d=true)(h:nF d=false):ipE [s,.sh d]= .rt (.bl false):=by simp[ipE,iQ hk,h]
theorem aLS(h:l.length≠2):ipE [s,.sh (.tup l)]= .rt (.bl false):=by
 have:¬((l.length:Int)=2):=by omega
 simp[ipE,this]
theorem aLR:ipE [s,.sh (.tup [x,y])]= .nx [s,.sh (.tup [x,y])]:=by simp[ipE]
theorem aEo(h:pln d=true):n8 [.int m,d]= .ok (.bl (lM m d)):=by
 have st:bC 2 [.int m,d]=[.sh (.int m),.sh d]:=rfl;simp only[n8,kJ,bD,st];cases ht:nF d with
 |false=>rw[aO,aNw (jY h) ht,aIT ht];rfl
 |true=>
  obtain⟨l,rfl⟩:=aHS ht;by_cases hl:l.length=2
  .obtain⟨x,y,rfl⟩:=aM0 hl
   simp only[pln,fu,zAN]at h;have hx:=qD (m:=m) (jY h.1);have hy:=qD (m:=m) (jY h.2.1);have ex:aU eG (aA (aD 0) (aA (op2 ixD (aD 1) (cD (.int 0))) aG)) [.sh (.int m),.sh (.tup [x,y])]= .ok (.bl (bu m x)):=by simp[hx]
   have ey:aU eG (aA (aD 0) (aA (op2 ixD (aD 1) (cD (.int 1))) aG)) [.sh (.int m),.sh (.tup [x,y])]= .ok (.bl (bu m y)):=by simp[hy]
   rw[aO,aLR,ao,jX,yN,ex,aM,yM,yN,ey,aM,yM];cases c1:bu m x with
   |false=>rw[aKl c1];rfl
   |true=>
    obtain⟨i,rfl,_,_⟩:=vh c1;cases c2:bu m y with
    |false=>rw[aKk c2];rfl
    |true=>
     obtain⟨j,rfl,_,_⟩:=vh c2;rw[aIS c1 c2];rfl
  .rw[aO,aLS hl,aGW hl];rfl
def pD(p:Int×Int):D:=.tup [.int p.1,.int p.2]
def ltP(p q:Int×Int):Bool:=HT.lexLt [p.1,p.2] [q.1,q.2]
def rG:List (Int×Int)->Bool
 |[]=>true
 |[_]=>true
 |p::q::r=>ltP p q&&rG (q::r)
theorem aNk(p q:Int×Int):ltD (pD p) (pD q)= .ok (.bl (ltP p q)):=aCH [p.1,p.2] [q.1,q.2]
theorem kE:∀(ds:List D) (ok:Nat->Bool) (I:En->Prop) (Y:En),I Y->(∀(i:Nat) d Y,ds[i]? =some d->I Y->okE (a d Y) u= .rt r/\ok i=false\/∃Y',okE (a d Y) u= .nx Y'/\I Y'/\ok i=true)->
  (forL a u ds Y= .rt r/\∃i,i<ds.length/\ok i=false)\/(∃Y',forL a u ds Y= .nx Y'/\I Y'/\∀i,i<ds.length->ok i=true)
 |[],ok,I,Y,h,_=>.inr ⟨Y,rfl,h,λ i hi=>absurd hi (zI0 _)⟩
 |d::ds,ok,I,Y,h,hs=>by
  rw[nT];rcases hs 0 d Y rfl h with ⟨e,o⟩|⟨Y',e,h',o⟩
  .left
   refine⟨?_,0,by simp,o⟩;cases ea:a d Y with
   |ok Y1=>rw[ea]at e;simp at e ⊢;rw[e];rfl
   |ex c=>rw[ea]at e;cases e
   |st=>rw[ea]at e;cases e
  .have ih:=kE ds (λ i=>ok (i+1)) I Y' h' λ i d2 Y2 e2 h2=>hs (i+1) d2 Y2 (by simpa using e2) h2
   have e3:okE (a d Y) (λ Y1=>(u Y1).tn (forL a u ds))=forL a u ds Y':=by
    cases ea:a d Y with
    |ok Y1=>rw[ea]at e;simp at e ⊢;rw[e];rfl
    |ex c=>rw[ea]at e;cases e
    |st=>rw[ea]at e;cases e
   rw[e3];rcases ih with ⟨e4,i,hi,o4⟩|⟨Y4,e4,h4,o4⟩
   .exact .inl ⟨e4,i+1,by simpa using hi,o4⟩
   .refine .inr ⟨Y4,e4,h4,λ i hi=>?_⟩
    cases i with
    |zero=>exact o
    |succ i=>exact o4 i (by simpa using hi)
theorem ik{i:Nat}(h:(bZ lo hi)[i]? =some d):d= .int (lo+i)/\lo+i<hi:=by
 unfold bZ at h;rw[zAT]at h;by_cases hi2:i<(hi-lo).toNat
 .rw[zHM hi2]at h
  cases h;exact⟨rfl,by omega⟩
 .rw[List.getElem?_eq_none (by simpa using hi2)]at h
  cases h
theorem fP:(bZ lo hi).length=(hi-lo).toNat:=by unfold bZ;simp
section
variable{α:Type}{f:α->D}{lt:α->α->Bool}
def lJ(lt:α->α->Bool):List α->Bool
 |[]=>true
 |[_]=>true
 |p::q::r=>lt p q&&lJ lt (q::r)
theorem pX:∀{ps:List α},lJ lt ps=true↔∀(i:Nat) (p q:α),ps[i]? =some p->ps[i+1]? =some q->lt p q=true
 |[]=>by simp[lJ]
 |[x]=>by
  simp only[lJ,true_iff];intro i p q _ h2;simp at h2
 |x::y::r=>by
  have ih:=pX (ps:=y::r);unfold lJ;rw[zAN,ih];constructor
  .rintro⟨h1,h2⟩ i p q e1 e2
   cases i with
   |zero=>simp at e1 e2;subst e1 e2;exact h1
   |succ i=>exact h2 i p q (by simpa using e1) (by simpa using e2)
  .intro h
   exact⟨h 0 x y rfl rfl,λ i p q e1 e2=>h (i+1) p q (by simpa using e1) (by simpa using e2)⟩
theorem wY(hlt:∀a b,ltD (f a) (f b)= .ok (.bl (lt a b)))(hl:ps.length<=100000):du [.tup (ps.map f)]= .ok (.bl (lJ lt ps)):=by
 have hr:=aBt (i:=1) (j:=(ps.length:Int)) (by decide) (by decide) (by omega) (by omega);have hlen:(bZ 1 (ps.length:Int)).length=ps.length-1:=by rw[fP];omega
 have L:=kE (a:=gnm 1) (u:=ifS (jJ (tsb (op2 ltD (op2 ixD (aD 0) (op2 pJ (aD 1) (cD (.int 1)))) (op2 ixD (aD 0) (aD 1))))) (retS (cD (.bl false))) Ou.nx) (r:=.bl false)
  (bZ 1 (ps.length:Int)) (λ i=>match ps[i]?,ps[i+1]? with|some p,some q=>lt p q|_,_=>true) (λ Y=>∃s,Y=[.sh (.tup (ps.map f)),s]) [.sh (.tup (ps.map f)),.no] ⟨_,rfl⟩ (by
   rintro i d Y hd ⟨s,rfl⟩;obtain⟨rfl,h2⟩:=ik hd;have e1:ps[i]? =some ps[i]:=zAD (by omega);have e2:ps[i+1]? =some ps[i+1]:=zAD (by omega);have a1:atD (ps.map f) (1+(i:Int)-1)= .ok (f ps[i]):=by
    rw[show(1+(i:Int)-1)=(i:Int)by omega];exact gw (by rw[zAT,e1];rfl)
   have a2:atD (ps.map f) (1+(i:Int))= .ok (f ps[i+1]):=by
    rw[show(1+(i:Int))=((i+1:Nat):Int)by omega];exact gw (by rw[zAT,e2];rfl)
   simp only[e1,e2];cases c:lt ps[i] ps[i+1]with
   |true=>right;exact⟨_,by simp[a1,a2,hlt,c];rfl,⟨_,rfl⟩,rfl⟩
   |false=>left;exact⟨by simp[a1,a2,hlt,c],rfl⟩)
 have st:bC 2 [.tup (ps.map f)]=[.sh (.tup (ps.map f)),.no]:=rfl;rcases L with ⟨e,i,hi,o⟩|⟨Y',e,⟨s,rfl⟩,o⟩
 .have:lJ lt ps=false:=by
   cases c:lJ lt ps with
   |false=>rfl
   |true=>
    rw[hlen]at hi;have z:=pX.mp c i ps[i] ps[i+1] (zAD (by omega)) (zAD (by omega));rw[zAD (by omega),zAD (by omega)]at o;simp only at o;rw[z]at o;cases o
  rw[this];simp only[du,fY,bD,st];simp[hr,e]
 .have:lJ lt ps=true:=pX.mpr λ i p q e1 e2=>by
   have h2:=(zAI.mp e2).1
   have:=o i (by rw[hlen];omega)
   rw[e1,e2]at this;exact this
  rw[this];simp only[du,fY,bD,st];simp[hr,e]
end
theorem aEI:∀ps:List (Int×Int),rG ps=lJ ltP ps
 |[]=>rfl
 |[_]=>rfl
 |p::q::r=>by unfold rG lJ;rw[aEI (q::r)]
theorem aCQ(hl:ps.length<=100000):du [.tup (ps.map pD)]= .ok (.bl (rG ps)):=by
 rw[aEI];exact wY aNk hl
theorem aBu:rG ps=true↔∀(i:Nat) (p q:Int×Int),ps[i]? =some p->ps[i+1]? =some q->ltP p q=true:=by rw[aEI];exact pX
def aK7:D->Int×Int
 | .tup [.int a,.int b]=>(a,b)
 |_=>(0,0)
theorem aEY(h:lM m d=true):∃a b:Int,d= .tup [.int a,.int b]/\0<=a/\a<m/\0<=b/\b<m/\a≠b:=by
 unfold lM at h;split at h
 .rename_i a b
  simp at h;exact⟨a,b,rfl,h.1.1.1.1,h.1.1.1.2,h.1.1.2,h.1.2,h.2⟩
 .cases h
theorem aMM:∀{ts:List D},ts.all (lM m)=true->(ts.map aK7).map pD=ts
 |[],_=>rfl
 |t::ts,h=>by
  rw[zEy,zAN]at h;obtain⟨a,b,rfl,_⟩:=aEY h.1;simp only[zAG];rw[aMM h.2];rfl
def rpB(m:Int):D->Bool
 | .tup ts=>ts.all (lM m)&&rG (ts.map aK7)
 |_=>false
def aMi:D->Bool
 | .tup l=>decide (l.length<=100000)
 |_=>true
theorem rP(h:pln d=true)(hs:aMi d=true):bz [.int m,d]= .ok (.bl (rpB m d)):=by
 cases d with
 |tup ts=>
  have hp:fu ts=true:=by simpa[pln]using h
  have hl:ts.length<=100000:=by simpa[aMi]using hs
  have L:=kE (a:=gnm 2) (u:=ifS (jJ (tst (aU n8 (aA (aD 0) (aA (aD 2) aG))))) (retS (cD (.bl false))) Ou.nx) (r:=.bl false)
   ts (λ i=>match ts[i]? with|some t=>lM m t|none=>true) (λ Y=>∃s,Y=[.sh (.int m),.sh (.tup ts),s]) [.sh (.int m),.sh (.tup ts),.no] ⟨_,rfl⟩ (by
    rintro i d Y hd ⟨s,rfl⟩;have e:=aEo (m:=m) (fQ hp (zAw hd));simp only[hd];cases c:lM m d with
    |true=>right;exact⟨_,by simp[e,c];rfl,⟨_,rfl⟩,rfl⟩
    |false=>left;exact⟨by simp[e,c],rfl⟩)
  have st:bC 3 [.int m,.tup ts]=[.sh (.int m),.sh (.tup ts),.no]:=rfl;rcases L with ⟨e,i,hi,o⟩|⟨Y',e,⟨s,rfl⟩,o⟩
  .have:ts.all (lM m)=false:=by
    rw[zFM];rw[zAD hi]at o;exact⟨ts[i],zCo hi,by simpa using o⟩
   simp only[bz,bQ,bD,st];simp[e,rpB,this]
  .have:ts.all (lM m)=true:=by
    rw[zAf];intro t ht;obtain⟨i,hi,rfl⟩:=zCr ht
    have:=o i hi
    rw[zAD hi]at this;exact this
   have er:=aCQ (ps:=ts.map aK7) (by rw[zAF];exact hl);rw[aMM this]at er;simp only[bz,bQ,bD,st];simp[e,rpB,this,er]
 |_=>simp[bz,bQ,bC,iQ (jY h),nF,rpB]
theorem fX:∀(ds:List D) (P:Nat->En->Prop) (Y:En),P 0 Y->(∀(i:Nat) d Y,ds[i]? =some d->P i Y->∃Y',okE (a d Y) u= .nx Y'/\P (i+1) Y')->∃Y',forL a u ds Y= .nx Y'/\P ds.length Y'
 |[],P,Y,h,_=>⟨Y,rfl,h⟩
 |d::ds,P,Y,h,hs=>by
  obtain⟨Y1,e,h1⟩:=hs 0 d Y rfl h;obtain⟨Y2,e2,h2⟩:=fX (a:=a) (u:=u) ds (λ i=>P (i+1)) Y1 h1 λ i d2 Y2 e2 h2=>hs (i+1) d2 Y2 (by simpa using e2) h2
  refine⟨Y2,?_,by simpa using h2⟩;rw[nT];cases ea:a d Y with
  |ok Y0=>rw[ea]at e;simp at e ⊢;rw[e];exact e2
  |ex c=>rw[ea]at e;cases e
  |st=>rw[ea]at e;cases e
theorem aAF(l:List α)(i:Int)(y:α):(g8 l i y).Perm (y::l):=by
 unfold g8;generalize (if i<0 then(i+(l.length:Int)).toNat else min i.toNat l.length)=k
 have:(l.take k++y::l.drop k).Perm (y::(l.take k++l.drop k)):=List.perm_middle
 rwa [zE4]at this
theorem aGk(f:α->β)(l:List α)(i:Int)(y:α):g8 (l.map f) i (f y)=(g8 l i y).map f:=by
 unfold g8;rw[zAF,zAq,zAG,List.map_take,zI7]
structure aJl(n:Nat)(os:List Int):Prop where
 len:os.length=n
 nd:os.Nodup
 lo:∀x∈os,0<=x/\x<n
theorem wV{n:Nat}(h1:n<=60):∃os,iM [.int c,.int n]= .ok (.lst (os.map .int))/\aJl n os:=by
 have hr:=gn (j:=(n:Int)) (by lia) (by lia);have hlen:(bZ 0 (n:Int)).length=n:=by rw[fP];lia
 obtain⟨Y',e,s,os,rfl,ho⟩:=fX (a:=gnm 3) (u:=aIz 2 (aU aV (aA (aD 0) (aA (op2 bG (cD (.int 100)) (aD 3)) (aA (op2 bG (aD 3) (cD (.int 1))) aG)))) (aq (aD 3))) (bZ 0 (n:Int))
  (λ i Y=>∃s os,Y=[.sh (.int c),.sh (.int n),.ow (.lst (os.map .int)),s]/\aJl i os) [.sh (.int c),.sh (.int n),.ow (.lst []),.no] ⟨.no,[],rfl,rfl,by simp,λ x hx=>by simp at hx⟩ (by
   rintro i d Y hd ⟨s,os,rfl,ho⟩;obtain⟨rfl,h2⟩:=ik hd;obtain⟨r,er,r0,r1⟩:=vG (c:=c) (k:=100+(i:Int)) (b:=(i:Int)+1) (by lia) (by lia) (by lia) (by lia);have hz: -9223372036854775808<=r/\r<9223372036854775808/\os.length<16777216:=⟨by lia,by lia,by rw[ho.len];lia⟩;refine⟨[.sh (.int c),.sh (.int n),.ow (.lst ((g8 os r (0+(i:Int))).map .int)),.sh (.int (0+(i:Int)))],?_,_,_,rfl,?_,?_,λ x hx=>?_⟩
   .rw[<-aGk]
    simp only[lU,jk,aIz];simp[er,hz]
   .rw[aBI,ho.len]
   .refine(aAF os r _).nodup_iff.mpr (zBH.mpr ⟨λ hm=>?_,ho.nd⟩)
    have:=ho.lo _ hm
    lia
   .rcases zAL.mp ((aAF os r _).mem_iff.mp hx)with q|q
    .lia
    .have:=ho.lo x q
     lia)
 rw[hlen]at ho;refine⟨os,?_,ho⟩;simp[iM,jP,bC,hr,e]
def aHE:List (Int×Int):=(zAb 8).flatMap λ(a:Nat)=>((zAb 8).filter λ b=>b !=a).map λ(b:Nat)=>((a:Int),(b:Int))
theorem aJf(h0:0<=p.1)(h1:p.1<8)(h2:0<=p.2)(h3:p.2<8)(h4:p.1≠p.2):p∈aHE:=by
 unfold aHE;rw[zDX];refine⟨p.1.toNat,by simp;lia,?_⟩;rw[zAg];refine⟨p.2.toNat,?_,?_⟩
 .rw[zBD]
  refine⟨by simp;lia,?_⟩
  have:p.2.toNat≠p.1.toNat:=by lia
  simpa using this
 .have e1:((p.1.toNat:Nat):Int)=p.1:=zBz h0
  have e2:((p.2.toNat:Nat):Int)=p.2:=zBz h2;rw[e1,e2]
def pl(p:Int×Int):List Int:=[p.1,p.2]
def hp(p:Int×Int):Int:=hsh (pl p)
def aFq:List Int:=[(-1950498447580522560),7204814214171964562,(-4734289103435588629),1773351652666409796,(-3119722376306286570),(-1010439003188656273),(-5903513032161352639),(-5164621852614943976),(-3550055125485641917),(-1440771752368011620),(-6333845781340707986),173794974761290439,(-4719279054211405927),(-2609995681093775630),4685526799349444076,6794810172467074373,8409376899596376432,3516302870623680066,(-8422800446983873125),(-6313517073866242828),7240152970870612422,2248468952609198383,8756109708711196808,3863035679738500442,1079245023883434373,7586885779985432798,(-4352217537622120393),4803095124130366729,(-6348126469135965181),159514286966033244,(-9131917124991031250),(-2624276368889032825),(-1009709641759730766),1099573731357899531,(-3793500297614796835),(-3054609118068388172),3453031638033610253,(-5838399773923454241),669240982178544184,(-4223833046794152182),(-7007623702649218251),(-499982946547219826),(-5491666964808633865),8062003079928221385,(-3877100237679331806),2630540518422666619,(-6660890893534397875),(-153250137432399450),1461316589696902609,4358481687155754187,(-7580621630451799004),5973048414285056246,8082331787402686543,3189257758429990177,(-8749845559177563014),(-2242204803075564589)]
set_option maxRecDepth 1000000 in
theorem aDh:aHE.map hp=aFq:=by decide+kernel
set_option maxRecDepth 1000000 in
theorem aEs:aFq.Nodup:=by decide+kernel
theorem aB8:(aHE.map hp).Nodup/\aHE.length=56:=⟨by rw[aDh];exact aEs,by rw[<-zAF (f:=hp),aDh];rfl⟩
theorem qt:∀{L:List α},(L.map f).Nodup->∀x∈L,∀y∈L,f x=f y->x=y
 |a::L,h,x,hx,y,hy,e=>by
  rw[zAG,zBH]at h;rcases zAL.mp hx with q|q
  .rcases zAL.mp hy with z|z
   .rw[q,z]
   .subst q
    exact absurd (zAg.mpr ⟨y,z,e.symm⟩) h.1
  .rcases zAL.mp hy with z|z
   .subst z
    exact absurd (zAg.mpr ⟨x,q,e⟩) h.1
   .exact qt h.2 x q y z e
theorem qp:∀{l:List α},l.Nodup->(∀x∈l,∀y∈l,f x=f y->x=y)->(l.map f).Nodup
 |[],_,_=>by simp
 |a::l,h,hi=>by
  rw[zBH]at h;rw[zAG,zBH];refine⟨λ hm=>?_,qp h.2 λ x hx y hy e=>hi x (zAM _ hx) y (zAM _ hy) e⟩;obtain⟨x,hx,e⟩:=zAg.mp hm
  have:=hi x (zAM _ hx) a zAK e
  subst this;exact h.1 hx
structure Ow(n:Int)(ps:List (Int×Int)):Prop where
 n0:0<=n
 n1:n<=60
 len:ps.length<=3600
 pr:∀p∈ps,0<=p.1/\p.1<n/\0<=p.2/\p.2<n/\p.1≠p.2
 ris:rG ps=true
def owD(n:Int)(ps:List (Int×Int)):D:=.tup [.int n,.tup (ps.map pD)]
theorem aFL(p:Int×Int):tupI (pl p)=pD p:=rfl
theorem aND(h:pl p=pl q):p=q:=by
 unfold pl at h;injection h with h1 h2
 injection h2 with h2 _
 exact zG5 h1 h2
theorem rY(nd:ps.Nodup):∃qs:List (Int×Int),uW (ps.map pl)=qs.map pl/\qs.Perm ps/\rG qs=true:=by
 obtain⟨qs,q1,q2⟩:=oN (f:=pl) (tK (ps.map pl)) rfl;refine⟨qs,q2,q1,aBu.mpr λ i p q e1 e2=>?_⟩;have hr:=pL (ps.map pl);rw[q2]at hr;have hnd:qs.Nodup:=q1.nodup_iff.mpr nd;have h1:=(zAI.mp e1).1;have h2:=(zAI.mp e2).1;have f1:(qs.map pl)[i]'(by simpa using h1)=pl p:=by
  rw[zCY,(zAI.mp e1).2]
 have f2:(qs.map pl)[i+1]'(by simpa using h2)=pl q:=by
  rw[zCY,(zAI.mp e2).2]
 have z:=zCm.mp hr i (i+1) (by simpa using h1) (by simpa using h2) (by lia);rw[f1,f2]at z;have hne:p≠q:=λ e=>by
  subst e
  have:=(zCc h1 hnd).mp (e1.trans e2.symm)
  lia
 show HT.lexLt (pl p) (pl q)=true;cases c:HT.lexLt (pl p) (pl q)with
 |true=>rfl
 |false=>exact absurd (aND (za _ _ c z)) hne
theorem vV(ps:List (Int×Int)):km (ps.map pD)=some (ps.map pl):=by
 have:=yX (nss:=ps.map pl) λ ns h=>by
  obtain⟨p,_,rfl⟩:=zAg.mp h;simp[pl]
 rw[zAu]at this;exact this
theorem aOB(ps:List (Int×Int)):(ps.map pl).map hsh=ps.map hp:=by
 induction ps with
 |nil=>rfl
 |cons p ps ih=>simp only[zAG,ih,hp]
theorem aDw(h1:km l=some nss)(h2:nss.length<64)(h3:(nss.map hsh).Nodup):gY [.lst l]= .ok (.lst ((uW nss).map tupI)):=by
 unfold gY;dsimp only;rw[h1];dsimp only;rw[if_pos ⟨h2,h3⟩]
theorem ym(nd:ps.Nodup)(h8:∀p∈ps,0<=p.1/\p.1<8/\0<=p.2/\p.2<8/\p.1≠p.2):∃qs:List (Int×Int),gY [.lst (ps.map pD)]= .ok (.lst (qs.map pD))/\qs.Perm ps/\rG qs=true:=by
 obtain⟨qs,q1,q2,q3⟩:=rY nd;have hin:∀p∈ps,p∈aHE:=λ p hp=>by
  obtain⟨a,b,c,d,e⟩:=h8 p hp;exact aJf a b c d e
 have hlen:ps.length<=56:=by
  have:=sub_len nd hin
  rw[aB8.2]at this;exact this
 have hn:((ps.map pl).map hsh).Nodup:=by
  rw[aOB];exact qp nd λ x hx y hy e=>qt aB8.1 x (hin x hx) y (hin y hy) e
 refine⟨qs,?_,q2,q3⟩;rw[aDw (vV ps) (by rw[zAF];lia) hn,q1,zAu];exact congrArg (λ l=>Rs.ok (D.lst l)) (zCQ λ p _=>aFL p)
def ar(os:List Int)(q:Nat×Nat):Int×Int:=(os.getD q.1 0,os.getD q.2 0)
theorem aBB{os:List Int}{k:Nat}(h:k<os.length):atD (os.map D.int) (k:Int)= .ok (.int (os.getD k 0)):=gw (by rw[zAT,zAD h];simp[h])
theorem yO{n:Nat}(hn:n<=60){ip:List (Nat×Nat)}(nd:ip.Nodup)(h:∀q∈ip,q.1<n/\q.2<n):ip.length<=3600:=by
 have:=sub_len (l':=(zAb 60).flatMap λ a=>(zAb 60).map λ b=>(a,b)) nd λ q hq=>by
  rw[zDX]
  have:=h q hq
  exact⟨q.1,by simp;omega,zAg.mpr ⟨q.2,by simp;omega,rfl⟩⟩
 refine zAm this ?_;rw[List.length_flatMap];simp only[zAF,zDy];decide
abbrev owE(c most:Int)(n kd:Nat)(t:Int)(os:List Int)(ip:List (Nat×Nat))(sp:Int)(s8 s9 s10:Slot):En:=
 [.sh (.int c),.sh (.int most),.sh (.int n),.sh (.int kd),.nw (.int t),.sh (.lst (os.map .int)),.ow (.lst ((ip.map (ar os)).map pD)),.sh (.int sp),s8,s9,s10]
theorem aEZ{c most t sp:Int}{n kd a b:Nat}{os:List Int}{ip:List (Nat×Nat)}{s8 s9 s10:Slot}{f g:En->Rs D}(hz:ip.length<16777216)(ha:a<os.length)(hb:b<os.length)
  (h1:f (owE c most n kd t os ip sp s8 s9 s10)= .ok (.int a))(h2:g (owE c most n kd t os ip sp s8 s9 s10)= .ok (.int b)):
  jt 6 (bj (aA (aq (op2 ixD (aD 5) f)) (aA (aq (op2 ixD (aD 5) g)) aG))) (owE c most n kd t os ip sp s8 s9 s10)= .nx (owE c most n kd t os (ip++[(a,b)]) sp s8 s9 s10):=by
 simp[jt,h1,h2,aBB ha,aBB hb,hz,ar,pD]
structure Ips(n kd j i:Nat)(ip:List (Nat×Nat)):Prop where
 nd:ip.Nodup
 ok:∀q∈ip,q.1≠q.2/\q.1<n/\q.2<n/\((q.1<j/\q.2<j)\/(q.1=j/\q.2<i)\/(q.2=j/\q.1<i))/\(kd=6->q.1<q.2)
theorem aIU{c most t:Int}{n kd j:Nat}{os:List Int}(hn:n<=60)(hj:j<n)(ho:aJl n os)(ht:kd=6->t=1){ip:List (Nat×Nat)}{sp:Int}{s9 s10:Slot}(h0:0<=sp)(h1:sp<=2+60*j)(hip:Ips n kd j 0 ip):
  ∃ip' sp' s9' s10',forL (gnm 9) aIV (bZ 0 (j:Int)) (owE c most n kd t os ip sp (.sh (.int j)) s9 s10)= .nx (owE c most n kd t os ip' sp' (.sh (.int j)) s9' s10')/\0<=sp'/\sp'<=2+60*(j+1)/\Ips n kd (j+1) 0 ip':=by
 have hlen:(bZ 0 (j:Int)).length=j:=by rw[fP];omega
 obtain⟨Y',e,ip',sp',s9',s10',rfl,q0,q1,q2⟩:=fX (a:=gnm 9) (u:=aIV) (bZ 0 (j:Int))
  (λ i Y=>∃ip sp s9 s10,Y=owE c most n kd t os ip sp (.sh (.int j)) s9 s10/\0<=sp/\sp<=2+60*j+i/\Ips n kd j i ip) (owE c most n kd t os ip sp (.sh (.int j)) s9 s10) ⟨ip,sp,s9,s10,rfl,h0,by omega,hip⟩ (by
   rintro i d Y hd ⟨ip,sp,s9,s10,rfl,p0,p1,p2⟩;obtain⟨rfl,hlt⟩:=ik hd;have hij:i<j:=by omega
   obtain⟨h,eh,hh0,hh1⟩:=vG (c:=c) (k:=sp+1) (b:=8) (by omega) (by omega) (by decide) (by decide);obtain⟨g,eg,hg0,hg1⟩:=vG (c:=c) (k:=sp+1+50) (b:=8) (by omega) (by omega) (by decide) (by decide);have hzl:=yO hn p2.nd λ q hq=>⟨(p2.ok q hq).2.1,(p2.ok q hq).2.2.1⟩
   have hi':i<os.length:=by rw[ho.len];omega
   have hj':j<os.length:=by rw[ho.len];omega
   have st1:∃ip1,aKn (owE c most n kd t os ip (sp+1) (.sh (.int j)) (.sh (.int i)) (.sh (.int h)))= .nx (owE c most n kd t os ip1 (sp+1) (.sh (.int j)) (.sh (.int i)) (.sh (.int h)))/\(ip1=ip\/ip1=ip++[(i,j)]):=by
    have hc:(orT (tsb (op2 ltD (aD 10) (fL 4))) (uK (tsb (op2 (eqR false) (aD 3) (cD (.int 6)))) (tsb (op2 (eqR false) (aD 8) (op2 bG (aD 9) (cD (.int 1))))))) (owE c most n kd t os ip (sp+1) (.sh (.int j)) (.sh (.int i)) (.sh (.int h)))= .ok (decide (h<t)||((kd:Int)==6&&(j:Int)==(i:Int)+1)):=by
     have eA:tsb (op2 ltD (aD 10) (fL 4)) (owE c most n kd t os ip (sp+1) (.sh (.int j)) (.sh (.int i)) (.sh (.int h)))= .ok (decide (h<t)):=rfl;have eB:tsb (op2 (eqR false) (aD 3) (cD (.int 6))) (owE c most n kd t os ip (sp+1) (.sh (.int j)) (.sh (.int i)) (.sh (.int h)))= .ok ((kd:Int)==6):=rfl;have eC:tsb (op2 (eqR false) (aD 8) (op2 bG (aD 9) (cD (.int 1)))) (owE c most n kd t os ip (sp+1) (.sh (.int j)) (.sh (.int i)) (.sh (.int h)))= .ok ((j:Int)==(i:Int)+1):=rfl;rw[vo,eA,vP,eB,eC];cases decide (h<t)<;>cases (kd:Int)==6<;>rfl
    cases hb:(decide (h<t)||((kd:Int)==6&&(j:Int)==(i:Int)+1))with
    |true=>
     refine⟨_,?_,.inr rfl⟩;rw[hb]at hc;simp only[aKn,fW,hc,bU,if_pos];exact aEZ (by omega) hi' hj' (by simp) (by simp)
    |false=>
     refine⟨_,?_,.inl rfl⟩;rw[hb]at hc;simp only[aKn,fW,hc,bU];rfl
   obtain⟨ip1,e1,c1⟩:=st1;have st2:∃ip2,aKm (owE c most n kd t os ip1 (sp+1) (.sh (.int j)) (.sh (.int i)) (.sh (.int h)))= .nx (owE c most n kd t os ip2 (sp+1) (.sh (.int j)) (.sh (.int i)) (.sh (.int h)))/\(ip2=ip1\/(ip2=ip1++[(j,i)]/\kd≠6)):=by
    have hl1:ip1.length<16777216:=by rcases c1 with q|q<;>rw[q]<;>first|omega|(simp;omega)
    have hc:(orT (uK (tsb (op2 gtD (aD 3) (cD (.int 2)))) (uK (tsb (op2 (eqR true) (aD 3) (cD (.int 7)))) (tsb (op2 ltD (aU aV (aA (aD 0) (aA (op2 bG (aD 7) (cD (.int 50))) (aA (cD (.int 8)) aG)))) (op2 pJ (fL 4) (cD (.int 1))))))) (uK (tsb (op2 (eqR false) (aD 3) (cD (.int 7)))) (tsb (op2 ltD (aD 10) (cD (.int 3)))))) (owE c most n kd t os ip1 (sp+1) (.sh (.int j)) (.sh (.int i)) (.sh (.int h)))
      = .ok (decide (2<(kd:Int))&& !((kd:Int)==7)&&decide (g<t-1)||((kd:Int)==7&&decide (h<3))):=by
     have eA:tsb (op2 gtD (aD 3) (cD (.int 2))) (owE c most n kd t os ip1 (sp+1) (.sh (.int j)) (.sh (.int i)) (.sh (.int h)))= .ok (decide (2<(kd:Int))):=rfl;have eB:tsb (op2 (eqR true) (aD 3) (cD (.int 7))) (owE c most n kd t os ip1 (sp+1) (.sh (.int j)) (.sh (.int i)) (.sh (.int h)))= .ok (!((kd:Int)==7)):=rfl;have eC:tsb (op2 ltD (aU aV (aA (aD 0) (aA (op2 bG (aD 7) (cD (.int 50))) (aA (cD (.int 8)) aG)))) (op2 pJ (fL 4) (cD (.int 1)))) (owE c most n kd t os ip1 (sp+1) (.sh (.int j)) (.sh (.int i)) (.sh (.int h)))= .ok (decide (g<t-1)):=by
      have e0:aA (aD 0) (aA (op2 bG (aD 7) (cD (.int 50))) (aA (cD (.int 8)) aG)) (owE c most n kd t os ip1 (sp+1) (.sh (.int j)) (.sh (.int i)) (.sh (.int h)))= .ok [.int c,.int (sp+1+50),.int 8]:=rfl;rw[mZ,dH,qT,e0,aM,eg];rfl
     have eD:tsb (op2 (eqR false) (aD 3) (cD (.int 7))) (owE c most n kd t os ip1 (sp+1) (.sh (.int j)) (.sh (.int i)) (.sh (.int h)))= .ok ((kd:Int)==7):=rfl;have eE:tsb (op2 ltD (aD 10) (cD (.int 3))) (owE c most n kd t os ip1 (sp+1) (.sh (.int j)) (.sh (.int i)) (.sh (.int h)))= .ok (decide (h<3)):=rfl;rw[vo,vP,eA,vP,eB,eC,vP,eD,eE];cases decide (2<(kd:Int))<;>cases (kd:Int)==7<;>cases decide (g<t-1)<;>rfl
    cases hb:(decide (2<(kd:Int))&& !((kd:Int)==7)&&decide (g<t-1)||((kd:Int)==7&&decide (h<3)))with
    |true=>
     refine⟨_,?_,.inr ⟨rfl,λ k6=>?_⟩⟩
     .rw[hb]at hc
      simp only[aKm,fW,hc,bU,if_pos];exact aEZ hl1 hj' hi' (by simp) (by simp)
     .have:=ht k6
      subst k6;simp at hb;omega
    |false=>
     refine⟨_,?_,.inl rfl⟩;rw[hb]at hc;simp only[aKm,fW,hc,bU];rfl
   obtain⟨ip2,e2,c2⟩:=st2;refine⟨_,?_,ip2,sp+1,.sh (.int i),.sh (.int h),rfl,by omega,by omega,?_⟩
   .have s7:cg 7 (op2 bG (aD 7) (cD (.int 1))) (owE c most n kd t os ip sp (.sh (.int j)) (.sh (.int i)) s10)= .nx (owE c most n kd t os ip (sp+1) (.sh (.int j)) (.sh (.int i)) s10):=by first|rfl|simp
    have s11:cg 10 (aU aV (aA (aD 0) (aA (aD 7) (aA (cD (.int 8)) aG)))) (owE c most n kd t os ip (sp+1) (.sh (.int j)) (.sh (.int i)) s10)= .nx (owE c most n kd t os ip (sp+1) (.sh (.int j)) (.sh (.int i)) (.sh (.int h))):=by simp[eh]
    rw[zE7];show aIV (owE c most n kd t os ip sp (.sh (.int j)) (.sh (.int i)) s10)=_;unfold aIV;rw[aO,s7,ao,aO,s11,ao,aO,e1,ao,e2]
   .have hold:∀q∈ip,q.1≠q.2/\q.1<n/\q.2<n/\((q.1<j/\q.2<j)\/(q.1=j/\q.2<i+1)\/(q.2=j/\q.1<i+1))/\(kd=6->q.1<q.2):=λ q hq=>by
     obtain⟨a1,a2,a3,a4,a5⟩:=p2.ok q hq;exact⟨a1,a2,a3,a4.imp_right (Or.imp (λ z=>⟨z.1,zBj z.2⟩) λ z=>⟨z.1,zBj z.2⟩),a5⟩
    have n1:(i,j)∉ip:=λ hm=>by
     obtain⟨_,_,_,a4,_⟩:=p2.ok _ hm;simp only at a4;omega
    have n2:(j,i)∉ip:=λ hm=>by
     obtain⟨_,_,_,a4,_⟩:=p2.ok _ hm;simp only at a4;omega
    have hone:∀q:Nat×Nat,q=(i,j)->q.1≠q.2/\q.1<n/\q.2<n/\((q.1<j/\q.2<j)\/(q.1=j/\q.2<i+1)\/(q.2=j/\q.1<i+1))/\(kd=6->q.1<q.2):=λ q hq=>by
     subst hq;exact⟨zAU hij,zCR hij hj,hj,.inr (.inr ⟨rfl,zBa i⟩),λ _=>hij⟩
    have htwo:kd≠6->∀q:Nat×Nat,q=(j,i)->q.1≠q.2/\q.1<n/\q.2<n/\((q.1<j/\q.2<j)\/(q.1=j/\q.2<i+1)\/(q.2=j/\q.1<i+1))/\(kd=6->q.1<q.2):=λ hk q hq=>by
     subst hq;exact⟨zB4 hij,hj,zCR hij hj,.inr (.inl ⟨rfl,zBa i⟩),λ z=>absurd z hk⟩
    have hij2:((i,j):Nat×Nat)≠(j,i):=λ z=>by injection z with z1 z2;omega
    rcases c1 with rfl|rfl<;>rcases c2 with rfl|⟨rfl,hk⟩
    .exact⟨p2.nd,hold⟩
    .refine⟨zBB.mpr ⟨p2.nd,by simp,λ x hx y hy z=>?_⟩,λ q hq=>?_⟩
     .rw[zAS]at hy;subst hy;subst z;exact n2 hx
     .rcases zA2.mp hq with z|z
      .exact hold q z
      .exact htwo hk q (zAS.mp z)
    .refine⟨zBB.mpr ⟨p2.nd,by simp,λ x hx y hy z=>?_⟩,λ q hq=>?_⟩
     .rw[zAS]at hy;subst hy;subst z;exact n1 hx
     .rcases zA2.mp hq with z|z
      .exact hold q z
      .exact hone q (zAS.mp z)
    .refine⟨zBB.mpr ⟨zBB.mpr ⟨p2.nd,by simp,λ x hx y hy z=>?_⟩,by simp,λ x hx y hy z=>?_⟩,λ q hq=>?_⟩
     .rw[zAS]at hy;subst hy;subst z;exact n1 hx
     .rw[zAS]at hy
      subst hy;subst z;rcases zA2.mp hx with z|z
      .exact n2 z
      .exact hij2 (zAS.mp z).symm
     .rcases zA2.mp hq with z|z
      .rcases zA2.mp z with z|z
       .exact hold q z
       .exact hone q (zAS.mp z)
      .exact htwo hk q (zAS.mp z))
 rw[hlen]at q1 q2;refine⟨ip',sp',s9',s10',e,q0,by omega,q2.nd,λ q hq=>?_⟩;obtain⟨a1,a2,a3,a4,a5⟩:=q2.ok q hq;exact⟨a1,a2,a3,.inl (by omega),a5⟩
theorem aHT{kd:Nat}(h:kd<8):∃t:Int,atD ([1,2,4,2,3,6,1,3].map D.int) (kd:Int)= .ok (.int t)/\(kd=6->t=1):=by
 have:=aBB (os:=[1,2,4,2,3,6,1,3]) (k:=kd) (by simpa using h)
 refine⟨_,this,λ k6=>by subst k6;rfl⟩
theorem zx{c:Int}{most:Nat}(h1:most<=8):∃n ps,gk [.int c,.int most]= .ok (owD n ps)/\Ow n ps/\n<=(most:Int):=by
 obtain⟨n,en,hn⟩:=gq (c:=c) (k:=0) (b:=(most:Int)+1) (by decide) (by decide) (by omega) (by omega);obtain⟨kd,ek,hk⟩:=gq (c:=c) (k:=1) (b:=8) (by decide) (by decide) (by decide) (by decide);have hn8:n<=8:=by omega
 obtain⟨t,et,ht⟩:=aHT (kd:=kd) (by omega);obtain⟨os,eo,ho⟩:=wV (c:=c) (n:=n) (by omega);have hr1:=gn (j:=(n:Int)) (by omega) (by omega);have hlen:(bZ 0 (n:Int)).length=n:=by rw[fP];omega
 obtain⟨Y',e,ip,sp,s8,s9,s10,rfl,_,_,hip⟩:=fX (a:=gnm 8) (u:=aF4) (bZ 0 (n:Int))
  (λ j Y=>∃ip sp s8 s9 s10,Y=owE c most n kd t os ip sp s8 s9 s10/\0<=sp/\sp<=2+60*j/\Ips n kd j 0 ip) (owE c most n kd t os [] 2 .no .no .no) ⟨[],2,.no,.no,.no,rfl,by omega,by omega,by simp,λ q hq=>by simp at hq⟩ (by
   rintro j d Y hd ⟨ip,sp,s8,s9,s10,rfl,p0,p1,p2⟩;obtain⟨rfl,hlt⟩:=ik hd;have hr2:=gn (j:=(j:Int)) (by omega) (by omega);obtain⟨ip',sp',s9',s10',e,q0,q1,q2⟩:=aIU (c:=c) (most:=most) (t:=t) (n:=n) (kd:=kd) (j:=j) (os:=os) (by omega) (by omega) ho ht (s9:=s9) (s10:=s10) p0 p1 p2;refine⟨_,?_,ip',sp',.sh (.int j),s9',s10',rfl,q0,by omega,q2⟩;rw[zE7,lU,jk,show(owE c most n kd t os ip sp s8 s9 s10).set 8 (.sh (.int j))=owE c most n kd t os ip sp (.sh (.int j)) s9 s10 from rfl];unfold aF4;have hi:(cY iV (aA (aD 8) aG)) (owE c most n kd t os ip sp (.sh (.int j)) s9 s10)= .ok (bZ 0 (j:Int)):=by simp[hr2]
   rw[fJ,hi,bU,e])
 rw[hlen]at hip;have hzl:=yO (by omega) hip.nd λ q hq=>⟨(hip.ok q hq).2.1,(hip.ok q hq).2.2.1⟩
 obtain⟨ip2,e2,hip2⟩:∃ip2,aF5 (owE c most n kd t os ip sp s8 s9 s10)= .nx (owE c most n kd t os ip2 sp s8 s9 s10)/\ip2.Nodup/\∀q∈ip2,q.1≠q.2/\q.1<n/\q.2<n:=by
  have hc:(uK (tsb (op2 (eqR false) (aD 3) (cD (.int 6)))) (tsb (op2 gtD (aD 2) (cD (.int 1))))) (owE c most n kd t os ip sp s8 s9 s10)= .ok ((kd:Int)==6&&decide (1<(n:Int))):=by
   by_cases k1:(kd:Int)=6<;>simp[k1]
  cases hb:((kd:Int)==6&&decide (1<(n:Int)))with
  |true=>
   simp only[zAN,beq_iff_eq,decide_eq_true_eq]at hb;have k6:kd=6:=by omega
   refine⟨ip++[(n-1,0)],?_,zBB.mpr ⟨hip.nd,by simp,λ x hx y hy z=>?_⟩,λ q hq=>?_⟩
   .unfold aF5
    rw[fW,hc,show((kd:Int)==6&&decide (1<(n:Int)))=true by simp[hb],bU,if_pos rfl];exact aEZ (by omega) (by rw[ho.len];omega) (by rw[ho.len];omega) (by simp;omega) (by simp)
   .rw[zAS]at hy
    subst hy;subst z
    have:=(hip.ok _ hx).2.2.2.2 k6
    simp at this
   .rcases zA2.mp hq with z|z
    .exact⟨(hip.ok q z).1,(hip.ok q z).2.1,(hip.ok q z).2.2.1⟩
    .rw[zAS.mp z]
     exact⟨by simp;omega,by simp;omega,by simp;omega⟩
  |false=>
   refine⟨ip,?_,hip.nd,λ q z=>⟨(hip.ok q z).1,(hip.ok q z).2.1,(hip.ok q z).2.2.1⟩⟩;unfold aF5;rw[fW,hc,hb,bU];rfl
 have hin:∀p∈ip2.map (ar os),0<=p.1/\p.1<n/\0<=p.2/\p.2<n/\p.1≠p.2:=λ p hp=>by
  obtain⟨q,hq,rfl⟩:=zAg.mp hp;obtain⟨a1,a2,a3⟩:=hip2.2 q hq;have g:∀k,k<n->os.getD k 0∈os:=λ k hk=>by
   have:k<os.length:=by rw[ho.len];exact hk
   simp[this]
  have l1:=ho.lo _ (g q.1 a2);have l2:=ho.lo _ (g q.2 a3);refine⟨l1.1,l1.2,l2.1,l2.2,λ z=>a1 ?_⟩;have k1:q.1<os.length:=by rw[ho.len];exact a2
  have k2:q.2<os.length:=by rw[ho.len];exact a3
  have z':os.getD q.1 0=os.getD q.2 0:=z
  have:os[q.1]? =os[q.2]?:=by
   rw[zAD k1,zAD k2];simpa[k1,k2]using z'
  exact(zCc k1 ho.nd).mp this
 have hnd:(ip2.map (ar os)).Nodup:=qp hip2.1 λ x hx y hy e=>by
  have gi:∀k l,k<n->l<n->os.getD k 0=os.getD l 0->k=l:=λ k l hk hl z=>by
   have k1:k<os.length:=by rw[ho.len];exact hk
   have k2:l<os.length:=by rw[ho.len];exact hl
   have:os[k]? =os[l]?:=by
    rw[zAD k1,zAD k2];simpa[k1,k2]using z
   exact(zCc k1 ho.nd).mp this
  obtain⟨_,x1,x2⟩:=hip2.2 x hx;obtain⟨_,y1,y2⟩:=hip2.2 y hy;have e1:os.getD x.1 0=os.getD y.1 0:=congrArg zG6 e;have e2:os.getD x.2 0=os.getD y.2 0:=congrArg zEG e;exact zG5 (gi _ _ x1 y1 e1) (gi _ _ x2 y2 e2)
 obtain⟨qs,s1,s2,s3⟩:=ym hnd λ p hp=>by
  obtain⟨a,b,c',d,e⟩:=hin p hp;exact⟨a,by omega,c',by omega,e⟩
 have hl2:qs.length<=3600:=by
  rw[s2.length_eq,zAF];exact yO (n:=n) (by omega) hip2.1 λ q hq=>(hip2.2 q hq).2
 refine⟨n,qs,?_,⟨by omega,by omega,hl2,λ p hp=>hin p (s2.mem_iff.mp hp),s3⟩,by omega⟩;have st:bC 11 [.int c,.int most]=[.sh (.int c),.sh (.int most),.no,.no,.no,.no,.no,.no,.no,.no,.no]:=rfl;have et':atD [D.int 1,D.int 2,D.int 4,D.int 2,D.int 3,D.int 6,D.int 1,D.int 3] (kd:Int)= .ok (.int t):=et;have a1:cg 2 (aU aV (aA (aD 0) (aA (cD (.int 0)) (aA (op2 bG (aD 1) (cD (.int 1))) aG)))) [.sh (.int c),.sh (.int most),.no,.no,.no,.no,.no,.no,.no,.no,.no]= .nx [.sh (.int c),.sh (.int most),.sh (.int n),.no,.no,.no,.no,.no,.no,.no,.no]:=by simp[en]
 have a2:cg 3 (aU aV (aA (aD 0) (aA (cD (.int 1)) (aA (cD (.int 8)) aG)))) [.sh (.int c),.sh (.int most),.sh (.int n),.no,.no,.no,.no,.no,.no,.no,.no]= .nx [.sh (.int c),.sh (.int most),.sh (.int n),.sh (.int kd),.no,.no,.no,.no,.no,.no,.no]:=by simp[ek]
 have a3:mG 4 (op2 ixD (dZ (aA (cD (.int 1)) (aA (cD (.int 2)) (aA (cD (.int 4)) (aA (cD (.int 2)) (aA (cD (.int 3)) (aA (cD (.int 6)) (aA (cD (.int 1)) (aA (cD (.int 3)) aG))))))))) (aD 3)) [.sh (.int c),.sh (.int most),.sh (.int n),.sh (.int kd),.no,.no,.no,.no,.no,.no,.no]= .nx [.sh (.int c),.sh (.int most),.sh (.int n),.sh (.int kd),.nw (.int t),.no,.no,.no,.no,.no,.no]:=by simp[et']
 have a4:cg 5 (aU iM (aA (aD 0) (aA (aD 2) aG))) [.sh (.int c),.sh (.int most),.sh (.int n),.sh (.int kd),.nw (.int t),.no,.no,.no,.no,.no,.no]= .nx [.sh (.int c),.sh (.int most),.sh (.int n),.sh (.int kd),.nw (.int t),.sh (.lst (os.map .int)),.no,.no,.no,.no,.no]:=by simp[eo]
 have a5:m7 6 (dZ aG) [.sh (.int c),.sh (.int most),.sh (.int n),.sh (.int kd),.nw (.int t),.sh (.lst (os.map .int)),.no,.no,.no,.no,.no]= .nx [.sh (.int c),.sh (.int most),.sh (.int n),.sh (.int kd),.nw (.int t),.sh (.lst (os.map .int)),.ow (.lst []),.no,.no,.no,.no]:=by first|rfl|simp
 have a6:cg 7 (cD (.int 2)) [.sh (.int c),.sh (.int most),.sh (.int n),.sh (.int kd),.nw (.int t),.sh (.lst (os.map .int)),.ow (.lst []),.no,.no,.no,.no]= .nx (owE c most n kd t os [] 2 .no .no .no):=by first|rfl|simp
 have a7:iY (cY iV (aA (aD 2) aG)) (gnm 8) aF4 (owE c most n kd t os [] 2 .no .no .no)= .nx (owE c most n kd t os ip sp s8 s9 s10):=by
  have hi:(cY iV (aA (aD 2) aG)) (owE c most n kd t os [] 2 .no .no .no)= .ok (bZ 0 (n:Int)):=by simp[hr1]
  rw[fJ,hi,bU];exact e
 have a8:opA gY (aA (jc 6) aG) (owE c most n kd t os ip2 sp s8 s9 s10)= .ok (.lst (qs.map pD)):=by
  have hv:(aA (jc 6) aG) (owE c most n kd t os ip2 sp s8 s9 s10)= .ok [.lst ((ip2.map (ar os)).map pD)]:=by first|rfl|simp
  rw[ji,hv,aM,s1,gR]
 have a9:retS (bj (aA (aq (aD 2)) (aA (opA dG (aA (opA gY (aA (jc 6) aG)) aG)) aG))) (owE c most n kd t os ip2 sp s8 s9 s10)= .rt (owD n qs):=by
  have ha:aA (opA gY (aA (jc 6) aG)) aG (owE c most n kd t os ip2 sp s8 s9 s10)= .ok [.lst (qs.map pD)]:=by rw[bR,a8,aM,dU,aM]
  have hb:opA dG (aA (opA gY (aA (jc 6) aG)) aG) (owE c most n kd t os ip2 sp s8 s9 s10)= .ok (.tup (qs.map pD)):=by rw[ji,ha,aM,tE,gR]
  have hc:aq (aD 2) (owE c most n kd t os ip2 sp s8 s9 s10)= .ok (.int n):=by first|rfl|simp
  rw[jX,uU,bR,hc,aM,bR,hb,aM,dU,aM,aM,aM,if_pos (by simp),bU];rfl
 simp only[gk,bD,st,eX];rw[aO,a1,ao,aO,a2,ao,aO,a3,ao,aO,a4,ao,aO,a5,ao,aO,a6,ao,aO,a7,ao,aO,e2,ao,a9]
theorem Ow.rp{n:Int}{ps:List (Int×Int)}(h:Ow n ps):rpB n (.tup (ps.map pD))=true:=by
 have e:(ps.map pD).map aK7=ps:=by rw[zAu];exact(zCQ λ p _=>rfl).trans (zHO ps)
 unfold rpB;dsimp only;rw[e,h.ris,zEF,zAf];intro d hd;obtain⟨p,hp,rfl⟩:=zAg.mp hd;obtain⟨a,b,c,d,e⟩:=h.pr p hp;simp[pD,lM,a,b,c,d,e]
theorem aF1:∀ps:List (Int×Int),fu (ps.map pD)=true
 |[]=>rfl
 |p::ps=>by simp only[zAG,fu,aF1 ps,zEF];rfl
theorem aAf{n:Int}{ps:List (Int×Int)}(h:Ow n ps):ju [owD n ps]= .ok (.bl true):=by
 have e1:=aEp (d:=.int n) rfl;have e2:=rP (m:=n) (d:=.tup (ps.map pD)) (by simpa[pln]using aF1 ps) (by have:=h.len;simp[aMi];omega);rw[h.rp]at e2;have e3:aFe (.int n)=true:=by simp[aFe,h.n0,h.n1]
 rw[e3]at e1;simp[ju,gH,owD,bC,e1,e2]
theorem wH{n:Int}{ps:List (Int×Int)}(h:Ow n ps):eO [owD n ps]= .ok .non:=by
 have:=aAf h
 simp[eO,cj,bC,this]
theorem qP:∀ns:List Int,gh (ns.map .int)=0/\bW (ns.map .int)=true
 |[]=>⟨rfl,rfl⟩
 |n::ns=>by
  obtain⟨h1,h2⟩:=qP ns;simp[gh,qQ,bW,bJ,h1,h2]
theorem rA:∀ps:List (Int×Int),gh (ps.map pD)<=1/\bW (ps.map pD)=true
 |[]=>⟨by simp[gh],rfl⟩
 |p::ps=>by
  obtain⟨h1,h2⟩:=rA ps;simp[gh,qQ,bW,bJ,h2,pD,h1]
theorem aCR(neg:Bool)(y:Int)(ns:List Int):inR neg (.int y) (.lst (ns.map .int))= .ok (.bl (if neg then !decide (y∈ns)else decide (y∈ns))):=by
 obtain⟨h1,h2⟩:=qP ns;have e:inD (.int y) (ns.map .int)=decide (y∈ns):=by
  unfold inD;rw[zD6];simp[zEK,eqD]
 unfold inR;dsimp only;rw[h1,h2,e];rfl
theorem aJB(neg:Bool)(q:Int×Int)(ps:List (Int×Int)):inR neg (pD q) (.tup (ps.map pD))= .ok (.bl (if neg then !decide (q∈ps)else decide (q∈ps))):=by
 obtain⟨h1,h2⟩:=rA ps;have e:inD (pD q) (ps.map pD)=decide (q∈ps):=by
  unfold inD;rw[zD6];simp only[List.any_map,zEK,Function.comp,decide_eq_true_eq];constructor
  .rintro⟨p,hp,h⟩
   simp[pD,eqD,nG]at h
   have:p=q:=zG5 h.1 h.2
   exact this▸hp
  .intro h
   exact⟨q,h,by simp[pD,eqD,nG]⟩
 unfold inR;dsimp only;have h3:decide (gh (ps.map pD)<=60)=true:=by simp;omega
 have h4:bJ (pD q)=true:=rfl;rw[h2,e,h3,h4];rfl
theorem qx{Y:En}{fg:D->En->Rs En}{fe:En->Rs D}{g:D->D}:∀(ds:List D),(∀d∈ds,∃Y1,fg d Y= .ok Y1/\fe Y1= .ok (g d))->lcL Y fg dO fe ds= .ok (ds.map g)
 |[],_=>rfl
 |d::ds,h=>by
  obtain⟨Y1,e1,e2⟩:=h d zAK;have ih:=qx ds λ e he=>h e (zAM _ he)
  unfold lcL;rw[e1,aM,aFH,aM,if_pos rfl,e2,aM,ih,aM];rfl
theorem aCJ{d:D}(h:knd d=true):mX [d]= .ok (.bl (yS d)):=by
 simp[mX,iR,bC,aFl h,aAA h];cases d<;>rfl
theorem aC2{α:Type}(f:α->Bool)(l:List α):boolsOf (l.map λ x=>D.bl (f x))=some (l.map f):=by
 have:=xK (l.map f)
 rwa [zAu]at this
theorem vQ{α:Type}(f:α->Bool)(l:List α):qW (λ bs=>bs.all id) [.lst (l.map λ x=>D.bl (f x))]= .ok (.bl (l.all f)):=by
 unfold qW;dsimp only;rw[aC2];dsimp only;rw[zIq];rfl
theorem uh{α:Type}{Y:En}{fg:D->En->Rs En}{ft:En->Rs Bool}{fe:En->Rs D}{f g:α->D}{t:α->Bool}:∀(l:List α),(∀x∈l,∃Y1,fg (f x) Y= .ok Y1/\ft Y1= .ok (t x)/\fe Y1= .ok (g x))->lcL Y fg ft fe (l.map f)= .ok ((l.filter t).map g)
 |[],_=>rfl
 |x::l,h=>by
  obtain⟨Y1,e1,e2,e3⟩:=h x zAK;have ih:=uh l λ y hy=>h y (zAM _ hy)
  rw[zAG];unfold lcL;rw[e1,aM,e2,aM,e3,aM,ih,aM,zF5];cases t x<;>rfl
def intOf:D->Int
 | .int i=>i
 |_=>0
theorem aCK(z:α){ps:List α}(hlt:∀a b,ltD (f a) (f b)= .ok (.bl (lt a b)))(hl:ps.length<=100000):jC [.tup (ps.map f)]= .ok (.bl (lJ lt ps)):=by
 have st:bC 1 [.tup (ps.map f)]=[.sh (.tup (ps.map f))]:=rfl;have hr:=aBt (i:=1) (j:=(ps.length:Int)) (by decide) (by decide) (by omega) (by omega);have hc:lcD (cY xU (aA (cD (.int 1)) (aA (opA dR (aA (aD 0) aG)) aG))) [none,some 0] (gnm 0) dO lrE [.sh (.tup (ps.map f))]= .ok (.lst ((bZ 1 (ps.length:Int)).map λ k=>.bl (lt (ps.getD ((intOf k).toNat-1) z) (ps.getD (intOf k).toNat z)))):=by
  have hi:cY xU (aA (cD (.int 1)) (aA (opA dR (aA (aD 0) aG)) aG)) (shE [.sh (.tup (ps.map f))])= .ok (bZ 1 (ps.length:Int)):=by simp[shE,xP,hr]
  have hm:=qx (Y:=stE [none,some 0] (shE [.sh (.tup (ps.map f))])) (fg:=gnm 0) (fe:=lrE) (g:=λ k=>.bl (lt (ps.getD ((intOf k).toNat-1) z) (ps.getD (intOf k).toNat z))) (bZ 1 (ps.length:Int)) λ d hd=>⟨_,rfl,by
   obtain⟨k,rfl,k0,k1⟩:=jf.mp hd;show lrE [.sh (.int k),.sh (.tup (ps.map f))]= .ok (.bl (lt (ps.getD (k.toNat-1) z) (ps.getD k.toNat z)));have l1:k.toNat-1<ps.length:=by omega
   have l2:k.toNat<ps.length:=by omega
   have e1:atD (ps.map f) (k-1)= .ok (f (ps.getD (k.toNat-1) z)):=by
    rw[show k-1=((k.toNat-1:Nat):Int)by omega];exact gw (by rw[zAT,zAD l1,zAZ,zAD l1];rfl)
   have e2:atD (ps.map f) k= .ok (f (ps.getD k.toNat z)):=by
    have:=gw (l:=ps.map f) (k:=k.toNat) (d:=f (ps.getD k.toNat z)) (by rw[zAT,zAD l2,zAZ,zAD l2];rfl)
    rwa [zBz (by omega)]at this
   unfold lrE;have v1:op2 ixD (aD 1) (op2 pJ (aD 0) (cD (.int 1))) [.sh (.int k),.sh (.tup (ps.map f))]= .ok (f (ps.getD (k.toNat-1) z)):=by
    rw[dH,qb];show okD (atD (ps.map f) (k-1))=_;rw[e1];rfl
   have v2:op2 ixD (aD 1) (aD 0) [.sh (.int k),.sh (.tup (ps.map f))]= .ok (f (ps.getD k.toNat z)):=by
    rw[dH,qb,qb];show okD (atD (ps.map f) k)=_;rw[e2];rfl
   rw[dH,v1,aM,v2,aM,hlt,gR]⟩
  unfold lcD;rw[hi,aM,if_pos (by rw[fP,szl];omega),hm]
 have ha:opA (qW λ bs=>bs.all id) (aA (lcD (cY xU (aA (cD (.int 1)) (aA (opA dR (aA (aD 0) aG)) aG))) [none,some 0] (gnm 0) dO lrE) aG) [.sh (.tup (ps.map f))]= .ok (.bl (lJ lt ps)):=by
  rw[ji,bR,hc,aM,dU,aM,aM,vQ,gR];refine congrArg (λ b=>Rs.ok (D.bl b)) ?_;rw[zD6,pX,zAf];constructor
  .intro h i p q e1 e2
   have k2:=(zAI.mp e2).1
   have:=h (.int ((i+1:Nat):Int)) (jf.mpr ⟨_,rfl,by omega,by omega⟩)
   have z1:lt (ps.getD (((i+1:Nat):Int).toNat-1) z) (ps.getD ((i+1:Nat):Int).toNat z)=true:=this;rw[zB3,Nat.add_sub_cancel,zAZ,zAZ,e1,e2]at z1;exact z1
  .intro h d hd
   obtain⟨k,rfl,k0,k1⟩:=jf.mp hd;have l1:k.toNat-1<ps.length:=by omega
   have l2:k.toNat-1+1<ps.length:=by omega
   show lt (ps.getD (k.toNat-1) z) (ps.getD k.toNat z)=true;have l3:k.toNat<ps.length:=by omega
   have:=h (k.toNat-1) ps[k.toNat-1] ps[k.toNat] (zAD l1) (by rw[show k.toNat-1+1=k.toNat by omega];exact zAD l3)
   rw[zAZ,zAZ,zAD l1,zAD l3];exact this
 simp only[jC,gD,bD,st];rw[jX,ha,bU]
theorem zr(h1:fi (shE Y)= .ok ds)(h2:ds.length<16777216)(h3:lcL (stE js (shE Y)) fg ft fe ds= .ok out):lcD fi js fg ft fe Y= .ok (.lst out):=by
 unfold lcD;rw[h1,aM,if_pos (by rw[szl];exact h2),h3]
theorem aIk{α:Type}{f g:α->D}(l:List α)(h:∀x∈l,∃Y1,fg (f x) Y= .ok Y1/\fe Y1= .ok (g x)):lcL Y fg dO fe (l.map f)= .ok (l.map g):=by
 have:=uh (Y:=Y) (fg:=fg) (ft:=dO) (fe:=fe) (f:=f) (g:=g) (t:=λ _=>true) l λ x hx=>by
  obtain⟨Y1,h1,h2⟩:=h x hx;exact⟨Y1,h1,rfl,h2⟩
 rwa [List.filter_eq_self.mpr λ _ _=>rfl]at this
theorem aOU{α:Type}{f:α->Bool}{l:List α}(h:fe Y= .ok (.lst (l.map λ x=>.bl (f x)))):opA (qW λ bs=>bs.all id) (aA fe aG) Y= .ok (.bl (l.all f)):=by
 rw[ji,bR,h,aM,dU,aM,aM,vQ,gR]
theorem aDX(neg:Bool)(y:Int)(ns:List Int):inR neg (.int y) (.tup (ns.map .int))= .ok (.bl (if neg then !decide (y∈ns)else decide (y∈ns))):=aCR neg y ns
theorem yj(nd:ps.Nodup)(h:ps.length<64):∃qs:List (Int×Int),lB [.lst (ps.map pD)]= .ok (.lst (qs.map pD))/\qs.Perm ps/\rG qs=true:=by
 obtain⟨qs,q1,q2,q3⟩:=rY nd;refine⟨qs,?_,q2,q3⟩;unfold lB;dsimp only;rw[vV];dsimp only;rw[if_pos (by rw[zAF];exact h),q1,zAu];exact congrArg (λ l=>Rs.ok (D.lst l)) (zCQ λ p _=>aFL p)
abbrev orE(c most:Int)(n kd:Nat)(t:Int)(os:List Int)(ip:List (Nat×Nat))(sp:Int)(s8 s9:Slot):En:=
 [.sh (.int c),.sh (.int most),.sh (.int n),.sh (.int kd),.nw (.int t),.sh (.lst (os.map .int)),.ow (.lst ((ip.map (ar os)).map pD)),.sh (.int sp),s8,s9]
structure Jps(n j i:Nat)(ip:List (Nat×Nat)):Prop where
 nd:ip.Nodup
 ok:∀q∈ip,q.1<q.2/\q.2<n/\(q.2<j\/(q.2=j/\q.1<i))
theorem aI0{os:List Int}(hn:n<=60)(hj:j<n)(ho:aJl n os){sp:Int}(h0:0<=sp)(h1:sp<=2+60*j)(hip:Jps n j 0 ip):
  ∃ip' sp' s9',forL (gnm 9) aI1 (bZ 0 (j:Int)) (orE c most n kd t os ip sp (.sh (.int j)) s9)= .nx (orE c most n kd t os ip' sp' (.sh (.int j)) s9')/\0<=sp'/\sp'<=2+60*(j+1)/\Jps n (j+1) 0 ip':=by
 have hlen:(bZ 0 (j:Int)).length=j:=by rw[fP];omega
 obtain⟨Y',e,ip',sp',s9',rfl,q0,q1,q2⟩:=fX (a:=gnm 9) (u:=aI1) (bZ 0 (j:Int))
  (λ i Y=>∃ip sp s9,Y=orE c most n kd t os ip sp (.sh (.int j)) s9/\0<=sp/\sp<=2+60*j+i/\Jps n j i ip) (orE c most n kd t os ip sp (.sh (.int j)) s9) ⟨ip,sp,s9,rfl,h0,by omega,hip⟩ (by
   rintro i d Y hd ⟨ip,sp,s9,rfl,p0,p1,p2⟩;obtain⟨rfl,hlt⟩:=ik hd;have hij:i<j:=by omega
   obtain⟨h,eh,hh0,hh1⟩:=vG (c:=c) (k:=sp+1) (b:=8) (by omega) (by omega) (by decide) (by decide);have hzl:=yO hn p2.nd λ q hq=>⟨by have:=p2.ok q hq;omega,(p2.ok q hq).2.1⟩
   have hi':i<os.length:=by rw[ho.len];omega
   have hj':j<os.length:=by rw[ho.len];omega
   have st1:∃ip1,orB (orE c most n kd t os ip (sp+1) (.sh (.int j)) (.sh (.int i)))= .nx (orE c most n kd t os ip1 (sp+1) (.sh (.int j)) (.sh (.int i)))/\(ip1=ip\/ip1=ip++[(i,j)]):=by
    obtain⟨b,hc⟩:∃b,(orT (tsb (op2 ltD (aU aV (aA (aD 0) (aA (aD 7) (aA (cD (.int 8)) aG)))) (fL 4))) (uK (tsb (op2 (eqR false) (aD 3) (cD (.int 5)))) (tsb (op2 (inR false) (aD 8) (bj (aA (op2 bG (op2 iW (cD (.int 2)) (aD 9)) (cD (.int 1))) (aA (op2 bG (op2 iW (cD (.int 2)) (aD 9)) (cD (.int 2))) aG))))))) (orE c most n kd t os ip (sp+1) (.sh (.int j)) (.sh (.int i)))= .ok b:=by
     have eA:tsb (op2 ltD (aU aV (aA (aD 0) (aA (aD 7) (aA (cD (.int 8)) aG)))) (fL 4)) (orE c most n kd t os ip (sp+1) (.sh (.int j)) (.sh (.int i)))= .ok (decide (h<t)):=by
      have e0:aA (aD 0) (aA (aD 7) (aA (cD (.int 8)) aG)) (orE c most n kd t os ip (sp+1) (.sh (.int j)) (.sh (.int i)))= .ok [.int c,.int (sp+1),.int 8]:=rfl;rw[mZ,dH,qT,e0,aM,eh];rfl
     have eB:tsb (op2 (eqR false) (aD 3) (cD (.int 5))) (orE c most n kd t os ip (sp+1) (.sh (.int j)) (.sh (.int i)))= .ok ((kd:Int)==5):=rfl;have eC:tsb (op2 (inR false) (aD 8) (bj (aA (op2 bG (op2 iW (cD (.int 2)) (aD 9)) (cD (.int 1))) (aA (op2 bG (op2 iW (cD (.int 2)) (aD 9)) (cD (.int 2))) aG)))) (orE c most n kd t os ip (sp+1) (.sh (.int j)) (.sh (.int i)))= .ok (decide ((j:Int)∈[2*(i:Int)+1,2*(i:Int)+2])):=by
      have hm:iW (.int 2) (.int i)= .ok (.int (2*(i:Int))):=zW (by decide) (by decide);have hi:=aDX false (j:Int) [2*(i:Int)+1,2*(i:Int)+2];simp only[zAG,zDg]at hi;have ht:bj (aA (op2 bG (op2 iW (cD (.int 2)) (aD 9)) (cD (.int 1))) (aA (op2 bG (op2 iW (cD (.int 2)) (aD 9)) (cD (.int 2))) aG)) (orE c most n kd t os ip (sp+1) (.sh (.int j)) (.sh (.int i)))= .ok (.tup [.int (2*(i:Int)+1),.int (2*(i:Int)+2)]):=by simp[hm]
      rw[mZ,dH,ht]
      show(((Rs.ok (D.int j)).bd λ x=>(Rs.ok (D.tup [.int (2*(i:Int)+1),.int (2*(i:Int)+2)])).bd λ y=>okD (inR false x y)).bd blD)=_
      rw[aM,aM,hi];rfl
     rw[vo,eA,vP,eB,eC];cases decide (h<t)<;>cases (kd:Int)==5<;>exact⟨_,rfl⟩
    cases b with
    |true=>
     refine⟨_,?_,.inr rfl⟩;simp only[orB,fW,hc,bU,if_pos];have hz:ip.length<16777216:=by omega
     simp[jt,aBB hi',aBB hj',hz,ar,pD]
    |false=>
     refine⟨_,?_,.inl rfl⟩;simp only[orB,fW,hc,bU];rfl
   obtain⟨ip1,e1,c1⟩:=st1;refine⟨_,?_,ip1,sp+1,.sh (.int i),rfl,by omega,by omega,?_⟩
   .have s7:cg 7 (op2 bG (aD 7) (cD (.int 1))) (orE c most n kd t os ip sp (.sh (.int j)) (.sh (.int i)))= .nx (orE c most n kd t os ip (sp+1) (.sh (.int j)) (.sh (.int i))):=by first|rfl|simp
    rw[zE7];show aI1 (orE c most n kd t os ip sp (.sh (.int j)) (.sh (.int i)))=_;unfold aI1;rw[aO,s7,ao,e1]
   .have hold:∀q∈ip,q.1<q.2/\q.2<n/\(q.2<j\/(q.2=j/\q.1<i+1)):=λ q hq=>by have:=p2.ok q hq;omega
    have n1:(i,j)∉ip:=λ hm=>by have:=p2.ok _ hm;simp only at this;omega
    rcases c1 with rfl|rfl
    .exact⟨p2.nd,hold⟩
    .refine⟨zBB.mpr ⟨p2.nd,by simp,λ x hx y hy z=>?_⟩,λ q hq=>?_⟩
     .rw[zAS]at hy;subst hy;subst z;exact n1 hx
     .rcases zA2.mp hq with z|z
      .exact hold q z
      .rw[zAS.mp z];exact⟨hij,hj,.inr ⟨rfl,zBa i⟩⟩)
 rw[hlen]at q1 q2;refine⟨ip',sp',s9',e,q0,by omega,q2.nd,λ q hq=>?_⟩
 have:=q2.ok q hq
 omega
def Up(n:Nat)(ps:List (Int×Int)):Prop:=∃os:List Int,aJl n os/\∀p∈ps,∃q:Nat×Nat,q.1<q.2/\q.2<n/\p=ar os q
theorem aM3{kd:Nat}(h:kd<6):∃t:Int,atD ([1,2,3,5,8,0].map D.int) (kd:Int)= .ok (.int t):=⟨_,aBB (os:=[1,2,3,5,8,0]) (k:=kd) (by simpa using h)⟩
theorem zu{most:Nat}(h1:most<=7):∃(n:Nat) (ps:List (Int×Int)),gj [.int c,.int most]= .ok (owD n ps)/\Ow n ps/\n<=most/\ps.length<64/\Up n ps:=by
 obtain⟨n,en,hn⟩:=gq (c:=c) (k:=0) (b:=(most:Int)+1) (by decide) (by decide) (by omega) (by omega);obtain⟨kd,ek,hk⟩:=gq (c:=c) (k:=1) (b:=6) (by decide) (by decide) (by decide) (by decide);have hn8:n<=7:=by omega
 obtain⟨t,et⟩:=aM3 (kd:=kd) (by omega);obtain⟨os,eo,ho⟩:=wV (c:=c) (n:=n) (by omega);have hr1:=gn (j:=(n:Int)) (by omega) (by omega);have hlen:(bZ 0 (n:Int)).length=n:=by rw[fP];omega
 obtain⟨Y',e,ip,sp,s8,s9,rfl,_,_,hip⟩:=fX (a:=gnm 8) (u:=aF7) (bZ 0 (n:Int))
  (λ j Y=>∃ip sp s8 s9,Y=orE c most n kd t os ip sp s8 s9/\0<=sp/\sp<=2+60*j/\Jps n j 0 ip) (orE c most n kd t os [] 2 .no .no) ⟨[],2,.no,.no,rfl,by omega,by omega,by simp,λ q hq=>by simp at hq⟩ (by
   rintro j d Y hd ⟨ip,sp,s8,s9,rfl,p0,p1,p2⟩;obtain⟨rfl,hlt⟩:=ik hd;have hr2:=gn (j:=(j:Int)) (by omega) (by omega);obtain⟨ip',sp',s9',e,q0,q1,q2⟩:=aI0 (c:=c) (most:=most) (t:=t) (n:=n) (kd:=kd) (j:=j) (os:=os) (by omega) (by omega) ho (s9:=s9) p0 p1 p2;refine⟨_,?_,ip',sp',.sh (.int j),s9',rfl,q0,by omega,q2⟩;rw[zE7,lU,jk,show(orE c most n kd t os ip sp s8 s9).set 8 (.sh (.int j))=orE c most n kd t os ip sp (.sh (.int j)) s9 from rfl];unfold aF7;have hi:(cY iV (aA (aD 8) aG)) (orE c most n kd t os ip sp (.sh (.int j)) s9)= .ok (bZ 0 (j:Int)):=by simp[hr2]
   rw[fJ,hi,bU,e])
 rw[hlen]at hip;have gi:∀k l,k<n->l<n->os.getD k 0=os.getD l 0->k=l:=λ k l hk hl z=>by
  have k1:k<os.length:=by rw[ho.len];exact hk
  have k2:l<os.length:=by rw[ho.len];exact hl
  have:os[k]? =os[l]?:=by
   rw[zAD k1,zAD k2];simpa[k1,k2]using z
  exact(zCc k1 ho.nd).mp this
 have hin:∀p∈ip.map (ar os),0<=p.1/\p.1<n/\0<=p.2/\p.2<n/\p.1≠p.2:=λ p hp=>by
  obtain⟨q,hq,rfl⟩:=zAg.mp hp;obtain⟨a1,a2,_⟩:=hip.ok q hq;have g:∀k,k<n->os.getD k 0∈os:=λ k hk=>by
   have:k<os.length:=by rw[ho.len];exact hk
   simp[this]
  have l1:=ho.lo _ (g q.1 (by omega));have l2:=ho.lo _ (g q.2 a2);refine⟨l1.1,l1.2,l2.1,l2.2,λ z=>?_⟩
  have:=gi _ _ (by omega) a2 z
  omega
 have hnd:(ip.map (ar os)).Nodup:=qp hip.nd λ x hx y hy e=>by
  have x1:=hip.ok x hx;have y1:=hip.ok y hy;have e1:os.getD x.1 0=os.getD y.1 0:=congrArg zG6 e;have e2:os.getD x.2 0=os.getD y.2 0:=congrArg zEG e;exact zG5 (gi _ _ (by omega) (by omega) e1) (gi _ _ (by omega) (by omega) e2)
 have hl:ip.length<64:=by
  have:=sub_len (l':=(zAb 7).flatMap λ a=>(zAb 7).map λ b=>(a,b)) hip.nd λ q hq=>by
   rw[zDX]
   have:=hip.ok q hq
   exact⟨q.1,by simp;omega,zAg.mpr ⟨q.2,by simp;omega,rfl⟩⟩
  have h49:((zAb 7).flatMap λ a=>(zAb 7).map λ b=>(a,b)).length=49:=by decide
  omega
 obtain⟨qs,s1,s2,s3⟩:=yj hnd (by rw[zAF];exact hl);have hl2:qs.length<64:=by rw[s2.length_eq,zAF];exact hl
 refine⟨n,qs,?_,⟨by omega,by omega,by omega,λ p hp=>hin p (s2.mem_iff.mp hp),s3⟩,by omega,hl2,os,ho,λ p hp=>?_⟩
 .have st:bC 10 [.int c,.int most]=[.sh (.int c),.sh (.int most),.no,.no,.no,.no,.no,.no,.no,.no]:=rfl
  have et':atD [D.int 1,D.int 2,D.int 3,D.int 5,D.int 8,D.int 0] (kd:Int)= .ok (.int t):=et;have a1:cg 2 (aU aV (aA (aD 0) (aA (cD (.int 0)) (aA (op2 bG (aD 1) (cD (.int 1))) aG)))) [.sh (.int c),.sh (.int most),.no,.no,.no,.no,.no,.no,.no,.no]= .nx [.sh (.int c),.sh (.int most),.sh (.int n),.no,.no,.no,.no,.no,.no,.no]:=by simp[en]
  have a2:cg 3 (aU aV (aA (aD 0) (aA (cD (.int 1)) (aA (cD (.int 6)) aG)))) [.sh (.int c),.sh (.int most),.sh (.int n),.no,.no,.no,.no,.no,.no,.no]= .nx [.sh (.int c),.sh (.int most),.sh (.int n),.sh (.int kd),.no,.no,.no,.no,.no,.no]:=by simp[ek]
  have a3:mG 4 (op2 ixD (dZ (aA (cD (.int 1)) (aA (cD (.int 2)) (aA (cD (.int 3)) (aA (cD (.int 5)) (aA (cD (.int 8)) (aA (cD (.int 0)) aG))))))) (aD 3)) [.sh (.int c),.sh (.int most),.sh (.int n),.sh (.int kd),.no,.no,.no,.no,.no,.no]= .nx [.sh (.int c),.sh (.int most),.sh (.int n),.sh (.int kd),.nw (.int t),.no,.no,.no,.no,.no]:=by simp[et']
  have a4:cg 5 (aU iM (aA (aD 0) (aA (aD 2) aG))) [.sh (.int c),.sh (.int most),.sh (.int n),.sh (.int kd),.nw (.int t),.no,.no,.no,.no,.no]= .nx [.sh (.int c),.sh (.int most),.sh (.int n),.sh (.int kd),.nw (.int t),.sh (.lst (os.map .int)),.no,.no,.no,.no]:=by simp[eo]
  have a5:m7 6 (dZ aG) [.sh (.int c),.sh (.int most),.sh (.int n),.sh (.int kd),.nw (.int t),.sh (.lst (os.map .int)),.no,.no,.no,.no]= .nx [.sh (.int c),.sh (.int most),.sh (.int n),.sh (.int kd),.nw (.int t),.sh (.lst (os.map .int)),.ow (.lst []),.no,.no,.no]:=by first|rfl|simp
  have a6:cg 7 (cD (.int 2)) [.sh (.int c),.sh (.int most),.sh (.int n),.sh (.int kd),.nw (.int t),.sh (.lst (os.map .int)),.ow (.lst []),.no,.no,.no]= .nx (orE c most n kd t os [] 2 .no .no):=by first|rfl|simp
  have a7:iY (cY iV (aA (aD 2) aG)) (gnm 8) aF7 (orE c most n kd t os [] 2 .no .no)= .nx (orE c most n kd t os ip sp s8 s9):=by
   have hi:(cY iV (aA (aD 2) aG)) (orE c most n kd t os [] 2 .no .no)= .ok (bZ 0 (n:Int)):=by simp[hr1]
   rw[fJ,hi,bU];exact e
  have a8:opA lB (aA (jc 6) aG) (orE c most n kd t os ip sp s8 s9)= .ok (.lst (qs.map pD)):=by
   have hv:(aA (jc 6) aG) (orE c most n kd t os ip sp s8 s9)= .ok [.lst ((ip.map (ar os)).map pD)]:=by first|rfl|simp
   rw[ji,hv,aM,s1,gR]
  have a9:retS (bj (aA (aq (aD 2)) (aA (opA dG (aA (opA lB (aA (jc 6) aG)) aG)) aG))) (orE c most n kd t os ip sp s8 s9)= .rt (owD n qs):=by
   have ha:aA (opA lB (aA (jc 6) aG)) aG (orE c most n kd t os ip sp s8 s9)= .ok [.lst (qs.map pD)]:=by rw[bR,a8,aM,dU,aM]
   have hb:opA dG (aA (opA lB (aA (jc 6) aG)) aG) (orE c most n kd t os ip sp s8 s9)= .ok (.tup (qs.map pD)):=by rw[ji,ha,aM,tE,gR]
   have hc:aq (aD 2) (orE c most n kd t os ip sp s8 s9)= .ok (.int n):=by first|rfl|simp
   rw[jX,uU,bR,hc,aM,bR,hb,aM,dU,aM,aM,aM,if_pos (by simp),bU];rfl
  simp only[gj,bD,st,eV];rw[aO,a1,ao,aO,a2,ao,aO,a3,ao,aO,a4,ao,aO,a5,ao,aO,a6,ao,aO,a7,ao,a9]
 .obtain⟨q,hq,rfl⟩:=zAg.mp (s2.mem_iff.mp hp)
  obtain⟨a1,a2,_⟩:=hip.ok q hq;exact⟨q,a1,a2,rfl⟩
def gW(ll:List (List D))(p:Int×Int):List (List D):=ll.set p.1.toNat (ll.getD p.1.toNat []++[.int p.2])
theorem aDN{w:Slot}:∀(ps:List (Int×Int)) (ll:List (List D)) (s2 s3:Slot),(∀p∈ps,0<=p.1/\p.1<ll.length)->(∀l∈ll,l.length+ps.length<=10000)->
  ∃s2' s3',forL (rN 2 (dN (gnm 2) (dN (gnm 3) uF))) (qU 1 (aD 2) (aq (aD 3))) (ps.map pD) [w,.o2 ll,s2,s3]= .nx [w,.o2 (ps.foldl gW ll),s2',s3']
 |[],ll,s2,s3,_,_=>⟨s2,s3,rfl⟩
 |p::ps,ll,s2,s3,h,hl=>by
  obtain⟨h0,h1⟩:=h p zAK;have hk:p.1.toNat<ll.length:=by omega
  have hin:ll.getD p.1.toNat []∈ll:=by simp[hk]
  have hz:=hl _ hin;obtain⟨s2',s3',e⟩:=aDN (w:=w) ps (gW ll p) (.sh (.int p.1)) (.sh (.int p.2)) (λ q hq=>by unfold gW;rw[zB8];exact h q (zAM _ hq)) (λ l hm=>by
   unfold gW at hm;rcases List.mem_or_eq_of_mem_set hm with z|z
   .have:=hl l z
    simp at this;omega
   .subst z
    simp at hz ⊢;omega)
  refine⟨s2',s3',?_⟩;rw[zAG,nT,zBy];have ha:at2 ll (.int p.1)=some (p.1.toNat,ll.getD p.1.toNat []):=by
   have hx:ixN ll.length p.1=some p.1.toNat:=by
    unfold ixN;rw[if_pos (by omega),if_pos (by omega)]
   simp only[at2,hx,zFN];rw[zAD hk];simp[hk]
  have hb:okE (rN 2 (dN (gnm 2) (dN (gnm 3) uF)) (pD p) [w,.o2 ll,s2,s3]) (λ Y1=>(qU 1 (aD 2) (aq (aD 3)) Y1).tn (forL (rN 2 (dN (gnm 2) (dN (gnm 3) uF))) (qU 1 (aD 2) (aq (aD 3))) (ps.map pD)))=
    (qU 1 (aD 2) (aq (aD 3)) [w,.o2 ll,.sh (.int p.1),.sh (.int p.2)]).tn (forL (rN 2 (dN (gnm 2) (dN (gnm 3) uF))) (qU 1 (aD 2) (aq (aD 3))) (ps.map pD)):=by
   simp[pD]
  have hc:qU 1 (aD 2) (aq (aD 3)) [w,.o2 ll,.sh (.int p.1),.sh (.int p.2)]= .nx [w,.o2 (gW ll p),.sh (.int p.1),.sh (.int p.2)]:=by
   have hz2:(ll.getD p.1.toNat []).length<16777216:=by simp at hz ⊢;omega
   unfold qU;simp only[zBu,zCP];simp[ha];rw[if_pos (by simpa using hz2)];simp[gW]
  rw[hb,hc,aLy];exact e
theorem wC:∀(ps:List (Int×Int)) (ll:List (List D)),(ps.foldl gW ll).length=ll.length
 |[],_=>rfl
 |p::ps,ll=>by rw[zBy,wC ps];unfold gW;rw[zB8]
def zq(ps:List (Int×Int))(i:Int):List Int:=(ps.filter λ p=>p.1==i).map (·.2)
theorem aBM:∀(ps:List (Int×Int)) (ll:List (List D)) (i:Nat),(∀p∈ps,0<=p.1/\p.1<ll.length)->i<ll.length->(ps.foldl gW ll).getD i []=ll.getD i []++(zq ps i).map .int
 |[],ll,i,_,_=>by simp[zq]
 |p::ps,ll,i,h,hi=>by
  obtain⟨h0,h1⟩:=h p zAK;rw[zBy,aBM ps (gW ll p) i (λ q hq=>by unfold gW;rw[zB8];exact h q (zAM _ hq)) (by unfold gW;rw[zB8];exact hi)];unfold gW zq;by_cases c:p.1=i
  .have hk:p.1.toNat=i:=by omega
   rw[hk,List.filter_cons_of_pos (by simpa using c)];simp[hi]
  .have hk:p.1.toNat≠i:=by omega
   rw[List.filter_cons_of_neg (by simpa using c)];simp[zBZ hk]
structure aP2(n:Int)(ps:List (Int×Int))(ll:List (List D)):Prop where
 len:ll.length=n.toNat
 item:∀i:Int,0<=i->i<n->atD (ll.map .lst) i= .ok (.lst ((zq ps i).map .int))
theorem aFE{n:Int}{ps:List (Int×Int)}(h:Ow n ps):∃ll,rC [owD n ps]= .ok (.lst (ll.map .lst))/\aP2 n ps ll:=by
 have hr:=gn (j:=n) (by have:=h.n0;omega) (by have:=h.n1;omega);have hlen:(bZ 0 n).length=n.toNat:=by rw[fP];omega
 have hn1:=h.n1;have hps:=h.len;have hin:∀p∈ps,0<=p.1/\p.1<(zA6 n.toNat ([]:List D)).length:=λ p hp=>by
  obtain⟨a,b,_⟩:=h.pr p hp;rw[zC6];omega
 obtain⟨s2,s3,e⟩:=aDN (w:=.sh (owD n ps)) ps (zA6 n.toNat []) .no .no hin (λ l hl=>by
  rw[(List.mem_replicate.mp hl).2];simp;omega)
 refine⟨ps.foldl gW (zA6 n.toNat []),?_,by rw[wC,zC6],λ i h0 h1=>?_⟩
 .have hz:n.toNat<16777216:=by omega
  have a1:llS 1 (cY iV (aA (op2 ixD (aD 0) (cD (.int 0))) aG)) [none] (gnm 0) [.sh (owD n ps),.no,.no,.no]= .nx [.sh (owD n ps),.o2 (zA6 n.toNat []),.no,.no]:=by
   unfold llS;simp[shE,xP,owD,hr,hlen,hz]
  have a2:iY (dI (op2 ixD (aD 0) (cD (.int 1)))) (rN 2 (dN (gnm 2) (dN (gnm 3) uF))) (qU 1 (aD 2) (aq (aD 3))) [.sh (owD n ps),.o2 (zA6 n.toNat []),.no,.no]= .nx [.sh (owD n ps),.o2 (ps.foldl gW (zA6 n.toNat [])),s2,s3]:=by
   have hi:dI (op2 ixD (aD 0) (cD (.int 1))) [.sh (owD n ps),.o2 (zA6 n.toNat []),.no,.no]= .ok (ps.map pD):=by simp[owD]
   rw[fJ,hi,bU];exact e
  have a3:retS (xN 1) [.sh (owD n ps),.o2 (ps.foldl gW (zA6 n.toNat [])),s2,s3]= .rt (.lst ((ps.foldl gW (zA6 n.toNat [])).map .lst)):=by simp
  have st:bC 4 [owD n ps]=[.sh (owD n ps),.no,.no,.no]:=rfl;simp only[rC,kW,bD,st];rw[aO,a1,ao,aO,a2,ao,a3]
 .have hk:i.toNat<(zA6 n.toNat ([]:List D)).length:=by rw[zC6];omega
  have hg:=aBM ps (zA6 n.toNat []) i.toNat hin hk;have hk2:i.toNat<(ps.foldl gW (zA6 n.toNat [])).length:=by rw[wC];exact hk
  have hi:((i.toNat:Nat):Int)=i:=zBz h0;rw[hi]at hg;rw[<-hi];refine gw ?_;rw[hi,zAT,zAD hk2]
  have:(ps.foldl gW (zA6 n.toNat []))[i.toNat]=(zq ps i).map .int:=by
   have e1:(ps.foldl gW (zA6 n.toNat [])).getD i.toNat []=(ps.foldl gW (zA6 n.toNat []))[i.toNat]:=by simp[hk2]
   rw[<-e1,hg];have e2:(zA6 n.toNat ([]:List D)).getD i.toNat []=[]:=by
    rw[zAZ,zDA];split<;>rfl
   rw[e2,zFl]
  rw[this];rfl
theorem aLB{ps:List (Int×Int)}{a b:Int}:b∈zq ps a↔(a,b)∈ps:=by
 unfold zq;simp only[zAg,zBD];constructor
 .rintro⟨p,⟨h1,h2⟩,rfl⟩
  have:p.1=a:=by simpa using h2
  rw[<-this];exact h1
 .intro h
  exact⟨(a,b),⟨h,by simp⟩,rfl⟩
def eF(ps:List (Int×Int)):List Int->Bool
 |a::b::r=>decide ((a,b)∈ps)&&eF ps (b::r)
 |_=>true
theorem kY{ps:List (Int×Int)}:∀{ws:List Int},eF ps ws=true↔∀(i:Nat) (a b:Int),ws[i]? =some a->ws[i+1]? =some b->(a,b)∈ps
 |[]=>by simp[eF]
 |[x]=>by
  simp only[eF,true_iff];intro i p q _ h2;simp at h2
 |x::y::r=>by
  have ih:=kY (ps:=ps) (ws:=y::r);unfold eF;rw[zAN,ih,decide_eq_true_eq];constructor
  .rintro⟨h1,h2⟩ i p q e1 e2
   cases i with
   |zero=>simp at e1 e2;subst e1 e2;exact h1
   |succ i=>exact h2 i p q (by simpa using e1) (by simpa using e2)
  .intro h
   exact⟨h 0 x y rfl rfl,λ i p q e1 e2=>h (i+1) p q (by simpa using e1) (by simpa using e2)⟩
def jK(n:Int)(ps:List (Int×Int)):D->Bool
 | .tup ts=>!ts.isEmpty&&ts.all (bu n)&&decide ((ddI (ts.map intOf)).length=ts.length)&&eF ps (ts.map intOf)
 |_=>false
theorem mL{n:Int}:∀{ts:List D},ts.all (bu n)=true->(ts.map intOf).map D.int=ts/\∀x∈ts.map intOf,0<=x/\x<n
 |[],_=>⟨rfl,λ x hx=>by simp at hx⟩
 |t::ts,h=>by
  rw[zEy,zAN]at h;obtain⟨i,rfl,h0,h1⟩:=vh h.1;obtain⟨e,q⟩:=mL h.2;refine⟨by simp only[zAG];rw[e];rfl,λ x hx=>?_⟩;rw[zAG]at hx;rcases zAL.mp hx with z|z
  .subst z;exact⟨h0,h1⟩
  .exact q x z
@[simp] theorem aCk{ns:List Int}(h:ns.length<4000):uY [.tup (ns.map .int)]= .ok (.set (ddI ns)):=by
 unfold uY;dsimp only;rw[iH];dsimp only;rw[if_pos h]
@[simp] theorem lenX_set{l:List Int}:vz [.set l]= .ok (.int l.length):=aQ rfl
theorem aGA{ts:List D}{ws:List Int}(e:ws.map D.int=ts){k:Nat}{w:Int}(h:ws[k]? =some w):atD ts (k:Int)= .ok (.int w):=by
 subst e;exact gw (by rw[zAT,h];rfl)
def aDx:D->Bool
 | .tup l=>decide (l.length<4000)
 |_=>true
theorem aAg{n:Int}{ps:List (Int×Int)}{ll:List (List D)}{d:D}(hn:0<=n)(N:aP2 n ps ll)(hp:pln d=true)(hs:aDx d=true):cB [.lst (ll.map .lst),d]= .ok (.bl (jK n ps d)):=by
 cases d with
 |tup ts=>
  have hp':fu ts=true:=by simpa[pln]using hp
  have hl:ts.length<4000:=by simpa[aDx]using hs
  have st:bC 4 [.lst (ll.map .lst),.tup ts]=[.sh (.lst (ll.map .lst)),.sh (.tup ts),.no,.no]:=rfl;have hll:((ll.map D.lst).length:Int)=n:=by rw[zAF,N.len];omega
  cases ts with
  |nil=>
   simp only[cB,bf,bD,st];simp[jK]
  |cons t0 tr=>
   generalize hts:t0::tr=ts at*;have hne:ts≠[]:=by rw[<-hts];simp
   have b1:ifS (orT (jJ (tst (op1 (jO "tuple") (aD 1)))) (tsb (op2 (eqR false) (opA dR (aA (aD 1) aG)) (cD (.int 0))))) (retS (cD (.bl false))) Ou.nx [.sh (.lst (ll.map .lst)),.sh (.tup ts),.no,.no]= .nx [.sh (.lst (ll.map .lst)),.sh (.tup ts),.no,.no]:=by
    simp[hne]
   have L:=kE (a:=gnm 2) (u:=aEw) (r:=.bl false) ts (λ i=>match ts[i]? with|some t=>bu n t|none=>true) (λ Y=>∃s,Y=[.sh (.lst (ll.map .lst)),.sh (.tup ts),s,.no]) [.sh (.lst (ll.map .lst)),.sh (.tup ts),.no,.no] ⟨_,rfl⟩ (by
    rintro i d Y hd ⟨s,rfl⟩;have e:=qD (m:=n) (jY (fQ hp' (zAw hd)));simp only[hd];have hc:(jJ (tst (aU eG (aA (opA dR (aA (aD 0) aG)) (aA (aD 2) aG))))) [.sh (.lst (ll.map .lst)),.sh (.tup ts),.sh d,.no]= .ok (!bu n d):=by
     have hv:aA (opA dR (aA (aD 0) aG)) (aA (aD 2) aG) [.sh (.lst (ll.map .lst)),.sh (.tup ts),.sh d,.no]= .ok [.int n,d]:=by
      rw[<-hll];simp
     rw[ue,yZ,qT,hv,aM,e,aM,aFM,aM]
    have hg:okE (gnm 2 d [.sh (.lst (ll.map .lst)),.sh (.tup ts),s,.no]) aEw=aEw [.sh (.lst (ll.map .lst)),.sh (.tup ts),.sh d,.no]:=by rw[lU,jk];rfl
    rw[hg];unfold aEw;rw[fW,hc,bU];cases c:bu n d with
    |true=>right;exact⟨_,rfl,⟨_,rfl⟩,rfl⟩
    |false=>left;exact⟨by simp,rfl⟩)
   have hfor:∀o,forL (gnm 2) aEw ts [.sh (.lst (ll.map .lst)),.sh (.tup ts),.no,.no]=o->iY (dI (aD 1)) (gnm 2) aEw [.sh (.lst (ll.map .lst)),.sh (.tup ts),.no,.no]=o:=λ o h=>by
    have hi:dI (aD 1) [.sh (.lst (ll.map .lst)),.sh (.tup ts),.no,.no]= .ok ts:=by simp
    rw[fJ,hi,bU,h]
   rcases L with ⟨e,i,hi,o⟩|⟨Y',e,⟨s,rfl⟩,o⟩
   .have:ts.all (bu n)=false:=by
     rw[zFM];rw[zAD hi]at o;exact⟨ts[i],zCo hi,by simpa using o⟩
    simp only[cB,bf,bD,st];rw[aO,b1,ao,aO,hfor _ e];simp[jK,this]
   .have hall:ts.all (bu n)=true:=by
     rw[zAf];intro t ht;obtain⟨i,hi,rfl⟩:=zCr ht
     have:=o i hi
     rw[zAD hi]at this;exact this
    obtain⟨ei,hin⟩:=mL hall;have hwl:(ts.map intOf).length=ts.length:=zAF _;have hset:uY [.tup ts]= .ok (.set (ddI (ts.map intOf))):=by
     have:=aCk (ns:=ts.map intOf) (by omega)
     rwa [ei]at this
    by_cases hdd:(ddI (ts.map intOf)).length=ts.length
    .have b3:ifS (tsb (op2 (eqR true) (opA vz (aA (opA uY (aA (aD 1) aG)) aG)) (opA dR (aA (aD 1) aG)))) (retS (cD (.bl false))) Ou.nx [.sh (.lst (ll.map .lst)),.sh (.tup ts),s,.no]= .nx [.sh (.lst (ll.map .lst)),.sh (.tup ts),s,.no]:=by
      simp[hset,hdd]
     have hr:=aBt (i:=1) (j:=(ts.length:Int)) (by decide) (by decide) (by omega) (by omega);have hlen:(bZ 1 (ts.length:Int)).length=ts.length-1:=by rw[fP];omega
     have L2:=kE (a:=gnm 3) (u:=aEv) (r:=.bl false) (bZ 1 (ts.length:Int)) (λ i=>match (ts.map intOf)[i]?,(ts.map intOf)[i+1]? with|some a,some b=>decide ((a,b)∈ps)|_,_=>true)
      (λ Y=>∃s',Y=[.sh (.lst (ll.map .lst)),.sh (.tup ts),s,s']) [.sh (.lst (ll.map .lst)),.sh (.tup ts),s,.no] ⟨_,rfl⟩ (by
       rintro i d Y hd ⟨s',rfl⟩;obtain⟨rfl,h2⟩:=ik hd;have k1:i<(ts.map intOf).length:=by omega
       have k2:i+1<(ts.map intOf).length:=by omega
       have e1:(ts.map intOf)[i]? =some (ts.map intOf)[i]:=zAD k1;have e2:(ts.map intOf)[i+1]? =some (ts.map intOf)[i+1]:=zAD k2;have a1:atD ts (1+(i:Int)-1)= .ok (.int (ts.map intOf)[i]):=by
        rw[show(1+(i:Int)-1)=(i:Int)by omega];exact aGA ei e1
       have a2:atD ts (1+(i:Int))= .ok (.int (ts.map intOf)[i+1]):=by
        rw[show(1+(i:Int))=((i+1:Nat):Int)by omega];exact aGA ei e2
       have m1:=hin _ (zCo k1);have a3:=N.item _ m1.1 m1.2;have hc:(tsb (op2 (inR true) (op2 ixD (aD 1) (aD 3)) (op2 ixD (aD 0) (op2 ixD (aD 1) (op2 pJ (aD 3) (cD (.int 1))))))) [.sh (.lst (ll.map .lst)),.sh (.tup ts),s,.sh (.int (1+(i:Int)))]= .ok (!decide (((ts.map intOf)[i],(ts.map intOf)[i+1])∈ps)):=by
        simp[a1,a2,a3,aCR,aLB,-zCY]
       have hg:okE (gnm 3 (.int (1+(i:Int))) [.sh (.lst (ll.map .lst)),.sh (.tup ts),s,s']) aEv=aEv [.sh (.lst (ll.map .lst)),.sh (.tup ts),s,.sh (.int (1+(i:Int)))]:=by rw[lU,jk];rfl
       rw[hg];unfold aEv;rw[fW,hc,bU];simp only[e1,e2];cases c:decide (((ts.map intOf)[i],(ts.map intOf)[i+1])∈ps)with
       |true=>right;exact⟨_,rfl,⟨_,rfl⟩,rfl⟩
       |false=>left;exact⟨by simp,rfl⟩)
     have hfor2:∀o,forL (gnm 3) aEv (bZ 1 (ts.length:Int)) [.sh (.lst (ll.map .lst)),.sh (.tup ts),s,.no]=o->iY (cY xU (aA (cD (.int 1)) (aA (opA dR (aA (aD 1) aG)) aG))) (gnm 3) aEv [.sh (.lst (ll.map .lst)),.sh (.tup ts),s,.no]=o:=λ o h=>by
      have hi:cY xU (aA (cD (.int 1)) (aA (opA dR (aA (aD 1) aG)) aG)) [.sh (.lst (ll.map .lst)),.sh (.tup ts),s,.no]= .ok (bZ 1 (ts.length:Int)):=by simp[hr]
      rw[fJ,hi,bU,h]
     rcases L2 with ⟨e2,i,hi,o2⟩|⟨Y',e2,⟨s',rfl⟩,o2⟩
     .have:eF ps (ts.map intOf)=false:=by
       cases c:eF ps (ts.map intOf)with
       |false=>rfl
       |true=>
        rw[hlen]at hi;have k1:i<(ts.map intOf).length:=by omega
        have k2:i+1<(ts.map intOf).length:=by omega
        have z:=kY.mp c i _ _ (zAD k1) (zAD k2);rw[zAD k1,zAD k2]at o2;simp only at o2;rw[decide_eq_true z]at o2;cases o2
      simp only[cB,bf,bD,st];rw[aO,b1,ao,aO,hfor _ e,ao,aO,b3,ao,aO,hfor2 _ e2];simp[jK,this]
     .have:eF ps (ts.map intOf)=true:=kY.mpr λ i a b e1 e2'=>by
       have h2:=(zAI.mp e2').1
       have:=o2 i (by rw[hlen];omega)
       rw[e1,e2']at this;simpa using this
      simp only[cB,bf,bD,st];rw[aO,b1,ao,aO,hfor _ e,ao,aO,b3,ao,aO,hfor2 _ e2,ao];simp[jK,this,hall,hdd,hne]
    .have b3:ifS (tsb (op2 (eqR true) (opA vz (aA (opA uY (aA (aD 1) aG)) aG)) (opA dR (aA (aD 1) aG)))) (retS (cD (.bl false))) Ou.nx [.sh (.lst (ll.map .lst)),.sh (.tup ts),s,.no]= .rt (.bl false):=by
      have:¬((ddI (ts.map intOf)).length:Int)=(ts.length:Int):=by omega
      simp[hset,this]
     simp only[cB,bf,bD,st];rw[aO,b1,ao,aO,hfor _ e,ao,aO,b3];simp[jK,hdd]
 |_=>
  simp only[cB,bf,bD];simp[bC,iQ (jY hp),nF,jK]
theorem aLJ{n:Int}{ps:List (Int×Int)}{d:D}(h:knd d=true):aCN [.sh d,.sh (owD n ps)]= .ok (.bl (bu n d)):=by
 have:=aCJ h
 unfold aCN;simp[owD,this];cases d<;>simp[yS,bu]
 rename_i i;by_cases h0:0<=i<;>simp[h0]
theorem aCL{n:Int}{ps:List (Int×Int)}{d:D}(O:Ow n ps)(hp:pln d=true)(hs:aDx d=true):dF [owD n ps,d]= .ok (.bl (jK n ps d)):=by
 cases d with
 |tup ts=>
  have hp':fu ts=true:=by simpa[pln]using hp
  have hl:ts.length<4000:=by simpa[aDx]using hs
  have st:bC 2 [owD n ps,.tup ts]=[.sh (owD n ps),.sh (.tup ts)]:=rfl;cases ts with
  |nil=>
   simp only[dF,cQ,bD,st];simp[jK]
  |cons t0 tr=>
   generalize hts:t0::tr=ts at*;have hne:ts≠[]:=by rw[<-hts];simp
   have b1:ifS (orT (jJ (tst (op1 (jO "tuple") (aD 1)))) (tsb (op2 (eqR false) (opA dR (aA (aD 1) aG)) (cD (.int 0))))) (retS (cD (.bl false))) Ou.nx [.sh (owD n ps),.sh (.tup ts)]= .nx [.sh (owD n ps),.sh (.tup ts)]:=by
    simp[hne]
   have hc1:lcD (dI (aD 1)) [none,some 0] (gnm 0) dO aCN [.sh (owD n ps),.sh (.tup ts)]= .ok (.lst (ts.map λ t=>.bl (bu n t))):=by
    have hi:dI (aD 1) (shE [.sh (owD n ps),.sh (.tup ts)])= .ok ts:=by simp[shE,xP]
    have hm:=qx (Y:=stE [none,some 0] (shE [.sh (owD n ps),.sh (.tup ts)])) (fg:=gnm 0) (fe:=aCN) (g:=λ t=>.bl (bu n t)) ts λ d hd=>⟨_,rfl,by
     show aCN [.sh d,.sh (owD n ps)]=_;exact aLJ (jY (fQ hp' hd))⟩
    unfold lcD;rw[hi,aM,if_pos (by rw[szl];omega),hm]
   have ha1:opA (qW λ bs=>bs.all id) (aA (lcD (dI (aD 1)) [none,some 0] (gnm 0) dO aCN) aG) [.sh (owD n ps),.sh (.tup ts)]= .ok (.bl (ts.all (bu n))):=by
    rw[ji,bR,hc1,aM,dU,aM,aM,vQ,gR]
   cases hall:ts.all (bu n)with
   |false=>
    have b2:ifS (orT (jJ (tst (opA (qW λ bs=>bs.all id) (aA (lcD (dI (aD 1)) [none,some 0] (gnm 0) dO aCN) aG)))) (tsb (op2 ltD (opA vz (aA (opA uY (aA (aD 1) aG)) aG)) (opA dR (aA (aD 1) aG))))) (retS (cD (.bl false))) Ou.nx [.sh (owD n ps),.sh (.tup ts)]= .rt (.bl false):=by
     rw[fW,vo,ue,yZ,ha1,hall];simp
    simp only[dF,cQ,bD,st];rw[aO,b1,ao,aO,b2];simp[jK,hall]
   |true=>
    obtain⟨ei,hin⟩:=mL hall;have hwl:(ts.map intOf).length=ts.length:=zAF _;have hset:uY [.tup ts]= .ok (.set (ddI (ts.map intOf))):=by
     have:=aCk (ns:=ts.map intOf) (by omega)
     rwa [ei]at this
    have hle:=aOM (ts.map intOf);have hlt:tsb (op2 ltD (opA vz (aA (opA uY (aA (aD 1) aG)) aG)) (opA dR (aA (aD 1) aG))) [.sh (owD n ps),.sh (.tup ts)]= .ok (decide (((ddI (ts.map intOf)).length:Int)<ts.length)):=by simp[hset]
    have b2:ifS (orT (jJ (tst (opA (qW λ bs=>bs.all id) (aA (lcD (dI (aD 1)) [none,some 0] (gnm 0) dO aCN) aG)))) (tsb (op2 ltD (opA vz (aA (opA uY (aA (aD 1) aG)) aG)) (opA dR (aA (aD 1) aG))))) (retS (cD (.bl false))) Ou.nx [.sh (owD n ps),.sh (.tup ts)]
      =if ((ddI (ts.map intOf)).length:Int)<ts.length then .rt (.bl false)else .nx [.sh (owD n ps),.sh (.tup ts)]:=by
     rw[fW,vo,ue,yZ,ha1,hall,hlt];simp
    by_cases hdd:(ddI (ts.map intOf)).length=ts.length
    .rw[if_neg (by omega)]at b2
     have hr:=gn (j:=(ts.length:Int)-1) (by omega) (by omega);have hc2:lcD (cY iV (aA (op2 pJ (opA dR (aA (aD 1) aG)) (cD (.int 1))) aG)) [none,some 1,some 0] (gnm 0) dO aGa [.sh (owD n ps),.sh (.tup ts)]= .ok (.lst ((bZ 0 ((ts.length:Int)-1)).map λ k=>.bl (decide (((ts.map intOf).getD (intOf k).toNat 0,(ts.map intOf).getD ((intOf k).toNat+1) 0)∈ps)))):=by
      have hi:cY iV (aA (op2 pJ (opA dR (aA (aD 1) aG)) (cD (.int 1))) aG) (shE [.sh (owD n ps),.sh (.tup ts)])= .ok (bZ 0 ((ts.length:Int)-1)):=by simp[shE,xP,hr]
      have hm:=qx (Y:=stE [none,some 1,some 0] (shE [.sh (owD n ps),.sh (.tup ts)])) (fg:=gnm 0) (fe:=aGa) (g:=λ k=>.bl (decide (((ts.map intOf).getD (intOf k).toNat 0,(ts.map intOf).getD ((intOf k).toNat+1) 0)∈ps))) (bZ 0 ((ts.length:Int)-1)) λ d hd=>⟨_,rfl,by
       obtain⟨k,rfl,k0,k1⟩:=jf.mp hd;show aGa [.sh (.int k),.sh (.tup ts),.sh (owD n ps)]=_;have l1:k.toNat<(ts.map intOf).length:=by omega
       have l2:k.toNat+1<(ts.map intOf).length:=by omega
       have e1:atD ts k= .ok (.int ((ts.map intOf).getD k.toNat 0)):=by
        have:=aGA ei (k:=k.toNat) (w:=(ts.map intOf).getD k.toNat 0) (by rw[zAZ,zAD l1];rfl)
        rwa [zBz k0]at this
       have e2:atD ts (k+1)= .ok (.int ((ts.map intOf).getD (k.toNat+1) 0)):=by
        have:=aGA ei (k:=k.toNat+1) (w:=(ts.map intOf).getD (k.toNat+1) 0) (by rw[zAZ,zAD l2];rfl)
        rwa [show((k.toNat+1:Nat):Int)=k+1 by omega]at this
       have hv:op2 ixD (aD 2) (cD (.int 1)) [.sh (.int k),.sh (.tup ts),.sh (owD n ps)]= .ok (.tup (ps.map pD)):=by simp[owD]
       have ht:bj (aA (op2 ixD (aD 1) (aD 0)) (aA (op2 ixD (aD 1) (op2 bG (aD 0) (cD (.int 1)))) aG)) [.sh (.int k),.sh (.tup ts),.sh (owD n ps)]= .ok (pD ((ts.map intOf).getD k.toNat 0,(ts.map intOf).getD (k.toNat+1) 0)):=by
        have v1:op2 ixD (aD 1) (aD 0) [.sh (.int k),.sh (.tup ts),.sh (owD n ps)]= .ok (.int ((ts.map intOf).getD k.toNat 0)):=by
         rw[dH,qb,qb];show okD (atD ts k)=_;rw[e1];rfl
        have v2:op2 ixD (aD 1) (op2 bG (aD 0) (cD (.int 1))) [.sh (.int k),.sh (.tup ts),.sh (owD n ps)]= .ok (.int ((ts.map intOf).getD (k.toNat+1) 0)):=by
         rw[dH,qb];show okD (atD ts (k+1))=_;rw[e2];rfl
        rw[uU,bR,v1,aM,bR,v2,aM,dU,aM,aM,aM,if_pos (by simp)];rfl
       unfold aGa;rw[dH,ht,aM,hv,aM,aJB,gR];rfl⟩
      unfold lcD;rw[hi,aM,if_pos (by rw[fP,szl];omega),hm]
     have ha2:opA (qW λ bs=>bs.all id) (aA (lcD (cY iV (aA (op2 pJ (opA dR (aA (aD 1) aG)) (cD (.int 1))) aG)) [none,some 1,some 0] (gnm 0) dO aGa) aG) [.sh (owD n ps),.sh (.tup ts)]= .ok (.bl (eF ps (ts.map intOf))):=by
      rw[ji,bR,hc2,aM,dU,aM,aM,vQ,gR];congr 2;rw[zD6,kY,zAf];constructor
      .intro h i a b e1 e2
       have k2:=(zAI.mp e2).1
       have:=h (.int (i:Int)) (jf.mpr ⟨i,rfl,by omega,by omega⟩)
       have z:=of_decide_eq_true this;have f1:(ts.map intOf).getD (intOf (.int (i:Int))).toNat 0=a:=by
        show(ts.map intOf).getD ((i:Int).toNat) 0=a
        rw[zB3,zAZ,e1];rfl
       have f2:(ts.map intOf).getD ((intOf (.int (i:Int))).toNat+1) 0=b:=by
        show(ts.map intOf).getD ((i:Int).toNat+1) 0=b
        rw[zB3,zAZ,e2];rfl
       rw[f1,f2]at z;exact z
      .intro h d hd
       obtain⟨k,rfl,k0,k1⟩:=jf.mp hd;have l1:k.toNat<(ts.map intOf).length:=by omega
       have l2:k.toNat+1<(ts.map intOf).length:=by omega
       show decide (((ts.map intOf).getD k.toNat 0,(ts.map intOf).getD (k.toNat+1) 0)∈ps)=true;refine decide_eq_true ?_;exact h k.toNat _ _ (by rw[zAZ,zAD l1];rfl) (by rw[zAZ,zAD l2];rfl)
     simp only[dF,cQ,bD,st];rw[aO,b1,ao,aO,b2,ao,jX,ha2];simp[jK,hall,hdd,hne]
    .rw[if_pos (by omega)]at b2
     simp only[dF,cQ,bD,st];rw[aO,b1,ao,aO,b2];simp[jK,hdd]
 |_=>
  simp only[dF,cQ,bD];simp[bC,iQ (jY hp),nF,jK]
theorem aGB{ws:List Int}{ts:List D}(e:ws.map D.int=ts)(hne:ws≠[]):atD ts (-1)= .ok (.int (ws.getLastD 0)):=by
 subst e;have hl:0<ws.length:=zD8.mpr hne;have hx:ixN (ws.map D.int).length (-1)=some (ws.length-1):=by
  unfold ixN;rw[zAF,if_neg (by omega),if_pos (by omega)];congr 1;omega
 have hg:(ws.map D.int)[ws.length-1]? =some (.int (ws.getLastD 0)):=by
  rw[zAT]
  have:ws[ws.length-1]? =some (ws.getLastD 0):=by
   rw[zCl,List.getLast?_eq_getElem?];cases c:ws[ws.length-1]? with
   |none=>exact absurd (zCk.mp c) (by omega)
   |some x=>rfl
  rw[this];rfl
 unfold atD atI;rw[hx];simp only[zFN,hg]
theorem aBF{n:Int}{ps:List (Int×Int)}{ts:List D}(h:jK n ps (.tup ts)=true):(ts.map intOf).map D.int=ts/\(∀x∈ts.map intOf,0<=x/\x<n)/\ts.map intOf≠[]:=by
 unfold jK at h;simp only[zAN,zFK]at h;obtain⟨e,hin⟩:=mL h.1.1.2;refine⟨e,hin,λ z=>?_⟩
 have:ts=[]:=by simpa using z
 rw[this]at h;simp at h
def rowOf:D->List Int
 | .tup ts=>ts.map intOf
 |_=>[]
theorem aCr(h:rws.length<=100000):du [.tup (rws.map tupI)]= .ok (.bl (lJ HT.lexLt rws)):=wY (f:=tupI) (λ a b=>aCH a b) h
theorem xZ(h:rws.length<=100000):jC [.tup (rws.map tupI)]= .ok (.bl (lJ HT.lexLt rws)):=aCK (f:=tupI) [] (λ a b=>aCH a b) h
def aH8:D->Bool
 | .tup l=>decide (l.length<4000)&&l.all aDx
 |_=>true
def lN(n:Int)(l:List Int):Bool:=eqD (.lst ((sortI l).map .int)) (.lst (bZ 0 n))
theorem aAu(h:l.length<64):lB [.lst (l.map .int)]= .ok (.lst ((sortI l).map .int)):=by
 cases l with
 |nil=>rfl
 |cons i r=>
  have e:km ((i::r).map D.int)=none:=rfl;unfold lB;dsimp only;rw[e];dsimp only;rw[iH];dsimp only;rw[if_pos h]
theorem aFa:eqR false (.lst ((sortI l).map .int)) (.lst (bZ 0 n))= .ok (.bl (lN n l)):=by
 obtain⟨h1,h2⟩:=qP (sortI l);have h3:bW (bZ 0 n)=true:=by rw[vd];exact(qP _).2
 unfold eqR lN;simp[bJ,qQ,h1,h2,h3]
theorem aIh(hf:f Y= .ok (.int n))(h0:0<=n)(h1:n<=60):lrD f Y= .ok (.lst (bZ 0 n)):=by
 unfold lrD;rw[hf,aM];unfold lrR;simp;lia
theorem aI3(rws:List (List Int)):nsL [.no,.no] (gnm 0) dO (inL (dI (aD 0)) (gnm 1) dO (aq (aD 1))) (rws.map tupI)= .ok (rws.flatten.map .int):=by
 induction rws with
 |nil=>rfl
 |cons ns rws ih=>
  have hi:inL (dI (aD 0)) (gnm 1) dO (aq (aD 1)) [.sh (tupI ns),.no]= .ok (ns.map .int):=by
   have hm:=qx (Y:=[.sh (tupI ns),.no]) (fg:=gnm 1) (fe:=aq (aD 1)) (g:=id) (ns.map .int) λ d hd=>⟨_,rfl,by
    obtain⟨i,_,rfl⟩:=zAg.mp hd;simp⟩
   rw[zHO]at hm;unfold inL;rw[if_pos (by rfl)]
   have:dI (aD 0) [.sh (tupI ns),.no]= .ok (ns.map .int):=by simp[tupI]
   rw[this,aM,hm]
  rw[zAG,zAk,zAq]
  show((gnm 0 (tupI ns) [.no,.no]).bd λ Y1=>(dO Y1).bd λ k=>if k=true then(inL (dI (aD 0)) (gnm 1) dO (aq (aD 1)) Y1).bd λ ys=>(nsL [.no,.no] (gnm 0) dO (inL (dI (aD 0)) (gnm 1) dO (aq (aD 1))) (rws.map tupI)).bd λ zs=>.ok (ys++zs)else _)=_
  have hg:gnm 0 (tupI ns) [.no,.no]= .ok [.sh (tupI ns),.no]:=rfl;have hy:dO [.sh (tupI ns),.no]= .ok true:=rfl;rw[hg,aM,hy,aM,if_pos rfl,hi,aM,ih,aM]
theorem aCV{rws:List (List Int)}(h0:0<=n)(h1:n<=60)(hl:rws.flatten.length<64):mY [.int n,.tup (rws.map tupI)]= .ok (.bl (lN n rws.flatten)):=by
 have st:bC 2 [.int n,.tup (rws.map tupI)]=[.sh (.int n),.sh (.tup (rws.map tupI))]:=rfl;have hc:aEh (dI (aD 1)) [none,none] (gnm 0) dO (inL (dI (aD 0)) (gnm 1) dO (aq (aD 1))) [.sh (.int n),.sh (.tup (rws.map tupI))]= .ok (.lst (rws.flatten.map .int)):=by
  have hi:dI (aD 1) (shE [.sh (.int n),.sh (.tup (rws.map tupI))])= .ok (rws.map tupI):=by simp[shE,xP]
  have hns:nsL (stE [none,none] (shE [.sh (.int n),.sh (.tup (rws.map tupI))])) (gnm 0) dO (inL (dI (aD 0)) (gnm 1) dO (aq (aD 1))) (rws.map tupI)= .ok (rws.flatten.map .int):=aI3 rws;unfold aEh;rw[hi,aM,hns];dsimp only;rw[if_pos (by rw[zAF,zBw];lia)]
 have hr:lrD (aD 0) [.sh (.int n),.sh (.tup (rws.map tupI))]= .ok (.lst (bZ 0 n)):=aIh (by simp) h0 h1;simp only[mY,iT,bD,st];rw[jX,dH,ji,bR,hc,aM,dU,aM,aM,aAu hl,gR,aM,hr,aM,aFa];rfl
theorem nM:∀ws:List Int,fu (ws.map .int)=true
 |[]=>rfl
 |_::ws=>by simp only[zAG,fu,nM ws,pln];rfl
theorem ul:∀ws:List Int,oU (ws.map .int)=true
 |[]=>rfl
 |_::ws=>by simp only[zAG,oU,ul ws,imm];rfl
theorem aD9(l:List D)(a b:Option Int):(cutD l a b).length<=l.length:=by
 unfold cutD;rw[zB2,zBp];lia
theorem aAU(h:d∈cutD l a b):d∈l:=by
 unfold cutD at h;exact List.mem_of_mem_drop (List.mem_of_mem_take h)
theorem aCv(h:fu l=true):fu (cutD l a b)=true:=oM λ d hd=>fQ h (aAU hd)
theorem lL(h:fu l=true)(h2:fu m=true):fu (l++m)=true:=oM λ d hd=>by
 rcases zA2.mp hd with z|z
 .exact fQ h z
 .exact fQ h2 z
theorem qG:∀{l:List D} {d:D},oU l=true->d∈l->imm d=true
 |x::r,d,h,hm=>by
  simp only[oU,zAN]at h;rcases zAL.mp hm with rfl|hm
  .exact h.1
  .exact qG h.2 hm
theorem oR:∀{l:List D},(∀d∈l,imm d=true)->oU l=true
 |[],_=>rfl
 |x::r,h=>by
  simp only[oU,zAN];exact⟨h x (zAK ..),oR λ d hd=>h d (zAM _ hd)⟩
theorem aFD{P:D->Prop}(h0:0<=i)(h1:i<l.length)(h:∀d∈l,P d):∃d,(match (okD (atD l i)).bo Ou.rt with
  |Ou.nx Y=>Rs.ok D.non
  |Ou.rt d=>Rs.ok d
  |Ou.ex c=>Rs.ex c
  |x=>Rs.st)=Rs.ok d/\P d:=by
 obtain⟨d,e,hm,_⟩:=aAX h0 h1;exact⟨d,by rw[e];rfl,h d hm⟩
def uC:D->Nat
 | .tup l=>l.length
 |_=>0
def sz:D->Nat
 | .tup l=>l.length+(l.map uC).sum
 |_=>0
theorem aMa(l:List D):sz (.tup l)=l.length+(l.map uC).sum:=rfl
theorem vW(l m:List D):sz (.tup (l++m))=sz (.tup l)+sz (.tup m):=by
 simp[sz];lia
theorem yE(d:D)(l:List D):sz (.tup (d::l))=1+uC d+sz (.tup l):=by
 simp[sz];lia
theorem aMc:sz (.tup [])=0:=rfl
theorem aJz(l:List D)(k:Nat):sz (.tup (l.take k))<=sz (.tup l):=by
 conv=>rhs;rw[<-zE4 k l,vW]
 lia
theorem aKA(l:List D)(k:Nat):sz (.tup (l.drop k))<=sz (.tup l):=by
 conv=>rhs;rw[<-zE4 k l,vW]
 lia
theorem aMd(l:List D)(a b:Option Int):sz (.tup (cutD l a b))<=sz (.tup l):=by
 unfold cutD;exact zAm (aJz _ _) (aKA _ _)
theorem aMb(l:List D):sz (.tup l.reverse)=sz (.tup l):=by
 simp[sz]
theorem aFh(h:d∈l):uC d<=sz (.tup l):=by
 induction l with
 |nil=>cases h
 |cons x l ih=>
  rw[yE];rcases zAL.mp h with rfl|h
  .lia
  .have:=ih h;lia
theorem aIj(l:List D):l.length<=sz (.tup l):=by rw[aMa];lia
theorem aBE(ws:List Int):uC (tupI ws)=ws.length:=by simp[uC,tupI]
theorem aBd(rws:List (List Int)):sz (.tup (rws.map tupI))=rws.length+rws.flatten.length:=by
 induction rws with
 |nil=>rfl
 |cons r rws ih=>
  rw[zAG,yE,ih,aBE,zA9,zAk,zA1];lia
def aHj(k:Nat)(d:D):Prop:=pln d=true/\uC d<=k
theorem pW(h:fu l=true)(h2:l.length<=k):aHj k (.tup l):=⟨by simpa[pln]using h,h2⟩
theorem xf{ws:List Int}(p0:0<=p)(p1:p<1000)(hl:ws.length<=1000):∃d,jF [.int c,.int p,.tup (ws.map .int),.int m]= .ok d/\aHj (2*ws.length+1) d:=by
 obtain⟨r0,e0,b0⟩:=gq (c:=c) (k:=p) (b:=(ws.length:Int)+1) (by lia) (by lia) (by lia) (by lia);obtain⟨r1,e1,b1⟩:=gq (c:=c) (k:=p+1) (b:=9) (by lia) (by lia) (by lia) (by lia);obtain⟨r2,e2,b2⟩:=gq (c:=c) (k:=p+2) (b:=10) (by lia) (by lia) (by lia) (by lia);obtain⟨d4,e4,m4,_⟩:=aAX (l:=[.int 0,.int m,.int (-1),.bl true,.non,.str "0",.lst [.int 0],.int (m-1),.int 1]) (i:=(r1:Int)) (by lia) (by simpa using b1);have st:bC 7 [.int c,.int p,.tup (ws.map .int),.int m]=[.sh (.int c),.sh (.int p),.sh (.tup (ws.map .int)),.sh (.int m),.no,.no,.no]:=rfl;have gt:qH (.tup (ws.map .int))= .ok (.tup (ws.map .int)):=jB (by simp only[imm];exact ul ws);have gc:∀a b,qH (.tup (cutD (ws.map .int) a b))= .ok (.tup (cutD (ws.map .int) a b)):=λ a b=>jB (by simp only[imm];exact oR λ d hd=>qG (ul ws) (aAU hd))
 have gr:qH (.tup (ws.map D.int).reverse)= .ok (.tup (ws.map D.int).reverse):=jB (by simp only[imm];exact oR λ d hd=>qG (ul ws) (zCp.mp hd));have cl:∀a b,(cutD (ws.map .int) a b).length<=ws.length:=λ a b=>zAm (aD9 _ _ _) (by rw[zAF];exact zAP _)
 have z2:∀a b,(cutD (ws.map .int) a b).length+1<=16777216:=λ a b=>by have:=cl a b;lia
 have z3:∀a b a' b',(cutD (ws.map .int) a b).length+1+(cutD (ws.map .int) a' b').length<=16777216:=λ a b a' b'=>by have:=cl a b;have:=cl a' b';lia
 have z4:∀a b,ws.length+(cutD (ws.map .int) a b).length<=16777216:=λ a b=>by have:=cl a b;lia
 have z5:∀a b a' b',(cutD (ws.map .int) a b).length+(cutD (ws.map .int) a' b').length<=16777216:=λ a b a' b'=>by have:=cl a b;have:=cl a' b';lia
 have p4:pln d4=true:=by
  simp only[zAL,zAh,or_false]at m4;rcases m4 with rfl|rfl|rfl|rfl|rfl|rfl|rfl|rfl|rfl<;>rfl
 have pc:∀a b,fu (cutD (ws.map .int) a b)=true:=λ a b=>aCv (nM ws)
 have c8:∀a b a' b',aHj (2*ws.length+1) (.tup (cutD (ws.map .int) a b++d4::cutD (ws.map .int) a' b')):=λ a b a' b'=>by
  refine pW (lL (pc a b) ?_) ?_
  .simp only[fu,p4,pc,zI5]
  .have:=cl a b;have:=cl a' b';simp;lia
 have c9:∀a b a' b',aHj (2*ws.length+1) (.tup (cutD (ws.map .int) a b++cutD (ws.map .int) a' b')):=λ a b a' b'=>by
  refine pW (lL (pc a b) (pc a' b')) ?_
  have:=cl a b;have:=cl a' b';simp;lia
 simp only[jF,dg,bD,st];simp[-List.map_reverse,e0,e1,e2,e4,gt,gc,gr,z2,z3,z4,z5];refine aFD (by lia) (by simp;lia) λ d hd=>?_
 simp only[zAL,zAh,or_false]at hd;rcases hd with rfl|rfl|rfl|rfl|rfl|rfl|rfl|rfl|rfl|rfl
 .exact c8 _ _ _ _
 .exact c9 _ _ _ _
 .exact c8 _ _ _ _
 .exact pW (oM λ d hd=>fQ (nM ws) (zCp.mp hd)) (by simp;lia)
 .exact⟨by simpa[pln]using nM ws,zAa _⟩
 .exact pW (lL (nM ws) (pc _ _)) (by have:=cl none (some 1);simp;lia)
 .exact c9 _ _ _ _
 .exact⟨rfl,zAa _⟩
 .exact⟨rfl,zAa _⟩
 .exact pW (by simp[fu,pln,nM]) (by simp)
theorem aGl(l:List Int):oU (l.map .int)=true:=by
 induction l with
 |nil=>rfl
 |cons a l ih=>simp[oU,imm,ih]
theorem aAG(l:List Int):imm (tupI l)=true:=by simp[tupI,imm,aGl]
theorem aCw(l:List Int):pln (tupI l)=true:=by
 have:∀l:List Int,fu (l.map .int)=true:=λ l=>by
  induction l with
  |nil=>rfl
  |cons a l ih=>simp[fu,pln,ih]
 simp[tupI,pln,this]
theorem vg(rws:List (List Int)):fu (rws.map tupI)=true:=oM λ d hd=>by
 obtain⟨r,_,rfl⟩:=zAg.mp hd;exact aCw r
theorem mK(h:fu l=true):pln (.tup l)=true:=by simpa[pln]using h
def El(e:D):Prop:=(∃i:Int,e= .int i)\/∃ws:List Int,e=tupI ws
theorem El.pln(h:El e):VL.My.pln e=true:=by
 rcases h with ⟨i,rfl⟩|⟨ws,rfl⟩
 .rfl
 .exact aCw ws
theorem El.imm(h:El e):VL.imm e=true:=by
 rcases h with ⟨i,rfl⟩|⟨ws,rfl⟩
 .rfl
 .exact aAG ws
theorem aOR(he:El e)(hl:uC e<=1000)(p0:0<=p)(p1:p<900):∃o,bpI [.sh (.int c),.sh (.int p),.sh (.tup l),.sh (.int m),.sh (.int r0),.sh e,.no,.no]= .nx [.sh (.int c),.sh (.int p),.sh (.tup l),.sh (.int m),.sh (.int r0),.sh e,.nw o,.no]/\aHj (2*uC e+1) o:=by
 rcases he with ⟨i,rfl⟩|⟨ws,rfl⟩
 .obtain⟨r1,e1,b1⟩:=gq (c:=c) (k:=p+1) (b:=6) (by lia) (by lia) (by decide) (by decide)
  obtain⟨d4,e4,m4,_⟩:=aAX (l:=[.int 0,.int m,.bl true,.non,.int (i+1),.tup [.int i]]) (i:=(r1:Int)) (by lia) (by simpa using b1);refine⟨d4,?_,?_⟩
  .have:jO "tuple" (.int i)= .ok (.bl false):=by rw[iQ rfl];rfl
   unfold bpI;simp[this,e1,e4]
  .simp only[zAL,zAh,or_false]at m4
   rcases m4 with rfl|rfl|rfl|rfl|rfl|rfl<;>exact⟨rfl,by simp[uC]⟩
 .rw[aBE]at hl ⊢
  obtain⟨o,eo,ho⟩:=xf (c:=c) (p:=p+1) (m:=m) (ws:=ws) (by lia) (by lia) hl;refine⟨o,?_,ho⟩;unfold bpI tupI;simp[eo]
theorem rM(hE:∀e∈l,El e)(p0:0<=p)(p1:p<900)(hl:sz (.tup l)<=1000):∃d,cW [.int c,.int p,.tup l,.int m]= .ok d/\pln d=true/\sz d<=4*sz (.tup l)+3:=by
 have hll:=aIj l;obtain⟨r0,e0,b0⟩:=gq (c:=c) (k:=p) (b:=(l.length:Int)+1) (by lia) (by lia) (by lia) (by lia);obtain⟨r2,e2,b2⟩:=gq (c:=c) (k:=p+4) (b:=9) (by lia) (by lia) (by decide) (by decide);obtain⟨w,ew,mw,_⟩:=aAX (l:=l++[.tup []]) (i:=(r0:Int)) (by lia) (by rw[zA1];simp;lia);have hw:El w/\uC w<=sz (.tup l):=by
  rcases zA2.mp mw with z|z
  .exact⟨hE w z,aFh z⟩
  .rw[zAS]at z
   subst z;exact⟨.inr ⟨[],rfl⟩,zAa _⟩
 obtain⟨o,eo,po,lo⟩:=aOR (c:=c) (p:=p) (m:=m) (l:=l) (r0:=r0) hw.1 (by lia) p0 p1;have st:bC 8 [.int c,.int p,.tup l,.int m]=[.sh (.int c),.sh (.int p),.sh (.tup l),.sh (.int m),.no,.no,.no,.no]:=rfl;have il:oU l=true:=oR λ d hd=>(hE d hd).imm
 have pl:fu l=true:=oM λ d hd=>(hE d hd).pln
 have gt:qH (.tup l)= .ok (.tup l):=jB (by simp only[imm];exact il);have gc:∀a b,qH (.tup (cutD l a b))= .ok (.tup (cutD l a b)):=λ a b=>jB (by simp only[imm];exact oR λ d hd=>qG il (aAU hd))
 have gr:qH (.tup l.reverse)= .ok (.tup l.reverse):=jB (by simp only[imm];exact oR λ d hd=>qG il (zCp.mp hd));have cl:∀a b,(cutD l a b).length<=l.length:=λ a b=>aD9 _ _ _
 have z2:∀a b,(cutD l a b).length+1<=16777216:=λ a b=>by have:=cl a b;lia
 have z3:∀a b a' b',(cutD l a b).length+1+(cutD l a' b').length<=16777216:=λ a b a' b'=>by have:=cl a b;have:=cl a' b';lia
 have z4:∀a b,l.length+(cutD l a b).length<=16777216:=λ a b=>by have:=cl a b;lia
 have z5:∀a b a' b',(cutD l a b).length+(cutD l a' b').length<=16777216:=λ a b a' b'=>by have:=cl a b;have:=cl a' b';lia
 have z6:l.length+1<=16777216:=by lia
 have pc:∀a b,fu (cutD l a b)=true:=λ a b=>aCv pl
 have a4:cg 4 (aU aV (aA (aD 0) (aA (aD 1) (aA (op2 bG (opA dR (aA (aD 2) aG)) (cD (.int 1))) aG)))) [.sh (.int c),.sh (.int p),.sh (.tup l),.sh (.int m),.no,.no,.no,.no]= .nx [.sh (.int c),.sh (.int p),.sh (.tup l),.sh (.int m),.sh (.int r0),.no,.no,.no]:=by simp[e0]
 have a5:cg 5 (op2 ixD (op2 bG (aD 2) (bj (aA (bj aG) aG))) (aD 4)) [.sh (.int c),.sh (.int p),.sh (.tup l),.sh (.int m),.sh (.int r0),.no,.no,.no]= .nx [.sh (.int c),.sh (.int p),.sh (.tup l),.sh (.int m),.sh (.int r0),.sh w,.no,.no]:=by simp[z6,ew]
 simp only[cW,bw,bD,st];rw[aO,a4,ao,aO,a5,ao,aO,eo,ao];simp[jt,e2,gt,gc,gr,z2,z3,z4,z5,z6];have sc:=aMd l;have c8:∀a b a' b',pln (.tup (cutD l a b++o::cutD l a' b'))=true/\sz (.tup (cutD l a b++o::cutD l a' b'))<=4*sz (.tup l)+3:=λ a b a' b'=>by
  refine⟨?_,?_⟩
  .refine mK ?_
   exact lL (pc a b) (by simp only[fu,po,pc,zI5])
  .rw[vW,yE]
   have:=sc a b;have:=sc a' b'
   lia
 refine aFD (by lia) (by simp;lia) λ d hd=>?_
 simp only[zAL,zAh,or_false]at hd;rcases hd with rfl|rfl|rfl|rfl|rfl|rfl|rfl|rfl|rfl
 .exact c8 _ _ _ _
 .refine⟨by refine mK ?_;exact lL (pc _ _) (pc _ _),?_⟩
  rw[vW];have h1:=sc none (some (r0:Int));have h2:=sc (some ((r0:Int)+1)) none;lia
 .refine⟨by refine mK ?_;exact lL pl (pc _ _),?_⟩
  rw[vW];have h1:=sc none (some 1);lia
 .refine⟨by refine mK ?_;exact oM λ d hd=>fQ pl (zCp.mp hd),?_⟩
  rw[aMb];lia
 .exact⟨by simpa[pln]using pl,zAa _⟩
 .refine⟨by simp[pln,fu,pl],?_⟩
  rw[yE,aMc];show 1+l.length+0<=_;lia
 .exact⟨rfl,zAa _⟩
 .refine⟨by refine mK ?_;exact lL pl rfl,?_⟩
  rw[vW];show sz (.tup l)+1<=_;lia
 .exact c8 _ _ _ _
def goG(B:D->Bool):D->Bool
 | .tup rs=>rs.all B&&lJ HT.lexLt (rs.map rowOf)
 |_=>false
theorem aCq(hB:∀d,B d=true->tupI (rowOf d)=d):∀{rs:List D},rs.all B=true->(rs.map rowOf).map tupI=rs
 |[],_=>rfl
 |d::rs,h=>by
  rw[zEy,zAN]at h;rw[zAG,zAG,hB d h.1,aCq hB h.2]
theorem yI(h:jK n ps d=true):tupI (rowOf d)=d:=by
 cases d with
 |tup ts=>
  show D.tup ((ts.map intOf).map .int)=D.tup ts;rw[(aBF h).1]
 |_=>cases h
theorem aLi:aAW agT 2 ga [a,b,.sh (.fn "goes_along"),c]=aU cB ga [a,b,.sh (.fn "goes_along"),c]:=by
 unfold aAW
 have:aD 2 [a,b,.sh (.fn "goes_along"),c]= .ok (.fn "goes_along"):=rfl
 rw[this];simp only[fnOf,agT,List.lookup,beq_self_eq_true]
theorem aLl{ll:List (List D)}(hB:∀d,B d=true->tupI (rowOf d)=d)(hc:∀ga a b c,aAW agT 2 ga [a,b,.sh (.fn x),c]=aU F ga [a,b,.sh (.fn x),c])
  (hF:∀d,pln d=true->aDx d=true->F [.lst (ll.map .lst),d]= .ok (.bl (B d)))(hp:pln d=true)(hs:aH8 d=true):qX [.lst (ll.map .lst),d,.fn x]= .ok (.bl (goG B d)):=by
 cases d with
 |tup rs=>
  have hp':fu rs=true:=by simpa[pln]using hp
  simp only[aH8,zAN,decide_eq_true_eq]at hs;obtain⟨hl,hs⟩:=hs;have st:bC 4 [.lst (ll.map .lst),.tup rs,.fn x]=[.sh (.lst (ll.map .lst)),.sh (.tup rs),.sh (.fn x),.no]:=rfl;have b1:ifS (jJ (tst (op1 (jO "tuple") (aD 1)))) (retS (cD (.bl false))) Ou.nx [.sh (.lst (ll.map .lst)),.sh (.tup rs),.sh (.fn x),.no]= .nx [.sh (.lst (ll.map .lst)),.sh (.tup rs),.sh (.fn x),.no]:=by simp
  have L:=kE (a:=gnm 3) (u:=agL) (r:=.bl false) rs (λ i=>match rs[i]? with|some t=>B t|none=>true) (λ Y=>∃s,Y=[.sh (.lst (ll.map .lst)),.sh (.tup rs),.sh (.fn x),s]) [.sh (.lst (ll.map .lst)),.sh (.tup rs),.sh (.fn x),.no] ⟨_,rfl⟩ (by
   rintro i d Y hd ⟨s,rfl⟩;have hm:=zAw hd;have e:=hF d (fQ hp' hm) (zAf.mp hs d hm);simp only[hd];have hc:(jJ (tst (aAW agT 2 (aA (aD 0) (aA (aD 3) aG))))) [.sh (.lst (ll.map .lst)),.sh (.tup rs),.sh (.fn x),.sh d]= .ok (!B d):=by
    have hv:aA (aD 0) (aA (aD 3) aG) [.sh (.lst (ll.map .lst)),.sh (.tup rs),.sh (.fn x),.sh d]= .ok [.lst (ll.map .lst),d]:=by simp
    rw[ue,yZ,hc,qT,hv,aM,e,aM,aFM,aM]
   have hg:okE (gnm 3 d [.sh (.lst (ll.map .lst)),.sh (.tup rs),.sh (.fn x),s]) agL=agL [.sh (.lst (ll.map .lst)),.sh (.tup rs),.sh (.fn x),.sh d]:=by rw[lU,jk];rfl
   rw[hg];unfold agL;rw[fW,hc,bU];cases c:B d with
   |true=>right;exact⟨_,rfl,⟨_,rfl⟩,rfl⟩
   |false=>left;exact⟨by simp,rfl⟩)
  have hfor:∀o,forL (gnm 3) agL rs [.sh (.lst (ll.map .lst)),.sh (.tup rs),.sh (.fn x),.no]=o->iY (dI (aD 1)) (gnm 3) agL [.sh (.lst (ll.map .lst)),.sh (.tup rs),.sh (.fn x),.no]=o:=λ o h=>by
   have hi:dI (aD 1) [.sh (.lst (ll.map .lst)),.sh (.tup rs),.sh (.fn x),.no]= .ok rs:=by simp
   rw[fJ,hi,bU,h]
  simp only[qX,lr,bD,st];rw[aO,b1,ao,aO];rcases L with ⟨e,i,hi,o⟩|⟨Y',e,⟨s,rfl⟩,o⟩
  .have:rs.all B=false:=by
    rw[zFM];rw[zAD hi]at o;exact⟨rs[i],zCo hi,by simpa using o⟩
   rw[hfor _ e];simp[goG,this]
  .have hall:rs.all B=true:=by
    rw[zAf];intro t ht;obtain⟨i,hi,rfl⟩:=zCr ht
    have:=o i hi
    rw[zAD hi]at this;exact this
   have er:=aCr (rws:=rs.map rowOf) (by rw[zAF];lia);rw[aCq hB hall]at er;rw[hfor _ e,ao];simp[er,goG,hall]
 |_=>
  have st:∀d,bC 4 [.lst (ll.map .lst),d,.fn x]=[.sh (.lst (ll.map .lst)),.sh d,.sh (.fn x),.no]:=λ _=>rfl
  simp only[qX,lr,bD,st];simp[iQ (jY hp),nF,goG]
def w5:D->List Int
 | .tup l=>(l.map rowOf).flatten
 |_=>[]
def lpB(n:Int)(ps:List (Int×Int))(d:D):Bool:=goG (jK n ps) d&&lN n (w5 d)
structure Fi1(d:D):Prop where
 pl:pln d=true
 sh:aH8 d=true
 fw:(w5 d).length<64
theorem aCT(h:goG B d=true):∃rs,d= .tup rs:=by
 cases d with
 |tup l=>exact⟨l,rfl⟩
 |_=>cases h
theorem aEt(h:goG B (.tup rs)=true):rs.all B=true:=by
 unfold goG at h;simp only[zAN]at h;exact h.1
theorem fH(O:Ow n ps)(F:Fi1 d):bx [owD n ps,d]= .ok (.bl (lpB n ps d)):=by
 have ck:=wH O;have st:bC 2 [owD n ps,d]=[.sh (owD n ps),.sh d]:=rfl;have b0:aFw (aU eO (aA (aD 0) aG)) [.sh (owD n ps),.sh d]= .nx [.sh (owD n ps),.sh d]:=by simp[ck]
 obtain⟨ll,et,N⟩:=aFE O;have v1:ilA [.sh (owD n ps),.sh d]= .ok (.bl (goG (jK n ps) d)):=by
  simp[ilA,et,aLl (λ _=>yI) (λ _ _ _ _=>aLi) (λ d hp hs=>aAg O.n0 N hp hs) F.pl F.sh]
 simp only[bx,cT,bD,st];rw[aO,b0,ao,jX,yN,v1,aM,yM];unfold lpB;cases h1:goG (jK n ps) d with
 |false=>rfl
 |true=>
  obtain⟨as,rfl⟩:=aCT h1;have ea:=aCq (λ _=>yI) (aEt h1);have e:=aCV (n:=n) (rws:=as.map rowOf) O.n0 O.n1 F.fw;rw[ea]at e;have v3:ilO [.sh (owD n ps),.sh (.tup as)]= .ok (.bl (lN n (as.map rowOf).flatten)):=by
   simp[ilO,owD,e]
  rw[if_pos rfl,v3];rfl
theorem aHD{rws:List (List Int)}(h0:0<=n)(h1:n<=60)(hl:rws.flatten.length<64):jG [.tup (rws.map tupI),.int n]= .ok (.bl (lN n rws.flatten)):=by
 have st:bC 4 [.tup (rws.map tupI),.int n]=[.sh (.tup (rws.map tupI)),.sh (.int n),.no,.no]:=rfl;have L:∀(rs:List (List Int)) (acc:List Int) (s:Slot),acc.length+rs.flatten.length<64->∃s',forL (gnm 3) (aAi 2 (aq (aD 3))) (rs.map tupI) [.sh (.tup (rws.map tupI)),.sh (.int n),.ow (.lst (acc.map .int)),s]= .nx [.sh (.tup (rws.map tupI)),.sh (.int n),.ow (.lst ((acc++rs.flatten).map .int)),s']:=by
  intro rs;induction rs with
  |nil=>intro acc s _;exact⟨s,by rw[zHx,zAy];rfl⟩
  |cons ns rs ih=>
   intro acc s hz;rw[zAk,zA1]at hz;obtain⟨s',e⟩:=ih (acc++ns) (.sh (tupI ns)) (by rw[zA1];lia);refine⟨s',?_⟩;rw[zAG,nT,zAk,<-zBg];have hg:okE (gnm 3 (tupI ns) [.sh (.tup (rws.map tupI)),.sh (.int n),.ow (.lst (acc.map .int)),s]) (λ Y1=>(aAi 2 (aq (aD 3)) Y1).tn (forL (gnm 3) (aAi 2 (aq (aD 3))) (rs.map tupI)))=
     (aAi 2 (aq (aD 3)) [.sh (.tup (rws.map tupI)),.sh (.int n),.ow (.lst (acc.map .int)),.sh (tupI ns)]).tn (forL (gnm 3) (aAi 2 (aq (aD 3))) (rs.map tupI)):=by
    rw[lU,jk];rfl
   have hv:aq (aD 3) [.sh (.tup (rws.map tupI)),.sh (.int n),.ow (.lst (acc.map .int)),.sh (tupI ns)]= .ok (tupI ns):=by
    have:imm (tupI ns)=true:=by
     have:∀l:List Int,oU (l.map .int)=true:=λ l=>by
      induction l with
      |nil=>rfl
      |cons a l ih=>simp[oU,imm,ih]
     simp[tupI,imm,this]
    simp[qH,this]
   have hx:aAi 2 (aq (aD 3)) [.sh (.tup (rws.map tupI)),.sh (.int n),.ow (.lst (acc.map .int)),.sh (tupI ns)]= .nx [.sh (.tup (rws.map tupI)),.sh (.int n),.ow (.lst ((acc++ns).map .int)),.sh (tupI ns)]:=by
    unfold aAi;dsimp only[zBu,zCP];rw[hv,bU];unfold aOG tupI;dsimp only;rw[if_pos (by rw[zAF,zAF,zBw];lia),zAq];rfl
   rw[hg,hx,aLy];exact e
 obtain⟨s',e⟩:=L rws [] .no (by simpa using hl);have e0:m7 2 (dZ aG) [.sh (.tup (rws.map tupI)),.sh (.int n),.no,.no]= .nx [.sh (.tup (rws.map tupI)),.sh (.int n),.ow (.lst (([]:List Int).map .int)),.no]:=by simp
 have hi:dI (aD 0) [.sh (.tup (rws.map tupI)),.sh (.int n),.ow (.lst (([]:List Int).map .int)),.no]= .ok (rws.map tupI):=by simp
 have hv:jc 2 [.sh (.tup (rws.map tupI)),.sh (.int n),.ow (.lst ((([]:List Int)++rws.flatten).map .int)),s']= .ok (.lst (rws.flatten.map .int)):=rfl;have hr:lrD (aD 1) [.sh (.tup (rws.map tupI)),.sh (.int n),.ow (.lst ((([]:List Int)++rws.flatten).map .int)),s']= .ok (.lst (bZ 0 n)):=aIh (by simp) h0 h1;simp only[jG,dh,bD,st];rw[aO,e0,ao,aO,fJ,hi,bU,e,ao,jX,dH,ji,bR,hv,aM,dU,aM,aM,aAu hl,gR,aM,hr,aM,aFa];rfl
theorem rz{n:Int}(O:Ow n ps)(F:Fi1 d):jE [owD n ps,d]= .ok (.bl (lpB n ps d)):=by
 have st:bC 2 [owD n ps,d]=[.sh (owD n ps),.sh d]:=rfl;simp only[jE,gG,bD,st];rw[aO];cases d with
 |tup as=>
  have hpa:fu as=true:=by have:=F.pl;simpa[pln]using this
  have f1:=F.sh;simp only[aH8,zAN,decide_eq_true_eq]at f1;have vA:lpA [.sh (owD n ps),.sh (.tup as)]= .ok (.bl (as.all (jK n ps))):=
   aOU (zr (ds:=as) (by simp[shE,xP]) (by lia) (qx (fg:=gnm 0) (fe:=aU dF (aA (aD 1) (aA (aD 0) aG))) (g:=λ d=>.bl (jK n ps d)) as λ d hd=>⟨_,rfl,by
    simp[stE,shE,xP,aCL O (fQ hpa hd) (zAf.mp f1.2 d hd)]⟩))
  have u1:jJ (tst (op1 (jO "tuple") (aD 1))) [.sh (owD n ps),.sh (.tup as)]= .ok false:=by simp
  have b2:lpJ [.sh (owD n ps),.sh (.tup as)]=if as.all (jK n ps)=true then .nx [.sh (owD n ps),.sh (.tup as)]else .rt (.bl false):=by
   unfold lpJ;rw[fW,vo,u1,ue,yZ,vA];cases as.all (jK n ps)<;>simp
  rw[b2];have er:lpB n ps (.tup as)=(as.all (jK n ps)&&(lJ HT.lexLt (as.map rowOf)&&lN n (w5 (.tup as)))):=by
   unfold lpB goG;dsimp only;cases as.all (jK n ps)<;>cases lJ HT.lexLt (as.map rowOf)<;>rfl
  rw[er];cases hc:as.all (jK n ps)with
  |false=>rfl
  |true=>
   have ea:=aCq (λ _=>yI) hc;have r1:=xZ (rws:=as.map rowOf) (by rw[zAF];lia);have e:=aHD (n:=n) (rws:=as.map rowOf) O.n0 O.n1 F.fw;rw[ea]at e;rw[ea]at r1;have u1:lp1 [.sh (owD n ps),.sh (.tup as)]= .ok (.bl (lJ HT.lexLt (as.map rowOf))):=by simp[lp1,r1]
   have u3:lpO [.sh (owD n ps),.sh (.tup as)]= .ok (.bl (lN n (as.map rowOf).flatten)):=by simp[lpO,owD,e]
   rw[if_pos rfl,ao,jX,yN,u1,aM,yM,u3];show _=Rs.ok (D.bl (true&&(lJ HT.lexLt (as.map rowOf)&&lN n ((as.map rowOf).flatten))));cases lJ HT.lexLt (as.map rowOf)<;>simp
 |_=>
  unfold lpJ;simp[iQ (jY F.pl),nF,lpB,goG]
def upI(n:Int):List Int:=(zAb n.toNat).map λ(k:Nat)=>(k:Int)
theorem aBs(n:Int):bZ 0 n=(upI n).map .int:=by
 unfold bZ upI;rw[zAu,show(n-0).toNat=n.toNat by lia];exact zCQ λ k _=>by simp
theorem uR(n:Int):(upI n).Nodup:=by
 unfold upI;rw[zDf,zDK];exact zIA.imp λ h e=>h (by lia)
theorem vy{x n:Int}:x∈upI n↔0<=x/\x<n:=by
 unfold upI;rw[zAg];constructor
 .rintro⟨k,hk,rfl⟩
  have:=zBV.mp hk
  lia
 .rintro⟨h0,h1⟩
  exact⟨x.toNat,zBV.mpr (by lia),by lia⟩
theorem tD(n:Int):(upI n).length=n.toNat:=by unfold upI;simp
theorem uL{es:List (Int×Int)}{v:Int}:∀{ws:List Int} (h:ws≠[]),eF es ws=true->(ws.getLast h,v)∈es->eF es (ws++[v])=true
 |[a],_,_,h2=>by simpa[eF]using h2
 |a::b::r,_,h1,h2=>by
  simp only[eF,zAN,decide_eq_true_eq]at h1
  have:=uL (ws:=b::r) (by simp) h1.2 (by simpa using h2)
  rw[zF2,zF2,eF,zAN,decide_eq_true_eq];exact⟨h1.1,by simpa using this⟩
theorem zL{left ws:List Int}(h1:left.Nodup)(h2:ws.Nodup)(h3:∀w∈ws,w∈left):(ws++left.filter λ x=>!decide (x∈ws)).Perm left:=by
 rw[zFu]
 .intro a
  rw[zA2,zBD];constructor
  .rintro(h|h)
   .exact h3 a h
   .exact h.1
  .intro h
   by_cases hw:a∈ws
   .exact .inl hw
   .exact .inr ⟨h,by simp[hw]⟩
 .rw[zBB]
  refine⟨h2,h1.filter _,λ a ha b hb e=>?_⟩;subst e
  have:=(zBD.mp hb).2
  simp[ha]at this
 .exact h1
theorem aJY(l:List Int):eqR true (.lst (l.map .int)) (.lst [])= .ok (.bl (!l.isEmpty)):=by
 obtain⟨h1,h2⟩:=qP l;have e:eqD (.lst (l.map .int)) (.lst [])=l.isEmpty:=by cases l<;>simp[eqD,nG]
 unfold eqR;rw[if_pos (by simp[qQ,bJ,bW,h1,h2]),e];rfl
theorem aIx{c:En->Rs Bool}{b:En->Ou}{I:Nat->En->Prop}(st:∀m Y,I m Y->c Y= .ok false\/(c Y= .ok true/\∃Y' m',b Y= .nx Y'/\m'<m/\I m' Y')):
  ∀(n m:Nat) (Y:En),m<n->I m Y->∃Y' m',itW c b n Y= .nx Y'/\I m' Y'/\c Y'= .ok false
 |0,_,_,h,_=>absurd h (zI0 _)
 |n+1,m,Y,h,hI=>by
  rcases st m Y hI with e|⟨e,Y',m',e2,hm,hI'⟩
  .exact⟨Y,m,by unfold itW;rw[e];rfl,hI,e⟩
  .obtain⟨Y2,m2,e3,r⟩:=aIx st n m' Y' (by lia) hI'
   refine⟨Y2,m2,?_,r⟩;unfold itW;rw[e,bU,if_pos rfl,e2];exact e3
theorem yU{c:En->Rs Bool}{b:En->Ou}(I:Nat->En->Prop)(st:∀m Y,I m Y->c Y= .ok false\/(c Y= .ok true/\∃Y' m',b Y= .nx Y'/\m'<m/\I m' Y')){m:Nat}{Y:En}(hm:m<1000000)(h:I m Y):
  ∃Y' m',sy c b Y= .nx Y'/\I m' Y'/\c Y'= .ok false:=aIx st fuel m Y hm h
theorem aJX(qs:List (Int×Int)):eqR false (.lst (qs.map pD)) (.lst [])= .ok (.bl qs.isEmpty):=by
 obtain⟨h1,h2⟩:=rA qs;have e:eqD (.lst (qs.map pD)) (.lst [])=qs.isEmpty:=by cases qs<;>simp[eqD,nG]
 have h3:decide (gh (qs.map pD)+1<=60)=true:=by simp;omega
 unfold eqR;simp[bJ,bW,qQ,gh,h2,e];omega
theorem aPU:aD6 neg (.int i) (aD8 ps)= .ok (.bl (neg !=(ps.lookup i).isSome)):=by
 unfold aD6 aD8;dsimp only;rw[vf]
theorem aPS(h:ps.lookup i=some d):xq (aD8 ps) (.int i)= .ok d:=by
 unfold xq aD8;dsimp only;rw[vf];dsimp only;rw[h]
theorem aHy(h:i∉ps.map (·.1)):aES ps i d=ps++[(i,d)]:=by
 unfold aES;rw[if_neg];rw[zEK];rintro⟨p,hp,e⟩;exact h (zAg.mpr ⟨p,hp,of_decide_eq_true e⟩)
theorem aBN:∀{qs acc:List (Int×D)},(acc.map (·.1)++qs.map (·.1)).Nodup->aAI acc qs=acc++qs
 |[],acc,_=>by simp[aAI]
 |q::qs,acc,h=>by
  have hn:q.1∉acc.map (·.1):=λ hm=>by
   rw[zBB]at h;exact h.2.2 _ hm _ (by simp) rfl
  have e:aAI acc (q::qs)=aAI (aES acc q.1 q.2) qs:=rfl;rw[e,aHy hn,aBN (by simpa using h)];simp
theorem aCy{l m:List Int}(hf:f (shE Y)= .ok (l.map .int))(hs:stE js (shE Y)=[.no,.sh (.tup (m.map .int))]\/stE js (shE Y)=[.no,.sh (.lst (m.map .int))])(hl:l.length<=1000):
  lcD f js (gnm 0) (tsb (op2 (inR true) (aD 0) (aD 1))) (aq (aD 0)) Y= .ok (.lst ((l.filter λ x=>!decide (x∈m)).map .int)):=by
 refine zr hf (by rw[zAF];lia) ?_;rcases hs with hs|hs<;>rw[hs]
 .refine uh (fg:=gnm 0) (f:=D.int) (g:=D.int) (t:=λ x=>!decide (x∈m)) l λ x _=>⟨[.sh (.int x),.sh (.tup (m.map .int))],rfl,?_,by simp⟩
  have a2:aD 1 [.sh (.int x),.sh (.tup (m.map .int))]= .ok (.tup (m.map .int)):=rfl;have a3:aD 0 [.sh (.int x),.sh (.tup (m.map .int))]= .ok (.int x):=rfl;rw[mZ,dH,a3,aM,a2,aM,aDX,gR,aM];rfl
 .refine uh (fg:=gnm 0) (f:=D.int) (g:=D.int) (t:=λ x=>!decide (x∈m)) l λ x _=>⟨[.sh (.int x),.sh (.lst (m.map .int))],rfl,?_,by simp⟩
  have a2:aD 1 [.sh (.int x),.sh (.lst (m.map .int))]= .ok (.lst (m.map .int)):=rfl;have a3:aD 0 [.sh (.int x),.sh (.lst (m.map .int))]= .ok (.int x):=rfl;rw[mZ,dH,a3,aM,a2,aM,aCR,gR,aM];rfl
structure Dp(ps qs:List (Int×Int)):Prop where
 sub:qs.Sublist ps
 u1:(qs.map (·.1)).Nodup
 u2:(qs.map (·.2)).Nodup
theorem aOK{ps qs:List (Int×Int)}(h:qs.length<=3600):dpC [.sh (.int c),.sh (owD n ps),.ow (.lst (qs.map pD)),s3,.sh (pD p)]= .ok (.lst ((qs.filter λ q=>(q.1==p.1)||(q.2==p.2)).map pD)):=by
 refine zr (ds:=qs.map pD) rfl (by rw[zAF];omega) (uh qs λ q hq=>⟨_,rfl,?_,rfl⟩);show orT (tsb (op2 (eqR false) (op2 ixD (aD 0) (cD (.int 0))) (op2 ixD (aD 1) (cD (.int 0))))) (tsb (op2 (eqR false) (op2 ixD (aD 0) (cD (.int 1))) (op2 ixD (aD 1) (cD (.int 1))))) [.sh (pD q),.sh (pD p)]=_;simp[pD];by_cases e:q.1=p.1<;>simp[e]
theorem aFO(h:(qs.map f).Nodup)(hf:∀q∈qs,f q≠f p):((qs++[p]).map f).Nodup:=by
 rw[zAq,zBB];refine⟨h,by simp,λ a ha b hb=>?_⟩;obtain⟨q,hq,rfl⟩:=zAg.mp ha;rw[zAG,zDg,zAS]at hb;rw[hb];exact hf q hq
theorem aOJ{ps qs:List (Int×Int)}(h:qs.length<=3600)(u1:(qs.map (·.1)).Nodup)(u2:(qs.map (·.2)).Nodup):∃qs':List (Int×Int),dpL [.sh (.int c),.sh (owD n ps),.ow (.lst (qs.map pD)),.sh (.int k),.sh (pD p)]= .nx [.sh (.int c),.sh (owD n ps),.ow (.lst (qs'.map pD)),.sh (.int k),.sh (pD p)]/\(qs'=qs\/qs'=qs++[p])/\(qs'.map (·.1)).Nodup/\(qs'.map (·.2)).Nodup:=by
 obtain⟨r,e,b⟩:=gq (c:=c) (k:=60+(k:Int)%40) (b:=3) (by omega) (by omega) (by decide) (by decide);have ec:=aOK (c:=c) (n:=n) (ps:=ps) (qs:=qs) (p:=p) (s3:=.sh (.int k)) h;have em:=nO (i:=(k:Int)) (j:=40) (by decide);have e1:tsb (op2 gtD (aU aV (aA (aD 0) (aA (op2 bG (cD (.int 60)) (op2 uB (aD 3) (cD (.int 40)))) (aA (cD (.int 3)) aG)))) (cD (.int 0))) [.sh (.int c),.sh (owD n ps),.ow (.lst (qs.map pD)),.sh (.int k),.sh (pD p)]= .ok (decide (0<(r:Int))):=by simp[em,e]
 have e2:tsb (op2 (eqR false) dpC (dZ aG)) [.sh (.int c),.sh (owD n ps),.ow (.lst (qs.map pD)),.sh (.int k),.sh (pD p)]= .ok (qs.filter λ q=>(q.1==p.1)||(q.2==p.2)).isEmpty:=by
  rw[mZ,dH,ec,aM]
  show(okD (eqR false (.lst ((qs.filter λ q=>(q.1==p.1)||(q.2==p.2)).map pD)) (.lst []))).bd blD=_
  rw[aJX];rfl
 have e3:jt 2 (aq (aD 4)) [.sh (.int c),.sh (owD n ps),.ow (.lst (qs.map pD)),.sh (.int k),.sh (pD p)]= .nx [.sh (.int c),.sh (owD n ps),.ow (.lst ((qs++[p]).map pD)),.sh (.int k),.sh (pD p)]:=by
  have hz:(qs.map pD).length<zAV:=by rw[zAF,szl];omega
  have g:aq (aD 4) [.sh (.int c),.sh (owD n ps),.ow (.lst (qs.map pD)),.sh (.int k),.sh (pD p)]= .ok (pD p):=rfl;unfold jt
  show((aq (aD 4) [.sh (.int c),.sh (owD n ps),.ow (.lst (qs.map pD)),.sh (.int k),.sh (pD p)]).bo _)=_
  rw[g,bU,if_pos hz,zAq];rfl
 unfold dpL;rw[fW,e1,bU];cases decide (0<(r:Int))with
 |false=>exact⟨qs,rfl,.inl rfl,u1,u2⟩
 |true=>
  rw[if_pos rfl,fW,e2,bU];cases hf:(qs.filter λ q=>(q.1==p.1)||(q.2==p.2)).isEmpty with
  |false=>exact⟨qs,rfl,.inl rfl,u1,u2⟩
  |true=>
   rw[List.isEmpty_iff,List.filter_eq_nil_iff]at hf;refine⟨qs++[p],by rw[if_pos rfl];exact e3,.inr rfl,aFO u1 λ q hq e=>hf q hq (by simp[e]),aFO u2 λ q hq e=>hf q hq (by simp[e])⟩
theorem uE(O:Ow n ps):∃qs:List (Int×Int),dD [.int c,owD n ps]= .ok (.tup (qs.map pD))/\Dp ps qs:=by
 have pl:=O.len;have st:bC 5 [.int c,owD n ps]=[.sh (.int c),.sh (owD n ps),.no,.no,.no]:=rfl;have hel:(aAj (ps.map pD)).length=ps.length:=by simp[aAj]
 obtain⟨Y',e,s3,s4,qs,rfl,hq,u1,u2⟩:=fX (a:=rN 2 (dN (gnm 3) (dN (gnm 4) uF))) (u:=dpL) (aAj (ps.map pD))
  (λ i Y=>∃s3 s4,∃qs:List (Int×Int),Y=[.sh (.int c),.sh (owD n ps),.ow (.lst (qs.map pD)),s3,s4]/\qs.Sublist (ps.take i)/\(qs.map (·.1)).Nodup/\(qs.map (·.2)).Nodup) [.sh (.int c),.sh (owD n ps),.ow (.lst []),.no,.no] ⟨.no,.no,[],rfl,by simp,by simp,by simp⟩ (by
   rintro i d Y hd ⟨s3,s4,qs,rfl,hq,u1,u2⟩;have hi:=(zAI.mp hd).1;have hi2:i<ps.length:=by omega
   unfold aAj at hd;rw[zAT,zGy,zAT,zAD hi2]at hd;simp only[zC5,zGP]at hd;subst hd;have hle:=hq.length_le;rw[zB2]at hle;obtain⟨qs',e1,hc,v1,v2⟩:=aOJ (c:=c) (n:=n) (ps:=ps) (qs:=qs) (p:=ps[i]) (k:=0+i) (by omega) u1 u2;refine⟨_,e1,_,_,qs',rfl,?_,v1,v2⟩;rw[List.take_succ_eq_append_getElem hi2];rcases hc with rfl|rfl
   .exact hq.trans (List.sublist_append_left _ _)
   .exact hq.append (zGJ _))
 rw[hel,zIC]at hq;refine⟨qs,?_,hq,u1,u2⟩;simp only[dD,cH,bD,st];have hf:iY (cY aL9 (aA (op2 ixD (aD 1) (cD (.int 1))) aG)) (rN 2 (dN (gnm 3) (dN (gnm 4) uF))) dpL [.sh (.int c),.sh (owD n ps),.ow (.lst []),.no,.no]= .nx [.sh (.int c),.sh (owD n ps),.ow (.lst (qs.map pD)),s3,s4]:=by
  have hi:cY aL9 (aA (op2 ixD (aD 1) (cD (.int 1))) aG) [.sh (.int c),.sh (owD n ps),.ow (.lst []),.no,.no]= .ok (aAj (ps.map pD)):=rfl;rw[fJ,hi,bU,e]
 have h0:m7 2 (dZ aG) [.sh (.int c),.sh (owD n ps),.no,.no,.no]= .nx [.sh (.int c),.sh (owD n ps),.ow (.lst []),.no,.no]:=by simp
 rw[aO,h0,ao,aO,hf,ao];simp
def dq(qs:List (Int×Int)):D:=aD8 (qs.map λ q=>(q.1,.int q.2))
theorem aEa(a:Int):∀qs:List (Int×Int),(qs.map λ q=>(q.1,D.int q.2)).lookup a=(qs.lookup a).map .int
 |[]=>rfl
 |q::qs=>by
  rw[zAG,zAc,zAc,aEa a qs];cases a==q.1<;>rfl
theorem zc:∀{qs:List (Int×Int)},qs.lookup a=some b->(a,b)∈qs
 |q::qs,h=>by
  rw[zAc]at h;cases e:a==q.1 with
  |true=>
   rw[e]at h;cases h;rw[show a=q.1 by simpa using e];exact zAK
  |false=>
   rw[e]at h;exact zAM _ (zc h)
theorem yH:∀{qs:List (Int×Int)},qs.lookup a=none->(a,b)∉qs
 |[],_,h=>nomatch h
 |q::qs,hn,h=>by
  rw[zAc]at hn;cases e:a==q.1 with
  |true=>rw[e]at hn;cases hn
  |false=>
   rw[e]at hn;rcases zAL.mp h with z|z
   .rw[<-z]at e
    simp at e
   .exact yH hn z
theorem yc{qs:List (Int×Int)}(u:(qs.map (·.2)).Nodup)(h1:(a,y)∈qs)(h2:(b,y)∈qs):a=b:=congrArg zG6 (qt u _ h1 _ h2 rfl)
def ur{qs:List (Int×Int)}(u:(qs.map (·.1)).Nodup)(h1:(a,y)∈qs)(h2:(a,z)∈qs):y=z:=congrArg zEG (qt u _ h1 _ h2 rfl)
def zy(w:List Int)(y:Int):(w++[y]).getLastD 0=y:=by simp
def nQ{w:List Int}(h:w≠[]):w.getLast h=w.getLastD 0:=by
 rw[zCl,List.getLast?_eq_some_getLast h];rfl
def aBL(h:w≠[])(y:Int):(w++[y]).headD 0=w.headD 0:=by
 cases w with
 |nil=>exact absurd rfl h
 |cons a w=>rfl
structure Wk(n:Int)(qs:List (Int×Int))(fl w:List Int)(s t:Int):Prop where
 nd:(fl++w).Nodup
 rg:∀x∈fl++w,0<=x/\x<n
 ne:w≠[]
 hd:w.headD 0=s
 lt:w.getLastD 0=t
 al:eF qs w=true
 pr:∀a b,(a,b)∈qs->b∈fl++w->a∈fl++w/\a≠t
 bk:∀x∈w,x=s\/∃a,(a,x)∈qs
 sc:∀a b,(a,b)∈qs->a∈w->a≠t->b∈w
def Wk.start(nd:fl.Nodup)(rg:∀x∈fl,0<=x/\x<n)(s0:0<=s)(s1:s<n)(hs:s∉fl)(no:∀a,(a,s)∉qs)(pr:∀a b,(a,b)∈qs->b∈fl->a∈fl):Wk n qs fl [s] s s where
 nd:=by
  rw[zBB];refine⟨nd,by simp,λ a ha b hb e=>?_⟩;rw[zAS.mp hb]at e;subst e;exact hs ha
 rg:=λ x hx=>by
  rcases zA2.mp hx with h|h
  .exact rg x h
  .rw[zAS.mp h];exact⟨s0,s1⟩
 ne:=by simp
 hd:=rfl
 lt:=rfl
 al:=rfl
 pr:=λ a b h hb=>by
  rcases zA2.mp hb with z|z
  .have:=pr a b h z
   exact⟨zA0 _ this,λ e=>by subst e;exact hs this⟩
  .rw[zAS.mp z]at h
   exact absurd h (no a)
 bk:=λ x hx=>.inl (zAS.mp hx)
 sc:=λ a b _ ha hn=>absurd (zAS.mp ha) hn
def Wk.step{n s t y:Int}(W:Wk n qs fl w s t)(u1:(qs.map (·.1)).Nodup)(u2:(qs.map (·.2)).Nodup)(h:(t,y)∈qs)(y0:0<=y)(y1:y<n):Wk n qs fl (w++[y]) s y where
 nd:=by
  have hy:y∉fl++w:=λ hm=>(W.pr t y h hm).2 rfl
  rw[<-zBg,zBB];refine⟨W.nd,by simp,λ a ha b hb e=>?_⟩;rw[zAS.mp hb]at e;subst e;exact hy ha
 rg:=λ x hx=>by
  rw[<-zBg]at hx;rcases zA2.mp hx with z|z
  .exact W.rg x z
  .rw[zAS.mp z];exact⟨y0,y1⟩
 ne:=by simp
 hd:=by rw[aBL W.ne];exact W.hd
 lt:=zy _ _
 al:=uL W.ne W.al (by rw[nQ W.ne,W.lt];exact h)
 pr:=λ a b hab hb=>by
  have hy:y∉fl++w:=λ hm=>(W.pr t y h hm).2 rfl
  rw[<-zBg]at hb ⊢;rcases zA2.mp hb with z|z
  .obtain⟨h1,h2⟩:=W.pr a b hab z
   exact⟨zA0 _ h1,λ e=>by subst e;exact hy h1⟩
  .rw[zAS.mp z]at hab
   have e:=yc u2 hab h;subst e;have ht:a∈fl++w:=zA4 _ (by rw[<-W.lt,<-nQ W.ne];exact zHy W.ne);exact⟨zA0 _ ht,λ e=>by subst e;exact hy ht⟩
 bk:=λ x hx=>by
  rcases zA2.mp hx with z|z
  .exact W.bk x z
  .rw[zAS.mp z];exact .inr ⟨t,h⟩
 sc:=λ a b hab ha hn=>by
  rcases zA2.mp ha with z|z
  .by_cases c:a=t
   .subst c
    rw[ur u1 hab h];simp
   .exact zA0 _ (W.sc a b hab z c)
  .exact absurd (zAS.mp z) hn
def aIi{l:List Int}(nd:l.Nodup)(rg:∀x∈l,0<=x/\x<n):l.length<=n.toNat:=by
 have:=nd.length_le_of_subset (l₂:=upI n) λ x hx=>vy.mpr (rg x hx)
 rwa [tD]at this
structure Rk(qs:List (Int×Int))(L w:List Int)(r t:Int):Prop where
 nd:w.Nodup
 sb:∀x∈w,x∈L
 ne:w≠[]
 hd:w.headD 0=r
 lt:w.getLastD 0=t
 al:eF qs w=true
 pr:∀a b,(a,b)∈qs->b∈w->b≠r->a∈w/\a≠t
def Rk.last{qs:List (Int×Int)}(R:Rk qs L w r t):t∈w:=by rw[<-R.lt,<-nQ R.ne];exact zHy R.ne
def Rk.step{qs:List (Int×Int)}(R:Rk qs L w r t)(u2:(qs.map (·.2)).Nodup)(h:(t,y)∈qs)(hr:y≠r)(hy:y∈L):Rk qs L (w++[y]) r y:=by
 have hn:y∉w:=λ hm=>(R.pr t y h hm hr).2 rfl
 refine⟨?_,λ x hx=>?_,by simp,by rw[aBL R.ne];exact R.hd,zy _ _,uL R.ne R.al (by rw[nQ R.ne,R.lt];exact h),λ a b hab hb hbr=>?_⟩
 .rw[zBB]
  refine⟨R.nd,by simp,λ a ha b hb e=>?_⟩;rw[zAS.mp hb]at e;subst e;exact hn ha
 .rcases zA2.mp hx with z|z
  .exact R.sb x z
  .rw[zAS.mp z];exact hy
 .rcases zA2.mp hb with z|z
  .obtain⟨h1,h2⟩:=R.pr a b hab z hbr
   exact⟨zA0 _ h1,λ e=>by subst e;exact hn h1⟩
  .rw[zAS.mp z]at hab
   have e:=yc u2 hab h;subst e;exact⟨zA0 _ R.last,λ e=>by subst e;exact hn R.last⟩
def Sc(qs:List (Int×Int))(L:List Int):Prop:=∀x∈L,∃y∈L,(x,y)∈qs
def Rk.rest{qs:List (Int×Int)}(R:Rk qs L w r t)(u1:(qs.map (·.1)).Nodup)(u2:(qs.map (·.2)).Nodup)(h:(t,r)∈qs)(S:Sc qs L):Sc qs (L.filter λ x=>!decide (x∈w)):=λ x hx=>by
 rw[zBD]at hx;obtain⟨y,hy,e⟩:=S x hx.1;have hxw:x∉w:=by simpa using hx.2
 refine⟨y,zBD.mpr ⟨hy,?_⟩,e⟩
 have:y∉w:=λ hm=>by
  by_cases c:y=r
  .subst c
   have:=yc u2 e h
   subst this;exact hxw R.last
  .exact hxw (R.pr x y e hm c).1
 simpa using this
def aOn{qs:List (Int×Int)}(u1:(qs.map (·.1)).Nodup)(u2:(qs.map (·.2)).Nodup)(nd:L.Nodup)(h:∀x∈L,∃a∈L,(a,x)∈qs):Sc qs L:=λ x hx=>by
 by_cases c:∃y,(x,y)∈qs
 .obtain⟨y,e⟩:=c
  by_cases hy:y∈L
  .exact⟨y,hy,e⟩
  .exfalso
   have h1:L.length<=((qs.filter λ q=>decide (q.2∈L)).map (·.2)).length:=nd.length_le_of_subset λ z hz=>by
    obtain⟨a,_,e⟩:=h z hz;exact zAg.mpr ⟨(a,z),zBD.mpr ⟨e,by simpa using hz⟩,rfl⟩
   have h2:((qs.filter λ q=>decide (q.2∈L)).map (·.1)).length<=(L.erase x).length:=zEj ((zGO _ zHL).nodup u1) λ z hz=>by
    obtain⟨q,hq,rfl⟩:=zAg.mp hz;rw[zBD]at hq;have hq2:q.2∈L:=by simpa using hq.2
    obtain⟨a,ha,e2⟩:=h _ hq2
    have:=yc u2 e2 hq.1
    subst this;rw[nd.mem_erase_iff];exact⟨λ z=>hy (by rw[ur u1 e (by rw[<-z];exact hq.1)];exact hq2),ha⟩
   rw[zAF]at h1 h2;rw[zDx hx]at h2
   have:=zER hx
   lia
 .exfalso
  have h1:L.length<=((qs.filter λ q=>decide (q.2∈L)).map (·.2)).length:=nd.length_le_of_subset λ z hz=>by
   obtain⟨a,_,e⟩:=h z hz;exact zAg.mpr ⟨(a,z),zBD.mpr ⟨e,by simpa using hz⟩,rfl⟩
  have h2:((qs.filter λ q=>decide (q.2∈L)).map (·.1)).length<=(L.erase x).length:=zEj ((zGO _ zHL).nodup u1) λ z hz=>by
   obtain⟨q,hq,rfl⟩:=zAg.mp hz;rw[zBD]at hq;have hq2:q.2∈L:=by simpa using hq.2
   obtain⟨a,ha,e2⟩:=h _ hq2
   have:=yc u2 e2 hq.1
   subst this;rw[nd.mem_erase_iff];exact⟨λ z=>c ⟨q.2,by rw[<-z];exact hq.1⟩,ha⟩
  rw[zAF]at h1 h2;rw[zDx hx]at h2
  have:=zER hx
  lia
def aD1:∀{l:List (List Int)},(∀r∈l,r≠[])->l.length<=l.flatten.length:=by
 intro l;induction l with
 |nil=>intro _;simp
 |cons a l ih=>
  intro h;have h1:0<a.length:=zD8.mpr (h a zAK)
  have:=ih λ x hx=>h x (zAM _ hx)
  rw[zAk,zA1,zA9];lia
def aPV(u1:(qs.map (·.1)).Nodup):aAS [.tup (qs.map pD)]= .ok (dq qs):=by
 have h2:aEU (qs.map pl)=some qs:=by
  clear u1;induction qs with
  |nil=>rfl
  |cons q qs ih=>
   rw[zAG]
   show(match aEU (qs.map pl)with|some r=>some ((q.1,q.2)::r)|none=>none)=_
   rw[ih]
 unfold aAS;dsimp only;rw[vV];dsimp only;rw[h2];dsimp only;rw[aBN (by simpa[zGp]using u1)];rfl
def aO2:aBa true (.int i) (dq qs)= .ok (.bl (!(qs.map (·.2)).any (·==i))):=by
 unfold aBa dq aD8;dsimp only;have h2:intsOf ((qs.map λ q=>(q.1,D.int q.2)).map (·.2))=some (qs.map (·.2)):=by
  rw[zAu,show((λ x:Int×D=>x.2)∘λ q:Int×Int=>(q.1,D.int q.2))=(D.int∘λ q=>q.2)from rfl,<-zAu];exact iH _
 rw[vf,h2];dsimp only;cases (qs.map (·.2)).any (·==i)<;>rfl
abbrev pcE(n:Int)(ps qs:List (Int×Int))(wys rgs:List (List Int))(left:List Int)(s6 s7 s8:Slot):En:=
 [.sh (owD n ps),.sh (.tup (qs.map pD)),.nw (dq qs),.ow (.lst (wys.map tupI)),.ow (.lst (rgs.map tupI)),.nw (.lst (left.map .int)),s6,s7,s8]
section
variable{n:Int}{ps qs:List (Int×Int)}{wys rgs:List (List Int)}{left:List Int}{s6 s7 s8:Slot}
def aPT:aD6 false (.int i) (dq qs)= .ok (.bl (qs.lookup i).isSome):=by
 unfold dq;rw[aPU,aEa];cases qs.lookup i<;>rfl
def aMT(h:qs.lookup i=some y):xq (dq qs) (.int i)= .ok (.int y):=aPS (by rw[aEa,h];rfl)
def aPw(hl:w.length<=60)(hf:f (pcE n ps qs wys rgs left s6 (.ow (.lst (w.map .int))) s8)= .ok (.int y)):
  jt 7 f (pcE n ps qs wys rgs left s6 (.ow (.lst (w.map .int))) s8)= .nx (pcE n ps qs wys rgs left s6 (.ow (.lst ((w++[y]).map .int))) s8):=by
 have hz:(w.map D.int).length<zAV:=by rw[zAF,szl];lia
 unfold jt;dsimp only[zBu,zCP];rw[hf,bU,if_pos hz,zAq];rfl
def aPv(hl:w.length<=60)(hf:f (pcE n ps qs wys rgs left s6 s7 (.ow (.lst (w.map .int))))= .ok (.int y)):
  jt 8 f (pcE n ps qs wys rgs left s6 s7 (.ow (.lst (w.map .int))))= .nx (pcE n ps qs wys rgs left s6 s7 (.ow (.lst ((w++[y]).map .int)))):=by
 have hz:(w.map D.int).length<zAV:=by rw[zAF,szl];lia
 unfold jt;dsimp only[zBu,zCP];rw[hf,bU,if_pos hz,zAq];rfl
def aMX(hn:n<=60)(u1:(qs.map (·.1)).Nodup)(u2:(qs.map (·.2)).Nodup)(rq:∀p∈qs,0<=p.2/\p.2<n)(W:Wk n qs fl w s t):
  ∃w' t',sy pcW pcB (pcE n ps qs wys rgs left s6 (.ow (.lst (w.map .int))) s8)= .nx (pcE n ps qs wys rgs left s6 (.ow (.lst (w'.map .int))) s8)/\Wk n qs fl w' s t'/\qs.lookup t'=none:=by
 have hx:∀{w t},Wk n qs fl w s t->pcX (pcE n ps qs wys rgs left s6 (.ow (.lst (w.map .int))) s8)= .ok (.int t):=λ{w t} W=>by
  have h:=W.lt;rw[zCl]at h;unfold pcX;simp[aGB rfl W.ne,h]
 have hc:∀{w t},Wk n qs fl w s t->pcW (pcE n ps qs wys rgs left s6 (.ow (.lst (w.map .int))) s8)= .ok (qs.lookup t).isSome:=λ{w t} W=>by
  unfold pcW;rw[mZ,dH,hx W,aM]
  show(okD (aD6 false (.int t) (dq qs))).bd blD=_
  rw[aPT];rfl
 obtain⟨Y',m',e,⟨w',t',rfl,W',_⟩,ec⟩:=yU (c:=pcW) (b:=pcB) (λ m Y=>∃w t,Y=pcE n ps qs wys rgs left s6 (.ow (.lst (w.map .int))) s8/\Wk n qs fl w s t/\m=61-(fl++w).length) (by
  rintro m Y ⟨w,t,rfl,W,rfl⟩;rw[hc W];cases hl:qs.lookup t with
  |none=>exact .inl rfl
  |some y=>
   have hm:=zc hl;obtain⟨y0,y1⟩:=rq _ hm;have W':=W.step u1 u2 hm y0 y1;have l1:=aIi W.nd W.rg;have l2:=aIi W'.nd W'.rg;have l3:w.length<=60:=by rw[zA1]at l1;lia
   refine .inr ⟨rfl,_,61-(fl++(w++[y])).length,aPw l3 ?_,?_,w++[y],y,rfl,W',rfl⟩
   .rw[dH]
    show((Rs.ok (dq qs)).bd λ x=>(pcX (pcE n ps qs wys rgs left s6 (.ow (.lst (w.map .int))) s8)).bd λ z=>okD (xq x z))=_
    rw[aM,hx W,aM,aMT hl];rfl
   .simp only[zA1,zA9,zBN]at l2 ⊢
    lia) (m:=61-(fl++w).length) (by lia) ⟨w,t,rfl,W,rfl⟩
 refine⟨w',t',e,W',?_⟩;rw[hc W']at ec;cases h:qs.lookup t' with
 |none=>rfl
 |some y=>rw[h]at ec;cases ec
def aKX(hL:L.length<=60)(u1:(qs.map (·.1)).Nodup)(u2:(qs.map (·.2)).Nodup)(S:Sc qs L)(R:Rk qs L w r t):
  ∃w' t',sy rcW rcB (pcE n ps qs wys rgs left s6 s7 (.ow (.lst (w.map .int))))= .nx (pcE n ps qs wys rgs left s6 s7 (.ow (.lst (w'.map .int))))/\Rk qs L w' r t'/\(t',r)∈qs:=by
 have hy:∀{w t},Rk qs L w r t->∃y∈L,(t,y)∈qs/\qs.lookup t=some y:=λ{w t} R=>by
  obtain⟨y,h1,h2⟩:=S t (R.sb t R.last);cases hl:qs.lookup t with
  |none=>exact absurd h2 (yH hl)
  |some z=>rw[ur u1 (zc hl) h2];exact⟨y,h1,h2,rfl⟩
 have hx:∀{w t},Rk qs L w r t->rcX (pcE n ps qs wys rgs left s6 s7 (.ow (.lst (w.map .int))))= .ok (.int t):=λ{w t} R=>by
  have h:=R.lt;rw[zCl]at h;unfold rcX;simp[aGB rfl R.ne,h]
 have hd:∀{w t y},Rk qs L w r t->qs.lookup t=some y->op2 xq (fL 2) rcX (pcE n ps qs wys rgs left s6 s7 (.ow (.lst (w.map .int))))= .ok (.int y):=λ{w t y} R hl=>by
  rw[dH]
  show((Rs.ok (dq qs)).bd λ x=>(rcX (pcE n ps qs wys rgs left s6 s7 (.ow (.lst (w.map .int))))).bd λ z=>okD (xq x z))=_
  rw[aM,hx R,aM,aMT hl];rfl
 have hc:∀{w t y},Rk qs L w r t->qs.lookup t=some y->rcW (pcE n ps qs wys rgs left s6 s7 (.ow (.lst (w.map .int))))= .ok (!(y==r)):=λ{w t y} R hl=>by
  have h0:op2 ixD (jc 8) (cD (.int 0)) (pcE n ps qs wys rgs left s6 s7 (.ow (.lst (w.map .int))))= .ok (.int r):=by
   have h1:=R.ne;have h2:=R.hd;cases w with
   |nil=>exact absurd rfl h1
   |cons a w=>
    have h3:atD ((a::w).map D.int) 0= .ok (.int a):=gw (k:=0) rfl;rw[zAG]at h3;rw[<-h2];simp[h3]
  unfold rcW;rw[mZ,dH,hd R hl,aM,h0,aM];simp
 obtain⟨Y',m',e,⟨w',t',rfl,R',_⟩,ec⟩:=yU (c:=rcW) (b:=rcB) (λ m Y=>∃w t,Y=pcE n ps qs wys rgs left s6 s7 (.ow (.lst (w.map .int)))/\Rk qs L w r t/\m=61-w.length) (by
  rintro m Y ⟨w,t,rfl,R,rfl⟩;obtain⟨y,h1,h2,hl⟩:=hy R;rw[hc R hl];by_cases c:y=r
  .exact .inl (by simp[c])
  .have R':=R.step u2 h2 c h1
   have l1:w.length<=L.length:=R.nd.length_le_of_subset R.sb;have l2:(w++[y]).length<=L.length:=R'.nd.length_le_of_subset R'.sb;refine .inr ⟨by simpa using c,_,61-(w++[y]).length,aPv (by lia) (hd R hl),?_,w++[y],y,rfl,R',rfl⟩;rw[zA1,zA9,zBN]at l2 ⊢;lia) (m:=61-w.length) (by lia) ⟨w,t,rfl,R,rfl⟩
 refine⟨w',t',e,R',?_⟩;obtain⟨y,h1,h2,hl⟩:=hy R';rw[hc R' hl]at ec
 have:y=r:=by simpa using ec
 rw[<-this];exact h2
end
structure Pi(n:Int)(qs:List (Int×Int))(i:Nat)(wys:List (List Int)):Prop where
 nd:wys.flatten.Nodup
 rg:∀x∈wys.flatten,0<=x/\x<n
 pr:∀a b,(a,b)∈qs->b∈wys.flatten->a∈wys.flatten
 sc:∀a b,(a,b)∈qs->a∈wys.flatten->b∈wys.flatten
 st:∀x:Int,0<=x->x<i->(∀a,(a,x)∉qs)->x∈wys.flatten
 lo:∀x∈wys.flatten,(∀a,(a,x)∉qs)->x<i
 al:∀w∈wys,w≠[]/\eF qs w=true/\(∀a,(a,w.headD 0)∉qs)/\∀b,(w.getLastD 0,b)∉qs
 hs:wys.map (·.headD 0)=(upI i).filter λ x=>!(qs.map (·.2)).any (·==x)
def aFJ(i:Nat):upI ((i+1:Nat):Int)=upI (i:Int)++[(i:Int)]:=by
 unfold upI;rw[zB3,zB3,zFm,zAq];rfl
section
variable{n:Int}{ps qs:List (Int×Int)}{wys rgs:List (List Int)}{s6 s7 s8:Slot}
def aPF(h:(qs.map (·.2)).any (·==i)=false)(a:Int):(a,i)∉qs:=λ hm=>by
 rw[zHe]at h;exact h i (zAg.mpr ⟨(a,i),hm,rfl⟩) (by simp)
def aPJ(h:(qs.map (·.2)).any (·==i)=true):∃a,(a,i)∈qs:=by
 rw[zEK]at h;obtain⟨j,hj,e⟩:=h;obtain⟨q,hq,rfl⟩:=zAg.mp hj;rw[<-(show q.2=i by simpa using e)];exact⟨q.1,hq⟩
def aDg(k:Nat)(rows:List (List Int))(hk:Y[k]? =some (.ow (.lst (rows.map tupI))))(hl:rows.length<=1000)(hf:f Y= .ok (.lst (w.map .int))):
  jt k (aq (opA dG (aA f aG))) Y= .nx (Y.set k (.ow (.lst ((rows++[w]).map tupI)))):=by
 have hz:(rows.map tupI).length<zAV:=by rw[zAF,szl];lia
 have g:aq (opA dG (aA f aG)) Y= .ok (tupI w):=by
  have hi:qH (tupI w)= .ok (tupI w):=jB (aAG w);have hA:opA dG (aA f aG) Y= .ok (tupI w):=by
   rw[ji,bR,hf,aM,dU,aM,aM];rfl
  show(opA dG (aA f aG) Y).bd qH=_
  rw[hA,aM,hi]
 unfold jt;rw[hk];dsimp only;rw[g,bU,if_pos hz,zAq];rfl
def aL8{l a b:List Int}:(l.filter λ x=>!decide (x∈a)).filter (λ x=>!decide (x∈b))=l.filter λ x=>!decide (x∈a++b):=by
 rw[List.filter_filter];refine List.filter_congr λ x _=>?_
 by_cases h1:x∈a<;>by_cases h2:x∈b<;>simp[h1,h2]
def aNT{i:Nat}(n0:0<=n)(hn:n<=60)(hi:(i:Int)<n)(u1:(qs.map (·.1)).Nodup)(u2:(qs.map (·.2)).Nodup)(rq:∀p∈qs,0<=p.2/\p.2<n)(P:Pi n qs i wys):
  ∃wys' s7',pcL (pcE n ps qs wys [] ((upI n).filter λ x=>!decide (x∈wys.flatten)) (.sh (.int i)) s7 .no)= .nx (pcE n ps qs wys' [] ((upI n).filter λ x=>!decide (x∈wys'.flatten)) (.sh (.int i)) s7' .no)/\Pi n qs (i+1) wys':=by
 have hv:tsb (op2 (aBa true) (aD 6) (fL 2)) (pcE n ps qs wys [] ((upI n).filter λ x=>!decide (x∈wys.flatten)) (.sh (.int i)) s7 .no)= .ok (!(qs.map (·.2)).any (·==(i:Int))):=by
  rw[mZ,dH]
  show(((Rs.ok (D.int i)).bd λ x=>(Rs.ok (dq qs)).bd λ y=>okD (aBa true x y)).bd blD)=_
  rw[aM,aM,aO2];rfl
 unfold pcL;rw[fW,hv,bU];cases hc:(qs.map (·.2)).any (·==(i:Int))with
 |true=>
  refine⟨wys,s7,rfl,P.nd,P.rg,P.pr,P.sc,λ x x0 x1 no=>?_,λ x hx no=>?_,P.al,?_⟩
  .by_cases e:x=i
   .subst e
    obtain⟨a,ha⟩:=aPJ hc;exact absurd ha (no a)
   .exact P.st x x0 (by lia) no
  .have:=P.lo x hx no
   lia
  .rw[aFJ,zHX,P.hs,zF5,if_neg (by rw[hc];exact zA5)]
   simp
 |false=>
  have no:=aPF hc;have hni:(i:Int)∉wys.flatten:=λ h=>by have:=P.lo _ h no;lia
  have W0:=Wk.start (n:=n) (qs:=qs) P.nd P.rg (by lia) hi hni no P.pr;obtain⟨w,t,e1,W,ht⟩:=aMX (ps:=ps) (wys:=wys) (rgs:=[]) (left:=(upI n).filter λ x=>!decide (x∈wys.flatten)) (s6:=.sh (.int i)) (s8:=.no) hn u1 u2 rq W0;have hwl:wys.length<=60:=by
   have h1:=congrArg zFk P.hs;rw[zAF]at h1;rw[h1]
   have:=zGr (λ x=>!(qs.map (·.2)).any (·==x)) (upI (i:Int))
   rw[tD]at this;lia
  have e0:m7 7 (dZ (aA (aq (aD 6)) aG)) (pcE n ps qs wys [] ((upI n).filter λ x=>!decide (x∈wys.flatten)) (.sh (.int i)) s7 .no)= .nx (pcE n ps qs wys [] ((upI n).filter λ x=>!decide (x∈wys.flatten)) (.sh (.int i)) (.ow (.lst ([(i:Int)].map .int))) .no):=by simp[jB]
  have e2:=aDg (w:=w) 3 wys (f:=jc 7) (Y:=pcE n ps qs wys [] ((upI n).filter λ x=>!decide (x∈wys.flatten)) (.sh (.int i)) (.ow (.lst (w.map .int))) .no) rfl (by lia) rfl;have e3:pcF (pcE n ps qs (wys++[w]) [] ((upI n).filter λ x=>!decide (x∈wys.flatten)) (.sh (.int i)) (.ow (.lst (w.map .int))) .no)= .nx (pcE n ps qs (wys++[w]) [] ((upI n).filter λ x=>!decide (x∈(wys++[w]).flatten)) (.sh (.int i)) (.ow (.lst (w.map .int))) .no):=by
   have hl:((upI n).filter λ x=>!decide (x∈wys.flatten)).length<=1000:=by
    have:=zGr (λ x=>!decide (x∈wys.flatten)) (upI n)
    rw[tD]at this;lia
   have h:=aCy (f:=dI (aD 5)) (js:=[none,some 7]) (Y:=pcE n ps qs (wys++[w]) [] ((upI n).filter λ x=>!decide (x∈wys.flatten)) (.sh (.int i)) (.ow (.lst (w.map .int))) .no) (l:=(upI n).filter λ x=>!decide (x∈wys.flatten)) (m:=w) (by simp[shE,xP]) (.inr rfl) hl;unfold pcF;rw[uX,h,bU,aL8];simp
  refine⟨wys++[w],.ow (.lst (w.map .int)),?_,?_⟩
  .rw[show(!false)=true from rfl,if_pos rfl,aO,e0,ao,aO,e1,ao,aO,e2,ao]
   exact e3
  .have ef:(wys++[w]).flatten=wys.flatten++w:=by simp
   refine⟨by rw[ef];exact W.nd,by rw[ef];exact W.rg,by rw[ef];exact λ a b h hb=>(W.pr a b h hb).1,?_,?_,?_,?_,?_⟩
   .rw[ef]
    intro a b h ha;rcases zA2.mp ha with z|z
    .exact zA0 _ (P.sc a b h z)
    .by_cases c:a=t
     .subst c
      exact absurd h (yH ht)
     .exact zA4 _ (W.sc a b h z c)
   .rw[ef]
    intro x x0 x1 no;by_cases e:x=i
    .subst e
     refine zA4 _ ?_;have h1:=W.ne;have h2:=W.hd;cases w with
     |nil=>exact absurd rfl h1
     |cons a w=>rw[<-h2];exact zAK
    .exact zA0 _ (P.st x x0 (by lia) no)
   .rw[ef]
    intro x hx no;rcases zA2.mp hx with z|z
    .have:=P.lo x z no
     lia
    .rcases W.bk x z with e|⟨a,ha⟩
     .rw[e];lia
     .exact absurd ha (no a)
   .intro v hv
    rcases zA2.mp hv with z|z
    .exact P.al v z
    .rw[zAS.mp z]
     exact⟨W.ne,W.al,by rw[W.hd];exact no,λ b=>by rw[W.lt];exact yH ht⟩
   .rw[aFJ,zHX,zAq,P.hs,zF5,if_pos (by rw[hc];rfl)]
    show _++[w.headD 0]=_;rw[W.hd];rfl
end
structure Pc(n:Int)(qs:List (Int×Int))(wys rgs:List (List Int)):Prop where
 pi:Pi n qs n.toNat wys
 rn:∀r∈rgs,r≠[]
 sz:wys.flatten.length+rgs.flatten.length<=n.toNat
def aGS(O:Ow n ps)(Q:Dp ps qs):∃wys rgs,jD [owD n ps,.tup (qs.map pD)]= .ok (.tup [.tup (wys.map tupI),.tup (rgs.map tupI)])/\Pc n qs wys rgs:=by
 have rq:∀p∈qs,0<=p.1/\p.1<n/\0<=p.2/\p.2<n:=λ p hp=>by have:=O.pr p (Q.sub.subset hp);exact⟨this.1,this.2.1,this.2.2.1,this.2.2.2.1⟩
 have n0:=O.n0;have n1:=O.n1;obtain⟨Y1,e1,wys,s6,s7,rfl,P⟩:=fX (a:=gnm 6) (u:=pcL) (bZ 0 n) (λ i Y=>∃wys s6 s7,Y=pcE n ps qs wys [] ((upI n).filter λ x=>!decide (x∈wys.flatten)) s6 s7 .no/\Pi n qs i wys)
  (pcE n ps qs [] [] (upI n) .no .no .no) ⟨[],.no,.no,by rw[show((upI n).filter λ x=>!decide (x∈([]:List (List Int)).flatten))=upI n by simp],by
   refine⟨by simp,by simp,by simp,by simp,λ x x0 x1=>by lia,by simp,by simp,rfl⟩⟩ (by
   rintro i d Y hd ⟨wys,s6,s7,rfl,P⟩;obtain⟨rfl,hi⟩:=ik hd;rw[zE7]at hi ⊢;obtain⟨wys',s7',e,P'⟩:=aNT (ps:=ps) (s7:=s7) n0 n1 hi Q.u1 Q.u2 (λ p hp=>(rq p hp).2.2) P;exact⟨_,e,wys',_,s7',rfl,P'⟩)
 have hln:(bZ 0 n).length=n.toNat:=by rw[aBs,zAF,tD]
 rw[hln]at P;have hL:Sc qs ((upI n).filter λ x=>!decide (x∈wys.flatten)):=aOn Q.u1 Q.u2 ((uR n).filter _) λ x hx=>by
  rw[zBD,vy]at hx;have hxf:x∉wys.flatten:=by simpa using hx.2
  by_cases c:∃a,(a,x)∈qs
  .obtain⟨a,ha⟩:=c
   refine⟨a,zBD.mpr ⟨vy.mpr ⟨(rq _ ha).1,(rq _ ha).2.1⟩,?_⟩,ha⟩
   have:a∉wys.flatten:=λ h=>hxf (P.sc a x ha h)
   simpa using this
  .exact absurd (P.st x hx.1.1 (by lia) λ a ha=>c ⟨a,ha⟩) hxf
 have hlen:wys.flatten.length+((upI n).filter λ x=>!decide (x∈wys.flatten)).length<=n.toNat:=by
  have:=(zL (uR n) P.nd λ w hw=>vy.mpr (P.rg w hw)).length_eq
  rw[zA1,tD]at this;lia
 have hcq:∀{rgs:List (List Int)} {left:List Int} {s6 s7 s8:Slot},rcC (pcE n ps qs wys rgs left s6 s7 s8)= .ok (!left.isEmpty):=λ{rgs left s6 s7 s8}=>by
  unfold rcC;rw[mZ,dH]
  show(((Rs.ok (D.lst (left.map .int))).bd λ x=>(Rs.ok (D.lst [])).bd λ y=>okD (eqR true x y)).bd blD)=_
  rw[aM,aM,aJY];rfl
 obtain⟨Y2,m2,e2,⟨rgs,left,s8,rfl,S,nd,hr,hz,_⟩,ec⟩:=yU (c:=rcC) (b:=rcL) (λ m Y=>∃rgs left s8,Y=pcE n ps qs wys rgs left s6 s7 s8/\Sc qs left/\left.Nodup/\(∀r∈rgs,r≠[])/\wys.flatten.length+rgs.flatten.length+left.length<=n.toNat/\m=left.length) (by
  rintro m Y ⟨rgs,left,s8,rfl,S,nd,hr,hz,rfl⟩;rw[hcq];cases left with
  |nil=>exact .inl rfl
  |cons r0 left=>
   have R0:Rk qs (r0::left) [r0] r0 r0:=⟨by simp,λ x hx=>by rw[zAS.mp hx];exact zAK,by simp,rfl,rfl,rfl,λ a b _ hb hn=>absurd (zAS.mp hb) hn⟩;obtain⟨w,t,e,R,ht⟩:=aKX (n:=n) (ps:=ps) (wys:=wys) (rgs:=rgs) (left:=r0::left) (s6:=s6) (s7:=s7) (by lia) Q.u1 Q.u2 S R0;have hfl:=aD1 hr;have a0:m7 8 (dZ (aA (op2 ixD (fL 5) (cD (.int 0))) aG)) (pcE n ps qs wys rgs (r0::left) s6 s7 s8)= .nx (pcE n ps qs wys rgs (r0::left) s6 s7 (.ow (.lst ([r0].map .int)))):=by
    have h3:atD ((r0::left).map D.int) 0= .ok (.int r0):=gw (k:=0) rfl;rw[zAG]at h3;simp[h3]
   have a2:=aDg (w:=w) 4 rgs (f:=jc 8) (Y:=pcE n ps qs wys rgs (r0::left) s6 s7 (.ow (.lst (w.map .int)))) rfl (by lia) rfl;have a3:rcF (pcE n ps qs wys (rgs++[w]) (r0::left) s6 s7 (.ow (.lst (w.map .int))))= .nx (pcE n ps qs wys (rgs++[w]) ((r0::left).filter λ x=>!decide (x∈w)) s6 s7 (.ow (.lst (w.map .int)))):=by
    have h:=aCy (f:=dI (aD 5)) (js:=[none,some 8]) (Y:=pcE n ps qs wys (rgs++[w]) (r0::left) s6 s7 (.ow (.lst (w.map .int)))) (l:=r0::left) (m:=w) (by simp[shE,xP]) (.inr rfl) (by lia);unfold rcF;rw[uX,h,bU];simp
   have hle:=(zL nd R.nd R.sb).length_eq;rw[zA1]at hle;have hw:0<w.length:=zD8.mpr R.ne;refine .inr ⟨rfl,pcE n ps qs wys (rgs++[w]) ((r0::left).filter λ x=>!decide (x∈w)) s6 s7 (.ow (.lst (w.map .int))),((r0::left).filter λ x=>!decide (x∈w)).length,?_,by lia,rgs++[w],_,_,rfl,R.rest Q.u1 Q.u2 ht S,nd.filter _,λ r hr'=>?_,?_,rfl⟩
   .unfold rcL
    rw[aO,a0,ao,aO,e,ao,aO,a2,ao];exact a3
   .rcases zA2.mp hr' with z|z
    .exact hr r z
    .rw[zAS.mp z];exact R.ne
   .simp only[List.flatten_append,zA1,zAk,zHx,zAy]at hz ⊢
    lia) (m:=((upI n).filter λ x=>!decide (x∈wys.flatten)).length) (by lia) ⟨[],_,.no,rfl,hL,(uR n).filter _,by simp,by simpa using hlen,rfl⟩
 refine⟨wys,rgs,?_,P,hr,by lia⟩;have st:bC 9 [owD n ps,.tup (qs.map pD)]=[.sh (owD n ps),.sh (.tup (qs.map pD)),.no,.no,.no,.no,.no,.no,.no]:=rfl;have z1:mG 2 (opA aAS (aA (aD 1) aG)) [.sh (owD n ps),.sh (.tup (qs.map pD)),.no,.no,.no,.no,.no,.no,.no]= .nx [.sh (owD n ps),.sh (.tup (qs.map pD)),.nw (dq qs),.no,.no,.no,.no,.no,.no]:=by simp[aPV Q.u1]
 have z2:m7 3 (dZ aG) [.sh (owD n ps),.sh (.tup (qs.map pD)),.nw (dq qs),.no,.no,.no,.no,.no,.no]= .nx [.sh (owD n ps),.sh (.tup (qs.map pD)),.nw (dq qs),.ow (.lst []),.no,.no,.no,.no,.no]:=by simp
 have z3:m7 4 (dZ aG) [.sh (owD n ps),.sh (.tup (qs.map pD)),.nw (dq qs),.ow (.lst []),.no,.no,.no,.no,.no]= .nx [.sh (owD n ps),.sh (.tup (qs.map pD)),.nw (dq qs),.ow (.lst []),.ow (.lst []),.no,.no,.no,.no]:=by simp
 have z4:mG 5 (lrD (op2 ixD (aD 0) (cD (.int 0)))) [.sh (owD n ps),.sh (.tup (qs.map pD)),.nw (dq qs),.ow (.lst []),.ow (.lst []),.no,.no,.no,.no]= .nx (pcE n ps qs [] [] (upI n) .no .no .no):=by
  rw[uX,aIh (n:=n) (by simp[owD]) n0 n1,bU,aBs];rfl
 have z5:iY (cY iV (aA (op2 ixD (aD 0) (cD (.int 0))) aG)) (gnm 6) pcL (pcE n ps qs [] [] (upI n) .no .no .no)= .nx (pcE n ps qs wys [] ((upI n).filter λ x=>!decide (x∈wys.flatten)) s6 s7 .no):=by
  have hi:cY iV (aA (op2 ixD (aD 0) (cD (.int 0))) aG) (pcE n ps qs [] [] (upI n) .no .no .no)= .ok (bZ 0 n):=by
   have h1:aA (op2 ixD (aD 0) (cD (.int 0))) aG (pcE n ps qs [] [] (upI n) .no .no .no)= .ok [.int n]:=by simp[owD]
   show((aA (op2 ixD (aD 0) (cD (.int 0))) aG (pcE n ps qs [] [] (upI n) .no .no .no)).bd iV)=_
   rw[h1,aM,gn (by lia) (by lia)]
  rw[fJ,hi,bU,e1]
 simp only[jD,gF,bD,st];rw[aO,z1,ao,aO,z2,ao,aO,z3,ao,aO,z4,ao,aO,z5,ao,aO,e2,ao];simp
def aIl{Y:En}{fg:D->En->Rs En}{fe:En->Rs D}{P:D->Prop}:∀(ds:List D),(∀d∈ds,∃Y1 y,fg d Y= .ok Y1/\fe Y1= .ok y/\P y)->∃ys,lcL Y fg dO fe ds= .ok ys/\ys.length=ds.length/\∀y∈ys,P y
 |[],_=>⟨[],rfl,rfl,λ y hy=>by cases hy⟩
 |d::ds,h=>by
  obtain⟨Y1,y,e1,e2,hy⟩:=h d zAK;obtain⟨ys,e3,hl,hys⟩:=aIl ds λ e he=>h e (zAM _ he)
  refine⟨y::ys,?_,by simp[hl],λ z hz=>?_⟩
  .unfold lcL
   simp[e1,dO,e2,e3]
  .rcases zAL.mp hz with rfl|hz
   .exact hy
   .exact hys z hz
def aLx{f:En->Rs D}{Y:En}(hf:f Y= .ok (.int n))(h0:0<=n)(h1:n<=60):trD f Y= .ok (tupI (qF n)):=by
 unfold trD;rw[hf,aM];unfold trR;dsimp only;rw[if_pos ⟨by lia,by lia⟩,vd]
def aDY(f:List (List Int)):imm (.tup (f.map tupI))=true:=by
 simp only[imm];exact oR λ d hd=>by obtain⟨r,_,rfl⟩:=zAg.mp hd;exact aAG r
def aP4{a:D}{f:En->Rs D}{Y:En}(e1:f Y= .ok a):bj (aA f aG) Y= .ok (.tup [a]):=by
 rw[uU,bR,e1,aM,dU,aM,aM,if_pos (by simp)]
def aP5{Y:En}:bj aG Y= .ok (.tup []):=by
 rw[uU,dU,aM,if_pos (by simp)]
def aFf{p q:Int×Int}:ltP p q=true↔p.1<q.1\/p.1=q.1/\p.2<q.2:=by
 unfold ltP;have e:HT.lexLt [p.1,p.2] [q.1,q.2]=true↔p.1<q.1\/p.1=q.1/\p.2<q.2:=by
  by_cases h1:p.1=q.1
  .by_cases h2:p.2=q.2
   .simp[HT.lexLt,h1,h2]
   .simp[HT.lexLt,h1,h2]
  .simp[HT.lexLt,h1]
 exact e
def uc{ps:List (Int×Int)}:rG ps=true↔ps.Pairwise λ p q=>p.1<q.1\/p.1=q.1/\p.2<q.2:=by
 constructor
 .intro h
  have h':=aBu.mp h;clear h;induction ps with
  |nil=>exact .nil
  |cons p ps ih=>
   have hs:∀(i:Nat) (p q:Int×Int),ps[i]? =some p->ps[i+1]? =some q->ltP p q=true:=λ i a b e1 e2=>h' (i+1) a b e1 e2
   have hp:=ih hs;refine zAo.mpr ⟨λ q hq=>?_,hp⟩;cases ps with
   |nil=>cases hq
   |cons r rs=>
    have h1:=aFf.mp (h' 0 p r rfl rfl);rcases zAL.mp hq with rfl|hq
    .exact h1
    .have h2:=(zAo.mp hp).1 q hq
     lia
 .intro h
  rw[aBu];intro i p q e1 e2;rw[aFf];obtain⟨h1,rfl⟩:=zAI.mp e1;obtain⟨h2,rfl⟩:=zAI.mp e2;exact zCm.mp h i (i+1) h1 h2 (zBa i)
def aGq{k:Nat}(h:k<=l.length):cutD l (some (k:Int)) none=l.drop k:=by
 have e1:HT.sIx l.length 0 (some (k:Int))=k:=by simp[HT.sIx];lia
 have e2:HT.sIx l.length l.length none=l.length:=rfl;unfold cutD;rw[e1,e2,zES (by rw[zBp];exact zAP _)]
def aBU:∀(a b:List Int),nG (a.map .int) (b.map .int)=decide (a=b)
 |[],[]=>rfl
 |[],y::b=>by simp[nG]
 |x::a,[]=>by simp[nG]
 |x::a,y::b=>by
  have:=aBU a b
  simp only[zAG,nG,eqD,this,List.cons.injEq];by_cases h:x=y<;>simp[h]
def aMW{s:Slot}{r:List Slot}(hw:ws≠[])(hv:aD i Y= .ok (tupI ws)):cY aC9 (aA (aD i) (aA (cU (aD i) (fU (cD (.int 1))) fV) aG)) Y= .ok ((ws.zip (ws.drop 1)).map pD):=by
 have hc:cutD (ws.map .int) (some 1) none=(ws.drop 1).map .int:=by
  have:=aGq (l:=ws.map D.int) (k:=1) (by
   have:=zD8.mpr hw
   rw[zAF];lia)
  rw[zI7];exact this
 have hz:aC8 (ws.map .int) ((ws.drop 1).map .int)=(ws.zip (ws.drop 1)).map pD:=by
  unfold aC8;rw[List.zip_map,zAu];rfl
 have e:cY aC9 (aA (aD i) (aA (cU (aD i) (fU (cD (.int 1))) fV) aG)) Y=aC9 [.tup (ws.map .int),.tup (cutD (ws.map .int) (some 1) none)]:=by
  rw[aKV,bR,hv,aM,bR,aGL,hv];simp[tupI]
 rw[e,hc];show Rs.ok (aC8 (ws.map .int) ((ws.drop 1).map .int))=_;rw[hz]
def aCx:lN n l=true↔sortI l=upI n:=by
 unfold lN;rw[aBs];show nG ((sortI l).map .int) ((upI n).map .int)=true↔_;rw[aBU,decide_eq_true_eq]
def ints_of:∀ws:List Int,(ws.map D.int).map intOf=ws
 |[]=>rfl
 |w::ws=>by rw[zAG,zAG,ints_of ws];rfl
def qg(rws:List (List Int)):(rws.map tupI).map rowOf=rws:=by
 rw[zAu]
 conv=>rhs;rw[<-zHO rws]
 exact zCQ λ r _=>ints_of r
def aMt(h:fe (Y.map shS)= .ex c)(hw:wdN c=some w):aBx wdN "told" fe Y= .ok (.str w):=by
 unfold aBx;rw[h];dsimp only;rw[hw]
def aMs(h:fe (Y.map shS)= .ok d):aBx wdN "told" fe Y= .ok (.str "told"):=by
 unfold aBx;rw[h]
def pC(w:List Int):List (Int×Int):=w.zip (w.drop 1)
def aIG(w:List Int):(pC w).length<=w.length:=by
 unfold pC;rw[zD9];exact Nat.min_le_left _ _
def aIF(w:List Int):(pC w).map zEG=w.drop 1:=zEM (by rw[zBp];exact Nat.sub_le _ _)
def aK6(h:p∈pC w):∃i:Nat,w[i]? =some p.1/\w[i+1]? =some p.2:=by
 obtain⟨i,hi,e⟩:=zCr h;unfold pC at hi e;rw[zD9,zBp]at hi;rw[List.getElem_zip,List.getElem_drop]at e;refine⟨i,?_,?_⟩
 .rw[zAD (by lia),<-e]
 .rw[zAD (by lia),<-e]
  simp only[zHB]
def aLk(h1:w[i]? =some a)(h2:w[i+1]? =some b):(a,b)∈pC w:=by
 refine zAw (i:=i) ?_;unfold pC;rw[zDk];exact⟨h1,by rw[zHY,zHB];exact h2⟩
def aJh(rws:List (List Int)):(rws.flatMap pC).length<=rws.flatten.length:=by
 induction rws with
 |nil=>simp
 |cons r rws ih=>
  have:=aIG r
  simp only[zDw,zA1,zAk];lia
def aHC{rws:List (List Int)}(hn:∀r∈rws,r≠[])(hz:rws.flatten.length<64):jH [.tup (rws.map tupI)]= .ok (.lst ((rws.flatMap pC).map pD)):=by
 have st:bC 1 [.tup (rws.map tupI)]=[.sh (.tup (rws.map tupI))]:=rfl;have hns:∀rws:List (List Int),(∀r∈rws,r≠[])->nsL [.no,.no,.no] (gnm 0) dO (inL (cY aC9 (aA (aD 0) (aA (cU (aD 0) (fU (cD (.int 1))) fV) aG))) (rN 2 (dN (gnm 1) (dN (gnm 2) uF))) dO (bj (aA (aq (aD 1)) (aA (aq (aD 2)) aG)))) (rws.map tupI)= .ok ((rws.flatMap pC).map pD):=by
  intro rws;induction rws with
  |nil=>intro _;rfl
  |cons r rws ih=>
   intro hn;have hr:=hn r zAK;have e1:=aMW (s:=.no) (r:=[]) hr (i:=0) (Y:=[.sh (tupI r),.no,.no]) rfl;have e2:=aIk (Y:=[.sh (tupI r),.no,.no]) (fg:=rN 2 (dN (gnm 1) (dN (gnm 2) uF))) (fe:=bj (aA (aq (aD 1)) (aA (aq (aD 2)) aG))) (f:=pD) (g:=pD) (r.zip (r.drop 1)) λ p _=>⟨[.sh (tupI r),.sh (.int p.1),.sh (.int p.2)],by simp[pD],by simp[pD,jB]⟩
   have e3:inL (cY aC9 (aA (aD 0) (aA (cU (aD 0) (fU (cD (.int 1))) fV) aG))) (rN 2 (dN (gnm 1) (dN (gnm 2) uF))) dO (bj (aA (aq (aD 1)) (aA (aq (aD 2)) aG))) [.sh (tupI r),.no,.no]= .ok ((pC r).map pD):=by
    unfold inL;rw[if_pos (show([.sh (tupI r),.no,.no]:En).all shB=true from rfl),e1,aM,e2];rfl
   rw[zAG,nsL];have g:gnm 0 (tupI r) [.no,.no,.no]= .ok [.sh (tupI r),.no,.no]:=rfl;rw[g,aM,aFH,aM,if_pos rfl,e3,aM,ih λ x hx=>hn x (zAM _ hx),aM,zDw,zAq]
 have hi:dI (aD 0) (shE [.sh (.tup (rws.map tupI))])= .ok (rws.map tupI):=by simp[shE,xP]
 have hs:stE [none,none,none] (shE [.sh (.tup (rws.map tupI))])=[.no,.no,.no]:=rfl;have hb:((rws.flatMap pC).map pD).length<16777216:=by
  rw[zAF]
  have:=aJh rws
  lia
 simp only[jH,di,bD,st];rw[jX];unfold aEh;rw[hi,aM,hs,hns rws hn];dsimp only;rw[if_pos (by rw[szl];exact hb),bU]
def aDi{rws:List (List Int)}(nd:rws.flatten.Nodup):(rws.flatMap pC).Nodup:=by
 have h1:(rws.flatMap pC).map zEG=(rws.map (List.drop 1)).flatten:=by
  clear nd;induction rws with
  |nil=>rfl
  |cons r rws ih=>rw[zDw,zAq,ih,aIF,zAG,zAk]
 have h2:∀rws:List (List Int),(rws.map (List.drop 1)).flatten.Sublist rws.flatten:=λ rws=>by
  induction rws with
  |nil=>exact zGJ _
  |cons r rws ih=>rw[zAG,zAk,zAk];exact(List.drop_sublist 1 r).append ih
 have h3:((rws.flatMap pC).map zEG).Nodup:=by rw[h1];exact(h2 rws).nodup nd
 rw[zDf]at h3 ⊢;rw[zDK]at h3;exact h3.imp λ h e=>h (congrArg zEG e)
def zN(h:lN n l=true):l.Nodup/\∀x,0<=x->x<n->x∈l:=by
 have e:=aCx.mp h;have p:=sortI_perm l;rw[e]at p;exact⟨p.nodup_iff.mp (uR n),λ x h0 h1=>p.mem_iff.mp (vy.mpr ⟨h0,h1⟩)⟩
def aMr(h:qs.Perm ps)(h1:rG qs=true)(h2:rG ps=true):qs=ps:=
 h.eq_of_pairwise (λ a b _ _ e1 e2=>by exfalso;lia) (uc.mp h1) (uc.mp h2)
def aKW(h:qs.Sublist ps)(h2:rG ps=true):rG qs=true:=uc.mpr ((uc.mp h2).sublist h)
def aLo{n:Int}(O:Ow n ps)(Q:Dp ps qs)(P:Pi n qs n.toNat wys)(h:lN n wys.flatten=true):(wys.flatMap pC).Perm qs:=by
 have hq:qs.Nodup:=by
  have:=Q.u1
  rw[zDf]at this ⊢;rw[zDK]at this;exact this.imp λ h e=>h (congrArg zG6 e)
 rw[zFu (aDi P.nd) hq];rintro⟨a,b⟩;constructor
 .intro hm
  obtain⟨w,hw,hp⟩:=zDX.mp hm;obtain⟨i,h1,h2⟩:=aK6 hp;exact kY.mp (P.al w hw).2.1 i a b h1 h2
 .intro hm
  have hr:=O.pr _ (Q.sub.subset hm);have ha:=(zN h).2 a hr.1 hr.2.1;obtain⟨w,hw,haw⟩:=List.mem_flatten.mp ha;obtain⟨i,hi,e⟩:=zCr haw;refine zDX.mpr ⟨w,hw,?_⟩;by_cases c:i+1<w.length
  .have h1:w[i]? =some a:=by rw[zAD hi,e]
   have h2:w[i+1]? =some w[i+1]:=zAD c;have h3:=kY.mp (P.al w hw).2.1 i a _ h1 h2;rw[<-ur Q.u1 h3 hm];exact aLk h1 h2
  .exfalso
   have hl:w.getLastD 0=a:=by
    rw[<-nQ (P.al w hw).1,List.getLast_eq_getElem,<-e];congr 1;lia
   exact(P.al w hw).2.2.2 b (by rw[hl];exact hm)
def aL6(h:lpB n ps d=true):∃rws:List (List Int),d= .tup (rws.map tupI)/\(∀r∈rws,r≠[])/\lN n rws.flatten=true/\w5 d=rws.flatten:=by
 unfold lpB at h;rw[zAN]at h;obtain⟨as,rfl⟩:=aCT h.1;have ea:=aCq (λ _=>yI) (aEt h.1);refine⟨as.map rowOf,by rw[ea],λ r hr=>?_,h.2,rfl⟩;obtain⟨a,ha,rfl⟩:=zAg.mp hr
 have:=zAf.mp (aEt h.1) a ha
 cases a with
 |tup ts=>exact(aBF this).2.2
 |_=>cases this
def iw{n:Int}(O:Ow n ps)(F:Fi1 d)(h:lpB n ps d=true):∃rws qs:List _,d= .tup (rws.map tupI)/\qs.Perm (rws.flatMap pC)/\rG qs=true/\bH [owD n ps,d]= .ok (.tup (qs.map pD)):=by
 obtain⟨rws,rfl,hn,ho,hf⟩:=aL6 h;have fw:=F.fw;rw[hf]at fw;obtain⟨nd,_⟩:=zN ho;obtain⟨qs,s1,s2,s3⟩:=yj (aDi nd) (zFE (aJh rws) fw);refine⟨rws,qs,rfl,s2,s3,?_⟩;have st:bC 2 [owD n ps,.tup (rws.map tupI)]=[.sh (owD n ps),.sh (.tup (rws.map tupI))]:=rfl;simp only[bH,dJ,bD,st];simp[fH O F,h,aHC hn fw,s1]
def zM(O:Ow n ps)(F:Fi1 d)(h:lpB n ps d=false):bH [owD n ps,d]= .ex "NoParting":=by
 have st:bC 2 [owD n ps,d]=[.sh (owD n ps),.sh d]:=rfl;simp only[bH,dJ,bD,st];simp[fH O F,h]
def aCU(h:pln d=true)(h2:sz d<64):Fi1 d:=by
 cases d with
 |tup l=>
  have h3:=aIj l;refine⟨h,?_,?_⟩
  .simp only[aH8,zAN,decide_eq_true_eq,zAf]
   refine⟨by lia,λ x hx=>?_⟩
   have:=aFh hx
   cases x with
   |tup m=>simp[uC]at this;simp[aDx];lia
   |_=>rfl
  .unfold w5
   unfold sz at h2;dsimp only at h2 ⊢
   have:∀l:List D,((l.map rowOf).flatten).length<=(l.map uC).sum:=λ l=>by
    induction l with
    |nil=>simp
    |cons x l ih=>
     rw[zAG,zAk,zA1,zAG,List.sum_cons]
     have:(rowOf x).length<=uC x:=by
      cases x with
      |tup l=>simp[rowOf,uC]
      |_=>simp[rowOf]
     lia
   have:=this l
   lia
 |_=>exact⟨h,rfl,by simp[w5]⟩
def aAK(d:D):Prop:=pln d=true/\sz d<64
def aPk:∃d,n6 [.int c]= .ok d/\aAK d:=by
 obtain⟨r0,e0,b0⟩:=gq (c:=c) (k:=90) (b:=16) (by decide) (by decide) (by decide) (by decide);have hpw:aIH (.int 10) (.int 20)= .ok (.int 100000000000000000000):=rfl;have st:bC 2 [.int c]=[.sh (.int c),.no]:=rfl;simp only[n6,kI,bD,st];simp[e0,hpw];refine aFD (by lia) (by simp;lia) λ d hd=>?_
 simp only[zAL,zAh,or_false]at hd;rcases hd with rfl|rfl|rfl|rfl|rfl|rfl|rfl|rfl|rfl|rfl|rfl|rfl|rfl|rfl|rfl|rfl<;>
  exact⟨rfl,by decide⟩
def aAJ{f1:List (List Int)}(h:f1.length+f1.flatten.length<64):aAK (.tup (f1.map tupI)):=⟨mK (vg f1),by rw[aBd];exact h⟩
def aG0(qs:List (Int×Int)):eqR true (.tup (qs.map pD)) (.tup (qs.map pD))= .ok (.bl false):=by
 obtain⟨h1,h2⟩:=rA qs;have e:eqD (.tup (qs.map pD)) (.tup (qs.map pD))=true:=uz _ (by simpa[bJ]using h2);have h3:decide (gh (qs.map pD)+1<=60)=true:=by simp;omega
 unfold eqR;simp[bJ,qQ,h2,e];omega
def eqS(x:Str):eqR true (.str x) (.str x)= .ok (.bl false):=by show Rs.ok (D.bl (!(x==x)))=_;rw[beq_self_eq_true];rfl
def aJu:wdN "NoParting"=some "parting":=by decide
def aKH(l:List Int):((l.map λ x=>[x]).flatten).length=l.length:=by
 induction l with
 |nil=>rfl
 |cons a l ih=>rw[zAG,zAk,zA1,ih,zA9,zA9,zBN];lia
abbrev lE(ns:List Int)(k c n:Int)(ps qs:List (Int×Int))(f1 al:List (List Int))(s7 s8 s9 s10 s11:Slot):En:=[.sh (.scr ns),.sh (.int k),.sh (.int c),.sh (owD n ps),.sh (.tup (qs.map pD)),.sh (.tup (f1.map tupI)),.sh (.tup (al.map tupI)),s7,s8,s9,s10,s11]
section
variable{ns:List Int}{k c n:Int}{ps qs:List (Int×Int)}{f1 al:List (List Int)}{s7 s8 s9 s10 s11:Slot}{ds ms:List D}{d:D}
def aNh(O:Ow n ps)(h:aAK d):∃t9 t10 t11,lwT (lE ns k c n ps qs f1 al s7 (.sh d) s9 s10 s11)= .nx (lE ns k c n ps qs f1 al s7 (.sh d) t9 t10 t11):=by
 have F:=aCU h.1 h.2;have e1:=rz O F;have e2:=fH O F;cases hb:lpB n ps d with
 |true=>
  rw[hb]at e1 e2;obtain⟨rws,qs',_,_,_,e3⟩:=iw O F hb;have r:aBx wdN "told" (aU bH (aA (aD 3) (aA (aD 8) aG))) (lE ns k c n ps qs f1 al s7 (.sh d) (.sh (.bl true)) (.sh (.bl true)) s11)= .ok (.str "told"):=aMs (d:=.tup (qs'.map pD)) (by
   show aU bH (aA (aD 3) (aA (aD 8) aG)) [.sh (.scr ns),.sh (.int k),.sh (.int c),.sh (owD n ps),.sh (.tup (qs.map pD)),.sh (.tup (f1.map tupI)),.sh (.tup (al.map tupI)),shS s7,.sh d,.sh (.bl true),.sh (.bl true),shS s11]=_;simp[e3])
  have g1:eqR true (.bl true) (.bl true)= .ok (.bl false):=rfl;have g2:atD [D.str "parting",D.str "told"] 1= .ok (.str "told"):=rfl;have g3:wZ [.bl true]= .ok (.int 1):=rfl;refine⟨.sh (.bl true),.sh (.bl true),.sh (.str "told"),?_⟩;simp[lwT,e1,e2,g1,r,g2,g3,eqS]
 |false=>
  rw[hb]at e1 e2;have e3:=zM O F hb;have r:aBx wdN "told" (aU bH (aA (aD 3) (aA (aD 8) aG))) (lE ns k c n ps qs f1 al s7 (.sh d) (.sh (.bl false)) (.sh (.bl false)) s11)= .ok (.str "parting"):=aMt (c:="NoParting") (by
   show aU bH (aA (aD 3) (aA (aD 8) aG)) [.sh (.scr ns),.sh (.int k),.sh (.int c),.sh (owD n ps),.sh (.tup (qs.map pD)),.sh (.tup (f1.map tupI)),.sh (.tup (al.map tupI)),shS s7,.sh d,.sh (.bl false),.sh (.bl false),shS s11]=_;simp[e3]) aJu
  have g1:eqR true (.bl false) (.bl false)= .ok (.bl false):=rfl;have g2:atD [D.str "parting",D.str "told"] 0= .ok (.str "parting"):=rfl;have g3:wZ [.bl false]= .ok (.int 0):=rfl;refine⟨.sh (.bl false),.sh (.bl false),.sh (.str "parting"),?_⟩;simp[lwT,e1,e2,g1,r,g2,g3,eqS]
def aNi(O:Ow n ps)(h:∀d∈ds,aAK d):∃t8 t9 t10 t11,iY (dI (fL 7)) (gnm 8) lwT (lE ns k c n ps qs f1 al (.nw (.lst ds)) s8 s9 s10 s11)= .nx (lE ns k c n ps qs f1 al (.nw (.lst ds)) t8 t9 t10 t11):=by
 obtain⟨Y',e,t8,t9,t10,t11,rfl⟩:=fX (a:=gnm 8) (u:=lwT) ds (λ _ Y=>∃t8 t9 t10 t11,Y=lE ns k c n ps qs f1 al (.nw (.lst ds)) t8 t9 t10 t11) (lE ns k c n ps qs f1 al (.nw (.lst ds)) s8 s9 s10 s11) ⟨_,_,_,_,rfl⟩ (by
  rintro i x Y hx ⟨t8,t9,t10,t11,rfl⟩;obtain⟨u9,u10,u11,e⟩:=aNh (ns:=ns) (k:=k) (c:=c) (qs:=qs) (f1:=f1) (al:=al) (s7:=.nw (.lst ds)) (s9:=t9) (s10:=t10) (s11:=t11) O (h x (zAw hx));exact⟨_,by rw[lU,jk];exact e,_,_,_,_,rfl⟩)
 refine⟨t8,t9,t10,t11,?_⟩;have hi:dI (fL 7) (lE ns k c n ps qs f1 al (.nw (.lst ds)) s8 s9 s10 s11)= .ok ds:=rfl;rw[fJ,hi,bU,e]
def aO1(S:sz (.tup (f1.map tupI))<=14):∃ms,w8X (lE ns k c n ps qs f1 al s7 s8 s9 s10 s11)= .ok (.lst ms)/\ms.length=3/\∀d∈ms,aAK d:=by
 have hr:=gn (j:=3) (by decide) (by decide);have hlen:(bZ 0 3).length=3:=by rw[fP];decide
 obtain⟨ys,e,hl,hy⟩:=aIl (Y:=stE [none,some 2,some 5,some 3] (shE (lE ns k c n ps qs f1 al s7 s8 s9 s10 s11))) (fg:=gnm 0) (fe:=aU cW (aA (aD 1) (aA (op2 bG (cD (.int 70)) (op2 iW (cD (.int 6)) (aD 0))) (aA (aD 2) (aA (op2 ixD (aD 3) (cD (.int 0))) aG))))) (P:=aAK) (bZ 0 3) (by
  intro d hd;obtain⟨j,rfl,j0,j1⟩:=jf.mp hd;obtain⟨o,eo,po,so⟩:=rM (c:=c) (p:=70+6*j) (m:=n) (l:=f1.map tupI) (λ e he=>by obtain⟨r,_,rfl⟩:=zAg.mp he;exact .inr ⟨r,rfl⟩) (by lia) (by lia) (by lia);refine⟨[.sh (.int j),.sh (.int c),.sh (.tup (f1.map tupI)),.sh (owD n ps)],o,rfl,?_,po,by lia⟩;have hv:aA (aD 1) (aA (op2 bG (cD (.int 70)) (op2 iW (cD (.int 6)) (aD 0))) (aA (aD 2) (aA (op2 ixD (aD 3) (cD (.int 0))) aG))) [.sh (.int j),.sh (.int c),.sh (.tup (f1.map tupI)),.sh (owD n ps)]= .ok [.int c,.int (70+6*j),.tup (f1.map tupI),.int n]:=by
   have hm:iW (.int 6) (.int j)= .ok (.int (6*j)):=zW (by decide) (by decide);simp[owD,hm]
  rw[qT,hv,aM,eo])
 refine⟨ys,?_,by rw[hl,hlen],hy⟩;unfold w8X;refine zr (ds:=bZ 0 3) ?_ (by rw[hlen];decide) e;rw[<-hr];rfl
end
def aJe(O:Ow n ps):lpB n ps (.tup (((upI n).map λ x=>[x]).map tupI))=true:=by
 have hs:(((upI n).map λ x=>[x]).map tupI).map rowOf=(upI n).map λ x=>[x]:=qg _
 have hf:((upI n).map λ x=>[x]).flatten=upI n:=by
  generalize upI n=l;induction l with
  |nil=>rfl
  |cons a l ih=>rw[zAG,zAk,ih];rfl
 unfold lpB goG w5;dsimp only;rw[hs,hf];simp only[zAN];refine⟨⟨?_,?_⟩,?_⟩
 .rw[zAf]
  intro d hd;rw[zAu]at hd;obtain⟨x,hx,rfl⟩:=zAg.mp hd
  have:=vy.mp hx
  show jK n ps (.tup [.int x])=true;unfold jK;have hd1:(ddI [x]).length=1:=rfl;simp[bu,intOf,eF,hd1,this]
 .have:∀l:List Int,l.Pairwise (·< ·)->lJ HT.lexLt (l.map λ x=>[x])=true:=λ l=>by
   induction l with
   |nil=>intro _;rfl
   |cons a l ih=>
    intro h;cases l with
    |nil=>rfl
    |cons b l=>
     have h1:=(zAo.mp h).1 b zAK;have h2:=ih (zAo.mp h).2;rw[zAG]at h2;rw[zAG,zAG];unfold lJ;rw[h2,zEF];have hne:¬a=b:=by lia
     simp[HT.lexLt,hne,h1]
  refine this _ ?_;unfold upI;rw[zDK];exact(zGa).imp λ h=>by lia
 .rw[aCx]
  have hp:=sortI_perm (upI n);refine hp.eq_of_pairwise (le:=(·<=·)) (λ a b _ _ h1 h2=>by lia) ?_ ?_
  .exact vX _
  .unfold upI
   rw[zDK];exact(zGa).imp λ h=>by lia
def aIg(O:Ow n ps)(hn:n<=7):∃t4 t5 t6 t7 t8 t9 t10 t11,lwB [.sh (.scr ns),.sh (.int k),.sh (.int c),.sh (owD n ps),s4,s5,s6,s7,s8,s9,s10,s11]= .nx [.sh (.scr ns),.sh (.int k),.sh (.int c),.sh (owD n ps),t4,t5,t6,t7,t8,t9,t10,t11]:=by
 have n0:=O.n0;obtain⟨qs,e4,Q⟩:=uE (c:=c) O;obtain⟨f1,f2,e5,P⟩:=aGS O Q;obtain⟨dod,e6,fod⟩:=aPk (c:=c);have h0:=P.sz;have h1:=aD1 λ r hr=>(P.pi.al r hr).1
 have S:sz (.tup (f1.map tupI))<=14:=by rw[aBd];lia
 obtain⟨al,hal⟩:∃al,al=(upI n).map λ x=>[x]:=⟨_,rfl⟩
 have lal:al.length+al.flatten.length<=14:=by rw[hal,zAF,aKH,tD];lia
 have c4:cg 4 (aU dD (aA (aD 2) (aA (aD 3) aG))) [.sh (.scr ns),.sh (.int k),.sh (.int c),.sh (owD n ps),s4,s5,s6,s7,s8,s9,s10,s11]= .nx [.sh (.scr ns),.sh (.int k),.sh (.int c),.sh (owD n ps),.sh (.tup (qs.map pD)),s5,s6,s7,s8,s9,s10,s11]:=by simp[e4]
 have c5:cg 5 (op2 ixD (aU jD (aA (aD 3) (aA (aD 4) aG))) (cD (.int 0))) [.sh (.scr ns),.sh (.int k),.sh (.int c),.sh (owD n ps),.sh (.tup (qs.map pD)),s5,s6,s7,s8,s9,s10,s11]= .nx [.sh (.scr ns),.sh (.int k),.sh (.int c),.sh (owD n ps),.sh (.tup (qs.map pD)),.sh (.tup (f1.map tupI)),s6,s7,s8,s9,s10,s11]:=by
  have g:atD [D.tup (f1.map tupI),D.tup (f2.map tupI)] 0= .ok (.tup (f1.map tupI)):=rfl;simp[e5,g]
 have hr:=gn (j:=n) (by lia) (by lia);have v2:w6X [.sh (.scr ns),.sh (.int k),.sh (.int c),.sh (owD n ps),.sh (.tup (qs.map pD)),.sh (.tup (f1.map tupI)),s6,s7,s8,s9,s10,s11]= .ok (.tup (al.map tupI)):=by
  have:lcD (cY iV (aA (op2 ixD (aD 3) (cD (.int 0))) aG)) [none] (gnm 0) dO (bj (aA (aq (aD 0)) aG)) [.sh (.scr ns),.sh (.int k),.sh (.int c),.sh (owD n ps),.sh (.tup (qs.map pD)),.sh (.tup (f1.map tupI)),s6,s7,s8,s9,s10,s11]= .ok (.lst (al.map tupI)):=by
   refine zr (ds:=(upI n).map .int) (by rw[<-aBs,<-hr];rfl) (by rw[zAF,tD];lia) ?_;rw[hal,zAu];exact aIk (fg:=gnm 0) (f:=D.int) (g:=tupI∘λ x=>[x]) (upI n) λ x _=>⟨[.sh (.int x)],rfl,aP4 rfl⟩
  unfold w6X;rw[ji,bR,this,aM,dU,aM,aM,tE,gR]
 have c6:cg 6 w6X [.sh (.scr ns),.sh (.int k),.sh (.int c),.sh (owD n ps),.sh (.tup (qs.map pD)),.sh (.tup (f1.map tupI)),s6,s7,s8,s9,s10,s11]= .nx (lE ns k c n ps qs f1 al s7 s8 s9 s10 s11):=by
  rw[aKM,v2,bU];rfl
 have c7:mG 7 w7X (lE ns k c n ps qs f1 al s7 s8 s9 s10 s11)= .nx (lE ns k c n ps qs f1 al (.nw (.lst [.tup (f1.map tupI),.tup (al.map tupI),.tup [],dod])) s8 s9 s10 s11):=by
  have v1:aq (aD 5) (lE ns k c n ps qs f1 al s7 s8 s9 s10 s11)= .ok (.tup (f1.map tupI)):=by
   rw[aFp]
   show(Rs.ok (D.tup (f1.map tupI))).bd qH=_
   rw[aM,jB (aDY f1)]
  have v2:aq (aD 6) (lE ns k c n ps qs f1 al s7 s8 s9 s10 s11)= .ok (.tup (al.map tupI)):=by
   rw[aFp]
   show(Rs.ok (D.tup (al.map tupI))).bd qH=_
   rw[aM,jB (aDY al)]
  have v3:aU n6 (aA (aD 2) aG) (lE ns k c n ps qs f1 al s7 s8 s9 s10 s11)= .ok dod:=by simp[e6]
  unfold w7X;rw[uX,aLH,bR,v1,aM,bR,v2,aM,bR,aP5,aM,bR,v3,aM,dU,aM,aM,aM,aM,aM,if_pos (by simp),bU];rfl
 obtain⟨m8,e8,l8,F8⟩:=aO1 (ns:=ns) (k:=k) (c:=c) (n:=n) (ps:=ps) (qs:=qs) (f1:=f1) (al:=al) (s7:=.nw (.lst [.tup (f1.map tupI),.tup (al.map tupI),.tup [],dod])) (s8:=s8) (s9:=s9) (s10:=s10) (s11:=s11) S;have c8:mG 7 (op2 bG (fL 7) w8X) (lE ns k c n ps qs f1 al (.nw (.lst [.tup (f1.map tupI),.tup (al.map tupI),.tup [],dod])) s8 s9 s10 s11)= .nx (lE ns k c n ps qs f1 al (.nw (.lst ([.tup (f1.map tupI),.tup (al.map tupI),.tup [],dod]++m8))) s8 s9 s10 s11):=by
  have hv:fL 7 (lE ns k c n ps qs f1 al (.nw (.lst [.tup (f1.map tupI),.tup (al.map tupI),.tup [],dod])) s8 s9 s10 s11)= .ok (.lst [.tup (f1.map tupI),.tup (al.map tupI),.tup [],dod]):=rfl;rw[uX,dH,hv,aM,e8,aM,aJg,if_pos (by rw[l8];simp),gR,bU];rfl
 have hall:∀d∈[.tup (f1.map tupI),.tup (al.map tupI),.tup [],dod]++m8,aAK d:=λ d hd=>by
  simp only[zA2,zAL,zAh,or_false]at hd;rcases hd with (rfl|rfl|rfl|rfl)|hd
  .exact aAJ (by lia)
  .exact aAJ (by lia)
  .exact⟨rfl,by decide⟩
  .exact fod
  .exact F8 d hd
 obtain⟨t8,t9,t10,t11,cL⟩:=aNi (ns:=ns) (k:=k) (c:=c) (n:=n) (ps:=ps) (qs:=qs) (f1:=f1) (al:=al) (s8:=s8) (s9:=s9) (s10:=s10) (s11:=s11) O hall;obtain⟨s7',hs7⟩:∃s:Slot,s= .nw (.lst ([.tup (f1.map tupI),.tup (al.map tupI),.tup [],dod]++m8)):=⟨_,rfl⟩
 rw[<-hs7]at c8 cL;have Ff:Fi1 (.tup (f1.map tupI)):=aCU (mK (vg f1)) (by lia);have Fa:Fi1 (.tup (al.map tupI)):=aCU (mK (vg al)) (by rw[aBd];lia);have cI:lwI (lE ns k c n ps qs f1 al s7' t8 t9 t10 t11)= .nx (lE ns k c n ps qs f1 al s7' t8 t9 t10 t11):=by
  have g:=rz O Ff;cases hb:lpB n ps (.tup (f1.map tupI))with
  |false=>
   rw[hb]at g;simp[lwI,g]
  |true=>
   rw[hb]at g;obtain⟨rws,qs',e1,e2,e3,z9⟩:=iw O Ff hb;have er:rws=f1:=by
    injection e1 with e1
    rw[<-qg rws,<-qg f1,e1]
   subst er;have ho:lN n rws.flatten=true:=by
    unfold lpB at hb;rw[zAN]at hb
    have:=hb.2
    unfold w5 at this;dsimp only at this
    rwa [qg]at this
   have eq:qs'=qs:=aMr (e2.trans (aLo O Q P.pi ho)) e3 (aKW Q.sub O.ris);subst eq;simp[lwI,g,z9,aG0]
 have cJ:lwJ (lE ns k c n ps qs f1 al s7' t8 t9 t10 t11)= .nx (lE ns k c n ps qs f1 al s7' t8 t9 t10 t11):=by
  obtain⟨rws,qs',e1,e2,e3,e4⟩:=iw O Fa (by rw[hal];exact aJe O);have er:rws=al:=by
   injection e1 with e1
   rw[<-qg rws,<-qg al,e1]
  subst er;have ez:qs'=[]:=by
   have:rws.flatMap pC=[]:=by
    rw[hal];generalize upI n=l;induction l with
    |nil=>rfl
    |cons a l ih=>rw[zAG,zDw,ih];rfl
   rw[this]at e2;exact zI8.mp e2
  subst ez;have g:eqR true (.tup []) (.tup [])= .ok (.bl false):=rfl;rw[zDg]at e4;simp[lwJ,e4,g]
 refine⟨.sh (.tup (qs.map pD)),.sh (.tup (f1.map tupI)),.sh (.tup (al.map tupI)),s7',t8,t9,t10,t11,?_⟩;unfold lwB;rw[aO,c4,ao,aO,c5,ao,aO,c6,ao,aO,c7,ao,aO,c8,ao,aO,cL,ao,aO,cI,ao,cJ]
def aNj(k0:0<=k):∃t2 t3 t4 t5 t6 t7 t8 t9 t10 t11,lwK [.sh (.scr ns),.sh (.int k),s2,s3,s4,s5,s6,s7,s8,s9,s10,s11]= .nx [.sh (.scr ns),.sh (.int k),t2,t3,t4,t5,t6,t7,t8,t9,t10,t11]:=by
 obtain⟨c,e2⟩:=aLg (ns:=ns) k0;obtain⟨n,ps,e3,O,n7,_,_⟩:=zu (c:=c) (most:=7) (by decide);replace e3:gj [.int c,.int 7]= .ok (owD n ps):=e3;obtain⟨n',ps',e3',O',n7'⟩:=zx (c:=c) (most:=7) (by decide);replace e3':gk [.int c,.int 7]= .ok (owD n' ps'):=e3';have c2:cg 2 (aU eY (aA (aD 0) (aA (aD 1) aG))) [.sh (.scr ns),.sh (.int k),s2,s3,s4,s5,s6,s7,s8,s9,s10,s11]= .nx [.sh (.scr ns),.sh (.int k),.sh (.int c),s3,s4,s5,s6,s7,s8,s9,s10,s11]:=by simp[e2]
 have hw:lwW [.sh (.scr ns),.sh (.int k),.sh (.int c),s3,s4,s5,s6,s7,s8,s9,s10,s11]= .ok [owD n ps,owD n' ps']:=by simp[lwW,e3,e3']
 obtain⟨Y',e,t3,t4,t5,t6,t7,t8,t9,t10,t11,rfl⟩:=fX (a:=gnm 3) (u:=lwB) [owD n ps,owD n' ps'] (λ _ Y=>∃t3 t4 t5 t6 t7 t8 t9 t10 t11,Y=[.sh (.scr ns),.sh (.int k),.sh (.int c),t3,t4,t5,t6,t7,t8,t9,t10,t11]) [.sh (.scr ns),.sh (.int k),.sh (.int c),s3,s4,s5,s6,s7,s8,s9,s10,s11] ⟨_,_,_,_,_,_,_,_,_,rfl⟩ (by
  rintro i x Y hx ⟨t3,t4,t5,t6,t7,t8,t9,t10,t11,rfl⟩;have hm:=zAw hx;simp only[zAL,zAh,or_false]at hm;rcases hm with rfl|rfl
  .obtain⟨u4,u5,u6,u7,u8,u9,u10,u11,e⟩:=aIg (ns:=ns) (k:=k) (c:=c) O (by lia) (s4:=t4) (s5:=t5) (s6:=t6) (s7:=t7) (s8:=t8) (s9:=t9) (s10:=t10) (s11:=t11)
   exact⟨_,by rw[lU,jk];exact e,_,_,_,_,_,_,_,_,_,rfl⟩
  .obtain⟨u4,u5,u6,u7,u8,u9,u10,u11,e⟩:=aIg (ns:=ns) (k:=k) (c:=c) O' (by lia) (s4:=t4) (s5:=t5) (s6:=t6) (s7:=t7) (s8:=t8) (s9:=t9) (s10:=t10) (s11:=t11)
   exact⟨_,by rw[lU,jk];exact e,_,_,_,_,_,_,_,_,_,rfl⟩)
 refine⟨.sh (.int c),t3,t4,t5,t6,t7,t8,t9,t10,t11,?_⟩;unfold lwK;rw[aO,c2,ao,fJ,hw,bU,e]
def O0:Ow 0 []:=⟨by decide,by decide,by decide,(λ p hp=>by cases hp),rfl⟩
def aIm(ns:List Int)(hn:ns.length<=63):aJn [.scr ns]= .ok (.bl true):=by
 have st:bC 12 [.scr ns]=[.sh (.scr ns),.no,.no,.no,.no,.no,.no,.no,.no,.no,.no,.no]:=rfl;have hk:∃m:Int,(if (if (10:Int)<(ns.length:Int)then(10:Int)else(ns.length:Int))>1 then(if (10:Int)<(ns.length:Int)then(10:Int)else(ns.length:Int))else 1)=m/\0<=m/\m<=10:=⟨_,rfl,by split<;>split<;>lia,by split<;>split<;>lia⟩
 obtain⟨m,hm,m0,m1⟩:=hk;have hr:=gn (j:=m) (by lia) (by lia);obtain⟨Y',e,t1,t2,t3,t4,t5,t6,t7,t8,t9,t10,t11,rfl⟩:=fX (a:=gnm 1) (u:=lwK) (bZ 0 m) (λ _ Y=>∃t1 t2 t3 t4 t5 t6 t7 t8 t9 t10 t11,Y=[.sh (.scr ns),t1,t2,t3,t4,t5,t6,t7,t8,t9,t10,t11]) [.sh (.scr ns),.no,.no,.no,.no,.no,.no,.no,.no,.no,.no,.no] ⟨_,_,_,_,_,_,_,_,_,_,_,rfl⟩ (by
  rintro i d Y hd ⟨t1,t2,t3,t4,t5,t6,t7,t8,t9,t10,t11,rfl⟩;obtain⟨rfl,_⟩:=ik hd;obtain⟨u2,u3,u4,u5,u6,u7,u8,u9,u10,u11,e⟩:=aNj (ns:=ns) (k:=0+(i:Int)) (by lia) (s2:=t2) (s3:=t3) (s4:=t4) (s5:=t5) (s6:=t6) (s7:=t7) (s8:=t8) (s9:=t9) (s10:=t10) (s11:=t11);exact⟨_,by rw[lU,jk];exact e,_,_,_,_,_,_,_,_,_,_,_,rfl⟩)
 have c1:iY lwR (gnm 1) lwK [.sh (.scr ns),.no,.no,.no,.no,.no,.no,.no,.no,.no,.no,.no]= .nx [.sh (.scr ns),t1,t2,t3,t4,t5,t6,t7,t8,t9,t10,t11]:=by
  have hi:lwR [.sh (.scr ns),.no,.no,.no,.no,.no,.no,.no,.no,.no,.no,.no]= .ok (bZ 0 m):=by
   rw[<-hr,<-hm];rfl
  rw[fJ,hi,bU,e]
 have F0:Fi1 (.tup []):=aCU rfl (by decide);have b0:lpB 0 [] (.tup [])=true:=by decide
 have w2:bx [.tup [.int 0,.tup []],.tup []]= .ok (.bl true):=(fH O0 F0).trans (by rw[b0]);have w0:bH [.tup [.int 0,.tup []],.tup []]= .ok (.tup []):=by
  obtain⟨rws,qs',e1,e2,e3,e4⟩:=iw O0 F0 b0;have er:rws=[]:=by
   injection e1 with e1
   exact List.map_eq_nil_iff.mp e1.symm
  subst er;have ez:qs'=[]:=zI8.mp e2;subst ez;exact e4
 have g:eqR false (.tup []) (.tup [])= .ok (.bl true):=rfl;simp only[aJn,aB1,bD,st];rw[aO,c1,ao];unfold lwZ;simp[w2,w0,g]
local macro_rules|`(tactic|walk_at "sc")=>`(tactic|exact⟨rfl,rfl,rfl,by decide+kernel,rfl,by decide+kernel,by decide+kernel⟩)
def top(i:Nat):Stmt:=PySem.Challenge.pw_fewways_k56_partings_and_their_pairs.main.body.getD i (.Pass ⟨0,0,0,0⟩)
abbrev tV:Stmt:=top 16
abbrev v8:Stmt:=top 17
abbrev tW:Stmt:=top 18
abbrev v7:Stmt:=top 19
abbrev pR:Stmt:=top 20
abbrev iG:Stmt:=top 21
abbrev pU:Stmt:=top 22
abbrev oH:Stmt:=top 24
abbrev zE:Stmt:=top 25
abbrev oG:Stmt:=top 27
abbrev jh:Stmt:=top 28
abbrev v9:Stmt:=top 29
abbrev jM:Stmt:=top 31
abbrev lH:Stmt:=top 32
abbrev mq:Stmt:=top 33
abbrev nC:Stmt:=top 35
abbrev tU:Stmt:=top 36
abbrev pP:Stmt:=top 37
abbrev my:Stmt:=top 38
abbrev pO:Stmt:=top 39
abbrev tR:Stmt:=top 40
abbrev nA:Stmt:=top 41
abbrev mz:Stmt:=top 42
abbrev v6:Stmt:=top 43
abbrev oA:Stmt:=top 44
abbrev pQ:Stmt:=top 45
abbrev lG:Stmt:=top 46
abbrev oF:Stmt:=top 47
abbrev ig:Stmt:=top 48
abbrev oE:Stmt:=top 49
abbrev lF:Stmt:=top 50
abbrev iD:Stmt:=top 51
abbrev wO:Stmt:=top 52
def aCo:aY ["thing"] ["thing"] (aK tV):=by walk_at "sc"
def aEF:aY ["thing"] ["thing"] (aK v8):=by walk_at "sc"
def aCp:aY ["many","thing"] ["many","thing"] (aK tW):=by walk_at "sc"
def aEE:aY ["many","thing"] ["many","thing"] (aK v7):=by walk_at "sc"
def aBq:aY ["things","at"] ["things"] (aK pR):=by walk_at "sc"
def rF:aY ["many","thing","pair"] ["many","thing"] (aK iG):=by walk_at "sc"
def aBr:aY ["many","rows"] ["many","rows"] (aK pU):=by walk_at "sc"
def aA8:aY ["near","thing","place","at"] ["near","thing"] (aK oH):=by walk_at "sc"
def aGQ:aY ["near","thing","goes","row"] ["near","thing","goes"] (aK zE):=by walk_at "sc"
def aA7:aY ["thing"] ["thing"] (aK oG):=by walk_at "sc"
def v5:aY ["thing"] ["thing"] (aK jh):=by walk_at "sc"
def aEG:aY ["web","led","begin","end"] ["web"] (aK v9):=by walk_at "sc"
def uZ:aY ["web","thing"] ["web","thing"] (aK jM):=by walk_at "sc"
def xT:aY ["ways"] ["ways"] (aK lH):=by walk_at "sc"
def yw:aY ["web","parting"] ["web","parting"] (aK mq):=by walk_at "sc"
def zB:aY ["_law_script","_law_k"] ["_law_script","_law_k"] (aK nC):=by walk_at "sc"
def aCn:aY ["_law_cell","_law_k","_law_bound","_law_left","_law_j","_law_stir"] ["_law_cell","_law_k","_law_bound"] (aK tU):=by walk_at "sc"
def aBo:aY ["_law_error","_law_kinds","_law_words"] ["_law_error"] (aK pP):=by walk_at "sc"
def yx:aY ["_law_call","_law_told","_law_error"] ["_law_call"] (aK my):=by walk_at "sc"
def aBn:aY ["_law_found"] ["_law_found"] (aK pO):=by walk_at "sc"
def aCm:aY ["_law_cell","_law_many","_law_found","_law_place"] ["_law_cell","_law_many"] (aK tR):=by walk_at "sc"
def zA:aY ["_law_cell","_law_most","_law_many","_law_kind","_law_thick","_law_order","_law_arrows","_law_spot","_law_j","_law_i","_law_here"] ["_law_cell","_law_most"] (aK nA):=by walk_at "sc"
def yz:aY ["_law_cell","_law_most","_law_many","_law_kind","_law_thick","_law_order","_law_arrows","_law_spot","_law_j","_law_i"] ["_law_cell","_law_most"] (aK mz):=by walk_at "sc"
def aED:aY ["_law_cell","_law_some"] ["_law_cell"] (aK v6):=by walk_at "sc"
def aA4:aY ["_law_row"] ["_law_row"] (aK oA):=by walk_at "sc"
def aBp:aY ["_law_web","_law_thing"] ["_law_web","_law_thing"] (aK pQ):=by walk_at "sc"
def xR:aY ["_law_rows","_law_many","_law_found","_law_row"] ["_law_rows","_law_many"] (aK lG):=by walk_at "sc"
def aA6:aY ["_law_web","_law_thing"] ["_law_web","_law_thing"] (aK oF):=by walk_at "sc"
def tQ:aY ["_law_cell","_law_web","_law_found","_law_k","_law_arrow"] ["_law_cell","_law_web"] (aK ig):=by walk_at "sc"
def aA5:aY ["_law_web","_law_pairs","_law_after","_law_ways","_law_rings","_law_left","_law_place","_law_way","_law_ring"] ["_law_web","_law_pairs"] (aK oE):=by walk_at "sc"
def xQ:aY ["_law_cell","_law_spot","_law_row","_law_many","_law_at","_law_odd_here","_law_some"] ["_law_cell","_law_spot","_law_row","_law_many"] (aK lF):=by walk_at "sc"
def rE:aY ["_law_cell","_law_spot","_law_parting","_law_many","_law_at","_law_way","_law_other","_law_some"] ["_law_cell","_law_spot","_law_parting","_law_many"] (aK iD):=by walk_at "sc"
def aMm:aY ["_law_script","_law_k","_law_cell","_law_web","_law_pairs","_law_ways","_law_alone","_law_things","_law_thing","_law_due","_law_found","_law_told"] ["_law_script"] (aK wO):=by walk_at "sc"
set_option genInjectivity false in
set_option genSizeOf false in
structure Adr where
 aAO:Addr
 jQ:zAe
 aBR:Addr
 kO:zAe
 aAP:Addr
 jR:zAe
 aBQ:Addr
 kJ:zAe
 wu:Addr
 fY:zAe
 lW:Addr
 bQ:zAe
 ww:Addr
 iT:zAe
 jq:Addr
 bf:zAe
 aD2:Addr
 lr:zAe
 uy:Addr
 gH:zAe
 o9:Addr
 cj:zAe
 aBS:Addr
 kW:zAe
 nU:Addr
 cT:zAe
 qK:Addr
 di:zAe
 sI:Addr
 dJ:zAe
 sU:Addr
 dM:zAe
 aAN:Addr
 iI:zAe
 wg:Addr
 xH:zAe
 sJ:Addr
 sY:zAe
 w6:Addr
 iR:zAe
 aAM:Addr
 jP:zAe
 sS:Addr
 eX:zAe
 sO:Addr
 eV:zAe
 aBP:Addr
 kI:zAe
 uv:Addr
 gD:zAe
 wj:Addr
 cQ:zAe
 qJ:Addr
 dh:zAe
 ux:Addr
 gG:zAe
 mQ:Addr
 cH:zAe
 uw:Addr
 gF:zAe
 qI:Addr
 dg:zAe
 lV:Addr
 bw:zAe
 aFt:Addr
 aB1:zAe
 rR:Value
 jW:Addr
 oY:Addr
 jU:Addr
 oZ:Addr
 fZ:Addr
 jT:Addr
 iK:Addr
 lw:Addr
 iJ:Addr
 jV:Addr
 lu:Addr
 mC:Addr
 o6:Addr
def wdA(t:Adr):Addr->Option Str:=λ C=>(([t.oY,t.jU,t.oZ,t.fZ,t.jT,t.iK,t.lw,t.iJ,t.jV,t.lu,t.mC,t.o6]:List Addr).zip (["web","place","way","parting","many","forest","plan","one way","order","text","deed","row"]:List Str)).lookup C
structure Txt(K:zAA)(mg:Str->Option Value)(t:Adr):Prop where
 uI:Dnr K mg "is_whole" tV ["thing"] t.aAO t.jQ
 aBX:Dnr K mg "is_many" v8 ["thing"] t.aBR t.kO
 oW:Dnr K mg "is_place" tW ["many","thing"] t.aAP t.jR
 aBW:Dnr K mg "is_pair" v7 ["many","thing"] t.aBQ t.kJ
 qN:Dnr K mg "is_rising" pR ["things"] t.wu t.fY
 lq:Dnr K mg "are_rising_pairs" iG ["many","thing"] t.lW t.bQ
 xG:Dnr K mg "each_once" pU ["many","rows"] t.ww t.iT
 jr:Dnr K mg "goes_along" oH ["near","thing"] t.jq t.bf
 rm:zA8 K zAY "goes_along"=some (some (.ref t.jq))
 aD5:Dnr K mg "all_go" zE ["near","thing","goes"] t.aD2 t.lr
 vD:Dnr K mg "is_one_way" oG ["thing"] t.uy t.gH
 pA:Dnr K mg "check_one_way" jh ["thing"] t.o9 t.cj
 aBY:Dnr K mg "all_led" v9 ["web"] t.aBS t.kW
 gC:Dnr K mg "is_led_parting" jM ["web","thing"] t.nU t.cT
 qO:Dnr K mg "arrows_along" lH ["ways"] t.qK t.di
 gf:Dnr K mg "pairs_along" mq ["web","parting"] t.sI t.dJ
 sX:Dnr K mg "_law_cell_at" nC ["_law_script","_law_k"] t.sU t.dM
 bO:Dnr K mg "_law_draw" tU ["_law_cell","_law_k","_law_bound"] t.aAN t.iI
 mU:Dnr K mg "_law_class" pP ["_law_error"] t.wg t.xH
 j6:Dnr K mg "_law_refused" my ["_law_call"] t.sJ t.sY
 wy:Dnr K mg "_law_whole" pO ["_law_found"] t.w6 t.iR
 uH:Dnr K mg "_law_turn" tR ["_law_cell","_law_many"] t.aAM t.jP
 sW:Dnr K mg "_law_one_way" nA ["_law_cell","_law_most"] t.sS t.eX
 sV:Dnr K mg "_law_ordered" mz ["_law_cell","_law_most"] t.sO t.eV
 aBV:Dnr K mg "_law_odd" v6 ["_law_cell"] t.aBP t.kI
 vB:Dnr K mg "_law_rising" oA ["_law_row"] t.uv t.gD
 xF:Dnr K mg "_law_along" pQ ["_law_web","_law_thing"] t.wj t.cQ
 qM:Dnr K mg "_law_all_once" lG ["_law_rows","_law_many"] t.qJ t.dh
 oV:Dnr K mg "_law_parted" oF ["_law_web","_law_thing"] t.ux t.gG
 mR:Dnr K mg "_law_drawn_pairs" ig ["_law_cell","_law_web"] t.mQ t.cH
 vC:Dnr K mg "_law_pieces" oE ["_law_web","_law_pairs"] t.uw t.gF
 qL:Dnr K mg "_law_bent_row" lF ["_law_cell","_law_spot","_law_row","_law_many"] t.qI t.dg
 lZ:Dnr K mg "_law_bent_parting" iD ["_law_cell","_law_spot","_law_parting","_law_many"] t.lV t.bw
 aMR:Dnr K mg "law" wO ["_law_script"] t.aFt t.aB1
 jZ:mg "MOST_PLACES"=some t.rR
 aA9:RelV (.int 60) t.rR
 zZ:mg "FewError"=some (.ref t.jW)
 l_FewError:az mg "FewError"=t.jW
 kh:cF K t.jW
 aLD:mg "NoWeb"=some (.ref t.oY)
 aLK:az mg "NoWeb"=t.oY
 xu:cF K t.oY
 aG5:mg "NoPlace"=some (.ref t.jU)
 aGc:az mg "NoPlace"=t.jU
 qZ:cF K t.jU
 aLE:mg "NoWay"=some (.ref t.oZ)
 aLL:az mg "NoWay"=t.oZ
 xx:cF K t.oZ
 wU:mg "NoParting"=some (.ref t.fZ)
 wW:az mg "NoParting"=t.fZ
 jb:cF K t.fZ
 aG4:mg "TooMany"=some (.ref t.jT)
 aGb:az mg "TooMany"=t.jT
 qY:cF K t.jT
 aE8:mg "NoForest"=some (.ref t.iK)
 aEi:az mg "NoForest"=t.iK
 nj:cF K t.iK
 aIc:mg "NoPlan"=some (.ref t.lw)
 aIr:az mg "NoPlan"=t.lw
 uO:cF K t.lw
 zY:mg "NoOneWay"=some (.ref t.iJ)
 zz:az mg "NoOneWay"=t.iJ
 kZ:cF K t.iJ
 aG6:mg "NoOrder"=some (.ref t.jV)
 aGd:az mg "NoOrder"=t.jV
 q9:cF K t.jV
 aIb:mg "NoText"=some (.ref t.lu)
 aIq:az mg "NoText"=t.lu
 uN:cF K t.lu
 aIe:mg "NoDeed"=some (.ref t.mC)
 aIs:az mg "NoDeed"=t.mC
 uP:cF K t.mC
 aLF:mg "NoRow"=some (.ref t.o6)
 aLM:az mg "NoRow"=t.o6
 yC:cF K t.o6
 aCF:mg "ValueError"=none
 aFd:mg "all"=none
 aE5:mg "bool"=none
 aNf:mg "dict"=none
 aDB:mg "enumerate"=none
 aI8:mg "int"=none
 aR:mg "isinstance"=none
 je:mg "len"=none
 zV:mg "list"=none
 aPI:mg "max"=none
 aPH:mg "min"=none
 cX:mg "range"=none
 aI7:mg "set"=none
 qC:mg "sorted"=none
 dB:mg "tuple"=none
 aPG:mg "zip"=none
 cb:aEy K t.jW [t.oY,t.jU,t.oZ,t.fZ,t.jT,t.iK,t.lw,t.iJ,t.jV,t.lu,t.mC,t.o6]=true
open PySem.Spec PyProof.Rows
section
variable{P:zA3}{w:World}{K:zAA}{mg:Str->Option Value}{base:Heap}{t:Adr}
def wR(T:Txt K mg t):cP P w K mg base (CX1 P w) 1 t.aAO t.jQ ["thing"] (spF K (az mg) 1 mF):=
 bK (k:=0) (f:=jQ) T.uI aCo λ n _ _ _ _ _ _ _=>
  (aL (au (lD (jL (aC 0) T.aR T.aI8) (mj (aHd (jL (aC 0) T.aR T.aE5))))))
def ud(T:Txt K mg t):cP P w K mg base (CX1 P w) 1 t.wu t.fY ["things"] (spF K (az mg) 1 du):=
 bK (k:=0) (f:=fY) T.qN aBq λ n _ _ _ _ _ _ _=>
  (aJ (fB (aBj (aB aH (aB (iC T.je (aB (aC 0) aF)) aF)) T.cX) (cA (ks:=[1]))
   (aL (cZ (gK (yf (aN (aC 0) (tL (aC 1) aH)) (aN (aC 0) (aC 1))))
    (aL (au fD))
    bM)))
  (aL (au fD)))
def aCD(T:Txt K mg t):cP P w K mg base (CX1 P w) 1 t.ww t.iT ["many","rows"] (spF K (az mg) 2 mY):=
 bK (k:=0) (f:=iT) T.xG aBr λ n _ _ _ _ _ _ _=>
  (aL (au (aHe (qe T.qC (aB (aMC (N:=["row","place"]) (js:=[none,none]) (ks:=[0]) (ks2:=[1]) (iB (aC 1)) cV lC (iB (aC 0)) cV lC (aZ (aC 1))) aF)) (tO T.zV T.cX (aC 0)))))
def aE4(T:Txt K mg t):cP P w K mg base (CX1 P w) 1 t.aBS t.kW ["web"] (spF K (az mg) 1 rC):=
 bK (k:=0) (f:=kW) T.aBY aEG λ n _ _ _ _ _ _ _=>
  (aJ (aOg (N:=["place"]) (js:=[none]) (ks:=[0]) (gm (aB (aN (aC 0) aH) aF) T.cX) cV)
  (aJ (fB (iB (aN (aC 0) aH)) (aDy (n:=2) (nJ (cA (ks:=[2,3])) (nJ (cA (ks:=[2,3])) aBk)))
   (aL (aDv 1 (aC 2) (aZ (aC 3)))))
  (aL (au (nq 1)))))
def xY(T:Txt K mg t):cP P w K mg base (CX1 P w) 1 t.qK t.di ["ways"] (spF K (az mg) 1 jH):=
 bK (k:=0) (f:=di) T.qO xT λ n _ _ _ _ _ _ _=>
  (aL (au (aMC (N:=["way","begin","end"]) (js:=[none,none,none]) (ks:=[0]) (ks2:=[1,2]) (iB (aC 0)) cV lC (aMh (aB (aC 0) (aB (cC (aC 0) (cu aH) cz) aF)) T.aPG) (aDy (n:=2) (nJ cV (nJ cV aBk))) lC (bI (aB (aZ (aC 1)) (aB (aZ (aC 2)) aF))))))
def zR(T:Txt K mg t):cP P w K mg base (CX1 P w) 1 t.sU t.dM ["_law_script","_law_k"] (spF K (az mg) 2 eY):=
 bK (k:=0) (f:=dM) T.sX zB λ n _ _ _ _ _ _ _=>
  (aJ (cZ (yf (aC 1) (iC T.je (aB (aC 0) aF)))
   (aL (au (aZ (aN (aC 0) (aC 1)))))
   bM)
  (aL (au aH)))
def bL(T:Txt K mg t):cP P w K mg base (CX1 P w) 1 t.aAN t.iI ["_law_cell","_law_k","_law_bound"] (spF K (az mg) 3 aV):=
 bK (k:=0) (f:=iI) T.bO aCn λ n _ _ _ _ _ _ _=>
  (aJ (cZ (aOf (aC 0) (aHc aH aH))
   (aJ (bY (i:=3) (eZ (aC 0)))
   (aJ (fB (gm (aB (aC 1) aF) T.cX) (cA (ks:=[4]))
    (aL (bY (i:=3) (eZ (aFV (aC 3) (aC 2))))))
   (aL (au (tM (aC 3) (aC 2))))))
   bM)
  (aJ (bY (i:=5) (eZ (tM (pM (bB (bB (tM (aC 0) aH) (pM aH (aC 1))) aH) aH) aH)))
  (aJ (bY (i:=5) (eZ (tM (bB (bB (pM (aC 5) (aC 5)) (pM aH (aC 1))) aH) aH)))
  (aL (au (tM (aFV (tM (pM (aC 5) aH) aH) aH) (aC 2)))))))
def aCB(T:Txt K mg t):FnH P w K mg base 1 t.wg t.xH ["_law_error"] (spW (wdA t)):=
 aGs (c1:=.ref t.jW) (c2:=.ty "ValueError") (k1:=[.ref t.oY,.ref t.jU,.ref t.oZ]) (k2:=[.ref t.fZ,.ref t.jT,.ref t.iK]) (k3:=[.ref t.lw,.ref t.iJ,.ref t.jV]) (k4:=[.ref t.lu,.ref t.mC,.ref t.o6]) (l1:=["web","place","way","parting","many","forest","plan","one way","order","text","deed","row"]) T.mU.F aBo rfl rfl rfl rfl (λ cdv A outer s H=>⟨(iu rfl rfl rfl T.aR (fG (v:=.ref t.jW) rfl T.zZ rfl)),(iu rfl rfl rfl T.aR (aF3 (v:=.ty "ValueError") (u:=.type "ValueError") rfl T.aCF rfl rfl)),(ak (iu rfl rfl rfl T.aR (fG (v:=.ref t.oY) rfl T.aLD rfl)) (ak (iu rfl rfl rfl T.aR (fG (v:=.ref t.jU) rfl T.aG5 rfl)) (ak (iu rfl rfl rfl T.aR (fG (v:=.ref t.oZ) rfl T.aLE rfl)) dY))),(ak (iu rfl rfl rfl T.aR (fG (v:=.ref t.fZ) rfl T.wU rfl)) (ak (iu rfl rfl rfl T.aR (fG (v:=.ref t.jT) rfl T.aG4 rfl)) (ak (iu rfl rfl rfl T.aR (fG (v:=.ref t.iK) rfl T.aE8 rfl)) dY))),(ak (iu rfl rfl rfl T.aR (fG (v:=.ref t.lw) rfl T.aIc rfl)) (ak (iu rfl rfl rfl T.aR (fG (v:=.ref t.iJ) rfl T.zY rfl)) (ak (iu rfl rfl rfl T.aR (fG (v:=.ref t.jV) rfl T.aG6 rfl)) dY))),(ak (iu rfl rfl rfl T.aR (fG (v:=.ref t.lu) rfl T.aIb rfl)) (ak (iu rfl rfl rfl T.aR (fG (v:=.ref t.mC) rfl T.aIe rfl)) (ak (iu rfl rfl rfl T.aR (fG (v:=.ref t.o6) rfl T.aLF rfl)) dY))),(ak gQ (ak gQ (ak gQ (ak gQ (ak gQ (ak gQ (ak gQ (ak gQ (ak gQ (ak gQ (ak gQ (ak gQ dY))))))))))))⟩) rfl rfl (by decide) λ C w h=>(aLw T.cb h).1
def aCA(T:Txt K mg t):cP P w K mg base (CX1 P w) 1 t.w6 t.iR ["_law_found"] (spF K (az mg) 1 mX):=
 bK (k:=0) (f:=iR) T.wy aBn λ n _ _ _ _ _ _ _=>
  (aL (au (lD (jL (aC 0) T.aR T.aI8) (mj (aHd (jL (aC 0) T.aR T.aE5))))))
def aAa(T:Txt K mg t):cP P w K mg base (CX1 P w) 1 t.uv t.gD ["_law_row"] (spF K (az mg) 1 jC):=
 bK (k:=0) (f:=gD) T.vB aA4 λ n _ _ _ _ _ _ _=>
  (aL (au (aBm T.aFd (aB (yr (N:=["_law_k","_law_row"]) (js:=[none,some 0]) (ks:=[0]) (aBj (aB aH (aB (iC T.je (aB (aC 0) aF)) aF)) T.cX) cV lC (aOk (aN (aC 1) (tL (aC 0) aH)) (aN (aC 1) (aC 0)))) aF))))
def xX(T:Txt K mg t):cP P w K mg base (CX1 P w) 1 t.qJ t.dh ["_law_rows","_law_many"] (spF K (az mg) 2 jG):=
 bK (k:=0) (f:=dh) T.qM xR λ n _ _ _ _ _ _ _=>
  (aJ (iZ (i:=2) (pI (m6 aF)))
  (aJ (fB (iB (aC 0)) (cA (ks:=[3]))
   (aL (aDu 2 (aZ (aC 3)))))
  (aL (au (aHe (qe T.qC (aB (m9 2) aF)) (tO T.zV T.cX (aC 1)))))))
def aAb(T:Txt K mg t):cP P w K mg base (CX1 P w) 1 t.uw t.gF ["_law_web","_law_pairs"] (spF K (az mg) 2 jD):=
 bK (k:=0) (f:=gF) T.vC aA5 λ n _ _ _ _ _ _ _=>
  (aJ (fC (i:=2) (eZ (aHf T.aNf (aB (aC 1) aF))))
  (aJ (iZ (i:=3) (pI (m6 aF)))
  (aJ (iZ (i:=4) (pI (m6 aF)))
  (aJ (fC (i:=5) (eZ (tO T.zV T.cX (aN (aC 0) aH))))
  (aJ (fB (gm (aB (aN (aC 0) aH) aF) T.cX) (cA (ks:=[6]))
   (aL (cZ (aKC (aC 6) (cN 2))
    (aJ (iZ (i:=7) (pI (m6 (aB (aZ (aC 6)) aF))))
    (aJ (yg (aMe (aN (m9 7) (v4 aH)) (cN 2))
     (aL (eU 7 (aEC (cN 2) (aN (m9 7) (v4 aH))))))
    (aJ (eU 3 (aZ (ie T.dB (aB (m9 7) aF))))
    (aL (fC (i:=5) (aMB (N:=["_law_one","_law_way"]) (js:=[none,some 7]) (ks:=[0]) (iB (aC 5)) cV (aDz (aDt (aC 0) (aC 1))) (aZ (aC 0))))))))
    bM)))
  (aJ (yg (rT (cN 5) (gM aF))
   (aJ (iZ (i:=8) (pI (m6 (aB (aN (cN 5) aH) aF))))
   (aJ (yg (rT (aEC (cN 2) (aN (m9 8) (v4 aH))) (aN (m9 8) aH))
    (aL (eU 8 (aEC (cN 2) (aN (m9 8) (v4 aH))))))
   (aJ (eU 4 (aZ (ie T.dB (aB (m9 8) aF))))
   (aL (fC (i:=5) (aMB (N:=["_law_one","_law_ring"]) (js:=[none,some 8]) (ks:=[0]) (iB (aC 5)) cV (aDz (aDt (aC 0) (aC 1))) (aZ (aC 0)))))))))
  (aL (au (bI (aB (ie T.dB (aB (nq 3) aF)) (aB (ie T.dB (aB (nq 4) aF)) aF)))))))))))
def aE3(T:Txt K mg t):cP P w K mg base (CX1 P w) 2 t.aBR t.kO ["thing"] (spF K (az mg) 1 rB):=
 bK (k:=1) (f:=kO) T.aBX aEF λ n _ _ _ _ _ _ _=>
  (aL (au (lD (aa (wR T) T.uI (aB (aC 0) aF)) (mj (aKP aH (aC 0) (aFU T.jZ T.aA9 (λ _ _=>.int _)))))))
def ph(T:Txt K mg t):cP P w K mg base (CX1 P w) 2 t.aAP t.jR ["many","thing"] (spF K (az mg) 2 eG):=
 bK (k:=1) (f:=jR) T.oW aCp λ n _ _ _ _ _ _ _=>
  (aL (au (lD (aa (wR T) T.uI (aB (aC 1) aF)) (mj (aFT aH (aC 1) (aC 0))))))
def wQ(T:Txt K mg t):cP P w K mg base (CX1 P w) 2 t.aAM t.jP ["_law_cell","_law_many"] (spF K (az mg) 2 iM):=
 bK (k:=1) (f:=jP) T.uH aCm λ n _ _ _ _ _ _ _=>
  (aJ (iZ (i:=2) (pI (m6 aF)))
  (aJ (fB (gm (aB (aC 1) aF) T.cX) (cA (ks:=[3]))
   (aL (aGK 2 (aa (bL T) T.bO (aB (aC 0) (aB (bB aH (aC 3)) (aB (bB (aC 3) aH) aF)))) (aZ (aC 3)))))
  (aL (au (nq 2)))))
def aE1(T:Txt K mg t):cP P w K mg base (CX1 P w) 2 t.aBP t.kI ["_law_cell"] (spF K (az mg) 1 n6):=
 bK (k:=1) (f:=kI) T.aBV aED λ n _ _ _ _ _ _ _=>
  (aJ (fC (i:=1) (eZ (gM (aB vZ (aB fD (aB aH (aB (v4 aH) (aB nu (aB nu (aB (bI aF) (aB (gM aF) (aB aKR (aB (bI (aB (bI aF) aF)) (aB (bI (aB aH aF)) (aB (bI (aB (bI (aB aH (aB aH aF))) aF)) (aB (gM (aB aH (aB aH aF))) (aB (bI (aB vZ aF)) (aB (bI (aB nu (aB nu aF))) (aB (aHc aH aH) aF)))))))))))))))))))
  (aL (au (aN (cN 1) (aa (bL T) T.bO (aB (aC 0) (aB aH (aB aH aF))))))))
def aCC(T:Txt K mg t):cP P w K mg base (CX1 P w) 2 t.wj t.cQ ["_law_web","_law_thing"] (spF K (az mg) 2 dF):=
 bK (k:=1) (f:=cQ) T.xF aBp λ n _ _ _ _ _ _ _=>
  (aJ (cZ (SW.st (pH (gK (fO (jL (aC 1) T.aR T.dB))) (lA (rW (iC T.je (aB (aC 1) aF)) aH))))
   (aL (au fD))
   bM)
  (aJ (cZ (SW.st (pH (gK (fO (aBm T.aFd (aB (yr (N:=["_law_one","_law_web"]) (js:=[none,some 0]) (ks:=[0]) (iB (aC 1)) cV lC (lD (aa (aCA T) T.wy (aB (aC 0) aF)) (mj (aFT aH (aC 0) (aN (aC 1) aH))))) aF)))) (lA (yf (aFS T.je (aB (aHa T.aI7 (aB (aC 1) aF)) aF)) (iC T.je (aB (aC 1) aF))))))
   (aL (au fD))
   bM)
  (aL (au (aBm T.aFd (aB (yr (N:=["_law_k","_law_thing","_law_web"]) (js:=[none,some 1,some 0]) (ks:=[0]) (gm (aB (tL (iC T.je (aB (aC 1) aF)) aH) aF) T.cX) cV lC (aOm (bI (aB (aN (aC 1) (aC 0)) (aB (aN (aC 1) (bB (aC 0) aH)) aF))) (aN (aC 2) aH))) aF))))))
def tZ(T:Txt K mg t):cP P w K mg base (CX1 P w) 2 t.mQ t.cH ["_law_cell","_law_web"] (spF K (az mg) 2 dD):=
 bK (k:=1) (f:=cH) T.mR tQ λ n _ _ _ _ _ _ _=>
  (aJ (iZ (i:=2) (pI (m6 aF)))
  (aJ (fB (aKL (aB (aN (aC 1) aH) aF) T.aDB) (aDy (n:=2) (nJ (cA (ks:=[3,4])) (nJ (cA (ks:=[3,4])) aBk)))
   (aL (cZ (aH1 (aa (bL T) T.bO (aB (aC 0) (aB (bB aH (tM (aC 3) aH)) (aB aH aF)))) aH)
    (aL (cZ (rW (yr (N:=["_law_one","_law_arrow"]) (js:=[none,some 4]) (ks:=[0]) (iB (aC 2)) cV (aDz (SW.st (pH (rW (aN (aC 0) aH) (aN (aC 1) aH)) (lA (rW (aN (aC 0) aH) (aN (aC 1) aH)))))) (aZ (aC 0))) (gM aF))
     (aL (eU 2 (aZ (aC 4))))
     bM))
    bM)))
  (aL (au (ie T.dB (aB (nq 2) aF))))))
def xW(T:Txt K mg t):cP P w K mg base (CX1 P w) 2 t.qI t.dg ["_law_cell","_law_spot","_law_row","_law_many"] (spF K (az mg) 4 jF):=
 bK (k:=1) (f:=dg) T.qL xQ λ n _ _ _ _ _ _ _=>
  (aJ (bY (i:=4) (eZ (aa (bL T) T.bO (aB (aC 0) (aB (aC 1) (aB (bB (iC T.je (aB (aC 2) aF)) aH) aF))))))
  (aJ (fC (i:=5) (eZ (aN (gM (aB aH (aB (aZ (aC 3)) (aB (v4 aH) (aB fD (aB vZ (aB nu (aB (gM (aB aH aF)) (aB (tL (aC 3) aH) (aB aH aF)))))))))) (aa (bL T) T.bO (aB (aC 0) (aB (bB (aC 1) aH) (aB aH aF)))))))
  (aJ (fC (i:=6) (eZ (gM (aB (bB (bB (aZ (cC (aC 2) cz (cu (aC 4)))) (bI (aB (cN 5) aF))) (aZ (cC (aC 2) (cu (bB (aC 4) aH)) cz))) (aB (bB (aZ (cC (aC 2) cz (cu (aC 4)))) (aZ (cC (aC 2) (cu (bB (aC 4) aH)) cz))) (aB (bB (bB (aZ (cC (aC 2) cz (cu (aC 4)))) (bI (aB (cN 5) aF))) (aZ (cC (aC 2) (cu (aC 4)) cz))) (aB (aZ (aHb (aC 2))) aF)))))))
  (aJ (fC (i:=6) (eZ (bB (cN 6) (gM (aB (aFR T.zV (aB (aZ (aC 2)) aF)) (aB (bB (aZ (aC 2)) (aZ (cC (aC 2) cz (cu aH)))) (aB (bB (aZ (cC (aC 2) (cu aH) cz)) (aZ (cC (aC 2) cz (cu aH)))) (aB (bI aF) (aB vZ (aB (bI (aB (aZ (aC 2)) aF)) aF))))))))))
  (aL (au (aN (cN 6) (aa (bL T) T.bO (aB (aC 0) (aB (bB (aC 1) aH) (aB aH aF)))))))))))
def aE2(T:Txt K mg t):cP P w K mg base (CX1 P w) 3 t.aBQ t.kJ ["many","thing"] (spF K (az mg) 2 n8):=
 bK (k:=2) (f:=kJ) T.aBW aEE λ n _ _ _ _ _ _ _=>
  (aJ (cZ (SW.st (pH (gK (fO (jL (aC 1) T.aR T.dB))) (lA (rT (iC T.je (aB (aC 1) aF)) aH))))
   (aL (au fD))
   bM)
  (aL (au (lD (aa (ph T) T.oW (aB (aC 0) (aB (aN (aC 1) aH) aF))) (lD (aa (ph T) T.oW (aB (aC 0) (aB (aN (aC 1) aH) aF))) (mj (aOj (aN (aC 1) aH) (aN (aC 1) aH))))))))
def aAd(T:Txt K mg t):cP P w K mg base (CX1 P w) 3 t.jq t.bf ["near","thing"] (spF K (az mg) 2 cB):=
 bK (k:=2) (f:=bf) T.jr aA8 λ n _ _ _ _ _ _ _=>
  (aJ (cZ (SW.st (pH (gK (fO (jL (aC 1) T.aR T.dB))) (lA (rW (iC T.je (aB (aC 1) aF)) aH))))
   (aL (au fD))
   bM)
  (aJ (fB (iB (aC 1)) (cA (ks:=[2]))
   (aL (cZ (gK (fO (aa (ph T) T.oW (aB (iC T.je (aB (aC 0) aF)) (aB (aC 2) aF)))))
    (aL (au fD))
    bM)))
  (aJ (cZ (rT (aFS T.je (aB (aHa T.aI7 (aB (aC 1) aF)) aF)) (iC T.je (aB (aC 1) aF)))
   (aL (au fD))
   bM)
  (aJ (fB (aBj (aB aH (aB (iC T.je (aB (aC 1) aF)) aF)) T.cX) (cA (ks:=[3]))
   (aL (cZ (aDt (aN (aC 1) (aC 3)) (aN (aC 0) (aN (aC 1) (tL (aC 3) aH))))
    (aL (au fD))
    bM)))
  (aL (au fD))))))
def zQ(T:Txt K mg t):cP P w K mg base (CX1 P w) 3 t.sS t.eX ["_law_cell","_law_most"] (spF K (az mg) 2 gk):=
 bK (k:=2) (f:=eX) T.sW zA λ n _ _ _ _ _ _ _=>
  (aJ (bY (i:=2) (eZ (aa (bL T) T.bO (aB (aC 0) (aB aH (aB (bB (aC 1) aH) aF))))))
  (aJ (bY (i:=3) (eZ (aa (bL T) T.bO (aB (aC 0) (aB aH (aB aH aF))))))
  (aJ (fC (i:=4) (eZ (aN (gM (aB aH (aB aH (aB aH (aB aH (aB aH (aB aH (aB aH (aB aH aF))))))))) (aC 3))))
  (aJ (bY (i:=5) (eZ (aa (wQ T) T.uH (aB (aC 0) (aB (aC 2) aF)))))
  (aJ (iZ (i:=6) (pI (m6 aF)))
  (aJ (bY (i:=7) (eZ aH))
  (aJ (fB (gm (aB (aC 2) aF) T.cX) (cA (ks:=[8]))
   (aL (fB (gm (aB (aC 8) aF) T.cX) (cA (ks:=[9]))
    (aJ (bY (i:=7) (eZ (bB (aC 7) aH)))
    (aJ (bY (i:=10) (eZ (aa (bL T) T.bO (aB (aC 0) (aB (aC 7) (aB aH aF))))))
    (aJ (cZ (SW.st (pH (yf (aC 10) (cN 4)) (lA (SW.st (tH (rW (aC 3) aH) (qd (rW (aC 8) (bB (aC 9) aH))))))))
     (aL (eU 6 (bI (aB (aZ (aN (aC 5) (aC 9))) (aB (aZ (aN (aC 5) (aC 8))) aF)))))
     bM)
    (aL (cZ (SW.st (pH (SW.st (tH (aH1 (aC 3) aH) (tH (rT (aC 3) aH) (qd (yf (aa (bL T) T.bO (aB (aC 0) (aB (bB (aC 7) aH) (aB aH aF)))) (tL (cN 4) aH)))))) (lA (SW.st (tH (rW (aC 3) aH) (qd (yf (aC 10) aH)))))))
     (aL (eU 6 (bI (aB (aZ (aN (aC 5) (aC 8))) (aB (aZ (aN (aC 5) (aC 9))) aF)))))
     bM))))))))
  (aJ (cZ (SW.st (tH (rW (aC 3) aH) (qd (aH1 (aC 2) aH))))
   (aL (eU 6 (bI (aB (aZ (aN (aC 5) (tL (aC 2) aH))) (aB (aZ (aN (aC 5) aH)) aF)))))
   bM)
  (aL (au (bI (aB (aZ (aC 2)) (aB (ie T.dB (aB (aBl T.qC T.aI7 (aB (m9 6) aF)) aF)) aF)))))))))))))
def zP(T:Txt K mg t):cP P w K mg base (CX1 P w) 3 t.sO t.eV ["_law_cell","_law_most"] (spF K (az mg) 2 gj):=
 bK (k:=2) (f:=eV) T.sV yz λ n _ _ _ _ _ _ _=>
  (aJ (bY (i:=2) (eZ (aa (bL T) T.bO (aB (aC 0) (aB aH (aB (bB (aC 1) aH) aF))))))
  (aJ (bY (i:=3) (eZ (aa (bL T) T.bO (aB (aC 0) (aB aH (aB aH aF))))))
  (aJ (fC (i:=4) (eZ (aN (gM (aB aH (aB aH (aB aH (aB aH (aB aH (aB aH aF))))))) (aC 3))))
  (aJ (bY (i:=5) (eZ (aa (wQ T) T.uH (aB (aC 0) (aB (aC 2) aF)))))
  (aJ (iZ (i:=6) (pI (m6 aF)))
  (aJ (bY (i:=7) (eZ aH))
  (aJ (fB (gm (aB (aC 2) aF) T.cX) (cA (ks:=[8]))
   (aL (fB (gm (aB (aC 8) aF) T.cX) (cA (ks:=[9]))
    (aJ (bY (i:=7) (eZ (bB (aC 7) aH)))
    (aL (cZ (SW.st (pH (yf (aa (bL T) T.bO (aB (aC 0) (aB (aC 7) (aB aH aF)))) (cN 4)) (lA (SW.st (tH (rW (aC 3) aH) (qd (aOe (aC 8) (bI (aB (bB (pM aH (aC 9)) aH) (aB (bB (pM aH (aC 9)) aH) aF))))))))))
     (aL (eU 6 (bI (aB (aZ (aN (aC 5) (aC 9))) (aB (aZ (aN (aC 5) (aC 8))) aF)))))
     bM))))))
  (aL (au (bI (aB (aZ (aC 2)) (aB (ie T.dB (aB (qe T.qC (aB (m9 6) aF)) aF)) aF))))))))))))
def rZ(T:Txt K mg t):cP P w K mg base (CX1 P w) 3 t.ux t.gG ["_law_web","_law_thing"] (spF K (az mg) 2 jE):=
 bK (k:=2) (f:=gG) T.oV aA6 λ n _ _ _ _ _ _ _=>
  (aJ (cZ (SW.st (pH (gK (fO (jL (aC 1) T.aR T.dB))) (lA (gK (fO (aBm T.aFd (aB (yr (N:=["_law_way","_law_web"]) (js:=[none,some 0]) (ks:=[0]) (iB (aC 1)) cV lC (aa (aCC T) T.xF (aB (aC 1) (aB (aC 0) aF)))) aF)))))))
   (aL (au fD))
   bM)
  (aL (au (lD (aa (aAa T) T.vB (aB (aC 1) aF)) (mj (aa (xX T) T.qM (aB (aC 1) (aB (aN (aC 0) aH) aF))))))))
def rJ(T:Txt K mg t):cP P w K mg base (CX1 P w) 3 t.lV t.bw ["_law_cell","_law_spot","_law_parting","_law_many"] (spF K (az mg) 4 cW):=
 bK (k:=2) (f:=bw) T.lZ rE λ n _ _ _ _ _ _ _=>
  (aJ (bY (i:=4) (eZ (aa (bL T) T.bO (aB (aC 0) (aB (aC 1) (aB (bB (iC T.je (aB (aC 2) aF)) aH) aF))))))
  (aJ (bY (i:=5) (eZ (aN (bB (aC 2) (bI (aB (bI aF) aF))) (aC 4))))
  (aJ (cZ (fO (jL (aC 5) T.aR T.dB))
   (aL (fC (i:=6) (eZ (aa (xW T) T.qL (aB (aC 0) (aB (bB (aC 1) aH) (aB (aC 5) (aB (aC 3) aF))))))))
   (aL (fC (i:=6) (eZ (aN (gM (aB aH (aB (aZ (aC 3)) (aB fD (aB vZ (aB (bB (aZ (aC 5)) aH) (aB (bI (aB (aZ (aC 5)) aF)) aF))))))) (aa (bL T) T.bO (aB (aC 0) (aB (bB (aC 1) aH) (aB aH aF)))))))))
  (aJ (iZ (i:=7) (pI (m6 (aB (bB (bB (aZ (cC (aC 2) cz (cu (aC 4)))) (bI (aB (cN 6) aF))) (aZ (cC (aC 2) (cu (bB (aC 4) aH)) cz))) (aB (bB (aZ (cC (aC 2) cz (cu (aC 4)))) (aZ (cC (aC 2) (cu (bB (aC 4) aH)) cz))) (aB (bB (aZ (aC 2)) (aZ (cC (aC 2) cz (cu aH)))) aF))))))
  (aJ (iZ (i:=7) (pI (aMj (nq 7) (gM (aB (aZ (aHb (aC 2))) (aB (aFR T.zV (aB (aZ (aC 2)) aF)) (aB (bI (aB (aZ (aC 2)) aF)) (aB vZ (aB (bB (aZ (aC 2)) (bI (aB (bI aF) aF))) aF)))))))))
  (aJ (eU 7 (bB (bB (aZ (cC (aC 2) cz (cu (aC 4)))) (bI (aB (cN 6) aF))) (aZ (cC (aC 2) (cu (aC 4)) cz))))
  (aL (au (aN (nq 7) (aa (bL T) T.bO (aB (aC 0) (aB (bB (aC 1) aH) (aB aH aF)))))))))))))
def rK(T:Txt K mg t):cP P w K mg base (CX1 P w) 4 t.lW t.bQ ["many","thing"] (spF K (az mg) 2 bz):=
 bK (k:=3) (f:=bQ) T.lq rF λ n _ _ _ _ _ _ _=>
  (aJ (cZ (gK (fO (jL (aC 1) T.aR T.dB)))
   (aL (au fD))
   bM)
  (aJ (fB (iB (aC 1)) (cA (ks:=[2]))
   (aL (cZ (gK (fO (aa (aE2 T) T.aBW (aB (aC 0) (aB (aC 2) aF)))))
    (aL (au fD))
    bM)))
  (aL (au (aa (ud T) T.qN (aB (aC 1) aF))))))
def aGZ(T:Txt K mg t):cP P w K mg base (CX1 P w) 4 t.aD2 t.lr ["near","thing","goes"] (spF K (az mg) 3 qX):=
 bK (k:=3) (f:=lr) T.aD5 aGQ λ n _ _ _ _ _ _ _=>
  (aJ (cZ (gK (fO (jL (aC 1) T.aR T.dB)))
   (aL (au fD))
   bM)
  (aJ (fB (iB (aC 1)) (cA (ks:=[3]))
   (aL (cZ (gK (fO (aHg (i:=2) (aHV (aAd T) (zE8 rfl) T.rm T.jr.F.kp T.jr.b aJx) (aB (aC 0) (aB (aC 3) aF)) (zp (zp (λ _ _ h=>aFg h))))))
    (aL (au fD))
    bM)))
  (aL (au (aa (ud T) T.qN (aB (aC 1) aF))))))
def aAc(T:Txt K mg t):cP P w K mg base (CX1 P w) 5 t.uy t.gH ["thing"] (spF K (az mg) 1 ju):=
 bK (k:=4) (f:=gH) T.vD aA7 λ n _ _ _ _ _ _ _=>
  (aJ (cZ (SW.st (pH (gK (fO (jL (aC 0) T.aR T.dB))) (lA (rT (iC T.je (aB (aC 0) aF)) aH))))
   (aL (au fD))
   bM)
  (aL (au (lD (aa (aE3 T) T.aBX (aB (aN (aC 0) aH) aF)) (mj (aa (rK T) T.lq (aB (aN (aC 0) aH) (aB (aN (aC 0) aH) aF))))))))
def vp(T:Txt K mg t):cP P w K mg base (CX1 P w) 6 t.o9 t.cj ["thing"] (spF K (az mg) 1 eO):=
 bK (k:=5) (f:=cj) T.pA v5 λ n _ _ _ _ _ _ _=>
  (aL (cZ (gK (fO (aa (aAc T) T.vD (aB (aC 0) aF))))
   (aL (aCd rfl T.zY T.zz T.kZ (aB nu aF)))
   bM))
def iz(T:Txt K mg t):cP P w K mg base (CX1 P w) 7 t.nU t.cT ["web","thing"] (spF K (az mg) 2 bx):=
 bK (k:=6) (f:=cT) T.gC uZ λ n _ _ _ _ _ _ _=>
  (aJ (aKD (aa (vp T) T.pA (aB (aC 0) aF)))
  (aL (au (lD (aa (aGZ T) T.aD5 (aB (aa (aE4 T) T.aBY (aB (aC 0) aF)) (aB (aC 1) (aB (aFU (v:=.ref t.jq) T.jr.m rfl (λ _ _=>.fn T.rm)) aF)))) (mj (aa (aCD T) T.xG (aB (aN (aC 0) aH) (aB (aC 1) aF))))))))
def iy(T:Txt K mg t):cP P w K mg base (CX1 P w) 8 t.sI t.dJ ["web","parting"] (spF K (az mg) 2 bH):=
 bK (k:=7) (f:=dJ) T.gf yw λ n _ _ _ _ _ _ _=>
  (aJ (cZ (gK (fO (aa (iz T) T.gC (aB (aC 0) (aB (aC 1) aF)))))
   (aL (aCd rfl T.wU T.wW T.jb (aB nu aF)))
   bM)
  (aL (au (ie T.dB (aB (qe T.qC (aB (aa (xY T) T.qO (aB (aC 1) aF)) aF)) aF)))))
def zO(T:Txt K mg t):cP P w K mg base (CX1 P w) 10 t.sJ t.sY ["_law_call"] (spR P w K mg base 9 "told" (wdA t)):=
 aEL T.j6.F yx rfl rfl rfl rfl rfl rfl T.zZ T.kh (aCB T) T.mU.m T.mU.F.kp T.mU.b (by decide) λ C w h=>(aLw T.cb h).2
def aOY(T:Txt K mg t):∀c w,wdN c=some w->wdA t (az mg c)=some w:=aOZ (ns:=["NoWeb","NoPlace","NoWay","NoParting","TooMany","NoForest","NoPlan","NoOneWay","NoOrder","NoText","NoDeed","NoRow"]) T.cb (by simp only[List.map,T.aLK,T.aGc,T.aLL,T.wW,T.aGb,T.aEi,T.aIr,T.zz,T.aGd,T.aIq,T.aIs,T.aLM])
def aPW(T:Txt K mg t){c Pt:Addr}{s:zAH}{H:Hp}(hr:gJ 10 (zC9.deeper (zCv "law" (aK wO) s.heap.objs.size t.aFt (.ref c))))(Lx:xM (cxW P w K mg base ["_law_script","_law_k","_law_cell","_law_web","_law_pairs","_law_ways","_law_alone","_law_things","_law_thing","_law_due","_law_found","_law_told"] "law" (aK wO) t.aFt (.ref c) zC9 s H Pt) Pt)(n:List.Nodup (["_law_script","_law_k","_law_cell","_law_web","_law_pairs","_law_ways","_law_alone","_law_things","_law_thing","_law_due","_law_found","_law_told"]:List Str)):
  SSs (ctW P w K mg base ["_law_script","_law_k","_law_cell","_law_web","_law_pairs","_law_ways","_law_alone","_law_things","_law_thing","_law_due","_law_found","_law_told"] "law" (aK wO) t.aFt (.ref c) zC9 s H Pt 10 hr) (dX wO) aB1:=
  (aJ (fB (gm (aB (aKO T.aPI (aB aH (aB (aKN T.aPH (aB (iC T.je (aB (aC 0) aF)) (aB aH aF))) aF))) aF) T.cX) (cA (ks:=[1]))
   (aJ (bY (i:=2) (eZ (aa (zR T) T.sX (aB (aC 0) (aB (aC 1) aF)))))
   (aL (fB (iB (gM (aB (aa (zP T) T.sV (aB (aC 2) (aB aH aF))) (aB (aa (zQ T) T.sW (aB (aC 2) (aB aH aF))) aF)))) (cA (ks:=[3]))
    (aJ (bY (i:=4) (eZ (aa (tZ T) T.mR (aB (aC 2) (aB (aC 3) aF)))))
    (aJ (bY (i:=5) (eZ (aN (aa (aAb T) T.vC (aB (aC 3) (aB (aC 4) aF))) aH)))
    (aJ (bY (i:=6) (eZ (ie T.dB (aB (yr (N:=["_law_place"]) (js:=[none]) (ks:=[0]) (gm (aB (aN (aC 3) aH) aF) T.cX) cV lC (bI (aB (aZ (aC 0)) aF))) aF))))
    (aJ (fC (i:=7) (eZ (gM (aB (aZ (aC 5)) (aB (aZ (aC 6)) (aB (bI aF) (aB (aa (aE1 T) T.aBV (aB (aC 2) aF)) aF)))))))
    (aJ (fC (i:=7) (eZ (bB (cN 7) (yr (N:=["_law_j","_law_cell","_law_ways","_law_web"]) (js:=[none,some 2,some 5,some 3]) (ks:=[0]) (gm (aB aH aF) T.cX) cV lC (aa (rJ T) T.lZ (aB (aC 1) (aB (bB aH (pM aH (aC 0))) (aB (aC 2) (aB (aN (aC 3) aH) aF)))))))))
    (aJ (fB (iB (cN 7)) (cA (ks:=[8]))
     (aJ (bY (i:=9) (eZ (aa (rZ T) T.oV (aB (aC 3) (aB (aC 8) aF)))))
     (aJ (bY (i:=10) (eZ (aa (iz T) T.gC (aB (aC 3) (aB (aC 8) aF)))))
     (aJ (cZ (SW.st (pH (gK (fO (jL (aC 10) T.aR T.aE5))) (lA (rT (aC 10) (aC 9)))))
      (aL (au fD))
      bM)
     (aJ (bY (i:=11) (eZ (aMk (k:=10) (k0:=9) (kb:=8) (wn:=wdN) (wd:=wdA t) (λ _=>zO T) (zE8 rfl) T.j6.m T.j6.F.kp T.j6.b (λ _=>⟨⟨_,Lx⟩,rfl,rfl,rfl⟩) ⟨rfl,rfl,rfl,by decide+kernel,by decide+kernel⟩ rfl (aOY T) (by decide) (λ _ _ _ _ _ _ _ _ _ _=>(aa (iy T) T.gf (aB (aC 3) (aB (aC 8) aF)))) (hfree:=λ _=>aIp (sc:=aK wO) (by decide+kernel)))))
     (aL (cZ (rT (aC 11) (aN (gM (aB nu (aB nu aF))) (aKQ T.aI8 (aB (aC 9) aF))))
      (aL (au fD))
      bM)))))))
    (aJ (cZ (SW.st (tH (fO (aa (rZ T) T.oV (aB (aC 3) (aB (aC 5) aF)))) (qd (rT (aa (iy T) T.gf (aB (aC 3) (aB (aC 5) aF))) (aC 4)))))
     (aL (au fD))
     bM)
    (aL (cZ (rT (aa (iy T) T.gf (aB (aC 3) (aB (aC 6) aF))) (bI aF))
     (aL (au fD))
     bM)))))))))))))
  (aL (au (lD (aOl (aa (iz T) T.gC (aB (bI (aB aH (aB (bI aF) aF))) (aB (bI aF) aF))) fD) (mj (aHe (aa (iy T) T.gf (aB (bI (aB aH (aB (bI aF) aF))) (aB (bI aF) aF))) (bI aF)))))))
end
def aMZ{K:zAA}{h:Heap}{mg:Str->Option Value}{tk_MOST_PLACES:Tok}{q_FewError:Addr}{q_NoWeb:Addr}{q_NoPlace:Addr}{q_NoWay:Addr}{q_NoParting:Addr}{q_TooMany:Addr}{q_NoForest:Addr}{q_NoPlan:Addr}{q_NoOneWay:Addr}{q_NoOrder:Addr}{q_NoText:Addr}{q_NoDeed:Addr}{q_NoRow:Addr}(X:K.In h)(G:h.Ns zAY mg)
  (h0:∃f d,Enr K "is_whole" tV f d)
  (h1:∃f d,Enr K "is_many" v8 f d)
  (h2:∃f d,Enr K "is_place" tW f d)
  (h3:∃f d,Enr K "is_pair" v7 f d)
  (h4:∃f d,Enr K "is_rising" pR f d)
  (h5:∃f d,Enr K "are_rising_pairs" iG f d)
  (h6:∃f d,Enr K "each_once" pU f d)
  (h7:∃f d,Enr K "goes_along" oH f d)
  (h8:∃f d,Enr K "all_go" zE f d)
  (h9:∃f d,Enr K "is_one_way" oG f d)
  (h10:∃f d,Enr K "check_one_way" jh f d)
  (h11:∃f d,Enr K "all_led" v9 f d)
  (h12:∃f d,Enr K "is_led_parting" jM f d)
  (h13:∃f d,Enr K "arrows_along" lH f d)
  (h14:∃f d,Enr K "pairs_along" mq f d)
  (h15:∃f d,Enr K "_law_cell_at" nC f d)
  (h16:∃f d,Enr K "_law_draw" tU f d)
  (h17:∃f d,Enr K "_law_class" pP f d)
  (h18:∃f d,Enr K "_law_refused" my f d)
  (h19:∃f d,Enr K "_law_whole" pO f d)
  (h20:∃f d,Enr K "_law_turn" tR f d)
  (h21:∃f d,Enr K "_law_one_way" nA f d)
  (h22:∃f d,Enr K "_law_ordered" mz f d)
  (h23:∃f d,Enr K "_law_odd" v6 f d)
  (h24:∃f d,Enr K "_law_rising" oA f d)
  (h25:∃f d,Enr K "_law_along" pQ f d)
  (h26:∃f d,Enr K "_law_all_once" lG f d)
  (h27:∃f d,Enr K "_law_parted" oF f d)
  (h28:∃f d,Enr K "_law_drawn_pairs" ig f d)
  (h29:∃f d,Enr K "_law_pieces" oE f d)
  (h30:∃f d,Enr K "_law_bent_row" lF f d)
  (h31:∃f d,Enr K "_law_bent_parting" iD f d)
  (h32:∃f d,Enr K "law" wO f d)
  (jZ:zA8 K zAY "MOST_PLACES"=some (some (.int 60 tk_MOST_PLACES)))
  (y_FewError:zA8 K zAY "FewError"=some (some (.ref q_FewError)))
  (kh:cF K q_FewError)
  (y_NoWeb:zA8 K zAY "NoWeb"=some (some (.ref q_NoWeb)))
  (xu:cF K q_NoWeb)
  (y_NoPlace:zA8 K zAY "NoPlace"=some (some (.ref q_NoPlace)))
  (qZ:cF K q_NoPlace)
  (y_NoWay:zA8 K zAY "NoWay"=some (some (.ref q_NoWay)))
  (xx:cF K q_NoWay)
  (y_NoParting:zA8 K zAY "NoParting"=some (some (.ref q_NoParting)))
  (jb:cF K q_NoParting)
  (y_TooMany:zA8 K zAY "TooMany"=some (some (.ref q_TooMany)))
  (qY:cF K q_TooMany)
  (y_NoForest:zA8 K zAY "NoForest"=some (some (.ref q_NoForest)))
  (nj:cF K q_NoForest)
  (y_NoPlan:zA8 K zAY "NoPlan"=some (some (.ref q_NoPlan)))
  (uO:cF K q_NoPlan)
  (y_NoOneWay:zA8 K zAY "NoOneWay"=some (some (.ref q_NoOneWay)))
  (kZ:cF K q_NoOneWay)
  (y_NoOrder:zA8 K zAY "NoOrder"=some (some (.ref q_NoOrder)))
  (q9:cF K q_NoOrder)
  (y_NoText:zA8 K zAY "NoText"=some (some (.ref q_NoText)))
  (uN:cF K q_NoText)
  (y_NoDeed:zA8 K zAY "NoDeed"=some (some (.ref q_NoDeed)))
  (uP:cF K q_NoDeed)
  (y_NoRow:zA8 K zAY "NoRow"=some (some (.ref q_NoRow)))
  (yC:cF K q_NoRow)
  (cb:L2.aEy K q_FewError [q_NoWeb,q_NoPlace,q_NoWay,q_NoParting,q_TooMany,q_NoForest,q_NoPlan,q_NoOneWay,q_NoOrder,q_NoText,q_NoDeed,q_NoRow]=true)
  (z_ValueError:zA8 K zAY "ValueError"=some none)
  (z_all:zA8 K zAY "all"=some none)
  (z_bool:zA8 K zAY "bool"=some none)
  (z_dict:zA8 K zAY "dict"=some none)
  (z_enumerate:zA8 K zAY "enumerate"=some none)
  (z_int:zA8 K zAY "int"=some none)
  (z_isinstance:zA8 K zAY "isinstance"=some none)
  (z_len:zA8 K zAY "len"=some none)
  (z_list:zA8 K zAY "list"=some none)
  (z_max:zA8 K zAY "max"=some none)
  (z_min:zA8 K zAY "min"=some none)
  (z_range:zA8 K zAY "range"=some none)
  (z_set:zA8 K zAY "set"=some none)
  (z_sorted:zA8 K zAY "sorted"=some none)
  (z_tuple:zA8 K zAY "tuple"=some none)
  (z_zip:zA8 K zAY "zip"=some none):
  ∃t,Txt K mg t:=by
 obtain⟨f0,d0,F0,a0⟩:=dnr X G h0 ["thing"];obtain⟨f1,d1,F1,a1⟩:=dnr X G h1 ["thing"];obtain⟨f2,d2,F2,a2⟩:=dnr X G h2 ["many","thing"];obtain⟨f3,d3,F3,a3⟩:=dnr X G h3 ["many","thing"];obtain⟨f4,d4,F4,a4⟩:=dnr X G h4 ["things"];obtain⟨f5,d5,F5,a5⟩:=dnr X G h5 ["many","thing"];obtain⟨f6,d6,F6,a6⟩:=dnr X G h6 ["many","rows"];obtain⟨f7,d7,F7,a7⟩:=dnr X G h7 ["near","thing"];obtain⟨f8,d8,F8,a8⟩:=dnr X G h8 ["near","thing","goes"];obtain⟨f9,d9,F9,a9⟩:=dnr X G h9 ["thing"];obtain⟨f10,d10,F10,a10⟩:=dnr X G h10 ["thing"];obtain⟨f11,d11,F11,a11⟩:=dnr X G h11 ["web"];obtain⟨f12,d12,F12,a12⟩:=dnr X G h12 ["web","thing"];obtain⟨f13,d13,F13,a13⟩:=dnr X G h13 ["ways"];obtain⟨f14,d14,F14,a14⟩:=dnr X G h14 ["web","parting"];obtain⟨f15,d15,F15,a15⟩:=dnr X G h15 ["_law_script","_law_k"];obtain⟨f16,d16,F16,a16⟩:=dnr X G h16 ["_law_cell","_law_k","_law_bound"];obtain⟨f17,d17,F17,a17⟩:=dnr X G h17 ["_law_error"];obtain⟨f18,d18,F18,a18⟩:=dnr X G h18 ["_law_call"];obtain⟨f19,d19,F19,a19⟩:=dnr X G h19 ["_law_found"];obtain⟨f20,d20,F20,a20⟩:=dnr X G h20 ["_law_cell","_law_many"];obtain⟨f21,d21,F21,a21⟩:=dnr X G h21 ["_law_cell","_law_most"];obtain⟨f22,d22,F22,a22⟩:=dnr X G h22 ["_law_cell","_law_most"];obtain⟨f23,d23,F23,a23⟩:=dnr X G h23 ["_law_cell"];obtain⟨f24,d24,F24,a24⟩:=dnr X G h24 ["_law_row"];obtain⟨f25,d25,F25,a25⟩:=dnr X G h25 ["_law_web","_law_thing"];obtain⟨f26,d26,F26,a26⟩:=dnr X G h26 ["_law_rows","_law_many"];obtain⟨f27,d27,F27,a27⟩:=dnr X G h27 ["_law_web","_law_thing"];obtain⟨f28,d28,F28,a28⟩:=dnr X G h28 ["_law_cell","_law_web"];obtain⟨f29,d29,F29,a29⟩:=dnr X G h29 ["_law_web","_law_pairs"];obtain⟨f30,d30,F30,a30⟩:=dnr X G h30 ["_law_cell","_law_spot","_law_row","_law_many"];obtain⟨f31,d31,F31,a31⟩:=dnr X G h31 ["_law_cell","_law_spot","_law_parting","_law_many"];obtain⟨f32,d32,F32,a32⟩:=dnr X G h32 ["_law_script"]
 exact⟨⟨f0,_,f1,_,f2,_,f3,_,f4,_,f5,_,f6,_,f7,_,f8,_,f9,_,f10,_,f11,_,f12,_,f13,_,f14,_,f15,_,f16,_,f17,_,f18,_,f19,_,f20,_,f21,_,f22,_,f23,_,f24,_,f25,_,f26,_,f27,_,f28,_,f29,_,f30,_,f31,_,f32,_,_,q_FewError,q_NoWeb,q_NoPlace,q_NoWay,q_NoParting,q_TooMany,q_NoForest,q_NoPlan,q_NoOneWay,q_NoOrder,q_NoText,q_NoDeed,q_NoRow⟩,⟨F0,F1,F2,F3,F4,F5,F6,F7,a7,F8,F9,F10,F11,F12,F13,F14,F15,F16,F17,F18,F19,F20,F21,F22,F23,F24,F25,F26,F27,F28,F29,F30,F31,F32,zAd X G jZ,⟨_,rfl⟩,zAd X G y_FewError,(by unfold az;rw[zAd X G y_FewError]),kh,zAd X G y_NoWeb,(by unfold az;rw[zAd X G y_NoWeb]),xu,zAd X G y_NoPlace,(by unfold az;rw[zAd X G y_NoPlace]),qZ,zAd X G y_NoWay,(by unfold az;rw[zAd X G y_NoWay]),xx,zAd X G y_NoParting,(by unfold az;rw[zAd X G y_NoParting]),jb,zAd X G y_TooMany,(by unfold az;rw[zAd X G y_TooMany]),qY,zAd X G y_NoForest,(by unfold az;rw[zAd X G y_NoForest]),nj,zAd X G y_NoPlan,(by unfold az;rw[zAd X G y_NoPlan]),uO,zAd X G y_NoOneWay,(by unfold az;rw[zAd X G y_NoOneWay]),kZ,zAd X G y_NoOrder,(by unfold az;rw[zAd X G y_NoOrder]),q9,zAd X G y_NoText,(by unfold az;rw[zAd X G y_NoText]),uN,zAd X G y_NoDeed,(by unfold az;rw[zAd X G y_NoDeed]),uP,zAd X G y_NoRow,(by unfold az;rw[zAd X G y_NoRow]),yC,zAr X G z_ValueError,zAr X G z_all,zAr X G z_bool,zAr X G z_dict,zAr X G z_enumerate,zAr X G z_int,zAr X G z_isinstance,zAr X G z_len,zAr X G z_list,zAr X G z_max,zAr X G z_min,zAr X G z_range,zAr X G z_set,zAr X G z_sorted,zAr X G z_tuple,zAr X G z_zip,cb⟩⟩
def aOT{l:zFV}{w:World}{K:zAA}{h:Heap}{mg:Str->Option Value}{fa Pt:Addr}(X:K.In h)(G:h.Ns zAY mg)(hfa:mg "law"=some (.ref fa))(hB:aCM K "law" Pt=true)(ht:∃t,Txt K mg t):L2.aGD l.prog w K mg fa Pt 10 63:=by
 obtain⟨t,T⟩:=ht;have e:=hfa.symm.trans T.aMR.m;cases e;exact aLI (f:=aB1) (F:=aJn) X G hB T.aMR aMm (λ _ _ _ _ _ _ _ _=>.of_eq rfl) (λ base c s H hr Lx nd=>aPW T hr Lx nd) rfl aIm
def walk{l:zFV}{q:zA3}{loose:List Str}{XP:(Str->Option Value)->Heap->Prop}{YP:World->Heap->Prop}{d:DefRec}{K:Params->zAA}{Pt:Addr}(hn:l.most=some 63)(hdf:d.params.defaults=[])
  (hY:∀(w:World) (h:Heap),YP w h->(K w.params).In h/\h.get? Pt=some (zCS #[]))
  (F:∀(w:World) (mg:Str->Option Value) (fa:Addr) (h:Heap),(K w.params).In h->h.Ns zAY mg->mg d.name=some (.ref fa)->L2.aGD l.prog w (K w.params) mg fa Pt 10 63):
  zIH q loose XP YP l.row.toRowW d [] (λ f vs=>zH3 f vs):=
 L2.aHL hn (by decide) hdf ⟨rfl,by decide,by decide⟩ hY F
end VL.My
open PySem PySem.W PyProof.Rows
set_option maxRecDepth 100000 in
set_option maxHeartbeats 0 in
theorem PySem.Challenge.cw_fewways_k56_partings_and_their_pairs_holds : PySem.Challenge.rw_fewways_k56_partings_and_their_pairs.Holds := by
 w_on; o_law; k_head; (case hw=>w_witness2)
 k_fill
 refine VL.My.walk (l:=PySem.Challenge.rw_fewways_k56_partings_and_their_pairs) rfl rfl (fun w h Y=>⟨PySem.W.km_in_of Y,PySem.W.km_tabs_of Y _ zAK⟩) ?F
 case F =>
  intro w mg fa h KX G hmg
  refine VL.My.aOT KX G hmg ?B ?T
  (case B=>kernel_rfl)
  case T =>
   refine' VL.My.aMZ KX G (VL.enr ?a0 ?l0 ?c0 ?k0) (VL.enr ?a1 ?l1 ?c1 ?k1) (VL.enr ?a2 ?l2 ?c2 ?k2) (VL.enr ?a3 ?l3 ?c3 ?k3) (VL.enr ?a4 ?l4 ?c4 ?k4) (VL.enr ?a5 ?l5 ?c5 ?k5) (VL.enr ?a6 ?l6 ?c6 ?k6) (VL.enr ?a7 ?l7 ?c7 ?k7) (VL.enr ?a8 ?l8 ?c8 ?k8) (VL.enr ?a9 ?l9 ?c9 ?k9) (VL.enr ?a10 ?l10 ?c10 ?k10) (VL.enr ?a11 ?l11 ?c11 ?k11) (VL.enr ?a12 ?l12 ?c12 ?k12) (VL.enr ?a13 ?l13 ?c13 ?k13) (VL.enr ?a14 ?l14 ?c14 ?k14) (VL.enr ?a15 ?l15 ?c15 ?k15) (VL.enr ?a16 ?l16 ?c16 ?k16) (VL.enr ?a17 ?l17 ?c17 ?k17) (VL.enr ?a18 ?l18 ?c18 ?k18) (VL.enr ?a19 ?l19 ?c19 ?k19) (VL.enr ?a20 ?l20 ?c20 ?k20) (VL.enr ?a21 ?l21 ?c21 ?k21) (VL.enr ?a22 ?l22 ?c22 ?k22) (VL.enr ?a23 ?l23 ?c23 ?k23) (VL.enr ?a24 ?l24 ?c24 ?k24) (VL.enr ?a25 ?l25 ?c25 ?k25) (VL.enr ?a26 ?l26 ?c26 ?k26) (VL.enr ?a27 ?l27 ?c27 ?k27) (VL.enr ?a28 ?l28 ?c28 ?k28) (VL.enr ?a29 ?l29 ?c29 ?k29) (VL.enr ?a30 ?l30 ?c30 ?k30) (VL.enr ?a31 ?l31 ?c31 ?k31) (VL.enr ?a32 ?l32 ?c32 ?k32) ?jZ ?y_FewError ?kh ?y_NoWeb ?xu ?y_NoPlace ?qZ ?y_NoWay ?xx ?y_NoParting ?jb ?y_TooMany ?qY ?y_NoForest ?nj ?y_NoPlan ?uO ?y_NoOneWay ?kZ ?y_NoOrder ?q9 ?y_NoText ?uN ?y_NoDeed ?uP ?y_NoRow ?yC ?cb ?z_ValueError ?z_all ?z_bool ?z_dict ?z_enumerate ?z_int ?z_isinstance ?z_len ?z_list ?z_max ?z_min ?z_range ?z_set ?z_sorted ?z_tuple ?z_zip
   (case y_FewError=>k_is); (case kh=>unfold L2.cF; k_exc)
   (case y_NoWeb=>k_is); (case xu=>unfold L2.cF; k_exc)
   (case y_NoPlace=>k_is); (case qZ=>unfold L2.cF; k_exc)
   (case y_NoWay=>k_is); (case xx=>unfold L2.cF; k_exc)
   (case y_NoParting=>k_is); (case jb=>unfold L2.cF; k_exc)
   (case y_TooMany=>k_is); (case qY=>unfold L2.cF; k_exc)
   (case y_NoForest=>k_is); (case nj=>unfold L2.cF; k_exc)
   (case y_NoPlan=>k_is); (case uO=>unfold L2.cF; k_exc)
   (case y_NoOneWay=>k_is); (case kZ=>unfold L2.cF; k_exc)
   (case y_NoOrder=>k_is); (case q9=>unfold L2.cF; k_exc)
   (case y_NoText=>k_is); (case uN=>unfold L2.cF; k_exc)
   (case y_NoDeed=>k_is); (case uP=>unfold L2.cF; k_exc)
   (case y_NoRow=>k_is); (case yC=>unfold L2.cF; k_exc)
   (case cb=>kernel_rfl)
   any_goals k_is
