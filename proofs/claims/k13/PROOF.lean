import PyProof.Rows.All
import KE.KDictOf
import PyProof.DictWalks
import Wide.All
import OpenK.AllK
import Wide.FinOn
import Lean
import PyProof.EqAt
import PyProof.EqKinds
import PyProof.TupleCall
import KE.LcSums
import PySem.Challenge.RW_fewways_k13_ends_of_ways_through_all
open And renaming intro->zGN
open Array renaming length_toList->zAU,getElem?_toList->zAd,getElem?_eq_getElem->zAo,getD_eq_getD_getElem?->zB3,getElem?_eq_some_iff->zBh,getD->zCQ,replicate->zDl,toList_setIfInBounds->zDs,toList_push->zEH,toList_filterMap->zE2,getElem_mem_toList->zG1,getElem?_eq_none->zGn,toList_replicate->zGo,toArray_toList->zHK,toList_append->zHS,append_assoc->zH8,foldl_toList->zH9,forIn_toList->zHa,size_map->zIn,toList->zJB
open Array.Perm renaming refl->zHJ
open Bool renaming and_eq_true->zAL,false_eq_true->zA4,false_ne_true->zA8,not_eq_true'->zCX,not_true->zDP,eq_iff_iff->zDo,or_eq_true->zDp,and_false->zFA,not_false->zFB,and_true->zFW,or_true->zFe,and_assoc->zG2,eq_false_iff->zIF,false_and->zIt,true_and->zJC
open Classical renaming byContradiction->zBR,propDecidable->zFz,choose_spec->zGO
open False renaming elim->zAN
open ForInStep renaming yield->zBl
open Int renaming toNat_of_nonneg->zBa,emod_lt_of_pos->zDV,emod_nonneg->zDu,toNat_natCast->zFg,fdiv_eq_ediv_of_nonneg->zG3,natAbs_natCast->zIH,natCast_nonneg->zII
open LawfulBEq renaming eq_of_beq->zEJ
open List renaming length_map->zAD,mem_cons_self->zAF,mem_cons_of_mem->zAG,getElem?_eq_getElem->zAH,replicate->zAJ,getElem?_eq_some_iff->zAK,map_cons->zAM,length_cons->zAO,mem_cons->zAP,mem_filter->zAR,getElem?_map->zAW,size_toArray->zAX,length_append->zAZ,mem_map->zA0,mem_append_left->zA1,mem_singleton->zA2,mem_append_right->zA7,nodup_cons->zAb,mem_append->zAh,range->zAj,map_append->zAk,all_eq_true->zAt,lookup_cons->zAu,map_map->zAv,pairwise_cons->zAy,mem_of_getElem?->zBA,zip_cons_cons->zBB,append_nil->zBD,mem_range->zBF,foldl_cons->zBI,getD_eq_getElem?_getD->zBP,filterMap_cons->zBQ,filter_cons->zBU,getElem?_set_ne->zBX,length_filter_le->zB4,length_singleton->zB5,perm_ext_iff_of_nodup->zB6,getElem?_append_left->zB9,length_replicate->zBb,length_set->zBf,mem_filterMap->zBg,nodup_append->zBo,replicate_succ->zBp,drop_eq_getElem_cons->zBr,getLast?_eq_some_getLast->zBw,length_take->zBx,getElem?_replicate->zCC,length_eq_zero_iff->zCD,append_assoc->zCG,length_nil->zCJ,getElem?_set_self->zCL,take_of_length_le->zCM,not_mem_nil->zCR,pairwise_iff_getElem->zCU,of_mem_zip->zCY,pairwise_map->zCZ,getElem?_cons_succ->zC5,flatten_cons->zCq,take_add_one->zCr,getElem?_append_right->zCu,nodup_iff_pairwise_ne->zCv,getElem?_zip_eq_some->zCw,nodup_nil->zCx,drop_length->zDA,getLast_mem->zDB,getElem?_cons_zero->zDS,filter_congr->zD0,reverse_cons->zD1,getElem_mem->zDd,mem_flatMap->zDe,length_pos_iff->zDq,filter_append->zEA,ne_nil_of_mem->zEB,exists_mem_of_ne_nil->zEF,flatMap_cons->zEP,foldl_append->zEQ,any_eq_true->zE4,mem_reverse->zE5,filter_eq_nil_iff->zE8,getElem?_eq_none->zEm,mem_iff_getElem?->zEn,nil_append->zEo,take_append_drop->zEp,isEmpty_toArray->zEx,mem_of_getLast?->zEy,filter_eq_self->zFL,getElem?_range->zFM,map_congr_left->zFN,mem_map_of_mem->zFO,contains_cons->zFY,getLast?_cons->zFZ,lookup_append->zF0,mem_replicate->zF1,getElem?_set->zF7,length_range->zF8,map_nil->zFh,cons_append->zFp,ext_getElem->zFq,getElem_map->zFr,map_snd_zip->zFs,filter_nil->zGI,find?_cons->zGJ,length_zip->zGK,range_succ->zGL,mem_of_find?_eq_some->zG4,mem_take_iff_getElem->zG5,Nodup->zGb,foldl->zGc,length_erase_of_mem->zGd,any_cons->zGq,getLast?_cons_cons->zGr,length_pos_of_mem->zGw,concat_eq_append->zHO,eq_nil_or_concat->zHP,getElem?_reverse->zHQ,getElem_toArray->zHU,mem_erase_of_ne->zHV,mem_of_mem_take->zHW,range_eq_range'->zHX,filter_sublist->zHc,getElem_of_mem->zHd,length_reverse->zHe,perm_singleton->zHf,range'->zHg,find?_eq_none->zHo,set_cons_succ->zHp,set_cons_zero->zHq,zip_nil_right->zHr,any_eq_false->zIK,getElem?_inj->zIL,mem_of_head?->zIM,reverse_perm->zIN,zip_map_left->zIO,zip_nil_left->zIP,countP_cons->zI6,map_flatMap->zI7,map_fst_zip->zI8,nodup_range->zI9,range'_succ->zIa,zip_append->zIo,all_cons->zJF,all_map->zJW
open List.Pairwise renaming nil->zEb,imp_of_mem->zJV
open List.Perm renaming refl->zBL,swap->zDn,cons->zHb
open List.Sublist renaming refl->zEl
open MonadExcept renaming tryCatch->zJO
open Nat renaming le_refl->zAQ,lt_of_lt_of_le->zAV,ne_of_lt->zA6,zero_le->zAa,le_trans->zAi,pow_le_pow_right->zBY,lt_irrefl->zB1,le_of_lt->zB8,lt_succ_self->zBy,le_of_lt_succ->zCH,lt_succ_of_lt->zCI,ne_of_gt->zC6,ge_two_pow_of_testBit->zDC,le_succ->zDG,succ_pos->zDJ,mod_lt->zD5,two_pow_pos->zDv,lt_of_le_of_lt->zEG,not_lt->zEW,le_of_not_lt->zE9,le_of_ble_eq_true->zEs,testBit_eq_decide_div_mod_eq->zF9,lt_trichotomy->zFi,lt_trans->zFt,min_self->zFu,mul_comm->zFv,sub_self->zFw,zero_add->zFx,le_add_right->zGC,shiftRight_eq_div_pow->zGe,le_of_eq->zHY,pow_succ->zHZ,le_max_right->zIp,le_max_left->zIv,mul_le_mul->zJG
open Nat.succ renaming inj->zG6
open Ne renaming symm->zCy
open Option renaming map_some->zDL,map_eq_some_iff->zDW,bind_some->zHs,map_none->zIQ,none->zJH
open Option.some renaming inj->zAl
open Or renaming inr->zBc,inl->zCV
open Prod renaming ext->zHt
open PyProof.Rows renaming IntsAre->zBV,seqObj->zBu,step_dedup->zCP,KeyOrd->zC3,slot_tuple_getitem->zDE,envOfC->zDN,callWith_type1->zD2,SortSt->zDg,kindOf->zDh,SortKind->zDk,get?_update_seq->zEK,AllBare->zFP,lt_int->zGM,sortedHeap->zGY,failedOf->zGt,pendingOf->zHC,boot_range->zHj,listUpdate_at->zHz,subscriptTail->zIB,subscriptTail_builtinR->zI0,seqEpoch_at->zIx,Subscript_->zJ1
open PyProof.Rows.F renaming plain_set_update_loop->zBK,entry_set_update_loop->zBs
open PyProof.Rows.IntsAre renaming int_at->zHh,length->zIJ
open PyProof.Rows.IsTup renaming new->zGB
open PyProof.Rows.KeyOrd renaming kle_refl->zDI,kle_trans->zEV,kle_of_klt->zFX,kle_antisymm->zHN
open PySem renaming wpAny_bind->zAB,Shared->zAE,wpAny_pure->zAI,sizeLine->zAY,Program->zA3,starEach->zA5,mainGlobals->zA9,Around->zAc,mem_of_lookup->zAm,FuncData->zAq,wpAny_mono->zAw,foldedSetIterable->zAz,bootBuiltins->zBC,compareOp->zBH,wpAny_newObj_type->zBJ,wpAny_holding->zBW,codeAny_builtin->zBZ,wpAny_setState_of->zB2,wpAny_truthy_bool->zBe,sizeLine_eq->zBj,binaryOp->zBv,codeAny->zCF,behindInMarks->zCN,intKind->zCS,SetTable->zCT,wpAny_loadPart_at->zC8,codeAny_mono->zC9,plainId_quiet->zCd,backTo->zCg,swapsWith->zCh,wpAny_call_entry->zCi,assignEach->zCj,call_meets->zCk,callerA->zCo,holding->zCp,wpAny_Call_Name_kw->zCt,wpAny_standAt->zDD,Keyword->zDF,cellsFrom->zDM,wpAny_binaryOp_repeat_ref->zDO,wpAny_askSetting->zDU,sysModules->zDY,wpAny_comprehension_free->zDZ,Arguments->zD3,Builtin->zD4,attributeBase->zD6,letOwnedTupleGo->zD7,typeIs_int->zDi,GenState->zDj,wpAny_forIn_list->zDw,assign->zDz,NameKind->zEC,keywordEach->zEL,wpAny_isSubtype_exc->zEM,wpAny_loadPart'->zEN,wpAny_passesOwn->zEO,wpAny_newFunctionEnv_cells->zEZ,pyNext->zE1,wpAny_seqItems->zE7,Result->zEe,closureFor->zEf,ofAClassStatement->zEg,wpAny_pyIter_list->zEh,excClassObj->zEu,richCompare->zEv,wpAny_callSpecial?_slot->zEw,codeAny_call_function->zFS,newList->zFT,standAt->zFU,wpAny_execs_nil->zFV,intKind_is->zF3,wpAny_Name->zF4,codeAny_call_builtin->zF6,Paired->zFa,newFunctionEnv->zFb,recursionLimit->zFc,wpAny_tryCatch->zFd,argBest->zFn,wpAny_of_eq->zFo,backToKw->zGE,codeAmong->zGF,wpAny_pyIter_tuple->zGG,relabel->zGX,typeLookup->zGZ,wpAny_assign_Name->zG0,pyIter->zG9,wpAny_typeOf->zGa,checkBuiltinCall->zGl,noFill_tuple_add->zGm,codeAny_of_tree->zHA,hashByValue->zHB,subscripted->zHD,tupleKind->zHE,unsupported->zHF,wpAny_letGo->zHG,wpAny_specialOf->zHH,wpAny_updateSeq->zHI,isSubtype_type->zH5,wpAny_runValue->zH6,wpAny_setField->zH7,filterMap_getElem?_range->zHk,wpAny_call->zHl,BindsTo->zHm,call->zHu,comprehension->zHx,getItem->zHy,seq_tuple_add->zIA,swappedStores->zIC,swapsWithSole->zID,wpAny_newList->zIE,seqSlot_of->zIU,richCompare_meets_room->zIZ,builtinLookup_eq_fast->zIe,codeAny_func->zIf,concat_meets->zIg,exec_Assign_Name_used->zIh,isSubtype->zIi,lastMarks->zIj,setSearch->zIk,wpAny_eqIsQuiet_tuple->zIl,wpAny_isTrue_Compare1->zIm,wpAny_loadName_local->zIs,collect->zIw,wpAny_field->zIy,wpAny_loadName_cell->zIz,wpAny_loadName_free->zJA,Within->zJI,bindArgs->zJJ,compPost->zJK,compTurn->zJL,rawInt->zJM,setAdd->zJN,tupleKind_room_in1->zJP,builtinsNs->zJ5,defaultsOf->zJ6,searchCouldBeSeen->zJ7,setsByText->zJ8,wpAny_load->zJ9,wpAny_pyIter_slot->zJa,wpAny_rule->zJb
open PySem.Around renaming under_plainId->zBE,frames_deeper->zGv
open PySem.AutoSeq1 renaming sub_tuple_tuple->zFy
open PySem.Builtin renaming bitAnd->zDt
open PySem.Builtin.Builtins renaming bindParams->zEi
open PySem.Builtin.Frozenset renaming addrOf->zI1,newClass->zI2,sizeOf->zI3,slot0->zI4,updateFrom->zI5
open PySem.Builtin.List renaming listTooLong->zCl,listExtendWith->zFH,listLengthHint->zFI
open PySem.Builtin.Range renaming rangeSize->zB0,rangeFitsLong->zC1,small->zCe
open PySem.Builtin.Slice renaming slicePlaces->zCa,sliceAdjust->zDc,sliceApplied->zFJ,sliceFields->zJQ
open PySem.Builtin.Tuple renaming tupleExact->zBk,tupleCompareSizes->zEa,tupleTooMany->zFK,tupleHashOf->zJR,tupleItemsOf->zJS
open PySem.Calls renaming Name_function_global->zGH,callWith_builtin->zGp,evalArgs_plain->zHL
open PySem.CmpOp renaming NotIn->zJT
open PySem.Code renaming quiet_builtin->zHn
open PySem.Data renaming seq->zJD
open PySem.F renaming plainAttrs_list->zBz,slot_int_rmul->zC2,plain_min_loop->zCb,plain_list_iadd->zDH,called_set->zDQ,slot_list_append->zDR,slot_tuple_mul->zDm,args_tuple_add_2->zED,type_list_append->zEE,entry_tuple_add->zEI,slot_tuple_add->zEX,args_int_rmul_2->zE3,entry_int_rmul->zEj,slot_int_index->zEk,fills_int_mul->zFC,typeOf_object_class->zFD,args_tuple_mul_2->zFf,entry_proto_collect->zFj,plain_proto_collect->zFk,entry_tuple_mul->zGA,entry_min_loop->zGP,entry_list_iadd->zGQ,slot_list_count->zGR,slot_list_index->zGS,plain_set_new->zGf,slot_set_iter->zGg,slot_list_extend->zHM,slot_gs_get->zHT,sub_list_frozenset->zIG,slot_tuple_rmul->zIu
open PySem.Heap renaming get?_push_of_some->zAC,get?_push_size->zAS,lt_size->zAT,size_push->zBN,get?_update_other->zCK,get?_update_ne->zC4,SameBut->zD8,get?_update_self->zD9,FlyingW->zJU
open PySem.Heap.IsSliceOf renaming new->zJE
open PySem.Heap.SameBut renaming update->zB7
open PySem.Moved renaming trans->zJX
open PySem.NameKind renaming free->zCO,cell->zDa
open PySem.Obj renaming mapSeq->zDK,putSet->zIb,mapFields->zJY
open PySem.Paired renaming length->zG7
open PySem.SeqAt renaming EqAt->zCm
open PySem.SeqAt.EqAt renaming of_refs->zEr,same->zF2,bool_bool->zGU,int_int->zGi,int_str->zGj,str_int->zGk
open PySem.SeqAt.RcAt renaming lists_lengths->zFm,tuples->zGs,lists->zGz
open PySem.SetTable renaming runEnd->zAg,below->zAn,leap->zAp,insertAt->zAr,bits->zAs,turns->zBM,Probe->zCA,grown->zCs,layClean->zDx,toList_insertAt->zDy,insertAt_perm->zET,has->zE0,sizeAbove->zEz,advance->zH2,gaveWay->zH3,relaid->zHi,fresh->zHv,fill->zIV,fits->zIW,laid->zIX,slot->zIY
open PySem.SetTable.below renaming go->zDf
open PySem.SetTable.layClean renaming free->zBO
open PySem.SetTable.probe renaming go->zBd
open PySem.Shared renaming TypeIs->zIr
open PySem.Str renaming ofString->zH4
open PySem.Value renaming ref->zAx,none->zBn,type->zBt,int->zCf,bool->zCn,builtin->zEY,notImplemented->zEt,str->zId,float->zJ2,isInt->zJ3
open PySem.W renaming Frag->zAA,mg_of->zAe,nsIn->zAf,mg_none_of->zBG,kia_one->zBS,findIn->zBT,emptyDict->zBi,keepIn->zBm,fnOf->zBq,kitOne->zCB,hideAll->zCE,instObj->zCW,hideAll_get->zC0,tabObj->zC7,kla_obj->zCc,envX->zCz,cellsFrom_some->zDT,codeIn->zDX,looks_findIn->zDb,of_hideAll->zDr,codeHdIn->zER,ksm_same->zES,kas_rev->zE6,hideAll_none->zEc,hideAll_size->zEd,lookIn->zEq,Looks->zFE,callWith_K->zFF,codeRec_of->zFG,kitx_dict->zFQ,methodObj->zFR,plainGet->zF5,OpenLaw->zFl,kla_fn->zGD,excIn->zGT,funFrames_hide->zG8,KasT->zGh,codeHd_of_K->zGx,plainGet_of->zGy,kitx_tuple->zHR,kas_place->zH0,kitx_list->zH1,CodeHd->zIR,InstAt->zIS,KdlSrc->zIT,WalkO->zIc,isFn->zIq
open PySem.W.Looks renaming ld->zJZ,now->zJ0
open PySem.Walks renaming list->zHw,tuple->zJ4
open Sum renaming inl->zGV,inr->zGW
open ToString renaming toString->zGu
open True renaming intro->zEU
noncomputable section
namespace PySem.W.Fast
def tw8764296800170358926:=0
def tw17167819631256624110:=0
def tw16791296222616069518:=0
def tw9009408577962543950:=0
def tw17881437078031791342:=0
def tw6242524116615829198:=0
def tw9071199890049786990:=0
def tw13155113995002072142:=0
def tw2959013517731590222:=0
def tw16179890711043878958:=0
def tw12412480919490189678:=0
def tw710357115373342439:=0
def tw18142935436024423143:=0
def tw13972672054728358055:=0
def tw15956500047269756071:=0
def tw5379103261309974759:=0
def tw1639112916500594343:=0
def tw7659030413575469159:=0
def tw4701219053833310663:=0
def tw17987045259876662364:=0
def tw18356576245843521532:=0
def tw16917490692856347036:=0
def tw7818998453844167292:=0
def tw14245807816517350428:=0
def tw8718182026234799132:=0
def tw10817339385611995644:=0
def tw7498038186479764956:=0
def tw4581970640127907548:=0
def tw9486400731911360085:=0
def tw12520367546422933557:=0
def tw15181736306262275509:=0
def tw15220828039331943317:=0
def tw10224803438961610037:=0
def tw14005441437644218645:=0
def tw15355101053500422261:=0
def tw11362192594172193269:=0
def tw7770982687388325845:=0
def tw4157543741140201429:=0
def tw15446976597783758229:=0
def tw16796536626082256277:=0
def tw8909585593014835306:=0
def tw11902463522536282634:=0
def tw3132582304536605482:=0
def tw16141487437505992842:=0
def tw8813214176599388202:=0
def tw10232230811734561802:=0
def tw14701717514317489162:=0
def tw16759271641720389482:=0
def tw1149873472903158602:=0
def tw2015408938032780819:=0
def tw4247096077026146803:=0
def tw15777762300471070163:=0
def tw14371523458909158579:=0
def tw7120054081965851763:=0
def tw17713671725367814739:=0
def tw2715471083808378867:=0
def tw9392476151251353427:=0
def tw17834031001449945112:=0
def tw10714800498101209528:=0
def tw5382993104983831096:=0
def tw7258794324915323288:=0
def tw17685405914328360344:=0
def tw4084522870531307896:=0
def tw5061655595161657688:=0
def tw18116058269646598360:=0
def tw10722654549492900056:=0
def tw11673629183221633281:=0
def tw12729317924754253537:=0
def tw1262021234573851137:=0
def tw13962164589645381601:=0
def tw1831165150704285633:=0
def tw5062680196737741121:=0
def tw3707504559539121793:=0
def tw7006743217914388065:=0
def tw13589655307756868641:=0
def tw12524596213982715361:=0
def tw5652327344070994369:=0
def tw592263108621732982:=0
def tw12684420577142998102:=0
def tw2720959489897011254:=0
def tw5662089255373269942:=0
def tw558979494022993494:=0
def tw7539367333868210134:=0
def tw6309307538018332502:=0
def tw17823259022215473366:=0
def tw13923892469301114518:=0
def tw4292029269512334319:=0
def tw12404896817133272431:=0
def tw13010999096060208975:=0
def tw12610593839240439407:=0
def tw14079177236582468655:=0
def tw9216453958368274959:=0
def tw3182268718891161519:=0
def tw183451023357700879:=0
def tw15891042435980511983:=0
def tw9838877284692206372:=0
def tw8042605129289596548:=0
def tw17443049323054869572:=0
def tw17676294354046529540:=0
def tw1725636786972747204:=0
def tw10464259931793239492:=0
def tw16714702988330918180:=0
def tw14052439338187320612:=0
def tw12379135821803954436:=0
def tw2846366755509982468:=0
def tw9149594048226667780:=0
def tw2926012230715620068:=0
def tw5970837395852356100:=0
def tw4478563606038376420:=0
def tw11524461763799673661:=0
def tw13090222012840680221:=0
def tw12080991806088069341:=0
def tw9378127279519512637:=0
def tw2293719326837609949:=0
def tw13258816163506538781:=0
def tw9009797234420468445:=0
def tw6435678878500345501:=0
def tw6860776108926904829:=0
def tw6759461755976628210:=0
def tw3668352787494717842:=0
def tw6501405134904880530:=0
def tw4882667354674074418:=0
def tw7086096882644747058:=0
def tw12418891856003201714:=0
def tw1407364628586944626:=0
def tw13444920392793689138:=0
def tw10349043088903427602:=0
def tw7358638404959463954:=0
def tw11476254548618208210:=0
def tw3603825978256525266:=0
def tw3596644002697589714:=0
def tw15733156384044385202:=0
def tw13250445868370810770:=0
def tw7978422950218897243:=0
def tw12680756899404361531:=0
def tw454072153454908187:=0
def tw13559105633919074939:=0
def tw16608185751850682651:=0
def tw4439874867522850811:=0
def tw10047640146643744032:=0
def tw2628589748074462784:=0
def tw7916494725308458368:=0
def tw14002796972549775744:=0
def tw18291521855241894560:=0
def tw5658124683874515424:=0
def tw14811324590771422080:=0
def tw2401239947379103040:=0
def tw5900806469041154025:=0
def tw13884205473100339145:=0
def tw3362953592053847977:=0
def tw6622350594244518281:=0
def tw11452105553879443017:=0
def tw1871043352250406921:=0
def tw5999939401480454633:=0
def tw13210855407851299721:=0
def tw13278261190076558153:=0
def tw14252730574061626025:=0
def tw3831246950109602953:=0
def tw5749499487451666569:=0
def tw4601387318319474793:=0
def tw4632326632725073694:=0
def tw9027592948600888510:=0
def tw9903251062693115486:=0
def tw12056737172378908702:=0
def tw5395362249818193886:=0
def tw5475487829432761790:=0
def tw569399983637433758:=0
def tw15439176654947260254:=0
def tw9552473986300595006:=0
def tw11138015840256922910:=0
def tw6094667758788000990:=0
def tw316656912180595806:=0
def tw11451752730280309822:=0
def tw268699203533388862:=0
def tw2408583885068066334:=0
def tw12303607094412821982:=0
def tw6202575640091194846:=0
def tw3141061899513877406:=0
def tw17409304529007201182:=0
def tw4784077623374441854:=0
def tw17048968009342414174:=0
def tw12024954167383561111:=0
def tw12852791368494138231:=0
def tw3953746089341123095:=0
def tw7987366049043397239:=0
def tw10032917529745521271:=0
def tw4591977857048342551:=0
def tw3218674205221863980:=0
def tw16629267160863944300:=0
def tw14263401980579869420:=0
def tw11459601403924916229:=0
def tw7578787428055046021:=0
def tw2949073635570426597:=0
def tw264081911710696133:=0
def tw4800518624489737317:=0
def tw866261823918236741:=0
def tw1643348434959605253:=0
def tw18406869768272722885:=0
def tw4406609211095478661:=0
def tw4634902230281607525:=0
def tw2736800810309449349:=0
def tw17978874710473632858:=0
def tw6818316368246052154:=0
def tw5764164392347531578:=0
def tw16988336888731558618:=0
def tw6112194737100153882:=0
def tw6230875758258582490:=0
def tw3154947685113125274:=0
def tw9537616688278283331:=0
def tw1021665384757435875:=0
def tw9027361833748068707:=0
def tw12738074286491175203:=0
def tw1681103203099304643:=0
def tw7335919239833168035:=0
def tw17616515837975533155:=0
def tw10238488441689219651:=0
def tw1038279921165134403:=0
def tw14934371077159471651:=0
def tw10762774179816798211:=0
def tw15483532899841488259:=0
def tw5934110973221689123:=0
def tw4736835892953784515:=0
def tw18357337109052616136:=0
def tw7208097133292252072:=0
def tw4091501322788490536:=0
def tw9811338676285714696:=0
def tw13827573409311705832:=0
def tw12316020773600627432:=0
def tw11951142076758236872:=0
def tw10745095736118998152:=0
def tw7611116978995147112:=0
def tw3994576190922618664:=0
def tw5908624366804250376:=0
def tw15433680428322198760:=0
def tw11020719885758737608:=0
def tw1738292186194037649:=0
def tw8668602234724482961:=0
def tw1835823373541143857:=0
def tw4762292982767352977:=0
def tw2557633797415501969:=0
def tw7797624323148456465:=0
def tw5676861189033429937:=0
def tw7485491363094999409:=0
def tw9890227093655204049:=0
def tw11189162402064940689:=0
def tw5899871163469788817:=0
def tw12837576629484727345:=0
def tw15032130899156967441:=0
def tw14573651038294721062:=0
def tw1964938952825382214:=0
def tw10991780610244584230:=0
def tw11836220121144922310:=0
def tw1145711520240785542:=0
def tw7697739082252887174:=0
def tw3036264763189601318:=0
def tw5935578110924541350:=0
def tw1477668975847675718:=0
def tw14407910290069489478:=0
def tw4948084173156436614:=0
def tw286450183797051359:=0
def tw14342175062915953887:=0
def tw14704346863791344287:=0
def tw12063693348414380543:=0
def tw15322307148338213375:=0
def tw40057222316350943:=0
def tw12209037690586448223:=0
def tw869634895246103871:=0
def tw1934045992845665567:=0
def tw888403205992854271:=0
def tw16957648496223637108:=0
def tw3578144473898555284:=0
def tw6047665539752644308:=0
def tw11070519516900237684:=0
def tw6685063947263424884:=0
def tw15825578345479144845:=0
def tw8963100271900652109:=0
def tw13354653076457147405:=0
def tw6060770362836106253:=0
def tw2992166307281214477:=0
def tw4942090711218227661:=0
def tw9801530320358574317:=0
def tw16910739004632554605:=0
def tw1041306967057356909:=0
def tw2283339643782902701:=0
def tw12125470838195152450:=0
def tw16295574461153282882:=0
def tw15336718343354421058:=0
def tw1583910290992785058:=0
def tw17335451299156505698:=0
def tw7797068047544203362:=0
def tw8245509829334186466:=0
def tw7925464134630033602:=0
def tw17243805924063150242:=0
def tw7709951958918792011:=0
def tw12005072484097167147:=0
def tw17350335858303008011:=0
def tw8034823429630607627:=0
def tw18210366040269740683:=0
def tw16360623631189548971:=0
def tw7536873453043575083:=0
def tw13739802231692857451:=0
def tw15970395798204109771:=0
def tw8768085022527453456:=0
def tw9586775517999047376:=0
def tw2457095653431571120:=0
def tw4172084539539357808:=0
def tw15058443530158716016:=0
def tw3042090256422014960:=0
def tw38154561341881328:=0
def tw10660199691071132016:=0
def tw2173268761193532240:=0
def tw4337276461207021392:=0
def tw6817785996396458768:=0
def tw16708151610778836752:=0
def tw4009394664292397712:=0
def tw16779936077571086352:=0
def tw10039827806555966480:=0
def tw16269888030910510544:=0
def tw16573613146779342288:=0
def tw11378505205489102704:=0
def tw2466266467478075728:=0
def tw1507953918434634713:=0
def tw12374902825232074713:=0
def tw13162832317081274745:=0
def tw6657658694686864185:=0
def tw14391778458899923705:=0
def tw13675834064823809657:=0
def tw1098598301656199769:=0
def tw7350177756080972793:=0
def tw15562300602761608057:=0
def tw4780516477053094201:=0
def tw10303097823104016089:=0
def tw17958547942364366969:=0
def tw11358501513389581401:=0
def tw12913379629425055493:=0
def tw13886197639930864376:=0
end PySem.W.Fast
abbrev gX:=List (Int×Int)
abbrev gV:=List (List Int)
abbrev hZ:=List (PySem.Addr×PySem.Obj)
abbrev hV:=Array (Int×PySem.Value)
abbrev iX:=List (PySem.Value×List Int)
abbrev kQ:=List (Option Nat)
set_option bootstrap.genMatcherCode false
set_option compiler.extract_closed false
set_option Elab.async false
set_option linter.all false
set_option maxRecDepth 100000
namespace L2
open PySem PySem.Spec PyProof.Rows
abbrev Key:=Sum Int Str
def aLA:Key->Value->Bool
 | .inl k,v=>zJ3 k v
 | .inr x,v=>Value.isStrOf x v
def aO6(w:World):Key->Int
 | .inl k=>hashInt k
 | .inr x=>hashStr w x
def cO:∀{k:Key} {v:Value},aLA k v=true->(∃i t,k=zGV i/\v=zCf i t)\/(∃x t,k=zGW x/\v=zId x t)
 | .inl i,v,h=>by
  obtain⟨t,e⟩:=Value.isInt_shape (k:=i) (v:=v) h;exact .inl ⟨i,t,rfl,e⟩
 | .inr x,v,h=>by
  obtain⟨t,e⟩:=Value.isStrOf_shape (x:=x) (v:=v) h;exact .inr ⟨x,t,rfl,e⟩
def aM6(a b:Int):decide ((zGV a:Key)=zGV b)=(a==b):=by
 by_cases e:a=b
 .subst e;simp
 .have h:¬(zGV a:Key)=zGV b:=λ q=>e (Sum.inl.inj q)
  rw[decide_eq_false h];exact(beq_eq_false_iff_ne.mpr e).symm
def aM3(a b:Str):decide ((zGW a:Key)=zGW b)=decide (a=b):=by
 by_cases e:a=b
 .subst e;simp
 .have h:¬(zGW a:Key)=zGW b:=λ q=>e (Sum.inr.inj q)
  rw[decide_eq_false h,decide_eq_false e]
def aM5(a:Int)(b:Str):decide ((zGV a:Key)=zGW b)=false:=decide_eq_false (λ q=>nomatch q)
def aM4(a:Str)(b:Int):decide ((zGW a:Key)=zGV b)=false:=decide_eq_false (λ q=>nomatch q)
def aAM(prog:zA3)(w:World):PySem.KeyKind prog w Key where
 is:=aLA
 hash:=aO6 w
 inj:=λ v a b ha hb=>by
  rcases cO ha with ⟨i,t,rfl,rfl⟩|⟨x,t,rfl,rfl⟩
  .rcases cO hb with ⟨j,u,rfl,e⟩|⟨y,u,rfl,e⟩
   .injection e with e1 _;rw[e1]
   .exact nomatch e
  .rcases cO hb with ⟨j,u,rfl,e⟩|⟨y,u,rfl,e⟩
   .exact nomatch e
   .injection e with e1 _;rw[e1]
 byValue:=λ k v h=>by
  rcases cO h with ⟨i,t,rfl,rfl⟩|⟨x,t,rfl,rfl⟩<;>rfl
 pyHash:=λ hv h=>by
  rcases cO hv with ⟨i,t,rfl,rfl⟩|⟨x,t,rfl,rfl⟩
  .exact wpAny_pyHash_int h
  .exact wpAny_pyHash_str h
 eqBool:=λ hu hv h=>by
  rcases cO hu with ⟨i,t,rfl,rfl⟩|⟨x,t,rfl,rfl⟩
  .rcases cO hv with ⟨j,u,rfl,rfl⟩|⟨y,u,rfl,rfl⟩
   .rw[aM6]at h;exact wpAny_eqBool_int h
   .rw[aM5]at h;exact zGj i t y u _ _ _ _ h
  .rcases cO hv with ⟨j,u,rfl,rfl⟩|⟨y,u,rfl,rfl⟩
   .rw[aM4]at h;exact zGk x t j u _ _ _ _ h
   .rw[aM3]at h;exact wpAny_eqBool_str h
 «strs»:=λ k x t v h=>by
  rcases cO h with ⟨i,u,rfl,e⟩|⟨y,u,rfl,e⟩
  .exact nomatch e
  .injection e with e1 _
   subst e1;cases v<;>rfl
inductive V where
 |non|bl (b:Bool)|int (i:Int)|str (x:Str)|byt (b:Array UInt8)|flt (b:UInt64)|ref (a:Addr)|ty (n:String)
 deriving DecidableEq
def RelV:V->Value->Prop
 | .non,u=>u=zBn
 | .bl b,u=>u=zCn b
 | .int i,u=>∃t,u=zCf i t
 | .str x,u=>∃t,u=zId x t
 | .byt b,u=>∃t,u=Value.bytes b t
 | .flt b,u=>∃t,u=zJ2 b t
 | .ref a,u=>u=zAx a
 | .ty n,u=>u=zBt n
abbrev Vals:List V->List Value->Prop:=zFa RelV
theorem Vals.length(r:Vals xs us):xs.length=us.length:=zG7 r
theorem Vals.get:∀{xs:List V} {us:List Value} {i:Nat} {x:V},Vals xs us->xs[i]? =some x->∃u,us[i]? =some u/\RelV x u
 |_,_,_,_,.nil,e=>by simp at e
 |_,_,0,_,.cons r _,e=>by simp at e;subst e;exact⟨_,rfl,r⟩
 |_,_,i+1,x,.cons _ t,e=>by
  obtain⟨u,h1,h2⟩:=Vals.get (i:=i) (x:=x) t (by simpa using e);exact⟨u,by simpa using h1,h2⟩
theorem Vals.append:∀{xs ys:List V} {us ws:List Value},Vals xs us->Vals ys ws->Vals (xs++ys) (us++ws)
 |_,_,_,_,.nil,s=>s
 |_,_,_,_,.cons r t,s=>.cons r (Vals.append t s)
def aFt:Option V->Option Value->Prop
 |some v,some u=>RelV v u
 |none,none=>True
 |_,_=>False
def KV{κ:Type}:List (κ×V)->List (κ×Value)->Prop:=zFa λ(p:κ×V) (q:κ×Value)=>p.1=q.1/\RelV p.2 q.2
def kV:Key->V
 | .inl i=>.int i
 | .inr x=>.str x
inductive HO where
 |lst (xs:List V)
 |tup (xs:List V)
 |dK (kvs:List (Key×V))|dT (kvs:List (List Key×V))
 |set (S:Int->Bool) (n:Nat)
 |ins (C dx:Addr) (fs:List (Str×V))
 |own (x:Addr)
 |xd (fs:List (Str×V))
 |met (f x:Addr)
 |rng (lo hi:Int)
 |frz (o:Obj) (u:HO)
 |tbl (ps:Array Value)
 |ext (φ:Heap->Prop)
abbrev Hp:=Addr->Option HO
def upd(H:Hp)(a:Addr)(o:HO):Hp:=λ b=>if b=a then some o else H b
def aa:upd H a o a=some o:=by unfold upd;rw[if_pos rfl]
def aX(h:b≠a):upd H a o b=H b:=by unfold upd;rw[if_neg h]
def cC{H:Hp}{a b:Addr}{o:HO}(h:H a=some o)(h':H b=none):a≠b:=by
 intro e;subst e;rw[h]at h';cases h'
def NoD(h:Heap)(a:Addr):Prop:=∀o,h.get? a=some o->o.dict=none
theorem NoD.push(h:Heap){o:Obj}(hl:o.isFreed=false:=by rfl)(hd:o.dict=none:=by rfl):NoD (h.push o) h.objs.size:=λ u e=>by rw[zAS _ hl]at e;cases e;exact hd
def NoD.keep{h h':Heap}{a:Addr}{o:Obj}(n:NoD h a)(e:h.get? a=some o)(e':h'.get? a=some o):NoD h' a:=λ u q=>by rw[e']at q;cases q;exact n o e
section
variable(P:zA3)(w:World)
def cP(H:Hp)(h:Heap)(a:Addr):HO->Prop
 | .lst xs=>xs.length<=zAY/\∃(its:List Value) (n:Nat),Vals xs its/\h.get? a=some {cls:=.type "list",data:=.seq its.toArray n}
 | .tup xs=>(xs.length<=zAY/\NoD h a)/\∃its:List Value,Vals xs its/\IsTup h a its.toArray
 | .dK kvs=>kvs.length<=zAY/\(a==zDY)=false/\∃vs,KV kvs vs/\h.DictOf (aAM P w) a vs
 | .dT kvs=>kvs.length<=zAY/\(a==zDY)=false/\∃xs:List (List Key×Addr×Value),
   zFa (λ(p:List Key×V) (q:List Key×Addr×Value)=>p.1=q.1/\H q.2.1=some (.tup (p.1.map kV))/\RelV p.2 q.2.2) kvs xs/\
   ∃o es ep,h.get? a=some o/\o.ExactDict/\o.data= .dict es ep/\es.toList=xs.map (entryOfKey (zHE (aAM P w)))/\(xs.map (·.1)).Nodup
 | .set S n=>h.SetOf (zCS P w) a S n
 | .ins C dx fs=>H dx=some (.own a)/\fs.length<=1000/\dx≠a/\h.get? a=some (zCW C dx)/\
   ∃mA,h.Ns1 dx mA/\(∀f,aFt (fs.lookup f) (mA f))/\zJI mA (fs.map (·.1))
 | .own _=>∃o,h.get? a=some o
 | .xd fs=>∃mA,h.Ns1 a mA/\∀f,aFt (fs.lookup f) (mA f)
 | .rng lo hi=>∃t u v,h.get? a=some {cls:=.type "range",data:=.fields #[.int lo t,.int hi u,.int 1 v]}
 | .frz o u=>h.get? a=some o/\cP H h a u
 | .tbl ps=>h.get? a=some {cls:=.none,data:=.fields ps}
 | .met f x=>h.get? a=some (zFR (.ref f) (.ref x))
 | .ext φ=>φ h/\(∃o,h.get? a=some o)/\∀h1 h2:Heap,φ h1->(∀o,h1.get? a=some o->h2.get? a=some o)->φ h2
def HOk(H:Hp)(h:Heap):Prop:=∀a o,H a=some o->cP P w H h a o
end
section
variable{P:zA3}{w:World}{H H':Hp}{h h':Heap}{a:Addr}{o:HO}
theorem cP.lt(x:cP P w H h a o):a<h.objs.size:=by
 cases o with
 |lst xs=>obtain⟨_,_,_,_,e⟩:=x;exact zAT e
 |tup xs=>obtain⟨_,_,_,p⟩:=x;exact p.lt
 |dK kvs=>obtain⟨_,_,_,_,o,_,_,e,_⟩:=x;exact zAT e
 |dT kvs=>obtain⟨_,_,_,_,o,_,_,e,_⟩:=x;exact zAT e
 |set S n=>obtain⟨o,_,_,_,e,_⟩:=x;exact zAT e
 |ins C dx fs=>obtain⟨_,_,_,e,_⟩:=x;exact zAT e
 |own y=>obtain⟨_,e⟩:=x;exact zAT e
 |xd fs=>obtain⟨_,⟨_,_,_,e,_⟩,_⟩:=x;exact zAT e
 |rng lo hi=>obtain⟨_,_,_,e⟩:=x;exact zAT e
 |frz ob u=>obtain⟨e,_⟩:=x;exact zAT e
 |tbl ps=>exact zAT (show h.get? a=some _ from x)
 |met f y=>exact zAT (show h.get? a=some _ from x)
 |ext φ=>obtain⟨_,⟨_,e⟩,_⟩:=x;exact zAT e
theorem Paired.mapP:∀{l₁:List α} {l₂:List β},zFa F l₁ l₂->(∀a b,F a b->G a b)->zFa G l₁ l₂
 |_,_,.nil,_=>.nil
 |_,_,.cons r t,f=>.cons (f _ _ r) (Paired.mapP t f)
def cP.stay(x:cP P w H h a o)(k:∀b u,(b=a\/H b=some (.own a))->h.get? b=some u->h'.get? b=some u)
  (ho:∀b,H b=some (.own a)->H' b=some (.own a))(ht:∀b xs,H b=some (.tup xs)->H' b=some (.tup xs)):cP P w H' h' a o:=by
 induction o with
 |lst xs=>obtain⟨z,its,n,r,e⟩:=x;exact⟨z,its,n,r,k _ _ (.inl rfl) e⟩
 |tup xs=>obtain⟨z,its,r,ob,e,c⟩:=x;exact⟨⟨z.1,z.2.keep e (k _ _ (.inl rfl) e)⟩,its,r,ob,k _ _ (.inl rfl) e,c⟩
 |dK kvs=>obtain⟨z,y,vs,r,ob,es,ep,e,c⟩:=x;exact⟨z,y,vs,r,ob,es,ep,k _ _ (.inl rfl) e,c⟩
 |dT kvs=>
  obtain⟨z,y,xs,r,ob,es,ep,e,c⟩:=x;exact⟨z,y,xs,Paired.mapP r λ p q z=>⟨z.1,ht _ _ z.2.1,z.2.2⟩,ob,es,ep,k _ _ (.inl rfl) e,c⟩
 |set S n=>obtain⟨ob,es,ep,t,e,c⟩:=x;exact⟨ob,es,ep,t,k _ _ (.inl rfl) e,c⟩
 |ins C dx fs=>
  obtain⟨d,z,ne,e,mA,⟨od,es,ep,e2,c⟩,r⟩:=x;exact⟨ho _ d,z,ne,k _ _ (.inl rfl) e,mA,⟨od,es,ep,k _ _ (.inr d) e2,c⟩,r⟩
 |own y=>obtain⟨ob,e⟩:=x;exact⟨ob,k _ _ (.inl rfl) e⟩
 |xd fs=>obtain⟨mA,⟨od,es,ep,e,c⟩,r⟩:=x;exact⟨mA,⟨od,es,ep,k _ _ (.inl rfl) e,c⟩,r⟩
 |rng lo hi=>obtain⟨t,u,v,e⟩:=x;exact⟨t,u,v,k _ _ (.inl rfl) e⟩
 |frz ob u ih=>obtain⟨e,q⟩:=x;exact⟨k _ _ (.inl rfl) e,ih q⟩
 |tbl ps=>
  have e:h.get? a=some {cls:=.none,data:=.fields ps}:=x;show h'.get? a=some {cls:=.none,data:=.fields ps};exact k a _ (.inl rfl) e
 |met f y=>
  have e:h.get? a=some (zFR (.ref f) (.ref y)):=x;show h'.get? a=some (zFR (.ref f) (.ref y));exact k a _ (.inl rfl) e
 |ext φ=>obtain⟨p,⟨o,e⟩,st⟩:=x;exact⟨st _ _ p λ o q=>k _ _ (.inl rfl) q,⟨o,k _ _ (.inl rfl) e⟩,st⟩
theorem HOk.lt(x:HOk P w H h)(e:H a=some o):a<h.objs.size:=(x a o e).lt
def HOk.fresh(x:HOk P w H h)(e:h.objs.size<=a):H a=none:=by
 cases q:H a with
 |none=>rfl
 |some u=>exact absurd (zAV (x.lt q) e) (zB1 _)
def HOk.kept(x:HOk P w H h)(k:∀b u,h.get? b=some u->h'.get? b=some u):HOk P w H h':=λ a o e=>
 (x a o e).stay (λ b u _ q=>k b u q) (λ _ q=>q) λ _ _ q=>q
def HOk.laid(x:HOk P w H h)(k:∀b u,h.get? b=some u->h'.get? b=some u)(hp:h.objs.size<=a)(new:cP P w (upd H a o) h' a o):HOk P w (upd H a o) h':=λ b u e=>by
 have hn:=x.fresh hp;by_cases hb:b=a
 .subst hb;rw[aa]at e;cases e;exact new
 .rw[aX hb]at e
  exact(x b u e).stay (λ c v _ q=>k c v q) (λ c q=>by rw[aX (cC q hn)];exact q) λ c xs q=>by rw[aX (cC q hn)];exact q
end
def Rd(H:Hp)(a:Addr)(u:HO):Prop:=H a=some u\/∃o,H a=some (.frz o u)
def Rd.ok(r:Rd H a u)(x:HOk P w H h):cP P w H h a u:=by
 rcases r with r|⟨o,r⟩
 .exact x a u r
 .obtain⟨_,q⟩:=x a _ r
  exact q
def Mut:Option HO->Prop
 |some (.lst _)=>True
 |some (.dK _)=>True
 |some (.dT _)=>True
 |some (.set _ _)=>True
 |some (.ins _ _ _)=>True
 |some (.ext _)=>True
 |_=>False
section
variable{P:zA3}{w:World}{H:Hp}{h h':Heap}{x e:Addr}{o':HO}
def HOk.write(ok:HOk P w H h)(mu:Mut (H x))(he:e=x\/H e=some (.own x))(k:∀b u,b≠e->h.get? b=some u->h'.get? b=some u)(heo:∃u,h'.get? e=some u)
  (new:cP P w (upd H x o') h' x o'):HOk P w (upd H x o') h':=λ b u q=>by
 have nown:∀c y,H c=some (.own y)->c≠x:=λ c y r z=>by subst z;rw[r]at mu;exact mu
 have ntup:∀c xs,H c=some (.tup xs)->c≠x:=λ c xs r z=>by subst z;rw[r]at mu;exact mu
 by_cases hb:b=x
 .subst hb;rw[aa]at q;cases q;exact new
 .rw[aX hb]at q
  by_cases hbe:b=e
  .have q':H b=some (.own x):=by
    rcases he with z|z
    .exact absurd (hbe.trans z) hb
    .rw[hbe];exact z
   rw[q]at q';cases q';obtain⟨v,hv⟩:=heo;exact⟨v,by rw[hbe];exact hv⟩
  .refine(ok b u q).stay (λ c v hc r=>k c v ?_ r) (λ c r=>by rw[aX (nown c b r)];exact r) λ c xs r=>by rw[aX (ntup c xs r)];exact r
   rcases hc with rfl|hc
   .exact hbe
   .rintro rfl
    rcases he with z|z
    .exact nown c b hc z
    .rw[hc]at z;cases z;exact hb rfl
end
structure Un(fs ex:List Addr)(H H':Hp)(h h':Heap):Prop where
 keep:∀b o,h.get? b=some o->H b=none->b∉fs->b∉ex->h'.get? b=some o
 slot:∀b o,h.get? b=some o->H b=none->b∈fs->b∉ex->∃sl,h'.get? b=some {o with slots:=sl}
 free:∀b o,h.get? b=some o->H b=none->b∉ex->H' b=none
 there:∀b o,h.get? b=some o->b∉ex->∃o',h'.get? b=some o'
 tups:∀b xs,H b=some (.tup xs)->H' b=some (.tup xs)
 frzs:∀b o u,H b=some (.frz o u)->H' b=some (.frz o u)
 tbls:∀b ps,H b=some (.tbl ps)->∃more,H' b=some (.tbl (ps++more))
section
variable{fs fs' ex ex':List Addr}{H H1:Hp}{h h1 h':Heap}{a x e:Addr}{o:HO}
def Un.any(u:Un fs ex H H1 h h1)(q:h.get? b=some ob)(n:H b=none)(hx:b∉ex):∃sl,h1.get? b=some {ob with slots:=sl}:=by
 by_cases hb:b∈fs
 .exact u.slot b ob q n hb hx
 .exact⟨ob.slots,u.keep b ob q n hb hx⟩
def Un.kept(k:∀b u,h.get? b=some u->h'.get? b=some u):Un fs ex H H h h':=
 ⟨λ b ob q _ _ _=>k b ob q,λ b ob q _ _ _=>⟨ob.slots,k b ob q⟩,λ _ _ _ n _=>n,λ b ob q _=>⟨ob,k b ob q⟩,λ _ _ q=>q,λ _ _ _ q=>q,λ _ ps q=>⟨#[],by rw[q];simp⟩⟩
def Un.refl:Un fs ex H H h h:=Un.kept λ _ _ q=>q
def Un.laid(k:∀b u,h.get? b=some u->h'.get? b=some u)(hp:h.objs.size<=a)(hn:H a=none):Un fs ex H (upd H a o) h h' where
 keep:=λ b u q _ _ _=>k b u q
 slot:=λ b u q _ _ _=>⟨u.slots,k b u q⟩
 free:=λ b u q n _=>by rw[aX (zA6 (zAV (zAT q) hp))];exact n
 there:=λ b u q _=>⟨u,k b u q⟩
 tups:=λ b xs q=>by rw[aX (cC q hn)];exact q
 frzs:=λ b u xs q=>by rw[aX (cC q hn)];exact q
 tbls:=λ b ps q=>⟨#[],by rw[aX (cC q hn),q];simp⟩
def Un.write(mu:Mut (H x))(he:e=x\/H e=some (.own x))(k:∀b u,b≠e->h.get? b=some u->h'.get? b=some u)(heo:∃u,h'.get? e=some u):Un fs ex H (upd H x o) h h':=by
 have hx:∀b,H b=none->b≠x:=λ b n z=>by subst z;rw[n]at mu;exact mu
 have hb:∀b,H b=none->b≠e:=λ b n z=>by
  subst z;rcases he with r|r
  .exact hx b n r
  .rw[n]at r;cases r
 have hm:∀b u,H b=some u->¬Mut (some u)->b≠x:=λ b u q nm z=>by subst z;rw[q]at mu;exact nm mu
 refine⟨λ b u q n _ _=>k b u (hb b n) q,λ b u q n _ _=>⟨u.slots,k b u (hb b n) q⟩,λ b u q n _=>by rw[aX (hx b n)];exact n,λ b u q _=>?_,
  λ b xs q=>by rw[aX (hm b _ q λ z=>z)];exact q,λ b u xs q=>by rw[aX (hm b _ q λ z=>z)];exact q,λ b ps q=>⟨#[],by rw[aX (hm b _ q λ z=>z),q];simp⟩⟩
 by_cases hbe:b=e
 .subst hbe;exact heo
 .exact⟨u,k b u hbe q⟩
def Un.mono(u:Un fs ex H H1 h h1)(hs:∀b∈fs,b∈fs')(hx:∀b∈ex,b∈ex'):Un fs' ex' H H1 h h1:=
 ⟨λ b ob q n hb he=>u.keep b ob q n (λ z=>hb (hs b z)) λ z=>he (hx b z),λ _ _ q n _ he=>u.any q n λ z=>he (hx _ z),λ b ob q n he=>u.free b ob q n λ z=>he (hx b z),λ b ob q he=>u.there b ob q λ z=>he (hx b z),u.tups,u.frzs,u.tbls⟩
end
def trk(h:Heap)(H:Hp):List Addr:=(zAj h.objs.size).filter λ a=>(H a).isSome
def aHr(h:Heap)(H:Hp):Heap:=zCE h (trk h H)
def aFa(h:Heap)(H:Hp):(aHr h H).objs.size=h.objs.size:=zEd _ _
def aHq(e:h.get? b=some o)(n:H b=none):(aHr h H).get? b=some o:=
 zC0 _ e λ hm=>by
  have q:(H b).isSome=true:=(zAR.mp hm).2;rw[n]at q;simp at q
def aJ8(e:(aHr h H).get? b=some o):h.get? b=some o/\H b=none:=by
 have e':h.get? b=some o:=zDr (trk h H) e;refine⟨e',?_⟩;cases q:H b with
 |none=>rfl
 |some x=>
  have hm:b∈trk h H:=zAR.mpr ⟨zBF.mpr (zAT e'),by simp[q]⟩;have z:(aHr h H).get? b=none:=zEc (trk h H) hm;rw[z]at e;cases e
def aKZ(g h:Heap)(L:Addr):hZ:=(zAj h.objs.size).filterMap λ a=>if a=L\/(g.get? a).isSome=true then none else(h.get? a).map λ o=>(a,o)
def rest(g h:Heap)(L d:Addr):hZ:=(aKZ g h L).filter λ p=>decide (p.1≠d)
structure Mod(K:zAA)(mg:Str->Option Value)(base:Heap):Prop where
 kin:K.In base
 glob:base.Ns zA9 mg
 blt:∃mb,base.Ns zJ5 mb/\∀x:Str,x≠"__name__"->mb x=zBC x
 nolimit:base.NoLimit
structure Cx where
 prog:zA3
 w:World
 K:zAA
 mg:Str->Option Value
 base:Heap
 A:zAc
 N:List Str
 z5:zAE
 zI:Hp
 env:Env
 outer:List Env
 stack:List Env
 ex:List Addr
 fn:Str->Bool
 calm:Bool
 pn:hZ
 xe:Value->zAE->Prop
 ta:hZ:=[]
 tq:Str:=""
def frs(l:List Env):List Addr:=l.filterMap (·.frame)
abbrev Cx.fs(X:Cx):List Addr:=frs X.outer
def Vis(sc:Scope)(x:Str):Prop:=sc.names.lookup x=some .local\/sc.names.lookup x=some .cell\/sc.names.lookup x=some .free
def Loc(sc:Scope)(x:Str):Prop:=sc.names.lookup x=some .local\/sc.names.lookup x=some .cell
def Look(env:Env)(h:Heap)(m:Str->Option Value)(x:Str)(u:Value):Prop:=
 (env.kindOf x=some .local/\m x=some u)\/((env.kindOf x=some .cell\/env.kindOf x=some .free)/\∃c,env.cells.lookup x=some c/\h.IsCell c (some u))
structure Cx.Ok(X:Cx):Prop where
 mod:Mod X.K X.mg X.base
 kind:X.env.scope.kind= .function
 glob:X.env.globals=zA9
 blt:X.env.builtins=zJ5
 above:X.z5.heap.objs.size<=X.env.locals
 inj:∀x y c,X.env.cells.lookup x=some c->X.env.cells.lookup y=some c->x=y
 has:∀x,(X.env.kindOf x=some .cell\/X.env.kindOf x=some .free)->∃c,X.env.cells.lookup x=some c
 cab:∀x c,X.fn x=true->X.env.cells.lookup x=some c->X.z5.heap.objs.size<=c
 hd:X.calm=true->X.A.handled=none
 frames:X.A.frames=some X.stack
 stk:X.stack=X.outer\/(X.stack=X.env::X.outer/\X.env.frame=some X.env.locals)
 exf:∀b∈X.ex,b≠X.env.locals/\∀x c,X.env.cells.lookup x=some c->c≠b
 bs:∀b o,X.base.get? b=some o->X.z5.heap.get? b=some o/\X.zI b=none
 bsz:X.base.objs.size<=X.z5.heap.objs.size
 noex:∀b o,X.base.get? b=some o->b∉X.ex
 exfs:∀b∈X.ex,b∉X.fs
 funs:X.z5.heap.FunFrames X.base X.outer
 frf:∀b∈X.fs,X.zI b=none
def aLJ(q:Str)(oc:Obj):Prop:=∃vs t,oc.data= .fields vs/\vs[1]? =some (.str q t)
def TabOk(q:Str)(H:Hp)(ps:Array Value):Prop:=TriplesOk ps.toList/\∀pos cv,zGF pos ps.toList=some cv->∃c' oc,cv= .ref c'/\H c'=some (.frz oc (.own c'))/\aLJ q oc
def TabOk.mono(t:TabOk q H ps)(f:∀b o u,H b=some (.frz o u)->H' b=some (.frz o u)):TabOk q H' ps:=⟨t.1,λ pos cv hc=>let⟨c',oc,z,a,b⟩:=t.2 pos cv hc;⟨c',oc,z,f _ _ _ a,b⟩⟩
structure Inv(X:Cx)(kX:hZ)(Z:List (Option V))(H:Hp)(s:zAE):Prop where
 ok:X.Ok
 os:s.os=X.z5.os
 bare:zFP s.gens
 base:Un X.fs X.ex X.zI H X.z5.heap s.heap
 loc:∃m,s.heap.Ns X.env.locals m/\∀(i:Nat) (x:Str) (v:V),X.N[i]? =some x->Z[i]? =some (some v)->Vis X.env.scope x->∃u,RelV v u/\Look X.env s.heap m x u
 cell:∀x c,X.env.cells.lookup x=some c->∃v,s.heap.IsCell c v
 free:H X.env.locals=none
 freeC:∀x c,X.env.cells.lookup x=some c->H c=none
 pin:∀p∈X.pn++kX,s.heap.get? p.1=some p.2/\H p.1=none/\p.1≠X.env.locals/\p.1∉X.fs/\∀v,p.2.data≠.cell v
 hok:HOk X.prog X.w H s.heap
 len:Z.length=X.N.length
 tab:∀p∈X.ta,H p.1=none/\p.1≠X.env.locals/\p.1∉X.fs/\(∀q∈X.pn++kX,q.1≠p.1)/\∃ps,s.heap.get? p.1=some {cls:=.none,data:=.fields ps}/\TabOk X.tq H ps
section
variable{X:Cx}{kX:hZ}{Z:List (Option V)}{H H':Hp}{s:zAE}{h':Heap}
def Cx.Ok.nofr(ok:X.Ok)(e:X.base.get? b=some o):b∉X.fs:=λ hb=>by
 have:=(ok.funs.mem hb).1
 rw[e]at this;cases this
theorem Inv.bs(I:Inv X kX Z H s):∀b o,X.base.get? b=some o->s.heap.get? b=some o/\H b=none:=λ b o e=>
 ⟨I.base.keep b o (I.ok.bs b o e).1 (I.ok.bs b o e).2 (I.ok.nofr e) (I.ok.noex b o e),I.base.free b o (I.ok.bs b o e).1 (I.ok.bs b o e).2 (I.ok.noex b o e)⟩
def Inv.bk(I:Inv X kX Z H s):∀b o,X.base.get? b=some o->s.heap.get? b=some o:=λ b o e=>(I.bs b o e).1
theorem Inv.mod(I:Inv X kX Z H s):Mod X.K X.mg X.base:=I.ok.mod
def Inv.kIn(I:Inv X kX Z H s):X.K.In s.heap:=I.ok.mod.kin.keeps I.bk
def Inv.fr(I:Inv X kX Z H s):∃m,Fr X.base X.env.locals s.heap m:=
 let⟨m,hn,_⟩:=I.loc
 ⟨m,hn,I.bk,zAi I.ok.bsz I.ok.above⟩
theorem Inv.lt(I:Inv X kX Z H s):X.env.locals<s.heap.objs.size:=let⟨_,hn,_⟩:=I.loc;hn.lt
def Inv.sz(I:Inv X kX Z H s):X.z5.heap.objs.size<=s.heap.objs.size:=zAi I.ok.above (zB8 I.lt)
def Inv.nofs(I:Inv X kX Z H s)(h:s.heap.objs.size<=a):a∉X.fs:=λ hb=>by
 obtain⟨_,o,ho,_⟩:=I.ok.funs.mem hb;exact absurd (zAV (zAT ho) (zAi I.sz h)) (zB1 _)
def Inv.cne(I:Inv X kX Z H s):∀x c,X.env.cells.lookup x=some c->c≠X.env.locals:=λ x c e z=>by
 obtain⟨v,o,ho,hd⟩:=I.cell x c e;obtain⟨m,⟨o',es,ep,ho',hd',_⟩,_⟩:=I.loc;rw[z,ho']at ho;cases ho;rw[hd']at hd;cases hd
theorem Inv.funs(I:Inv X kX Z H s):s.heap.FunFrames X.base X.outer:=by
 have all:∀(l:List Env),(∀b∈frs l,b∈X.fs)->X.z5.heap.FunFrames X.base l->s.heap.FunFrames X.base l:=by
  intro l;induction l with
  |nil=>intro _ _;trivial
  |cons env r ih=>
   intro hs hl;obtain⟨hk,⟨L,o,hf,hn,ho,hd⟩,hr⟩:=hl;have hL:L∈X.fs:=hs L (by unfold frs;rw[zBQ,hf];exact zAF);obtain⟨sl,e⟩:=I.base.slot L o ho (I.ok.frf L hL) hL λ z=>I.ok.exfs L z hL
   exact⟨hk,⟨L,_,hf,hn,e,hd⟩,ih (λ b hb=>hs b (by unfold frs;rw[zBQ,hf];exact zAG _ hb)) hr⟩
 exact all X.outer (λ _ hb=>hb) I.ok.funs
theorem Inv.stack(I:Inv X kX Z H s):s.heap.FunFrames X.base X.stack:=by
 rcases I.ok.stk with e|⟨e,hf⟩
 .rw[e];exact I.funs
 .rw[e]
  obtain⟨m,hn,_⟩:=I.loc;refine .cons (by rw[I.ok.kind];decide) hf hn ?_ I.funs;exact Heap.get?_none_of_le (zAi I.ok.bsz I.ok.above)
def Inv.stkSub(I:Inv X kX Z H s):∀b∈frs X.stack,b∈X.env.locals::X.fs:=λ b hb=>by
 rcases I.ok.stk with e|⟨e,hf⟩
 .rw[e]at hb;exact zAG _ hb
 .rw[e]at hb
  unfold frs at hb;rw[zBQ,hf]at hb;exact hb
def Inv.stkFree(I:Inv X kX Z H s):∀b∈frs X.stack,H b=none:=λ b hb=>by
 rcases zAP.mp (I.stkSub b hb)with e|hb
 .rw[e];exact I.free
 .obtain⟨_,o,ho,_⟩:=I.ok.funs.mem hb
  exact I.base.free b o ho (I.ok.frf b hb) λ z=>I.ok.exfs b z hb
def Inv.step{g':Array zDj}{t':Nat}{d':Drawn}{ch:List Addr}(I:Inv X kX Z H s)
  (hch:∀b∈ch,(b∈X.ex\/X.z5.heap.objs.size<=b)/\b≠X.env.locals/\(∀x c,X.env.cells.lookup x=some c->c≠b)/\∀p∈X.ta++(X.pn++kX),p.1≠b)
  (keep:∀b o,b≠X.env.locals->b∉X.fs->b∉ch->s.heap.get? b=some o->H b=none->h'.get? b=some o)
  (slot:∀b o,b≠X.env.locals->b∈X.fs->b∉ch->s.heap.get? b=some o->H b=none->∃sl,h'.get? b=some {o with slots:=sl})(free:∀b o,b∉ch->s.heap.get? b=some o->H b=none->H' b=none)
  (there:∀b o,b∉ch->s.heap.get? b=some o->∃o',h'.get? b=some o')
  (tups:∀b xs,H b=some (.tup xs)->H' b=some (.tup xs))(frzs:∀b o u,H b=some (.frz o u)->H' b=some (.frz o u))(tbls:∀b ps,H b=some (.tbl ps)->∃more,H' b=some (.tbl (ps++more)))
  (ns:∀m,s.heap.Ns X.env.locals m->h'.Ns X.env.locals m)(hok:HOk X.prog X.w H' h')(hg:zFP g'):
  Inv X kX Z H' {s with heap:=h',gens:=g',drawn:=d',toks:=t'}:=by
 have neL:∀b o,X.z5.heap.get? b=some o->b≠X.env.locals:=λ b o e=>zA6 (zAV (zAT e) I.ok.above)
 have neC:∀b o,X.z5.heap.get? b=some o->b∉X.ex->b∉ch:=λ b o e hx hb=>by
  rcases(hch b hb).1 with z|z
  .exact hx z
  .exact absurd (zAV (zAT e) z) (zB1 _)
 have eA:∀x c,X.env.cells.lookup x=some c->∀v,s.heap.IsCell c v->h'.IsCell c v:=λ x c e v ⟨o,ho,hd⟩=>by
  have nch:c∉ch:=λ z=>(hch c z).2.2.1 x c e rfl
  by_cases hc:c∈X.fs
  .obtain⟨sl,q⟩:=slot c o (I.cne x c e) hc nch ho (I.freeC x c e)
   exact⟨_,q,hd⟩
  .exact⟨o,keep c o (I.cne x c e) hc nch ho (I.freeC x c e),hd⟩
 refine⟨I.ok,I.os,hg,⟨λ b o e n hb hx=>?_,λ b o e n hb hx=>?_,λ b o e n hx=>?_,λ b o e hx=>?_,λ b xs e=>tups b xs (I.base.tups b xs e),λ b o xs e=>frzs b o xs (I.base.frzs b o xs e),λ b ps e=>?_⟩,?_,λ x c e=>?_,?_,λ x c e=>?_,λ p hp=>?_,hok,I.len,λ p hp=>?_⟩
 .exact keep b o (neL b o e) hb (neC b o e hx) (I.base.keep b o e n hb hx) (I.base.free b o e n hx)
 .obtain⟨sl,e1⟩:=I.base.slot b o e n hb hx
  obtain⟨sl',e2⟩:=slot b _ (neL b o e) hb (neC b o e hx) e1 (I.base.free b o e n hx);exact⟨sl',e2⟩
 .obtain⟨o',e1⟩:=I.base.there b o e hx
  exact free b o' (neC b o e hx) e1 (I.base.free b o e n hx)
 .obtain⟨o',e1⟩:=I.base.there b o e hx
  exact there b o' (neC b o e hx) e1
 .obtain⟨m1,e1⟩:=I.base.tbls b ps e
  obtain⟨m2,e2⟩:=tbls b _ e1;exact⟨m1++m2,by rw[e2,zH8]⟩
 .obtain⟨m,hn,hl⟩:=I.loc
  refine⟨m,ns m hn,λ i x v e1 e2 e3=>?_⟩;obtain⟨u,r,l⟩:=hl i x v e1 e2 e3;refine⟨u,r,?_⟩;rcases l with l|⟨k,c,e,z⟩
  .exact .inl l
  .exact .inr ⟨k,c,e,eA x c e _ z⟩
 .obtain⟨v,z⟩:=I.cell x c e
  exact⟨v,eA x c e v z⟩
 .obtain⟨m,⟨o,_,_,ho,_⟩,_⟩:=I.loc
  exact free _ o (λ z=>(hch _ z).2.1 rfl) ho I.free
 .obtain⟨v,o,ho,hd⟩:=I.cell x c e
  exact free c o (λ z=>(hch c z).2.2.1 x c e rfl) ho (I.freeC x c e)
 .obtain⟨e,n,ne,nf,d⟩:=I.pin p hp
  have nch:p.1∉ch:=λ z=>(hch p.1 z).2.2.2 p (zA7 _ hp) rfl
  exact⟨keep p.1 p.2 ne nf nch e n,free p.1 p.2 nch e n,ne,nf,d⟩
 .obtain⟨n,ne,nf,np,ps,e,t⟩:=I.tab p hp
  have nch:p.1∉ch:=λ z=>(hch p.1 z).2.2.2 p (zA1 _ hp) rfl
  exact⟨free p.1 _ nch e n,ne,nf,np,ps,keep p.1 _ ne nf nch e n,t.mono frzs⟩
def Inv.pinL(I:Inv X kX Z H s)(hp:p∈X.ta++(X.pn++kX)):p.1<s.heap.objs.size:=by
 rcases zAh.mp hp with z|z
 .obtain⟨_,_,_,_,_,e,_⟩:=I.tab p z
  exact zAT e
 .exact zAT (I.pin p z).1
def Inv.un{t':Nat}(I:Inv X kX Z H s)(u:Un X.fs [] H H' s.heap h')(hok:HOk X.prog X.w H' h'):Inv X kX Z H' {s with heap:=h',toks:=t'}:=by
 obtain⟨m,⟨o,es,ep,ho,r⟩,_⟩:=id I.loc;obtain⟨sl,hL⟩:=u.any ho I.free (by simp);exact I.step (g':=s.gens) (d':=s.drawn) (ch:=[]) (λ _ z=>nomatch z) (λ b o _ hb _ e n=>u.keep b o e n hb (by simp)) (λ b o _ hb _ e n=>u.slot b o e n hb (by simp)) (λ b o _ e n=>u.free b o e n (by simp)) (λ b o _ e=>u.there b o e (by simp)) u.tups u.frzs u.tbls (λ m' hm=>by
  obtain⟨o',es',ep',ho',r'⟩:=hm;rw[ho]at ho';cases ho';exact⟨_,es',ep',hL,r'⟩) hok I.bare
def Inv.call{g':Array zDj}{t':Nat}{d':Drawn}{ch:List Addr}(I:Inv X kX Z H s)(u:Un (frs X.stack) ch H H' s.heap h')(hok:HOk X.prog X.w H' h')(hg:zFP g')
  (hch:∀b∈ch,(b∈X.ex\/X.z5.heap.objs.size<=b)/\b≠X.env.locals/\(∀x c,X.env.cells.lookup x=some c->c≠b)/\∀p∈X.ta++(X.pn++kX),p.1≠b):
  Inv X kX Z H' {s with heap:=h',gens:=g',drawn:=d',toks:=t'}:=by
 obtain⟨m,⟨o,es,ep,ho,r⟩,_⟩:=id I.loc;obtain⟨sl,hL⟩:=u.any ho I.free λ z=>(hch _ z).2.1 rfl
 exact I.step (ch:=ch) hch (λ b o hL hb hc e n=>u.keep b o e n (λ z=>(zAP.mp (I.stkSub b z)).elim hL hb) hc) (λ b o _ _ hc e n=>u.any e n hc) (λ b o hc e n=>u.free b o e n hc) (λ b o hc e=>u.there b o e hc) u.tups u.frzs u.tbls (λ m' hm=>by
  obtain⟨o',es',ep',ho',r'⟩:=hm;rw[ho]at ho';cases ho';exact⟨_,es',ep',hL,r'⟩) hok hg
def Inv.turned{t':Nat}{it:Addr}(I:Inv X kX Z H s)(k:∀b o,b≠it->s.heap.get? b=some o->h'.get? b=some o)(hn:H it=none)(hL:it≠X.env.locals)
  (h1:it∈X.ex\/X.z5.heap.objs.size<=it)(h2:∀x c,X.env.cells.lookup x=some c->c≠it)(h3:∀p∈X.ta++(X.pn++kX),p.1≠it):Inv X kX Z H {s with heap:=h',toks:=t'}:=by
 have nit:∀b u,H b=some u->b≠it:=λ b u e z=>by rw[z,hn]at e;cases e
 refine I.step (g':=s.gens) (d':=s.drawn) (ch:=[it]) (λ b hb=>?_) (λ b o _ _ hc e _=>k b o (λ z=>hc (by simp[z])) e) (λ b o _ _ hc e _=>⟨o.slots,k b o (λ z=>hc (by simp[z])) e⟩) (λ _ _ _ _ n=>n)
  (λ b o hc e=>⟨o,k b o (λ z=>hc (by simp[z])) e⟩) (λ _ _ e=>e) (λ _ _ _ e=>e) (λ b ps e=>⟨#[],by rw[e];simp⟩) (λ m hm=>?_) (λ b u e=>?_) I.bare
 .have e:b=it:=by simpa using hb
  subst e;exact⟨h1,hL,h2,h3⟩
 .obtain⟨o,es,ep,ho,r⟩:=hm
  exact⟨o,es,ep,k _ o (zCy hL) ho,r⟩
 .refine(I.hok b u e).stay (λ c v hc q=>k c v ?_ q) (λ _ q=>q) λ _ _ q=>q
  rcases hc with z|z
  .rw[z];exact nit b u e
  .exact nit c _ z
def Inv.tok(I:Inv X kX Z H s)(t:Nat):Inv X kX Z H {s with toks:=t}:=I.un (h':=s.heap) (t':=t) Un.refl I.hok
theorem Inv.kept(I:Inv X kX Z H s)(k:∀b u,s.heap.get? b=some u->h'.get? b=some u):Inv X kX Z H {s with heap:=h',toks:=t'}:=I.un (Un.kept k) (I.hok.kept k)
theorem Inv.laid(I:Inv X kX Z H s)(k:∀b u,s.heap.get? b=some u->h'.get? b=some u)(hp:s.heap.objs.size<=a)(new:cP X.prog X.w (upd H a o) h' a o):
  Inv X kX Z (upd H a o) {s with heap:=h',toks:=t'}:=I.un (Un.laid k hp (I.hok.fresh hp)) (I.hok.laid k hp new)
theorem Inv.write(I:Inv X kX Z H s)(mu:Mut (H x))(he:e=x\/H e=some (.own x))(k:∀b u,b≠e->s.heap.get? b=some u->h'.get? b=some u)(heo:∃u,h'.get? e=some u)
  (new:cP X.prog X.w (upd H x o) h' x o):Inv X kX Z (upd H x o) {s with heap:=h',toks:=t'}:=I.un (Un.write mu he k heo) (I.hok.write mu he k heo new)
def Inv.weak(I:Inv X kX Z H s)(hl:Z'.length=Z.length)(w:∀(i:Nat) v,Z'[i]? =some (some v)->Z[i]? =some (some v)):Inv X kX Z' H s:=
 ⟨I.ok,I.os,I.bare,I.base,let⟨m,hn,hl'⟩:=I.loc;⟨m,hn,λ i x v e1 e2 e3=>hl' i x v e1 (w i v e2) e3⟩,I.cell,I.free,I.freeC,I.pin,I.hok,hl.trans I.len,I.tab⟩
def Inv.pins_of(I:Inv X kX Z H s)(h:∀p∈pins',s.heap.get? p.1=some p.2/\H p.1=none/\p.1≠X.env.locals/\p.1∉X.fs/\∀v,p.2.data≠.cell v)(h2:∀q∈pins',∀p∈X.ta,q.1≠p.1):Inv X pins' Z H s:=
 ⟨I.ok,I.os,I.bare,I.base,I.loc,I.cell,I.free,I.freeC,λ p hp=>(zAh.mp hp).elim (λ z=>I.pin p (zA1 _ z)) (h p),I.hok,I.len,λ p hp=>let⟨a,b,c,d,e⟩:=I.tab p hp;⟨a,b,c,λ q hq=>(zAh.mp hq).elim (λ z=>d q (zA1 _ z)) (λ z=>h2 q z p hp),e⟩⟩
def vm{N:List Str}(hN:N.Nodup){i j:Nat}{x:Str}(a:N[i]? =some x)(b:N[j]? =some x):i=j:=by
 obtain⟨h1,e1⟩:=zAK.mp a;obtain⟨h2,e2⟩:=zAK.mp b;exact(List.getElem_inj hN).mp (e1.trans e2.symm)
def rN{M:Model}{A:zAc}{E:Value->zAE->Prop}{i:Nat}{x:Str}{v:V}{u:Value}{Q:Unit->zAE->Prop}(I:Inv X kX Z H s)(hN:X.N.Nodup)(hi:X.N[i]? =some x)(hx:Loc X.env.scope x)(r:RelV v u)
  (h:∀s',Inv X kX (Z.set i (some v)) H s'->(∃a,zD8 a s.heap s'.heap/\(a=X.env.locals\/X.env.cells.lookup x=some a))->Q () s')(hf:X.fn x=true\/X.env.scope.names.lookup x=some .local:=by first|exact .inl rfl|exact .inr rfl|assumption):wpAny M A (storeName X.env x u) Q E s:=by
 obtain⟨m,hn,hl⟩:=id I.loc;have eP:(X.env.scope.kind== .class||(X.env.scope.kind== .module&&X.env.locals !=X.env.globals))=false:=by rw[I.ok.kind];rfl
 have hiZ:i<Z.length:=by rw[I.len];exact(zAK.mp hi).1
 have cne:=I.cne;have cK:∀{a:Addr} {h':Heap},(∃o,s.heap.get? a=some o/\H a=none)->zD8 a s.heap h'->HOk X.prog X.w H h':=λ{a h'} ha hs b ob e=>by
  obtain⟨_,_,hfree⟩:=ha;refine(I.hok b ob e).stay (λ c w' hc q=>(hs.2 c ?_).trans q) (λ _ q=>q) λ _ _ q=>q
  rintro rfl;rcases hc with rfl|hc
  .rw[hfree]at e;cases e
  .rw[hfree]at hc;cases hc
 rcases hx with hk|hk
 .refine wpAny_storeName_local hk hn (λ h' hn' hs=>?_) eP
  obtain⟨oL,_,_,hoL,_⟩:=id hn;refine h _ ⟨I.ok,I.os,I.bare,⟨λ b o e n hb hx=>?_,λ b o e n hb hx=>?_,I.base.free,λ b o e hx=>?_,I.base.tups,I.base.frzs,I.base.tbls⟩,⟨_,hn',λ j y v' e1 e2 e3=>?_⟩,λ y c e=>?_,I.free,I.freeC,λ p hp=>?_,cK ⟨oL,hoL,I.free⟩ hs,by simpa using I.len,λ p hp=>?_⟩ ⟨_,hs,.inl rfl⟩
  .exact(hs.2 b (zA6 (zAV (zAT e) I.ok.above))).trans (I.base.keep b o e n hb hx)
  .obtain⟨sl,e1⟩:=I.base.slot b o e n hb hx
   exact⟨sl,(hs.2 b (zA6 (zAV (zAT e) I.ok.above))).trans e1⟩
  .obtain⟨o',e1⟩:=I.base.there b o e hx
   exact⟨o',(hs.2 b (zA6 (zAV (zAT e) I.ok.above))).trans e1⟩
  .by_cases hj:j=i
   .subst hj
    rw[hi]at e1;cases e1;rw[zCL hiZ]at e2;cases e2;exact⟨u,r,.inl ⟨hk,by simp⟩⟩
   .rw[zBX (zCy hj)]at e2
    obtain⟨u',r',q⟩:=hl j y v' e1 e2 e3;refine⟨u',r',?_⟩;rcases q with ⟨k,e⟩|⟨k,c,e,z⟩
    .refine .inl ⟨k,?_⟩
     have:y≠x:=λ e=>hj (vm hN e1 (e▸hi))
     simp[this,e]
    .exact .inr ⟨k,c,e,z.sameBut hs (cne y c e)⟩
  .obtain⟨w',z⟩:=I.cell y c e
   exact⟨w',z.sameBut hs (cne y c e)⟩
  .obtain⟨e,n,ne,nf,d⟩:=I.pin p hp
   exact⟨(hs.2 p.1 ne).trans e,n,ne,nf,d⟩
  .obtain⟨n,ne,nf,np,ps,e,t⟩:=I.tab p hp
   exact⟨n,ne,nf,np,ps,(hs.2 p.1 ne).trans e,t⟩
 .have hfn:X.fn x=true:=by
   rcases hf with z|z
   .exact z
   .rw[z]at hk;cases hk
  obtain⟨c,hc⟩:=I.ok.has x (.inl hk);obtain⟨w',z⟩:=I.cell x c hc;refine wpAny_storeName_cell I.ok.kind hk hc z (λ h' hc' hs=>?_);obtain⟨oc,hoc,hocd⟩:=id z;refine h {s with heap:=h'} ⟨I.ok,I.os,I.bare,⟨λ b o e n hb hx=>?_,λ b o e n hb hx=>?_,I.base.free,λ b o e hx=>?_,I.base.tups,I.base.frzs,I.base.tbls⟩,⟨m,hn.sameBut hs (zCy (cne x c hc)),λ j y v' e1 e2 e3=>?_⟩,λ y c' e=>?_,I.free,I.freeC,λ p hp=>?_,cK ⟨oc,hoc,I.freeC x c hc⟩ hs,by simpa using I.len,λ p hp=>?_⟩ ⟨c,hs,.inr hc⟩
  .exact(hs.2 b (zA6 (zAV (zAT e) (I.ok.cab x c hfn hc)))).trans (I.base.keep b o e n hb hx)
  .obtain⟨sl,e1⟩:=I.base.slot b o e n hb hx
   exact⟨sl,(hs.2 b (zA6 (zAV (zAT e) (I.ok.cab x c hfn hc)))).trans e1⟩
  .obtain⟨o',e1⟩:=I.base.there b o e hx
   exact⟨o',(hs.2 b (zA6 (zAV (zAT e) (I.ok.cab x c hfn hc)))).trans e1⟩
  .by_cases hj:j=i
   .subst hj
    rw[hi]at e1;cases e1;rw[zCL hiZ]at e2;cases e2;exact⟨u,r,.inr ⟨.inl hk,c,hc,hc'⟩⟩
   .rw[zBX (zCy hj)]at e2
    obtain⟨u',r',q⟩:=hl j y v' e1 e2 e3;refine⟨u',r',?_⟩;rcases q with q|⟨k,c',e,z'⟩
    .exact .inl q
    .refine .inr ⟨k,c',e,z'.sameBut hs ?_⟩
     rintro rfl;exact hj (vm hN e1 (I.ok.inj _ _ _ e hc▸hi))
  .by_cases hcc:c'=c
   .subst hcc;exact⟨_,hc'⟩
   .obtain⟨w2,z2⟩:=I.cell y c' e
    exact⟨w2,z2.sameBut hs hcc⟩
  .obtain⟨e,n,ne,nf,d⟩:=I.pin p hp
   refine⟨(hs.2 p.1 ?_).trans e,n,ne,nf,d⟩;intro q;rw[q,hoc]at e;have q':oc=p.2:=zAl e;exact d w' (by rw[<-q'];exact hocd)
  .obtain⟨n,ne,nf,np,ps,e,t⟩:=I.tab p hp
   refine⟨n,ne,nf,np,ps,(hs.2 p.1 ?_).trans e,t⟩;intro q;rw[q,hoc]at e;rw[zAl e]at hocd;cases hocd
def vK(I:Inv X kX Z H s)(hN:X.N.Nodup)(hi:X.N[i]? =some x)(hx:Loc X.env.scope x)(r:RelV v u)
  (h:∀s',Inv X kX (Z.set i (some v)) H s'->Q () s')(hf:X.fn x=true\/X.env.scope.names.lookup x=some .local:=by first|exact .inl rfl|exact .inr rfl|assumption):wpAny M A (storeName X.env x u) Q E s:=
 rN I hN hi hx r (λ s' I' _=>h s' I') hf
def Inv.call'(I:Inv X kX Z H s)(ho:s'.os=s.os)(u:Un (frs X.stack) ch H H' s.heap s'.heap)(hok:HOk X.prog X.w H' s'.heap)(hg:zFP s'.gens)
  (hch:∀b∈ch,(b∈X.ex\/X.z5.heap.objs.size<=b)/\b≠X.env.locals/\(∀x c,X.env.cells.lookup x=some c->c≠b)/\∀p∈X.ta++(X.pn++kX),p.1≠b):Inv X kX Z H' s':=by
 obtain⟨h',g',d',t',o'⟩:=s';have e:o'=s.os:=ho;subst e;exact I.call (g':=g') (t':=t') (d':=d') u hok hg hch
end
abbrev XK:=Value->Option Addr->Hp->Prop
abbrev St:=List (Option V)
abbrev VK:=V->Hp->Prop
abbrev TE:=St->Hp->VK->Prop
abbrev TT:=St->Hp->(Bool->Hp->Prop)->Prop
abbrev TA:=St->Hp->(List V->Hp->Prop)->Prop
structure Ends where
 nx:St->Hp->Prop
 rt:VK
 bk:St->Hp->Prop:=λ _ _=>False
 ct:St->Hp->Prop:=λ _ _=>False
abbrev TS:=Ends->St->Hp->Prop
def EP(X:Cx)(kX:hZ)(Z:St)(Q:VK)(u:Value)(s':zAE):Prop:=∃v H',Inv X kX Z H' s'/\RelV v u/\Q v H'
def TP(X:Cx)(kX:hZ)(Z:St)(Q:Bool->Hp->Prop)(b:Bool)(s':zAE):Prop:=∃H',Inv X kX Z H' s'/\Q b H'
def AP(X:Cx)(kX:hZ)(Z:St)(Q:List V->Hp->Prop)(us:List Value)(s':zAE):Prop:=∃vs H',Inv X kX Z H' s'/\Vals vs us/\Q vs H'
def SP(X:Cx)(kX:hZ)(D:Ends)(f:Flow)(s':zAE):Prop:=
 match f with
 | .next=>∃Z' H',Inv X kX Z' H' s'/\D.nx Z' H'
 | .brk=>∃Z' H',Inv X kX Z' H' s'/\D.bk Z' H'
 | .cont=>∃Z' H',Inv X kX Z' H' s'/\D.ct Z' H'
 | .ret u=>∃v Z' H',Inv X kX Z' H' s'/\RelV v u/\D.rt v H'
def PE(X:Cx)(e:Expr)(t:TE):Prop:=
 ∀(kX:hZ) (s:zAE) (Z:St) (H:Hp) (Q:VK),Inv X kX Z H s->t Z H Q->wpAny (model X.prog X.w) X.A (eval e X.env) (EP X kX Z Q) X.xe s
def PT(X:Cx)(e:Expr)(t:TT):Prop:=
 ∀(kX:hZ) (s:zAE) (Z:St) (H:Hp) (Q:Bool->Hp->Prop),Inv X kX Z H s->t Z H Q->wpAny (model X.prog X.w) X.A (isTrue e X.env (eval e X.env)) (TP X kX Z Q) X.xe s
def PW(X:Cx)(e:Expr)(t:TT):Prop:=
 ∀(whole:Sem Value) (kX:hZ) (s:zAE) (Z:St) (H:Hp) (Q:Bool->Hp->Prop),Inv X kX Z H s->t Z H Q->wpAny (model X.prog X.w) X.A (isTrue e X.env whole) (TP X kX Z Q) X.xe s
def PW.pt(h:PW X e t):PT X e t:=h _
def PA(X:Cx)(es:List Expr)(t:TA):Prop:=
 ∀(pos:Pos) (kX:hZ) (s:zAE) (Z:St) (H:Hp) (Q:List V->Hp->Prop),Inv X kX Z H s->t Z H Q->wpAny (model X.prog X.w) X.A (spliced (zCg pos (zA5 es X.env))) (AP X kX Z Q) X.xe s
def PS(X:Cx)(st:Stmt)(t:TS):Prop:=
 ∀(kX:hZ) (s:zAE) (Z:St) (H:Hp) (D:Ends),Inv X kX Z H s->t D Z H->wpAny (model X.prog X.w) X.A (exec st X.env) (SP X kX D) X.xe s
def PSs(X:Cx)(st:List Stmt)(t:TS):Prop:=
 ∀(kX:hZ) (s:zAE) (Z:St) (H:Hp) (D:Ends),Inv X kX Z H s->t D Z H->wpAny (model X.prog X.w) X.A (execs st X.env) (SP X kX D) X.xe s
def thn(h:wpAny M A t Q E s)(hQ:∀a s,Q a s->Q' a s):wpAny M A t Q' E s:=zAw h hQ λ _ _ x=>x
section
variable{X:Cx}
def bin{a b:Expr}{ta tb:TE}(ha:PE X a ta)(hb:PE X b tb){kX:hZ}{s:zAE}{Z:St}{H:Hp}{R:V->V->Hp->Prop}(I:Inv X kX Z H s)(h:ta Z H λ x H1=>tb Z H1 λ y H2=>R x y H2)
  {α:Type}{Q:α->zAE->Prop}{f:Value->Value->Sem α}
  (hf:∀v u s2 x y H2,Inv X kX Z H2 s2->RelV x v->RelV y u->R x y H2->wpAny (model X.prog X.w) X.A (f v u) Q X.xe s2):
  wpAny (model X.prog X.w) X.A (eval a X.env) (λ v zD=>wpAny (model X.prog X.w) X.A (eval b X.env) (λ u zS=>wpAny (model X.prog X.w) X.A (f v u) Q X.xe zS) X.xe zD) X.xe s:=by
 refine thn (ha kX s Z H _ I h) λ v s1 ⟨x,H1,I1,r1,q1⟩=>?_
 refine thn (hb kX s1 Z H1 _ I1 q1) λ u s2 ⟨y,H2,I2,r2,q2⟩=>?_
 exact hf v u s2 x y H2 I2 r1 r2 q2
def jh(i:Nat):TE:=λ Z H Q=>∃v,Z[i]? =some (some v)/\Q v H
def tC(v:V):TE:=λ _ H Q=>Q v H
abbrev _root_.Nd(x:PySem.Str):Prop:=(x==("__debug__":PySem.Str))=false
def dW(hN:X.N[i]? =some x)(hv:Vis X.env.scope x)(hd:Nd x:=by decide)(hcd:(x==("__classdict__":Str))=false:=by decide):PE X (.Name x pos) (jh i):=by
 intro kX s Z H Q I h;obtain⟨v,e,h⟩:=h;obtain⟨m,hn,hl⟩:=I.loc;obtain⟨u,r,l⟩:=hl i x v hN e hv;have fin:EP X kX Z Q u s:=⟨v,H,I,r,h⟩;rcases l with ⟨hk,hm⟩|⟨hk,c,hc,hcell⟩
 .exact zF4 (zIs I.ok.kind hk hn hm fin) hd
 .rcases hk with hk|hk
  .exact zF4 (zIz I.ok.kind hk hc hcell fin) hd
  .exact zF4 (zJA I.ok.kind hk hc hcell fin hcd) hd
def aCs{i j pos}:PE X (.Constant (.int i) j pos) (tC (.int i)):=λ _ _ _ H _ I h=>wpAny_Constant_int ⟨.int i,H,I.tok _,⟨_,rfl⟩,h⟩
def aHI{b j pos}:PE X (.Constant (.bool b) j pos) (tC (.bl b)):=λ _ _ _ H _ I h=>Constant_bool ⟨.bl b,H,I,rfl,h⟩
def eU{x j pos}:PE X (.Constant (.str x) j pos) (tC (.str x)):=λ _ _ _ H _ I h=>Calls.Constant_str ⟨.str x,H,I.tok _,⟨_,rfl⟩,h⟩
def Gl(X:Cx)(x:Str):Prop:=X.env.kindOf x=some .globalImplicit
def oA(I:Inv X kX Z H s)(hg:Gl X x)(hm:X.mg x=some u)(h:Q u s)
  (hd:Nd x:=by decide):wpAny (model X.prog X.w) X.A (eval (.Name x pos) X.env) Q E s:=
 zGH I.ok.kind hg (Calls.loadGlobal_global (by rw[I.ok.glob];exact I.mod.glob.keeps I.bk) hm h) hd
def wJ(I:Inv X kX Z H s)(hg:Gl X x)(hm:X.mg x=none)(hv:zBC x=some u)(h:Q u s)
  (hn:x≠"__name__":=by decide)(hd:Nd x:=by decide):wpAny (model X.prog X.w) X.A (eval (.Name x pos) X.env) Q E s:=by
 obtain⟨mb,h1,h2⟩:=I.mod.blt;exact zGH I.ok.kind hg (Calls.loadGlobal_builtin (by rw[I.ok.glob];exact I.mod.glob.keeps I.bk) hm (by rw[I.ok.blt];exact h1.keeps I.bk) ((h2 x hn).trans hv) h) hd
def dN(hg:Gl X x)(hm:X.mg x=some u)(r:RelV v u)(hd:Nd x:=by decide):PE X (.Name x pos) (tC v):=
 λ _ _ _ H _ I h=>oA I hg hm ⟨v,H,I,r,h⟩ hd
def aED(hg:Gl X x)(hm:X.mg x=none)(hv:zBC x=some u)(r:RelV v u)(hn:x≠"__name__":=by decide)(hd:Nd x:=by decide):PE X (.Name x pos) (tC v):=
 λ _ _ _ H _ I h=>wJ I hg hm hv ⟨v,H,I,r,h⟩ hn hd
def t2I(ta tb:TE)(k:Int->Int->Hp->Prop):St->Hp->Prop:=λ Z H=>ta Z H λ x H1=>tb Z H1 λ y H2=>∃i j,x= .int i/\y= .int j/\k i j H2
variable{a b:Expr}{ta tb:TE}{pos:Pos}
def PC(X:Cx)(op:CmpOp)(a b:Expr)(t:TE):Prop:=
 ∀(kX:hZ) (s:zAE) (Z:St) (H:Hp) (Q:VK),Inv X kX Z H s->t Z H Q->
  wpAny (model X.prog X.w) X.A (eval a X.env) (λ v zD=>wpAny (model X.prog X.w) X.A (eval b X.env) (λ u zS=>wpAny (model X.prog X.w) X.A (zBH op v u) (EP X kX Z Q) X.xe zS) X.xe zD) X.xe s
def aHP(b:Expr)(h:op≠.In)(h2:op≠.NotIn):zCN op b=false:=by
 have e1:(op==CmpOp.In)=false:=by cases op<;>first|rfl|exact absurd rfl h
 have e2:(op==zJT)=false:=by cases op<;>first|rfl|exact absurd rfl h2
 cases b<;>simp[zCN,e1,e2]
def aNY(p:Int->Int->Bool)(ta tb:TE):TE:=λ Z H Q=>t2I ta tb (λ i j H2=>Q (.bl (p i j)) H2) Z H
abbrev aOY:TE->TE->TE:=aNY λ i j=>!decide (i=j)
def aLy{op:CmpOp}{p:Int->Int->Bool}(ha:PE X a ta)(hb:PE X b tb)
  (rule:∀(i j:Int) (t u:Tok) (Q:Value->zAE->Prop) (s:zAE),Q (.bool (p i j)) s->wpAny (model X.prog X.w) X.A (zBH op (.int i t) (.int j u)) Q X.xe s):PC X op a b (aNY p ta tb):=by
 intro kX s Z H Q I h;refine bin ha hb I h λ v u s2 x y H2 I2 rx ry q=>?_
 obtain⟨i,j,rfl,rfl,q⟩:=q;obtain⟨t,rfl⟩:=rx;obtain⟨t',rfl⟩:=ry;exact rule i j t t' _ s2 ⟨.bl _,H2,I2,rfl,q⟩
def aLx(ha:PE X a ta)(hb:PE X b tb):PC X .NotEq a b (aOY ta tb):=aLy ha hb λ _ _ _ _ _ _ h=>ne_int (by rw[bne,Bool.beq_eq_decide_eq];exact h)
def tB(t:TE):TT:=λ Z H Q=>t Z H λ x H1=>∃c,x= .bl c/\Q c H1
def aLj(h:PC X op a b t)(h1:zCN op b=false:=by first|exact aHP _ (by decide) (by decide)|rfl):PT X (.Compare a [op] [b] pos) (tB t):=by
 intro kX s Z H Q I hw;refine zIm (thn (h kX s Z H _ I hw) λ v s1 h1=>thn h1 λ u s2 h2=>thn h2 λ c s3 ⟨x,H1,I1,r1,q1⟩=>?_) h1;obtain⟨d,rfl,q⟩:=q1;cases r1;exact zBe ⟨H1,I1,q⟩
def aGp(h:PE X e t)(he:∀whole,isTrue e X.env whole=(do let v <-whole;zFU e.pos;zCp [v] (truthy v)):=by intro _;rfl):PT X e (tB t):=by
 intro kX s Z H Q I hw;refine isTrue_plain (thn (h kX s Z H _ I hw) λ v s1 ⟨x,H1,I1,r1,q1⟩=>?_) (he _);obtain⟨d,rfl,q⟩:=q1;cases r1;exact zBe ⟨H1,I1,q⟩
variable{tA tB':TT}{rest:List Expr}
def aO2(t u:TT):TT:=λ Z H Q=>t Z H λ c H1=>if c=true then u Z H1 Q else Q false H1
def tOr(t u:TT):TT:=λ Z H Q=>t Z H λ c H1=>if c=true then Q true H1 else u Z H1 Q
def aOX(t:TT):TT:=λ Z H Q=>t Z H λ c H1=>Q (!c) H1
def aJG(ha:PT X a tA):PW X (.BoolOp .And [a] pos) tA:=by
 intro wh kX s Z H Q I h;refine isTrue_and (thn (ha kX s Z H Q I h) λ c s1 e=>?_);cases c with
 |true=>exact isTrue_and_nil e
 |false=>exact e
def aGn(ha:PT X a tA):PW X (.BoolOp .Or [a] pos) tA:=by
 intro wh kX s Z H Q I h;refine isTrue_or (thn (ha kX s Z H Q I h) λ c s1 e=>?_);cases c with
 |false=>exact isTrue_or_nil e
 |true=>exact e
def aLi(ha:PT X a tA)(hb:PW X (.BoolOp .And (b::rest) pos) tB'):PW X (.BoolOp .And (a::b::rest) pos) (aO2 tA tB'):=by
 intro wh kX s Z H Q I h;refine isTrue_and (thn (ha kX s Z H _ I h) λ c s1 ⟨H1,I1,q1⟩=>?_);cases c with
 |true=>exact hb wh kX s1 Z H1 Q I1 q1
 |false=>exact⟨H1,I1,q1⟩
def aKr(ha:PT X a tA)(hb:PW X (.BoolOp .Or (b::rest) pos) tB'):PW X (.BoolOp .Or (a::b::rest) pos) (tOr tA tB'):=by
 intro wh kX s Z H Q I h;refine isTrue_or (thn (ha kX s Z H _ I h) λ c s1 ⟨H1,I1,q1⟩=>?_);cases c with
 |true=>exact⟨H1,I1,q1⟩
 |false=>exact hb wh kX s1 Z H1 Q I1 q1
def aCq(ha:PT X a tA):PT X (.UnaryOp .Not a pos) (aOX tA):=by
 intro kX s Z H Q I h;exact isTrue_not (ha kX s Z H (λ c H1=>Q (!c) H1) I h)
def aN0(ta tb:TE):TE:=λ Z H Q=>ta Z H λ x H1=>∃c,x= .bl c/\if c=true then tb Z H1 Q else Q (.bl false) H1
def aOW(ta tb:TE):TE:=λ Z H Q=>ta Z H λ x H1=>∃c,x= .bl c/\if c=true then Q (.bl true) H1 else tb Z H1 Q
def aNU(ta:TE):TE:=λ Z H Q=>ta Z H λ x H1=>∃c,x= .bl c/\Q (.bl (!c)) H1
def aLr{op}(h:PE X a t):PE X (.BoolOp op [a] pos) t:=λ kX s Z H Q I hw=>BoolOp_one (h kX s Z H Q I hw)
def aLw(ha:PE X a ta)(hb:PE X (.BoolOp .And (b::rest) pos) tb):PE X (.BoolOp .And (a::b::rest) pos) (aN0 ta tb):=by
 intro kX s Z H Q I h;refine BoolOp_and (thn (ha kX s Z H _ I h) λ v s1 ⟨x,H1,I1,r1,q1⟩=>?_);obtain⟨c,rfl,q1⟩:=q1;cases r1;refine zBe ?_;cases c with
 |true=>exact hb kX s1 Z H1 Q I1 q1
 |false=>exact⟨.bl false,H1,I1,rfl,q1⟩
def aNh(ha:PE X a ta)(hb:PE X (.BoolOp .Or (b::rest) pos) tb):PE X (.BoolOp .Or (a::b::rest) pos) (aOW ta tb):=by
 intro kX s Z H Q I h;refine BoolOp_or (thn (ha kX s Z H _ I h) λ v s1 ⟨x,H1,I1,r1,q1⟩=>?_);obtain⟨c,rfl,q1⟩:=q1;cases r1;refine zBe ?_;cases c with
 |false=>exact hb kX s1 Z H1 Q I1 q1
 |true=>exact⟨.bl true,H1,I1,rfl,q1⟩
def aLs(ha:PE X a ta):PE X (.UnaryOp .Not a pos) (aNU ta):=by
 intro kX s Z H Q I h;refine UnaryOp_ (thn (ha kX s Z H _ I h) λ v s1 ⟨x,H1,I1,r1,q1⟩=>?_);obtain⟨c,rfl,q1⟩:=q1;cases r1;exact not_of (zBe ⟨.bl (!c),H1,I1,rfl,q1⟩)
def tIf(t:TT)(ta tb:TE):TE:=λ Z H Q=>t Z H λ c H1=>if c=true then ta Z H1 Q else tb Z H1 Q
def aHE(hc:PT X c tA)(ha:PE X a ta)(hb:PE X b tb):PE X (.IfExp c a b pos) (tIf tA ta tb):=by
 intro kX s Z H Q I h;refine wpAny_IfExp (thn (hc kX s Z H _ I h) λ d s1 ⟨H1,I1,q1⟩=>?_);cases d with
 |true=>exact ha kX s1 Z H1 Q I1 q1
 |false=>exact hb kX s1 Z H1 Q I1 q1
end
def SqL(K:zAA)(H:Hp)(a:Addr)(xs:List V):Prop:=
 Rd H a (.lst xs)\/
  ∃(o:Obj) (its:Array Value) (n:Nat),K.lookup a=some o/\o.cls= .type "list"/\o.dict=none/\o.data= .seq its n/\its.size<=zAY/\Vals xs its.toList
def SqT(K:zAA)(H:Hp)(a:Addr)(xs:List V):Prop:=
 Rd H a (.tup xs)\/
  ∃(o:Obj) (its:Array Value) (n:Nat),K.lookup a=some o/\o.cls= .type "tuple"/\o.dict=none/\o.data= .seq its n/\its.size<=zAY/\Vals xs its.toList
def aO9:Value->Option V
 | .none=>some .non
 | .bool b=>some (.bl b)
 | .int i _=>some (.int i)
 | .str x _=>some (.str x)
 | .bytes b _=>some (.byt b)
 | .float b _=>some (.flt b)
 | .ref a=>some (.ref a)
 | .type n=>some (.ty n)
 |_=>none
def RelV.abs(r:RelV x u):aO9 u=some x:=by
 cases x with
 |non=>cases r;rfl
 |bl _=>cases r;rfl
 |int _=>obtain⟨t,rfl⟩:=r;rfl
 |str _=>obtain⟨t,rfl⟩:=r;rfl
 |byt _=>obtain⟨t,rfl⟩:=r;rfl
 |flt _=>obtain⟨t,rfl⟩:=r;rfl
 |ref _=>cases r;rfl
 |ty _=>cases r;rfl
def RelV.inj(r:RelV x u)(q:RelV y u):x=y:=zAl (r.abs.symm.trans q.abs)
theorem Vals.inj:∀{xs ys:List V} {us:List Value},Vals xs us->Vals ys us->xs=ys
 |_,_,_,.nil,.nil=>rfl
 |_,_,_,.cons r t,.cons r' t'=>by rw[r.inj r',Vals.inj t t']
section
variable{X:Cx}{kX:hZ}{Z:St}{H:Hp}{s:zAE}{a:Addr}{xs ys:List V}
def SqL.of{K:zAA}(h:H a=some (.lst xs)):SqL K H a xs:=.inl (.inl h)
def SqT.of{K:zAA}(h:H a=some (.tup xs)):SqT K H a xs:=.inl (.inl h)
def Inv.list(I:Inv X kX Z H s)(h:SqL X.K H a xs):∃its:List Value,Vals xs its/\PlainL s.heap a its.toArray/\xs.length<=zAY:=by
 rcases h with h|⟨o,its,n,hk,hc,hd,hs,hz,r⟩
 .obtain⟨z,its,n,r,e⟩:=h.ok I.hok
  exact⟨its,r,⟨_,n,e,rfl,rfl,rfl⟩,z⟩
 .refine⟨its.toList,r,⟨o,n,I.kIn a o hk,hc,hd,by simpa using hs⟩,?_⟩
  have e:=r.length;simp only[zAU]at e;lia
def Inv.tuple(I:Inv X kX Z H s)(h:SqT X.K H a xs):∃its:List Value,Vals xs its/\IsTup s.heap a its.toArray/\xs.length<=zAY:=by
 rcases h with h|⟨o,its,n,hk,hc,hd,hs,hz,r⟩
 .obtain⟨z,its,r,p⟩:=h.ok I.hok
  exact⟨its,r,p,z.1⟩
 .refine⟨its.toList,r,⟨o,I.kIn a o hk,hc,n,by simpa using hs⟩,?_⟩
  have e:=r.length;simp only[zAU]at e;lia
def Inv.list_inj(I:Inv X kX Z H s)(h:SqL X.K H a xs)(h':SqL X.K H a ys):xs=ys:=by
 obtain⟨its,r,⟨o,n,e,_,_,d⟩,_⟩:=I.list h;obtain⟨its',r',⟨o',n',e',_,_,d'⟩,_⟩:=I.list h';rw[e]at e';cases e';rw[d]at d';injection d' with d1 _
 have:its=its':=by simpa using congrArg zJB d1
 subst this;exact r.inj r'
def Inv.tuple_inj(I:Inv X kX Z H s)(h:SqT X.K H a xs)(h':SqT X.K H a ys):xs=ys:=by
 obtain⟨its,r,⟨o,e,_,n,d⟩,_⟩:=I.tuple h;obtain⟨its',r',⟨o',e',_,n',d'⟩,_⟩:=I.tuple h';rw[e]at e';cases e';rw[d]at d';injection d' with d1 _
 have:its=its':=by simpa using congrArg zJB d1
 subst this;exact r.inj r'
end
section
variable{X:Cx}{st:Stmt}{rest:List Stmt}{t u:TS}{e:Expr}{te:TE}{pos:Pos}
def aNV:TS:=λ D Z H=>D.nx Z H
def aOV(t u:TS):TS:=λ D Z H=>t {D with nx:=u D} Z H
def uh:PSs X [] aNV:=λ _ _ Z H _ I h=>zFV ⟨Z,H,I,h⟩
def dU(h1:PS X st t)(h2:PSs X rest u):PSs X (st::rest) (aOV t u):=by
 intro kX s Z H D I h;refine wpAny_execs_cons (thn (h1 kX s Z H {D with nx:=u D} I h) λ f s1 q=>?_);cases f with
 |next=>
  obtain⟨Z',H',I',q⟩:=q;exact h2 kX s1 Z' H' D I' q
 |ret v=>exact q
 |brk=>exact q
 |cont=>exact q
def jR(h1:PS X st t):PSs X [st] t:=by
 intro kX s Z H D I h;refine wpAny_execs_cons (thn (h1 kX s Z H D I h) λ f s1 q=>?_);cases f with
 |next=>exact zFV q
 |ret v=>exact q
 |brk=>exact q
 |cont=>exact q
def Inv.quiet(I:Inv X kX Z H s):interactive X.env=false:=by simp[interactive,I.ok.kind]
def vI(te:TE):TS:=λ D Z H=>te Z H λ _ H1=>D.nx Z H1
def n6(he:PE X e te)(hs:zCh e none pos.line X.env=pure false:=by rfl):PS X (.Expr e pos) (vI te):=by
 intro kX s Z H D I h;exact wpAny_Expr_any (thn (he kX s Z H _ I h) λ v s1 ⟨x,H1,I1,r1,q1⟩=>⟨Z,H1,I1,q1⟩) I.quiet hs
def aLV(te:TE):TS:=λ D Z H=>te Z H D.rt
def v9(he:PE X e te):PS X (.Return (some e) pos) (aLV te):=by
 intro kX s Z H D I h;exact wpAny_Return_some (thn (he kX s Z H _ I h) λ v s1 ⟨x,H1,I1,r1,q1⟩=>⟨x,Z,H1,I1,r1,q1⟩)
def aO1(c:TT)(t u:TS):TS:=λ D Z H=>c Z H λ b H1=>if b=true then t D Z H1 else u D Z H1
def aDz(hc:PT X c tc)(ha:PSs X a t)(hb:PSs X b u):PS X (.If c a b pos) (aO1 tc t u):=by
 intro kX s Z H D I h;refine wpAny_If (thn (hc kX s Z H _ I h) λ d s1 ⟨H1,I1,q1⟩=>?_);cases d with
 |true=>exact ha kX s1 Z H1 D I1 q1
 |false=>exact hb kX s1 Z H1 D I1 q1
end
abbrev TG:=V->St->Hp->(St->Hp->Prop)->Prop
abbrev TGs:=List V->St->Hp->(St->Hp->Prop)->Prop
def PG(X:Cx)(target:Expr)(t:TG):Prop:=
 ∀(kX:hZ) (s:zAE) (Z:St) (H:Hp) (v:V) (u:Value) (Q:St->Hp->Prop),Inv X kX Z H s->RelV v u->t v Z H Q->
  wpAny (model X.prog X.w) X.A (zDz target X.env u) (λ _ s'=>∃Z' H',Inv X kX Z' H' s'/\Q Z' H') X.xe s
def PGs(X:Cx)(ts:List Expr)(t:TGs):Prop:=
 ∀(kX:hZ) (s:zAE) (Z:St) (H:Hp) (vs:List V) (us:List Value) (Q:St->Hp->Prop),Inv X kX Z H s->Vals vs us->t vs Z H Q->
  wpAny (model X.prog X.w) X.A (assignInOrder ((zCj ts X.env).map (·.2)) us) (λ _ s'=>∃Z' H',Inv X kX Z' H' s'/\Q Z' H') X.xe s
abbrev aOH:=V->V->V->Hp->(Hp->Prop)->Prop
def aOL(X:Cx)(t:aOH):Prop:=
 ∀(kX:hZ) (s:zAE) (Z:St) (H:Hp) (o i v:V) (ov iv u:Value) (Q:Hp->Prop),Inv X kX Z H s->RelV o ov->RelV i iv->RelV v u->t o i v H Q->
  wpAny (model X.prog X.w) X.A (setItem ov iv u) (λ _ s'=>∃H',Inv X kX Z H' s'/\Q H') X.xe s
section
variable{X:Cx}{pos:Pos}
def lY(i:Nat):TG:=λ v Z H Q=>Q (Z.set i (some v)) H
def aJO(hN:X.N.Nodup)(hi:X.N[i]? =some x)(hx:Loc X.env.scope x)(hf:X.fn x=true\/X.env.scope.names.lookup x=some .local:=by first|exact .inl rfl|exact .inr rfl|assumption):PG X (.Name x pos) (lY i):=by
 intro kX s Z H v u Q I r h;exact zG0 (vK I hN hi hx r (λ s' I'=>⟨_,H,I',h⟩) hf)
def aMm:TGs:=λ vs Z H Q=>vs=[]/\Q Z H
def aHy(t:TG)(u:TGs):TGs:=λ vs Z H Q=>∃v r,vs=v::r/\t v Z H λ Z' H'=>u r Z' H' Q
def aJN:PGs X [] aMm:=by
 intro kX s Z H vs us Q I r h;obtain⟨e,h⟩:=h;subst e;cases r;exact assignInOrder_nil ⟨Z,H,I,h⟩
def aHA(h1:PG X e t)(h2:PGs X es u)
  (hs:(zCj (e::es) X.env).map (·.2)=zDz e X.env::(zCj es X.env).map (·.2):=by rfl):PGs X (e::es) (aHy t u):=by
 intro kX s Z H vs us Q I r h;obtain⟨v,vr,e1,h⟩:=h;subst e1;cases r with
 |cons r rr=>
  rw[hs];refine assignInOrder_cons (thn (h1 kX s Z H _ _ _ I r h) λ _ s1 ⟨Z1,H1,I1,q1⟩=>?_);exact h2 kX s1 Z1 H1 _ _ Q I1 rr q1
def aKG(K:zAA)(n:Nat)(t:TGs):TG:=λ v Z H Q=>∃a xs,v= .ref a/\SqT K H a xs/\xs.length=n/\t xs Z H Q
def aLm(hc:X.calm=true)(h:PGs X es t)
  (hn:(zCj es X.env).length=n:=by rfl)(hst:(zCj es X.env).findIdx? (·.1)=none:=by rfl):PG X (.Tuple es k pos) (aKG X.K n t):=by
 intro kX s Z H v u Q I r hw;obtain⟨a,xs,e1,hq,hl,hw⟩:=hw;subst e1;cases r;obtain⟨its,rv,ht,hz⟩:=I.tuple hq;refine assign_Tuple_tuple (I.ok.hd hc) ht (by simp[hn,<-hl,rv.length]) hst λ h' hx=>?_
 have I1:Inv X kX Z H {s with heap:=h'}:=I.kept (t':=s.toks) λ b o e=>hx b o (zA6 (zAT e)) e
 exact h kX _ Z H xs _ Q I1 (by simpa using rv) hw
def aOA(to ti:TE)(t:aOH):TG:=λ v Z H Q=>to Z H λ o H1=>ti Z H1 λ i H2=>t o i v H2 λ H3=>Q Z H3
def aLn(ho:PE X o to)(hi:PE X i ti)(hs:aOL X t)
  (ha:∀v,zDz (.Subscript o i pos) X.env v=(do
   let ov <-zCp [v] (eval o X.env);let iv <-zCp [v,ov] (eval i X.env)
   zFU pos
   zCp [v,ov,iv] (setItem ov iv v)
   release [v,ov,iv] []):=by intro _;rfl):PG X (.Subscript o i pos) (aOA to ti t):=by
 intro kX s Z H v u Q I r h;rw[ha];refine zAB (zBW (thn (ho kX s Z H _ I h) λ ov s1 ⟨x,H1,I1,r1,q1⟩=>?_));refine zAB (zBW (thn (hi kX s1 Z H1 _ I1 q1) λ iv s2 ⟨y,H2,I2,r2,q2⟩=>?_));refine zAB (zDD (zAB (zBW (thn (hs kX s2 Z H2 x y v ov iv u _ I2 r1 r2 r q2) λ _ s3 ⟨H3,I3,q3⟩=>?_))));exact wpAny_release ⟨Z,H3,I3,q3⟩
def zW(te:TE)(g:TG):TS:=λ D Z H=>te Z H λ x H1=>g x Z H1 D.nx
def aGw(he:PE X e te)(hg:PG X tg g)(hs:zID [tg] e pos.line X.env=pure false:=by rfl)(hw:zIC [tg] e X.env=pure none:=by rfl)
  (h1:(zCj [tg] X.env).map (·.2)=[zDz tg X.env]:=by rfl):PS X (.Assign [tg] e pos) (zW te g):=by
 intro kX s Z H D I h;refine wpAny_Assign_stores (thn (he kX s Z H _ I h) λ v s1 ⟨x,H1,I1,r1,q1⟩=>?_) hs hw;rw[h1];exact thn (hg kX s1 Z H1 x v _ I1 r1 q1) λ _ s2 q=>q
def lK(hN:X.N.Nodup)(hi:X.N[i]? =some x)(hx:Loc X.env.scope x)(he:PE X e te)(hs:zCh e (some (.Name x pos')) pos.line X.env=pure false:=by rfl)(hf:X.fn x=true\/X.env.scope.names.lookup x=some .local:=by first|exact .inl rfl|exact .inr rfl|assumption):
  PS X (.Assign [.Name x pos'] e pos) (zW te (lY i)):=by
 intro kX s Z H D I h;refine wpAny_Assign_Name (thn (he kX s Z H _ I h) λ v s1 ⟨y,H1,I1,r1,q1⟩=>?_) hs;exact vK I1 hN hi hx r1 (λ s2 I2=>⟨_,H1,I2,q1⟩) hf
end
structure It where
 go:Nat->Hp->Prop
 yld:Nat->Hp->V->Hp->Prop
 stop:Nat->Hp->Prop
def rF(X:Cx)(kX:hZ)(H:Hp)(b:Addr):Prop:=
 H b=none/\b≠X.env.locals/\b∉X.fs/\(b∈X.ex\/X.z5.heap.objs.size<=b)/\(∀x c,X.env.cells.lookup x=some c->c≠b)/\∀p∈X.ta++(X.pn++kX),p.1≠b
def Inv.fpOk(I:Inv X kX Z H s)(hb:s.heap.objs.size<=b)(hn:H' b=none):rF X kX H' b:=by
 refine⟨hn,zC6 (zAV I.lt hb),I.nofs hb,.inr (zAi I.sz hb),λ x c e z=>?_,λ p hp z=>?_⟩
 .obtain⟨v,q⟩:=I.cell x c e
  exact absurd (zAV q.lt (by rw[z];exact hb)) (zB1 _)
 .exact absurd (zAV (I.pinL hp) (by rw[z];exact hb)) (zB1 _)
structure Turn(P:zA3)(w:World)(K:zAA)(tg:Expr)(J:It)(fp:List Addr)(it:Addr)(tn:Nat->Heap->Prop):Prop where
 mem:it∈fp
 obj:∀i h,tn i h->∀b∈fp,∃o,h.get? b=some o/\∀v,o.data≠.cell v
 keep:∀i h h',tn i h->(∀b∈fp,∀o,h.get? b=some o->h'.get? b=some o)->tn i h'
 item:∀(X:Cx),X.prog=P->X.w=w->X.K=K->X.calm=true->∀(i:Nat) (kX:hZ) (s:zAE) (Z:St) (H:Hp) (E:Value->zAE->Prop),Inv X kX Z H s->(∀b∈fp,rF X kX H b)->tn i s.heap->J.go i H->
  wpAny (model P w) X.A (zE1 (.ref it)) (λ r s1=>∃u,r=some u/\
   wpAny (model P w) X.A (zD7 tg (.ref it) u) (λ _ s2=>∃x H',Inv X kX Z H' s2/\RelV x u/\J.yld i H x H'/\tn (i+1) s2.heap/\∀b∈fp,H' b=none) E s1) E s
 done:∀(X:Cx),X.prog=P->X.w=w->X.K=K->X.calm=true->∀(i:Nat) (kX:hZ) (s:zAE) (Z:St) (H:Hp) (E:Value->zAE->Prop),Inv X kX Z H s->(∀b∈fp,rF X kX H b)->tn i s.heap->J.stop i H->
  wpAny (model P w) X.A (zE1 (.ref it)) (λ r s1=>r=none/\Inv X kX Z H s1) E s
 self:∀(A:zAc) (i:Nat) (s:zAE) (Q:Value->zAE->Prop) (E:Value->zAE->Prop),tn i s.heap->Q (.ref it) s->wpAny (model P w) A (zG9 (.ref it)) Q E s
abbrev TI:=St->Hp->(It->Hp->Prop)->Prop
def PIE(X:Cx)(kX:hZ)(Z:St)(tg:Expr)(R:It->Hp->Prop)(itv:Value)(s2:zAE):Prop:=
 ∃(it:Addr) (fp:List Addr) (tn:Nat->Heap->Prop) (J:It) (H':Hp),itv= .ref it/\Inv X kX Z H' s2/\Turn X.prog X.w X.K tg J fp it tn/\tn 0 s2.heap/\(∀b∈fp,rF X kX H' b)/\R J H'
def PI(X:Cx)(tg iter:Expr)(wi:TI):Prop:=
 ∀(kX:hZ) (s:zAE) (Z:St) (H:Hp) (R:It->Hp->Prop),Inv X kX Z H s->wi Z H R->
  wpAny (model X.prog X.w) X.A (eval iter X.env) (λ v s1=>wpAny (model X.prog X.w) X.A (zG9 v) (PIE X kX Z tg R) X.xe s1) X.xe s
def aHv(ho:s.heap.get? it=some o)(hc:o.cls= .type n)(hd:o.data= .fields vs)
    (hn:["enumerate","zip","dict_itemiterator","dict_reverseitemiterator","odict_iterator","itertools.zip_longest","itertools.pairwise"].contains n=false)(hQ:Q () s):wpAny M A (zD7 tg (.ref it) u) Q E s:=by
  unfold zD7;cases tg<;>first
    |exact zAI hQ
    | (cases u <;> first
        |exact zAI hQ
        | (refine zAB (zJ9 ho ?_)
           rw[hc,hd];show wpAny M A (if (["enumerate","zip","dict_itemiterator","dict_reverseitemiterator","odict_iterator","itertools.zip_longest","itertools.pairwise"].contains n&&vs[0]? ==some (zJM _))=true then _ else _) Q E s;rw[if_neg (by intro h;rw[hn,zIt]at h;cases h)];exact zAI hQ))
def Itl(K:zAA)(a:Addr):It:=
 ⟨λ i H=>∃xs x,SqL K H a xs/\xs[i]? =some x,λ i H x H'=>H'=H/\∀xs,SqL K H a xs->xs[i]? =some x,λ i H=>∃xs,SqL K H a xs/\xs.length<=i⟩
def Itt(K:zAA)(a:Addr):It:=
 ⟨λ i H=>∃xs x,SqT K H a xs/\xs[i]? =some x,λ i H x H'=>H'=H/\∀xs,SqT K H a xs->xs[i]? =some x,λ i H=>∃xs,SqT K H a xs/\xs.length<=i⟩
def Itr(lo:Int)(n:Nat):It:=⟨λ i _=>i<n,λ i H x H'=>H'=H/\x= .int (lo+i),λ i _=>n<=i⟩
def aEn{P:zA3}{w:World}{K:zAA}{tg:Expr}(a it:Addr):Turn P w K tg (Itl K a) [it] it (λ i h=>h.IsListIter it a i) where
 mem:=by simp
 obj:=λ i h st b hb=>by
  have e:b=it:=by simpa using hb
  subst e;obtain⟨o,e,c,d⟩:=st;exact⟨o,e,λ v z=>by rw[d]at z;cases z⟩
 keep:=λ i h h' st k=>st.at λ o e=>k it (by simp) o e
 item:=by
  intro X hP hw hK hc i kX s Z H E I hf st hg;subst hP hw hK;obtain⟨xs,x,hq,hx⟩:=hg;obtain⟨its,rv,p,hz⟩:=I.list hq;obtain⟨u,hu,ru⟩:=rv.get hx;obtain⟨f0,f1,f2,f3,f4,f5⟩:=hf it (by simp);refine wpAny_pyNext_list_item st p.isList (x:=u) (by simpa using hu) λ h' st' sb=>?_
  have I1:Inv X kX Z H {s with heap:=h'}:=I.turned (t':=s.toks) (λ b o hb e=>(sb.2 b hb).trans e) f0 f1 f3 f4 f5;obtain⟨o,e,c,d⟩:=id st';exact⟨u,rfl,aHv (s:={s with heap:=h'}) e c d (by decide) ⟨x,H,I1,ru,⟨rfl,λ ys hy=>by rw[I.list_inj hy hq];exact hx⟩,st',λ b hb=>(hf b hb).1⟩⟩
 done:=by
  intro X hP hw hK hc i kX s Z H E I hf st hg;subst hP hw hK;obtain⟨xs,hq,hx⟩:=hg;obtain⟨its,rv,p,hz⟩:=I.list hq;obtain⟨f0,f1,f2,f3,f4,f5⟩:=hf it (by simp);have hl:=rv.length;exact wpAny_pyNext_list_end (I.ok.hd hc) st p.isList (by simp;lia) λ h' eb=>⟨rfl,I.turned (t':=s.toks) (λ b o hb e=>eb b o hb e) f0 f1 f3 f4 f5⟩
 self:=λ _ _ _ _ _ st h=>wpAny_pyIter_listiter st h
def aCW{P:zA3}{w:World}{K:zAA}{tg:Expr}(a it:Addr):Turn P w K tg (Itt K a) [it] it (λ i h=>h.IsTupleIter it a i) where
 mem:=by simp
 obj:=λ i h st b hb=>by
  have e:b=it:=by simpa using hb
  subst e;obtain⟨o,e,c,d⟩:=st;exact⟨o,e,λ v z=>by rw[d]at z;cases z⟩
 keep:=λ i h h' st k=>st.at λ o e=>k it (by simp) o e
 item:=by
  intro X hP hw hK hc i kX s Z H E I hf st hg;subst hP hw hK;obtain⟨xs,x,hq,hx⟩:=hg;obtain⟨its,rv,p,hz⟩:=I.tuple hq;obtain⟨u,hu,ru⟩:=rv.get hx;obtain⟨f0,f1,f2,f3,f4,f5⟩:=hf it (by simp);refine wpAny_pyNext_tuple_item st (show s.heap.IsTuple a its.toArray from p) (x:=u) (by simpa using hu) λ h' st' sb=>?_
  have I1:Inv X kX Z H {s with heap:=h'}:=I.turned (t':=s.toks) (λ b o hb e=>(sb.2 b hb).trans e) f0 f1 f3 f4 f5;obtain⟨o,e,c,d⟩:=id st';exact⟨u,rfl,aHv (s:={s with heap:=h'}) e c d (by decide) ⟨x,H,I1,ru,⟨rfl,λ ys hy=>by rw[I.tuple_inj hy hq];exact hx⟩,st',λ b hb=>(hf b hb).1⟩⟩
 done:=by
  intro X hP hw hK hc i kX s Z H E I hf st hg;subst hP hw hK;obtain⟨xs,hq,hx⟩:=hg;obtain⟨its,rv,p,hz⟩:=I.tuple hq;obtain⟨f0,f1,f2,f3,f4,f5⟩:=hf it (by simp);have hl:=rv.length;exact wpAny_pyNext_tuple_end (I.ok.hd hc) st (show s.heap.IsTuple a its.toArray from p) (by simp;lia) λ h' eb=>⟨rfl,I.turned (t':=s.toks) (λ b o hb e=>eb b o hb e) f0 f1 f3 f4 f5⟩
 self:=λ _ _ _ _ _ st h=>wpAny_pyIter_tupleiter st h
def aCX{P:zA3}{w:World}{K:zAA}{tg:Expr}(it:Addr)(lo:Int)(n:Nat):Turn P w K tg (Itr lo n) [it] it (λ i h=>IsRangeIter h it (lo+(i:Nat)*1) ((n:Int)-(i:Nat)) 1) where
 mem:=by simp
 obj:=λ i h st b hb=>by
  have e:b=it:=by simpa using hb
  subst e;exact⟨_,st,λ v z=>by
   have z':Data.fields _=Data.cell v:=z;cases z'⟩
 keep:=λ i h h' st k=>k it (by simp) _ st
 item:=by
  intro X hP hw hK hc i kX s Z H E I hf st hg;subst hP hw hK;obtain⟨f0,f1,f2,f3,f4,f5⟩:=hf it (by simp);have W:=Walks.range (prog:=X.prog) (w:=X.w) (I.ok.hd hc) it lo 1 n;refine W.item i s _ _ hg st λ v h' tk hv st' kk=>?_
  obtain⟨t,rfl⟩:=hv;have I1:Inv X kX Z H {s with heap:=h',toks:=tk}:=I.turned (λ b o hb e=>kk b o (by simpa using hb) e) f0 f1 f3 f4 f5;refine⟨_,rfl,aHv (s:={s with heap:=h',toks:=tk}) (n:="range_iterator") st' rfl rfl (by decide) ⟨.int (lo+i),H,I1,⟨t,?_⟩,⟨rfl,rfl⟩,st',λ b hb=>(hf b hb).1⟩⟩;rw[Int.mul_one]
 done:=by
  intro X hP hw hK hc i kX s Z H E I hf st hg;subst hP hw hK;obtain⟨f0,f1,f2,f3,f4,f5⟩:=hf it (by simp);exact wpAny_pyNext_range_end (I.ok.hd hc) st (by have:n<=i:=hg;lia) λ h' eb=>⟨rfl,I.turned (t':=s.toks) (λ b o hb e=>eb b o hb e) f0 f1 f3 f4 f5⟩
 self:=λ _ _ _ _ _ st h=>wpAny_pyIter_rangeiter st h
section
variable{X:Cx}{tg:Expr}
def aBL{kX:hZ}{Z:St}{H:Hp}{s:zAE}{R:It->Hp->Prop}{E:Value->zAE->Prop}{lo hi:Int}{t u v:Tok}{tk:Nat}(I:Inv X kX Z H s)(h1: -(2^62)<=lo)(h2:lo<2^62)(h3: -(2^62)<=hi)(h4:hi<2^62)
  (q:R (Itr lo (hi-lo).toNat) H):wpAny (model X.prog X.w) X.A (zG9 (.ref s.heap.objs.size)) (PIE X kX Z tg R) E {s with heap:=s.heap.push {cls:=.type "range",data:=.fields #[.int lo t,.int hi u,.int 1 v]},toks:=tk}:=by
 refine wpAny_pyIter_range (IsRange.new ..) (small_one h1 h2 h3 h4) ?_;have I1:Inv X kX Z H {s with heap:=s.heap.push {cls:=.type "range",data:=.fields #[.int lo t,.int hi u,.int 1 v]},toks:=tk}:=I.kept λ b o e=>zAC _ e
 refine⟨(s.heap.push {cls:=.type "range",data:=.fields #[.int lo t,.int hi u,.int 1 v]}).objs.size,[(s.heap.push {cls:=.type "range",data:=.fields #[.int lo t,.int hi u,.int 1 v]}).objs.size],_,_,H,rfl,
  I1.kept (t':=tk) λ b o e=>zAC _ e,aCX _ lo (hi-lo).toNat,?_,λ b hb=>?_,q⟩
 .have e1:lo+((0:Nat):Int)*1=lo:=by simp
  have e2:(((hi-lo).toNat:Nat):Int)-((0:Nat):Int)=zB0 lo hi 1:=by rw[rangeSize_one];split<;>lia
  show IsRangeIter _ _ (lo+((0:Nat):Int)*1) ((((hi-lo).toNat:Nat):Int)-((0:Nat):Int)) 1;rw[e1,e2];exact zAS _ rfl
 .have e:b=(s.heap.push {cls:=.type "range",data:=.fields #[.int lo t,.int hi u,.int 1 v]}).objs.size:=by simpa using hb
  subst e;exact I1.fpOk (zAQ _) (I1.hok.fresh (zAQ _))
def aNx(ta:TA):TI:=λ Z H R=>ta Z H λ vs H1=>∃j:Int,vs=[.int j]/\-(2^62)<=j/\j<2^62/\R (Itr 0 j.toNat) H1
def aNw(ta:TA):TI:=λ Z H R=>ta Z H λ vs H1=>∃i j:Int,vs=[.int i,.int j]/\(-(2^62)<=i/\i<2^62/\-(2^62)<=j/\j<2^62)/\R (Itr i (j-i).toNat) H1
def aFL{a:Expr}{ta:TA}{p pos:Pos}(hg:Gl X "range")(hm:X.mg "range"=none)(ha:PA X [a] ta)(hs:zA5 [a] X.env=[(false,eval a X.env)]:=by rfl):PI X tg (.Call (.Name "range" p) [a] [] pos) (aNx ta):=by
 intro kX s Z H R I h;refine Call_ (wJ I hg hm zHj (zD2 (thn (ha pos kX s Z H _ I h) λ us s1 ⟨vs,H1,I1,r1,q1⟩=>?_) hs rfl));obtain⟨j,e,q1,q2,q⟩:=q1;subst e;cases r1 with
 |cons r rr=>
  cases rr;obtain⟨t,rfl⟩:=r;exact call_range_1 (aBL I1 (by lia) (by lia) q1 q2 (by simpa using q))
def aFK(hg:Gl X "range")(hm:X.mg "range"=none)(ha:PA X [a,b] ta)(hs:zA5 [a,b] X.env=[(false,eval a X.env),(false,eval b X.env)]:=by rfl)(hs2:zA5 [b] X.env=[(false,eval b X.env)]:=by rfl):
  PI X tg (.Call (.Name "range" p) [a,b] [] pos) (aNw ta):=by
 intro kX s Z H R I h;refine Call_ (wJ I hg hm zHj (zD2 (thn (ha pos kX s Z H _ I h) λ us s1 ⟨vs,H1,I1,r1,q1⟩=>?_) (by rw[hs,hs2]) (by rw[hs2];rfl)));obtain⟨i,j,e,⟨q1,q2,q3,q4⟩,q⟩:=q1;subst e;cases r1 with
 |cons r rr=>
  cases rr with
  |cons r' rr=>
   cases rr;obtain⟨t,rfl⟩:=r;obtain⟨t',rfl⟩:=r';exact call_range_2 (aBL I1 q1 q2 q3 q4 q)
def aNW(wi:TI)(g:TG)(tb:TS):TS:=λ D Z H=>wi Z H λ J H1=>∃W:Nat->Nat->St->Hp->Prop,(∃m,W 0 m Z H1)/\∀i m Z H,W i m Z H->
 (J.stop i H/\D.nx Z H)\/(J.go i H/\∃N:St->Hp->Prop,(∀Z' H',N Z' H'->∃m',m'<m/\W (i+1) m' Z' H')/\∀x H',J.yld i H x H'->g x Z H' λ Z2 H2=>tb {D with nx:=N,ct:=N,bk:=D.nx} Z2 H2)
def pP(fp:List Addr)(h:Heap):hZ:=fp.filterMap λ b=>(h.get? b).map λ o=>(b,o)
def iy(hb:b∈fp)(e:h.get? b=some o):(b,o)∈pP fp h:=zBg.mpr ⟨b,hb,by rw[e];rfl⟩
def yW(hp:p∈pP fp h):p.1∈fp/\h.get? p.1=some p.2:=by
 obtain⟨b,hb,e⟩:=zBg.mp hp;cases q:h.get? b with
 |none=>rw[q]at e;cases e
 |some o=>
  rw[q]at e;have e':(b,o)=p:=zAl e;subst e';exact⟨hb,q⟩
def Inv.pinned(I:Inv X kX Z H s)(hf:∀b∈fp,rF X kX H b)(ho:∀b∈fp,∃o,s.heap.get? b=some o/\∀v,o.data≠.cell v):Inv X (kX++pP fp s.heap) Z H s:=
 I.pins_of (λ p hp=>(zAh.mp hp).elim (λ z=>I.pin p (zA7 _ z)) λ z=>by
  obtain⟨hb,e⟩:=yW z;obtain⟨f0,f1,f2,_⟩:=hf p.1 hb;obtain⟨o,e',d⟩:=ho p.1 hb;rw[e]at e';cases e';exact⟨e,f0,f1,f2,d⟩) λ q hq p hp=>(zAh.mp hq).elim (λ z=>(I.tab p hp).2.2.2.1 q (zA7 _ z)) λ z=>((hf q.1 (yW z).1).2.2.2.2.2 p (zA1 _ hp)).symm
def Inv.unpinned(I:Inv X (kX++pl) Z H s):Inv X kX Z H s:=I.pins_of (λ p hp=>I.pin p (zA7 _ (zA1 _ hp))) λ q hq p hp=>(I.tab p hp).2.2.2.1 q (zA7 _ (zA1 _ hq))
def aGv(hp:PassesOwn (model X.prog X.w) X.A X.env X.xe)(hc:X.calm=true)(hi:PI X tg iter wi)(hg:PG X tg g)(hb:PSs X body tb)
  (hs:∀x,zAz iter X.env x=pure x:=by intro _;rfl):PS X (.For tg iter body [] pos) (aNW wi g tb):=by
 intro kX s Z H D I h;refine wpAny_For (thn (hi kX s Z H _ I h) λ v s1 h1=>thn h1 λ itv s2 h2=>?_) hs;obtain⟨it,fp,tn,J,H2,e,I2,T,st2,f2,W,⟨m0,w0⟩,turn⟩:=h2;subst e;have aI:∀{H':Hp},(∀b∈fp,H' b=none)->∀b∈fp,rF X kX H' b:=λ hn b hb=>⟨hn b hb,(f2 b hb).2⟩
 refine codeAny_forLoop_any (λ n s'=>∃i Z' H',Inv X kX Z' H' s'/\tn i s'.heap/\(∀b∈fp,H' b=none)/\W i n Z' H') ?_ m0 ⟨0,Z,H2,I2,st2,λ b hb=>(f2 b hb).1,w0⟩;rintro n s3 ⟨i,Z3,H3,I3,st3,fr3,w3⟩;rcases turn i n Z3 H3 w3 with ⟨stop,qn⟩|⟨go,N,hN,step⟩
 .refine zEO hp (thn (T.done X rfl rfl rfl hc i kX s3 Z3 H3 X.xe I3 (aI fr3) st3 stop) λ r s4 ⟨hr,I4⟩=>?_)
  subst hr;exact zFV ⟨Z3,H3,I4,qn⟩
 .refine zEO hp (thn (T.item X rfl rfl rfl hc i kX s3 Z3 H3 X.xe I3 (aI fr3) st3 go) λ r s4 ⟨u,hr,h4⟩=>?_)
  subst hr;refine zEO hp (thn h4 λ _ s5 ⟨x,H5,I5,r5,y5,st5,fr5⟩=>?_);have I5':=I5.pinned (aI fr5) (T.obj _ _ st5);refine zEO hp (thn (hg _ s5 Z3 H5 x u _ I5' r5 (step x H5 y5)) λ _ s6 ⟨Z6,H6,I6,q6⟩=>?_);refine zEO hp (thn (hb _ s6 Z6 H6 _ I6 q6) λ f s7 q7=>?_);have again:∀{Z7:St} {H7:Hp},Inv X (kX++pP fp s5.heap) Z7 H7 s7->N Z7 H7->∃m,m<n/\∃i Z' H',Inv X kX Z' H' s7/\tn i s7.heap/\(∀b∈fp,H' b=none)/\W i m Z' H':=λ{Z7 H7} I7 n7=>by
   obtain⟨m',hm,w7⟩:=hN Z7 H7 n7;refine⟨m',hm,i+1,Z7,H7,I7.unpinned,T.keep _ _ _ st5 λ b hb o e=>(I7.pin (b,o) (zA7 _ (zA7 _ (iy hb e)))).1,λ b hb=>?_,w7⟩;obtain⟨o,e,d⟩:=T.obj _ _ st5 b hb;exact(I7.pin (b,o) (zA7 _ (zA7 _ (iy hb e)))).2.1
  cases f with
  |next=>obtain⟨Z7,H7,I7,n7⟩:=q7;exact again I7 n7
  |cont=>obtain⟨Z7,H7,I7,n7⟩:=q7;exact again I7 n7
  |brk=>obtain⟨Z7,H7,I7,q7⟩:=q7;exact⟨Z7,H7,I7.unpinned,q7⟩
  |ret v=>obtain⟨x7,Z7,H7,I7,r7,q7⟩:=q7;exact⟨x7,Z7,H7,I7.unpinned,r7,q7⟩
end
abbrev R2:=V->V->Hp->VK->Prop
def OpR(X:Cx)(f:Value->Value->Sem Value)(r:R2):Prop:=
 ∀(kX:hZ) (s:zAE) (Z:St) (H:Hp) (x y:V) (v u:Value) (Q:VK),Inv X kX Z H s->RelV x v->RelV y u->r x y H Q->
  wpAny (model X.prog X.w) X.A (f v u) (EP X kX Z Q) X.xe s
def UnR(X:Cx)(f:Value->Sem Value)(r:V->Hp->VK->Prop):Prop:=
 ∀(kX:hZ) (s:zAE) (Z:St) (H:Hp) (x:V) (v:Value) (Q:VK),Inv X kX Z H s->RelV x v->r x H Q->
  wpAny (model X.prog X.w) X.A (f v) (EP X kX Z Q) X.xe s
def cg(X:Cx)(f:Value)(r:List V->Hp->VK->Prop):Prop:=
 ∀(kX:hZ) (s:zAE) (Z:St) (H:Hp) (xs:List V) (us:List Value) (Q:VK),Inv X kX Z H s->Vals xs us->r xs H Q->
  wpAny (model X.prog X.w) X.A (call f us) (EP X kX Z Q) X.xe s
def aOa(X:Cx)(r:V->Hp->(Bool->Hp->Prop)->Prop):Prop:=
 ∀(kX:hZ) (s:zAE) (Z:St) (H:Hp) (x:V) (v:Value) (Q:Bool->Hp->Prop),Inv X kX Z H s->RelV x v->r x H Q->
  wpAny (model X.prog X.w) X.A (truthy v) (TP X kX Z Q) X.xe s
def tOp(r:R2)(ta tb:TE):TE:=λ Z H Q=>ta Z H λ x H1=>tb Z H1 λ y H2=>r x y H2 Q
def tUn(r:V->Hp->VK->Prop)(ta:TE):TE:=λ Z H Q=>ta Z H λ x H1=>r x H1 Q
def rI(C:Int->Int->Prop)(g:Int->Int->V):R2:=λ x y H Q=>∃i j,x= .int i/\y= .int j/\C i j/\Q (g i j) H
def rI0(g:Int->Int->V):R2:=λ x y H Q=>∃i j,x= .int i/\y= .int j/\Q (g i j) H
def rU(g:Int->V):V->Hp->VK->Prop:=λ x H Q=>∃i,x= .int i/\Q (g i) H
section
variable{X:Cx}{a b:Expr}{ta tb:TE}{pos:Pos}
def aNC(ha:PE X a ta)(hb:PE X b tb){kX:hZ}{s:zAE}{Z:St}{H:Hp}{R:V->V->Hp->Prop}(I:Inv X kX Z H s)
  (h:ta Z H λ x H1=>tb Z H1 λ y H2=>R x y H2){Q:Value->zAE->Prop}{f:Value->Value->Sem Value}
  (hf:∀v u s2 x y H2,Inv X kX Z H2 s2->RelV x v->RelV y u->R x y H2->wpAny (model X.prog X.w) X.A (f v u) Q X.xe s2):
  wpAny (model X.prog X.w) X.A (eval a X.env) (λ v zD=>wpAny (model X.prog X.w) X.A (eval b X.env) (λ u zS=>wpAny (model X.prog X.w) X.A (f v u) Q X.xe zS) X.xe zD) X.xe s:=by
 refine thn (ha kX s Z H _ I h) λ v s1 ⟨x,H1,I1,r1,q1⟩=>?_
 refine thn (hb kX s1 Z H1 _ I1 q1) λ u s2 ⟨y,H2,I2,r2,q2⟩=>?_
 exact hf v u s2 x y H2 I2 r1 r2 q2
def aHC{op:Operator}{r:R2}(ho:OpR X (zBv op) r)(ha:PE X a ta)(hb:PE X b tb):PE X (.BinOp a op b pos) (tOp r ta tb):=by
 intro kX s Z H Q I h;exact wpAny_BinOp (aNC ha hb I h λ v u s2 x y H2 I2 rx ry q=>ho kX s2 Z H2 x y v u Q I2 rx ry q)
def aKt(ho:UnR X (unaryOp op) r)(ha:PE X a ta):PE X (.UnaryOp op a pos) (tUn r ta):=by
 intro kX s Z H Q I h;exact UnaryOp_ (thn (ha kX s Z H _ I h) λ v s1 ⟨x,H1,I1,r1,q1⟩=>ho kX s1 Z H1 x v Q I1 r1 q1)
def opI{f:Value->Value->Sem Value}{C:Int->Int->Prop}{g:Int->Int->Int}
  (rule:∀(i j:Int) (t u:Tok) (s:zAE) (Q:Value->zAE->Prop) (E:Value->zAE->Prop),C i j->Q (.int (g i j) s.toks) {s with toks:=s.toks+1}->wpAny (model X.prog X.w) X.A (f (.int i t) (.int j u)) Q E s):
  OpR X f (rI C λ i j=>.int (g i j)):=by
 intro kX s Z H x y v u Q I rx ry h;obtain⟨i,j,rfl,rfl,hc,q⟩:=h;obtain⟨t,rfl⟩:=rx;obtain⟨t',rfl⟩:=ry;exact rule i j t t' s _ _ hc ⟨.int (g i j),H,I.tok _,⟨_,rfl⟩,q⟩
def aMS{f:Value->Value->Sem Value}{g:Int->Int->Int}
  (rule:∀(i j:Int) (t u:Tok) (s:zAE) (Q:Value->zAE->Prop) (E:Value->zAE->Prop),Q (.int (g i j) s.toks) {s with toks:=s.toks+1}->wpAny (model X.prog X.w) X.A (f (.int i t) (.int j u)) Q E s):
  OpR X f (rI0 λ i j=>.int (g i j)):=by
 intro kX s Z H x y v u Q I rx ry h;obtain⟨i,j,rfl,rfl,q⟩:=h;obtain⟨t,rfl⟩:=rx;obtain⟨t',rfl⟩:=ry;exact rule i j t t' s _ _ ⟨.int (g i j),H,I.tok _,⟨_,rfl⟩,q⟩
def aJ7{f:Value->Value->Sem Value}{g:Int->Int->Bool}
  (rule:∀(i j:Int) (t u:Tok) (s:zAE) (Q:Value->zAE->Prop) (E:Value->zAE->Prop),Q (.bool (g i j)) s->wpAny (model X.prog X.w) X.A (f (.int i t) (.int j u)) Q E s):
  OpR X f (rI0 λ i j=>.bl (g i j)):=by
 intro kX s Z H x y v u Q I rx ry h;obtain⟨i,j,rfl,rfl,q⟩:=h;obtain⟨t,rfl⟩:=rx;obtain⟨t',rfl⟩:=ry;exact rule i j t t' s _ _ ⟨.bl (g i j),H,I,rfl,q⟩
def aOR(i j:Int):Prop:=0<j/\j<1073741824
def aOQ(i j:Int):Prop:=0<=j/\j<=1000000/\i.natAbs<2^64
def aK8(i j:Int):Prop:=(-(2^64)<i/\i<2^64)\/(-(2^64)<j/\j<2^64)
def aK8.ok(h:aK8 i j):IntMulOk i j:=by
 rcases h with ⟨h1,h2⟩|⟨h1,h2⟩
 .exact .of_left (intBits_le_64 h1 h2)
 .exact .of_right (intBits_le_64 h1 h2)
def aCV(k:Nat):(0:Int)<=2^k:=by
 rw[two_pow_cast];exact zII _
def aMR:OpR X (zBv .Add) (rI0 λ i j=>.int (i+j)):=aMS λ _ _ _ _ _ _ _ q=>add_int q
def aMB:OpR X (zBv .Sub) (rI0 λ i j=>.int (i-j)):=aMS λ _ _ _ _ _ _ _ q=>sub_int q
def aMH:OpR X (zBv .Mult) (rI aK8 λ i j=>.int (i*j)):=opI λ _ _ _ _ _ _ _ hc q=>mul_int q hc.ok
def aJ3:OpR X (zBv .FloorDiv) (rI aOR λ i j=>.int (i / j)):=opI λ i j _ _ _ _ _ hc q=>by
 have h1:(0:Int)<j:=hc.1;have h2:j<1073741824:=hc.2;exact floordiv_int (by lia) (by rw[zG3 i (by lia)];exact q) (.inl (PyProof.noPylong_small (by lia)))
def aMI:OpR X (zBv .Mod) (rI (λ _ j=>0<j) λ i j=>.int (i%j)):=opI λ i j _ _ _ _ _ hc q=>by
 have h1:(0:Int)<j:=hc;exact mod_int' (by lia) (by rw[Int.fmod_eq_emod_of_nonneg i (by lia)];exact q)
def aMF:OpR X (zBv .Pow) (rI aOQ λ i j=>.int (i^j.toNat)):=opI λ _ _ _ _ _ _ _ hc q=>pow_int_small hc.1 hc.2.1 hc.2.2 q
def aMD:OpR X (zBv .LShift) (rI aOQ λ i j=>.int (i*2^j.toNat)):=opI λ _ _ _ _ _ _ _ hc q=>lshift_int_small hc.1 hc.2.1 hc.2.2 q
def aMC:OpR X (zBv .RShift) (rI (λ _ j=>0<=j) λ i j=>.int (i / 2^j.toNat)):=opI λ i j _ _ _ _ _ hc q=>
 rshift_int hc (by rw[zG3 i (aCV _)];exact q)
def aMQ:OpR X (zBv .BitAnd) (rI0 λ i j=>.int (zDt i j)):=aMS λ _ _ _ _ _ _ _ q=>and_int q
def unI{f:Value->Sem Value}{g:Int->Int}
  (rule:∀(i:Int) (t:Tok) (s:zAE) (Q:Value->zAE->Prop) (E:Value->zAE->Prop),Q (.int (g i) s.toks) {s with toks:=s.toks+1}->wpAny (model X.prog X.w) X.A (f (.int i t)) Q E s):
  UnR X f (rU λ i=>.int (g i)):=by
 intro kX s Z H x v Q I rx h;obtain⟨i,rfl,q⟩:=h;obtain⟨t,rfl⟩:=rx;exact rule i t s _ _ ⟨.int (g i),H,I.tok _,⟨_,rfl⟩,q⟩
def aGA:UnR X (unaryOp .USub) (rU λ i=>.int (-i)):=unI λ _ _ _ _ _ q=>neg_int q
end
section
variable{X:Cx}{a b c:Expr}{ta tb tc:TE}{pos:Pos}
def aNl:OpR X (zBH .Lt) (rI0 λ i j=>.bl (decide (i<j))):=aJ7 λ _ _ _ _ _ _ _ q=>lt_int q
def aNm:OpR X (zBH .LtE) (rI0 λ i j=>.bl (decide (i<=j))):=aJ7 λ _ _ _ _ _ _ _ q=>le_int q
def aNn:OpR X (zBH .Gt) (rI0 λ i j=>.bl (decide (j<i))):=aJ7 λ _ _ _ _ _ _ _ q=>gt_int q
def aNo:OpR X (zBH .GtE) (rI0 λ i j=>.bl (decide (j<=i))):=aJ7 λ _ _ _ _ _ _ _ q=>ge_int q
def isObj:HO->Bool
 | .lst _=>true
 | .ins _ _ _=>true
 |_=>false
def aHO(b:Expr)(h:op≠.In:=by decide)(h2:op≠.NotIn:=by decide):zCN op b=false:=by
 have e1:(op==CmpOp.In)=false:=by cases op<;>first|rfl|exact absurd rfl h
 have e2:(op==zJT)=false:=by cases op<;>first|rfl|exact absurd rfl h2
 cases b<;>simp[zCN,e1,e2]
def aJT{op:CmpOp}{r:R2}(ho:OpR X (zBH op) r)(ha:PE X a ta)(hb:PE X b tb)(hm:zCN op b=false):PE X (.Compare a [op] [b] pos) (tOp r ta tb):=by
 intro kX s Z H Q I h;exact wpAny_Compare1 (aNC ha hb I h λ v u s2 x y H2 I2 rx ry q=>ho kX s2 Z H2 x y v u Q I2 rx ry q) hm
def aKd(t:TE):TT:=λ Z H Q=>t Z H λ x H'=>∃k,x= .bl k/\Q k H'
def aJK(ho:OpR X (zBH op) r)(ha:PE X a ta)(hb:PE X b tb)(hm:zCN op b=false):PT X (.Compare a [op] [b] pos) (aKd (tOp r ta tb)):=by
 intro kX s Z H Q I h;refine zIm (thn (ha kX s Z H _ I h) λ v s1 ⟨x,H1,I1,r1,q1⟩=>thn (hb kX s1 Z H1 _ I1 q1) λ u s2 ⟨y,H2,I2,r2,q2⟩=>
  thn (ho kX s2 Z H2 x y v u _ I2 r1 r2 q2) λ c s3 ⟨z,H3,I3,r3,k,e,q3⟩=>?_) hm
 subst e;cases r3;exact zBe ⟨H3,I3,q3⟩
def aGI(r r':R2)(ta tb tc:TE):TE:=λ Z H Q=>ta Z H λ x H1=>tb Z H1 λ y H2=>r x y H2 λ z H3=>∃k,z= .bl k/\
 (if k=true then tc Z H3 λ w' H4=>r' y w' H4 Q else Q (.bl false) H3)
def aHG(ho:OpR X (zBH op) r)(ho':OpR X (zBH op') r')(ha:PE X a ta)(hb:PE X b tb)(hc:PE X c tc)
  (hm:zIj [op,op'] [b,c]=false:=by with_unfolding_all rfl):PE X (.Compare a [op,op'] [b,c] pos) (aGI r r' ta tb tc):=by
 intro kX s Z H Q I h;refine Compare_chain (thn (ha kX s Z H _ I h) λ v s1 ⟨x,H1,I1,r1,q1⟩=>chain_link (thn (hb kX s1 Z H1 _ I1 q1) λ u s2 ⟨y,H2,I2,r2,q2⟩=>
  thn (ho kX s2 Z H2 x y v u _ I2 r1 r2 q2) λ d s3 ⟨z,H3,I3,r3,k,e,q3⟩=>?_)) hm
 subst e;cases r3;refine zBe ?_;cases k with
 |false=>exact ite_ff ⟨.bl false,H3,I3,rfl,q3⟩
 |true=>exact ite_tt (chain_last (thn (hc kX s3 Z H3 _ I3 q3) λ w' s4 ⟨z',H4,I4,r4,q4⟩=>ho' kX s4 Z H4 y z' u w' Q I4 r2 r4 q4))
def aNK(K:zAA)(x:V)(H:Hp)(k:Bool):Prop:=
 match x with
 | .non=>k=false
 | .bl b=>k=b
 | .int i=>k=(i !=0)
 | .str y=>y.length<=zAY/\k=((y.length:Int)!=0)
 | .byt y=>y.size<=zAY/\k=((y.size:Int)!=0)
 | .ref p=>(∃xs,SqL K H p xs/\k= !xs.isEmpty)\/(∃xs,SqT K H p xs/\k= !xs.isEmpty)\/∃kvs,H p=some (.dK kvs)/\k= !kvs.isEmpty
 |_=>False
def aDT(r:KV kvs vs):(!vs.isEmpty)= !kvs.isEmpty:=by
 cases r<;>rfl
def wO(r:Vals xs its):(!its.toArray.isEmpty)= !xs.isEmpty:=by
 cases r<;>simp
def wG:(zAY:Nat)<2^63:=by rw[zBj];decide
def aLR:aOa X (λ x H Q=>∃k,aNK X.K x H k/\Q k H):=by
 intro kX s Z H x v Q I rx h;obtain⟨k,e,q⟩:=h;have hl:=wG;have hs:zAY=16777216:=zBj;cases x with
 |non=>
  cases rx;have e':k=false:=e;subst e';exact truthy_none ⟨H,I,q⟩
 |bl b=>
  cases rx;have e':k=b:=e;subst e';exact zBe ⟨H,I,q⟩
 |int i=>
  obtain⟨t,rfl⟩:=rx;have e':k=(i !=0):=e;subst e';exact PySem.P.truthy_int ⟨H,I,q⟩
 |str y=>
  obtain⟨t,rfl⟩:=rx;obtain⟨hy,e'⟩:y.length<=zAY/\k=((y.length:Int)!=0):=e;subst e';exact PySem.P.truthy_str (by lia) ⟨H,I.tok _,q⟩
 |byt y=>
  obtain⟨t,rfl⟩:=rx;obtain⟨hy,e'⟩:y.size<=zAY/\k=((y.size:Int)!=0):=e;subst e';exact PySem.W.truthy_bytes (by lia) ⟨H,I.tok _,q⟩
 |ref p=>
  cases rx;have e':(∃xs,SqL X.K H p xs/\k= !xs.isEmpty)\/(∃xs,SqT X.K H p xs/\k= !xs.isEmpty)\/∃kvs,H p=some (.dK kvs)/\k= !kvs.isEmpty:=e
  rcases e' with ⟨xs,hx,e'⟩|⟨xs,hx,e'⟩|⟨kvs,hx,e'⟩
  .subst e'
   obtain⟨its,r,pl,hz⟩:=I.list hx;have kK:=r.length;exact wpAny_truthy_list pl.isList (by simp only[zAX];lia) ⟨H,I.tok _,by rw[wO r];exact q⟩
  .subst e'
   obtain⟨its,r,pl,hz⟩:=I.tuple hx;have kK:=r.length;exact truthy_tuple pl (by simp only[zAX];lia) ⟨H,I.tok _,by rw[wO r];exact q⟩
  .subst e'
   obtain⟨hz,hS,vs,r,m⟩:kvs.length<=zAY/\(p==zDY)=false/\∃vs,KV kvs vs/\s.heap.DictOf (aAM X.prog X.w) p vs:=I.hok p _ hx
   have kK:kvs.length=vs.length:=zG7 r;exact wpAny_truthy_dict hS m (by lia) ⟨H,I.tok _,by rw[aDT r];exact q⟩
 |_=>exact(show False from e).elim
def aGq(ha:PE X a ta)(he:∀whole,isTrue a X.env whole=(do let v <-whole;zFU a.pos;zCp [v] (truthy v))):
  PT X a (λ Z H Q=>ta Z H λ x H'=>∃k,aNK X.K x H' k/\Q k H'):=by
 intro kX s Z H Q I h;exact isTrue_plain (thn (ha kX s Z H _ I h) λ v s1 ⟨x,H1,I1,r1,q1⟩=>aLR kX s1 Z H1 x v Q I1 r1 q1) (he _)
def vals1(r:Vals [x] us):∃u,us=[u]/\RelV x u:=by
 cases r with
 |cons r1 r2=>cases r2;exact⟨_,rfl,r1⟩
def vals2(r:Vals [x,y] us):∃u w',us=[u,w']/\RelV x u/\RelV y w':=by
 cases r with
 |cons r1 r2=>
  cases r2 with
  |cons r3 r4=>cases r4;exact⟨_,_,rfl,r1,r3⟩
def aFl(hc:X.calm=true):cg X (.builtin "max") (λ xs H Q=>∃i j,xs=[.int i,.int j]/\Q (.int (if j>i then j else i)) H):=by
 intro kX s Z H xs us Q I r h;obtain⟨i,j,rfl,q⟩:=h;obtain⟨u,w',rfl,⟨t,rfl⟩,⟨t',rfl⟩⟩:=vals2 r;refine max_two_ints (I.ok.hd hc) λ h' tk k=>⟨_,H,I.kept k,?_,q⟩
 by_cases hj:j>i
 .rw[if_pos hj,if_pos hj];exact⟨_,rfl⟩
 .rw[if_neg hj,if_neg hj];exact⟨_,rfl⟩
def aFk(hc:X.calm=true):cg X (.builtin "min") (λ xs H Q=>∃i j,xs=[.int i,.int j]/\Q (.int (if j<i then j else i)) H):=by
 intro kX s Z H xs us Q I r h;obtain⟨i,j,rfl,q⟩:=h;obtain⟨u,w',rfl,⟨t,rfl⟩,⟨t',rfl⟩⟩:=vals2 r;refine min_two_ints (I.ok.hd hc) λ h' tk k=>⟨_,H,I.kept k,?_,q⟩
 by_cases hj:j<i
 .rw[if_pos hj,if_pos hj];exact⟨_,rfl⟩
 .rw[if_neg hj,if_neg hj];exact⟨_,rfl⟩
end
structure aK3(h:Heap)(x dx C:Addr)(mA:Str->Option Value):Prop where
 obj:h.get? x=some (zCW C dx)
 ns:h.Ns1 dx mA
 ne:dx≠x
def aFZ{h:Heap}{dx:Addr}{mA:Str->Option Value}(n:h.Ns1 dx mA):∃od,h.get? dx=some od/\∀name,zEq name od=some (mA name):=by
 obtain⟨o,es,ep,ho,hd,hk,_,hm⟩:=n;refine⟨o,ho,λ name=>?_⟩;have e:=hm name;unfold nsFind findBy at e;rw[<-Array.find?_toList]at e;unfold zEq;rw[hd];dsimp only;split
 .rename_i y q
  rw[q]at e;exact congrArg some e
 .rename_i q
  rw[q]at e;have a:es.toList.any (·.refKey)=false:=by
   rw[zIK];intro y hy;obtain⟨z,t,hkey⟩:=hk y (Array.mem_toList_iff.mp hy);simp[DictEntry.refKey,hkey]
  have a':¬es.toList.any (·.refKey)=true:=by rw[a];exact zA8
  rw[if_neg a'];exact congrArg some e
def aK3.look(I:aK3 h x dx C mA):∃od,zIS h x (zCW C dx) C (some od)/\∀name,zEq name od=some (mA name):=
 let⟨od,ho,hl⟩:=aFZ I.ns
 ⟨od,⟨I.obj,rfl,rfl,ho⟩,hl⟩
section
variable{prog:zA3}{w:World}{A:zAc}{E:Value->zAE->Prop}{s:zAE}{K:zAA}{x dx C f:Addr}{mA:Str->Option Value}{name:Str}
def aHx(X:K.In s.heap)(I:aK3 s.heap x dx C mA)(hg:zF5 K C name=true)
  (hf:zBT K (.ref C) name=some (some (.ref f)))(ht:zIq K (.ref f)=true)(hv:mA name=none)(h:Q (.ref f,[.ref x]) s):
  wpAny (model prog w) A (getMethod (.ref x) name pl) Q E s:=by
 obtain⟨od,J,hl⟩:=I.look;exact PySem.W.method_fn X J (zGy hg).1 (zGy hg).2 hf (beq_iff_eq.mp ht) (by show(zEq name od).map (·.isSome)=some false;rw[hl,hv];rfl) h
def make_map(X:K.In s.heap)(hm:PySem.W.makesIn K C=true)
  (hi:zBT K (.ref C) "__init__"=some (some (.ref f)))(hf:PySem.W.typeIn K (.ref f)=some (.type "function"))
  (h:zCF (model prog w) (A.under (.builtin "type.__call__" ⟨.ref C::vs,kw⟩)) (.call (.ref f) ⟨.ref (s.heap.objs.size+1)::vs,kw⟩) (PySem.W.InitBack (s.heap.objs.size+1) R)
   {s with heap:=(s.heap.push zBi).push (zCW C s.heap.objs.size)}):
  zCF (model prog w) A (.call (.ref C) ⟨vs,kw⟩) R s:=by
 obtain⟨hh,g,d,t,os⟩:=s;exact PySem.W.make_core (PySem.W.makes_of X hm) (zDb X hi) (λ self=>PySem.W.bind_fn X self hf) (.inl rfl) h
end
def aFt.none_of(r:aFt none o):o=none:=by
 cases o with
 |none=>rfl
 |some u=>exact(show False from r).elim
section
variable{P:zA3}{w:World}{H:Hp}{h:Heap}{a C dx:Addr}{fs:List (Str×V)}
def uo(hok:HOk P w H h)(e:H a=some (.ins C dx fs)):∃mA,aK3 h a dx C mA/\(∀f,aFt (fs.lookup f) (mA f))/\zJI mA (fs.map (·.1))/\fs.length<=1000/\H dx=some (.own a):=by
 obtain⟨d,z,ne,ob,mA,n,r,q⟩:=(show cP P w H h a (.ins C dx fs)from hok a _ e);exact⟨mA,⟨ob,n,ne⟩,r,q,z,d⟩
end
structure Cls(K:zAA)(C:Addr):Prop where
 pg:zF5 K C Str.empty=true
 hd:PySem.W.hasDictIn K C=true
 po:PySem.W.plainOver K C=true
 sa:zBT K (.ref C) "__setattr__"=some (some (.builtin "object.__setattr__"))
def Cls.get{K:zAA}{C:Addr}(c:Cls K C)(f:Str):zF5 K C f=true:=c.pg
def aNM(K:zAA)(C:Addr)(f:Str):Prop:=zBT K (.ref C) f=some none
structure Meth(K:zAA)(C:Addr)(m:Str)(f:Addr):Prop where
 at_:zBT K (.ref C) m=some (some (.ref f))
 fn:zIq K (.ref f)=true
 kp:zBm K (.ref f)=true
section
variable{X:Cx}{kX:hZ}{Z:St}{H:Hp}{s:zAE}{a C dx:Addr}{fs:List (Str×V)}{A:zAc}{E:Value->zAE->Prop}
def aDX(I:Inv X kX Z H s)(e:H a=some (.ins C dx fs))(c:Cls X.K C)(k:Meth X.K C m g)(l:fs.lookup m=none)
  (h:Q (.ref g,[.ref a]) s):wpAny (model X.prog X.w) A (getMethod (.ref a) m pl) Q E s:=by
 obtain⟨mA,O,r,_,_,_⟩:=uo I.hok e;have hn:mA m=none:=aFt.none_of (by rw[<-l];exact r m);exact aHx I.kIn O (c.get m) k.at_ k.fn hn h
def Inv.made(I:Inv X kX Z H s):Inv X kX Z (upd (upd H s.heap.objs.size (.own (s.heap.objs.size+1))) (s.heap.objs.size+1) (.ins C s.heap.objs.size []))
  {s with heap:=(s.heap.push zBi).push (zCW C s.heap.objs.size)}:=by
 have e1:(s.heap.push zBi).get? s.heap.objs.size=some zBi:=zAS s.heap rfl;have e2:((s.heap.push zBi).push (zCW C s.heap.objs.size)).get? (s.heap.objs.size+1)=some (zCW C s.heap.objs.size):=by
  have:=zAS (s.heap.push zBi) (o:=zCW C s.heap.objs.size) rfl
  rwa [zBN]at this
 have e3:(s.heap.push zBi).Ns s.heap.objs.size (λ _=>none):=⟨zBi,#[],_,e1,rfl,(λ e he=>absurd he (by simp)),λ _=>rfl⟩;have I1:=I.laid (a:=s.heap.objs.size) (o:=.own (s.heap.objs.size+1)) (h':=s.heap.push zBi) (t':=s.toks) (λ b u q=>zAC _ q) (zAQ _) ⟨_,e1⟩;refine I1.laid (a:=s.heap.objs.size+1) (o:=.ins C s.heap.objs.size []) (t':=s.toks) (λ b u q=>zAC _ q) (zHY (zBN _ _)) ?_;have ne:s.heap.objs.size≠s.heap.objs.size+1:=zA6 (zBy _);refine⟨by rw[aX ne,aa],zAa _,ne,e2,λ _=>none,(Heap.Ns1.of_empty e3).at λ o q=>zAC _ q,λ _=>zEU,λ y hy=>absurd rfl hy⟩
end
def tFld(K:zAA)(ta:TE)(f:Str):TE:=λ Z H Q=>ta Z H λ x H1=>∃a C dx fs v,x= .ref a/\H1 a=some (.ins C dx fs)/\Cls K C/\aNM K C f/\fs.lookup f=some v/\Q v H1
section
variable{X:Cx}{e:Expr}{f:Str}{pos:Pos}
def methcall_of(he:PE X e te)(I:Inv X kX Z H s)
  (h:te Z H λ x H1=>∃a C dx fs g,x= .ref a/\H1 a=some (.ins C dx fs)/\Cls X.K C/\Meth X.K C m g/\fs.lookup m=none/\
   ∀s1,Inv X kX Z H1 s1->wpAny (model X.prog X.w) X.A (callWith pos (.ref g) [.ref a] (zCg pos (zA5 args X.env)) (zGE pos (zEL [] X.env))) Q X.xe s1)
  (ht:eval (.Call (.Attribute e m apos) args [] pos) X.env=(do
   let ov <-eval e X.env
   zFU apos.atName
   let(f,first) <-zCp [ov] (getMethod ov m pl)
   callWith pos f first (zCg pos (zA5 args X.env)) (zGE pos (zEL [] X.env)))):
  wpAny (model X.prog X.w) X.A (eval (.Call (.Attribute e m apos) args [] pos) X.env) Q X.xe s:=by
 refine PySem.W.methodCall_KW (pl:=pl) (thn (he kX s Z H _ I h) λ u s1 ⟨x,H1,I1,rx,a,C,dx,fs,g,ex,ea,c,k,l,q⟩=>?_) ht;subst ex;obtain rfl:u=zAx a:=rx;exact aDX I1 ea c k l (q s1 I1)
end
section
variable{X:Cx}{kX:hZ}{Z:St}{H:Hp}{s:zAE}{A:zAc}{E:Value->zAE->Prop}{Q:Value->zAE->Prop}{c:Value}{b:Bool}
inductive tD(K:zAA)(H:Hp):V->Value->Prop where
 |non:tD K H .non (.type "NoneType")
 |bl (x:Bool):tD K H (.bl x) (.type "bool")
 |int (i:Int):tD K H (.int i) (.type "int")
 |str (x:Str):tD K H (.str x) (.type "str")
 |flt (x:UInt64):tD K H (.flt x) (.type "float")
 |lst {a:Addr} {xs:List V} (e:H a=some (.lst xs)):tD K H (.ref a) (.type "list")
 |frz {a:Addr} {o:Obj} {xs:List V} (e:H a=some (.frz o (.lst xs))):tD K H (.ref a) (.type "list")
 |tup {a:Addr} {xs:List V} (e:H a=some (.tup xs)):tD K H (.ref a) (.type "tuple")
 |dK {a:Addr} {kvs:List (Key×V)} (e:H a=some (.dK kvs)):tD K H (.ref a) (.type "dict")
 |dT {a:Addr} {kvs:List (List Key×V)} (e:H a=some (.dT kvs)):tD K H (.ref a) (.type "dict")
 |ins {a C dx:Addr} {fs:List (Str×V)} (e:H a=some (.ins C dx fs)) (cl:Cls K C) (ha:zBT K (.ref C) "__class__"=some (some (.builtin "object.__class__")))
   (hn:PySem.W.specialIn K (.builtin "object.__class__") "__get__"=some (some (.builtin "getset_descriptor.__get__"))) (htk:PySem.W.takesIn K (.builtin "object.__class__")=some true)
   (hm:PySem.W.mroIn K C (.type "object")=some true):tD K H (.ref a) (.ref C)
def aF6(I:Inv X kX Z H s)(rx:RelV x u)(ty:tD X.K H x t)(e:zCB X.K t c=some b)(h:∀tk,Q (.bool b) {s with toks:=tk}):
  wpAny (model X.prog X.w) A (call (.builtin "isinstance") [u,c]) Q E s:=by
 cases ty with
 |non=>cases (show u=zBn from rx);exact zBS PySem.W.kitx_none I.kIn zEU e (λ z=>nomatch z) h
 |bl y=>cases (show u=zCn y from rx);exact zBS PySem.W.kitx_bool I.kIn zEU e (λ z=>nomatch z) h
 |int i=>obtain⟨t,q⟩:=(show∃t,u=zCf i t from rx);cases q;exact zBS PySem.W.kitx_int I.kIn zEU e (λ z=>nomatch z) h
 |str y=>obtain⟨t,q⟩:=(show∃t,u=zId y t from rx);cases q;exact zBS PySem.W.kitx_str I.kIn zEU e (λ z=>nomatch z) h
 |flt y=>obtain⟨t,q⟩:=(show∃t,u=zJ2 y t from rx);cases q;exact zBS PySem.W.kitx_float I.kIn zEU e (λ z=>nomatch z) h
 |@lst a xs ea=>
  cases (show u=zAx a from rx);obtain⟨_,_,n,_,h1⟩:=(show cP X.prog X.w H s.heap a (.lst xs)from I.hok a _ ea);exact zBS zH1 I.kIn ⟨_,h1,rfl⟩ e (λ z=>nomatch z) h
 |@frz a ob xs ea=>
  cases (show u=zAx a from rx);obtain⟨_,_,_,n,_,h1⟩:=(show cP X.prog X.w H s.heap a (.frz ob (.lst xs))from I.hok a _ ea);exact zBS zH1 I.kIn ⟨_,h1,rfl⟩ e (λ z=>nomatch z) h
 |@tup a xs ea=>
  cases (show u=zAx a from rx);obtain⟨_,_,_,p⟩:=(show cP X.prog X.w H s.heap a (.tup xs)from I.hok a _ ea);obtain⟨o,h1,h2,_⟩:=p;exact zBS zHR I.kIn ⟨o,h1,h2⟩ e (λ z=>nomatch z) h
 |@dK a kvs ea=>
  cases (show u=zAx a from rx);obtain⟨_,_,vs,_,p⟩:=(show cP X.prog X.w H s.heap a (.dK kvs)from I.hok a _ ea);obtain⟨o,es,ep,h1,h2,_⟩:=p;exact zBS zFQ I.kIn ⟨o,h1,h2.1⟩ e (λ z=>nomatch z) h
 |@dT a kvs ea=>
  cases (show u=zAx a from rx);obtain⟨_,_,xs,_,o,es,ep,h1,h2,_⟩:=(show cP X.prog X.w H s.heap a (.dT kvs)from I.hok a _ ea);exact zBS zFQ I.kIn ⟨o,h1,h2.1⟩ e (λ z=>nomatch z) h
 |@ins a C dx fs ea cl ha hn htk hm=>
  cases (show u=zAx a from rx);obtain⟨mA,O,_⟩:=uo I.hok ea;obtain⟨od,J,_⟩:=O.look;exact zBS (PySem.W.kitx_own (cl.get _) cl.hd ha hn htk hm) I.kIn J e (λ z=>nomatch z) h
end
structure dj(k:Nat)(A:zAc):Prop where
 hd:A.handled=none
 dp:A.depth+3*k+5<zFc
 un:A.units+16*k+200<cLine
def dj.mono(r:dj k A)(h:j<=k):dj j A:=⟨r.hd,by have:=r.dp;lia,by have:=r.un;lia⟩
theorem dj.deeper(r:dj (k+1) A)(env:Env):dj k (A.deeper env):=
 ⟨r.hd,by have:=r.dp;show A.depth+1+3*k+5<_;lia,by have:=r.un;show A.units+3+16*k+200<_;lia⟩
theorem dj.depth(r:dj k A):A.depth<zFc:=by have:=r.dp;lia
theorem dj.units(r:dj k A):A.units+64<cLine:=by have:=r.un;lia
def dj.units0(r:dj k A):A.units<cLine:=by have:=r.un;lia
def lq:TA:=λ _ H Q=>Q [] H
def fM(ta:TE)(tr:TA):TA:=λ Z H Q=>ta Z H λ x H1=>tr Z H1 λ xs H2=>Q (x::xs) H2
section
variable{X:Cx}{e:Expr}{es:List Expr}{te:TE}{t:TA}{pos:Pos}
def cH:PA X [] lq:=λ _ _ _ _ H Q I h=>Calls.spliced_nil ⟨[],H,I,.nil,h⟩
def aV(ha:PE X e te)(hr:PA X es t)(hs:zA5 (e::es) X.env=(false,eval e X.env)::zA5 es X.env:=by rfl):PA X (e::es) (fM te t):=by
 intro pos kX s Z H Q I h;rw[hs];show wpAny _ _ (spliced ((false,eval e X.env)::zCg pos (zA5 es X.env))) _ _ s;refine Calls.spliced_cons (thn (ha kX s Z H _ I h) λ u s1 ⟨x,H1,I1,r1,q1⟩=>?_);exact thn (hr pos kX s1 Z H1 _ I1 q1) λ us s2 ⟨xs,H2,I2,r2,q2⟩=>⟨x::xs,H2,I2,.cons r1 r2,q2⟩
def aOU(t:TA):TE:=λ Z H Q=>t Z H λ xs H1=>xs.length<=zAY/\∀p,H1 p=none->Q (.ref p) (upd H1 p (.tup xs))
def aOZ(t:TA):TE:=λ Z H Q=>t Z H λ xs H1=>xs.length<=zAY/\∀p,H1 p=none->Q (.ref p) (upd H1 p (.lst xs))
def aLq{x1}(h:PA X es t):PE X (.Tuple es x1 pos) (aOU t):=by
 intro kX s Z H Q I hq;refine wpAny_Tuple_spliced (thn (h pos kX s Z H _ I hq) λ us s1 ⟨xs,H1,I1,r,z,q⟩=>⟨by rw[<-r.length];exact z,?_⟩);have hf:H1 s1.heap.objs.size=none:=I1.hok.fresh (zAQ _);refine⟨.ref s1.heap.objs.size,upd H1 s1.heap.objs.size (.tup xs),I1.laid (t':=s1.toks) (λ b u e=>zAC _ e) (zAQ _) ?_,rfl,q _ hf⟩;exact⟨⟨z,NoD.push _⟩,us,r,⟨_,zAS _ rfl,rfl,_,rfl⟩⟩
def aLt(h:PA X es t):PE X (.List es pos) (aOZ t):=by
 intro kX s Z H Q I hq;refine wpAny_List_spliced (thn (h pos kX s Z H _ I hq) λ us s1 ⟨xs,H1,I1,r,z,q⟩=>⟨by rw[<-r.length];exact z,?_⟩);have hf:H1 s1.heap.objs.size=none:=I1.hok.fresh (zAQ _);refine⟨.ref s1.heap.objs.size,upd H1 s1.heap.objs.size (.lst xs),I1.laid (t':=s1.toks) (λ b u e=>zAC _ e) (zAQ _) ?_,rfl,q _ hf⟩;exact⟨z,us,0,r,zAS _ rfl⟩
end
abbrev Sp:=List V->Hp->VK->XK->Prop
abbrev CXT:=List Env->Hp->zAE->XK->Value->zAE->Prop
structure aCS(P:zA3)(w:World)(K:zAA)(mg:Str->Option Value)(base:Heap)(A:zAc)(outer:List Env)(s:zAE)(H:Hp):Prop where
 frames:A.frames=some outer
 mod:Mod K mg base
 bs:∀b o,base.get? b=some o->s.heap.get? b=some o/\H b=none
 bsz:base.objs.size<=s.heap.objs.size
 funs:s.heap.FunFrames base outer
 frf:∀b∈frs outer,H b=none
 hok:HOk P w H s.heap
 bare:zFP s.gens
def CE(outer:List Env)(P:zA3)(w:World)(H:Hp)(s:zAE)(Q:VK)(u:Value)(s':zAE):Prop:=
 ∃v H',s'.os=s.os/\zFP s'.gens/\Un (frs outer) [] H H' s.heap s'.heap/\HOk P w H' s'.heap/\RelV v u/\Q v H'
def CR(CX:CXT)(outer:List Env)(P:zA3)(w:World)(H:Hp)(s:zAE)(Q:VK)(E:XK)(r:zEe)(s':zAE):Prop:=
 match r with
 | .ok (.ret u)=>CE outer P w H s Q u s'
 | .ok _=>False
 | .error e=>CX outer H s E e s'
structure dI(P:zA3)(w:World)(K:zAA)(mg:Str->Option Value)(base:Heap)(CX:CXT)(k:Nat)(f:Addr)(fd:zAq)(ps:List Str)(sp:Sp):Prop where
 len:∀vs H Q E,sp vs H Q E->vs.length=ps.length
 run:∀(A:zAc) (outer:List Env) (s:zAE) (H:Hp) (args:Args) (us:List Value) (vs:List V) (Q:VK) (E:XK),dj k A->aCS P w K mg base A outer s H->zHm s fd args (ps.zip us)->Vals vs us->sp vs H Q E->
  zCF (model P w) A (.call (.ref f) args) (CR CX outer P w H s Q E) s
section
variable{X:Cx}{kX:hZ}{Z:St}{H:Hp}{s s':zAE}
def Inv.env0(I:Inv X kX Z H s):aCS X.prog X.w X.K X.mg X.base X.A X.stack s H:=
 ⟨I.ok.frames,I.ok.mod,I.bs,zAi I.ok.bsz I.sz,I.stack,I.stkFree,I.hok,I.bare⟩
def Inv.after(I:Inv X kX Z H s)(h:CE X.stack X.prog X.w H s Q u s'):EP X kX Z Q u s':=by
 obtain⟨v,H',os,bare,un,hok,r,q⟩:=h;obtain⟨hh,g,d,t,os'⟩:=s';obtain rfl:os'=s.os:=os;exact⟨v,H',I.call (h':=hh) (g':=g) (d':=d) (t':=t) (ch:=[]) un hok bare (λ b z=>absurd z (by simp)),r,q⟩
end
def aAp(sp:Sp)(dvs:List V)(E:XK)(t:TA):TE:=λ Z H Q=>t Z H λ vs H1=>sp (vs++dvs) H1 Q E
def tMeth(C:Addr)(m:Str)(sp:Sp)(dvs:List V)(E:XK)(ta:TE)(t:TA):TE:=λ Z H Q=>ta Z H λ x H1=>∃a dx fs,x= .ref a/\H1 a=some (.ins C dx fs)/\fs.lookup m=none/\
 t Z H1 λ vs H2=>sp (x::(vs++dvs)) H2 Q E
def tMake(C:Addr)(sp:Sp)(dvs:List V)(E:XK)(t:TA):TE:=λ Z H Q=>t Z H λ vs H1=>∀x dx,H1 x=none->H1 dx=none->dx≠x->
 sp (.ref x::(vs++dvs)) (upd (upd H1 dx (.own x)) x (.ins C dx [])) (λ v H2=>v= .non/\Q (.ref x) H2) E
def Binds(K:zAA)(fd:zAq)(ps:List Str)(ds:List Value):Prop:=
 ∀(s:zAE) (us:List Value),K.In s.heap->(us++ds).length=ps.length->zHm s fd ⟨us,[]⟩ (ps.zip (us++ds))
def Binds.all{K:zAA}{fd:zAq}{ps:List Str}(h:∀us:List Value,us.length=ps.length->zJJ fd ⟨us,[]⟩=pure (ps.zip us)):Binds K fd ps []:=λ s us _ hl=>by
 rw[zBD]at hl ⊢;exact .of_eq (h us hl)
def qD(CX:CXT)(X:Cx)(E:XK):Prop:=∀(kX:hZ) (Z:St) (H:Hp) (s:zAE) (e:Value) (s':zAE),Inv X kX Z H s->CX X.stack H s E e s'->X.xe e s'
section
variable{X:Cx}{CX:CXT}{k:Nat}{f:Addr}{fd:zAq}{ps:List Str}{sp:Sp}{dvs:List V}{ds:List Value}{E:XK}{x:Str}{p pos:Pos}{e:Expr}{es:List Expr}{t:TA}
def aG5(F:dI X.prog X.w X.K X.mg X.base CX k f fd ps sp)(hr:dj k X.A)(hb:Binds X.K fd ps ds)(hd:Vals dvs ds)(hx:qD CX X E)
  (I:Inv X kX Z H s)(r:Vals vs us)(h:sp (vs++dvs) H Q E):wpAny (model X.prog X.w) X.A (call (.ref f) us) (EP X kX Z Q) X.xe s:=by
 have r2:Vals (vs++dvs) (us++ds):=r.append hd;have hl:(us++ds).length=ps.length:=by rw[<-r2.length];exact F.len _ _ _ _ h
 refine zHl (zC9 (F.run X.A X.stack s H ⟨us,[]⟩ (us++ds) (vs++dvs) Q E hr I.env0 (hb s us I.kIn hl) r2 h) λ r s' hq=>?_);cases r with
 |error e=>exact hx kX Z H s e s' I hq
 |ok fl=>
  cases fl with
  |ret u=>exact I.after hq
  |next=>exact zAN hq
  |brk=>exact zAN hq
  |cont=>exact zAN hq
def aJU(F:dI X.prog X.w X.K X.mg X.base CX k f fd ps sp)(hr:dj k X.A)(hg:Gl X x)(hm:X.mg x=some (.ref f))(hk:zBm X.K (.ref f)=true)(hb:Binds X.K fd ps ds)(hd:Vals dvs ds)(hx:qD CX X E)
  (ha:PA X (e::es) t)(hdb:Nd x:=by decide)(he:zA5 (e::es) X.env=(false,eval e X.env)::zA5 es X.env:=by rfl)(hpl:(zCg pos (zA5 es X.env)).any (·.1)=false:=by rfl):
  PE X (.Call (.Name x p) (e::es) [] pos) (aAp sp dvs E t):=by
 intro kX s Z H Q I h;refine zCt (oA I hg hm ?_ hdb);refine zFF (h₀:=X.base) I.ok.mod.kin hk (thn (ha pos kX s Z H _ I h) λ us s1 ⟨vs,H1,I1,r,q⟩=>⟨I1.kIn,?_⟩) he hpl;exact aG5 F hr hb hd hx I1 r q
end
structure aY(N P:List Str)(sc:Scope):Prop where
 kind:sc.kind= .function
 co:sc.isCoroutine=false
 gen:sc.isGenerator=false
 nd:N.Nodup
 pre:N.take P.length=P
 par:∀x∈P,sc.names.lookup x=some .local\/sc.names.lookup x=some .cell
 nofree:∀y∈sc.names,y.2≠.free
theorem zF{zDh:Str->Option zEC}{x:Str}:∀{binds:List (Str×Value)} {m:Str->Option Value},(∀v,(x,v)∉binds)->bindL zDh binds m x=m x
 |[],_,_=>rfl
 |(n,v)::r,m,h=>by
  unfold bindL;rw[zF λ w hw=>h w (zAG _ hw)];split
  .have:x≠n:=by rintro rfl;exact h v zAF
   simp[this]
  .rfl
theorem zH{zDh:Str->Option zEC}{x:Str}:∀{binds:List (Str×Value)} {m:Str->Option Value},(∀v,(x,v)∉binds)->bindC zDh binds m x=m x
 |[],_,_=>rfl
 |(n,v)::r,m,h=>by
  unfold bindC;rw[zH λ w hw=>h w (zAG _ hw)];split
  .rfl
  .have:x≠n:=by rintro rfl;exact h v zAF
   simp[this]
theorem zG{zDh:Str->Option zEC}{x:Str}{v:Value}:∀{P:List Str} {vs:List Value} {i:Nat} {m:Str->Option Value},P.Nodup->P[i]? =some x->vs[i]? =some v->zDh x=some .local->
  bindL zDh (P.zip vs) m x=some v
 |[],_,_,_,_,h,_,_=>by simp at h
 |_::_,[],_,_,_,_,h,_=>by simp at h
 |p::P,w::vs,0,m,nd,h1,h2,hk=>by
  simp at h1 h2;subst h1;subst h2;show bindL zDh ((p,w)::P.zip vs) m p=_;unfold bindL;rw[zF λ v hv=>(zAb.mp nd).1 (zCY hv).1,if_pos hk];simp
 |p::P,w::vs,i+1,m,nd,h1,h2,hk=>by
  show bindL zDh ((p,w)::P.zip vs) m x=_;unfold bindL;exact zG (i:=i) (zAb.mp nd).2 (by simpa using h1) (by simpa using h2) hk
theorem zJ{zDh:Str->Option zEC}{x:Str}{v:Value}:∀{P:List Str} {vs:List Value} {i:Nat} {m:Str->Option Value},P.Nodup->P[i]? =some x->vs[i]? =some v->zDh x≠some .local->
  bindC zDh (P.zip vs) m x=some v
 |[],_,_,_,_,h,_,_=>by simp at h
 |_::_,[],_,_,_,_,h,_=>by simp at h
 |p::P,w::vs,0,m,nd,h1,h2,hk=>by
  simp at h1 h2;subst h1;subst h2;show bindC zDh ((p,w)::P.zip vs) m p=_;unfold bindC;rw[zH λ v hv=>(zAb.mp nd).1 (zCY hv).1,if_neg hk];simp
 |p::P,w::vs,i+1,m,nd,h1,h2,hk=>by
  show bindC zDh ((p,w)::P.zip vs) m x=_;unfold bindC;exact zJ (i:=i) (zAb.mp nd).2 (by simpa using h1) (by simpa using h2) hk
def start(N:List Str)(vs:List V):St:=vs.map some++zAJ (N.length-vs.length) none
def uV(CX:CXT)(P:zA3)(w:World)(K:zAA)(mg:Str->Option Value)(base:Heap)(N:List Str)(qual:Str)(scope:Scope)(f:Addr)(cd:Value)(A:zAc)(outer:List Env)(s:zAE)(H:Hp)(E:XK):Cx where
 prog:=P
 w:=w
 K:=K
 mg:=mg
 base:=base
 A:=A.deeper (zDN qual scope s.heap.objs.size f cd)
 N:=N
 z5:=s
 zI:=H
 env:=zDN qual scope s.heap.objs.size f cd
 outer:=outer
 stack:=zDN qual scope s.heap.objs.size f cd::outer
 ex:=[]
 calm:=true
 fn:=λ _=>true
 pn:=[]
 xe:=λ e s'=>wpAny (model P w) (A.deeper (zDN qual scope s.heap.objs.size f cd)) (leaving (zDN qual scope s.heap.objs.size f cd) e) (λ _ s''=>CX outer H s E e s'') (λ e' s''=>CX outer H s E e' s'') s'
def qx{sc:Scope}{n:Nat}{x:Str}(h:sc.names.lookup x=some .cell):∃c,(zDM n sc.names []).lookup x=some c:=by
 have q:=zDT sc.names n [] (.inl h);exact Option.isSome_iff_exists.mp q
def sW{CX:CXT}{P:zA3}{w:World}{K:zAA}{mg:Str->Option Value}{base:Heap}{N ps:List Str}{qual:Str}{scope:Scope}{f:Addr}{cd:Value}{A:zAc}{outer:List Env}{s s1:zAE}{H:Hp}{E:XK}{us:List Value}{vs:List V}
  (S:aY N ps scope)(hd:A.handled=none)(e0:aCS P w K mg base A outer s H)(hl:vs.length=ps.length)(r:Vals vs us)
  (x:InCallC s s.heap.objs.size (bindL (zDN qual scope s.heap.objs.size f cd).kindOf (ps.zip us) λ _=>none) (zDM (s.heap.objs.size+1) scope.names []) (bindC (zDN qual scope s.heap.objs.size f cd).kindOf (ps.zip us) λ _=>none) s1):
  Inv (uV CX P w K mg base N qual scope f cd A outer s H E) [] (start N vs) H s1:=by
 have hpl:ps.length<=N.length:=by have:=congrArg List.length S.pre;rw[zBx]at this;lia
 obtain⟨h1,tk,rfl,hk⟩:=x.done;have noA:∀b:Addr,b∉(uV CX P w K mg base N qual scope f cd A outer s H E).ex:=λ b z=>absurd (show b∈([]:List Addr)from z) (by simp)
 refine⟨⟨e0.mod,S.kind,rfl,rfl,zAQ _,λ y z c h1 h2=>?_,λ y hy=>?_,λ y c _ h=>?_,λ _=>hd,zGv e0.frames,.inr ⟨rfl,rfl⟩,λ b z=>absurd z (noA b),e0.bs,e0.bsz,λ b _ _=>noA b,λ b z=>absurd z (noA b),e0.funs,e0.frf⟩,
  rfl,e0.bare,Un.kept hk,⟨_,x.toInCall.ns,λ i y v h1 h2 h3=>?_⟩,λ y c h=>⟨_,x.cell y c h⟩,e0.hok.fresh (zAQ _),λ y c h=>?_,λ p hp=>absurd (show p∈([]:hZ)from hp) (by simp),e0.hok.kept hk,?_,λ p hp=>absurd (show p∈([]:hZ)from hp) (by simp)⟩
 .exact name_of_addr x.apart (zAm h1) (zAm h2)
 .have hy:scope.names.lookup y=some .cell\/scope.names.lookup y=some .free:=hy
  rcases hy with hy|hy
  .exact qx hy
  .exact absurd rfl (S.nofree _ (zAm hy))
 .exact zB8 (x.above y c (zAm h))
 .have hi:i<vs.length:=by
   unfold start at h2;by_cases hi:i<vs.length
   .exact hi
   .rw[zCu (by simpa using hi)]at h2
    rw[zCC]at h2;split at h2<;>cases h2
  have ha:vs[i]? =some v:=by
   unfold start at h2;rw[zB9 (by simpa using hi),zAW]at h2;cases e:vs[i]? with
   |none=>rw[e]at h2;cases h2
   |some a=>rw[e]at h2;cases h2;rfl
  obtain⟨u,hu,rv⟩:=r.get ha;have hp:ps[i]? =some y:=by
   rw[<-S.pre,List.getElem?_take_of_lt (by lia)];exact h1
  have ndP:ps.Nodup:=by rw[<-S.pre];exact S.nd.sublist (List.take_sublist _ _)
  refine⟨u,rv,?_⟩;rcases S.par y (zBA hp)with k|k
  .exact .inl ⟨k,zG ndP hp hu k⟩
  .obtain⟨c,e⟩:=qx (n:=s.heap.objs.size+1) k
   refine .inr ⟨.inl k,c,e,?_⟩;have q:=x.cell y c e;rw[zJ ndP hp hu (by show scope.names.lookup y≠_;rw[k];decide)]at q;exact q
 .exact e0.hok.fresh (zB8 (x.above y c (zAm h)))
 .unfold start
  show _=N.length;rw[zAZ,zAD,zBb];lia
def aOB{CX:CXT}{P:zA3}{w:World}{K:zAA}{mg:Str->Option Value}{base:Heap}{k:Nat}{f:Addr}{name qual:Str}{params:zD3}{body:List Stmt}{scope:Scope}{dV kV doc pm cdv ct oc:Value}{an od:Option Addr}
  {osl:Array (Option Value)}{N ps:List Str}{sp:Sp}(lk:K.lookup f=some ⟨oc,od,.func (zBq name qual params body scope dV kV doc pm an cdv ct),osl⟩)(hcd:zDX K cdv qual=true)(S:aY N ps scope)
  (len:∀vs H Q E,sp vs H Q E->vs.length=ps.length)
  (hbody:∀(A:zAc) (outer:List Env) (s:zAE) (H:Hp) (vs:List V) (Q:VK) (E:XK),dj k (A.deeper (zDN qual scope s.heap.objs.size f cdv))->sp vs H Q E->
   ∃t,PSs (uV CX P w K mg base N qual scope f cdv A outer s H E) body t/\t {nx:=λ _ H'=>Q .non H',rt:=Q} (start N vs) H):
  dI P w K mg base CX (k+1) f (zBq name qual params body scope dV kV doc pm an cdv ct) ps sp:=by
 refine⟨len,λ A outer s H args us vs Q E hr e0 hb r hsp=>?_⟩;have hl:=len _ _ _ _ hsp;have KX:K.In s.heap:=e0.mod.kin.keeps λ b o e=>(e0.bs b o e).1
 have lim:s.heap.NoLimit:=e0.mod.nolimit.keeps λ b o e=>(e0.bs b o e).1
 have dP:∀y∈ps.zip us,scope.names.lookup y.1=some .local\/(scope.names.lookup y.1=some .cell/\((zDM (s.heap.objs.size+1) scope.names []).lookup y.1).isSome=true):=λ⟨n,v⟩ hy=>by
  rcases S.par n (zCY hy).1 with q|q
  .exact .inl q
  .exact .inr ⟨q,zDT _ _ _ (.inl q)⟩
 refine zFS hr.depth (KX _ _ lk) rfl S.co S.gen rfl (zFG KX hcd) (hb _ _ _ _ ?_);refine zEZ S.kind dP λ env he s1 x=>?_
 subst he;refine⟨lim.keeps x.toInCall.keep,zIf ?_⟩;obtain⟨t,ht,hq⟩:=hbody A outer s H vs Q E (hr.deeper _) hsp;have I:Inv (uV CX P w K mg base N qual scope f cdv A outer s H E) [] (start N vs) H s1:=sW S hr.hd e0 hl r x;refine zAw (ht [] s1 (start N vs) H _ I hq) (λ fl s' hs=>?_) λ e s' hs=>hs
 have fin:∀{Z':St} {H':Hp} {v:V} {u:Value},Inv (uV CX P w K mg base N qual scope f cdv A outer s H E) [] Z' H' s'->RelV v u->Q v H'->CE outer P w H s Q u s':=
  λ{Z' H' v u} J rv q=>⟨v,H',J.os,J.bare,J.base,J.hok,rv,q⟩
 cases fl with
 |ret u=>
  obtain⟨v,Z',H',J,rv,q⟩:=hs;exact fin J rv q
 |next=>
  obtain⟨Z',H',J,q⟩:=hs;exact fin (v:=V.non) (u:=zBn) J rfl q
 |brk=>
  obtain⟨_,_,_,q⟩:=hs;exact zAN q
 |cont=>
  obtain⟨_,_,_,q⟩:=hs;exact zAN q
section
variable{X:Cx}{x:Str}{p pos:Pos}{e:Expr}{es:List Expr}{t:TA}{id T:String}{r:List V->Hp->VK->Prop}
def tCB(r:List V->Hp->VK->Prop)(t:TA):TE:=λ Z H Q=>t Z H λ vs H1=>r vs H1 Q
def jo(hc:cg X (.builtin id) r)(hg:Gl X x)(hm:X.mg x=none)(hv:zBC x=some (.builtin id))(ha:PA X (e::es) t)(hn:x≠"__name__":=by decide)(hdb:Nd x:=by decide)
  (he:zA5 (e::es) X.env=(false,eval e X.env)::zA5 es X.env:=by rfl)(hpl:(zCg pos (zA5 es X.env)).any (·.1)=false:=by rfl):PE X (.Call (.Name x p) (e::es) [] pos) (tCB r t):=by
 intro kX s Z H Q I h;refine zCt (wJ I hg hm hv ?_ hn hdb);exact PyProof.Rows.callWith_builtin1 (thn (ha pos kX s Z H _ I h) λ us s1 ⟨vs,H1,I1,r1,q1⟩=>hc kX s1 Z H1 vs us Q I1 r1 q1) he hpl
def gD(hc:cg X (.type T) r)(hg:Gl X x)(hm:X.mg x=none)(hv:zBC x=some (.type T))(ha:PA X (e::es) t)(hn:x≠"__name__":=by decide)(hdb:Nd x:=by decide)
  (he:zA5 (e::es) X.env=(false,eval e X.env)::zA5 es X.env:=by rfl)(hpl:(zCg pos (zA5 es X.env)).any (·.1)=false:=by rfl):PE X (.Call (.Name x p) (e::es) [] pos) (tCB r t):=by
 intro kX s Z H Q I h;refine zCt (wJ I hg hm hv ?_ hn hdb);exact zD2 (thn (ha pos kX s Z H _ I h) λ us s1 ⟨vs,H1,I1,r1,q1⟩=>hc kX s1 Z H1 vs us Q I1 r1 q1) he hpl
end
end L2
namespace HT
open PySem PyProof.Rows
def lexLt:List Int->List Int->Bool
 |[],[]=>false
 |[],_::_=>true
 |_::_,[]=>false
 |x::xs,y::ys=>if x=y then lexLt xs ys else decide (x<y)
def iz(x y:Int)(xs ys:List Int):lexLt (x::xs) (y::ys)=if x=y then lexLt xs ys else decide (x<y):=rfl
def xx:lexLt [] []=false:=rfl
def wH(y:Int)(ys:List Int):lexLt [] (y::ys)=true:=rfl
def wI(x:Int)(xs:List Int):lexLt (x::xs) []=false:=rfl
def aBp(A:zAc)(s:zAE)(a:Int)(t:Tok)(c:Int)(u:Tok):∃e,zCm A s (.int a t) (.int c u) e/\(e=true↔a=c):=
 ⟨(a==c),zGi a t c u,by simp⟩
def aGe(A:zAc)(s:zAE)(a:Int)(t:Tok)(c:Int)(u:Tok)(prog:zA3)(w:World)(E:Value->zAE->Prop)(Q:Value->zAE->Prop)(h:Q (.bool (decide (a<c))) s):
  wpAny (model prog w) A (zEv .Lt (.int a t) (.int c u)) Q E s:=
 (zGM h:wpAny (model prog w) A (zBH .Lt (.int a t) (.int c u)) Q E s)
section
open PySem.SeqAt
open PySem.AutoSeq1(wpAny_loadPart')
open PySem.MeetsSeq PySem.MeetsSeq2 PySem.MeetsSeq3
def xY(l b:Addr)(items items2:Array Value)(n n2:Nat)(dd dd2:Option Addr)(sl sl2:Array (Option Value))(ns ms:List Int)(hi:zBV items.toList ns)(hj:zBV items2.toList ms):
  Meets (zD4.«tuple.__lt__» ⟨[.ref l,.ref b],[]⟩)
   (λ _ R s=>s.heap.get? l=some {cls:=.type "tuple",dict:=dd,data:=.seq items n,slots:=sl}/\s.heap.get? b=some {cls:=.type "tuple",dict:=dd2,data:=.seq items2 n2,slots:=sl2}/\
    R (.ok (.ret (.bool (lexLt ns ms)))) s):=
 .of_wp λ prog w A R s h=>by
  obtain⟨hp,g,d,tk,os⟩:=s;obtain⟨hl,hb,h⟩:=h;have f2:=zFy;have z1:items.size=ns.length:=by rw[<-hi.length];simp
  have z2:items2.size=ms.length:=by rw[<-hj.length];simp
  wp_walk using zEN hl,zEN hb,zDw _ (λ rest b s'=>b.1=none/\s'=⟨hp,g,d,tk,os⟩/\∃(vs ws:List Value) (ns' ms':List Int),rest=vs.zip ws/\
   zBV vs ns'/\zBV ws ms'/\ns'.length+items2.size=ms'.length+items.size/\R (.ok (.ret (.bool (lexLt ns' ms')))) ⟨hp,g,d,tk,os⟩) _
  case turn=>
   rintro⟨y,x⟩ rest b s' ⟨hb',rfl,vs,ws,ns',ms',hz,hvi,hwi,kK,hR⟩;cases hvi with
   |nil=>rw[zIP]at hz;cases hz
   |cons a t hvi'=>
    cases hwi with
    |nil=>rw[zHr]at hz;cases hz
    |cons c u hwi'=>
     rw[zBB]at hz;injection hz with hyx bE
     injection hyx with hy hx
     subst hy hx;rw[iz]at hR;simp only[zAO]at kK;obtain⟨e,he,hiff⟩:=aBp A.in1 ⟨hp,g,d,tk,os⟩ a t c u;refine zAB (he prog w _ _ ?_);cases e with
     |true=>
      rw[if_pos (hiff.mp rfl)]at hR;wp_walk;exact⟨rfl,rfl,_,_,_,_,bE,hvi',hwi',by lia,hR⟩
     |false=>
      rw[if_neg (λ q=>absurd (hiff.mpr q) zA8)]at hR;have hri:=aGe A.in1 ⟨hp,g,d,tk,os⟩ a t c u prog w;wp_walk using hri;exact⟨_,rfl,by simpa using hR⟩
  case fin=>
   rintro⟨b1,b2⟩ s' ⟨hb',rfl,vs,ws,ns',ms',hz,hvi,hwi,kK,hR⟩;simp only at hb';subst hb';have hv:lexLt ns' ms'=decide (items.size<items2.size):=by
    cases hvi with
    |nil=>
     cases hwi with
     |nil=>
      simp only[zCJ]at kK;rw[xx];exact(decide_eq_false (by lia)).symm
     |cons c u hw=>
      simp only[zCJ,zAO]at kK;rw[wH];exact(decide_eq_true (by lia)).symm
    |cons a t hv=>
     cases hwi with
     |nil=>
      simp only[zCJ,zAO]at kK;rw[wI];exact(decide_eq_false (by lia)).symm
     |cons c u hw=>
      rw[zBB]at hz;cases hz
   rw[hv]at hR;wp_walk;exact⟨_,rfl,by simpa[zEa]using hR⟩
  case h=>
   exact⟨rfl,rfl,items.toList,items2.toList,ns,ms,rfl,hi,hj,by lia,h⟩
end
section
variable{prog:zA3}{w:World}{A:zAc}{E:Value->zAE->Prop}{s:zAE}
def wB(hl:IsTup s.heap l items)(hb:IsTup s.heap b items2)(hi:zBV items.toList ns)(hj:zBV items2.toList ms)
  (hu:A.units<cLine)(h:Q (.bool (lexLt ns ms)) s):wpAny (model prog w) A (zBH .Lt (.ref l) (.ref b)) Q E s:=by
 obtain⟨⟨cls,dd,data,sl⟩,ho,hc,n,hd⟩:=id hl;obtain⟨⟨cls2,dd2,data2,sl2⟩,ho2,hc2,n2,hd2⟩:=id hb;simp only at hc hd hc2 hd2;subst hc hd hc2 hd2;exact zIZ (op:=.Lt) ⟨_,ho,rfl⟩ ⟨_,ho2,rfl⟩ PySem.F.slot_tuple_lt PySem.F.entry_tuple_lt (PySem.F.args_tuple_lt_2 _ _) (xY l b items items2 n n2 dd dd2 sl sl2 ns ms hi hj)
  ⟨ho,ho2,show zCn (lexLt ns ms)≠zEt/\Q (.bool (lexLt ns ms)) s from⟨(λ x=>nomatch x),h⟩⟩ hu
def aKT(ht:IsTup s.heap t vs.toArray)(hb:IsTup s.heap b ws.toArray)(hv:vs≠[])
  (h1:ws=[]->Q (.ref t) s)(h2:ws≠[]->Q (.ref s.heap.objs.size) {s with heap:=s.heap.push {cls:=.type "tuple",data:=.seq (vs++ws).toArray}})
  (hsz:vs.length+ws.length<=zAY):wpAny (model prog w) A (zBv .Add (.ref t) (.ref b)) Q E s:=by
 obtain⟨⟨cls,dd,data,sl⟩,ho,hc,n,hd⟩:=id ht;obtain⟨⟨cls2,dd2,data2,sl2⟩,ho2,hc2,n2,hd2⟩:=id hb;simp only at hc hd hc2 hd2;subst hc hd hc2 hd2;have e:vs.toArray++ws.toArray=(vs++ws).toArray:=by simp
 by_cases hw:ws=[]
 .exact zIg ⟨_,ho,rfl⟩ ⟨_,ho2,rfl⟩ zGm zIA zEX zEI (zED _ _)
   (tuple_addW1 t b vs.toArray ws.toArray n n2 dd dd2 sl sl2 (by simpa using hv) (by simp[hw])) ⟨ho,ho2,h1 hw⟩
 .refine zIg ⟨_,ho,rfl⟩ ⟨_,ho2,rfl⟩ zGm zIA zEX zEI (zED _ _)
   (tuple_addW2 t b vs.toArray ws.toArray n n2 dd dd2 sl sl2 (by simpa using hv) (by simpa using hw) (by rw[zAX,zAX];exact hsz)) ⟨ho,ho2,?_⟩
  rw[e];exact h2 hw
end
end HT
namespace L2
open PySem PySem.Spec PyProof.Rows
abbrev TO:=St->Hp->(Option Int->Hp->Prop)->Prop
def intsAre_of:∀{us:List Value},Vals (ns.map V.int) us->zBV us ns:=by
 induction ns with
 |nil=>intro us r;rw[zFh]at r;cases r;exact .nil
 |cons n ns ih=>
  intro us r;rw[zAM]at r;cases r with
  |cons r1 r2=>
   obtain⟨t,e⟩:=r1;subst e;exact .cons n t (ih r2)
section
variable{X:Cx}{p2:Pos}
def aJA(K:zAA):R2:=λ x y H Q=>∃a b ns ms,x= .ref a/\y= .ref b/\SqT K H a (ns.map V.int)/\SqT K H b (ms.map V.int)/\Q (.bl (HT.lexLt ns ms)) H
def aMK(hu:X.A.units<cLine):OpR X (zBH .Lt) (aJA X.K):=by
 intro kX s Z H x y v u Q I rx ry h;obtain⟨a,b,ns,ms,rfl,rfl,ha,hb,q⟩:=h;cases rx;cases ry;obtain⟨its,r1,p1,_⟩:=I.tuple ha;obtain⟨its2,r2,p2,_⟩:=I.tuple hb;have i1:zBV its.toArray.toList ns:=intsAre_of r1;have i2:zBV its2.toArray.toList ms:=intsAre_of r2;exact HT.wB p1 p2 i1 i2 hu ⟨.bl (HT.lexLt ns ms),H,I,rfl,q⟩
def aNg(K:zAA):R2:=λ x y H Q=>∃a b xs ys,x= .ref a/\y= .ref b/\SqT K H a xs/\SqT K H b ys/\xs≠[]/\xs.length+ys.length<=zAY/\
 (ys=[]->Q (.ref a) H)/\(ys≠[]->∀p,H p=none->Q (.ref p) (upd H p (.tup (xs++ys))))
def Vals.nil_iff(r:Vals xs us):us=[]↔xs=[]:=by
 cases r with
 |nil=>simp
 |cons _ _=>simp
def aJ5:OpR X (zBv .Add) (aNg X.K):=by
 intro kX s Z H x y v u Q I rx ry h;obtain⟨a,b,xs,ys,rfl,rfl,ha,hb,hx,hz,q1,q2⟩:=h;cases rx;cases ry;obtain⟨its,r1,p1,_⟩:=I.tuple ha;obtain⟨its2,r2,p2,_⟩:=I.tuple hb;refine HT.aKT p1 p2 (λ z=>hx (r1.nil_iff.mp z)) (λ z=>⟨.ref a,H,I,rfl,q1 (r2.nil_iff.mp z)⟩) (λ z=>?_) (by rw[<-r1.length,<-r2.length];exact hz);refine⟨.ref s.heap.objs.size,_,I.laid (t':=s.toks) (o:=.tup (xs++ys)) (λ b ob q=>zAC _ q) (zAQ _) ?_,rfl,q2 (λ w=>z (r2.nil_iff.mpr w)) _ (I.hok.fresh (zAQ _))⟩;exact⟨⟨by rw[zAZ];exact hz,NoD.push _⟩,_,r1.append r2,zGB _ _⟩
end
def ixN(n:Nat)(i:Int):Option Nat:=if 0<=i then(if i<n then some i.toNat else none)else if -(n:Int)<=i then some (i+n).toNat else none
def atI{α:Type}(xs:List α)(i:Int):Option α:=(ixN xs.length i).bind λ j=>xs[j]?
def aJk(h:ixN n i=some j):seqIndex? i n=some j/\j<n/\-(n:Int)<=i/\i<n:=by
 unfold ixN at h;by_cases h0:0<=i
 .rw[if_pos h0]at h
  by_cases h1:i<n
  .rw[if_pos h1]at h
   have e:i.toNat=j:=zAl h;exact⟨by rw[seqIndex_of h0 h1,e],by lia,by lia,h1⟩
  .rw[if_neg h1]at h;cases h
 .rw[if_neg h0]at h
  by_cases h1: -(n:Int)<=i
  .rw[if_pos h1]at h
   have e:(i+n).toNat=j:=zAl h;exact⟨by rw[seqIndex_neg (by lia) h1,e],by lia,h1,by lia⟩
  .rw[if_neg h1]at h;cases h
def aAe(h:atI xs i=some v):∃j,seqIndex? i xs.length=some j/\xs[j]? =some v/\j<xs.length/\-(xs.length:Int)<=i/\i<xs.length:=by
 unfold atI at h;cases e:ixN xs.length i with
 |none=>rw[e]at h;cases h
 |some j=>
  rw[e]at h;obtain⟨h1,h2,h3,h4⟩:=aJk e;exact⟨j,h1,h,h2,h3,h4⟩
def vA(b:Expr):Prop:=∀o i,zHD b false o i=operate [o,i] (zHy o i)
def IxR(X:Cx)(r:R2):Prop:=
 ∀(value slice:Expr) (kX:hZ) (s:zAE) (Z:St) (H:Hp) (x y:V) (v u:Value) (Q:VK),Inv X kX Z H s->RelV x v->RelV y u->r x y H Q->
  zHD slice false v u=operate [v,u] (zHy v u)->wpAny (model X.prog X.w) X.A (zIB value slice v u) (EP X kX Z Q) X.xe s
def MtR(X:Cx)(id:String)(r:V->List V->Hp->VK->Prop):Prop:=
 ∀(kX:hZ) (s:zAE) (Z:St) (H:Hp) (x:V) (xs:List V) (v:Value) (us:List Value) (Q:VK),Inv X kX Z H s->RelV x v->Vals xs us->r x xs H Q->
  wpAny (model X.prog X.w) X.A (call (.builtin id) (v::us)) (EP X kX Z Q) X.xe s
section
variable{X:Cx}{a b:Expr}{ta tb:TE}{pos:Pos}
def IxR.or(h:IxR X r)(h':IxR X r'):IxR X (λ x y H Q=>r x y H Q\/r' x y H Q):=by
 intro value slice kX s Z H x y v u Q I rx ry q hs;rcases q with q|q
 .exact h value slice kX s Z H x y v u Q I rx ry q hs
 .exact h' value slice kX s Z H x y v u Q I rx ry q hs
def aHD{r:R2}(hr:IxR X r)(ha:PE X a ta)(hb:PE X b tb)(hs:vA b):PE X (.Subscript a b pos) (tOp r ta tb):=by
 intro kX s Z H Q I h;exact zJ1 (aNC ha hb I h λ v u s2 x y H2 I2 rx ry q=>hr a b kX s2 Z H2 x y v u Q I2 rx ry q (hs _ _))
def aLh(K:zAA):R2:=λ x y H Q=>∃p xs i v,x= .ref p/\y= .int i/\SqL K H p xs/\atI xs i=some v/\Q v H
def aNe(K:zAA):R2:=λ x y H Q=>∃p xs i v,x= .ref p/\y= .int i/\SqT K H p xs/\atI xs i=some v/\Q v H
def aNf:R2:=λ x y H Q=>∃z i c,x= .str z/\y= .int i/\z.length<=zAY/\atI z.cps.toList i=some c/\Q (.str ⟨#[c]⟩) H
def aAT:IxR X (aLh X.K):=by
 intro value slice kX s Z H x y v u Q I rx ry h hs;obtain⟨p,xs,i,z,rfl,rfl,hq,he,q⟩:=h;cases rx;obtain⟨t,rfl⟩:=ry;obtain⟨its,r,pl,hz⟩:=I.list hq;obtain⟨j,h1,h2,h3,h4,h5⟩:=aAe he;obtain⟨w,ew,rw'⟩:=r.get h2;have hl:=r.length;have hn:=wG;have fin:EP X kX Z Q w s:=⟨z,H,I,rw',q⟩;by_cases h0:0<=i
 .have hj:i.toNat=j:=by
   rw[seqIndex_of h0 h5]at h1;exact zAl h1
  exact item_listR pl.isList h0 (by lia) (by rw[hj];simpa using ew) fin hs
 .have hj:(i+(its.toArray.size:Int)).toNat=j:=by
   rw[seqIndex_neg (by lia) h4]at h1;rw[zAX,<-hl];exact zAl h1
  exact zI0 (x:=w) pl.isList.typeIs slot_list_getitem.lookup
   (wpAny_getItem_list_neg (Q:=λ r s'=>r=w/\EP X kX Z Q r s') pl.isList (by lia) (by rw[zAX]<;>lia) (by lia) (by rw[hj];simpa using ew) ⟨rfl,fin⟩) hs
def aM9:IxR X (aNe X.K):=by
 intro value slice kX s Z H x y v u Q I rx ry h hs;obtain⟨p,xs,i,z,rfl,rfl,hq,he,q⟩:=h;cases rx;obtain⟨t,rfl⟩:=ry;obtain⟨its,r,pl,hz⟩:=I.tuple hq;obtain⟨j,h1,h2,h3,h4,h5⟩:=aAe he;obtain⟨w,ew,rw'⟩:=r.get h2;have hl:=r.length;have hn:=wG;have fin:EP X kX Z Q w s:=⟨z,H,I,rw',q⟩;exact zI0 (x:=w) pl.typeIs slot_tuple_getitem.lookup
  (getItem_tuple (j:=j) (Q:=λ r s'=>r=w/\EP X kX Z Q r s') pl (by lia) (by lia) (by rw[zAX,<-hl];exact h1) (by simpa using ew) ⟨rfl,fin⟩) hs
def aMa:IxR X aNf:=by
 intro value slice kX s Z H x y v u Q I rx ry h hs;obtain⟨z,i,c,rfl,rfl,hz,he,q⟩:=h;obtain⟨t,rfl⟩:=rx;obtain⟨t',rfl⟩:=ry;obtain⟨j,h1,h2,h3,h4,h5⟩:=aAe he;have hl:z.cps.toList.length=z.length:=by simp[Str.length]
 rw[hl]at h1 h4 h5;have hn:=wG;exact tail_any (typeIs_str s z t) slot_str_getitem.lookup (getItem_str (c:=c) (by
  have e1:decide (i < -(2^63:Int))=false:=decide_eq_false (by lia);have e2:decide (i ≥ 2^63)=false:=decide_eq_false (by lia);rw[e1,e2,Bool.or_false]) (by rw[h1];simpa using h2) ⟨.str ⟨#[c]⟩,H,I.tok _,⟨_,rfl⟩,q⟩) hs
def rIx(K:zAA):R2:=λ x y H Q=>aLh K x y H Q\/aNe K x y H Q\/aNf x y H Q
def aMb:IxR X (rIx X.K):=aAT.or (aM9.or aMa)
def aAb:cg X (.builtin "len") (λ xs H Q=>∃p ys,xs=[.ref p]/\(SqL X.K H p ys\/SqT X.K H p ys)/\Q (.int ys.length) H):=by
 intro kX s Z H xs us Q I r h;obtain⟨p,ys,rfl,hq,q⟩:=h;obtain⟨u,rfl,rx⟩:=vals1 r;cases rx;have hn:=wG;rcases hq with hq|hq
 .obtain⟨its,r',pl,hz⟩:=I.list hq
  have kK:=r'.length;exact Calls.call_len_list pl.isList (by simp only[zAX]<;>lia) ⟨.int ys.length,H,I.tok _,⟨s.toks+1,by rw[zAX,kK]⟩,q⟩
 .obtain⟨its,r',pl,hz⟩:=I.tuple hq
  have kK:=r'.length;exact len_tuple pl (by simp only[zAX]<;>lia) ⟨.int ys.length,H,I.tok _,⟨s.toks+1,by rw[zAX,kK]⟩,q⟩
def cg.or(h:cg X f r)(h':cg X f r'):cg X f (λ xs H Q=>r xs H Q\/r' xs H Q):=by
 intro kX s Z H xs us Q I rs q;rcases q with q|q
 .exact h kX s Z H xs us Q I rs q
 .exact h' kX s Z H xs us Q I rs q
def yF:cg X (.type "tuple") (λ xs H Q=>∃p ys,xs=[.ref p]/\((SqL X.K H p ys/\∀l,H l=none->Q (.ref l) (upd H l (.tup ys)))\/(SqT X.K H p ys/\Q (.ref p) H))):=by
 intro kX s Z H xs us Q I r h;obtain⟨p,ys,rfl,h⟩:=h;obtain⟨u,rfl,rx⟩:=vals1 r;cases rx;rcases h with ⟨hq,q⟩|⟨hq,q⟩
 .obtain⟨its,r',pl,hz⟩:=I.list hq
  have kK:=r'.length;refine call_tuple_list pl.isList (λ h' kp=>?_) (by simp only[zAX]<;>lia);have I1:Inv X kX Z H {s with heap:=h'}:=I.kept (t':=s.toks) kp;have I2:Inv X kX Z (upd H h'.objs.size (.tup ys)) {s with heap:=h'.push {cls:=.type "tuple",data:=.seq its.toArray}}:=
   I1.laid (t':=s.toks) (λ b o e=>zAC _ e) (zAQ _) (show cP X.prog X.w _ _ _ (.tup ys)from⟨⟨hz,NoD.push _⟩,its,r',zGB _ _⟩)
  exact⟨.ref h'.objs.size,_,I2,rfl,q _ (I1.hok.fresh (zAQ _))⟩
 .obtain⟨its,r',pl,hz⟩:=I.tuple hq
  exact call_tuple_same pl ⟨.ref p,H,I,rfl,q⟩
def tyV(K:zAA)(T:String)(x:V)(H:Hp):Prop:=match x with
 | .str _=>T="str"
 | .int _=>T="int"
 | .ref p=>(T="list"/\∃xs,SqL K H p xs)\/(T="tuple"/\∃o,K.lookup p=some o/\o.cls= .type "tuple"/\o.dict=none)\/
   (T="dict"/\((∃kvs,H p=some (.dK kvs))\/∃kvs,H p=some (.dT kvs)))\/(T="set"/\∃S n,H p=some (.set S n))
 |_=>False
def aGB(I:Inv X kX Z H s)(r:RelV x v)(ty:tyV X.K T x H):
  s.TypeIs v T/\∀a,v= .ref a->∃ob,s.heap.get? a=some ob/\ob.dict=none:=by
 cases x with
 |str z=>
  obtain⟨t,rfl⟩:=r;cases (show T="str" from ty);exact⟨typeIs_str s z t,λ _ e=>nomatch e⟩
 |int i=>
  obtain⟨t,rfl⟩:=r;cases (show T="int" from ty);exact⟨zDi s i t,λ _ e=>nomatch e⟩
 |ref p=>
  cases r;rcases ty with ⟨rfl,xs,hq⟩|⟨rfl,o,hk,hc,hd⟩|⟨rfl,hk⟩|⟨rfl,S,n,hk⟩
  .obtain⟨its,_,pl,_⟩:=I.list hq
   refine⟨pl.isList.typeIs,λ a e=>?_⟩;cases e;obtain⟨o,n,e,c,hd,_⟩:=pl;exact⟨o,e,hd⟩
  .refine⟨⟨o,I.kIn p o hk,hc⟩,λ a e=>?_⟩
   cases e;exact⟨o,I.kIn _ o hk,hd⟩
  .have z:∃o,s.heap.get? p=some o/\o.ExactDict:=by
    rcases hk with ⟨kvs,hk⟩|⟨kvs,hk⟩
    .obtain⟨_,_,_,_,o,_,_,e,ex,_⟩:=I.hok p _ hk
     exact⟨o,e,ex⟩
    .obtain⟨_,_,_,_,o,_,_,e,ex,_⟩:=I.hok p _ hk
     exact⟨o,e,ex⟩
   obtain⟨o,e,ex⟩:=z;refine⟨⟨o,e,ex.1⟩,λ a e2=>?_⟩;cases e2;exact⟨o,e,ex.2.1⟩
  .obtain⟨o,_,_,_,e,ex,_⟩:=I.hok p _ hk
   refine⟨⟨o,e,ex.1⟩,λ a e2=>?_⟩;cases e2;exact⟨o,e,ex.2.1⟩
 |_=>exact zAN ty
def aNZ(K:zAA)(T:String)(r:V->List V->Hp->VK->Prop)(to:TE):TE:=λ Z H Q=>to Z H λ x H1=>tyV K T x H1/\r x [] H1 Q
def tBM(K:zAA)(T:String)(r:V->List V->Hp->VK->Prop)(to:TE)(t:TA):TE:=λ Z H Q=>to Z H λ x H1=>tyV K T x H1/\t Z H1 λ xs H2=>r x xs H2 Q
variable{o e:Expr}{es:List Expr}{to:TE}{t:TA}{name:Str}{apos cpos:Pos}{T id:String}{r:V->List V->Hp->VK->Prop}
def aLv(pa:PlainAttrs T)(slot:Slot T name id)(hty:typeOf (.builtin id)=pure (.type "method_descriptor"))(hm:MtR X id r)(ho:PE X o to)
  (hbase:zD6 o name X.env (eval o X.env)=eval o X.env:=by rfl)(hline:(apos.endLine==cpos.line)=true:=by rfl):PE X (.Call (.Attribute o name apos) [] [] cpos) (aNZ X.K T r to):=by
 intro kX s Z H Q I h;refine wpAny_Call_method0_late hbase hline (thn (ho kX s Z H _ I h) λ v s1 ⟨x,H1,I1,r1,ty,q1⟩=>?_);obtain⟨h1,h2⟩:=aGB I1 r1 ty;exact⟨T,id,pa,slot,hty,h1,h2,zGp rfl (PySem.evalArgs_none (hm kX s1 Z H1 x [] v [] Q I1 r1 .nil q1))⟩
def yV(pa:PlainAttrs T)(slot:Slot T name id)(hty:typeOf (.builtin id)=pure (.type "method_descriptor"))(hm:MtR X id r)(ho:PE X o to)(ha:PA X (e::es) t)
  (hbase:zD6 o name X.env (eval o X.env)=eval o X.env:=by rfl)
  (hfew:((zCg cpos (zA5 (e::es) X.env)).all (λ x=>!x.1)&&(zGE cpos (zEL [] X.env)).all (λ x=>x.1.isSome)
   &&decide ((e::es).length+([]:List zDF).length+(if ([]:List zDF).isEmpty then 0 else 1)<30))=true:=by rfl)
  (hline:(apos.endLine==cpos.line)=true:=by rfl)(hs:zA5 (e::es) X.env=(false,eval e X.env)::zA5 es X.env:=by rfl)(hplain:(zCg cpos (zA5 es X.env)).any (·.1)=false:=by rfl):
  PE X (.Call (.Attribute o name apos) (e::es) [] cpos) (tBM X.K T r to t):=by
 intro kX s Z H Q I h;refine wpAny_Call_method_late hbase hfew hline rfl (thn (ho kX s Z H _ I h) λ v s1 ⟨x,H1,I1,r1,ty,q1⟩=>?_);obtain⟨h1,h2⟩:=aGB I1 r1 ty;refine⟨T,id,pa,slot,hty,h1,h2,?_⟩;have hA:=ha cpos kX s1 Z H1 _ I1 q1;rw[hs]at hA ⊢;refine zGp (by show(false||(zCg cpos (zA5 es X.env)).any (·.1))=false;rw[hplain]<;>rfl) (zHL ?_);exact thn hA λ us s2 ⟨vs,H2,I2,r2,q2⟩=>hm kX s2 Z H2 x vs v us Q I2 r1 r2 q2
end
def MtM(X:Cx)(id:String)(r:V->List V->Hp->VK->Prop):Prop:=
 ∀(kX:hZ) (s:zAE) (Z:St) (H:Hp) (x:V) (xs:List V) (v:Value) (us:List Value) (Q:VK),Inv X kX Z H s->RelV x v->Vals xs us->r x xs H Q->
  wpAny (model X.prog X.w) X.A (call (.builtin id) (v::us)) (EP X kX Z Q) X.xe s
def Vals.one:∀{x:V} {us:List Value},Vals [x] us->∃u,us=[u]/\RelV x u
 |_,_,.cons r .nil=>⟨_,rfl,r⟩
theorem Vals.reverse(h:Vals xs us):Vals xs.reverse us.reverse:=by
 induction h with
 |nil=>exact .nil
 |cons r t ih=>rw[zD1,zD1];exact Vals.append ih (.cons r .nil)
theorem Vals.rep(h:Vals xs us):∀k:Nat,Vals (zAJ k xs).flatten (zAJ k us).flatten
 |0=>.nil
 |k+1=>by
  rw[zBp,zBp,zCq,zCq];exact Vals.append h (Vals.rep h k)
theorem foldl_rep(its:List Value):∀(k:Nat) (acc:List Value),
  zGc (λ x1 x2=>x1++x2) acc.toArray (zAJ k its.toArray)=(acc++(zAJ k its).flatten).toArray
 |0,acc=>by simp
 |k+1,acc=>by
  have e:acc.toArray++its.toArray=(acc++its).toArray:=by simp
  have e2:(acc++its)++(zAJ k its).flatten=acc++(zAJ (k+1) its).flatten:=by
   rw[zBp,zCq,zCG]
  rw[<-e2,<-foldl_rep its k (acc++its),<-e,zBp,zBI]
section
variable{X:Cx}{kX:hZ}{Z:St}{H:Hp}{s:zAE}{l:Addr}{xs ys:List V}
def Inv.lset{its its':List Value}{n:Nat}{f:Array Value->Array Value}{t':Nat}(I:Inv X kX Z H s)(hH:H l=some (.lst xs))
  (e:s.heap.get? l=some {cls:=.type "list",data:=.seq its.toArray n})(hf:f its.toArray=its'.toArray)(hv:Vals ys its')(hz:ys.length<=zAY):
  Inv X kX Z (upd H l (.lst ys)) {s with heap:=s.heap.update l (zDK f),toks:=t'}:=by
 have q:=PySem.IsL.update e f;rw[hf]at q;refine I.write (x:=l) (e:=l) (by rw[hH];exact trivial) (.inl rfl) (λ b' u hb hu=>(zCK s.heap (zDK f) (zCy hb)).trans hu) ⟨_,q⟩ ?_;exact⟨hz,its',_,hv,q⟩
def Inv.lnew(I:Inv X kX Z H s)(hv:Vals ys its)(hz:ys.length<=zAY):
  Inv X kX Z (upd H s.heap.objs.size (.lst ys)) {s with heap:=s.heap.push {cls:=.type "list",data:=.seq its.toArray},toks:=t'}:=
 I.laid (λ _ _ q=>zAC _ q) (zAQ _) ⟨hz,its,0,hv,zAS _ rfl⟩
theorem Inv.fresh(I:Inv X kX Z H s):H s.heap.objs.size=none:=I.hok.fresh (zAQ _)
def Inv.lstM(I:Inv X kX Z H s)(hH:H l=some (.lst xs)):xs.length<=zAY/\∃(its:List Value) (n:Nat),Vals xs its/\xs.length=its.length/\s.heap.get? l=some {cls:=.type "list",data:=.seq its.toArray n}:=by
 obtain⟨z,its,n,r,e⟩:=I.hok l _ hH;exact⟨z,its,n,r,r.length,e⟩
def aBX(h:n<=zAY):zCl n=false:=by
 unfold zCl;exact decide_eq_false (by lia)
end
section
variable{X:Cx}
def aJF:V->List V->Hp->VK->Prop:=λ x vs H Q=>∃l xs y,x= .ref l/\vs=[y]/\H l=some (.lst xs)/\xs.length<zAY/\Q .non (upd H l (.lst (xs++[y])))
def sO:MtM X "list.append" aJF:=by
 intro kX s Z H x vs v us Q I rx rv h;obtain⟨l,xs,y,rfl,rfl,hH,hz,q⟩:=h;cases rx;obtain⟨u,rfl,ru⟩:=rv.one;obtain⟨z,its,n,r,hl,e⟩:=I.lstM hH;refine zCk zDR ⟨_,e,rfl⟩ F.entry_list_append (F.args_list_append_2 _ _) (PySem.list_append l its.toArray n u (by rw[zAX];lia)) ⟨e,?_⟩;refine⟨.non,_,I.lset (its':=its++[u]) hH e (by simp) (r.append (.cons ru .nil)) ?_,rfl,q⟩;rw[zAZ,zB5];lia
def aJD:V->List V->Hp->VK->Prop:=λ x vs H Q=>∃l b xs zs,x= .ref l/\vs=[.ref b]/\H l=some (.lst xs)/\H b=some (.lst zs)/\xs.length+zs.length<=zAY/\Q .non (upd H l (.lst (xs++zs)))
def aFT:MtM X "list.extend" aJD:=by
 intro kX s Z H x vs v us Q I rx rv h;obtain⟨l,b,xs,zs,rfl,rfl,hH,hB,hz,q⟩:=h;cases rx;obtain⟨u,rfl,ru⟩:=rv.one;cases ru;obtain⟨z,its,n,r,hl,e⟩:=I.lstM hH;obtain⟨z2,its2,n2,r2,hl2,e2⟩:=I.lstM hB;have hsz:its.toArray.size+its2.toArray.size<=zAY:=by rw[zAX,zAX];lia
 have dL:¬(!its.toArray.isEmpty&&zCl (its.toArray.size+its2.toArray.size))=true:=by
  rw[aBX hsz,zFA];exact zA8
 refine zCk zHM ⟨_,e,rfl⟩ F.entry_list_extend (F.args_list_extend_2 _ _)
  (AutoSeq1.list_extend_list_list_0 l its.toArray n b its2.toArray n2 dL (by rw[zAX];lia) (by lia)) ⟨e,e2,?_⟩
 refine⟨.non,_,I.lset (its':=its++its2) hH e (by simp) (r.append r2) ?_,rfl,q⟩;rw[zAZ];lia
def aO5:R2:=λ x y H Q=>∃l b xs zs,x= .ref l/\y= .ref b/\H l=some (.lst xs)/\H b=some (.lst zs)/\xs.length+zs.length<=zAY/\∀p,H p=none->Q (.ref p) (upd H p (.lst (xs++zs)))
def aMP:OpR X (zBv .Add) aO5:=by
 intro kX s Z H x y v u Q I rx ry h;obtain⟨l,b,xs,zs,rfl,rfl,hH,hB,hz,q⟩:=h;cases rx;cases ry;obtain⟨z,its,n,r,hl,e⟩:=I.lstM hH;obtain⟨z2,its2,n2,r2,hl2,e2⟩:=I.lstM hB;refine PySem.P.add_list e e2 ?_ (by rw[zAX,zAX];lia);have ea:its.toArray++its2.toArray=(its++its2).toArray:=by simp
 rw[ea];exact⟨.ref _,_,I.lnew (t':=s.toks) (r.append r2) (by rw[zAZ];lia),rfl,q _ I.fresh⟩
def aNd:R2:=λ x y H Q=>∃l k xs,x= .ref l/\y= .int k/\H l=some (.lst xs)/\-(2^63)<=k/\k<2^63/\xs.length*k.toNat<=zAY/\
 ∀p,H p=none->Q (.ref p) (upd H p (.lst (zAJ k.toNat xs).flatten))
def len_rep(xs:List α)(k:Nat):(zAJ k xs).flatten.length=k*xs.length:=by
 induction k with
 |zero=>simp
 |succ k ih=>rw[zBp,zCq,zAZ,ih,Nat.succ_mul,Nat.add_comm]
def aME:OpR X (zBv .Mult) aNd:=by
 intro kX s Z H x y v u Q I rx ry h;obtain⟨l,k,xs,rfl,rfl,hH,h1,h2,hz,q⟩:=h;cases rx;obtain⟨t,rfl⟩:=ry;obtain⟨z,its,n,r,hl,e⟩:=I.lstM hH;have kK:its.toArray.size*k.toNat<=zAY:=by rw[zAX,<-hl];exact hz
 have hcap:¬its.toArray.size*k.toNat>(2^63-1) / 8:=by
  have:(zAY:Nat)<=(2^63-1) / 8:=by decide
  lia
 have hfit:¬(!Builtin.List.listFitsIndex k)=true:=by
  rw[fitsIndex_both h1 h2];exact zA8
 have dL:¬zCl (its.toArray.size*k.toNat)=true:=by
  rw[aBX kK];exact zA8
 have eK:zGc (λ x1 x2=>x1++x2) #[] (zAJ (if its.toArray.isEmpty=true then 0 else k.toNat) its.toArray)=(zAJ k.toNat its).flatten.toArray:=by
  have f0:∀m:Nat,zGc (λ x1 x2=>x1++x2) #[] (zAJ m its.toArray)=(zAJ m its).flatten.toArray:=λ m=>by
   have:=foldl_rep its m []
   rw[zEo]at this;exact this
  rw[f0];cases its with
  |nil=>simp
  |cons a r'=>rw[if_neg (by simp)]
 refine zDO (T:="list") (U:="int") (by decide) ⟨_,e,rfl⟩ (λ s'=>zDi s' k t) noFill_list_mul zFC zC2 repeat_list zEk.lookup
  (zCk zC2 (zDi s k t) zEj (zE3 _ _) (int___rmul___int_list k t l its.toArray n)
   ⟨e,rfl,⟨_,e,rfl⟩,zCk F.slot_list_mul ⟨_,e,rfl⟩ F.entry_list_mul (F.args_list_mul_2 _ _) (AutoListH.list___mul___list_int_3 l its.toArray n k t hfit hcap dL) ⟨e,?_⟩⟩)
 rw[eK];exact⟨.ref _,_,I.lnew (t':=s.toks) (r.rep k.toNat) (by rw[len_rep,zFv];exact hz),rfl,q _ I.fresh⟩
end
end L2
namespace Att
open PySem PySem.W PySem.Calls PyProof.Rows
def uP:∀(ns:List Int) (vs:List Value),WellAll P h vs (ns.map WData.int)->zBV vs ns:=by
 intro ns;induction ns with
 |nil=>
  intro vs w;rw[zFh]at w;cases w;exact .nil
 |cons n ns ih=>
  intro vs w;rw[zAM]at w;cases w with
  |cons a b=>
   cases a;exact .cons _ _ (ih _ b)
def aFA{l:OpenLaw}{n:Nat}(hn:l.most=some n){P:Params}{h:Heap}{args:List WData}{vals:List Value}
  (hpre:l.row.toRowW.claim.pre args=true)(hwl:WellAll P h vals args):
  ∃a vs ns,vals=[zAx a]/\args=[WData.list (ns.map WData.int)]/\h.get? a=some {cls:=.type "list",data:=.seq vs.toArray}/\zBV vs ns/\ns.length<=n:=by
 have hsh:WShape.hasAll [] args [.list .int]=true:=(pre_splitW hpre).1;have hc:l.pre.holds [] {args:=args}=true:=(pre_splitW hpre).2;obtain⟨d,r,rfl,h1,h2⟩:=hasAllW_cons hsh;obtain rfl:=hasAllW_nil h2;obtain⟨xs,rfl,h3⟩:=hasW_list h1;obtain⟨ns,rfl⟩:=items_int h3;have kK:ns.length<=n:=by
  unfold OpenLaw.pre at hc;have h4:(WTm.not (.lt (.lit (.int (n:Int))) (.len (.arg 0)))).holds [] {args:=[.list (ns.map .int)]}=true:=by
   have h4:=(holds_andW hc).1;rw[hn]at h4;exact h4
  have h5:=condW_of h4 (w_not (w_lt w_lit (w_len_list (w_arg rfl))));rw[zAD]at h5;refine zE9 λ q=>?_
  have q':(n:Int)<((ns.length:Nat):Int):=by lia
  first
   |(rw[decide_eq_true q']at h5;exact absurd h5 (by decide))
   |(simp at h5;lia)
 cases hwl with
 |cons w1 w2=>
  cases w2;cases w1 with
  |list ho aE=>exact⟨_,_,ns,rfl,rfl,ho,uP ns _ aE,kK⟩
def aFI(l:OpenLaw)(args:List WData):l.row.toRowW.claim.post args (.bool true) args=true:=
 postW_of (r:=l.row.toRowW) (X:=(true==true))
  (show WShape.has [] (.bool true) .bool=true by first|rfl|decide|simp[WShape.has,WShape.arms,WShape.armsAll])
  (show(WTm.eq .res (.lit (.bool true))).value [] {args:=args,res:=some (.bool true),after:=args}=some (.bool (true==true))from w_eq_bool (w_res rfl) w_lit) rfl
def aCE{l:OpenLaw}{n:Nat}{q:zA3}{loose:List Str}{XP:(Str->Option Value)->Heap->Prop}{YP:World->Heap->Prop}{d:DefRec}
  (hn:l.most=some n)(hdf:d.params.defaults=[])
  (call:∀(w:World) (z5 zD:zAE) (mg mb:Str->Option Value) (fa:Addr) (o:Obj) (pm cd doc:Value) (a:Addr) (vs:List Value) (ns:List Int),
   Ground q loose [] XP w z5 mg mb zD.heap->YP w zD.heap->
   zD.heap.get? fa=some o->o.data= .func (docDef d.name d.params d.body d.scope pm cd doc)->zD.heap.CodeRec cd d.name->mg d.name=some (.ref fa)->
   zD.heap.get? a=some {cls:=.type "list",data:=.seq vs.toArray}->zBV vs ns->ns.length<=n->zD.gens=#[]->
   zCF (model l.prog w) zCo (.call (.ref fa) ⟨[.ref a],[]⟩) (λ r s'=>r= .ok (.ret (.bool true))/\OldK zD.heap s'.heap/\s'.os=zD.os/\zFP s'.gens) zD):
  WalkO q loose XP YP l.row.toRowW d [] (λ f vs=>zHu f vs):=by
 intro w z5 zD mg mb G Y fa o pm cd doc dV kV ho hd hcd hD hmg hg args vals as hpre hlay hrd hwl hlo;obtain rfl:dV= .none:=Dflts.none hD hdf;obtain rfl:kV= .none:=Dflts.noKw hD;obtain⟨a,vs,ns,rfl,rfl,hobj,hints,kK⟩:=aFA hn hpre hwl;refine enter_call (zC9 (call w z5 zD mg mb fa o pm cd doc a vs ns G Y ho (fd_plain hd) hcd hmg hobj hints kK hg) λ r s' hq=>?_);obtain⟨rfl,h2,h3,h4⟩:=hq;exact⟨.inl ⟨.bool true,.bool true,[],rfl,λ _=>rfl,.bool true,aFI l _,λ _=>⟨zEb,λ _ hm=>(nomatch hm)⟩⟩,h2,h3,h4⟩
section
variable{prog:zA3}{w:World}{A:zAc}{E:Value->zAE->Prop}{s:zAE}{K:Frag}
def make_obj(X:K.In s.heap)(hm:makesIn K C=true)(hi:findIn K (.ref C) "__init__"=some (some (.ref fI)))(hf:isFn K (.ref fI)=true)
  (h:zCF (model prog w) (A.under (.builtin "type.__call__" ⟨.ref C::rest,kw⟩)) (.call (.ref fI) ⟨.ref (s.heap.objs.size+1)::rest,kw⟩) (InitBack (s.heap.objs.size+1) R)
   {s with heap:=(s.heap.push emptyDict).push (instObj C s.heap.objs.size)}):zCF (model prog w) A (.call (.ref C) ⟨rest,kw⟩) R s:=by
 obtain⟨hh,g,d,t,os⟩:=s;exact make_core (makes_of X hm) (looks_findIn X hi) (λ self=>bind_fn X self (beq_iff_eq.mp hf)) (.inl rfl) h
def get_field(X:K.In s.heap)(I:zIS s.heap x ox C (some (dictOf es n)))(hg:plainGet K C name=true)(hh:hasDictIn K C=true)(ha:findIn K (.ref C) name=some none)
  (hl:getL name es=some (some v))(hv:handedIn v=true)(h:Q v {s with toks:=s.toks+1}):wpAny (model prog w) A (getAttr (.ref x) name expr) Q E s:=
 get_value X I (plainGet_of hg).1 (findObj_own hh ha rfl hl) hv h
def ledger(h:Heap)(L d:Addr):hZ:=(zAj h.objs.size).filterMap λ a=>if a=L\/a=d then none else(h.get? a).map λ o=>(a,o)
end
end Att
namespace L2
open PySem PySem.Spec PyProof.Rows
theorem yM:∀{vs:List Value} {ns:List Int},zBV vs ns->Vals (ns.map V.int) vs
 |_,_,.nil=>.nil
 |_,_,.cons n t h=>.cons ⟨t,rfl⟩ (yM h)
def Only(H:Hp):Prop:=∀b,H b=none\/∃o xs,H b=some (.frz o (.lst xs))
def lO(s:Stmt):zD3:=match s with
 | .FunctionDef _ a _ _ _ _ _ _ _ _=>a
 |_=>{posonlyargs:=[],args:=[],vararg:=none,kwonlyargs:=[],kw_defaults:=[],kwarg:=none,defaults:=[]}
def cX(s:Stmt):List Stmt:=match s with
 | .FunctionDef _ _ b _ _ _ _ _ _ _=>b
 |_=>[]
def aF(s:Stmt):Scope:=match s with
 | .FunctionDef _ _ _ _ _ _ sc _ _ _=>sc
 |_=>{kind:=.function,names:=[],isGenerator:=false,isCoroutine:=false}
abbrev CX0:CXT:=λ _ _ _ _ _ _=>False
abbrev E0:XK:=λ _ _ _=>False
structure Fun(K:zAA)(x qual:Str)(st:Stmt)(f:Addr)(fd:zAq):Prop where
 ex:∃(oc:Value) (od:Option Addr) (kV doc pm:Value) (an:Option Addr) (cdv ct:Value) (osl:Array (Option Value)),
  fd=zBq x qual (lO st) (cX st) (aF st) .none kV doc pm an cdv ct/\K.lookup f=some ⟨oc,od,.func fd,osl⟩/\zDX K cdv qual=true
 kp:zBm K (.ref f)=true
section
variable{K:zAA}
def Fun.binds{x qual:Str}{st:Stmt}{f:Addr}{fd:zAq}{ps:List Str}(F:Fun K x qual st f fd)
  (h:∀(kV doc pm:Value) (an:Option Addr) (cdv ct:Value) (us:List Value),us.length=ps.length->zJJ (zBq x qual (lO st) (cX st) (aF st) .none kV doc pm an cdv ct) ⟨us,[]⟩=pure (ps.zip us)):Binds K fd ps []:=by
 obtain⟨oc,od,kV,doc,pm,an,cdv,ct,osl,rfl,lk,hcd⟩:=F.ex;exact .all (h kV doc pm an cdv ct)
def aMn{x qual:Str}{st:Stmt}{f:Addr}{oc:Value}{od an:Option Addr}{osl:Array (Option Value)}{kV doc pm cdv ct:Value}(l:K.lookup f=some ⟨oc,od,.func (zBq x qual (lO st) (cX st) (aF st) .none kV doc pm an cdv ct),osl⟩)
  (c:zDX K cdv qual=true)(k:zBm K (.ref f)=true):Fun K x qual st f (zBq x qual (lO st) (cX st) (aF st) .none kV doc pm an cdv ct):=⟨⟨oc,od,kV,doc,pm,an,cdv,ct,osl,rfl,l,c⟩,k⟩
end
def aNy(hr:dj k A):A.units+1<cLine:=zEG (Nat.add_le_add_left (by decide:1<=64) _) hr.units
section
variable{X:Cx}
def pv(i:Nat)(hN:X.N[i]? =some x:=by rfl)(hv:Vis X.env.scope x:=by first|exact zCV rfl|exact zBc (zCV rfl)|exact zBc (zBc rfl))(hd:Nd x:=by decide)
  (hcd:(x==("__classdict__":Str))=false:=by decide):PE X (.Name x pos) (jh i):=dW hN hv hd hcd
end
def aO(H H':Hp):Prop:=∀b o,H b=some o->H' b=some o
def aO.refl(H:Hp):aO H H:=λ _ _ h=>h
def aO.trans(a:aO H H1)(b:aO H1 H2):aO H H2:=λ c o h=>b c o (a c o h)
def aO.free(e:aO H H')(h:H' l=zJH):H l=zJH:=by
 cases q:H l with
 |none=>rfl
 |some o=>
  rw[e l o q]at h;cases h
end L2
set_option maxHeartbeats 4000000
namespace HT
open PySem PyProof.Rows
def lexLe:List Int->List Int->Bool
 |[],_=>true
 |_::_,[]=>false
 |x::xs,y::ys=>if x=y then lexLe xs ys else decide (x<=y)
def aDI(x y:Int)(xs ys:List Int):lexLe (x::xs) (y::ys)=if x=y then lexLe xs ys else decide (x<=y):=rfl
def aGf(A:zAc)(s:zAE)(a:Int)(t:Tok)(c:Int)(u:Tok)(prog:zA3)(w:World)(E:Value->zAE->Prop)(Q:Value->zAE->Prop)(h:Q (.bool (decide (a<=c))) s):
  wpAny (model prog w) A (zEv .LtE (.int a t) (.int c u)) Q E s:=
 (PyProof.Rows.le_int h:wpAny (model prog w) A (zBH .LtE (.int a t) (.int c u)) Q E s)
section
open PySem.SeqAt
open PySem.AutoSeq1(wpAny_loadPart')
open PySem.MeetsSeq PySem.MeetsSeq2 PySem.MeetsSeq3
def xZ(l b:Addr)(items items2:Array Value)(n n2:Nat)(dd dd2:Option Addr)(sl sl2:Array (Option Value))(ns ms:List Int)(hi:zBV items.toList ns)(hj:zBV items2.toList ms):
  Meets (zD4.«tuple.__le__» ⟨[.ref l,.ref b],[]⟩)
   (λ _ R s=>s.heap.get? l=some {cls:=.type "tuple",dict:=dd,data:=.seq items n,slots:=sl}/\s.heap.get? b=some {cls:=.type "tuple",dict:=dd2,data:=.seq items2 n2,slots:=sl2}/\
    R (.ok (.ret (.bool (lexLe ns ms)))) s):=
 .of_wp λ prog w A R s h=>by
  obtain⟨hp,g,d,tk,os⟩:=s;obtain⟨hl,hb,h⟩:=h;have f2:=zFy;have z1:items.size=ns.length:=by rw[<-hi.length];simp
  have z2:items2.size=ms.length:=by rw[<-hj.length];simp
  wp_walk using zEN hl,zEN hb,zDw _ (λ rest b s'=>b.1=none/\s'=⟨hp,g,d,tk,os⟩/\∃(vs ws:List Value) (ns' ms':List Int),rest=vs.zip ws/\
   zBV vs ns'/\zBV ws ms'/\ns'.length+items2.size=ms'.length+items.size/\R (.ok (.ret (.bool (lexLe ns' ms')))) ⟨hp,g,d,tk,os⟩) _
  case turn=>
   rintro⟨y,x⟩ rest b s' ⟨hb',rfl,vs,ws,ns',ms',hz,hvi,hwi,kK,hR⟩;cases hvi with
   |nil=>rw[zIP]at hz;cases hz
   |cons a t hvi'=>
    cases hwi with
    |nil=>rw[zHr]at hz;cases hz
    |cons c u hwi'=>
     rw[zBB]at hz;injection hz with hyx bE
     injection hyx with hy hx
     subst hy hx;rw[aDI]at hR;simp only[zAO]at kK;obtain⟨e,he,hiff⟩:=aBp A.in1 ⟨hp,g,d,tk,os⟩ a t c u;refine zAB (he prog w _ _ ?_);cases e with
     |true=>
      rw[if_pos (hiff.mp rfl)]at hR;wp_walk;exact⟨rfl,rfl,_,_,_,_,bE,hvi',hwi',by lia,hR⟩
     |false=>
      rw[if_neg (λ q=>absurd (hiff.mpr q) zA8)]at hR;have hri:=aGf A.in1 ⟨hp,g,d,tk,os⟩ a t c u prog w;wp_walk using hri;exact⟨_,rfl,by simpa using hR⟩
  case fin=>
   rintro⟨b1,b2⟩ s' ⟨hb',rfl,vs,ws,ns',ms',hz,hvi,hwi,kK,hR⟩;simp only at hb';subst hb';have hv:lexLe ns' ms'=decide (items.size<=items2.size):=by
    cases hvi with
    |nil=>
     simp only[zCJ]at kK;have e:lexLe [] ms'=true:=by cases ms'<;>rfl
     rw[e];exact(decide_eq_true (by lia)).symm
    |cons a t hv=>
     cases hwi with
     |nil=>
      simp only[zCJ,zAO]at kK;show false=_;exact(decide_eq_false (by lia)).symm
     |cons c u hw=>
      rw[zBB]at hz;cases hz
   rw[hv]at hR;wp_walk;exact⟨_,rfl,by simpa[zEa]using hR⟩
  case h=>
   exact⟨rfl,rfl,items.toList,items2.toList,ns,ms,rfl,hi,hj,by lia,h⟩
end
section
variable{prog:zA3}{w:World}{A:zAc}{E:Value->zAE->Prop}{s:zAE}
def aDJ(hl:IsTup s.heap l items)(hb:IsTup s.heap b items2)(hi:zBV items.toList ns)(hj:zBV items2.toList ms)
  (hu:A.units<cLine)(h:Q (.bool (lexLe ns ms)) s):wpAny (model prog w) A (zBH .LtE (.ref l) (.ref b)) Q E s:=by
 obtain⟨⟨cls,dd,data,sl⟩,ho,hc,n,hd⟩:=id hl;obtain⟨⟨cls2,dd2,data2,sl2⟩,ho2,hc2,n2,hd2⟩:=id hb;simp only at hc hd hc2 hd2;subst hc hd hc2 hd2;exact zIZ (op:=.LtE) ⟨_,ho,rfl⟩ ⟨_,ho2,rfl⟩ PySem.F.slot_tuple_le PySem.F.entry_tuple_le (PySem.F.args_tuple_le_2 _ _) (xZ l b items items2 n n2 dd dd2 sl sl2 ns ms hi hj)
  ⟨ho,ho2,show zCn (lexLe ns ms)≠zEt/\Q (.bool (lexLe ns ms)) s from⟨(λ x=>nomatch x),h⟩⟩ hu
def aIQ{ws:List Value}(ht:IsTup s.heap t #[])(hb:IsTup s.heap b ws.toArray)(h1:Q (.ref b) s):wpAny (model prog w) A (zBv .Add (.ref t) (.ref b)) Q E s:=by
 obtain⟨⟨cls,dd,data,sl⟩,ho,hc,n,hd⟩:=id ht;obtain⟨⟨cls2,dd2,data2,sl2⟩,ho2,hc2,n2,hd2⟩:=id hb;simp only at hc hd hc2 hd2;subst hc hd hc2 hd2;exact zIg ⟨_,ho,rfl⟩ ⟨_,ho2,rfl⟩ zGm zIA zEX zEI (zED _ _)
   (tuple_addW0 t b #[] ws.toArray n n2 dd dd2 sl sl2 (by simp)) ⟨ho,ho2,h1⟩
def aCi(n:Nat):zDc none none (-1) (n:Int)=((n:Int)-1,-1):=by
 unfold zDc;rfl
def aCh(n:Nat):zCa ((n:Int)-1) (-1) (-1)=n:=by
 unfold zCa;rw[if_neg (by decide)];by_cases h:n=0
 .subst h;rfl
 .rw[if_pos (by lia)]
  have e:((n:Int)-1 - -1-1) / (- -1)+1=n:=by
   rw[show(- -1:Int)=1 by decide,Int.ediv_one];lia
  rw[e];simp
def aGa(xs:Array Value):((zAj xs.size).filterMap λ(m:Nat)=>xs[(((xs.size:Int)-1)+(m:Int)*(-1)).toNat]?)=xs.toList.reverse:=by
 apply List.ext_getElem?;intro i;have key:∀n,n<=xs.size->((zAj n).filterMap λ(m:Nat)=>xs[(((xs.size:Int)-1)+(m:Int)*(-1)).toNat]?)=xs.toList.reverse.take n:=by
  intro n;induction n with
  |zero=>intro _;simp
  |succ n ih=>
   intro hn;rw[zGL,List.filterMap_append,ih (by lia),zCr];congr 1;have e:(((xs.size:Int)-1)+(n:Int)*(-1)).toNat=xs.size-1-n:=by lia
   simp only[zBQ,List.filterMap_nil,e];rw[zHQ (by rw[zAU];lia)];have e2:xs.toList.length-1-n=xs.size-1-n:=by simp
   rw[e2,zAd];have hlt:xs.size-1-n<xs.size:=by lia
   rw[zAo hlt];rfl
 rw[key xs.size (zAQ _),zCM (by simp)]
def rO{n:Nat}(hs:s.heap.IsSliceOf sl .none .none (.int (-1) u))
  (h:Q ((n:Int)-1,-1,n) s):wpAny (model prog w) A (zFJ (.ref sl) (pure (n:Int))) Q E s:=by
 obtain⟨os,hos,hcs,hds⟩:=id hs;unfold zFJ zJQ;refine zAB (zAB (zIy hos hds (x:=.none) rfl (zAB (zIy hos hds (x:=.none) rfl (zAB (zIy hos hds (x:=.int (-1) u) rfl (zAI ?_)))))));refine zAB (slicePart_int ?_);show wpAny _ _ (if ((-1:Int)==0)=true then _ else _) _ _ s;rw[if_neg (by decide)];refine zAB (slicePart_none (zAB (slicePart_none (zAB (zAI ?_)))));show wpAny _ _ (match zDc none none (-1) (n:Int)with|(lo,hi)=>pure (lo,(-1:Int),zCa lo hi (-1))) _ _ s;rw[aCi n];show wpAny _ _ (pure ((n:Int)-1,(-1:Int),zCa ((n:Int)-1) (-1) (-1))) _ _ s;rw[aCh];exact zAI h
def qi(ht:IsTup s.heap t items)(hs:s.heap.IsSliceOf sl .none .none (.int (-1) u))
  (h:Q (.ref s.heap.objs.size) {s with heap:=s.heap.push {cls:=.type "tuple",data:=.seq items.toList.reverse.toArray}})
  (hsz:items.size<=zAY):wpAny (model prog w) A (zHy (.ref t) (.ref sl)) Q E s:=by
 have cS:sizeOk (.seq items.toList.reverse.toArray):=by
  show items.toList.reverse.toArray.size<=zAY;rw[zAX,zHe,zAU];lia
 obtain⟨os,hos,hcs,hds⟩:=id hs;have hTs:s.TypeIs (.ref sl) "slice":=⟨os,hos,hcs⟩;unfold zHy
 try with_reducible refine zBW ?_
 first|refine zAB (zAI ?_)|skip
 refine zAB (wpAny_sequenceKey ht.typeIs (by decide) ?_);refine zAB (zEw (name:=zH4 "__getitem__") ht.typeIs zDE
  (zCi zDE ht.typeIs entry_tuple_getitem ?_ (args_tuple_getitem _ _)))
 show wpAny _ _ (zJS (.ref t)>>=_) _ _ s;refine zAB (tupleItemsOf_ ht ?_);refine zAB (zGa hTs ?_);rw[if_pos (by decide)];refine zAB (rO hs ?_);show wpAny _ _ (if (((items.size:Int)-1==0&&(-1:Int)==1&&items.size==items.size))=true then _ else _) _ _ s;rw[if_neg (by simp)];rw[show((zAj items.size).filterMap λ(k:Nat)=>items[(((items.size:Int)-1)+(k:Int)*(-1)).toNat]?)=items.toList.reverse from aGa items]
 first
  |exact zAB (m:=zBk _) (zBJ (zAI ⟨_,rfl,zAI h⟩) cS)
  |exact zAB (m:=zBk _) (zBJ (zAB (zAI (zAI ⟨_,rfl,zAI h⟩))) cS)
  |exact zAB (zAB (m:=zBk _) (zBJ (zAI (zAI ⟨_,rfl,zAI h⟩)) cS))
  |exact zAB (zAB (m:=zBk _) (zBJ (zAI ⟨_,rfl,zAI h⟩) cS))
end
end HT
namespace L2
open PySem PySem.Spec PyProof.Rows
def aJp(t T:String):Bool:=decide (t=T)||(decide (t="bool")&&decide (T="int"))
def aJj{K:zAA}(ht:t∈["NoneType","bool","int","str","list","tuple","dict"])(hT:T∈["bool","int","str","list","tuple","dict"]):
  zCB K (.type t) (.type T)=some (aJp t T):=by
 simp only[zAP,zCR,or_false]at ht hT;rcases ht with rfl|rfl|rfl|rfl|rfl|rfl|rfl<;>rcases hT with rfl|rfl|rfl|rfl|rfl|rfl<;>kernel_rfl
def oY(t T:String)(b:Bool):Bool:=decide (t∈["NoneType","bool","int","str","list","tuple","dict"])&&decide (T∈["bool","int","str","list","tuple","dict"])&&(aJp t T==b)
def aDP{K:zAA}(h:oY t T b=true):zCB K (.type t) (.type T)=some b:=by
 unfold oY at h;rw[zAL,zAL]at h;rw[aJj (of_decide_eq_true h.1.1) (of_decide_eq_true h.1.2),zEJ h.2]
def bQ(h:H p=none)(o:HO):aO H (upd H p o):=λ b u q=>by rw[aX (cC q h)];exact q
section
variable{X:Cx}
def aO4(K:zAA):List V->Hp->VK->Prop:=λ xs H Q=>∃x T t b,xs=[x,.ty T]/\tD K H x (.type t)/\oY t T b=true/\Q (.bl b) H
def kI:cg X (.builtin "isinstance") (aO4 X.K):=by
 intro kX s Z H xs us Q I r h;obtain⟨x,T,t,b,rfl,ty,ok,q⟩:=h;obtain⟨u,w',rfl,r1,r2⟩:=vals2 r;obtain rfl:w'=zBt T:=r2;exact aF6 I r1 ty (aDP ok) λ tk=>⟨.bl b,H,I.tok tk,rfl,q⟩
def aJB(K:zAA):R2:=λ x y H Q=>∃a b ns ms,x= .ref a/\y= .ref b/\SqT K H a (ns.map V.int)/\SqT K H b (ms.map V.int)/\Q (.bl (HT.lexLe ns ms)) H
def aMM(hu:X.A.units<cLine):OpR X (zBH .LtE) (aJB X.K):=by
 intro kX s Z H x y v u Q I rx ry h;obtain⟨a,b,ns,ms,rfl,rfl,ha,hb,q⟩:=h;cases rx;cases ry;obtain⟨its,r1,p1,_⟩:=I.tuple ha;obtain⟨its2,r2,p2,_⟩:=I.tuple hb;have i1:zBV its.toArray.toList ns:=intsAre_of r1;have i2:zBV its2.toArray.toList ms:=intsAre_of r2;exact HT.aDJ p1 p2 i1 i2 hu ⟨.bl (HT.lexLe ns ms),H,I,rfl,q⟩
def Inv.big'(I:Inv X kX Z H s):zDY<s.heap.objs.size:=by
 have h:zA9<s.heap.objs.size:=(I.mod.glob.keeps I.bk).lt;exact zFt (by decide) h
def aNX:TE:=λ _ H Q=>∀p,H p=none->Q (.ref p) (upd H p (.dK []))
def aJS:PE X (.Dict [] [] pos) aNX:=λ kX s Z H Q I h=>
 wpAny_Dict_empty ⟨.ref s.heap.objs.size,_,I.laid (a:=s.heap.objs.size) (o:=.dK []) (t':=s.toks) (λ _ _ q=>zAC _ q) (zAQ _)
  ⟨zAa _,beq_eq_false_iff_ne.mpr (zCy (zA6 I.big')),[],.nil,Heap.DictOf.new s.heap⟩,rfl,h _ (I.hok.fresh (zAQ _))⟩
end
def kh(l:Addr)(H H':Hp):Prop:=∀b o,b≠l->H b=some o->H' b=some o
def aO.sqt{K:zAA}(e:aO H H')(h:SqT K H a xs):SqT K H' a xs:=by
 rcases h with (h|⟨o,h⟩)|h
 .exact .inl (.inl (e _ _ h))
 .exact .inl (.inr ⟨o,e _ _ h⟩)
 .exact .inr h
inductive D where
 |non|bl (b:Bool)|int (i:Int)|str (x:Str)|tup (l:List D)|lst (l:List D)|dct
mutual
inductive Rep(H:Hp):V->D->Prop where
 |non:Rep H .non .non
 |bl (b:Bool):Rep H (.bl b) (.bl b)
 |int (i:Int):Rep H (.int i) (.int i)
 |str (x:Str):Rep H (.str x) (.str x)
 |tup {a:Addr} {xs:List V} {ds:List D} (h:H a=some (.tup xs)) (r:aI4 H xs ds):Rep H (.ref a) (.tup ds)
 |lst {a:Addr} {xs:List V} {ds:List D} (h:H a=some (.lst xs)) (r:aI4 H xs ds):Rep H (.ref a) (.lst ds)
 |dct {a:Addr} (h:H a=some (.dK [])):Rep H (.ref a) .dct
inductive aI4(H:Hp):List V->List D->Prop where
 |nil:aI4 H [] []
 |cons {x:V} {d:D} {xs:List V} {ds:List D} (h:Rep H x d) (r:aI4 H xs ds):aI4 H (x::xs) (d::ds)
end
def PE.weaken(h:PE X e t)(imp:∀Z H Q,t' Z H Q->t Z H Q):PE X e t':=λ kX s Z H Q I q=>h kX s Z H Q I (imp Z H Q q)
def OpR.weaken(h:OpR X f r)(imp:∀x y H Q,r' x y H Q->r x y H Q):OpR X f r':=λ kX s Z H x y v u Q I rx ry q=>h kX s Z H x y v u Q I rx ry (imp x y H Q q)
def New(H:Hp)(o:HO)(Q:VK):Prop:=∀p H',aO H H'->H' p=some o->H p=none->Q (.ref p) H'
def New.at(n:New H o Q)(hp:H p=none):Q (.ref p) (upd H p o):=n p _ (bQ hp o) aa hp
section
variable{X:Cx}{es:List Expr}{t:TA}{pos:Pos}
def aNS(t:TA):TE:=λ Z H Q=>t Z H λ xs H1=>xs.length<=zAY/\New H1 (.tup xs) Q
def aGH(t:TA):TE:=λ Z H Q=>t Z H λ xs H1=>xs.length<=zAY/\New H1 (.lst xs) Q
def aJP{x1}(h:PA X es t):PE X (.Tuple es x1 pos) (aNS t):=by
 have h':PA X es (λ Z H Q=>∃R:List V->Hp->Prop,t Z H R/\∀xs H',R xs H'->Q xs H'):=by
  intro pos kX s Z H Q I ⟨R,q,imp⟩;exact thn (h pos kX s Z H R I q) λ us s' ⟨vs,H',I',r,q'⟩=>⟨vs,H',I',r,imp _ _ q'⟩
 exact(aLq h').weaken λ Z H Q q=>⟨_,q,λ xs H' ⟨z,n⟩=>⟨z,λ p hp=>n.at hp⟩⟩
def lM(h:PA X es t):PE X (.List es pos) (aGH t):=by
 have h':PA X es (λ Z H Q=>∃R:List V->Hp->Prop,t Z H R/\∀xs H',R xs H'->Q xs H'):=by
  intro pos kX s Z H Q I ⟨R,q,imp⟩;exact thn (h pos kX s Z H R I q) λ us s' ⟨vs,H',I',r,q'⟩=>⟨vs,H',I',r,imp _ _ q'⟩
 exact(aLt h').weaken λ Z H Q q=>⟨_,q,λ xs H' ⟨z,n⟩=>⟨z,λ p hp=>n.at hp⟩⟩
def aLX:TE:=λ _ H Q=>New H (.dK []) Q
def aHF:PE X (.Dict [] [] pos) aLX:=aJS.weaken λ Z H Q n p hp=>n.at hp
def aGl:R2:=λ x y H Q=>∃l b xs zs,x= .ref l/\y= .ref b/\H l=some (.lst xs)/\H b=some (.lst zs)/\xs.length+zs.length<=zAY/\New H (.lst (xs++zs)) Q
def aAE:OpR X (zBv .Add) aGl:=aMP.weaken λ x y H Q ⟨l,b,xs,zs,e1,e2,h1,h2,z,n⟩=>⟨l,b,xs,zs,e1,e2,h1,h2,z,λ p hp=>n.at hp⟩
def qZ:V->List V->Hp->VK->Prop:=λ x vs H Q=>∃l xs y,x= .ref l/\vs=[y]/\H l=some (.lst xs)/\xs.length<zAY/\∀H',kh l H H'->H' l=some (.lst (xs++[y]))->Q .non H'
def pU:MtM X "list.append" qZ:=λ kX s Z H x xs v us Q I rx rv ⟨l,ys,y,e1,e2,h,z,n⟩=>
 sO kX s Z H x xs v us Q I rx rv ⟨l,ys,y,e1,e2,h,z,n _ (λ b o ne hb=>by rw[aX ne];exact hb) aa⟩
end
def aZ(scope:Scope)(env:Env):List (Str×Addr):=(scope.names.filterMap λ y=>if y.2== .free then(env.cells.lookup y.1).map λ c=>(y.1,c)else none).reverse
theorem xP(env:Env):∀(names:List (Str×zEC)) (acc:List (Str×Addr)),(∀y∈names,y.2= .free->∃c,env.cells.lookup y.1=some c)->
  (forIn names acc λ(x:Str×zEC) r=>if (x.2== .free)=true then do let c <-cellOf env x.1;pure (zBl ((x.1,c)::r))else pure (zBl r):Sem (List (Str×Addr)))=
   pure ((names.filterMap λ y=>if y.2== .free then(env.cells.lookup y.1).map λ c=>(y.1,c)else none).reverse++acc)
 |[],acc,_=>rfl
 |(n,k)::r,acc,h=>by
  rw[List.forIn_cons];have ih:=λ acc'=>xP env r acc' λ y hy=>h y (zAG _ hy)
  by_cases hk:k= .free
  .subst hk
   obtain⟨c,hc⟩:=h (n,.free) zAF rfl;have hc':env.cells.lookup n=some c:=hc;simp only[beq_self_eq_true,if_true,cellOf,hc',zBQ,zDL,zD1,zCG,List.singleton_append];exact ih _
  .have hb:(k==zCO)=false:=by simpa using hk
   simp only[hb,zA4,if_false,zBQ];exact ih _
def eX(h:∀y∈scope.names,y.2= .free->∃c,env.cells.lookup y.1=some c):zEf scope env=pure (aZ scope env):=by
 have e:=xP env scope.names [] h;rw[zBD]at e;have e2:zEf scope env=((forIn scope.names ([]:List (Str×Addr)) λ(x:Str×zEC) r=>if (x.2== .free)=true then do let c <-cellOf env x.1;pure (zBl ((x.1,c)::r))else pure (zBl r):Sem (List (Str×Addr)))>>=λ r=>pure r):=rfl;rw[e2,e];rfl
def fJ(h:(aZ scope env).lookup x=some c):env.cells.lookup x=some c:=by
 have hm:=zAm h;unfold aZ at hm;rw[zE5,zBg]at hm;obtain⟨y,hy,e⟩:=hm;split at e
 .cases q:env.cells.lookup y.1 with
  |none=>rw[q]at e;cases e
  |some c'=>
   rw[q]at e;have e':=zAl e;injection e' with e1 e2
   subst e1 e2;exact q
 .cases e
def qu(hx:scope.names.lookup x=some .free)(h:env.cells.lookup x=some c):(aZ scope env).lookup x=some c:=by
 have hm:(x,zCO)∈scope.names:=zAm hx
 have:(x,c)∈aZ scope env:=by
  unfold aZ;rw[zE5,zBg];exact⟨_,hm,by simp[h]⟩
 cases q:(aZ scope env).lookup x with
 |none=>
  exact absurd this (by
   intro hm'
   have:=List.lookup_eq_none_iff.mp q _ hm'
   simp at this)
 |some c'=>
  have:=fJ q
  rw[h]at this;exact this.symm▸rfl
def uL(scope:Scope)(C:Addr):List (Str×Addr):=zDM (C+1) scope.names []
theorem kE:∀(names:List (Str×zEC)) (n:Nat) (acc:List (Str×Addr)),zDM n names acc=zDM n names []++acc
 |[],_,_=>rfl
 |(x,k)::r,n,acc=>by
  unfold zDM;split
  .rw[kE r (n+1) ((x,n)::acc),kE r (n+1) [(x,n)],zCG];rfl
  .exact kE r n acc
theorem ph:∀{names:List (Str×zEC)} {n:Nat} {x:Str} {c:Addr},(x,c)∈zDM n names []->(x,zDa)∈names
 |(y,k)::r,n,x,c,h=>by
  unfold zDM at h;split at h
  .rename_i hk
   rw[kE,zAh]at h;rcases h with h|h
   .exact zAG _ (ph h)
   .have e:=zA2.mp h
    cases e;rw[zEJ hk];exact zAF
  .exact zAG _ (ph h)
 |[],_,_,_,h=>by cases h
def jt{l m:List (Str×Addr)}(h:(l++m).lookup x=some c):l.lookup x=some c\/(l.lookup x=none/\m.lookup x=some c):=by
 rw[zF0]at h;cases e:l.lookup x with
 |some c'=>rw[e]at h;exact .inl h
 |none=>rw[e]at h;exact .inr ⟨rfl,h⟩
def aEK{M:Model}{A:zAc}{E:Value->zAE->Prop}{s:zAE}{scope:Scope}{globals:Addr}{cl:List (Str×Addr)}{qual:Str}{env:Env}{Q:Env->zAE->Prop}
  (h:∀h':Heap,h'.Ns s.heap.objs.size (λ _=>none)->(∀b o,s.heap.get? b=some o->h'.get? b=some o)->CellsOk h' (s.heap.objs.size+1) (uL scope s.heap.objs.size)->
   Q {scope:=scope,locals:=s.heap.objs.size,globals:=globals,cells:=uL scope s.heap.objs.size++cl,qual:=qual,func:=none,code:=env.code,frame:=env.frame,builtins:=env.builtins} {s with heap:=h'}):
  wpAny M A (zFb scope globals cl [] qual none .none (some env)) Q E s:=by
 simp only[zFb,Option.isSome_some,if_true];refine zAB (wpAny_alloc ?_);refine zAB (wpAny_layCells _ (λ name kind cells=>by cases hkc:kind==zDa<;>simp[hkc]) _ _ _ _ ?_);have ok:=cellsFrom_ok scope.names (s.heap.push {cls:=.type "dict",data:=.dict #[]}) (s.heap.objs.size+1) [] ⟨λ _ _ hm=>(nomatch hm),zEb⟩ (by rw[zBN];exact zAQ _);rw[zBN]at ok;rw[show({s with heap:=s.heap.push {cls:=.type "dict",data:=.dict #[]}}:zAE).heap.objs.size=s.heap.objs.size+1 from zBN ..,kE];refine zAI ?_;exact h _ ((Heap.Ns.new s.heap (.type "dict")).keeps (pushCells_keeps _ _)) (λ b o e=>pushCells_keeps _ _ b o (zAC _ e)) ok
def Cx.block(X:Cx)(scope:Scope)(C:Addr)(N:List Str)(fp:List Addr)(z5:zAE)(zI:Hp):Cx:=
  {prog:=X.prog,w:=X.w,K:=X.K,mg:=X.mg,base:=X.base,A:=X.A,N:=N,z5:=z5,zI:=zI,env:=compEnvC scope (uL scope C++aZ scope X.env) C X.env,outer:=X.stack,stack:=X.stack,ex:=fp,
    fn:=λ x=>scope.names.lookup x==some .cell,calm:=X.calm,pn:=[],xe:=λ _ _=>False}
structure cj(X:Cx)(scope:Scope)(N:List Str)(st:St->St)(ks:List Nat):Prop where
 kind:scope.kind= .function
 sep:∀y∈scope.names,y.2= .cell->scope.names.lookup y.1=some .cell
 loc:∀y∈scope.names,y.2= .local->scope.names.lookup y.1=some .local
 free:∀y∈scope.names,y.2= .free->X.env.kindOf y.1=some .cell\/X.env.kindOf y.1=some .free
 len:∀Z,(st Z).length=N.length
 val:∀Z (i:Nat) x v,N[i]? =some x->(st Z)[i]? =some (some v)->scope.names.lookup x=some .free/\i∉ks/\∃j:Nat,X.N[j]? =some x/\Z[j]? =some (some v)
def zz(h:(zGX scope env).names.lookup x=some .cell\/(zGX scope env).names.lookup x=some .free):scope.names.lookup x=some .free\/scope.names.lookup x=some .cell:=by
 have go:∀names:List (Str×zEC),((names.map λ(n,k)=>if (k==zCO&&env.scope.kind== .function&&env.kindOf n==some .cell)then(n,zDa)else(n,k)).lookup x=some .cell\/
   (names.map λ(n,k)=>if (k==zCO&&env.scope.kind== .function&&env.kindOf n==some .cell)then(n,zDa)else(n,k)).lookup x=some .free)->names.lookup x=some .free\/names.lookup x=some .cell:=by
  intro names;induction names with
  |nil=>intro h;simp at h
  |cons y r ih=>
   obtain⟨n,k⟩:=y;intro h;rw[zAM]at h;by_cases hx:x==n
   .rw[zAu,hx]
    show some k=some .free\/some k=some .cell;by_cases hcc:(k==zCO&&env.scope.kind== .function&&env.kindOf n==some .cell)=true
    .rw[zAL,zAL]at hcc
     rw[zEJ hcc.1.1];exact .inl rfl
    .simp only[if_neg hcc,zAu,hx]at h
     exact h.elim .inr .inl
   .have hx':(x==n)=false:=by simpa using hx
    rw[zAu,hx'];refine ih ?_;by_cases hcc:(k==zCO&&env.scope.kind== .function&&env.kindOf n==some .cell)=true
    .simp only[if_pos hcc,zAu,hx']at h
     exact h
    .simp only[if_neg hcc,zAu,hx']at h
     exact h
 exact go scope.names h
def aAA(h:scope.names.lookup x=some .free):(zGX scope env).names.lookup x=some .cell\/(zGX scope env).names.lookup x=some .free:=by
 have go:∀names:List (Str×zEC),names.lookup x=some .free->((names.map λ(n,k)=>if (k==zCO&&env.scope.kind== .function&&env.kindOf n==some .cell)then(n,zDa)else(n,k)).lookup x=some .cell\/
   (names.map λ(n,k)=>if (k==zCO&&env.scope.kind== .function&&env.kindOf n==some .cell)then(n,zDa)else(n,k)).lookup x=some .free):=by
  intro names;induction names with
  |nil=>intro h;simp at h
  |cons y r ih=>
   obtain⟨n,k⟩:=y;intro h;rw[zAM];by_cases hx:x==n
   .rw[zAu,hx]at h
    have hk:k= .free:=zAl h;by_cases hcc:(k==zCO&&env.scope.kind== .function&&env.kindOf n==some .cell)=true
    .simp only[if_pos hcc,zAu,hx]
     exact .inl trivial
    .simp only[if_neg hcc,zAu,hx]
     exact .inr (by rw[hk])
   .have hx':(x==n)=false:=by simpa using hx
    rw[zAu,hx']at h;by_cases hcc:(k==zCO&&env.scope.kind== .function&&env.kindOf n==some .cell)=true
    .simp only[if_pos hcc,zAu,hx']
     exact ih h
    .simp only[if_neg hcc,zAu,hx']
     exact ih h
 exact go scope.names h
section
variable{X:Cx}{kX:hZ}{Z:St}{H:Hp}{s:zAE}
theorem Inv.block{st:St->St}{D C:Addr}(I:Inv X kX Z H s)(B:cj X scope N st ks)
  (hfp:∀b∈fp,rF X kX H b)(hob:∀b∈fp,∃ob,s.heap.get? b=some ob)
  (hD:s.heap.objs.size<=D)(hC:s.heap.objs.size<=C)(hDC:D≠C)(keep:∀b u,s.heap.get? b=some u->h'.get? b=some u)(hns:h'.Ns C λ _=>none)(hcs:CellsOk h' (C+1) (uL scope C))(hDo:∀c,C<c->D≠c)(qV:cP X.prog X.w (upd H D o) h' D o):
  Inv (X.block scope C N fp s H) [] (st Z) (upd H D o) {s with heap:=h',toks:=tk}:=by
 have hHD:H D=none:=I.hok.fresh hD;have hcl:∀x c,(aZ scope X.env).lookup x=some c->X.env.cells.lookup x=some c:=λ x c e=>fJ e
 have hol:∀x c,(uL scope C).lookup x=some c->C<c/\h'.IsCell c none:=λ x c e=>let⟨q1,q2⟩:=hcs.empty x c (zAm e);⟨q2,q1⟩
 have hlt:∀x c,(aZ scope X.env).lookup x=some c->c<s.heap.objs.size:=λ x c e=>let⟨v,ic⟩:=I.cell x c (hcl x c e);ic.lt
 have dS:∀b∈fp,b<s.heap.objs.size:=λ b hb=>by
  obtain⟨ob,e⟩:=hob b hb;exact zAT e
 refine⟨⟨I.mod,?_,I.ok.glob,I.ok.blt,hC,λ x y c e1 e2=>?_,λ x hx=>?_,λ x c hf e=>?_,I.ok.hd,I.ok.frames,.inl rfl,λ b hb=>⟨?_,λ x c e z=>?_⟩,
  I.bs,?_,λ b ob e hb=>?_,λ b hb hs=>?_,I.stack,I.stkFree⟩,rfl,I.bare,Un.laid keep hD hHD,⟨_,hns,λ i x v e1 e2 hv=>?_⟩,λ x c e=>?_,?_,λ x c e=>?_,λ p hp=>absurd (show p∈([]:hZ)from hp) (by simp),I.hok.laid keep hD qV,B.len Z,λ p hp=>absurd (show p∈([]:hZ)from hp) (by simp)⟩
 .show(zGX scope X.env).kind= .function
  exact B.kind
 .rcases jt e1 with a1|⟨_,a1⟩<;>rcases jt e2 with a2|⟨_,a2⟩
  .exact PySem.name_of_addr hcs.apart (zAm a1) (zAm a2)
  .exact absurd (hlt y c a2) (zEW.mpr (zAi hC (zB8 (hol x c a1).1)))
  .exact absurd (hlt x c a1) (zEW.mpr (zAi hC (zB8 (hol y c a2).1)))
  .exact I.ok.inj x y c (hcl x c a1) (hcl y c a2)
 .show∃c,(uL scope C++aZ scope X.env).lookup x=some c
  rw[zF0];cases e:(uL scope C).lookup x with
  |some c=>exact⟨c,rfl⟩
  |none=>
   rcases zz hx with hfree|hcell
   .obtain⟨c,hc⟩:=I.ok.has x (B.free (x,.free) (zAm hfree) rfl)
    exact⟨c,qu hfree hc⟩
   .obtain⟨c,hc⟩:=qx (n:=C+1) hcell
    rw[show(uL scope C).lookup x=some c from hc]at e;cases e
 .rcases jt e with a1|⟨a0,_⟩
  .exact zAi hC (zB8 (hol x c a1).1)
  .obtain⟨c',hc'⟩:=qx (n:=C+1) (zEJ hf)
   rw[show(uL scope C).lookup x=some c' from hc']at a0;cases a0
 .exact zA6 (zAV (dS b hb) hC)
 .rcases jt e with a1|⟨_,a1⟩
  .exact absurd (dS b hb) (zEW.mpr (by rw[<-z];exact zAi hC (zB8 (hol x c a1).1)))
  .exact(hfp b hb).2.2.2.2.1 x c (hcl x c a1) z
 .exact zAi I.ok.bsz I.sz
 .rcases(hfp b hb).2.2.2.1 with z|z
  .exact I.ok.noex b ob e z
  .exact absurd (zAV (zAT (I.ok.bs b ob e).1) z) (zB1 _)
 .rcases zAP.mp (I.stkSub b hs)with z|z
  .exact(hfp b hb).2.1 z
  .exact(hfp b hb).2.2.1 z
 .obtain⟨hfree,_,j,f1,f2⟩:=B.val Z i x v e1 e2
  obtain⟨m,hn,hl⟩:=I.loc;have hk:=B.free (x,.free) (zAm hfree) rfl;obtain⟨u,ru,hu⟩:=hl j x v f1 f2 (hk.elim (λ z=>.inr (.inl z)) λ z=>.inr (.inr z));rcases hu with ⟨k,_⟩|⟨_,c,ec,ic⟩
  .rcases hk with z|z
   .exact absurd (k.symm.trans z) (by decide)
   .exact absurd (k.symm.trans z) (by decide)
  .have hno:(uL scope C).lookup x=none:=by
    cases e:(uL scope C).lookup x with
    |none=>rfl
    |some c'=>
     have:=B.sep _ (ph (zAm e)) rfl
     rw[hfree]at this;cases this
   refine⟨u,ru,.inr ⟨?_,c,by show(uL scope C++aZ scope X.env).lookup x=some c;rw[zF0,hno];exact qu hfree ec,ic.keeps keep⟩⟩;rcases hv with z|z|z
   .have z':(zGX scope X.env).names.lookup x=some .local:=z
    rcases aAA (env:=X.env) hfree with y|y
    .exact absurd (z'.symm.trans y) (by decide)
    .exact absurd (z'.symm.trans y) (by decide)
   .exact .inl z
   .exact .inr z
 .rcases jt e with a1|⟨_,a1⟩
  .exact⟨_,(hol x c a1).2⟩
  .obtain⟨v,ic⟩:=I.cell x c (hcl x c a1)
   exact⟨v,ic.keeps keep⟩
 .show upd H D o C=none
  rw[aX (zCy hDC)];exact I.hok.fresh hC
 .show upd H D o c=none
  rcases jt e with a1|⟨_,a1⟩
  .rw[aX (zCy (hDo c (hol x c a1).1))]
   exact I.hok.fresh (zAi hC (zB8 (hol x c a1).1))
  .obtain⟨v,ic⟩:=I.cell x c (hcl x c a1)
   rw[aX (zA6 (zAV ic.lt hD))];exact I.freeC x c (hcl x c a1)
end
section
variable{prog:zA3}{w:World}{A:zAc}{R:zEe->zAE->Prop}{s:zAE}
def aA5(I:Nat->zAE->Prop)
  (turn:∀n s,I n s->wpAny (model prog w) A (zE1 it) (λ r zD=>match r with
   |none=>R (.ok .next) zD
   |some v=>wpAny (model prog w) A (zD7 target it v) (λ _ zD=>wpAny (model prog w) A (zDz target env v) (λ _ zS=>
     wpAny (model prog w) A (forIn ifs true λ c r=>if r=true then do let ok <-isTrue c env (eval c env);pure (zBl ok)else pure (zBl r)) (λ ok y9=>
      if ok=true then wpAny (model prog w) A (eval elt env) (λ x y0=>
       wpAny (model prog w) A (call (.builtin "list.append") [acc,x]) (λ _ s₅=>∃m,m<n/\I m s₅) (λ _ _=>False) y0) (λ _ _=>False) y9
      else∃m,m<n/\I m y9) (λ _ _=>False) zS) (λ _ _=>False) zD) (λ _ _=>False) zD) (λ _ _=>False) s)
  (n:Nat)(h:I n s):zCF (model prog w) A (.compLoop (.ListComp elt [⟨target,iter,ifs,0⟩] scope pos) 0 it acc env) R s:=by
 refine codeAny_loop rfl I (λ n s hI=>?_) n h;show wpAny _ A ((zJL (.ListComp elt [⟨target,iter,ifs,0⟩] scope pos) 0 it acc env).onRaise (λ x=>do noteFrame x env;theTreesLotGoes x)) _ _ s;refine wpAny_noted ?_;rw[compTurn_list];refine zAB (zDD (zAB (zAw (turn n s hI) (λ r zD zC=>?_) λ _ _ h'=>h'.elim)));cases r with
 |none=>exact zAI zC
 |some v=>
  refine zAB (zAw zC (λ _ zD zC=>?_) λ _ _ h'=>h'.elim);refine zAB (zAw zC (λ _ zS y8=>zAB (zAw y8 (λ ok y9 yY=>?_) λ _ _ h'=>h'.elim)) λ _ _ h'=>h'.elim);cases ok with
  |false=>exact zAI ⟨rfl,yY⟩
  |true=>
   exact zAB (zAB (zAw yY (λ x y0 h₄=>zAB (zAw h₄ (λ _ s₅ h₅=>zAI (zAI ⟨rfl,h₅⟩)) λ _ _ h'=>h'.elim)) λ _ _ h'=>h'.elim))
end
def j0(g:TG)(ks:List Nat):Prop:=∀v Z H (Q:St->Hp->Prop),g v Z H Q->g v Z H (λ Z' H'=>Q Z' H'/\Z'.length=Z.length/\∀k,k∉ks->Z'[k]? =Z[k]?)
def xX(g:TGs)(ks:List Nat):Prop:=∀vs Z H (Q:St->Hp->Prop),g vs Z H Q->g vs Z H (λ Z' H'=>Q Z' H'/\Z'.length=Z.length/\∀k,k∉ks->Z'[k]? =Z[k]?)
def aKD(h:i∈ks):j0 (lY i) ks:=λ v Z H Q q=>⟨q,zBf,λ k hk=>zBX (λ(e:i=k)=>hk (e▸h))⟩
def aKC:xX aMm ks:=λ vs Z H Q ⟨e,q⟩=>⟨e,q,rfl,λ _ _=>rfl⟩
def zM(g:TG):Prop:=∀v Z H (Q Q':St->Hp->Prop),(∀Z' H',Q Z' H'->Q' Z' H')->g v Z H Q->g v Z H Q'
def tE(g:TGs):Prop:=∀v Z H (Q Q':St->Hp->Prop),(∀Z' H',Q Z' H'->Q' Z' H')->g v Z H Q->g v Z H Q'
def aKF:zM (lY i):=λ v Z H Q Q' imp q=>imp _ _ q
def aKE:tE aMm:=λ v Z H Q Q' imp ⟨e,q⟩=>⟨e,imp _ _ q⟩
def aHw(h1:zM t)(h2:tE u):tE (aHy t u):=λ vs Z H Q Q' imp ⟨v,r,e,q⟩=>⟨v,r,e,h1 _ _ _ _ _ (λ Z' H' q'=>h2 _ _ _ _ _ imp q') q⟩
def aHs(h1:j0 t ks)(m1:zM t)(h2:xX u ks)(m2:tE u):xX (aHy t u) ks:=λ vs Z H Q ⟨v,r,e,q⟩=>
 ⟨v,r,e,m1 _ _ _ _ _ (λ Z' H' ⟨q',l',k'⟩=>m2 _ _ _ _ _ (λ Z2 H2 ⟨q2,l2,k2⟩=>⟨q2,l2.trans l',λ k hk=>(k2 k hk).trans (k' k hk)⟩) (h2 _ _ _ _ q')) (h1 _ _ _ _ q)⟩
def aMk{K:zAA}(h:xX t ks):j0 (aKG K n t) ks:=λ v Z H Q ⟨a,xs,e1,e2,e3,q⟩=>⟨a,xs,e1,e2,e3,h _ _ _ _ q⟩
def aMl{K:zAA}(h:tE t):zM (aKG K n t):=λ v Z H Q Q' imp ⟨a,xs,e1,e2,e3,q⟩=>⟨a,xs,e1,e2,e3,h _ _ _ _ _ imp q⟩
def yK(X:Cx)(ifs:List Expr)(t:TT):Prop:=
 ∀(kX:hZ) (s:zAE) (Z:St) (H:Hp) (Q:Bool->Hp->Prop),Inv X kX Z H s->t Z H Q->
  wpAny (model X.prog X.w) X.A (forIn ifs true λ c r=>if r=true then do let ok <-isTrue c X.env (eval c X.env);pure (zBl ok)else pure (zBl r)) (TP X kX Z Q) X.xe s
def aOT:TT:=λ _ H Q=>Q true H
def aLp:yK X [] aOT:=λ _ _ _ H _ I h=>wpAny_tests_nil ⟨H,I,h⟩
def aLo(h:PT X c t):yK X [c] t:=λ kX s Z H Q I q=>wpAny_tests_one (h kX s Z H Q I q)
def tLC(wi:TI)(st:St->St)(g:TG)(tt:TT)(te:TE):TE:=λ Z H Q=>wi Z H λ J H1=>∀l,H1 l=none->∃W:Nat->Nat->List V->Hp->Prop,(∃m,W 0 m [] (upd H1 l (.lst [])))/\
 ∀i m acc H2,W i m acc H2->H2 l=some (.lst acc)/\acc.length<zAY/\((J.stop i H2/\Q (.ref l) H2)\/(J.go i H2/\∀x H3,J.yld i H2 x H3->g x (st Z) H3 λ Z4 H4=>tt Z4 H4 λ ok H5=>
  if ok=true then te Z4 H5 λ y H6=>H6 l=some (.lst acc)/\∃m',m'<m/\W (i+1) m' (acc++[y]) (upd H6 l (.lst (acc++[y])))else∃m',m'<m/\W (i+1) m' acc H5))
section
variable{X:Cx}{elt tg iter:Expr}{ifs:List Expr}{scope:Scope}{pos:Pos}{N:List Str}{st:St->St}{ks:List Nat}{wi:TI}{g:TG}{tt:TT}{te:TE}
def aB6(B:cj X scope N st ks)(hc:X.calm=true)(hg:∀C fp z5 zI,PG (X.block scope C N fp z5 zI) tg g)(hgo:j0 g ks)(ht:∀C fp z5 zI,yK (X.block scope C N fp z5 zI) ifs tt)
  (he:∀C fp z5 zI,PE (X.block scope C N fp z5 zI) elt te){H1:Hp}{Q:VK}{RR:Value->Addr->zEe->zAE->Prop}
  (I:Inv X kX Z H1 zS)(T:Turn X.prog X.w X.K tg J fp it tn)(h0:tn 0 zS.heap)(hfp:∀b∈fp,rF X kX H1 b)
  (h:∀l,H1 l=none->∃W:Nat->Nat->List V->Hp->Prop,(∃m,W 0 m [] (upd H1 l (.lst [])))/\
   ∀i m acc H2,W i m acc H2->H2 l=some (.lst acc)/\acc.length<zAY/\((J.stop i H2/\Q (.ref l) H2)\/(J.go i H2/\∀x H3,J.yld i H2 x H3->g x (st Z) H3 λ Z4 H4=>tt Z4 H4 λ ok H5=>
    if ok=true then te Z4 H5 λ y H6=>H6 l=some (.lst acc)/\∃m',m'<m/\W (i+1) m' (acc++[y]) (upd H6 l (.lst (acc++[y])))else∃m',m'<m/\W (i+1) m' acc H5)))
  (hRR:∀D C H' s',(∃Z',Inv (X.block scope C N fp zS H1) [] Z' H' s')->zS.heap.objs.size<=C->Q (.ref D) H'->RR (.ref D) C (.ok .next) s'):
  wpAny (model X.prog X.w) X.A (zFT []) (λ acc y9=>wpAny (model X.prog X.w) X.A (zFb scope X.env.globals (aZ scope X.env) [] X.env.qual none .none (some X.env)) (λ cenv y0=>
   zCF (model X.prog X.w) X.A (.compStart (.ListComp elt [⟨tg,iter,ifs,0⟩] scope pos) 0 (.ref it) acc {cenv with scope:=zGX scope X.env}) (RR acc cenv.locals) y0) E y9) E zS:=by
 refine zBJ (aEK λ zC y6 y7 y3=>?_);dsimp only at y6 y7 y3 ⊢;generalize hH2:zS.heap.push {cls:=.type "list",dict:=none,data:=.seq ([]:List Value).toArray}=P2 at y6 y7 y3 ⊢;have hC:P2.objs.size=zS.heap.objs.size+1:=by rw[<-hH2,zBN]
 have hDC:zS.heap.objs.size≠P2.objs.size:=by rw[hC];exact zA6 (zBy _)
 have oQ:zS.heap.objs.size<=P2.objs.size:=by rw[hC];exact zDG _
 have old:∀b o,zS.heap.get? b=some o->zC.get? b=some o:=λ b o e=>y7 b o (hH2▸zAC _ e)
 have qV:zC.get? zS.heap.objs.size=some {cls:=.type "list",dict:=none,data:=.seq ([]:List Value).toArray}:=y7 _ _ (hH2▸zAS _ rfl);generalize hCe:P2.objs.size=C at y6 y7 y3 hDC oQ hC ⊢;have hHD:H1 zS.heap.objs.size=none:=I.hok.fresh (zAQ _);have I0:Inv (X.block scope C N fp zS H1) [] (st Z) (upd H1 zS.heap.objs.size (.lst [])) {zS with heap:=zC,toks:=zS.toks}:=
  I.block B hfp (λ b hb=>by obtain⟨o,e,_⟩:=T.obj 0 _ h0 b hb;exact⟨o,e⟩) (zAQ _) oQ hDC old y6 y3 (λ c hc=>zA6 (zEG oQ hc)) ⟨zAa _,[],0,.nil,qV⟩
 obtain⟨W,⟨m0,w0⟩,step⟩:=h _ hHD;have h01:tn 0 zC:=T.keep 0 _ _ h0 λ b _ o e=>old b o e
 have aI:∀{H':Hp},(∀b∈fp,H' b=none)->∀b∈fp,rF (X.block scope C N fp zS H1) [] H' b:=λ{H'} hn b hb=>
  ⟨hn b hb,(I0.ok.exf b hb).1,I0.ok.exfs b hb,.inl hb,λ x c e=>(I0.ok.exf b hb).2 x c e,λ p hp=>absurd (show p∈([]:hZ)from hp) (by simp)⟩
 have fr0:∀b∈fp,upd H1 zS.heap.objs.size (.lst []) b=none:=λ b hb=>by
  obtain⟨o,e,_⟩:=T.obj 0 _ h0 b hb;rw[aX (zA6 (zAT e))];exact(hfp b hb).1
 have loop:∀y9:zAE,y9={zS with heap:=zC,toks:=zS.toks}->
   zCF (model X.prog X.w) X.A (.compLoop (.ListComp elt [⟨tg,iter,ifs,0⟩] scope pos) 0 (.ref it) (.ref zS.heap.objs.size) (X.block scope C N fp zS H1).env) (RR (.ref zS.heap.objs.size) C) y9:=by
  rintro y9 rfl;refine aA5 (λ n s'=>∃i acc H2,Inv (X.block scope C N fp zS H1) [] (st Z) H2 s'/\tn i s'.heap/\(∀b∈fp,H2 b=none)/\W i n acc H2) ?_ m0 ⟨0,[],_,I0,h01,fr0,w0⟩;rintro n s3 ⟨i,acc,H2,I2,st2,fr2,w2⟩;obtain⟨hl,hz,alt⟩:=step i n acc H2 w2;rcases alt with ⟨stop,q⟩|⟨go,nxt⟩
  .refine thn (T.done (X.block scope C N fp zS H1) rfl rfl rfl hc i [] s3 (st Z) H2 _ I2 (aI fr2) st2 stop) λ r s4 ⟨hr,I4⟩=>?_
   subst hr;exact hRR _ C H2 s4 ⟨_,I4⟩ oQ q
  .refine thn (T.item (X.block scope C N fp zS H1) rfl rfl rfl hc i [] s3 (st Z) H2 _ I2 (aI fr2) st2 go) λ r s4 ⟨u,hr,h4⟩=>?_
   subst hr;refine thn h4 λ _ s5 ⟨x,H5,I5,r5,y5,st5,fr5⟩=>?_
   have I5':=I5.pinned (aI fr5) (T.obj _ _ st5);refine thn (hg C fp zS H1 _ s5 (st Z) H5 x u _ I5' r5 (hgo _ _ _ _ (nxt x H5 y5))) λ _ s6 ⟨Z6,H6,I6,q6,aF0,ag6⟩=>?_
   refine thn (ht C fp zS H1 _ s6 Z6 H6 _ I6 q6) λ ok s7 ⟨H7,I7,q7⟩=>?_
   have again:∀{H9:Hp} {s9:zAE} {acc':List V},Inv (X.block scope C N fp zS H1) ([]++pP fp s5.heap) Z6 H9 s9->(∃m',m'<n/\W (i+1) m' acc' H9)->
     ∃m,m<n/\∃i acc H2,Inv (X.block scope C N fp zS H1) [] (st Z) H2 s9/\tn i s9.heap/\(∀b∈fp,H2 b=none)/\W i m acc H2:=λ{H9 s9 acc'} I9 ⟨m',hm,w9⟩=>by
    have bP:∀b∈fp,∀o,s5.heap.get? b=some o->s9.heap.get? b=some o/\H9 b=none:=λ b hb o e=>by
     have z:=I9.pin (b,o) (zA7 _ (zA7 _ (iy hb e)));exact⟨z.1,z.2.1⟩
    refine⟨m',hm,i+1,acc',H9,I9.unpinned.weak (by rw[aF0]) (λ k v e=>?_),T.keep _ _ _ st5 λ b hb o e=>(bP b hb o e).1,λ b hb=>?_,w9⟩
    .have hk:k<(st Z).length:=(zAK.mp e).1
     have hkN:k<N.length:=by rw[<-B.len Z];exact hk
     obtain⟨_,hks,_⟩:=B.val Z k _ v (zAH hkN) e;rw[ag6 k hks];exact e
    .obtain⟨o,e,_⟩:=T.obj _ _ st5 b hb
     exact(bP b hb o e).2
   cases ok with
   |false=>
    rw[if_neg zA8]at q7 ⊢;exact again I7 q7
   |true=>
    rw[if_pos rfl]at q7 ⊢;refine thn (he C fp zS H1 _ s7 Z6 H7 _ I7 q7) λ u8 s8 ⟨y,H8,I8,r8,hl8,q8⟩=>?_
    refine thn (sO _ s8 Z6 H8 (.ref zS.heap.objs.size) [y] (.ref zS.heap.objs.size) [u8] (λ _ H9=>H9=upd H8 zS.heap.objs.size (.lst (acc++[y]))) I8 rfl (.cons r8 .nil) ⟨_,acc,y,rfl,rfl,hl8,hz,rfl⟩) λ _ s9 ⟨_,H9,I9,_,e9⟩=>?_
    subst e9;exact again I9 q8
 exact codeAny_compStart_list (loop _ rfl) (T.self X.A 0 _ _ _ h01 (loop _ rfl))
def uw(I:Inv X kX Z H1 zS)(hfp:∀b∈fp,rF X kX H1 b)(h:∃Z',Inv (X.block scope C N fp zS H1) [] Z' H' s'):Inv X kX Z H' s':=by
 obtain⟨Z',J⟩:=h;exact I.call' (ch:=fp) J.os J.base J.hok J.bare λ b hb=>⟨(hfp b hb).2.2.2.1,(hfp b hb).2.1,(hfp b hb).2.2.2.2.1,(hfp b hb).2.2.2.2.2⟩
def aNi(B:cj X scope N st ks)(hc:X.calm=true)(hi:PI X tg iter wi)(hg:∀C fp z5 zI,PG (X.block scope C N fp z5 zI) tg g)(hgo:j0 g ks)(ht:∀C fp z5 zI,yK (X.block scope C N fp z5 zI) ifs tt)
  (he:∀C fp z5 zI,PE (X.block scope C N fp z5 zI) elt te)(hs:∀x,zAz iter X.env x=pure x:=by intro _;rfl):PE X (.ListComp elt [⟨tg,iter,ifs,0⟩] scope pos) (tLC wi st g tt te):=by
 intro kX s Z H Q I h;have hcl:zEf scope X.env=pure (aZ scope X.env):=eX λ y hy hk=>I.ok.has _ (B.free y hy hk)
 rw[eval_ListComp];refine zDZ (use:=none) rfl hs hcl B.kind B.loc (thn (hi kX s Z H _ I h) λ v s1 h1=>thn h1 λ itv s2 h2=>?_);obtain⟨it,fp,tn,J,H2,e,I2,T,st2,f2,hq⟩:=h2;subst e;refine aB6 (RR:=λ acc C=>zJK (model X.prog X.w) X.A X.xe none (EP X kX Z Q) acc C) B hc hg hgo ht he I2 T st2 f2 hq ?_;intro D C H' s' hJ oQ q;have I3:=uw I2 f2 hJ;obtain⟨Z',J'⟩:=hJ;obtain⟨m,hn,_⟩:=id J'.loc;have hHC:H' C=none:=J'.free;refine⟨m,hn,λ h'' hs''=>⟨.ref D,H',?_,rfl,q⟩⟩;exact I3.turned (t':=s'.toks) (λ b o ne e=>(hs''.2 b ne).trans e) hHC (zC6 (zAV I2.lt oQ)) (.inr (zAi I2.sz oQ))
  (λ x c e z=>by obtain⟨v,ic⟩:=I2.cell x c e;exact absurd (zAV ic.lt (by rw[z];exact oQ)) (zB1 _))
  (λ p hp z=>absurd (zAV (I2.pinL hp) (by rw[z];exact oQ)) (zB1 _))
def aBP(hN:X.N.Nodup)(hx1:X.N[i]? =some x)(hx2:Loc X.env.scope x)(B:cj X scope N st ks)(hc:X.calm=true)(hi:PI X tg iter wi)(hg:∀C fp z5 zI,PG (X.block scope C N fp z5 zI) tg g)(hgo:j0 g ks)
  (ht:∀C fp z5 zI,yK (X.block scope C N fp z5 zI) ifs tt)(he:∀C fp z5 zI,PE (X.block scope C N fp z5 zI) elt te)(hsw:zCh (.ListComp elt [⟨tg,iter,ifs,0⟩] scope pos) (some (.Name x pos')) spos.line X.env=pure true)
  (hs:∀x,zAz iter X.env x=pure x:=by intro _;rfl)(hf:X.fn x=true\/X.env.scope.names.lookup x=some .local:=by first|exact .inl rfl|exact .inr rfl|assumption):
  PS X (.Assign [.Name x pos'] (.ListComp elt [⟨tg,iter,ifs,0⟩] scope pos) spos) (zW (tLC wi st g tt te) (lY i)):=by
 intro kX s Z H D I h;have hcl:zEf scope X.env=pure (aZ scope X.env):=eX λ y hy hk=>I.ok.has _ (B.free y hy hk)
 rw[zIh _ _ _ _ hsw];refine zAB (zDD (zAB ?_));show wpAny _ _ (do let _ <-zHx (.ListComp elt [⟨tg,iter,ifs,0⟩] scope pos) scope X.env _ (zFT []) false (eval iter X.env) (some (zDz (.Name x pos') X.env))) _ _ s;refine zAB (zAw (zDZ (use:=some (zDz (.Name x pos') X.env)) (Q:=λ _ s'=>SP X kX D .next s') rfl hs hcl B.kind B.loc (thn (hi kX s Z H _ I h) λ v s1 h1=>thn h1 λ itv s2 h2=>?_)) (λ _ s' hq=>zAI (zAI hq)) λ _ _ e=>e);obtain⟨it,fp,tn,J,H2,e,I2,T,st2,f2,hq⟩:=h2;subst e;refine aB6 (Q:=λ x H1=>lY i x Z H1 D.nx) (RR:=λ acc C=>zJK (model X.prog X.w) X.A X.xe (some (zDz (.Name x pos') X.env)) (λ _ s'=>SP X kX D .next s') acc C) B hc hg hgo ht he I2 T st2 f2 hq ?_;intro DD C H' s' hJ oQ q;have I3:=uw I2 f2 hJ;obtain⟨Z',J'⟩:=hJ;obtain⟨m,hn,_⟩:=id J'.loc;have hHC:H' C=none:=J'.free;have neL:C≠X.env.locals:=zC6 (zAV I2.lt oQ);have neC:∀x c,X.env.cells.lookup x=some c->c≠C:=λ x c e z=>by obtain⟨v,ic⟩:=I2.cell x c e;exact absurd (zAV ic.lt (by rw[z];exact oQ)) (zB1 _)
 show wpAny _ _ (zDz (.Name x pos') X.env (.ref DD)) _ _ _;refine zG0 ?_;refine rN I3 hN hx1 hx2 (show RelV (.ref DD) (.ref DD)from rfl) (λ s4 I4 ⟨a,hsa,ha⟩=>?_) hf;have nea:C≠a:=by
  rcases ha with z|z
  .rw[z];exact neL
  .exact zCy (neC _ _ z)
 refine⟨m,hn.sameBut hsa nea,λ h'' hs''=>⟨_,H',?_,q⟩⟩;exact I4.turned (t':=s4.toks) (λ b o ne e=>(hs''.2 b ne).trans e) hHC neL (.inr (zAi I2.sz oQ)) neC
  (λ p hp z=>absurd (zAV (I2.pinL hp) (by rw[z];exact oQ)) (zB1 _))
end
def CX1(P:zA3)(w:World):CXT:=λ outer H s E e s'=>∃(ea:Addr) (cls a0:Value) (B:Heap) (H':Hp),e= .ref ea/\s'.os=s.os/\zFP s'.gens/\Un (frs outer) [] H H' s.heap s'.heap/\HOk P w H' B/\zJU B outer ea cls a0 s'.heap/\
 (∀b o,s.heap.get? b=some o->H b=none->b∉frs outer->B.get? b=some o)/\(∀b o,s.heap.get? b=some o->b∉frs outer->∃o',B.get? b=some o')/\E cls none H'
structure dJ(X:Cx)(E:XK):Prop where
 stk:X.stack=X.env::X.outer
 fr:X.env.frame=some X.env.locals
 ex:X.ex=[]
 xe:X.xe=λ e s'=>wpAny (model X.prog X.w) X.A (leaving X.env e) (λ _ s''=>CX1 X.prog X.w X.outer X.zI X.z5 E e s'') (λ e' s''=>CX1 X.prog X.w X.outer X.zI X.z5 E e' s'') s'
def dJ.of{K:zAA}:
  dJ (uV (CX1 P w) P w K mg base N qual scope f cd A outer z5 zI E) E:=⟨rfl,rfl,rfl,rfl⟩
section
variable{X:Cx}{E:XK}
def aIB{B h':Heap}(hX:X.ex=[])(I:Inv X kX Z H s)
  (a1:∀b o,s.heap.get? b=some o->H b=none->b∉frs X.stack->B.get? b=some o)(a2:∀b o,s.heap.get? b=some o->b∉frs X.stack->∃o',B.get? b=some o')
  (a3:B.StaysIn h')(a4:∀b o,b∈frs X.outer->s.heap.get? b=some o->H b=none->(∀vs,o.data≠.fields vs)->∃sl,h'.get? b=some {o with slots:=sl})
  (a5:∀b o,s.heap.get? b=some o->H b=none->H' b=none)(a6:∀b xs,H b=some (.tup xs)->H' b=some (.tup xs))(a7:∀b o u,H b=some (.frz o u)->H' b=some (.frz o u))(a8:∀b ps,H b=some (.tbl ps)->∃more,H' b=some (.tbl (ps++more))):
  Un (frs X.outer) [] X.zI H' X.z5.heap h'/\(∀b o,X.z5.heap.get? b=some o->X.zI b=none->b∉frs X.outer->B.get? b=some o)/\(∀b o,X.z5.heap.get? b=some o->b∉frs X.outer->∃o',B.get? b=some o'):=by
 have nx:∀b,b∉X.ex:=λ b z=>by rw[hX]at z;cases z
 have noS:∀b o,X.z5.heap.get? b=some o->b∉frs X.outer->b∉frs X.stack:=λ b o e nf hb=>by
  rcases zAP.mp (I.stkSub b hb)with z|z
  .exact absurd z (zA6 (zAV (zAT e) I.ok.above))
  .exact nf z
 have bk:∀b o,X.z5.heap.get? b=some o->X.zI b=none->b∉frs X.outer->B.get? b=some o:=λ b o e n nf=>
  a1 b o (I.base.keep b o e n nf (nx b)) (I.base.free b o e n (nx b)) (noS b o e nf)
 have ba:∀b o,X.z5.heap.get? b=some o->b∉frs X.outer->∃o',B.get? b=some o':=λ b o e nf=>by
  obtain⟨o1,e1⟩:=I.base.there b o e (nx b);exact a2 b o1 e1 (noS b o e nf)
 have sl:∀b o,X.z5.heap.get? b=some o->X.zI b=none->b∈frs X.outer->∃sl,h'.get? b=some {o with slots:=sl}:=λ b o e n hb=>by
  obtain⟨sl1,e1⟩:=I.base.slot b o e n hb (nx b);obtain⟨_,o2,ho2,hnf⟩:=I.ok.funs.mem hb;rw[e]at ho2;cases ho2;obtain⟨sl2,e2⟩:=a4 b _ hb e1 (I.base.free b o e n (nx b)) hnf;exact⟨sl2,e2⟩
 refine⟨⟨λ b o e n nf _=>a3 b o (bk b o e n nf),λ b o e n hb _=>sl b o e n hb,λ b o e n _=>?_,λ b o e _=>?_,λ b xs e=>a6 b xs (I.base.tups b xs e),λ b o u e=>a7 b o u (I.base.frzs b o u e),λ b ps e=>?_⟩,bk,ba⟩
 .obtain⟨o1,e1⟩:=I.base.there b o e (nx b)
  exact a5 b o1 e1 (I.base.free b o e n (nx b))
 .by_cases hb:b∈frs X.outer
  .obtain⟨s2,e2⟩:=sl b o e (I.ok.frf b hb) hb
   exact⟨_,e2⟩
  .obtain⟨o',e'⟩:=ba b o e hb
   exact⟨o',a3 b o' e'⟩
 .obtain⟨m1,e1⟩:=I.base.tbls b ps e
  obtain⟨m2,e2⟩:=a8 b _ e1;exact⟨m1++m2,by rw[e2,zH8]⟩
def dJ.pass(D:dJ X E):qD (CX1 X.prog X.w) X E:=by
 intro kX Z H s e s' I h;obtain⟨ea,cls,a0,B,H',rfl,os,bare,un,hok,fly,bk,ba,hE⟩:=h;rw[D.xe];have fly':=fly;rw[D.stk]at fly';have hfr:=I.ok.frames;rw[D.stk]at hfr;refine wpAny_leaves_onW (L:=X.env.locals) hfr D.fr fly' λ h' fl up=>?_
 have a4:∀b o,b∈frs X.outer->s.heap.get? b=some o->H b=none->(∀vs,o.data≠.fields vs)->∃sl,h'.get? b=some {o with slots:=sl}:=λ b o hb e n nf=>by
  have hb':b∈frs X.stack:=by
   rw[D.stk];unfold frs;rw[zBQ,D.fr];exact zAG _ hb
  obtain⟨s1,e1⟩:=un.slot b o e n hb' (λ z=>nomatch z);obtain⟨s2,e2⟩:=up b _ e1 nf;exact⟨s2,e2⟩
 obtain⟨u1,u2,u3⟩:=aIB (B:=B) (h':=h') (H':=H') D.ex I bk ba fl.1 a4 (λ b o e n=>un.free b o e n (λ z=>nomatch z)) un.tups un.frzs un.tbls;exact⟨ea,cls,a0,B,H',rfl,os.trans I.os,bare,u1,hok,fl,u2,u3,hE⟩
def dJ.raise(D:dJ X E){ea:Addr}(I:Inv X kX Z H s)
  (hx:Heap.MadeExcOf s.heap h1 ea cls vs)(hE:E cls none H):X.xe (.ref ea) {s with heap:=h1}:=by
 rw[D.xe];have stk:s.heap.FunFrames X.base X.stack:=I.stack;have hin:∀env∈X.stack,∀a,env.frame=some a->a∈frs X.stack:=λ env he a ha=>zBg.mpr ⟨env,he,ha⟩
 have stk2:=zG8 stk hin;have hfr:=I.ok.frames;rw[D.stk]at hfr;have stk3:s.heap.FunFrames (zCE s.heap (frs X.stack)) (X.env::X.outer):=by rw[<-D.stk];exact stk2
 refine wpAny_leaves_madeW (L:=X.env.locals) (base:=zCE s.heap (frs X.stack)) hfr D.fr (λ b o q=>zDr _ q) stk3 hx λ h' t fl tup bn up=>?_
 have hok:HOk X.prog X.w H (zCE s.heap (frs X.stack)):=λ a o e=>by
  refine(I.hok a o e).stay (λ b u hb q=>zC0 _ q λ hm=>?_) (λ _ z=>z) λ _ _ z=>z
  have hn:=I.stkFree b hm;rcases hb with z|z
  .rw[z,e]at hn;cases hn
  .rw[z]at hn;cases hn
 obtain⟨u1,u2,u3⟩:=aIB (B:=zCE s.heap (frs X.stack)) (h':=h') (H':=H) D.ex I (λ b o e n nf=>zC0 _ e nf) (λ b o e nf=>⟨o,zC0 _ e nf⟩) fl.1
  (λ b o hb e n nf=>up b o (hx.keeps b o e) nf) (λ b o e n=>n) (λ _ _ e=>e) (λ _ _ _ e=>e) (λ b ps e=>⟨#[],by rw[e];simp⟩)
 exact⟨ea,cls,.ref t,_,H,rfl,I.os,I.bare,u1,hok,fl,u2,u3,hE⟩
def dJ.own(D:dJ X E):PassesOwn (model X.prog X.w) X.A X.env X.xe:=λ e s' h=>by
 rw[D.xe]at h ⊢;exact wpAny_leaving_again (SameStack.refl _) h
end
section
variable{P:zA3}{w:World}{K:zAA}{mg:Str->Option Value}{base:Heap}
def Fun.okX{st:Stmt}(F:Fun K x q st f fd)(S:aY N ps (aF st))(len:∀vs H Q E,sp vs H Q E->vs.length=ps.length)
  (hbody:∀(cdv:Value) (A:zAc) (outer:List Env) (s:zAE) (H:Hp) (vs:List V) (Q:VK) (E:XK),dj k (A.deeper (zDN q (aF st) s.heap.objs.size f cdv))->sp vs H Q E->
   ∃t,PSs (uV (CX1 P w) P w K mg base N q (aF st) f cdv A outer s H E) (cX st) t/\t {nx:=λ _ H'=>Q .non H',rt:=Q} (start N vs) H):dI P w K mg base (CX1 P w) (k+1) f fd ps sp:=by
 obtain⟨oc,od,kV,doc,pm,an,cdv,ct,osl,rfl,lk,hcd⟩:=F.ex;exact aOB lk hcd S len λ A outer s H vs Q E hr hsp=>hbody cdv A outer s H vs Q E hr hsp
end
def bx(K:zAA)(C:Addr):Prop:=zGT K C [.type "ValueError",.type "Exception",.type "BaseException",.type "object"] "ValueError.__new__"=true
def sH{K:zAA}(X:K.In h)(hm:mg x=some (.ref C))(q:bx K C):OwnCls x C [.type "ValueError",.type "Exception",.type "BaseException",.type "object"] "ValueError.__new__" mg h:=by
 refine⟨hm,?_⟩;unfold bx zGT at q;split at q
 .rename_i dd cd sl ho
  split at q
  .rename_i C' bm k0 k1 k2 k3 n k5 hm' hs
   simp only[zAL,beq_iff_eq,zCX]at q;obtain⟨⟨⟨⟨⟨rfl,rfl⟩,hdel⟩,ht⟩,hok⟩,hni⟩:=q;obtain⟨nm,bs,mro,ns,qn,hd,sn,sub,ab,col,del⟩:=cd;dsimp only at hm' hdel hok hni;subst hm' hdel;have hsl:sl=#[k0,k1,k2,k3,some (.builtin "ValueError.__new__"),k5]:=by
    obtain⟨l⟩:=sl;simp only at hs;rw[hs]
   subst hsl;exact⟨bm,ns,nm,qn,bs,hd,sn,sub,ab,col,dd,k0,k1,k2,k3,k5,_,X _ _ ho,.of_isNs (PySem.W.isNs_of_in X hok),PySem.W.nsMap_none_of_in X hok hni,PySem.W.tail_of_in X ht⟩
  .cases q
 .cases q
def aLW(C:Addr)(E:XK)(ta:TA):TS:=λ _ Z H=>ta Z H λ vs H1=>vs.length<=zAY/\E (.ref C) none H1
section
variable{X:Cx}{E:XK}
def aGu(D:dJ X E)(hc:X.calm=true){rest:List Expr}(hm:X.mg x=some (.ref C))(hC:bx X.K C)(hg:Gl X x)
  (ha:PA X (yT::rest) ta)(he:zA5 (yT::rest) X.env=(false,eval yT X.env)::zA5 rest X.env:=by rfl)
  (hplain:(zCg cpos (zA5 rest X.env)).any (·.1)=false:=by rfl)(hd:Nd x:=by decide):
  PS X (.Raise (some (.Call (.Name x np) (yT::rest) [] cpos)) none pos) (aLW C E ta):=by
 intro kX s Z H DD I h;obtain⟨tl,NN,nm,q,bs,hdct,sn,sub,ab,col,dd,k0,k1,k2,k3,k5,mN,hCo,hN,hni,T⟩:=(sH (h:=X.base) I.mod.kin hm hC).obj;have FB:=PySem.F.excBase_ValueError;refine wpAny_Raise_call_subU (C:=C) (nm:=nm) (q:=q) (N:=NN) (bs:=bs) (bm:=tl) (hdct:=hdct) (sn:=sn) (sub:=sub) (ab:=ab) (col:=col) (dd:=dd) (k0:=k0) (k1:=k1) (k2:=k2) (k3:=k3) (k5:=k5)
  FB FB.hasB FB (mN:=mN) (T.hasType FB.hasBase) (I.ok.hd hc) (by rw[he];show(false||(zCg cpos (zA5 rest X.env)).any (·.1))=false;rw[hplain];rfl) hni
  (oA I hg hm ⟨rfl,?_⟩ hd)
 have harg:=ha cpos kX s Z H _ I h;rw[he]at harg ⊢;refine zHL (zAw harg (λ vs zS y8=>?_) λ _ _ y=>y);obtain⟨xs,H2,I2,rv,hz,hE⟩:=y8;refine⟨rfl,by show vs.length<=zAY;rw[<-rv.length];exact hz,I2.bk _ _ hCo,hN.keeps I2.bk,T.keeps I2.bk,λ h' ea hx=>D.raise I2 hx hE⟩
end
section
variable{κ:Type}[DecidableEq κ]
end
def aOM(i:Expr):Prop:=∀ov iv,zHD i false ov iv=operate [ov,iv] (zHy ov iv)
def aIg{prog:zA3}{w:World}{A:zAc}{E:Value->zAE->Prop}{s:zAE}{env:Env}{value slice:Expr}{pos:Pos}{T id:String}{Q:Value->zAE->Prop}
  (hl:zGZ (.type T) "__getitem__"=pure (some (.builtin id)))(hs:aOM slice)
  (h:wpAny (model prog w) A (eval value env) (λ o zD=>wpAny (model prog w) A (eval slice env) (λ i zS=>zS.TypeIs o T/\wpAny (model prog w) A (zHy o i) Q E zS) E zD) E s):
  wpAny (model prog w) A (eval (.Subscript value slice pos) env) Q E s:=by
 refine zJ1 (zAw h (λ o zD zC=>zAw zC (λ i zS y8=>?_) λ _ _ x=>x) λ _ _ x=>x);obtain⟨hT,y8⟩:=y8;unfold zIB;refine zAB ?_;rw[getitemInPython_of_ne hT.not_modules];refine zAB (zHH hT hl ?_);have fin:wpAny (model prog w) A (zHD slice false o i) (λ r y9=>wpAny (model prog w) A (letTemporaryGo value o r>>=λ _=>pure r) Q E y9) E zS:=by
  rw[hs o i];exact wpAny_operating (zAw y8 (λ r y9 yY=>zAB (wpAny_letTemporaryGo (zAI yY))) λ _ _ x=>x)
 first
  |exact zAI (zAB fin)
  |exact zAB (zAI (zAB fin))
  |exact zAB fin
end L2
namespace Att
open PySem PySem.W PySem.Calls PyProof.Rows
end Att
namespace L2
open PySem PySem.Spec PyProof.Rows
section
variable{κ:Type}[DecidableEq κ]
end
def yD{pos:Pos}{a b:Int}{c cv:Value}(l:List Value)(h:TriplesOk l)(e:zGF pos (l++[zJM a,zJM b,c])=some cv):zGF pos l=some cv\/cv=c:=by
 fun_induction TriplesOk l with
 |case1=>
  simp only[zEo,zGF,zJM]at e;split at e
  .exact .inr (zAl e).symm
  .cases e
 |case2 a' t b' u x rest ih=>
  simp only[zFp,zGF]at e ⊢;split at e
  .rename_i hc;rw[if_pos hc];exact .inl e
  .rename_i hc;rw[if_neg hc];exact ih h e
 |case3 l h1 h2=>exact h.elim
abbrev Cx.noT(X:Cx):Cx:={X with ta:=[]}
section
variable{X:Cx}{kX:hZ}{Z:St}{H:Hp}{s:zAE}
theorem Inv.noT(I:Inv X kX Z H s):Inv X.noT kX Z H s:=
 ⟨⟨I.ok.mod,I.ok.kind,I.ok.glob,I.ok.blt,I.ok.above,I.ok.inj,I.ok.has,I.ok.cab,I.ok.hd,I.ok.frames,I.ok.stk,I.ok.exf,I.ok.bs,I.ok.bsz,I.ok.noex,I.ok.exfs,I.ok.funs,I.ok.frf⟩,
  I.os,I.bare,I.base,I.loc,I.cell,I.free,I.freeC,I.pin,I.hok,I.len,λ p hp=>absurd (show p∈([]:hZ)from hp) (by simp)⟩
def Inv.ofT{H':Hp}{s':zAE}(I:Inv X kX Z H s)(J:Inv X.noT kX Z H' s')(t:∀p∈X.ta,H' p.1=none/\p.1≠X.env.locals/\p.1∉X.fs/\(∀q∈X.pn++kX,q.1≠p.1)/\∃ps,s'.heap.get? p.1=some {cls:=.none,data:=.fields ps}/\TabOk X.tq H' ps):Inv X kX Z H' s':=
 ⟨I.ok,J.os,J.bare,J.base,J.loc,J.cell,J.free,J.freeC,J.pin,J.hok,J.len,t⟩
structure uG(X:Cx)(P:Addr):Prop where
 ta:∃o,X.ta=[(P,o)]
 ex:P∈X.ex
 tq:X.tq=X.env.qual++"<lambda>"
 code:∃c,X.env.code= .ref c/\zIR X.base c P
 blt:X.base.BuiltinsAt X.mg P
 gne:zA9≠P
def aCQ(q:Str)(params:zD3)(body:Expr)(scope:Scope)(cl:List (Str×Addr))(pm:Value)(H:Hp)(f c':Addr)(ctv:Value):Prop:=
 H f=some (.frz (zCc "<lambda>" q params body scope cl pm c' ctv) (.own f))/\∃oc,H c'=some (.frz oc (.own c'))/\aLJ q oc
def aH4{P:Addr}{params:zD3}{body:Expr}{scope:Scope}{pos:Pos}{Q:Value->zAE->Prop}{E:Value->zAE->Prop}(Lx:uG X P)(I:Inv X kX Z H s)(hdef:zJ6 params X.env=([],[]))
  (hfree:∀y∈scope.names,y.2= .free->X.env.kindOf y.1=some .cell\/X.env.kindOf y.1=some .free)
  (h:∀(f c':Addr) (ctv:Value) (H':Hp) (s':zAE),Inv X kX Z H' s'->aO H H'->aCQ X.tq params body scope (aZ scope X.env) ((X.mg "__name__").getD .none) H' f c' ctv->Q (.ref f) s'):
  wpAny (model X.prog X.w) X.A (eval (.Lambda params body scope pos) X.env) Q E s:=by
 obtain⟨o0,hta⟩:=Lx.ta;obtain⟨c,hcode,hC⟩:=Lx.code;obtain⟨hPn,hPL,hPf,hPp,ps,hP,ht⟩:=I.tab (P,o0) (by rw[hta];exact zAF);dsimp only at hPn hPL hPf hPp hP;have hcl:zEf scope X.env=pure (aZ scope X.env):=eX λ y hy hk=>I.ok.has _ (hfree y hy hk)
 have hgs:s.heap.Ns zA9 X.mg:=by
  obtain⟨o,es,ep,e,r⟩:=I.ok.mod.glob;exact⟨o,es,ep,I.bk _ _ e,r⟩
 have hC':zIR s.heap c P:=hC.keeps I.bk;have hb:s.heap.BuiltinsAt X.mg P:=by
  obtain⟨bm,ob,b1,b2,b3,b4,b5,b6⟩:=Lx.blt;exact⟨bm,ob,b1,b2,b3,b4,I.bk _ _ b5,b6⟩
 refine PySem.W.kla_eval hdef ?_;rw[<-Lx.tq];cases hf:zGF pos ps.toList with
 |some cv=>
  obtain⟨c',oc,rfl,hc',hco⟩:=ht.2 pos cv hf;refine PySem.W.kla_makeFunctionHit hcl I.ok.glob hgs hcode hC' hP ht.1 hf hb λ ctv h' tk k hsz=>?_
  have hfr:H h'.objs.size=none:=I.hok.fresh hsz;have sm:aO H (upd H h'.objs.size (.frz (zCc "<lambda>" X.tq params body scope (aZ scope X.env) ((X.mg "__name__").getD .none) c' ctv) (.own h'.objs.size))):=λ b u e=>by rw[aX (cC e hfr)];exact e
  have I':=I.laid (h':=h'.push (zCc "<lambda>" X.tq params body scope (aZ scope X.env) ((X.mg "__name__").getD .none) c' ctv)) (t':=tk) (a:=h'.objs.size) (o:=.frz (zCc "<lambda>" X.tq params body scope (aZ scope X.env) ((X.mg "__name__").getD .none) c' ctv) (.own h'.objs.size)) (λ b u e=>zAC _ (k b u e)) hsz
   ⟨zAS _ rfl,_,zAS _ rfl⟩
  exact h _ c' ctv _ _ I' sm ⟨aa,oc,sm _ _ hc',hco⟩
 |none=>
  refine PySem.W.kla_makeFunction hcl I.ok.glob hgs hcode hC' hP ht.1 hf Lx.gne hb λ c' ctv h' tk hx hge hlt hrec htb=>?_
  obtain⟨c2,oc,vs,t,e2,hoc,hd,hv⟩:=hrec;cases e2;have hcn:H c'=none:=I.hok.fresh hge;have hfn:H h'.objs.size=none:=I.hok.fresh (zAi hge (zB8 hlt));have neT:∀b u,H b=some u->b≠c':=λ b u e=>cC e hcn
  have neP:∀b u,H b=some u->b≠P:=λ b u e=>cC e hPn
  have sm:aO H (upd H c' (.frz oc (.own c'))):=λ b u e=>by rw[aX (neT b u e)];exact e
  have hcne:∀x a,X.env.cells.lookup x=some a->a≠P:=λ x a e z=>by
   obtain⟨v,o,ho,hdd⟩:=I.cell x a e;rw[z,hP]at ho;cases ho;cases hdd
  have J:Inv X.noT kX Z (upd H c' (.frz oc (.own c'))) {s with heap:=h',toks:=tk}:=by
   refine I.noT.step (g':=s.gens) (d':=s.drawn) (ch:=[P]) (λ b hb'=>?_) (λ b o _ _ hc e _=>hx b o (λ z=>hc (by simp[z])) e) (λ b o _ _ hc e _=>⟨o.slots,hx b o (λ z=>hc (by simp[z])) e⟩)
    (λ b o _ e n=>by rw[aX (zA6 (zAV (zAT e) hge))];exact n) (λ b o hc e=>⟨o,hx b o (λ z=>hc (by simp[z])) e⟩)
    (λ b xs e=>sm _ _ e) (λ b o u e=>sm _ _ e) (λ b ps e=>⟨#[],by rw[sm _ _ e];simp⟩) (λ m hm=>hm.extBut hx (λ z=>hPL z.symm)) (λ b u e=>?_) I.bare
   .have e:b=P:=by simpa using hb'
    subst e;exact⟨.inl Lx.ex,hPL,λ x c e=>hcne x c e,λ p hp=>hPp p hp⟩
   .by_cases hbc:b=c'
    .subst hbc
     rw[aa]at e;cases e;exact⟨hoc,oc,hoc⟩
    .rw[aX hbc]at e
     refine(I.hok b u e).stay (λ d v hd' q=>hx d v ?_ q) (λ d q=>sm _ _ q) λ d xs q=>sm _ _ q
     rcases hd' with z|z
     .rw[z];exact neP b u e
     .exact neP d _ z
  have I':=I.ofT J λ p hp=>by
   rw[hta]at hp;have e:p=(P,o0):=by simpa using hp
   subst e;refine⟨by rw[aX (zA6 (zAV (zAT hP) hge))];exact hPn,hPL,hPf,hPp,_,htb,?_⟩;refine⟨?_,λ pos2 cv e=>?_⟩
   .rw[zHS]
    exact TriplesOk_snoc _ _ _ _ ht.1
   .rw[zHS]at e
    rcases yD _ ht.1 e with z|z
    .obtain⟨c2,oc2,z1,z2,z3⟩:=ht.2 pos2 cv z
     exact⟨c2,oc2,z1,sm _ _ z2,z3⟩
    .exact⟨c',oc,z,aa,vs,t,hd,hv⟩
  have hfr:upd H c' (.frz oc (.own c')) h'.objs.size=none:=by rw[aX (zC6 hlt)];exact hfn
  have sm2:aO (upd H c' (.frz oc (.own c'))) (upd (upd H c' (.frz oc (.own c'))) h'.objs.size (.frz (zCc "<lambda>" X.tq params body scope (aZ scope X.env) ((X.mg "__name__").getD .none) c' ctv) (.own h'.objs.size))):=λ b u e=>by rw[aX (cC e hfr)];exact e
  have I2:=I'.laid (h':=h'.push (zCc "<lambda>" X.tq params body scope (aZ scope X.env) ((X.mg "__name__").getD .none) c' ctv)) (t':=tk) (a:=h'.objs.size) (o:=.frz (zCc "<lambda>" X.tq params body scope (aZ scope X.env) ((X.mg "__name__").getD .none) c' ctv) (.own h'.objs.size)) (λ b u e=>zAC _ e) (zAQ _)
   ⟨zAS _ rfl,_,zAS _ rfl⟩
  exact h _ c' ctv _ _ I2 (sm.trans sm2) ⟨aa,oc,sm2 _ _ aa,vs,t,hd,hv⟩
def aO0(q:Str)(params:zD3)(body:Expr)(scope:Scope)(cl:List (Str×Addr))(pm:Value):TE:=λ Z H Q=>∀f c' ctv H',aO H H'->aCQ q params body scope cl pm H' f c' ctv->Q (.ref f) H'
def aLu{P:Addr}{params:zD3}{body:Expr}{scope:Scope}{pos:Pos}(Lx:uG X P)(hdef:zJ6 params X.env=([],[]))
  (hfree:∀y∈scope.names,y.2= .free->X.env.kindOf y.1=some .cell\/X.env.kindOf y.1=some .free):PE X (.Lambda params body scope pos) (aO0 X.tq params body scope (aZ scope X.env) ((X.mg "__name__").getD .none)):=
 λ kX s Z H Q I h=>aH4 Lx I hdef hfree λ f c' ctv H' s' I' sm l=>⟨.ref f,H',I',rfl,h f c' ctv H' sm l⟩
end
def aCZ(X:Cx)(k0:Nat)(i:Nat)(E:XK):TE:=λ Z H Q=>∃f cls dd sl fd k sp,Z[i]? =some (some (.ref f))/\H f=some (.frz ⟨cls,dd,.func fd,sl⟩ (.own f))/\dI X.prog X.w X.K X.mg X.base (CX1 X.prog X.w) k f fd [] sp/\k<=k0/\Binds X.K fd [] []/\sp [] H Q E
def aHB{X:Cx}{k0 i:Nat}{y:Str}{p pos:Pos}{E:XK}(hr:dj k0 X.A)(hx:qD (CX1 X.prog X.w) X E)(hN:X.N[i]? =some y)(hv:Vis X.env.scope y)(hd:Nd y:=by decide)(hcd:(y==("__classdict__":Str))=false:=by decide):
  PE X (.Call (.Name y p) [] [] pos) (aCZ X k0 i E):=by
 intro kX s Z H Q I ⟨f,cls,dd,sl,fd,k,sp,hs,hf,F,hk,hb,h⟩;have fin:wpAny (model X.prog X.w) X.A (eval (.Name y p) X.env) (λ v s'=>v= .ref f/\s'=s) X.xe s:=by
  obtain⟨mm,hnn,hl⟩:=I.loc;obtain⟨u,ru,l⟩:=hl i y _ hN hs hv;cases ru;rcases l with ⟨hk2,hm⟩|⟨hk2,c,hc,hcell⟩
  .exact zF4 (zIs I.ok.kind hk2 hnn hm ⟨rfl,rfl⟩) hd
  .rcases hk2 with hk2|hk2
   .exact zF4 (zIz I.ok.kind hk2 hc hcell ⟨rfl,rfl⟩) hd
   .exact zF4 (zJA I.ok.kind hk2 hc hcell ⟨rfl,rfl⟩ hcd) hd
 refine zCt (thn fin λ v s' ⟨ev,es'⟩=>?_);subst ev es';obtain⟨ho,_⟩:s'.heap.get? f=some _/\_:=I.hok f _ hf;have KX:PySem.W.Frag.In [(f,⟨cls,dd,.func fd,sl⟩)] s'.heap:=λ b o e=>by
  rw[zAu]at e;by_cases hbf:b=f
  .subst hbf
   simp only[beq_self_eq_true]at e;cases e;exact ho
  .simp only[beq_eq_false_iff_ne.mpr hbf]at e
   cases e
 exact PySem.W.callWith_K0 (K:=[(f,⟨cls,dd,.func fd,sl⟩)]) KX (by simp[zBm,zAu]) (aG5 (us:=[]) F (hr.mono hk) hb .nil hx I .nil h)
def cxL(P:zA3)(w:World)(K:zAA)(mg:Str->Option Value)(base:Heap)(N:List Str)(q:Str)(scope:Scope)(cl:List (Str×Addr))(f:Addr)(cd:Value)(A:zAc)(outer:List Env)(s:zAE)(H:Hp)(E:XK):Cx where
 prog:=P
 w:=w
 K:=K
 mg:=mg
 base:=base
 A:=A.deeper (zCz q scope s.heap.objs.size f cd cl)
 N:=N
 z5:=s
 zI:=H
 env:=zCz q scope s.heap.objs.size f cd cl
 outer:=outer
 stack:=zCz q scope s.heap.objs.size f cd cl::outer
 ex:=[]
 calm:=true
 fn:=λ _=>false
 pn:=[]
 xe:=λ e s'=>wpAny (model P w) (A.deeper (zCz q scope s.heap.objs.size f cd cl)) (leaving (zCz q scope s.heap.objs.size f cd cl) e) (λ _ s''=>CX1 P w outer H s E e s'') (λ e' s''=>CX1 P w outer H s E e' s'') s'
def dJ.ofL{P:zA3}{w:World}{K:zAA}{mg:Str->Option Value}{base:Heap}{N:List Str}{q:Str}{scope:Scope}{cl:List (Str×Addr)}{f:Addr}{cd:Value}{A:zAc}{outer:List Env}{s:zAE}{H:Hp}{E:XK}:
  dJ (cxL P w K mg base N q scope cl f cd A outer s H E) E:=⟨rfl,rfl,rfl,rfl⟩
structure xW(scope:Scope):Prop where
 kind:scope.kind= .function
 co:scope.isCoroutine=false
 gen:scope.isGenerator=false
 cell:∀y∈scope.names,y.2≠.cell
 loc:∀y∈scope.names,y.2≠.local
structure aIa(base:Heap)(N:List Str)(Z:St)(scope:Scope)(cl:List (Str×Addr)):Prop where
 inj:∀x y c,cl.lookup x=some c->cl.lookup y=some c->x=y
 has:∀x,scope.names.lookup x=some .free->∃c,cl.lookup x=some c
 cell:∀x c,cl.lookup x=some c->∃v,base.IsCell c v
 val:∀(i:Nat) x v,N[i]? =some x->Z[i]? =some (some v)->scope.names.lookup x=some .free->∃c u,cl.lookup x=some c/\RelV v u/\base.IsCell c (some u)
 len:Z.length=N.length
def aM0{P:zA3}{w:World}{K:zAA}{mg:Str->Option Value}{base:Heap}{N:List Str}{q:Str}{params:zD3}{scope:Scope}{cl:List (Str×Addr)}{f c':Addr}{pm ctv:Value}{body:Expr}{k:Nat}{Z:St}{H1:Hp}{sp:Sp}
  (la:aCQ q params body scope cl pm H1 f c' ctv)(S:xW scope)(cp:aIa base N Z scope cl)
  (len:∀vs H Q E,sp vs H Q E->vs=[]/\aO H1 H)
  (hbody:∀(A:zAc) (outer:List Env) (s:zAE) (H:Hp) (Q:VK) (E:XK),dj k (A.deeper (zCz q scope s.heap.objs.size f (.ref c') cl))->sp [] H Q E->∃te,PE (cxL P w K mg base N q scope cl f (.ref c') A outer s H E) body te/\te Z H Q):
  dI P w K mg base (CX1 P w) (k+1) f (zGD "<lambda>" q params body scope cl pm (.ref c') ctv) [] sp:=by
 refine⟨λ vs H Q E h=>by rw[(len vs H Q E h).1];rfl,λ A outer s H args us vs Q E hr e0 hb r hsp=>?_⟩;obtain⟨rfl,hsm⟩:=len _ _ _ _ hsp;obtain⟨te,hpe,hte⟩:=hbody A outer s H Q E (hr.deeper _) hsp;have e8:s.heap.NoLimit:=e0.mod.nolimit.keeps λ b o e=>(e0.bs b o e).1
 obtain⟨hf,oc,hc,hco⟩:=la;obtain⟨ho,_⟩:s.heap.get? f=some _/\_:=e0.hok f _ (hsm _ _ hf);obtain⟨hoc,_⟩:s.heap.get? c'=some oc/\_:=e0.hok c' _ (hsm _ _ hc);obtain⟨vs,t,hd,hv⟩:=hco;refine PySem.W.kla_callFunE hr.depth ho rfl S.co S.gen rfl ⟨c',oc,vs,t,rfl,hoc,hd,hv⟩ (hb _ _ _ _ ?_);refine wpAny_newFunctionEnv S.cell (by intro y hy;simp at hy) (λ zC hns hsb=>?_) S.kind;have hk₁:∀b o,s.heap.get? b=some o->zC.get? b=some o:=λ b o e=>hsb.extBut b o (zA6 (zAT e)) (zAC _ e)
 refine⟨e8.keeps hk₁,?_⟩;show zCF _ _ (.expr body (zCz q scope s.heap.objs.size f (.ref c') cl)) _ _;have kb:∀b o,base.get? b=some o->zC.get? b=some o:=λ b o e=>hk₁ b o (e0.bs b o e).1
 have I:Inv (cxL P w K mg base N q scope cl f (.ref c') A outer s H E) [] Z H {s with heap:=zC,toks:=s.toks+(([]:List Str).zip us).length}:=by
  refine⟨⟨e0.mod,S.kind,rfl,rfl,zAQ _,cp.inj,λ x hx=>?_,λ x c z=>absurd z zA8,λ _=>hr.hd,zGv e0.frames,.inr ⟨rfl,rfl⟩,λ b z=>(nomatch z),e0.bs,e0.bsz,λ b _ _=>λ z=>(nomatch z),λ b z=>(nomatch z),e0.funs,e0.frf⟩,
   rfl,e0.bare,Un.kept hk₁,⟨_,hns,λ i x v e1 e2 e3=>?_⟩,λ x c e=>?_,e0.hok.fresh (zAQ _),λ x c e=>?_,λ p hp=>(nomatch hp),e0.hok.kept hk₁,cp.len,λ p hp=>(nomatch hp)⟩
  .rcases hx with z|z
   .exact absurd rfl (S.cell _ (zAm z))
   .exact cp.has x z
  .rcases e3 with z|z|z
   .exact absurd rfl (S.loc _ (zAm z))
   .exact absurd rfl (S.cell _ (zAm z))
   .obtain⟨c,u,c1,c2,c3⟩:=cp.val i x v e1 e2 z
    exact⟨u,c2,.inr ⟨.inr z,c,c1,c3.keeps kb⟩⟩
  .obtain⟨v,z⟩:=cp.cell x c e
   exact⟨v,z.keeps kb⟩
  .obtain⟨v,o,z,_⟩:=cp.cell x c e
   exact(e0.bs c o z).2
 refine PySem.W.kla_codeExpr (zAw (hpe [] _ Z H _ I hte) (λ u s' hq=>?_) λ e s' hq=>hq);obtain⟨v,H',J,rv,q⟩:=hq;exact⟨v,H',J.os,J.bare,J.base,J.hok,rv,q⟩
def bse(X:Cx)(s:zAE)(H:Hp):Heap:=zCE s.heap (trk s.heap H++frs X.stack)
section
variable{X:Cx}{kX:hZ}{Z:St}{H:Hp}{s:zAE}
def aEd{b:Addr}{o:Obj}(e:s.heap.get? b=some o)(n:H b=none)(nf:b∉frs X.stack):(bse X s H).get? b=some o:=
 zC0 _ e λ hm=>by
  rcases zAh.mp hm with z|z
  .have q:(H b).isSome=true:=(zAR.mp z).2
   rw[n]at q;cases q
  .exact nf z
def aMz{b:Addr}{o:Obj}(e:(bse X s H).get? b=some o):s.heap.get? b=some o/\H b=none:=by
 have e1:=zDr _ e;refine⟨e1,?_⟩;cases q:H b with
 |none=>rfl
 |some u=>
  have hm:b∈trk s.heap H++frs X.stack:=zA1 _ (zAR.mpr ⟨zBF.mpr (zAT e1),by rw[q];rfl⟩);have z:(zCE s.heap (trk s.heap H++frs X.stack)).get? b=none:=zEc _ hm;have e2:(zCE s.heap (trk s.heap H++frs X.stack)).get? b=some o:=e;rw[z]at e2;cases e2
def Inv.env1(I:Inv X kX Z H s):aCS X.prog X.w X.K X.mg (bse X s H) X.A X.stack s H:=by
 have kb:∀b o,X.base.get? b=some o->(bse X s H).get? b=some o:=λ b o e=>aEd (I.bs b o e).1 (I.bs b o e).2 λ hb=>by
  have z:=(I.stack.mem hb).1;rw[e]at z;cases z
 have ns:∀{b:Addr} {m:Str->Option Value},X.base.Ns b m->(bse X s H).Ns b m:=λ{b m} ⟨o,es,ep,e,r⟩=>⟨o,es,ep,kb _ _ e,r⟩
 refine⟨I.ok.frames,⟨I.mod.kin.keeps kb,ns I.mod.glob,?_,I.mod.nolimit.keeps kb⟩,λ b o e=>aMz e,zHY (zEd _ _),zG8 I.stack λ env he a ha=>zA7 _ (zBg.mpr ⟨env,he,ha⟩),I.stkFree,I.hok,I.bare⟩;obtain⟨mb,h1,h2⟩:=I.mod.blt;exact⟨mb,ns h1,h2⟩
def aIw{CX:CXT}{k:Nat}{f:Addr}{fd:zAq}{ps:List Str}{sp:Sp}{E:XK}{Q:VK}{vs:List V}{us:List Value}(I:Inv X kX Z H s)(F:dI X.prog X.w X.K X.mg (bse X s H) CX k f fd ps sp)(hr:dj k X.A)(hb:Binds X.K fd ps [])(hx:qD CX X E)
  (r:Vals vs us)(h:sp vs H Q E):wpAny (model X.prog X.w) X.A (call (.ref f) us) (EP X kX Z Q) X.xe s:=by
 have hl:(us++[]).length=ps.length:=by rw[zBD,<-r.length];exact F.len _ _ _ _ h
 have hb':=hb s us I.kIn hl;rw[zBD]at hb';refine zHl (zC9 (F.run X.A X.stack s H ⟨us,[]⟩ us vs Q E hr I.env1 hb' r h) λ r s' hq=>?_);cases r with
 |error e=>exact hx kX Z H s e s' I hq
 |ok fl=>
  cases fl with
  |ret u=>exact I.after hq
  |next=>exact zAN hq
  |brk=>exact zAN hq
  |cont=>exact zAN hq
def aMy{scope:Scope}(I:Inv X kX Z H s)(ho:X.outer=[])(S:xW scope)(hfree:∀y∈scope.names,y.2= .free->X.env.kindOf y.1=some .cell\/X.env.kindOf y.1=some .free):aIa (bse X s H) X.N Z scope (aZ scope X.env):=by
 have cb:∀x c v,X.env.cells.lookup x=some c->s.heap.IsCell c v->(bse X s H).IsCell c v:=λ x c v e ⟨o,h1,h2⟩=>⟨o,aEd h1 (I.freeC x c e) λ hb=>by
  rcases zAP.mp (I.stkSub c hb)with z|z
  .exact I.cne x c e z
  .have z2:c∈frs X.outer:=z
   rw[ho]at z2;exact absurd z2 (by simp[frs]),h2⟩
 have hk:∀x,scope.names.lookup x=some .free->X.env.kindOf x=some .cell\/X.env.kindOf x=some .free:=λ x hx=>hfree (x,.free) (zAm hx) rfl
 refine⟨λ x y c e1 e2=>I.ok.inj x y c (fJ e1) (fJ e2),λ x hx=>?_,λ x c e=>?_,λ i x v e1 e2 hx=>?_,I.len⟩
 .obtain⟨c,hc⟩:=I.ok.has x (hk x hx)
  exact⟨c,qu hx hc⟩
 .obtain⟨v,z⟩:=I.cell x c (fJ e)
  exact⟨v,cb x c v (fJ e) z⟩
 .obtain⟨m,hn,hl⟩:=I.loc
  obtain⟨u,ru,hu⟩:=hl i x v e1 e2 ((hk x hx).elim (λ z=>.inr (.inl z)) λ z=>.inr (.inr z));rcases hu with ⟨k,_⟩|⟨_,c,ec,ic⟩
  .rcases hk x hx with z|z
   .exact absurd (k.symm.trans z) (by decide)
   .exact absurd (k.symm.trans z) (by decide)
  .exact⟨c,u,qu hx ec,ru,cb x c _ ec ic⟩
end
abbrev bmV:List Value:=[.type "ValueError",.type "Exception",.type "BaseException",.type "object"]
section
variable{prog:zA3}{w:World}{A:zAc}{E:Value->zAE->Prop}{h:Heap}{g:Array zDj}{d:Drawn}{t:Nat}{os:OsState}{a:Addr}{o:Obj}
 {nm q:Str}{C N:Addr}{bs bm:List Value}{hdct:Bool}{sn:List Str}{sub:List Value}{ab:Bool}{col:Option Bool}{dd:Option Addr}{k0 k1 k2 k3 k5:Option Value}{newId:String}{K:zAA}
def aBw{R:zEe->zAE->Prop}(hC:h.get? C=some (zEu nm q C N bs bm hdct sn sub ab col dd k0 k1 k2 k3 k5 newId))(T:OwnTail h bmV bm)
  (hx:h.get? a=some o)(hc:o.cls= .ref C)(hq:R (.ok (.ret (.ref C))) ⟨h,g,d,t,os⟩):
  zCF (model prog w) A (.call (.builtin "getset_descriptor.__get__") ⟨[.builtin "object.__class__",.ref a,.ref C],[]⟩) R ⟨h,g,d,t,os⟩:=by
 have hT5:(⟨h,g,d,t,os⟩:zAE).TypeIs (.builtin "object.__class__") "getset_descriptor":=zFD;have hcB:(zAx C::bm).contains (.type (".".intercalate ("object.__class__".cutAt '.').dropLast))=true:=by
  rw[F.owner_object_class,zFY,T.hasType (X:="object") (b:=true) (by decide+kernel)];rfl
 refine zF6 zHT.plain F.entry_gs_get (zHT.check _ _ _ _ _ _ _ _ hT5 (F.args_gs_get _ _ _) ?_)
 repeat (any_goals (first|assumption|(with_reducible refine zC8 hx ?_;rw[hc])|(with_reducible refine zEM hC ?_;rw[hcB])|wp_step))
 refine⟨zHn _ (by decide+kernel),zBZ F.entry_object_class ?_⟩
 repeat (any_goals (first|assumption|(with_reducible refine zC8 hx ?_;rw[hc])|wp_step))
def aA7{M:Model}{nameV:Value}{Q:Unit->zAE->Prop}(hC:h.get? C=some (zEu nm q C N bs bm hdct sn sub ab col dd k0 k1 k2 k3 k5 newId))(T:OwnTail h bmV bm)
  (hx:h.get? a=some o)(hc:o.cls= .ref C)(hq:Q () ⟨h,g,d,t,os⟩):wpAny M A (zGl "BaseException.__getattribute__" ⟨[.ref a,nameV],[]⟩) Q E ⟨h,g,d,t,os⟩:=by
 have hk:builtinKind "BaseException.__getattribute__"=some .slot:=by decide+kernel
 have fA:splitId "BaseException.__getattribute__"=some ("BaseException","__getattribute__"):=by decide+kernel
 have hcB:(zAx C::bm).contains (.type "BaseException")=true:=by rw[zFY,T.hasType (X:="BaseException") (b:=true) (by decide+kernel)];rfl
 have ha:=F.args_bexc_ga (.ref a) nameV;simp only[zGl,hk,fA];refine zAB ?_
 .unfold isInstance
  repeat (first|(with_reducible refine zC8 hx ?_;rw[hc])|(with_reducible refine zEM hC ?_;rw[hcB])|wp_step)
  exact hq
def yE{tk:Tok}{Q:Fin->zAE->Prop}(hC:h.get? C=some (zEu nm q C N bs bm hdct sn sub ab col dd k0 k1 k2 k3 k5 newId))(T:OwnTail h bmV bm)(lk:∀M:Model,zFE M h (zGZ (.ref C) "__class__") (some (.builtin "object.__class__")))
  (hx:h.get? a=some o)(hc:o.cls= .ref C)(hq:Q (.done (.ret (.ref C))) ⟨h,g,d,t,os⟩):
  wpAny (model prog w) A (zD4.«object.__getattribute__» ⟨[.ref a,.str "__class__" tk],[]⟩) Q E ⟨h,g,d,t,os⟩:=by
 have hT5:(⟨h,g,d,t,os⟩:zAE).TypeIs (.builtin "object.__class__") "getset_descriptor":=zFD;have f5:=zFD;have f6:=zHT.lookup;have f7:=F.slot_gs_set.lookup
 repeat (any_goals (first|assumption|(with_reducible refine zC8 hx ?_;rw[hc])|with_reducible refine(lk _).here ?_|wp_step))
 refine aBw hC T hx hc ?_
 repeat (any_goals (first|assumption|wp_step))
def aA6{Q:Option Value->zAE->Prop}(hC:h.get? C=some (zEu nm q C N bs bm hdct sn sub ab col dd k0 k1 k2 k3 k5 newId))(T:OwnTail h bmV bm)(lk:∀M:Model,zFE M h (zGZ (.ref C) "__class__") (some (.builtin "object.__class__")))
  (lg:∀M:Model,zFE M h (zGZ (.ref C) "__getattribute__") (some (.builtin "BaseException.__getattribute__")))(ln:∀M:Model,zFE M h (zGZ (.ref C) "__getattr__") none)
  (hx:h.get? a=some o)(hc:o.cls= .ref C)(hq:Q (some (.ref C)) ⟨h,g,d,t+1,os⟩):wpAny (model prog w) A (getAttr? (.ref a) "__class__") Q E ⟨h,g,d,t,os⟩:=by
 have by_exc:∀{E:Value->zAE->Prop} {t:Nat} {tk:Tok} {Q:Value->zAE->Prop},Q (.ref C) ⟨h,g,d,t,os⟩->wpAny (model prog w) A (getAttrBy (.ref a) (.str "__class__" tk) false) Q E ⟨h,g,d,t,os⟩:=by
  intro E t tk Q hq;have FB:=PySem.F.excAttr_ValueError;have f3:=FB.ga.bind (.ref a);have hx0:(false&&onTheHeap (zEY "BaseException.__getattribute__"))=false:=rfl;have hx2:(zEY "BaseException.__getattribute__"==zEY "object.__getattribute__")=false:=by decide+kernel
  have hx1:(onTheHeap (zAx C)&&zEY "BaseException.__getattribute__"==zEY "object.__getattribute__")=false:=by rw[hx2];rfl
  repeat (any_goals (first|assumption|(with_reducible refine zC8 hx ?_;rw[hc])|with_reducible refine(lg _).here ?_|with_reducible refine(ln _).here ?_|wp_step))
  refine zF6 FB.ga.plain F.entry_bexc_ga (aA7 hC T hx hc (yE hC T lk hx hc ?_))
  repeat (any_goals (first|assumption|wp_step))
 unfold getAttr? getAttrBy?
 repeat (any_goals (first|assumption|with_reducible apply by_exc|wp_step))
def aH9(hE:bx K C)(ha:zBT K (.ref C) "__class__"=some (some (.builtin "object.__class__")))(hgt:zBT K (.ref C) "__getattribute__"=some (some (.builtin "BaseException.__getattribute__")))
  (hga:zBT K (.ref C) "__getattr__"=some none):PySem.W.KitX K (.ref a) (.ref C) (λ h=>∃o,h.get? a=some o/\o.cls= .ref C) where
 ty:=λ M h _ ⟨o,h1,h2⟩=>h2▸(zJZ h1).andThen .now
 it:=λ M h X _=>by
  obtain⟨bm,NN,nm,q,bs,hdct,sn,sub,ab,col,dd,k0,k1,k2,k3,k5,mN,hC,_⟩:=(sH (h:=h) (mg:=λ _=>some (.ref C)) (x:="x") X rfl hE).obj;intro A' Q' E' s' k q;unfold isType loadHead;exact zAB (wpAny_loadPart (k _ _ hC) (zAI q))
 ne:=λ h tp dd its n sl X htp=>by
  obtain⟨bm,NN,nm,q,bs,hdct,sn,sub,ab,col,dd,k0,k1,k2,k3,k5,mN,hC,_⟩:=(sH (h:=h) (mg:=λ _=>some (.ref C)) (x:="x") X rfl hE).obj;refine zIF.mpr λ z=>?_
  have e:C=tp:=Value.ref.inj (beq_iff_eq.mp z);subst e;rw[hC]at htp;exact absurd (congrArg Obj.cls (zAl htp)) (by show zBt "type"≠zBt "tuple";decide+kernel)
 ca:=λ{prog w A E Q s} X ⟨o,h1,h2⟩ k=>by
  obtain⟨h,g,d,t,os⟩:=s;obtain⟨bm,NN,nm,q,bs,hdct,sn,sub,ab,col,dd,k0,k1,k2,k3,k5,mN,hC,hN,hni,T⟩:=(sH (h:=h) (mg:=λ _=>some (.ref C)) (x:="x") X rfl hE).obj;exact aA6 hC T (λ M=>zDb X ha) (λ M=>zDb X hgt) (λ M=>zDb X hga) h1 h2 k
end
def excφ(a C:Addr):Heap->Prop:=λ h=>∃o,h.get? a=some o/\o.cls= .ref C
def excφ_stay{a C:Addr}:∀h1 h2:Heap,excφ a C h1->(∀o,h1.get? a=some o->h2.get? a=some o)->excφ a C h2:=λ h1 h2 ⟨o,e,c⟩ k=>⟨o,k o e,c⟩
structure aK6(K:zAA)(C:Addr):Prop where
 ex:bx K C
 ca:zBT K (.ref C) "__class__"=some (some (.builtin "object.__class__"))
 gt:zBT K (.ref C) "__getattribute__"=some (some (.builtin "BaseException.__getattribute__"))
 ga:zBT K (.ref C) "__getattr__"=some none
section
variable{X:Cx}
def aKo(K:zAA):List V->Hp->VK->Prop:=λ xs H Q=>∃a C y c b,xs=[.ref a,y]/\RelV y c/\H a=some (.ext (excφ a C))/\aK6 K C/\zCB K (.ref C) c=some b/\Q (.bl b) H
def aFn:cg X (.builtin "isinstance") (aKo X.K):=by
 intro kX s Z H xs us Q I r h;obtain⟨a,C,y,c,b,rfl,ry,ha,kc,e,q⟩:=h;obtain⟨u,w',rfl,r1,r2⟩:=vals2 r;cases r1;have hc:w'=c:=by
  cases y<;>first
   |(cases r2;cases ry;rfl)
   |(obtain⟨t1,rfl⟩:=r2;obtain⟨t2,rfl⟩:=ry;exact absurd e (by simp[zCB,PySem.W.kitCls]))
 subst hc;obtain⟨p,_⟩:excφ a C s.heap/\_:=I.hok a _ ha;exact zBS (aH9 kc.ex kc.ca kc.gt kc.ga) I.kIn p e (λ z=>nomatch z) λ tk=>⟨.bl b,H,I.tok tk,rfl,q⟩
end
abbrev Cx.re(X:Cx)(A:zAc)(c:Bool)(pl:hZ)(E:Value->zAE->Prop):Cx:={X with A:=A,calm:=c,pn:=X.pn++pl,xe:=E}
section
variable{X:Cx}{kX:hZ}{Z:St}{H:Hp}{s:zAE}
theorem Inv.re{A:zAc}{c:Bool}{E:Value->zAE->Prop}(I:Inv X kX Z H s)(hf:A.frames=X.A.frames)(hd:c=true->A.handled=none):Inv (X.re A c kX E) [] Z H s:=
 ⟨⟨I.ok.mod,I.ok.kind,I.ok.glob,I.ok.blt,I.ok.above,I.ok.inj,I.ok.has,I.ok.cab,hd,hf.trans I.ok.frames,I.ok.stk,I.ok.exf,I.ok.bs,I.ok.bsz,I.ok.noex,I.ok.exfs,I.ok.funs,I.ok.frf⟩,
  I.os,I.bare,I.base,I.loc,I.cell,I.free,I.freeC,λ p hp=>I.pin p (by rw[zBD]at hp;exact hp),I.hok,I.len,λ p hp=>let⟨a,b,c,d,e⟩:=I.tab p hp;⟨a,b,c,λ q hq=>d q (by rw[zBD]at hq;exact hq),e⟩⟩
def Inv.unre{A:zAc}{c:Bool}{E:Value->zAE->Prop}{pins2:hZ}{Z2:St}{H2:Hp}{s2:zAE}(ok:X.Ok)(J:Inv (X.re A c kX E) pins2 Z2 H2 s2):Inv X kX Z2 H2 s2:=
 ⟨ok,J.os,J.bare,J.base,J.loc,J.cell,J.free,J.freeC,λ p hp=>J.pin p (zA1 _ hp),J.hok,J.len,λ p hp=>let⟨a,b,c,d,e⟩:=J.tab p hp;⟨a,b,c,λ q hq=>d q (zA1 _ hq),e⟩⟩
def Inv.track{a:Addr}{o:HO}(I:Inv X kX Z H s)(ha:H a=none)(h0:X.z5.heap.get? a=none)(hL:X.env.locals≠a)(hc:∀x c,X.env.cells.lookup x=some c->c≠a)(hp:∀p∈X.ta++(X.pn++kX),p.1≠a)
  (new:cP X.prog X.w (upd H a o) s.heap a o):Inv X kX Z (upd H a o) s:=by
 have ne:∀b u,H b=some u->b≠a:=λ b u e=>cC e ha
 refine⟨I.ok,I.os,I.bare,⟨I.base.keep,I.base.slot,λ b ob e n nx=>?_,I.base.there,λ b xs e=>?_,λ b ob u e=>?_,λ b ps e=>?_⟩,I.loc,I.cell,?_,λ x c e=>?_,λ p hp'=>?_,λ b u e=>?_,I.len,λ p hp'=>?_⟩
 .rw[aX (λ z=>by rw[z,h0]at e;cases e)]
  exact I.base.free b ob e n nx
 .have e1:=I.base.tups b xs e
  rw[aX (ne b _ e1)];exact e1
 .have e1:=I.base.frzs b ob u e
  rw[aX (ne b _ e1)];exact e1
 .obtain⟨m,e1⟩:=I.base.tbls b ps e
  exact⟨m,by rw[aX (ne b _ e1)];exact e1⟩
 .rw[aX hL];exact I.free
 .rw[aX (hc x c e)];exact I.freeC x c e
 .obtain⟨p1,p2,p3⟩:=I.pin p hp'
  exact⟨p1,by rw[aX (hp p (zA7 _ hp'))];exact p2,p3⟩
 .by_cases hb:b=a
  .subst hb;rw[aa]at e;cases e;exact new
  .rw[aX hb]at e
   exact(I.hok b u e).stay (λ c v _ q=>q) (λ c q=>by rw[aX (ne c _ q)];exact q) λ c xs q=>by rw[aX (ne c _ q)];exact q
 .obtain⟨n1,n2,n3,n0,ps,n4,n5⟩:=I.tab p hp'
  exact⟨by rw[aX (hp p (zA1 _ hp'))];exact n1,n2,n3,n0,ps,n4,n5.mono λ b o u e=>by rw[aX (ne b _ e)];exact e⟩
def Inv.gone{i:Nat}{n:Str}{h':Heap}{m:Str->Option Value}{v:Option Value}{tk:Nat}(I:Inv X kX Z H s)(hN:X.N.Nodup)(hi:X.N[i]? =some n)(hm:s.heap.Ns X.env.locals m)(hn:h'.Ns X.env.locals λ x=>if x=n then v else m x)(hs:zD8 X.env.locals s.heap h'):
  Inv X kX (Z.set i none) H {s with heap:=h',toks:=tk}:=by
 obtain⟨m0,hm0,hl⟩:=id I.loc;have cne:=I.cne;have em:m0=m:=by
  obtain⟨o1,es1,ep1,e1,d1,k1⟩:=hm0;obtain⟨o2,es2,ep2,e2,d2,k2⟩:=hm;rw[e1]at e2;cases e2;rw[d1]at d2;cases d2;funext x;exact(k1.2 x).symm.trans (k2.2 x)
 subst em;obtain⟨oL,_,_,hoL,_⟩:=id hm0;have keep:∀b o,b≠X.env.locals->s.heap.get? b=some o->h'.get? b=some o:=λ b o nb e=>(hs.2 b nb).trans e
 refine⟨I.ok,I.os,I.bare,⟨λ b o e n' hb hx=>?_,λ b o e n' hb hx=>?_,I.base.free,λ b o e hx=>?_,I.base.tups,I.base.frzs,I.base.tbls⟩,⟨_,hn,λ j y v' e1 e2 e3=>?_⟩,λ y c e=>?_,I.free,I.freeC,λ p hp=>?_,λ b u e=>?_,by simpa using I.len,λ p hp=>?_⟩
 .exact keep b o (zA6 (zAV (zAT e) I.ok.above)) (I.base.keep b o e n' hb hx)
 .obtain⟨sl,e1⟩:=I.base.slot b o e n' hb hx
  exact⟨sl,keep b _ (zA6 (zAV (zAT e) I.ok.above)) e1⟩
 .obtain⟨o',e1⟩:=I.base.there b o e hx
  exact⟨o',keep b _ (zA6 (zAV (zAT e) I.ok.above)) e1⟩
 .have hj:j≠i:=λ z=>by
   subst z;rw[zF7]at e2;simp at e2
  rw[zBX (zCy hj)]at e2;obtain⟨u,r,q⟩:=hl j y v' e1 e2 e3;refine⟨u,r,?_⟩;have yn:y≠n:=λ z=>hj (vm hN e1 (z▸hi))
  rcases q with ⟨k,e⟩|⟨k,c,e,z⟩
  .exact .inl ⟨k,by simp[yn,e]⟩
  .exact .inr ⟨k,c,e,z.sameBut hs (cne y c e)⟩
 .obtain⟨v',z⟩:=I.cell y c e
  exact⟨v',z.sameBut hs (cne y c e)⟩
 .obtain⟨p1,p2,p3,p4⟩:=I.pin p hp
  exact⟨keep _ _ p3 p1,p2,p3,p4⟩
 .refine(I.hok b u e).stay (λ c v' hc q=>keep c v' ?_ q) (λ _ q=>q) λ _ _ q=>q
  rintro rfl;rcases hc with z|z
  .rw[<-z,I.free]at e;cases e
  .rw[I.free]at z;cases z
 .obtain⟨n1,n2,n3,n0,ps,n4,n5⟩:=I.tab p hp
  exact⟨n1,n2,n3,n0,ps,keep _ _ n2 n4,n5⟩
end
section
variable{M:Model}{A:zAc}{E:Value->zAE->Prop}{h:Heap}{g:Array zDj}{d:Drawn}{t:Nat}{os:OsState}
variable{nm q:Str}{C N:Addr}{bs bm:List Value}{hdct:Bool}{sn:List Str}{sub:List Value}{ab:Bool}{col:Option Bool}{dd:Option Addr}{k0 k1 k2 k3 k5:Option Value}{newId:String}
variable{nm' q':Str}{C' N':Addr}{bs' bm':List Value}{hdct':Bool}{sn':List Str}{sub':List Value}{ab':Bool}{col':Option Bool}{dd':Option Addr}{k0' k1' k2' k3' k5':Option Value}{newId':String}
def wu{e:Addr}{oe:Obj}{Q:Bool->zAE->Prop}(hC:h.get? C=some (zEu nm q C N bs bm hdct sn sub ab col dd k0 k1 k2 k3 k5 newId))(hC':h.get? C'=some (zEu nm' q' C' N' bs' bm' hdct' sn' sub' ab' col' dd' k0' k1' k2' k3' k5' newId'))
  (he:h.get? e=some oe)(eP:oe.cls= .ref C)(hb':bm'.contains (.type "BaseException")=true)(hs:(zAx C::bm).contains (.ref C')=true)
  (hq:Q true ⟨h,g,d,t,os⟩):wpAny M A (excMatches (.ref e) (.ref C')) Q E ⟨h,g,d,t,os⟩:=by
 have hcB:(zAx C'::bm').contains (.type "BaseException")=true:=by rw[zFY,hb',zFe]
 have f:=tc_notTuple;unfold excMatches
 repeat (first|(with_reducible refine zC8 he ?_;rw[eP])|with_reducible refine zC8 hC' ?_|(with_reducible refine zEM hC' ?_;rw[hcB])|(with_reducible refine zEM hC ?_;rw[hs])|wp_step)
 exact hq
end
def cP.there{P:zA3}{w:World}{H:Hp}{h:Heap}{a:Addr}{o:HO}(x:cP P w H h a o):∃ob,h.get? a=some ob:=by
 cases o with
 |lst xs=>obtain⟨_,_,_,_,e⟩:=x;exact⟨_,e⟩
 |tup xs=>
  obtain⟨_,_,_,p⟩:=x;obtain⟨o,e,_⟩:=p;exact⟨_,e⟩
 |dK kvs=>obtain⟨_,_,_,_,o,_,_,e,_⟩:=x;exact⟨_,e⟩
 |dT kvs=>obtain⟨_,_,_,_,o,_,_,e,_⟩:=x;exact⟨_,e⟩
 |set S n=>obtain⟨o,_,_,_,e,_⟩:=x;exact⟨_,e⟩
 |ins C dx fs=>obtain⟨_,_,_,e,_⟩:=x;exact⟨_,e⟩
 |own y=>exact x
 |xd fs=>obtain⟨_,⟨_,_,_,e,_⟩,_⟩:=x;exact⟨_,e⟩
 |rng lo hi=>obtain⟨_,_,_,e⟩:=x;exact⟨_,e⟩
 |frz ob u=>obtain⟨e,_⟩:=x;exact⟨_,e⟩
 |tbl ps=>exact⟨_,show h.get? a=some _ from x⟩
 |met f y=>exact⟨_,show h.get? a=some _ from x⟩
 |ext φ=>obtain⟨_,e,_⟩:=x;exact e
def su(K:zAA)(C C':Addr):Bool:=
 match K.lookup C with
 |some ⟨_,_,.cls cd,_⟩=>cd.mro.contains (.ref C')
 |_=>false
abbrev Cx.tr(X:Cx)(kX:hZ)(E':XK):Cx:=X.re X.A true kX λ e s'=>∃Z H s,Inv X kX Z H s/\CX1 X.prog X.w X.stack H s E' e s'
abbrev Cx.ha(X:Cx)(kX:hZ)(ea:Addr):Cx:=X.re (X.A.mark (some (.ref ea))) false kX λ _ _=>False
def aGG(X:Cx)(i:Nat)(C':Addr)(E':XK)(tb th:TS):TS:=λ D Z H=>tb D Z H/\∀cls H1,E' cls none H1->∃C,cls= .ref C/\bx X.K C/\su X.K C C'=true/\∀(Z1:St) (ea:Addr),Z1.length=X.N.length->H1 ea=none->
 th {nx:=λ Z' H'=>D.nx (Z'.set i none) H',rt:=D.rt,bk:=λ Z' H'=>D.bk (Z'.set i none) H',ct:=λ Z' H'=>D.ct (Z'.set i none) H'} (Z1.set i (some (.ref ea))) (upd H1 ea (.ext (excφ ea C)))
section
variable{X:Cx}{E E':XK}
def Cx.tr_ok{kX:hZ}(J:(X.tr kX E').Ok):X.Ok:=
 ⟨J.mod,J.kind,J.glob,J.blt,J.above,J.inj,J.has,J.cab,λ _=>J.hd rfl,J.frames,J.stk,J.exf,J.bs,J.bsz,J.noex,J.exfs,J.funs,J.frf⟩
def Cx.tr_pass{kX:hZ}:qD (CX1 X.prog X.w) (X.tr kX E') E':=λ pins2 Z H s e s' I h=>⟨Z,H,s,Inv.unre (Cx.tr_ok I.ok) I,h⟩
def aGs(D:dJ X E)(hc:X.calm=true)(hN:X.N.Nodup){i:Nat}{n:Str}(hi:X.N[i]? =some n)(hl:X.env.scope.names.lookup n=some .local){x:Str}{C':Addr}(hm:X.mg x=some (.ref C'))(hg:Gl X x)(hC':bx X.K C')
  {body suite:List Stmt}{b₀:Stmt}{tb th:TS}{np cE pos:Pos}(hb:∀kX,PSs (X.tr kX E') body tb)(hs:∀kX ea,PSs (X.ha kX ea) (b₀::suite) th)(hdb:Nd x:=by decide):
  PS X (.Try body [.ExceptHandler (some (.Name x np)) (some n) (b₀::suite) cE] [] [] pos) (aGG X i C' E' tb th):=by
 intro kX s Z H DD I hh;obtain⟨h1,h2⟩:=hh;refine wpAny_Try_except (zAw (hb kX [] s Z H DD (I.re rfl λ _=>I.ok.hd hc) h1) (λ f s1 q=>?_) λ e s1 q=>?_)
 .cases f with
  |next=>
   obtain⟨Z',H',J,q⟩:=q;exact zFV ⟨Z',H',Inv.unre I.ok J,q⟩
  |brk=>obtain⟨Z',H',J,q⟩:=q;exact⟨Z',H',Inv.unre I.ok J,q⟩
  |cont=>obtain⟨Z',H',J,q⟩:=q;exact⟨Z',H',Inv.unre I.ok J,q⟩
  |ret u=>obtain⟨v,Z',H',J,r,q⟩:=q;exact⟨v,Z',H',Inv.unre I.ok J,r,q⟩
 .obtain⟨Z1,H1,s0,J,ea,cls,a0,B,H2,rfl,os,bare,un,hok,fly,bk,ba,hE⟩:=q
  obtain⟨C,rfl,hC,bX,hth⟩:=h2 cls H2 hE;have hfr:=I.ok.frames;rw[D.stk]at hfr;have fly':=fly;rw[D.stk]at fly';have mk:∀hh:Heap,zJU B X.stack ea (.ref C) a0 hh->s1.heap.UpToSlots hh->Inv X kX Z1 H2 {s1 with heap:=hh}:=λ hh fl up=>by
   refine J.call' (ch:=[]) os ⟨λ b o e n nf _=>fl.1 b o (bk b o e n nf),λ b o e n hb _=>?_,un.free,λ b o e _=>?_,un.tups,un.frzs,un.tbls⟩ (λ a o e=>(hok a o e).stay (λ b u _ q=>fl.1 b u q) (λ _ z=>z) λ _ _ z=>z) bare (λ b z=>nomatch z)
   .obtain⟨s2,e2⟩:=un.slot b o e n hb (λ z=>nomatch z)
    obtain⟨_,o3,e3,nf⟩:=fly.2.2.1.mem hb;rw[e2]at e3;cases e3;obtain⟨s4,e4⟩:=up b _ e2 nf;exact⟨s4,e4⟩
   .by_cases hb:b∈frs X.stack
    .obtain⟨_,o3,e3,nf⟩:=fl.2.2.1.mem hb
     exact⟨o3,e3⟩
    .obtain⟨o',e'⟩:=ba b o e hb
     exact⟨o',fl.1 b o' e'⟩
  refine wpAny_looks_onW hfr D.fr fly' λ h3 held up3=>?_
  refine wpAny_landsW held λ h4 fly4 up4=>?_
  rw[<-D.stk]at fly4;have J4:=mk h4 fly4 (up3.trans up4);have K4:Inv (X.ha kX ea) [] Z1 H2 {s1 with heap:=h4}:=J4.re rfl (λ z=>nomatch z);obtain⟨ob4,he4,hc4⟩:=fly4.there;obtain⟨tl,NN,nm,q,bs,hdct,sn,sub,ab,col,dd,k0,k1,k2,k3,k5,mN,hCo,hNn,hni,T⟩:=(sH (h:=h4) (mg:=λ _=>some (.ref C)) (x:="x") J4.kIn rfl hC).obj;obtain⟨tl',NN',nm',q',bs',hdct',sn',sub',ab',col',dd',k0',k1',k2',k3',k5',mN',hCo',hNn',hni',T'⟩:=(sH (h:=h4) (mg:=λ _=>some (.ref C')) (x:="x") J4.kIn rfl hC').obj;have hmro:(zAx C::tl).contains (.ref C')=true:=by
   unfold su at bX;split at bX
   .rename_i oc od cd sl ho
    have e:=J4.kIn _ _ ho;have e2:(some _:Option Obj)=some _:=e.symm.trans hCo;injection e2 with e2
    have e3:=congrArg Obj.data e2;injection e3 with e3
    subst e3;exact bX
   .cases bX
  refine wpAny_handleBy_cons (codeAny_handlers_test (oA (X:=X.ha kX ea) K4 hg hm ?_ hdb)) (by intro q;cases q);refine wu hCo hCo' he4 hc4 (T'.hasType (X:="BaseException") (b:=true) (by decide+kernel)) hmro ?_;refine codeAny_handlers_suite_as ?_;refine lands_againW fly4 λ h5 fly5 up5=>?_
  have J5:=mk h5 fly5 ((up3.trans up4).trans up5);obtain⟨f1,f2,f3,oe,vs,T5,oT,ts,he5,⟨hcl5,h05⟩,hd5,_⟩:=id fly5;have nof:ea∉frs X.stack:=λ z=>by
   obtain⟨_,o3,e3,nf⟩:=f3.mem z;rw[he5]at e3;cases e3;exact nf vs hd5
  have inB:∀b o,s0.heap.get? b=some o->b∉frs X.stack->b≠ea:=λ b o e nf z=>by
   obtain⟨o',e'⟩:=ba b o e nf;rw[z,f2]at e';cases e'
  have hL:X.env.locals∈frs X.stack:=by
   rw[D.stk];unfold frs;rw[zBQ,D.fr];exact zAF
  have h2n:H2 ea=none:=by
   cases e:H2 ea with
   |none=>rfl
   |some o=>
    obtain⟨ob,e'⟩:=(hok ea o e).there;rw[f2]at e';cases e'
  have J6:Inv X kX Z1 (upd H2 ea (.ext (excφ ea C))) {s1 with heap:=h5}:=by
   refine J5.track h2n ?_ (λ z=>nof (z▸hL)) (λ y c e z=>?_) (λ p hp z=>?_) ⟨⟨oe,he5,hcl5⟩,⟨oe,he5⟩,excφ_stay⟩
   .cases e:X.z5.heap.get? ea with
    |none=>rfl
    |some o=>
     obtain⟨o',e'⟩:=J.base.there ea o e (by rw[D.ex];exact λ z=>nomatch z);exact absurd rfl (inB ea o' e' nof)
   .obtain⟨v,o,ho,hd⟩:=J5.cell y c e
    rw[z]at ho;have e2:some o=some oe:=ho.symm.trans he5;cases e2;rw[hd]at hd5;cases hd5
   .have hh:∃o,s0.heap.get? p.1=some o/\p.1≠X.env.locals/\p.1∉X.fs:=by
     rcases zAh.mp hp with z|z
     .obtain⟨_,a,b,_,_,c,_⟩:=J.tab p z
      exact⟨_,c,a,b⟩
     .obtain⟨p1,p2,p3,p4,_⟩:=J.pin p z
      exact⟨_,p1,p3,p4⟩
    obtain⟨o,p1,p3,p4⟩:=hh;refine inB p.1 o p1 (λ w=>?_) z;rcases zAP.mp (J.stkSub p.1 w)with z|z
    .exact p3 z
    .exact p4 z
  have K6:Inv (X.ha kX ea) [] Z1 (upd H2 ea (.ext (excφ ea C))) {s1 with heap:=h5}:=J6.re rfl (λ z=>nomatch z);refine vK (X:=X.ha kX ea) (v:=.ref ea) K6 hN hi (.inl hl) rfl (λ s7 I7=>?_) (.inr hl);refine zAw (hs kX ea [] s7 _ _ _ I7 (hth Z1 ea J.len h2n)) (λ f s8 q8=>?_) λ _ _ z=>z.elim
  have e7:∀{Z':St} {H':Hp} {Q:zAE->Prop},Inv (X.ha kX ea) [] Z' H' s8->(∀s9,Inv X kX (Z'.set i none) H' s9->Q s9)->
    wpAny (model X.prog X.w) X.A (do bindName X.env n .none;unbindBehindTheSuite X.env n cE) (λ _ s9=>Q s9) X.xe s8:=λ{Z' H' Q} K8 k=>by
   have J8:Inv X kX Z' H' s8:=Inv.unre I.ok K8;obtain⟨m,hmm,_⟩:=id J8.loc;refine wpAny_nameGoes_keeps hl hmm (by rw[I.ok.kind];rfl) λ h' v hn hsb=>k _ (Inv.gone J8 hN hi hmm hn hsb)
  cases f with
  |next=>obtain⟨Z',H',K8,q⟩:=q8;exact e7 K8 λ s9 J9=>⟨_,_,J9,q⟩
  |brk=>obtain⟨Z',H',K8,q⟩:=q8;exact e7 K8 λ s9 J9=>⟨_,_,J9,q⟩
  |cont=>obtain⟨Z',H',K8,q⟩:=q8;exact e7 K8 λ s9 J9=>⟨_,_,J9,q⟩
  |ret u=>obtain⟨v,Z',H',K8,r,q⟩:=q8;exact e7 K8 λ s9 J9=>⟨v,_,_,J9,r,q⟩
end
structure jK(k:Nat)(A:zAc):Prop where
 dp:A.depth+3*k+5<zFc
 un:A.units+16*k+200<cLine
def dj.h{k:Nat}{A:zAc}(r:dj k A):jK k A:=⟨r.dp,r.un⟩
theorem jK.mark{k:Nat}{A:zAc}{v:Option Value}(r:jK k A):jK k (A.mark v):=⟨r.dp,r.un⟩
def jK.mono{j k:Nat}{A:zAc}(r:jK k A)(h:j<=k):jK j A:=⟨by have:=r.dp;omega,by have:=r.un;omega⟩
theorem jK.deeper{k:Nat}{A:zAc}(r:jK (k+1) A)(env:Env):jK k (A.deeper env):=
 ⟨by have:=r.dp;show A.depth+1+3*k+5<_;omega,by have:=r.un;show A.units+3+16*k+200<_;omega⟩
theorem jK.depth{k:Nat}{A:zAc}(r:jK k A):A.depth<zFc:=by have:=r.dp;omega
abbrev aIR(A:zAc):zAc:={A with handled:=none}
structure FnH(P:zA3)(w:World)(K:zAA)(mg:Str->Option Value)(base:Heap)(k:Nat)(f:Addr)(fd:zAq)(ps:List Str)(sp:Sp):Prop where
 len:∀vs H Q E,sp vs H Q E->vs.length=ps.length
 run:∀(A:zAc) (outer:List Env) (s:zAE) (H:Hp) (args:Args) (us:List Value) (vs:List V) (Q:VK) (E:XK),jK k A->aCS P w K mg base A outer s H->zHm s fd args (ps.zip us)->Vals vs us->sp vs H Q E->
  zCF (model P w) A (.call (.ref f) args) (CR CX0 outer P w H s Q E) s
abbrev cxH(P:zA3)(w:World)(K:zAA)(mg:Str->Option Value)(base:Heap)(N:List Str)(q:Str)(scope:Scope)(f:Addr)(cd:Value)(A:zAc)(outer:List Env)(s:zAE)(H:Hp):Cx:=
 (uV CX0 P w K mg base N q scope f cd (aIR A) outer s H λ _ _ _=>False).re (A.deeper (zDN q scope s.heap.objs.size f cd)) false [] λ _ _=>False
section
variable{P:zA3}{w:World}{K:zAA}{mg:Str->Option Value}{base:Heap}
def Fun.okH{x q:Str}{st:Stmt}{f:Addr}{fd:zAq}{N ps:List Str}{k:Nat}{sp:Sp}(F:Fun K x q st f fd)(S:aY N ps (aF st))(len:∀vs H Q E,sp vs H Q E->vs.length=ps.length)
  (hbody:∀(cdv:Value) (A:zAc) (outer:List Env) (s:zAE) (H:Hp) (vs:List V) (Q:VK) (E:XK),jK k (A.deeper (zDN q (aF st) s.heap.objs.size f cdv))->sp vs H Q E->
   ∃t,PSs (cxH P w K mg base N q (aF st) f cdv A outer s H) (cX st) t/\t {nx:=λ _ H'=>Q .non H',rt:=Q} (start N vs) H):FnH P w K mg base (k+1) f fd ps sp:=by
 obtain⟨oc,od,kV,doc,pm,an,cdv,ct,osl,rfl,lk,hcd⟩:=F.ex;refine⟨len,λ A outer s H args us vs Q E hr e0 hb r hsp=>?_⟩;have KX:K.In s.heap:=e0.mod.kin.keeps λ b o e=>(e0.bs b o e).1
 have par:∀y∈ps.zip us,(aF st).names.lookup y.1=some .local\/((aF st).names.lookup y.1=some .cell/\((zDM (s.heap.objs.size+1) (aF st).names []).lookup y.1).isSome=true):=λ y hy=>
  (S.par y.1 (zCY (a:=y.1) (b:=y.2) hy).1).imp id λ z=>⟨z,zDT _ _ _ (.inl z)⟩
 refine zFS hr.depth (KX _ _ lk) rfl S.co S.gen rfl (zFG KX hcd) (hb _ _ _ _ (zEZ S.kind par λ env he s1 x=>?_));cases he;refine⟨(e0.mod.nolimit.keeps λ b o e=>(e0.bs b o e).1).keeps x.toInCall.keep,zIf ?_⟩;obtain⟨t,ht,hq⟩:=hbody cdv A outer s H vs Q E (hr.deeper _) hsp;have e1:aCS P w K mg base (aIR A) outer s H:=⟨e0.frames,e0.mod,e0.bs,e0.bsz,e0.funs,e0.frf,e0.hok,e0.bare⟩;have I0:Inv (uV CX0 P w K mg base N q (aF st) f cdv (aIR A) outer s H λ _ _ _=>False) [] (start N vs) H s1:=sW S rfl e1 (len _ _ _ _ hsp) r x;have I1:Inv (cxH P w K mg base N q (aF st) f cdv A outer s H) [] (start N vs) H s1:=I0.re rfl (λ z=>nomatch z);refine zAw (ht [] s1 (start N vs) H _ I1 hq) (λ fl s' hs=>?_) λ e s' hs=>hs.elim
 cases fl with
 |ret u=>obtain⟨v,Z',H',J,rv,q⟩:=hs;exact⟨v,H',J.os,J.bare,J.base,J.hok,rv,q⟩
 |next=>obtain⟨Z',H',J,q⟩:=hs;exact⟨.non,H',J.os,J.bare,J.base,J.hok,rfl,q⟩
 |brk=>obtain⟨_,_,_,q⟩:=hs;exact q.elim
 |cont=>obtain⟨_,_,_,q⟩:=hs;exact q.elim
end
section
variable{X:Cx}{k:Nat}{f:Addr}{fd:zAq}{ps:List Str}{sp:Sp}{dvs:List V}{ds:List Value}{E:XK}{x:Str}{p pos:Pos}{e:Expr}{es:List Expr}{t:TA}
def aHH(F:FnH X.prog X.w X.K X.mg X.base k f fd ps sp)(hr:jK k X.A)(hg:Gl X x)(hm:X.mg x=some (.ref f))(hk:zBm X.K (.ref f)=true)(hb:Binds X.K fd ps ds)(hd:Vals dvs ds)
  (ha:PA X (e::es) t)(hdb:Nd x:=by decide)(he:zA5 (e::es) X.env=(false,eval e X.env)::zA5 es X.env:=by rfl)(hpl:(zCg pos (zA5 es X.env)).any (·.1)=false:=by rfl):
  PE X (.Call (.Name x p) (e::es) [] pos) (aAp sp dvs E t):=by
 intro kX s Z H Q I h;refine zCt (oA I hg hm (zFF (h₀:=X.base) I.ok.mod.kin hk (thn (ha pos kX s Z H _ I h) λ us s1 hz=>?_) he hpl) hdb);obtain⟨vs,H1,I1,r,q⟩:=hz;refine⟨I1.kIn,zHl (zC9 (F.run X.A X.stack s1 H1 ⟨us,[]⟩ (us++ds) (vs++dvs) Q E hr I1.env0 (hb s1 us I1.kIn ?_) (r.append hd) q) λ r' s' hq=>?_)⟩
 .rw[<-(r.append hd).length];exact F.len _ _ _ _ q
 .cases r' with
  |error e=>exact zAN hq
  |ok fl=>
   cases fl with
   |ret u=>exact I1.after hq
   |next=>exact zAN hq
   |brk=>exact zAN hq
   |cont=>exact zAN hq
end
def spW(wd:Addr->Option Str):Sp:=λ vs H Q _=>∃ea C w,vs=[.ref ea]/\H ea=some (.ext (excφ ea C))/\wd C=some w/\∀H',aO H H'->Q (.str w) H'
def spR(P:zA3)(w:World)(K:zAA)(mg:Str->Option Value)(base:Heap)(k0:Nat)(told:Str)(wd:Addr->Option Str):Sp:=λ vs H Q _=>∃f cls dd sl fd k sp,vs=[.ref f]/\H f=some (.frz ⟨cls,dd,.func fd,sl⟩ (.own f))/\dI P w K mg base (CX1 P w) k f fd [] sp/\k<=k0/\Binds K fd [] []/\
 sp [] H (λ _ H'=>Q (.str told) H') (λ c _ H1=>∃C wo,c= .ref C/\wd C=some wo/\∀H',aO H1 H'->Q (.str wo) H')
section
variable{X:Cx}{E:XK}{n0 n1 n2 few cn pe told:Str}{C' fc:Addr}{fdc:zAq}{kc k0:Nat}{wd:Addr->Option Str}
def aGd(D:dJ X E)(hc:X.calm=true)(hN:X.N=[n0,n1,n2])(nd:X.N.Nodup)(l0:X.env.scope.names.lookup n0=some .local)(l1:X.env.scope.names.lookup n1=some .local)(l2:X.env.scope.names.lookup n2=some .local)(hf:∀x,X.fn x=true)
  (hm:X.mg few=some (.ref C'))(hg:Gl X few)(hC':bx X.K C')(FC:FnH X.prog X.w X.K X.mg X.base kc fc fdc [pe] (spW wd))(hgc:Gl X cn)(hmc:X.mg cn=some (.ref fc))(hkc:zBm X.K (.ref fc)=true)(hbc:Binds X.K fdc [pe] [])
  (hr:dj k0 X.A)(hkk:kc<=k0)(hw:∀C w,wd C=some w->bx X.K C/\su X.K C C'=true){p1 p2 p3 p4 p5 p6 p7 p8 p9 p10 p11 p12 p13 p14 p15 p16:Pos}{j1:Nat}{vs:List V}{H:Hp}{Q:VK}{E0:XK}(h:spR X.prog X.w X.K X.mg X.base k0 told wd vs H Q E0)
  (d1:Nd few:=by decide)(d2:Nd cn:=by decide)(d3:Nd n0:=by decide)(d4:Nd n1:=by decide)(d5:Nd n2:=by decide)
  (d6:(n0==("__classdict__":Str))=false:=by decide)(d7:(n1==("__classdict__":Str))=false:=by decide)(d8:(n2==("__classdict__":Str))=false:=by decide):
  ∃t,PSs X [.Assign [.Name n1 p1] (.Constant (.str told) j1 p2) p3,.Try [.Expr (.Call (.Name n0 p4) [] [] p5) p6] [.ExceptHandler (some (.Name few p7)) (some n2) [.Assign [.Name n1 p8] (.Call (.Name cn p9) [.Name n2 p10] [] p11) p12] p13] [] [] p14,.Return (some (.Name n1 p15)) p16] t/\
   t {nx:=λ _ H'=>Q .non H',rt:=Q} (start X.N vs) H:=by
 obtain⟨f,cls,dd,sl,fd,k,sp,rfl,hH,F,hk,hb,hsp⟩:=h;have i0:X.N[0]? =some n0:=by rw[hN];rfl
 have i1:X.N[1]? =some n1:=by rw[hN];rfl
 have i2:X.N[2]? =some n2:=by rw[hN];rfl
 refine⟨_,dU (lK nd i1 (.inl l1) eU (hf:=.inl (hf _))) (dU (aGs (E':=λ c _ H1=>∃C wo,c= .ref C/\wd C=some wo/\∀H',aO H1 H'->Q (.str wo) H') D hc nd i2 l2 hm hg hC' (tb:=vI (aCZ X k0 0 λ c _ H1=>∃C wo,c= .ref C/\wd C=some wo/\∀H',aO H1 H'->Q (.str wo) H')) (th:=zW (aAp (spW wd) [] E (fM (jh 2) lq)) (lY 1))
  (λ kX=>jR (n6 (aHB (X:=X.tr kX _) hr Cx.tr_pass i0 (.inl l0) d3 d6))) (λ kX ea=>jR (lK (X:=X.ha kX ea) nd i1 (.inl l1) (aHH (X:=X.ha kX ea) FC ((hr.h.mono hkk).mark) hgc hmc hkc hbc .nil (aV (dW (X:=X.ha kX ea) i2 (.inl l2) d5 d8) cH) d2) (hf:=.inl (hf _)))) d1) (jR (v9 (dW i1 (.inl l1) d4 d7)))),?_⟩
 have hs:start X.N [.ref f]=[some (.ref f),none,none]:=by rw[hN];rfl
 rw[hs];have e:(λ(_:V) H1=>Q (.str told) H1)=λ(_:V) H1=>aLV (jh 1) {nx:=λ _ H'=>Q .non H',rt:=Q} [some (.ref f),some (.str told),none] H1:=by
  funext v H1;exact propext ⟨λ q=>⟨_,rfl,q⟩,λ⟨v',e',q⟩=>by cases e';exact q⟩
 rw[e]at hsp;have key:aGG X 2 C' (λ c _ H1=>∃C wo,c= .ref C/\wd C=some wo/\∀H',aO H1 H'->Q (.str wo) H') (vI (aCZ X k0 0 λ c _ H1=>∃C wo,c= .ref C/\wd C=some wo/\∀H',aO H1 H'->Q (.str wo) H')) (zW (aAp (spW wd) [] E (fM (jh 2) lq)) (lY 1))
  {nx:=aLV (jh 1) {nx:=λ _ H'=>Q .non H',rt:=Q},rt:=Q} [some (.ref f),some (.str told),none] H:=?_
 .exact key
 refine⟨⟨f,cls,dd,sl,fd,k,sp,rfl,hH,F,hk,hb,hsp⟩,λ c H1 ⟨C,wo,ec,hwd,hq⟩=>⟨C,ec,(hw C wo hwd).1,(hw C wo hwd).2,λ Z1 ea hl hn=>?_⟩⟩
 .rw[hN]at hl
  obtain⟨a,b,c,rfl⟩:∃a b c,Z1=[a,b,c]:=by
   match Z1,hl with
   |[a,b,c],_=>exact⟨a,b,c,rfl⟩
  refine⟨.ref ea,rfl,ea,C,wo,rfl,aa,hwd,λ H' sm=>⟨.str wo,rfl,hq H' λ b o e=>sm b o ?_⟩⟩;rw[aX (cC e hn)];exact e
end
def aC0(K:zAA)(c:V):TE:=tCB (aKo K) (fM (jh 0) (fM (tC c) lq))
def lX(K:zAA):List V->TA
 |[]=>lq
 |c::cs=>fM (aC0 K c) (lX K cs)
def yO:List Str->TA
 |[]=>lq
 |x::xs=>fM (tC (.str x)) (yO xs)
def Kt(K:zAA)(C:Addr)(c:V)(b:Bool):Prop:=∃u,RelV c u/\zCB K (.ref C) u=some b
section
variable{K:zAA}{Z:St}{H:Hp}{ea C:Addr}
def zV{c:V}{b:Bool}{Q:VK}(hs:Z[0]? =some (some (.ref ea)))(hH:H ea=some (.ext (excφ ea C)))(hk:aK6 K C)(h:Kt K C c b)(q:Q (.bl b) H):aC0 K c Z H Q:=by
 obtain⟨u,r,e⟩:=h;exact⟨.ref ea,hs,ea,C,c,u,b,rfl,r,hH,hk,e,q⟩
theorem mF(hs:Z[0]? =some (some (.ref ea)))(hH:H ea=some (.ext (excφ ea C)))(hk:aK6 K C):∀{cs:List V} {bs:List Bool} {Q:List V->Hp->Prop},zFa (Kt K C) cs bs->Q (bs.map V.bl) H->lX K cs Z H Q
 |_,_,_,.nil,q=>q
 |_,_,_,.cons h r,q=>zV hs hH hk h (mF hs hH hk r q)
theorem vH:∀{l:List Str} {Q:List V->Hp->Prop},Q (l.map V.str) H->yO l Z H Q
 |[],_,q=>q
 |x::l,_,q=>vH (l:=l) (Q:=λ xs H2=>_) q
end
structure Wd(K:zAA)(c1 c2:V)(ks:List (List V))(ws:List Str)(C:Addr)(w:Str):Prop where
 k:aK6 K C
 q1:Kt K C c1 true
 q2:Kt K C c2 true
 bs:∃(b1 b2 b3 b4:List Bool) (j:Nat) (k1 k2 k3 k4:List V),ks=[k1,k2,k3,k4]/\zFa (Kt K C) k1 b1/\zFa (Kt K C) k2 b2/\zFa (Kt K C) k3 b3/\zFa (Kt K C) k4 b4/\(b1++b2++b3++b4).length<=100/\(b1++b2++b3++b4).count true=1/\
  (b1++b2++b3++b4)[j]? =some true/\(∀m,m<j->(b1++b2++b3++b4)[m]? =some false)/\ws[j]? =some w
section
variable{X:Cx}{n0 n1 n2 odd:Str}{c1 c2:V}{k1 k2 k3 k4:List V}{l1 l2:List Str}{a1 a2:Expr}{as1 as2 e1 e2 e3 e4 w1 w2:List Expr}{kw1 kw2:List zDF}{Q:VK}{H:Hp}{vs:List V}
 {p1 p2 p3 p4 p5 p6 p7 p8 p9 p10 p11 p12 p13 p14 p15 p16 p17 p18 p19 p20 p21 p22 p23 p24 p25 p26 p27 p28 p29 p30 p31 p32 p33 p34 p35 p36 p37 p38 p39 p40:Pos}{q1 q2 q3 q4 q5 q6 q7:Pos}{j1 j2 j3 j4 j5:Nat}{E0:XK}{wd:Addr->Option Str}
end
structure qC(d:Nat)(e tg iter:Expr)(ifs:List Expr)(body:Env->Addr->Sem Unit):Prop where
 under:∀(A:zAc) (it:Value) (D:Addr) (env:Env),A.under (.compLoop e d it (.ref D) env)=A
 den:∀(prog:zA3) (w:World) (it:Value) (D:Addr) (env:Env),(model prog w).den (.compLoop e d it (.ref D) env)=(zJL e d it (.ref D) env).onRaise (λ x=>do noteFrame x env;theTreesLotGoes x)
 turn:∀(it:Value) (D:Addr) (env:Env),zJL e d it (.ref D) env=(do
   zFU iter.pos
   match <-zE1 it with
   |none=>pure (.done .next)
   |some v=>
    zD7 tg it v
    zDz tg env v
    let mut ok:=true
    for c in ifs do if ok then ok <-isTrue c env (eval c env)
    if ok then
     body env D
    again (.compLoop e d it (.ref D) env))
section
variable{s:zAE}{A:zAc}{prog:zA3}{w:World}{R:zEe->zAE->Prop}
def qt{D:Addr}(hb:qC d e tg iter ifs body)(I:Nat->zAE->Prop)
  (one:∀n s,I n s->wpAny (model prog w) A (zE1 it) (λ r zD=>match r with
   |none=>R (.ok .next) zD
   |some v=>wpAny (model prog w) A (zD7 tg it v) (λ _ zD=>wpAny (model prog w) A (zDz tg env v) (λ _ zS=>
     wpAny (model prog w) A (forIn ifs true λ c r=>if r=true then do let ok <-isTrue c env (eval c env);pure (zBl ok)else pure (zBl r)) (λ ok y9=>if ok=true then wpAny (model prog w) A (body env D) (λ _ s₅=>∃m,m<n/\I m s₅) (λ _ _=>False) y9
      else∃m,m<n/\I m y9) (λ _ _=>False) zS) (λ _ _=>False) zD) (λ _ _=>False) zD) (λ _ _=>False) s)
  (n:Nat)(h:I n s):zCF (model prog w) A (.compLoop e d it (.ref D) env) R s:=by
 refine codeAny_loop rfl I (λ n s hJ=>?_) n h;rw[hb.under,hb.den];refine wpAny_noted ?_;rw[hb.turn];refine zAB (zDD (zAB (zAw (one n s hJ) (λ r zD zC=>?_) λ _ _ h'=>h'.elim)));cases r with
 |none=>exact zAI zC
 |some v=>
  refine zAB (zAw zC (λ _ zD zC=>?_) λ _ _ h'=>h'.elim);refine zAB (zAw zC (λ _ zS y8=>zAB (zAw y8 (λ ok y9 yY=>?_) λ _ _ h'=>h'.elim)) λ _ _ h'=>h'.elim);cases ok with
  |false=>exact zAI (zGN rfl yY)
  |true=>exact zAB (zAw yY (λ _ y0 h₄=>zAI ⟨rfl,h₄⟩) λ _ _ h'=>h'.elim)
end
def rE(d:Nat)(e:Expr):Prop:=∀{prog:zA3} {w:World} {A:zAc} {R:zEe->zAE->Prop} {s:zAE} {it acc:Value} {env:Env},
  zCF (model prog w) A (.compLoop e d it acc env) R s->
  wpAny (model prog w) A (zG9 it) (λ it' s'=>zCF (model prog w) A (.compLoop e d it' acc env) R s') (notedBy (model prog w) A env λ x s'=>R (.error x) s') s->
  zCF (model prog w) A (.compStart e d it acc env) R s
structure aEk(prog:zA3)(w:World)(mk:Sem Value)(obs:Obj->Prop)(o:Addr->HO):Prop where
 make:∀{A:zAc} {Q:Value->zAE->Prop} {E:Value->zAE->Prop} {s:zAE},(∀ob,obs ob->Q (.ref s.heap.objs.size) {s with heap:=s.heap.push ob})->wpAny (model prog w) A mk Q E s
 live:∀ob,obs ob->ob.isFreed=false
 ok:∀{H:Hp} {h:Heap} {a:Addr} {ob:Obj},obs ob->h.get? a=some ob->zDY<a->cP prog w H h a (o a)
def PB(X:Cx)(body:Env->Addr->Sem Unit)(tb:Addr->St->Hp->(Hp->Prop)->Prop):Prop:=
 ∀(D:Addr) (kX:hZ) (s:zAE) (Z:St) (H:Hp) (Q:Hp->Prop),Inv X kX Z H s->tb D Z H Q->wpAny (model X.prog X.w) X.A (body X.env D) (λ _ s'=>∃H',Inv X kX Z H' s'/\Q H') X.xe s
def aO8(I:Inv X kX Z H s):zDY<s.heap.objs.size:=
 zFt (by decide) (I.mod.glob.keeps I.bk).lt
def aLY(o:Addr->HO)(wi:TI)(st:St->St)(g:TG)(tt:TT)(tb:Addr->St->Hp->(Hp->Prop)->Prop):TE:=λ Z H Q=>wi Z H λ J H1=>∀l,H1 l=none->∃W:Nat->Nat->Hp->Prop,(∃m,W 0 m (upd H1 l (o l)))/\
 ∀i m H2,W i m H2->((J.stop i H2/\Q (.ref l) H2)\/(J.go i H2/\∀x H3,J.yld i H2 x H3->g x (st Z) H3 λ Z4 H4=>tt Z4 H4 λ ok H5=>
  if ok=true then tb l Z4 H5 λ H6=>∃m',m'<m/\W (i+1) m' H6 else∃m',m'<m/\W (i+1) m' H5))
section
variable{X:Cx}{e tg iter:Expr}{ifs:List Expr}{scope:Scope}{N:List Str}{st:St->St}{ks:List Nat}{wi:TI}{g:TG}{tt:TT}{body:Env->Addr->Sem Unit}{tb:Addr->St->Hp->(Hp->Prop)->Prop}{pos:Pos}{mk:Sem Value}{obs:Obj->Prop}{o:Addr->HO}
def aBz(B:cj X scope N st ks)(hc:X.calm=true)(hT:qC 0 e tg iter ifs body)(hS:rE 0 e)(hA:aEk X.prog X.w mk obs o)(hg:∀C fp z5 zI,PG (X.block scope C N fp z5 zI) tg g)(hgo:j0 g ks)(ht:∀C fp z5 zI,yK (X.block scope C N fp z5 zI) ifs tt)
  (he:∀C fp z5 zI,PB (X.block scope C N fp z5 zI) body tb){Q:VK}{RR:Value->Addr->zEe->zAE->Prop}
  (I:Inv X kX Z H1 zS)(T:Turn X.prog X.w X.K tg J fp it tn)(h0:tn 0 zS.heap)(hfp:∀b∈fp,rF X kX H1 b)
  (h:∀l,H1 l=none->∃W:Nat->Nat->Hp->Prop,(∃m,W 0 m (upd H1 l (o l)))/\
   ∀i m H2,W i m H2->((J.stop i H2/\Q (.ref l) H2)\/(J.go i H2/\∀x H3,J.yld i H2 x H3->g x (st Z) H3 λ Z4 H4=>tt Z4 H4 λ ok H5=>
    if ok=true then tb l Z4 H5 λ H6=>∃m',m'<m/\W (i+1) m' H6 else∃m',m'<m/\W (i+1) m' H5)))
  (hRR:∀D C H' s',(∃Z',Inv (X.block scope C N fp zS H1) [] Z' H' s')->zS.heap.objs.size<=C->Q (.ref D) H'->RR (.ref D) C (.ok .next) s'):
  wpAny (model X.prog X.w) X.A mk (λ acc y9=>wpAny (model X.prog X.w) X.A (zFb scope X.env.globals (aZ scope X.env) [] X.env.qual none .none (some X.env)) (λ cenv y0=>
   zCF (model X.prog X.w) X.A (.compStart e 0 (.ref it) acc {cenv with scope:=zGX scope X.env}) (RR acc cenv.locals) y0) E y9) E zS:=by
 refine hA.make λ ob hob=>aEK λ zC y6 y7 y3=>?_
 dsimp only at y6 y7 y3 ⊢;generalize hH2:zS.heap.push ob=P2 at y6 y7 y3 ⊢;have hC:P2.objs.size=zS.heap.objs.size+1:=by rw[<-hH2,zBN]
 have hDC:zS.heap.objs.size≠P2.objs.size:=by rw[hC];exact zA6 (zBy _)
 have oQ:zS.heap.objs.size<=P2.objs.size:=by rw[hC];exact zDG _
 have old:∀b o,zS.heap.get? b=some o->zC.get? b=some o:=λ b o e=>y7 b o (hH2▸zAC _ e)
 have qV:zC.get? zS.heap.objs.size=some ob:=y7 _ _ (hH2▸zAS _ (hA.live ob hob));generalize hCe:P2.objs.size=C at y6 y7 y3 hDC oQ hC ⊢;have hHD:H1 zS.heap.objs.size=none:=I.hok.fresh (zAQ _);have I0:Inv (X.block scope C N fp zS H1) [] (st Z) (upd H1 zS.heap.objs.size (o zS.heap.objs.size)) {zS with heap:=zC,toks:=zS.toks}:=
  I.block B hfp (λ b hb=>by obtain⟨o,e,_⟩:=T.obj 0 _ h0 b hb;exact⟨o,e⟩) (zAQ _) oQ hDC old y6 y3 (λ c hc=>zA6 (zEG oQ hc)) (hA.ok hob qV (aO8 I))
 obtain⟨W,⟨m0,w0⟩,step⟩:=h _ hHD;have h01:tn 0 zC:=T.keep 0 _ _ h0 λ b _ o e=>old b o e
 have aI:∀{H':Hp},(∀b∈fp,H' b=none)->∀b∈fp,rF (X.block scope C N fp zS H1) [] H' b:=λ{H'} hn b hb=>
  ⟨hn b hb,(I0.ok.exf b hb).1,I0.ok.exfs b hb,.inl hb,λ x c e=>(I0.ok.exf b hb).2 x c e,λ p hp=>absurd (show p∈([]:hZ)from hp) (by simp)⟩
 have fr0:∀b∈fp,upd H1 zS.heap.objs.size (o zS.heap.objs.size) b=none:=λ b hb=>by
  obtain⟨o,e,_⟩:=T.obj 0 _ h0 b hb;rw[aX (zA6 (zAT e))];exact(hfp b hb).1
 have loop:∀sx:zAE,sx={zS with heap:=zC,toks:=zS.toks}->
   zCF (model X.prog X.w) X.A (.compLoop e 0 (.ref it) (.ref zS.heap.objs.size) (X.block scope C N fp zS H1).env) (RR (.ref zS.heap.objs.size) C) sx:=by
  rintro sx rfl;refine qt hT (λ n s'=>∃i H2,Inv (X.block scope C N fp zS H1) [] (st Z) H2 s'/\tn i s'.heap/\(∀b∈fp,H2 b=none)/\W i n H2) ?_ m0 ⟨0,_,I0,h01,fr0,w0⟩;rintro n s3 ⟨i,H2,I2,st2,fr2,w2⟩;rcases step i n H2 w2 with ⟨stop,q⟩|⟨go,nxt⟩
  .refine thn (T.done (X.block scope C N fp zS H1) rfl rfl rfl hc i [] s3 (st Z) H2 _ I2 (aI fr2) st2 stop) λ r s4 ⟨hr,I4⟩=>?_
   subst hr;exact hRR _ C H2 s4 ⟨_,I4⟩ oQ q
  .refine thn (T.item (X.block scope C N fp zS H1) rfl rfl rfl hc i [] s3 (st Z) H2 _ I2 (aI fr2) st2 go) λ r s4 ⟨u,hr,h4⟩=>?_
   subst hr;refine thn h4 λ _ s5 ⟨x,H5,I5,r5,y5,st5,fr5⟩=>?_
   have I5p:=I5.pinned (aI fr5) (T.obj _ _ st5);refine thn (hg C fp zS H1 _ s5 (st Z) H5 x u _ I5p r5 (hgo _ _ _ _ (nxt x H5 y5))) λ _ s6 ⟨Z6,H6,I6,q6,aF0,ag6⟩=>?_
   refine thn (ht C fp zS H1 _ s6 Z6 H6 _ I6 q6) λ ok s7 ⟨H7,I7,q7⟩=>?_
   have again:∀{H9:Hp} {s9:zAE},Inv (X.block scope C N fp zS H1) ([]++pP fp s5.heap) Z6 H9 s9->(∃m',m'<n/\W (i+1) m' H9)->
     ∃m,m<n/\∃i H2,Inv (X.block scope C N fp zS H1) [] (st Z) H2 s9/\tn i s9.heap/\(∀b∈fp,H2 b=none)/\W i m H2:=λ{H9 s9} I9 ⟨m',hm,w9⟩=>by
    have bP:∀b∈fp,∀o,s5.heap.get? b=some o->s9.heap.get? b=some o/\H9 b=none:=λ b hb o e=>by
     have z:=I9.pin (b,o) (zA7 _ (zA7 _ (iy hb e)));exact⟨z.1,z.2.1⟩
    refine⟨m',hm,i+1,H9,I9.unpinned.weak (by rw[aF0]) (λ k v e=>?_),T.keep _ _ _ st5 λ b hb o e=>(bP b hb o e).1,λ b hb=>?_,w9⟩
    .have hk:k<(st Z).length:=(zAK.mp e).1
     have hkN:k<N.length:=by rw[<-B.len Z];exact hk
     obtain⟨_,hks,_⟩:=B.val Z k _ v (zAH hkN) e;rw[ag6 k hks];exact e
    .obtain⟨o,e,_⟩:=T.obj _ _ st5 b hb
     exact(bP b hb o e).2
   cases ok with
   |false=>
    rw[if_neg zA8]at q7 ⊢;exact again I7 q7
   |true=>
    rw[if_pos rfl]at q7 ⊢;exact thn (he C fp zS H1 _ _ s7 Z6 H7 _ I7 q7) λ _ s8 ⟨H8,I8,q8⟩=>again I8 q8
 exact hS (loop _ rfl) (T.self X.A 0 _ _ _ h01 (loop _ rfl))
def aNj(B:cj X scope N st ks)(hc:X.calm=true)(hi:PI X tg iter wi)(hg:∀C fp z5 zI,PG (X.block scope C N fp z5 zI) tg g)(hgo:j0 g ks)(ht:∀C fp z5 zI,yK (X.block scope C N fp z5 zI) ifs tt)
  (hT:qC 0 e tg iter ifs body)(hS:rE 0 e)(hA:aEk X.prog X.w mk obs o)(he:∀C fp z5 zI,PB (X.block scope C N fp z5 zI) body tb)(hcs:clausesOf e=⟨tg,iter,ifs,0⟩::gs)(hev:eval e X.env=zHx e scope X.env (firstIterPos (⟨tg,iter,ifs,0⟩::gs) pos) mk false (eval iter X.env))(hs:∀x,zAz iter X.env x=pure x:=by intro _;rfl):PE X e (aLY o wi st g tt tb):=by
 intro kX s Z H Q I h;have hcl:zEf scope X.env=pure (aZ scope X.env):=eX λ y hy hk=>I.ok.has _ (B.free y hy hk)
 rw[hev];refine zDZ (use:=none) hcs hs hcl B.kind B.loc (thn (hi kX s Z H _ I h) λ v s1 h1=>thn h1 λ itv s2 h2=>?_);obtain⟨it,fp,tn,J,H2,e,I2,T,st2,f2,hq⟩:=h2;subst e;refine aBz (RR:=λ acc C=>zJK (model X.prog X.w) X.A X.xe none (EP X kX Z Q) acc C) B hc hT hS hA hg hgo ht he I2 T st2 f2 hq ?_;intro D C H' s' hJ oQ q;have I3:=uw I2 f2 hJ;obtain⟨Z',J'⟩:=hJ;obtain⟨m,hn,_⟩:=id J'.loc;have hHC:H' C=none:=J'.free;refine⟨m,hn,λ h'' hs''=>⟨.ref D,H',?_,rfl,q⟩⟩;exact I3.turned (t':=s'.toks) (λ b o ne e=>(hs''.2 b ne).trans e) hHC (zC6 (zAV I2.lt oQ)) (.inr (zAi I2.sz oQ))
  (λ x c e z=>by obtain⟨v,ic⟩:=I2.cell x c e;exact absurd (zAV ic.lt (by rw[z];exact oQ)) (zB1 _))
  (λ p hp z=>absurd (zAV (I2.pinL hp) (by rw[z];exact oQ)) (zB1 _))
def aGt(hN:X.N.Nodup)(hx1:X.N[i]? =some x)(hx2:Loc X.env.scope x)(B:cj X scope N st ks)(hc:X.calm=true)(hi:PI X tg iter wi)(hg:∀C fp z5 zI,PG (X.block scope C N fp z5 zI) tg g)(hgo:j0 g ks)
  (ht:∀C fp z5 zI,yK (X.block scope C N fp z5 zI) ifs tt)(hT:qC 0 e tg iter ifs body)(hS:rE 0 e)(hA:aEk X.prog X.w mk obs o)(he:∀C fp z5 zI,PB (X.block scope C N fp z5 zI) body tb)(hsw:zCh e (some (.Name x pos')) spos.line X.env=pure true)
  (hcs:clausesOf e=⟨tg,iter,ifs,0⟩::gs)(hev:∀use,evalThenUse e X.env use=(do let _ <-zHx e scope X.env (firstIterPos (⟨tg,iter,ifs,0⟩::gs) pos) mk false (eval iter X.env) (some use)))(hs:∀x,zAz iter X.env x=pure x:=by intro _;rfl)(hf:X.fn x=true\/X.env.scope.names.lookup x=some .local:=by first|exact .inl rfl|exact .inr rfl|assumption):
  PS X (.Assign [.Name x pos'] e spos) (zW (aLY o wi st g tt tb) (lY i)):=by
 intro kX s Z H D I h;have hcl:zEf scope X.env=pure (aZ scope X.env):=eX λ y hy hk=>I.ok.has _ (B.free y hy hk)
 rw[zIh _ _ _ _ hsw];refine zAB (zDD (zAB ?_));rw[hev];refine zAB (zAw (zDZ (use:=some (zDz (.Name x pos') X.env)) (Q:=λ _ s'=>SP X kX D .next s') hcs hs hcl B.kind B.loc (thn (hi kX s Z H _ I h) λ v s1 h1=>thn h1 λ itv s2 h2=>?_)) (λ _ s' hq=>zAI (zAI hq)) λ _ _ e=>e);obtain⟨it,fp,tn,J,H2,e,I2,T,st2,f2,hq⟩:=h2;subst e;refine aBz (Q:=λ x H1=>lY i x Z H1 D.nx) (RR:=λ acc C=>zJK (model X.prog X.w) X.A X.xe (some (zDz (.Name x pos') X.env)) (λ _ s'=>SP X kX D .next s') acc C) B hc hT hS hA hg hgo ht he I2 T st2 f2 hq ?_;intro DD C H' s' hJ oQ q;have I3:=uw I2 f2 hJ;obtain⟨Z',J'⟩:=hJ;obtain⟨m,hn,_⟩:=id J'.loc;have hHC:H' C=none:=J'.free;have neL:C≠X.env.locals:=zC6 (zAV I2.lt oQ);have neC:∀x c,X.env.cells.lookup x=some c->c≠C:=λ x c e z=>by obtain⟨v,ic⟩:=I2.cell x c e;exact absurd (zAV ic.lt (by rw[z];exact oQ)) (zB1 _)
 show wpAny _ _ (zDz (.Name x pos') X.env (.ref DD)) _ _ _;refine zG0 ?_;refine rN I3 hN hx1 hx2 (show RelV (.ref DD) (.ref DD)from rfl) (λ s4 I4 ⟨a,hsa,ha⟩=>?_) hf;have nea:C≠a:=by
  rcases ha with z|z
  .rw[z];exact neL
  .exact zCy (neC _ _ z)
 refine⟨m,hn.sameBut hsa nea,λ h'' hs''=>⟨_,H',?_,q⟩⟩;exact I4.turned (t':=s4.toks) (λ b o ne e=>(hs''.2 b ne).trans e) hHC neL (.inr (zAi I2.sz oQ)) neC
  (λ p hp z=>absurd (zAV (I2.pinL hp) (by rw[z];exact oQ)) (zB1 _))
end
def aAP(elt:Expr)(env:Env)(D:Addr):Sem Unit:=do let _ <-call (.builtin "list.append") [.ref D,<-eval elt env]
def aKc(te:TE):Addr->St->Hp->(Hp->Prop)->Prop:=λ D Z H Q=>te Z H λ y H1=>∃acc,H1 D=some (.lst acc)/\acc.length<zAY/\Q (upd H1 D (.lst (acc++[y])))
def aHJ(he:PE X elt te):PB X (aAP elt) (aKc te):=by
 intro D kX s Z H Q I h;unfold aAP;refine zAB (thn (he kX s Z H _ I h) λ u s1 ⟨y,H1,I1,r1,acc,hD,hz,q⟩=>zAB ?_);refine thn (sO _ s1 Z H1 (.ref D) [y] (.ref D) [u] (λ _ H9=>H9=upd H1 D (.lst (acc++[y]))) I1 rfl (.cons r1 .nil) ⟨_,acc,y,rfl,rfl,hD,hz,rfl⟩) λ _ s2 ⟨_,H2,I2,_,e⟩=>?_
 subst e;exact zAI ⟨_,I2,q⟩
def aEi:aEk prog w (zFT []) (λ ob=>ob={cls:=.type "list",data:=.seq #[]}) (λ _=>.lst []) where
 make:=λ h=>zBJ (h _ rfl)
 live:=by rintro ob rfl;rfl
 ok:=by
  rintro H h a ob rfl hg hb;exact⟨zAa _,[],_,.nil,hg⟩
def qb(e iter2:Expr)(env:Env)(D:Addr):Sem Unit:=do
 let x <-eval iter2 env
 zFU iter2.pos
 let x <-zAz iter2 env x;let _ <-runOwn (.compStart e 1 (<-zCp [x] (zG9 x)) (.ref D) env) env
def aAm(elt tg iter tg2 iter2:Expr)(ifs ifs2:List Expr)(scope:Scope)(pos:Pos):qC 0 (.ListComp elt [⟨tg,iter,ifs,0⟩,⟨tg2,iter2,ifs2,0⟩] scope pos) tg iter ifs (qb (.ListComp elt [⟨tg,iter,ifs,0⟩,⟨tg2,iter2,ifs2,0⟩] scope pos) iter2):=
 ⟨λ _ _ _ _=>rfl,λ _ _ _ _ _=>rfl,λ _ _ _=>by unfold qb zJL;simp only[bind_assoc];rfl⟩
def aAl(elt tg iter tg2 iter2:Expr)(ifs ifs2:List Expr)(scope:Scope)(pos:Pos):qC 1 (.ListComp elt [⟨tg,iter,ifs,0⟩,⟨tg2,iter2,ifs2,0⟩] scope pos) tg2 iter2 ifs2 (aAP elt):=
 ⟨λ _ _ _ _=>rfl,λ _ _ _ _ _=>rfl,λ _ _ _=>rfl⟩
def qM(hcl:(clausesOf e)[d]? =some ⟨tg,iter,ifs,0⟩)(hu:∀(A:zAc) (it acc:Value) (env:Env),A.under (.compStart e d it acc env)=A)
  (hd:∀(prog:zA3) (w:World) (it acc:Value) (env:Env),(model prog w).den (.compStart e d it acc env)=(compStart e d it acc env).onRaise (λ x=>do noteFrame x env;zFU theWindowsPlace)):rE d e:=by
 intro prog w A R s it acc env h0 h;refine zHA ?_;rw[hu,hd];refine wpAny_notedAt ?_;unfold compStart;rw[hcl];show wpAny _ A (ask>>=_) _ _ s;refine zAB (zDU (wpAny_ite ?_));split
 .first|exact zAB (zAI (zAI (zGN rfl h0)))|exact zAI (zGN rfl h0)
 .first
   |exact zAB (zJb (zAB (zDD (zAB (zAw h (λ it2 s2 h2=>zAI (zGN rfl h2)) λ _ _ x=>x)))))
   |(refine zAB (zJb ?_);(show wpAny _ _ (zFU iter.pos>>=_) _ _ s);exact zAB (zDD (zAB (zAw h (λ it2 s2 h2=>zAI (zGN rfl h2)) λ _ _ x=>x))))
def aGF(ks:List Nat)(wi:TI)(g:TG)(tt:TT)(tb:Addr->St->Hp->(Hp->Prop)->Prop):Addr->St->Hp->(Hp->Prop)->Prop:=λ D Z H Q=>(∀k∈ks,∀v,Z[k]?≠some (some v))/\wi Z H λ J H1=>∃W:Nat->Nat->Hp->Prop,(∃m,W 0 m H1)/\
 ∀i m H2,W i m H2->((J.stop i H2/\Q H2)\/(J.go i H2/\∀x H3,J.yld i H2 x H3->g x Z H3 λ Z4 H4=>tt Z4 H4 λ ok H5=>
  if ok=true then tb D Z4 H5 λ H6=>∃m',m'<m/\W (i+1) m' H6 else∃m',m'<m/\W (i+1) m' H5))
def aEE(hc:X.calm=true)(hx:∀v s,X.xe v s->False)(hT:qC 1 e tg iter ifs body)(hS:rE 1 e)
  (hi:PI X tg iter wi)(hg:PG X tg g)(hgo:j0 g ks)(ht:yK X ifs tt)(he:PB X body tb)(hs:∀x,zAz iter X.env x=pure x:=by intro _;rfl):PB X (qb e iter) (aGF ks wi g tt tb):=by
 have nf:∀{α:Type} {m:Sem α} {Q:α->zAE->Prop} {s:zAE},wpAny (model X.prog X.w) X.A m Q X.xe s->wpAny (model X.prog X.w) X.A m Q (λ _ _=>False) s:=λ h=>zAw h (λ _ _ q=>q) hx
 intro D kX s Z H Q I h;obtain⟨hno,h⟩:=h;unfold qb;refine zAB (thn (hi kX s Z H _ I h) λ v s1 h1=>zAB (zDD (zAB (zFo (hs v) (zAB (zBW (thn h1 λ itv s2 h2=>zAB ?_)))))));obtain⟨it,fp,tn,J,H1,e1,I1,T,st1,f1,W,⟨m0,w0⟩,step⟩:=h2;subst e1;have aI:∀{H':Hp},(∀b∈fp,H' b=none)->∀b∈fp,rF X kX H' b:=λ{H'} hn b hb=>⟨hn b hb,(f1 b hb).2⟩
 have loop:zCF (model X.prog X.w) X.A (.compLoop e 1 (.ref it) (.ref D) X.env) (λ r s'=>match r with| .ok _=>(∃H',Inv X kX Z H' s'/\Q H')| .error _=>False) s2:=by
  refine qt hT (λ n s'=>∃i H2,Inv X kX Z H2 s'/\tn i s'.heap/\(∀b∈fp,H2 b=none)/\W i n H2) ?_ m0 ⟨0,H1,I1,st1,λ b hb=>(f1 b hb).1,w0⟩;rintro n s3 ⟨i,H2,I2,st2,fr2,w2⟩;rcases step i n H2 w2 with ⟨stop,q⟩|⟨go,nxt⟩
  .refine thn (T.done X rfl rfl rfl hc i kX s3 Z H2 _ I2 (aI fr2) st2 stop) λ r s4 ⟨hr,I4⟩=>?_
   subst hr;exact⟨H2,I4,q⟩
  .refine thn (T.item X rfl rfl rfl hc i kX s3 Z H2 _ I2 (aI fr2) st2 go) λ r s4 ⟨u,hr,h4⟩=>?_
   subst hr;refine thn h4 λ _ s5 ⟨x,H5,I5,r5,y5,st5,fr5⟩=>?_
   have I5p:=I5.pinned (aI fr5) (T.obj _ _ st5);refine thn (nf (hg _ s5 Z H5 x u _ I5p r5 (hgo _ _ _ _ (nxt x H5 y5)))) λ _ s6 ⟨Z6,H6,I6,q6,aF0,ag6⟩=>?_
   refine thn (nf (ht _ s6 Z6 H6 _ I6 q6)) λ ok s7 ⟨H7,I7,q7⟩=>?_
   have again:∀{H9:Hp} {s9:zAE},Inv X (kX++pP fp s5.heap) Z6 H9 s9->(∃m',m'<n/\W (i+1) m' H9)->∃m,m<n/\∃i H2,Inv X kX Z H2 s9/\tn i s9.heap/\(∀b∈fp,H2 b=none)/\W i m H2:=λ{H9 s9} I9 ⟨m',hm,w9⟩=>by
    have bP:∀b∈fp,∀o,s5.heap.get? b=some o->s9.heap.get? b=some o/\H9 b=none:=λ b hb o e=>by
     have z:=I9.pin (b,o) (zA7 _ (zA7 _ (iy hb e)));exact⟨z.1,z.2.1⟩
    refine⟨m',hm,i+1,H9,I9.unpinned.weak (by rw[aF0]) (λ k v e=>?_),T.keep _ _ _ st5 λ b hb o e=>(bP b hb o e).1,λ b hb=>?_,w9⟩
    .by_cases hk:k∈ks
     .exact absurd e (hno k hk v)
     .rw[ag6 k hk];exact e
    .obtain⟨o,e,_⟩:=T.obj _ _ st5 b hb
     exact(bP b hb o e).2
   cases ok with
   |false=>
    rw[if_neg zA8]at q7 ⊢;exact again I7 q7
   |true=>
    rw[if_pos rfl]at q7 ⊢;exact thn (nf (he D _ s7 Z6 H7 _ I7 q7)) λ _ s8 ⟨H8,I8,q8⟩=>again I8 q8
 refine wpAny_runOwn (h:=none) (zC9 (hS loop (T.self X.A 0 _ _ _ st1 loop)) λ r s' hr=>?_);cases r with
 |ok f=>exact zAI hr
 |error x=>exact hr.elim
end L2
namespace VL
open PySem PySem.Spec PyProof.Rows L2
inductive D where
 |non|bl (b:Bool)|int (i:Int)|str (x:Str)|tup (l:List D)|lst (l:List D)|dct (ks vs:List D)|set (l:List Int)|scr (l:List Int)|fn (x:Str)
instance:Inhabited D:=⟨.non⟩
def kD:Key->D
 | .inl i=>.int i
 | .inr x=>.str x
variable{K:zAA}
def oh(K:zAA)(H:Hp)(a:Addr)(ns:List Int):Prop:=(∃o,H a=some (.frz o (.lst (ns.map V.int))))\/
 ∃(o:Obj) (its:Array Value) (n:Nat),K.lookup a=some o/\o.cls= .type "list"/\o.dict=none/\o.data= .seq its n/\its.size<=zAY/\Vals (ns.map V.int) its.toList
def oh.sq(h:oh K H a ns):SqL K H a (ns.map V.int):=by
 rcases h with h|h
 .exact .inl (.inr h)
 .exact .inr h
def hsh(ns:List Int):Int:=reduceHash (zJR (ns.map hashInt))
def dxO(a:Addr)(es:List (List Int×Addr×V)):HO:=.ext λ h=>es.length<=zAY/\(a==zDY)=false/\∃(xs:List (List Int×Addr×Value)) (o:Obj) (ts:Array DictEntry) (ep:Nat),zFa (λ e x=>e.1=x.1/\e.2.1=x.2.1/\RelV e.2.2 x.2.2) es xs/\
 h.get? a=some o/\o.ExactDict/\o.data= .dict ts ep/\ts.toList=xs.map λ x=>⟨hsh x.1,.ref x.2.1,x.2.2⟩
structure DxK(K:zAA)(H:Hp)(a:Addr)(es:List (List Int×Addr×V)):Prop where
 at_:H a=some (dxO a es)
 ks:∀e∈es,SqT K H e.2.1 (e.1.map V.int)
 nd:(es.map (·.1)).Nodup
mutual
inductive Rp(K:zAA):(Addr->Prop)->Hp->V->D->Prop where
 |non {A:Addr->Prop} {H:Hp}:Rp K A H .non .non
 |bl {A:Addr->Prop} {H:Hp} (b:Bool):Rp K A H (.bl b) (.bl b)
 |int {A:Addr->Prop} {H:Hp} (i:Int):Rp K A H (.int i) (.int i)
 |str {A:Addr->Prop} {H:Hp} (x:Str):Rp K A H (.str x) (.str x)
 |tup {A:Addr->Prop} {H:Hp} {a:Addr} {xs:List V} {ds:List D} (h:SqT K H a xs) (r:Rps K A H xs ds):Rp K A H (.ref a) (.tup ds)
 |lst {A:Addr->Prop} {H:Hp} {a:Addr} {xs:List V} {ds:List D} (h:H a=some (.lst xs)) (m:A a) (r:Rps K (λ p=>A p/\p≠a) H xs ds):Rp K A H (.ref a) (.lst ds)
 |dK {A:Addr->Prop} {H:Hp} {a:Addr} {kvs:List (Key×V)} {ds:List D} (h:H a=some (.dK kvs)) (m:A a) (r:Rps K (λ p=>A p/\p≠a) H (kvs.map (·.2)) ds):Rp K A H (.ref a) (.dct (kvs.map λ p=>kD p.1) ds)
 |dT {A:Addr->Prop} {H:Hp} {a:Addr} {es:List (List Int×Addr×V)} {ds:List D} (h:DxK K H a es) (m:A a) (r:Rps K (λ p=>A p/\p≠a) H (es.map (·.2.2)) ds):Rp K A H (.ref a) (.dct (.non::es.map λ e=>.tup (e.1.map .int)) ds)
 |set {A:Addr->Prop} {H:Hp} {a:Addr} {S:Int->Bool} {l:List Int} (h:H a=some (.set S l.length)) (m:A a) (hS:∀i,S i=decide (i∈l)) (nd:l.Nodup):Rp K A H (.ref a) (.set l)
 |scr {A:Addr->Prop} {H:Hp} {a:Addr} {ns:List Int} (h:oh K H a ns):Rp K A H (.ref a) (.scr ns)
 |fn {A:Addr->Prop} {H:Hp} {a:Addr} {x:Str} (h:zAf K zA9 x=some (some (.ref a))):Rp K A H (.ref a) (.fn x)
inductive Rps(K:zAA):(Addr->Prop)->Hp->List V->List D->Prop where
 |nil {A:Addr->Prop} {H:Hp}:Rps K A H [] []
 |cons {A:Addr->Prop} {H:Hp} {x:V} {d:D} {xs:List V} {ds:List D} (h:Rp K A H x d) (r:Rps K A H xs ds):Rps K A H (x::xs) (d::ds)
end
def oh.mono(s:aO H H')(h:oh K H a ns):oh K H' a ns:=by
 rcases h with ⟨o,h⟩|h
 .exact .inl ⟨o,s _ _ h⟩
 .exact .inr h
def DxK.mono(h:DxK K H a es)(s:aO H H'):DxK K H' a es:=⟨s _ _ h.at_,λ e he=>s.sqt (h.ks e he),h.nd⟩
def Rp.mono'(s:aO H H')(r:Rp K A H x d)(hA:∀p o,H p=some o->A p->A' p):Rp K A' H' x d:=
 Rp.rec (motive_1:=λ A H x d _=>∀H',aO H H'->∀A':Addr->Prop,(∀p o,H p=some o->A p->A' p)->Rp K A' H' x d) (motive_2:=λ A H xs ds _=>∀H',aO H H'->∀A':Addr->Prop,(∀p o,H p=some o->A p->A' p)->Rps K A' H' xs ds)
  (λ _ _ _ _=>.non) (λ b _ _ _ _=>.bl b) (λ i _ _ _ _=>.int i) (λ x _ _ _ _=>.str x) (λ h _ ih _ s _ hA=>.tup (s.sqt h) (ih _ s _ hA))
  (λ h m _ ih _ s _ hA=>.lst (s _ _ h) (hA _ _ h m) (ih _ s _ λ p o e z=>⟨hA p o e z.1,z.2⟩)) (λ h m _ ih _ s _ hA=>.dK (s _ _ h) (hA _ _ h m) (ih _ s _ λ p o e z=>⟨hA p o e z.1,z.2⟩))
  (λ h m _ ih _ s _ hA=>.dT (h.mono s) (hA _ _ h.at_ m) (ih _ s _ λ p o e z=>⟨hA p o e z.1,z.2⟩)) (λ h m hS nd _ s _ hA=>.set (s _ _ h) (hA _ _ h m) hS nd) (λ h _ s _ _=>.scr (h.mono s)) (λ h _ _ _ _=>.fn h) (λ _ _ _ _=>.nil) (λ _ _ ih ir _ s _ hA=>.cons (ih _ s _ hA) (ir _ s _ hA)) r H' s A' hA
def Rps.mono'(s:aO H H')(r:Rps K A H xs ds)(hA:∀p o,H p=some o->A p->A' p):Rps K A' H' xs ds:=
 Rps.rec (motive_1:=λ A H x d _=>∀H',aO H H'->∀A':Addr->Prop,(∀p o,H p=some o->A p->A' p)->Rp K A' H' x d) (motive_2:=λ A H xs ds _=>∀H',aO H H'->∀A':Addr->Prop,(∀p o,H p=some o->A p->A' p)->Rps K A' H' xs ds)
  (λ _ _ _ _=>.non) (λ b _ _ _ _=>.bl b) (λ i _ _ _ _=>.int i) (λ x _ _ _ _=>.str x) (λ h _ ih _ s _ hA=>.tup (s.sqt h) (ih _ s _ hA))
  (λ h m _ ih _ s _ hA=>.lst (s _ _ h) (hA _ _ h m) (ih _ s _ λ p o e z=>⟨hA p o e z.1,z.2⟩)) (λ h m _ ih _ s _ hA=>.dK (s _ _ h) (hA _ _ h m) (ih _ s _ λ p o e z=>⟨hA p o e z.1,z.2⟩))
  (λ h m _ ih _ s _ hA=>.dT (h.mono s) (hA _ _ h.at_ m) (ih _ s _ λ p o e z=>⟨hA p o e z.1,z.2⟩)) (λ h m hS nd _ s _ hA=>.set (s _ _ h) (hA _ _ h m) hS nd) (λ h _ s _ _=>.scr (h.mono s)) (λ h _ _ _ _=>.fn h) (λ _ _ _ _=>.nil) (λ _ _ ih ir _ s _ hA=>.cons (ih _ s _ hA) (ir _ s _ hA)) r H' s A' hA
def Rp.mono(s:aO H H')(hA:∀p o,H p=some o->A p->A' p)(r:Rp K A H x d):Rp K A' H' x d:=r.mono' s hA
def Rps.mono(s:aO H H')(hA:∀p o,H p=some o->A p->A' p)(r:Rps K A H x d):Rps K A' H' x d:=r.mono' s hA
def Rp.up(s:aO H H')(r:Rp K A H x d):Rp K A H' x d:=r.mono s λ _ _ _ h=>h
def Rp.wk(hA:∀p o,H p=some o->A p->A' p)(r:Rp K A H x d):Rp K A' H x d:=r.mono (aO.refl H) hA
def Rps.up(s:aO H H')(r:Rps K A H x d):Rps K A H' x d:=r.mono s λ _ _ _ h=>h
def Rps.wk(hA:∀p o,H p=some o->A p->A' p)(r:Rps K A H x d):Rps K A' H x d:=r.mono (aO.refl H) hA
def iG:HO->Bool
 | .lst _=>true| .dK _=>true| .dT _=>true| .set _ _=>true| .ext _=>true|_=>false
def ud(s:kh l H H')(hl:H l=some o)(ho:iG o=true)(h:SqT K H a xs):SqT K H' a xs:=by
 rcases h with (h|⟨u,h⟩)|h
 .refine .inl (.inl (s _ _ (λ e=>?_) h))
  subst e;rw[hl]at h;cases h;cases ho
 .refine .inl (.inr ⟨u,s _ _ (λ e=>?_) h⟩)
  subst e;rw[hl]at h;cases h;cases ho
 .exact .inr h
def aDr(s:kh l H H')(hl:H l=some o)(ho:iG o=true)(h:oh K H a ns):oh K H' a ns:=by
 rcases h with ⟨u,h⟩|h
 .exact .inl ⟨u,s _ _ (λ e=>by subst e;rw[hl]at h;cases h;cases ho) h⟩
 .exact .inr h
def DxK.but(h:DxK K H a es)(s:kh l H H')(hl:H l=some o)(ho:iG o=true)(ne:a≠l):DxK K H' a es:=
 ⟨s _ _ ne h.at_,λ e he=>ud s hl ho (h.ks e he),h.nd⟩
def Rp.but'(s:kh l H H')(hl:H l=some o)(ho:iG o=true)(r:Rp K A H x d)(hA:¬A l):Rp K A H' x d:=
 Rp.rec (motive_1:=λ A H x d _=>∀H',kh l H H'->∀o:HO,H l=some o->iG o=true->¬A l->Rp K A H' x d) (motive_2:=λ A H xs ds _=>∀H',kh l H H'->∀o:HO,H l=some o->iG o=true->¬A l->Rps K A H' xs ds)
  (λ _ _ _ _ _ _=>.non) (λ b _ _ _ _ _ _=>.bl b) (λ i _ _ _ _ _ _=>.int i) (λ x _ _ _ _ _ _=>.str x) (λ h _ ih _ s o hl ho hA=>.tup (ud s hl ho h) (ih _ s o hl ho hA))
  (λ h m _ ih _ s o hl ho hA=>.lst (s _ _ (λ e=>hA (e▸m)) h) m (ih _ s o hl ho λ z=>hA z.1)) (λ h m _ ih _ s o hl ho hA=>.dK (s _ _ (λ e=>hA (e▸m)) h) m (ih _ s o hl ho λ z=>hA z.1))
  (λ h m _ ih _ s o hl ho hA=>.dT (h.but s hl ho λ e=>hA (e▸m)) m (ih _ s o hl ho λ z=>hA z.1)) (λ h m hS nd _ s o hl ho hA=>.set (s _ _ (λ e=>hA (e▸m)) h) m hS nd) (λ h _ s o hl ho _=>.scr (aDr s hl ho h)) (λ h _ _ _ _ _ _=>.fn h) (λ _ _ _ _ _ _=>.nil) (λ _ _ ih ir _ s o hl ho hA=>.cons (ih _ s o hl ho hA) (ir _ s o hl ho hA)) r H' s o hl ho hA
def Rps.but'(s:kh l H H')(hl:H l=some o)(ho:iG o=true)(r:Rps K A H xs ds)(hA:¬A l):Rps K A H' xs ds:=
 Rps.rec (motive_1:=λ A H x d _=>∀H',kh l H H'->∀o:HO,H l=some o->iG o=true->¬A l->Rp K A H' x d) (motive_2:=λ A H xs ds _=>∀H',kh l H H'->∀o:HO,H l=some o->iG o=true->¬A l->Rps K A H' xs ds)
  (λ _ _ _ _ _ _=>.non) (λ b _ _ _ _ _ _=>.bl b) (λ i _ _ _ _ _ _=>.int i) (λ x _ _ _ _ _ _=>.str x) (λ h _ ih _ s o hl ho hA=>.tup (ud s hl ho h) (ih _ s o hl ho hA))
  (λ h m _ ih _ s o hl ho hA=>.lst (s _ _ (λ e=>hA (e▸m)) h) m (ih _ s o hl ho λ z=>hA z.1)) (λ h m _ ih _ s o hl ho hA=>.dK (s _ _ (λ e=>hA (e▸m)) h) m (ih _ s o hl ho λ z=>hA z.1))
  (λ h m _ ih _ s o hl ho hA=>.dT (h.but s hl ho λ e=>hA (e▸m)) m (ih _ s o hl ho λ z=>hA z.1)) (λ h m hS nd _ s o hl ho hA=>.set (s _ _ (λ e=>hA (e▸m)) h) m hS nd) (λ h _ s o hl ho _=>.scr (aDr s hl ho h)) (λ h _ _ _ _ _ _=>.fn h) (λ _ _ _ _ _ _=>.nil) (λ _ _ ih ir _ s o hl ho hA=>.cons (ih _ s o hl ho hA) (ir _ s o hl ho hA)) r H' s o hl ho hA
def Rp.but(s:kh l H H')(hl:H l=some o)(ho:iG o=true)(hA:¬A l)(r:Rp K A H x d):Rp K A H' x d:=r.but' s hl ho hA
def Rps.but(s:kh l H H')(hl:H l=some o)(ho:iG o=true)(hA:¬A l)(r:Rps K A H x d):Rps K A H' x d:=r.but' s hl ho hA
mutual
def imm:D->Bool
 | .tup l=>eF l
 | .lst _=>false
 | .dct _ _=>false
 | .set _=>false
 |_=>true
def eF:List D->Bool
 |[]=>true
 |d::r=>imm d&&eF r
end
def oH(e:eF (d::r)=true):imm d=true/\eF r=true:=by
 simp only[eF,zAL]at e;exact e
def aEW(e:imm (.tup l)=true):eF l=true:=by simpa[imm]using e
def aE0(e:imm (.lst l)=true):False:=by simp[imm]at e
def uq(e:imm (.dct l k)=true):False:=by simp[imm]at e
def aEX(e:imm (.set l)=true):False:=by simp[imm]at e
def Rp.imm'(r:Rp K A H x d)(e:VL.imm d=true):Rp K A' H x d:=
 Rp.rec (motive_1:=λ _ H x d _=>VL.imm d=true->Rp K A' H x d) (motive_2:=λ _ H xs ds _=>eF ds=true->Rps K A' H xs ds)
  (λ _=>.non) (λ b _=>.bl b) (λ i _=>.int i) (λ x _=>.str x) (λ h _ ih e=>.tup h (ih (aEW e)))
  (λ _ _ _ _ e=>(aE0 e).elim) (λ _ _ _ _ e=>(uq e).elim) (λ _ _ _ _ e=>(uq e).elim) (λ _ _ _ _ e=>(aEX e).elim) (λ h _=>.scr h) (λ h _=>.fn h) (λ _=>.nil) (λ _ _ ih ir e=>.cons (ih (oH e).1) (ir (oH e).2)) r e
def Rps.imm'(r:Rps K A H xs ds)(e:eF ds=true):Rps K A' H xs ds:=
 Rps.rec (motive_1:=λ _ H x d _=>VL.imm d=true->Rp K A' H x d) (motive_2:=λ _ H xs ds _=>eF ds=true->Rps K A' H xs ds)
  (λ _=>.non) (λ b _=>.bl b) (λ i _=>.int i) (λ x _=>.str x) (λ h _ ih e=>.tup h (ih (aEW e)))
  (λ _ _ _ _ e=>(aE0 e).elim) (λ _ _ _ _ e=>(uq e).elim) (λ _ _ _ _ e=>(uq e).elim) (λ _ _ _ _ e=>(aEX e).elim) (λ h _=>.scr h) (λ h _=>.fn h) (λ _=>.nil) (λ _ _ ih ir e=>.cons (ih (oH e).1) (ir (oH e).2)) r e
theorem Rp.imm(r:Rp K A H x d)(h:VL.imm d=true):Rp K A' H x d:=r.imm' h
def Rps.imm(r:Rps K A H x d)(h:eF d=true):Rps K A' H x d:=r.imm' h
def Rp.int_inv(r:Rp K A H v (.int i)):v= .int i:=by cases r;rfl
def Rp.bl_inv(r:Rp K A H v (.bl b)):v= .bl b:=by cases r;rfl
def Rp.tup_inv(r:Rp K A H v (.tup ds)):∃a xs,v= .ref a/\SqT K H a xs/\Rps K A H xs ds:=by cases r with|tup h r=>exact⟨_,_,rfl,h,r⟩
def Rp.lst_inv(r:Rp K A H v (.lst ds)):∃a xs,v= .ref a/\H a=some (.lst xs)/\A a/\Rps K (λ p=>A p/\p≠a) H xs ds:=by cases r with|lst h m r=>exact⟨_,_,rfl,h,m,r⟩
def Rp.scr_inv(r:Rp K A H v (.scr ns)):∃a,v= .ref a/\oh K H a ns:=by cases r with|scr h=>exact⟨_,rfl,h⟩
def Rps.one_inv(r:Rps K A H vs [d]):∃v,vs=[v]/\Rp K A H v d:=by cases r with|cons h r=>cases r;exact⟨_,rfl,h⟩
section
variable{A:Addr->Prop}{H:Hp}
theorem Rps.length:∀{xs:List V} {ds:List D},Rps K A H xs ds->xs.length=ds.length:=by
 intro xs ds h;induction xs generalizing ds with
 |nil=>cases h;rfl
 |cons x xs ih=>cases h with|cons _ r=>exact congrArg (·+1) (ih r)
theorem Rps.get:∀{xs:List V} {ds:List D} {i:Nat} {x:V},Rps K A H xs ds->xs[i]? =some x->∃d,ds[i]? =some d/\Rp K A H x d
 |_,_,_,_,.nil,e=>by simp at e
 |_,_,0,_,.cons h _,e=>by simp at e;subst e;exact⟨_,rfl,h⟩
 |_,_,i+1,x,.cons _ r,e=>by
  obtain⟨d,h1,h2⟩:=Rps.get (i:=i) (x:=x) r (by simpa using e);exact⟨d,by simpa using h1,h2⟩
theorem Rps.getD:∀{xs:List V} {ds:List D} {i:Nat} {d:D},Rps K A H xs ds->ds[i]? =some d->∃x,xs[i]? =some x/\Rp K A H x d
 |_,_,_,_,.nil,e=>by simp at e
 |_,_,0,_,.cons h _,e=>by simp at e;subst e;exact⟨_,rfl,h⟩
 |_,_,i+1,d,.cons _ r,e=>by
  obtain⟨x,h1,h2⟩:=Rps.getD (i:=i) (d:=d) r (by simpa using e);exact⟨x,by simpa using h1,h2⟩
def Rps.append:∀{xs ys:List V} {ds es:List D},Rps K A H xs ds->Rps K A H ys es->Rps K A H (xs++ys) (ds++es):=by
 intro xs ys ds es h s;induction xs generalizing ds with
 |nil=>cases h;exact s
 |cons x xs ih=>cases h with|cons h r=>exact .cons h (ih r)
theorem Rps.reverse:∀{xs:List V} {ds:List D},Rps K A H xs ds->Rps K A H xs.reverse ds.reverse:=by
 intro xs ds h;induction xs generalizing ds with
 |nil=>cases h;exact .nil
 |cons x xs ih=>
  cases h with
  |cons h r=>
   rw[zD1,zD1];exact Rps.append (ih r) (.cons h .nil)
theorem Rps.ints:∀{ns:List Int},Rps K A H (ns.map V.int) (ns.map D.int)
 |[]=>.nil
 |n::ns=>.cons (.int n) Rps.ints
theorem Rps.ints_of:∀{xs:List V} {ns:List Int},Rps K A H xs (ns.map D.int)->xs=ns.map V.int
 |_,[],.nil=>rfl
 |_,n::ns,.cons h r=>by
  cases h;rw[zAM,Rps.ints_of r]
end
def aM(h:a=b):a=b:=h
inductive Rs(α:Type) where
 |ok (a:α)|ex (c:Str)|st
noncomputable def Rs.bd{α β:Type}:Rs α->(α->Rs β)->Rs β
 | .ok a,f=>f a
 | .ex c,_=>.ex c
 | .st,_=>.st
@[simp] def aQ(a:α)(f:α->Rs β):(Rs.ok a).bd f=f a:=aM rfl
def cF{r:Rs α}(h:r.bd f= .ok b):∃a,r= .ok a/\f a= .ok b:=by
 cases r with
 |ok a=>exact⟨a,rfl,h⟩
 |ex c=>cases h
 |st=>cases h
abbrev fE:=List (List D)
inductive Slot where
 |no|sh (d:D)|nw (d:D)|ow (d:D)|oz (d:D)|o2 (l:fE)
abbrev En:=List Slot
abbrev Lab:=Addr->Nat×Nat
abbrev Mode:=Option (List Nat)
def inM(m:Mode)(n:Nat):Prop:=match m with
 |none=>True
 |some L=>n∈L
def jn:Mode->Mode->Mode
 |some a,some b=>some (a++b)
 |_,_=>none
def aNv(h:inM a n):inM (jn a b) n:=by
 cases a with
 |none=>cases b<;>exact trivial
 |some L=>
  cases b with
  |none=>exact trivial
  |some M=>exact zA1 _ h
def aNu(h:inM b n):inM (jn a b) n:=by
 cases a with
 |none=>cases b<;>exact trivial
 |some L=>
  cases b with
  |none=>exact trivial
  |some M=>exact zA7 _ h
def fpM(m:Mode)(lab:Lab)(H:Hp):Addr->Prop:=λ p=>H p=none\/inM m (lab p).1
def aIA(h:fpM a lab H p):fpM (jn a b) lab H p:=h.imp id aNv
def aHz(h:fpM b lab H p):fpM (jn a b) lab H p:=h.imp id aNu
def jw(s:aO H H')(h:fpM m lab H' p):fpM m lab H p:=h.imp (λ z=>s.free z) id
structure Gx where
 H0:Hp
 E:XK
 cl:Str->Addr
def aFR:D->Bool
 | .lst _=>true
 | .dct _ _=>true
 | .set _=>true
 |_=>false
def eV(K:zAA)(H:Hp)(lab:Lab)(i:Nat)(v:V):Slot->Prop
 | .no=>True
 | .sh d=>Rp K (λ p=>(lab p).1<=1) H v d
 | .nw d=>Rp K (λ p=>(lab p).1=1) H v d
 | .ow d=>Rp K (λ p=>(lab p).1=1\/(lab p).1=i+2) H v d/\(aFR d=true->∃a,v= .ref a/\(lab a).1=i+2)
 | .oz d=>∃a xs ds,v= .ref a/\d= .lst ds/\H a=some (.lst xs)/\(lab a).1=i+2/\Rps K (λ p=>(lab p).1<=1) H xs ds
 | .o2 l=>∃a xs,v= .ref a/\H a=some (.lst xs)/\lab a=(i+2,0)/\xs.length=l.length/\∀(j:Nat) x ds,xs[j]? =some x->l[j]? =some ds->Rp K (λ p=>lab p=(i+2,j+1)) H x (.lst ds)
structure RR(K:zAA)(G:Gx)(U:List (V×D))(Y:En)(Z:L2.St)(H:Hp)(lab:Lab):Prop where
 len:Z.length=Y.length
 sl:∀(i:Nat) (s:Slot),Y[i]? =some s->s= .no\/∃v,Z[i]? =some (some v)/\eV K H lab i v s
 old:aO G.H0 H
 new:∀p,(lab p).1≠0->G.H0 p=none
 tm:∀q∈U,Rp K (λ p=>(lab p).1<=1) H q.1 q.2
theorem eV.up(s:aO H H')(h:eV K H lab i v x):eV K H' lab i v x:=by
 cases x with
 |no=>exact trivial
 |sh d=>exact Rp.up s h
 |nw d=>exact Rp.up s h
 |ow d=>exact⟨Rp.up s h.1,h.2⟩
 |oz d=>
  obtain⟨a,xs,ds,e1,e2,e3,e4,e5⟩:=h;exact⟨a,xs,ds,e1,e2,s _ _ e3,e4,e5.up s⟩
 |o2 l=>
  obtain⟨a,xs,e1,e2,e3,e4,e5⟩:=h;exact⟨a,xs,e1,s _ _ e2,e3,e4,λ j x ds f1 f2=>(e5 j x ds f1 f2).up s⟩
def aG7(r:Rp K A H (.ref a) d)(hm:aFR d=true):∃o,H a=some o/\iG o=true/\A a:=by
 cases r with
 |lst h m _=>exact⟨_,h,rfl,m⟩
 |dK h m _=>exact⟨_,h,rfl,m⟩
 |dT h m _=>exact⟨_,h.at_,rfl,m⟩
 |set h m _ _=>exact⟨_,h,rfl,m⟩
 |tup _ _=>cases hm
 |scr _=>cases hm
 |fn _=>cases hm
def aL9(r:Rp K A H v d)(hm:aFR d=true):∃a,v= .ref a:=by
 cases r with
 |lst h m _=>exact⟨_,rfl⟩
 |dK h m _=>exact⟨_,rfl⟩
 |dT h m _=>exact⟨_,rfl⟩
 |set h m _ _=>exact⟨_,rfl⟩
 |_=>cases hm
theorem eV.lab{lab lab':Lab}(hl:∀p o,H p=some o->lab' p=lab p)(h:eV K H lab i v x):eV K H lab' i v x:=by
 cases x with
 |no=>exact trivial
 |sh d=>exact Rp.wk (λ p o e q=>(hl p o e).symm▸q) h
 |nw d=>exact Rp.wk (λ p o e q=>(hl p o e).symm▸q) h
 |ow d=>
  obtain⟨h,t⟩:=h;refine⟨Rp.wk (λ p o e q=>(hl p o e).symm▸q) h,λ m=>?_⟩;obtain⟨a,rfl,ea⟩:=t m;obtain⟨o,ho,_⟩:=aG7 h m;exact⟨a,rfl,(congrArg (·.1) (hl a o ho)).trans ea⟩
 |oz d=>
  obtain⟨a,xs,ds,e1,e2,e3,e4,e5⟩:=h;exact⟨a,xs,ds,e1,e2,e3,(congrArg (·.1) (hl _ _ e3)).trans e4,Rps.wk (λ p o e q=>(hl p o e).symm▸q) e5⟩
 |o2 l=>
  obtain⟨a,xs,e1,e2,e3,e4,e5⟩:=h;exact⟨a,xs,e1,e2,(hl _ _ e2).trans e3,e4,λ j x ds f1 f2=>Rp.wk (λ p o e q=>(hl p o e).symm▸q) (e5 j x ds f1 f2)⟩
section
variable{G:Gx}{U:List (V×D)}{Y:En}{Z:L2.St}{H H':Hp}{lab lab':Lab}
theorem RR.up(R:RR K G U Y Z H lab)(s:aO H H'):RR K G U Y Z H' lab:=
 ⟨R.len,λ i x e=>(R.sl i x e).imp id λ⟨v,e1,e2⟩=>⟨v,e1,e2.up s⟩,R.old.trans s,R.new,λ q hq=>(R.tm q hq).up s⟩
def RR.relab(R:RR K G U Y Z H lab)(hl:∀p o,H p=some o->lab' p=lab p)(hn:∀p,(lab' p).1≠0->G.H0 p=none):RR K G U Y Z H lab':=
 ⟨R.len,λ i x e=>(R.sl i x e).imp id λ⟨v,e1,e2⟩=>⟨v,e1,e2.lab hl⟩,R.old,hn,λ q hq=>Rp.wk (λ p o e z=>by rw[hl p o e];exact z) (R.tm q hq)⟩
def RR.drop(R:RR K G (U'++U) Y Z H lab):RR K G U Y Z H lab:=⟨R.len,R.sl,R.old,R.new,λ z hz=>R.tm z (zA7 _ hz)⟩
def RR.put(R:RR K G U Y Z H lab)(h:eV K H lab i v s):RR K G U (Y.set i s) (Z.set i (some v)) H lab:=by
 refine⟨by rw[zBf,zBf,R.len],λ j x e=>?_,R.old,R.new,R.tm⟩;by_cases hj:i=j
 .subst hj
  have hi:i<Y.length:=by
   have:=(zAK.mp e).1
   rwa [zBf]at this
  rw[zCL hi]at e;cases e;exact .inr ⟨v,by rw[zCL (by rw[R.len];exact hi)],h⟩
 .rw[zBX hj]at e
  rcases R.sl j x e with z|⟨u,e1,e2⟩
  .exact .inl z
  .exact .inr ⟨u,by rw[zBX hj];exact e1,e2⟩
def cB(H:Hp)(n:Nat)(lab:Lab):Lab:=λ p=>match H p with
 |none=>(n,0)
 |some _=>lab p
def bR(h:H p=some o):cB H n lab p=lab p:=by unfold cB;rw[h]
def vo(h:H p=none):cB H n lab p=(n,0):=by unfold cB;rw[h]
def RR.fresh{P:Nat->Prop}(h1:P 1)(hm:∀k,inM m k->P k)(R:RR K G U Y Z H lab)(s:aO H H')(r:Rp K (fpM m lab H) H' v d):
  RR K G U Y Z H' (cB H 1 lab)/\Rp K (λ p=>P (cB H 1 lab p).1) H' v d:=by
 refine⟨(R.relab (λ p o e=>bR e) λ p hp=>?_).up s,Rp.wk (λ p o e z=>?_) r⟩
 .cases e:H p with
  |none=>exact R.old.free e
  |some o=>rw[bR e]at hp;exact R.new p hp
 .rcases z with z|z
  .rw[vo z];exact h1
  .cases e:H p with
   |none=>rw[vo e];exact h1
   |some o=>rw[bR e];exact hm _ z
def RR.freshO(i:Nat)(hm:∀k,inM m k->k=1\/k=i+2)(R:RR K G U Y Z H lab)(s:aO H H')(r:Rp K (fpM m lab H) H' v d)(ht:aFR d=true->∃a,v= .ref a/\H a=none):
  ∃lab',RR K G U Y Z H' lab'/\eV K H' lab' i v (.ow d):=by
 obtain⟨R',r'⟩:=R.fresh (P:=λ k=>k=1\/k=i+2) (.inl rfl) hm s r;cases hd:aFR d with
 |false=>exact⟨_,R',r',λ z=>absurd z (by simp[hd])⟩
 |true=>
  obtain⟨a,rfl,ha⟩:=ht hd;refine⟨λ p=>if p=a then(i+2,0)else cB H 1 lab p,?_,Rp.wk (λ p o e z=>?_) r',λ _=>⟨a,rfl,by show(if a=a then((i+2,0):Nat×Nat)else cB H 1 lab a).1=i+2;rw[if_pos rfl]⟩⟩
  .refine(R.relab (lab':=λ p=>if p=a then(i+2,0)else cB H 1 lab p) (λ p o e=>?_) λ p hp=>?_).up s
   .rw[if_neg (λ z=>by subst z;rw[ha]at e;cases e),bR e]
   .by_cases z:p=a
    .subst z;exact R.old.free ha
    .rw[if_neg z]at hp;exact R'.new p hp
  .dsimp only
   by_cases q:p=a
   .rw[if_pos q];exact .inr rfl
   .rw[if_neg q];exact z
def aKu(h:eV K H lab i v (.oz d)):Rp K (λ p=>(lab p).1<=1\/(lab p).1=i+2) H v d:=by
 obtain⟨a,xs,ds,rfl,rfl,h1,h2,h3⟩:=h;exact .lst h1 (.inr h2) (h3.wk λ p o e z=>⟨.inl z,λ q=>by subst q;lia⟩)
end
structure Ct where
 ι:Type
 X:ι->Cx
 prog:zA3
 w:World
 K:zAA
 mg:Str->Option Value
 base:Heap
 k:Nat
 G:Gx
 cx:∀i,(X i).prog=prog/\(X i).w=w/\(X i).K=K/\(X i).mg=mg/\(X i).base=base
 calm:∀i,(X i).calm=true
 room:∀i,dj k (X i).A
 own:∀i,PassesOwn (model (X i).prog (X i).w) (X i).A (X i).env (X i).xe
 pass:∀i,qD (CX1 (X i).prog (X i).w) (X i) G.E
 dOk:Bool
 dcx:dOk=true->∀i,dJ (X i) G.E
def Ct.hK(C:Ct)(i:C.ι):(C.X i).K=C.K:=(C.cx i).2.2.1
def WR{α:Type}(G:Gx)(r:Rs α)(P:α->Prop):Prop:=match r with
 | .ok a=>P a
 | .ex c=>∀H',aO G.H0 H'->G.E (.ref (G.cl c)) none H'
 | .st=>False
theorem WR.bd(h:WR G (r.bd k) P):WR G r (λ a=>WR G (k a) P):=by
 cases r with
 |ok a=>exact h
 |ex c=>exact h
 |st=>exact h
def WR.imp(h:WR G r P)(f:∀a,r= .ok a->P a->P' a):WR G r P':=by
 cases r with
 |ok a=>exact f a rfl h
 |ex c=>exact h
 |st=>exact h
abbrev QE(K:zAA)(m:Mode)(lab:Lab)(H:Hp)(Q:VK):D->Prop:=λ d=>∀v H',aO H H'->Rp K (fpM m lab H) H' v d->Q v H'
abbrev QA(K:zAA)(m:Mode)(lab:Lab)(H:Hp)(Q:List V->Hp->Prop):List D->Prop:=λ ds=>∀vs H',aO H H'->Rps K (fpM m lab H) H' vs ds->Q vs H'
abbrev QT(H:Hp)(Q:Bool->Hp->Prop):Bool->Prop:=λ b=>∀H',aO H H'->Q b H'
def iD(K:zAA)(G:Gx)(m:Mode)(t:TE)(f:En->Rs D):Prop:=∀U Z H Y lab (Q:VK),RR K G U Y Z H lab->WR G (f Y) (QE K m lab H Q)->t Z H Q
def aK1(K:zAA)(G:Gx)(m:Mode)(t:TA)(f:En->Rs (List D)):Prop:=∀U Z H Y lab (Q:List V->Hp->Prop),RR K G U Y Z H lab->WR G (f Y) (QA K m lab H Q)->t Z H Q
def aCN(K:zAA)(G:Gx)(t:TT)(f:En->Rs Bool):Prop:=∀U Z H Y lab (Q:Bool->Hp->Prop),RR K G U Y Z H lab->WR G (f Y) (QT H Q)->t Z H Q
def SE(C:Ct)(m:Mode)(e:Expr)(f:En->Rs D):Prop:=∃t,(∀i,PE (C.X i) e t)/\iD C.K C.G m t f
def SA(C:Ct)(m:Mode)(es:List Expr)(f:En->Rs (List D)):Prop:=∃t,(∀i,PA (C.X i) es t)/\aK1 C.K C.G m t f
def ST(C:Ct)(e:Expr)(f:En->Rs Bool):Prop:=∃t,(∀i,PT (C.X i) e t)/\aCN C.K C.G t f
def SW(C:Ct)(e:Expr)(f:En->Rs Bool):Prop:=∃t,(∀i,PW (C.X i) e t)/\aCN C.K C.G t f
def SW.st(h:SW C e f):ST C e f:=let⟨t,h1,h2⟩:=h;⟨t,λ i=>(h1 i).pt,h2⟩
def zO(i:Nat):En->Rs D:=λ Y=>match Y[i]? with
 |some (.sh d)=>.ok d
 |some (.nw d)=>.ok d
 |some (.ow d)=>.ok d
 |some (.oz d)=>.ok d
 |some (.o2 l)=>.ok (.lst (l.map .lst))
 |_=>.st
def aC(i:Nat):En->Rs D:=λ Y=>match Y[i]? with
 |some (.sh d)=>.ok d
 |some (.nw d)=>.ok d
 |_=>.st
def rJ(i:Nat):En->Rs D:=λ Y=>match Y[i]? with
 |some (.nw d)=>.ok d
 |_=>.st
def qJ(i:Nat):En->Rs D:=λ Y=>match Y[i]? with
 |some (.ow d)=>.ok d
 |some (.o2 l)=>.ok (.lst (l.map .lst))
 |_=>.st
def cD(d:D):En->Rs D:=λ _=>.ok d
def aEJ{K:zAA}{H:Hp}{lab:Lab}{i:Nat}{v:V}{l:fE}(h:eV K H lab i v (.o2 l)):Rp K (λ p=>(lab p).1=i+2) H v (.lst (l.map .lst)):=by
 obtain⟨a,xs,rfl,ha,hla,kK,hin⟩:=h;refine .lst ha (by rw[hla]) ?_;have go:∀(xs:List V) (l:fE) (n:Nat),xs.length=l.length->0<n->(∀(j:Nat) x ds,xs[j]? =some x->l[j]? =some ds->Rp K (λ p=>lab p=(i+2,n+j)) H x (.lst ds))->Rps K (λ p=>(lab p).1=i+2/\p≠a) H xs (l.map .lst):=by
  intro xs;induction xs with
  |nil=>intro l n hl _ _;cases l with|nil=>exact .nil|cons _ _=>simp at hl
  |cons x xs ih=>
   intro l n hl hn h;cases l with
   |nil=>simp at hl
   |cons ds l=>
    refine .cons (Rp.wk (λ p o e z=>⟨by rw[z],λ e=>by rw[e,hla]at z;have z2:(0:Nat)=n+0:=congrArg Prod.snd z;lia⟩) (h 0 x ds rfl rfl)) (ih l (n+1) (by simpa using hl) (by lia) λ j y es e1 e2=>?_);have z:=h (j+1) y es (by simpa using e1) (by simpa using e2);rw[show n+1+j=n+(j+1)by lia];exact z
 exact go xs l 1 kK (by lia) λ j x ds e1 e2=>by have z:=hin j x ds e1 e2;rw[show 1+j=j+1 by lia];exact z
section
variable{C:Ct}{pos:Pos}
def aIj(K:zAA)(G:Gx)(i:Nat):iD K G (some [0,1,i+2]) (jh i) (zO i):=by
 intro U Z H Y lab Q R W;unfold zO at W;cases e:Y[i]? with
 |none=>rw[e]at W;exact W.elim
 |some s=>
  rw[e]at W;rcases R.sl i s e with rfl|⟨v,ev,hv⟩
  .exact zAN W
  .cases s with
   |no=>exact zAN W
   |sh d=>exact⟨v,ev,W v H (aO.refl H) (Rp.wk (λ p o e z=>.inr (by show(lab p).1∈[0,1,i+2];rcases(show(lab p).1=0\/(lab p).1=1 by lia)with q|q<;>rw[q]<;>simp)) hv)⟩
   |nw d=>exact⟨v,ev,W v H (aO.refl H) (Rp.wk (λ p o e z=>.inr (by show(lab p).1∈[0,1,i+2];rw[z];simp)) hv)⟩
   |ow d=>exact⟨v,ev,W v H (aO.refl H) (Rp.wk (λ p o e z=>.inr (by show(lab p).1∈[0,1,i+2];rcases z with q|q<;>rw[q]<;>simp)) hv.1)⟩
   |oz d=>exact⟨v,ev,W v H (aO.refl H) (Rp.wk (λ p o e z=>.inr (by show(lab p).1∈[0,1,i+2];rcases(show(lab p).1=0\/(lab p).1=1\/(lab p).1=i+2 by lia)with q|q|q<;>rw[q]<;>simp)) (aKu hv))⟩
   |o2 l=>exact⟨v,ev,W v H (aO.refl H) (Rp.wk (λ p o e z=>.inr (by show(lab p).1∈[0,1,i+2];rw[z];simp)) (aEJ hv))⟩
def aGP(K:zAA)(G:Gx)(i:Nat):iD K G (some [0,1]) (jh i) (aC i):=by
 intro U Z H Y lab Q R W;unfold aC at W;cases e:Y[i]? with
 |none=>rw[e]at W;exact W.elim
 |some s=>
  rw[e]at W;rcases R.sl i s e with rfl|⟨v,ev,hv⟩
  .exact zAN W
  .cases s with
   |sh d=>exact⟨v,ev,W v H (aO.refl H) (Rp.wk (λ p o e z=>.inr (by show(lab p).1∈[0,1];rcases(show(lab p).1=0\/(lab p).1=1 by lia)with q|q<;>rw[q]<;>simp)) hv)⟩
   |nw d=>exact⟨v,ev,W v H (aO.refl H) (Rp.wk (λ p o e z=>.inr (by show(lab p).1∈[0,1];rw[z];simp)) hv)⟩
   |_=>exact zAN W
def aGR(K:zAA)(G:Gx)(i:Nat):iD K G (some [1]) (jh i) (rJ i):=by
 intro U Z H Y lab Q R W;unfold rJ at W;cases e:Y[i]? with
 |none=>rw[e]at W;exact W.elim
 |some s=>
  rw[e]at W;rcases R.sl i s e with rfl|⟨v,ev,hv⟩
  .exact zAN W
  .cases s with
   |nw d=>exact⟨v,ev,W v H (aO.refl H) (Rp.wk (λ p o e z=>.inr (by show(lab p).1∈[1];rw[z];simp)) hv)⟩
   |_=>exact zAN W
def aGQ(K:zAA)(G:Gx)(i:Nat):iD K G (some [1,i+2]) (jh i) (qJ i):=by
 intro U Z H Y lab Q R W;unfold qJ at W;cases e:Y[i]? with
 |none=>rw[e]at W;exact W.elim
 |some s=>
  rw[e]at W;rcases R.sl i s e with rfl|⟨v,ev,hv⟩
  .exact zAN W
  .cases s with
   |ow d=>exact⟨v,ev,W v H (aO.refl H) (Rp.wk (λ p o e z=>.inr (by show(lab p).1∈[1,i+2];rcases z with q|q<;>rw[q]<;>simp)) hv.1)⟩
   |o2 l=>exact⟨v,ev,W v H (aO.refl H) (Rp.wk (λ p o e z=>.inr (by show(lab p).1∈[1,i+2];rw[z];simp)) (aEJ hv))⟩
   |_=>exact zAN W
def aC8(i:Nat)(hN:∀j,(C.X j).N[i]? =some x:=by intro _;rfl)(hv:∀j,Vis (C.X j).env.scope x:=by intro _;first|exact zCV rfl|exact zBc (zCV rfl)|exact zBc (zBc rfl))(hd:Nd x:=by decide)
  (hcd:(x==("__classdict__":Str))=false:=by decide):SE C (some [0,1,i+2]) (.Name x pos) (zO i):=⟨_,λ j=>dW (hN j) (hv j) hd hcd,aIj _ _ i⟩
def aA(i:Nat)(hN:∀j,(C.X j).N[i]? =some x:=by intro _;rfl)(hv:∀j,Vis (C.X j).env.scope x:=by intro _;first|exact zCV rfl|exact zBc (zCV rfl)|exact zBc (zBc rfl))(hd:Nd x:=by decide)
  (hcd:(x==("__classdict__":Str))=false:=by decide):SE C (some [0,1]) (.Name x pos) (aC i):=⟨_,λ j=>dW (hN j) (hv j) hd hcd,aGP _ _ i⟩
def ue(i:Nat)(hN:∀j,(C.X j).N[i]? =some x:=by intro _;rfl)(hv:∀j,Vis (C.X j).env.scope x:=by intro _;first|exact zCV rfl|exact zBc (zCV rfl)|exact zBc (zBc rfl))(hd:Nd x:=by decide)
  (hcd:(x==("__classdict__":Str))=false:=by decide):SE C (some [1]) (.Name x pos) (rJ i):=⟨_,λ j=>dW (hN j) (hv j) hd hcd,aGR _ _ i⟩
def qR(i:Nat)(hN:∀j,(C.X j).N[i]? =some x:=by intro _;rfl)(hv:∀j,Vis (C.X j).env.scope x:=by intro _;first|exact zCV rfl|exact zBc (zCV rfl)|exact zBc (zBc rfl))(hd:Nd x:=by decide)
  (hcd:(x==("__classdict__":Str))=false:=by decide):SE C (some [1,i+2]) (.Name x pos) (qJ i):=⟨_,λ j=>dW (hN j) (hv j) hd hcd,aGQ _ _ i⟩
def aJ:SE C (some []) (.Constant (.int i) j pos) (cD (.int i)):=⟨_,λ _=>aCs,λ U Z H Y lab Q R W=>W _ H (aO.refl H) (.int i)⟩
def qT:SE C (some []) (.Constant (.bool b) j pos) (cD (.bl b)):=⟨_,λ _=>aHI,λ U Z H Y lab Q R W=>W _ H (aO.refl H) (.bl b)⟩
def z9:SE C (some []) (.Constant (.str x) j pos) (cD (.str x)):=⟨_,λ _=>eU,λ U Z H Y lab Q R W=>W _ H (aO.refl H) (.str x)⟩
def aDn(hm:C.mg x=some u)(r:RelV v u)(hd:∀A H,Rp C.K A H v d)(hdb:Nd x:=by decide)(hg:∀i,Gl (C.X i) x:=by intro _;rfl):SE C (some []) (.Name x pos) (cD d):=
 ⟨_,λ i=>dN (hg i) (by rw[(C.cx i).2.2.2.1];exact hm) r hdb,λ U Z H Y lab Q R W=>W _ H (aO.refl H) (hd _ _)⟩
def aDY(d:D):Rs D:=if imm d=true then .ok d else .st
def bV(f:En->Rs D):En->Rs D:=λ Y=>(f Y).bd aDY
def bO(h:SE C m e f):SE C (some []) e (bV f):=by
 obtain⟨t,h1,h2⟩:=h;refine⟨t,h1,λ U Z H Y lab Q R W=>h2 U Z H Y lab Q R (W.bd.imp λ d _ w v H' s r=>?_)⟩;unfold aDY at w;by_cases hd:imm d=true
 .rw[if_pos hd]at w
  exact w v H' s (r.imm hd)
 .rw[if_neg hd]at w
  exact zAN w
def aH:En->Rs (List D):=λ _=>.ok []
def aB(f:En->Rs D)(g:En->Rs (List D)):En->Rs (List D):=λ Y=>(f Y).bd λ d=>(g Y).bd λ ds=>.ok (d::ds)
variable{m m1 m2:Mode}{e a b:Expr}{es:List Expr}{f fa fb:En->Rs D}{g:En->Rs (List D)}
def aG:SA C (some []) [] aH:=⟨_,λ _=>cH,λ U Z H Y lab Q R W=>W _ H (aO.refl H) .nil⟩
def aD(h:SE C m1 e f)(hr:SA C m2 es g)(hs:∀i,zA5 (e::es) (C.X i).env=(false,eval e (C.X i).env)::zA5 es (C.X i).env:=by intro _;rfl):SA C (jn m1 m2) (e::es) (aB f g):=by
 obtain⟨t,h1,h2⟩:=h;obtain⟨u,k1,k2⟩:=hr;refine⟨_,λ i=>aV (h1 i) (k1 i) (hs i),λ U Z H Y lab Q R W=>?_⟩;refine h2 U Z H Y lab _ R (W.bd.imp λ d _ w x H1 s1 r1=>?_);refine k2 U Z H1 Y lab _ (R.up s1) (w.bd.imp λ ds _ w xs H2 s2 r2=>?_);exact w (x::xs) H2 (s1.trans s2) (.cons (r1.mono s2 λ p o _ z=>aIA z) (r2.wk λ p o _ z=>aHz (jw s1 z)))
def bW(g:En->Rs (List D)):En->Rs D:=λ Y=>(g Y).bd λ ds=>if ds.length<=zAY then .ok (.tup ds)else .st
def jd(g:En->Rs (List D)):En->Rs D:=λ Y=>(g Y).bd λ ds=>if ds.length<=zAY then .ok (.lst ds)else .st
def cG{x1}(h:SA C m es g):SE C m (.Tuple es x1 pos) (bW g):=by
 obtain⟨t,h1,h2⟩:=h;refine⟨_,λ i=>aJP (h1 i),λ U Z H Y lab Q R W=>h2 U Z H Y lab _ R (W.bd.imp λ ds _ w xs H1 s1 r1=>?_)⟩;by_cases hz:ds.length<=zAY
 .rw[if_pos hz]at w
  exact⟨by rw[r1.length];exact hz,λ p H' s hp _=>w _ H' (s1.trans s) (.tup (SqT.of hp) (r1.up s))⟩
 .rw[if_neg hz]at w
  exact zAN w
def zf(h:SA C m es g):SE C m (.List es pos) (jd g):=by
 obtain⟨t,h1,h2⟩:=h;refine⟨_,λ i=>lM (h1 i),λ U Z H Y lab Q R W=>h2 U Z H Y lab _ R (W.bd.imp λ ds _ w xs H1 s1 r1=>?_)⟩;by_cases hz:ds.length<=zAY
 .rw[if_pos hz]at w
  exact⟨by rw[r1.length];exact hz,λ p H' s hp hn=>w _ H' (s1.trans s) (.lst hp (.inl (s1.free hn)) ((r1.wk λ q o e z=>⟨z,λ e'=>by subst e';rw[hn]at e;cases e⟩).up s))⟩
 .rw[if_neg hz]at w
  exact zAN w
def aIu:SE C (some []) (.Dict [] [] pos) (cD (.dct [] [])):=
 ⟨_,λ _=>aHF,λ U Z H Y lab Q R W p H' s hp hn=>W _ H' s (.dK (kvs:=[]) hp (.inl hn) .nil)⟩
def aOS(H:Hp)(v:V)(d:D):Prop:=aFR d=true->∃a,v= .ref a/\H a=none
def aNL(K:zAA)(G:Gx)(m:Mode)(t:TE)(f:En->Rs D):Prop:=∀U Z H Y lab (Q:VK),RR K G U Y Z H lab->WR G (f Y) (λ d=>∀v H',aO H H'->Rp K (fpM m lab H) H' v d->aOS H v d->Q v H')->t Z H Q
def SF(C:Ct)(m:Mode)(e:Expr)(f:En->Rs D):Prop:=∃t,(∀i,PE (C.X i) e t)/\aNL C.K C.G m t f
def iD.toF{K:zAA}{G:Gx}{t:TE}{f:En->Rs D}(h:iD K G (some []) t f):aNL K G (some []) t f:=λ U Z H Y lab Q R W=>
 h U Z H Y lab Q R (W.imp λ d _ w v H' s r=>w v H' s r λ hm=>by
  obtain⟨a,rfl⟩:=aL9 r hm;obtain⟨o,_,_,z⟩:=aG7 r hm;rcases z with z|z
  .exact⟨a,rfl,z⟩
  .cases z)
def aN7(h:SE C (some []) e f):SF C (some []) e f:=let⟨t,h1,h2⟩:=h;⟨t,h1,h2.toF⟩
def vN(h:SA C m es g):SF C m (.List es pos) (jd g):=by
 obtain⟨t,h1,h2⟩:=h;refine⟨_,λ i=>lM (h1 i),λ U Z H Y lab Q R W=>h2 U Z H Y lab _ R (W.bd.imp λ ds _ w xs H1 s1 r1=>?_)⟩;by_cases hz:ds.length<=zAY
 .rw[if_pos hz]at w
  exact⟨by rw[r1.length];exact hz,λ p H' s hp hn=>w _ H' (s1.trans s) (.lst hp (.inl (s1.free hn)) ((r1.wk λ q o e z=>⟨z,λ e'=>by subst e';rw[hn]at e;cases e⟩).up s)) λ _=>⟨p,rfl,s1.free hn⟩⟩
 .rw[if_neg hz]at w
  exact zAN w
def OpS(K:zAA)(r:R2)(fd:D->D->Rs D):Prop:=∀(A:Addr->Prop) x y d e H (Q:VK) z,Rp K A H x d->Rp K A H y e->fd d e= .ok z->(∀v H',aO H H'->Rp K (λ p=>H p=none\/A p) H' v z->Q v H')->r x y H Q
def UnS(K:zAA)(r:V->Hp->VK->Prop)(fd:D->Rs D):Prop:=∀(A:Addr->Prop) x d H (Q:VK) z,Rp K A H x d->fd d= .ok z->(∀v H',aO H H'->Rp K (λ p=>H p=none\/A p) H' v z->Q v H')->r x H Q
def rG(K:zAA)(r:List V->Hp->VK->Prop)(fd:List D->Rs D):Prop:=∀(A:Addr->Prop) xs ds H (Q:VK) z,Rps K A H xs ds->fd ds= .ok z->(∀v H',aO H H'->Rp K (λ p=>H p=none\/A p) H' v z->Q v H')->r xs H Q
def okD(r:Rs D):Rs D:=match r with
 | .ok d=>.ok d
 |_=>.st
def op2(fd:D->D->Rs D)(fa fb:En->Rs D):En->Rs D:=λ Y=>(fa Y).bd λ x=>(fb Y).bd λ y=>okD (fd x y)
def op1(fd:D->Rs D)(fa:En->Rs D):En->Rs D:=λ Y=>(fa Y).bd λ x=>okD (fd x)
def opA(fd:List D->Rs D)(fa:En->Rs (List D)):En->Rs D:=λ Y=>(fa Y).bd λ x=>okD (fd x)
theorem WR.okD(h:WR G (okD r) P):∃z,r= .ok z/\P z:=by
 cases r with
 |ok z=>exact⟨z,rfl,h⟩
 |ex c=>exact zAN h
 |st=>exact zAN h
def zZ{K:zAA}{G:Gx}{r:R2}{ta tb:TE}{fd:D->D->Rs D}(hs:OpS K r fd)(h1:iD K G m1 ta fa)(h2:iD K G m2 tb fb):iD K G (jn m1 m2) (tOp r ta tb) (op2 fd fa fb):=by
 intro U Z H Y lab Q R W;refine h1 U Z H Y lab _ R (W.bd.imp λ d _ w x H1 s1 r1=>?_);refine h2 U Z H1 Y lab _ (R.up s1) (w.bd.imp λ e _ w y H2 s2 r2=>?_);obtain⟨z,ez,w⟩:=w.okD;refine hs (fpM (jn m1 m2) lab H) x y d e H2 Q z (r1.mono s2 λ p o _ q=>aIA q) (r2.wk λ p o _ q=>aHz (jw s1 q)) ez λ v H' s r=>w v H' ((s1.trans s2).trans s) (r.wk λ p o _ q=>?_)
 rcases q with q|q
 .exact .inl ((s1.trans s2).free q)
 .exact q
def aIm{K:zAA}{G:Gx}{r:V->Hp->VK->Prop}{ta:TE}{fd:D->Rs D}(hs:UnS K r fd)(h1:iD K G m ta fa):iD K G m (tUn r ta) (op1 fd fa):=by
 intro U Z H Y lab Q R W;refine h1 U Z H Y lab _ R (W.bd.imp λ d _ w x H1 s1 r1=>?_);obtain⟨z,ez,w⟩:=w.okD;refine hs (fpM m lab H) x d H1 Q z r1 ez λ v H' s r=>w v H' (s1.trans s) (r.wk λ p o _ q=>?_)
 rcases q with q|q
 .exact .inl (s1.free q)
 .exact q
def aDl{K:zAA}{G:Gx}{r:List V->Hp->VK->Prop}{ta:TA}{fd:List D->Rs D}(hs:rG K r fd)(h1:aK1 K G m ta g):iD K G m (tCB r ta) (opA fd g):=by
 intro U Z H Y lab Q R W;refine h1 U Z H Y lab _ R (W.bd.imp λ d _ w x H1 s1 r1=>?_);obtain⟨z,ez,w⟩:=w.okD;refine hs (fpM m lab H) x d H1 Q z r1 ez λ v H' s r=>w v H' (s1.trans s) (r.wk λ p o _ q=>?_)
 rcases q with q|q
 .exact .inl (s1.free q)
 .exact q
def dR(h:SE C m e f)(hi:∀Y d,f Y= .ok d->imm d=true):SE C (some []) e f:=by
 obtain⟨t,h1,h2⟩:=h;exact⟨t,h1,λ U Z H Y lab Q R W=>h2 U Z H Y lab Q R (W.imp λ d ed w v H' s r=>w v H' s (r.imm (hi Y d ed)))⟩
def gj(h:∀x y z,fd x y= .ok z->imm z=true)(e:op2 fd fa fb Y= .ok d):imm d=true:=by
 obtain⟨x,_,e⟩:=cF e;obtain⟨y,_,e⟩:=cF e;unfold okD at e;split at e
 .rename_i z hz
  cases e;exact h x y _ hz
 .cases e
def aJu(h:∀x z,fd x= .ok z->imm z=true)(e:op1 fd fa Y= .ok d):imm d=true:=by
 obtain⟨x,_,e⟩:=cF e;unfold okD at e;split at e
 .rename_i z hz
  cases e;exact h x _ hz
 .cases e
def oJ(h:∀x z,fd x= .ok z->imm z=true)(e:opA fd g Y= .ok d):imm d=true:=by
 obtain⟨x,_,e⟩:=cF e;unfold okD at e;split at e
 .rename_i z hz
  cases e;exact h x _ hz
 .cases e
def oX(ro:∀i,OpR (C.X i) (zBv op) r)(hs:OpS C.K r fd)(ha:SE C m1 a fa)(hb:SE C m2 b fb):SE C (jn m1 m2) (.BinOp a op b pos) (op2 fd fa fb):=by
 obtain⟨t,h1,h2⟩:=ha;obtain⟨u,k1,k2⟩:=hb;exact⟨_,λ i=>aHC (ro i) (h1 i) (k1 i),zZ hs h2 k2⟩
def aN8(ro:∀i,UnR (C.X i) (unaryOp op) r)(hs:UnS C.K r fd)(ha:SE C m a fa):SE C m (.UnaryOp op a pos) (op1 fd fa):=by
 obtain⟨t,h1,h2⟩:=ha;exact⟨_,λ i=>aKt (ro i) (h1 i),aIm hs h2⟩
def aCc(ro:∀i,OpR (C.X i) (zBH op) r)(hs:OpS C.K r fd)(ha:SE C m1 a fa)(hb:SE C m2 b fb)(hm:zCN op b=false:=by first|exact aHO _|(with_unfolding_all rfl)):
  SE C (jn m1 m2) (.Compare a [op] [b] pos) (op2 fd fa fb):=by
 obtain⟨t,h1,h2⟩:=ha;obtain⟨u,k1,k2⟩:=hb;exact⟨_,λ i=>aJT (ro i) (h1 i) (k1 i) hm,zZ hs h2 k2⟩
variable{p:Pos}{x:Str}{id T:String}
def mR(ro:∀i,cg (C.X i) (.builtin id) r)(hs:rG C.K r fd)(hg:∀i,Gl (C.X i) x)(hm:C.mg x=none)(hv:zBC x=some (.builtin id))(ha:SA C m (e::es) g)
  (hn:x≠"__name__":=by decide)(hdb:Nd x:=by decide)(he:∀i,zA5 (e::es) (C.X i).env=(false,eval e (C.X i).env)::zA5 es (C.X i).env:=by intro _;rfl)
  (hpl:∀i,(zCg pos (zA5 es (C.X i).env)).any (·.1)=false:=by intro _;rfl):SE C m (.Call (.Name x p) (e::es) [] pos) (opA fd g):=by
 obtain⟨t,h1,h2⟩:=ha;exact⟨_,λ i=>jo (ro i) (hg i) (by rw[(C.cx i).2.2.2.1];exact hm) hv (h1 i) hn hdb (he i) (hpl i),aDl hs h2⟩
def aAz(ro:∀i,cg (C.X i) (.type T) r)(hs:rG C.K r fd)(hg:∀i,Gl (C.X i) x)(hm:C.mg x=none)(hv:zBC x=some (.type T))(ha:SA C m (e::es) g)
  (hn:x≠"__name__":=by decide)(hdb:Nd x:=by decide)(he:∀i,zA5 (e::es) (C.X i).env=(false,eval e (C.X i).env)::zA5 es (C.X i).env:=by intro _;rfl)
  (hpl:∀i,(zCg pos (zA5 es (C.X i).env)).any (·.1)=false:=by intro _;rfl):SE C m (.Call (.Name x p) (e::es) [] pos) (opA fd g):=by
 obtain⟨t,h1,h2⟩:=ha;exact⟨_,λ i=>gD (ro i) (hg i) (by rw[(C.cx i).2.2.2.1];exact hm) hv (h1 i) hn hdb (he i) (hpl i),aDl hs h2⟩
def yI(f g:En->Rs D):En->Rs D:=λ Y=>(f Y).bd λ d=>match d with
 | .bl true=>g Y
 | .bl false=>.ok (.bl false)
 |_=>.st
def orD(f g:En->Rs D):En->Rs D:=λ Y=>(f Y).bd λ d=>match d with
 | .bl false=>g Y
 | .bl true=>.ok (.bl true)
 |_=>.st
def aMU:D->Rs D
 | .bl b=>.ok (.bl (!b))
 |_=>.st
variable{rest:List Expr}
def mQ{op}(h:SE C m a fa):SE C m (.BoolOp op [a] pos) fa:=by
 obtain⟨t,h1,h2⟩:=h;exact⟨_,λ i=>aLr (h1 i),h2⟩
def mU(ha:SE C m1 a fa)(hb:SE C m2 (.BoolOp .And (b::rest) pos) fb):SE C m2 (.BoolOp .And (a::b::rest) pos) (yI fa fb):=by
 obtain⟨t,h1,h2⟩:=ha;obtain⟨u,k1,k2⟩:=hb;refine⟨_,λ i=>aLw (h1 i) (k1 i),λ U Z H Y lab Q R W=>h2 U Z H Y lab _ R (W.bd.imp λ d _ w x H1 s1 r1=>?_)⟩;cases r1 with
 |bl c=>
  refine⟨c,rfl,?_⟩;cases c with
  |true=>
   rw[if_pos rfl];exact k2 U Z H1 Y lab Q (R.up s1) (w.imp λ z _ w v H' s r=>w v H' (s1.trans s) (r.wk λ p o _ q=>jw s1 q))
  |false=>
   rw[if_neg zA8];exact w _ H1 s1 (.bl false)
 |_=>exact zAN w
def aN9(ha:SE C m1 a fa)(hb:SE C m2 (.BoolOp .Or (b::rest) pos) fb):SE C m2 (.BoolOp .Or (a::b::rest) pos) (orD fa fb):=by
 obtain⟨t,h1,h2⟩:=ha;obtain⟨u,k1,k2⟩:=hb;refine⟨_,λ i=>aNh (h1 i) (k1 i),λ U Z H Y lab Q R W=>h2 U Z H Y lab _ R (W.bd.imp λ d _ w x H1 s1 r1=>?_)⟩;cases r1 with
 |bl c=>
  refine⟨c,rfl,?_⟩;cases c with
  |false=>
   rw[if_neg zA8];exact k2 U Z H1 Y lab Q (R.up s1) (w.imp λ z _ w v H' s r=>w v H' (s1.trans s) (r.wk λ p o _ q=>jw s1 q))
  |true=>
   rw[if_pos rfl];exact w _ H1 s1 (.bl true)
 |_=>exact zAN w
def aL5(ha:SE C m a fa):SE C (some []) (.UnaryOp .Not a pos) (op1 aMU fa):=by
 obtain⟨t,h1,h2⟩:=ha;refine⟨_,λ i=>aLs (h1 i),λ U Z H Y lab Q R W=>h2 U Z H Y lab _ R (W.bd.imp λ d _ w x H1 s1 r1=>?_)⟩;obtain⟨z,ez,w⟩:=w.okD;cases r1 with
 |bl c=>cases ez;exact⟨c,rfl,w _ H1 s1 (.bl _)⟩
 |_=>cases ez
def ifD(c:En->Rs Bool)(f g:En->Rs D):En->Rs D:=λ Y=>(c Y).bd λ k=>if k=true then f Y else g Y
def aKh(hc:ST C c fc)(ha:SE C m1 a fa)(hb:SE C m2 b fb):SE C (jn m1 m2) (.IfExp c a b pos) (ifD fc fa fb):=by
 obtain⟨tc,c1,c2⟩:=hc;obtain⟨t,h1,h2⟩:=ha;obtain⟨u,k1,k2⟩:=hb;refine⟨_,λ i=>aHE (c1 i) (h1 i) (k1 i),λ U Z H Y lab Q R W=>c2 U Z H Y lab _ R (W.bd.imp λ k _ w H1 s1=>?_)⟩;cases k with
 |true=>
  rw[if_pos rfl]at w ⊢;exact h2 U Z H1 Y lab Q (R.up s1) (w.imp λ z _ w v H' s r=>w v H' (s1.trans s) (r.wk λ p o _ q=>aIA (jw s1 q)))
 |false=>
  rw[if_neg zA8]at w ⊢;exact k2 U Z H1 Y lab Q (R.up s1) (w.imp λ z _ w v H' s r=>w v H' (s1.trans s) (r.wk λ p o _ q=>aHz (jw s1 q)))
def chD(fd fd':D->D->Rs D)(fa fb fc:En->Rs D):En->Rs D:=λ Y=>(fa Y).bd λ x=>(fb Y).bd λ y=>(okD (fd x y)).bd λ z=>match z with
 | .bl true=>(fc Y).bd λ w=>okD (fd' y w)
 | .bl false=>.ok (.bl false)
 |_=>.st
def aEt{K:zAA}{G:Gx}{r r':R2}{ta tb tc:TE}{fd fd':D->D->Rs D}{fc:En->Rs D}{m3:Mode}(hs:OpS K r fd)(hs':OpS K r' fd')(hi:∀x y z,fd' x y= .ok z->imm z=true)(h1:iD K G m1 ta fa)(h2:iD K G m2 tb fb)(h3:iD K G m3 tc fc):
  iD K G (some []) (aGI r r' ta tb tc) (chD fd fd' fa fb fc):=by
 intro U Z H Y lab Q R W;refine h1 U Z H Y lab _ R (W.bd.imp λ d _ w x H1 s1 r1=>?_);refine h2 U Z H1 Y lab _ (R.up s1) (w.bd.imp λ e _ w y H2 s2 r2=>?_);obtain⟨z,ez,w⟩:=w.bd.okD;refine hs (λ _=>True) x y d e H2 _ z (r1.mono s2 λ p o _ q=>trivial) (r2.wk λ p o _ q=>trivial) ez λ v H3 s3 r3=>?_
 cases r3 with
 |bl c=>
  refine⟨c,rfl,?_⟩;cases c with
  |false=>
   rw[if_neg zA8];exact w _ H3 ((s1.trans s2).trans s3) (.bl false)
  |true=>
   rw[if_pos rfl];refine h3 U Z H3 Y lab _ ((R.up s1).up (s2.trans s3)) (w.bd.imp λ e' _ w y' H4 s4 r4=>?_);obtain⟨z',ez',w⟩:=w.okD;exact hs' (λ _=>True) y y' e e' H4 Q z' (r2.mono (s3.trans s4) λ p o _ q=>trivial) (r4.wk λ p o _ q=>trivial) ez' λ v H5 s5 r5=>w v H5 ((((s1.trans s2).trans s3).trans s4).trans s5) (r5.imm (hi _ _ _ ez'))
 |_=>exact zAN w
def aAy(ro:∀i,OpR (C.X i) (zBH op) r)(hs:OpS C.K r fd)(ro':∀i,OpR (C.X i) (zBH op') r')(hs':OpS C.K r' fd')(hi:∀x y z,fd' x y= .ok z->imm z=true)
  (ha:SE C m1 a fa)(hb:SE C m2 b fb)(hc:SE C m3 c fc)(hm:zIj [op,op'] [b,c]=false:=by with_unfolding_all rfl):SE C (some []) (.Compare a [op,op'] [b,c] pos) (chD fd fd' fa fb fc):=by
 obtain⟨t,h1,h2⟩:=ha;obtain⟨u,k1,k2⟩:=hb;obtain⟨v,l1,l2⟩:=hc;exact⟨_,λ i=>aHG (ro i) (ro' i) (h1 i) (k1 i) (l1 i) hm,aEt hs hs' hi h2 k2 l2⟩
def aIf:D->Rs Bool
 | .non=>.ok false
 | .bl b=>.ok b
 | .int i=>.ok (i !=0)
 | .tup l=>.ok (!l.isEmpty)
 | .lst l=>.ok (!l.isEmpty)
 |_=>.st
def blD:D->Rs Bool
 | .bl b=>.ok b
 |_=>.st
def tst(f:En->Rs D):En->Rs Bool:=λ Y=>(f Y).bd aIf
def tsb(f:En->Rs D):En->Rs Bool:=λ Y=>(f Y).bd blD
def wN{K:zAA}{A:Addr->Prop}{H:Hp}{xs:List V}{ds:List D}(r:Rps K A H xs ds):(!ds.isEmpty)= !xs.isEmpty:=by cases r<;>rfl
def mG(ha:SE C m a fa)(he:∀i whole,isTrue a (C.X i).env whole=(do let v <-whole;zFU a.pos;zCp [v] (truthy v)):=by intro _ _;rfl):ST C a (tst fa):=by
 obtain⟨t,h1,h2⟩:=ha;refine⟨λ Z H Q=>t Z H λ x H'=>∃k,aNK C.K x H' k/\Q k H',λ i=>by rw[<-C.hK i];exact aGq (h1 i) (he i),λ U Z H Y lab Q R W=>h2 U Z H Y lab _ R (W.bd.imp λ d _ w x H1 s1 r1=>?_)⟩;cases r1 with
 |non=>exact⟨false,rfl,w H1 s1⟩
 |bl b=>exact⟨b,rfl,w H1 s1⟩
 |int i=>exact⟨i !=0,rfl,w H1 s1⟩
 |tup h r=>exact⟨_,.inr (.inl ⟨_,h,rfl⟩),by rw[<-wN r];exact w H1 s1⟩
 |lst h m r=>exact⟨_,.inl ⟨_,SqL.of h,rfl⟩,by rw[<-wN r];exact w H1 s1⟩
 |_=>exact zAN w
def aIk{K:zAA}{G:Gx}{t:TE}{f:En->Rs D}(h:iD K G m t f):aCN K G (aKd t) (tsb f):=λ U Z H Y lab Q R W=>h U Z H Y lab _ R (W.bd.imp λ d _ w x H1 s1 r1=>by
 cases r1 with
 |bl b=>exact⟨b,rfl,w H1 s1⟩
 |_=>exact zAN w)
def mH(ro:∀i,OpR (C.X i) (zBH op) r)(hs:OpS C.K r fd)(ha:SE C m1 a fa)(hb:SE C m2 b fb)(hm:zCN op b=false:=by first|exact aHO _|(with_unfolding_all rfl)):
  ST C (.Compare a [op] [b] pos) (tsb (op2 fd fa fb)):=by
 obtain⟨t,h1,h2⟩:=ha;obtain⟨u,k1,k2⟩:=hb;exact⟨_,λ i=>aJK (ro i) (h1 i) (k1 i) hm,aIk (zZ hs h2 k2)⟩
variable{ga gb:En->Rs Bool}
def aIZ(f g:En->Rs Bool):En->Rs Bool:=λ Y=>(f Y).bd λ k=>if k=true then g Y else .ok false
def orT(f g:En->Rs Bool):En->Rs Bool:=λ Y=>(f Y).bd λ k=>if k=true then .ok true else g Y
def uN(f:En->Rs Bool):En->Rs Bool:=λ Y=>(f Y).bd λ k=>.ok (!k)
def aDg(ha:ST C a ga):SW C (.BoolOp .And [a] pos) ga:=let⟨t,h1,h2⟩:=ha;⟨t,λ i=>aJG (h1 i),h2⟩
def aC1(ha:ST C a ga):SW C (.BoolOp .Or [a] pos) ga:=let⟨t,h1,h2⟩:=ha;⟨t,λ i=>aGn (h1 i),h2⟩
def aC2(ha:ST C a ga)(hb:SW C (.BoolOp .And (b::rest) pos) gb):SW C (.BoolOp .And (a::b::rest) pos) (aIZ ga gb):=by
 obtain⟨t,h1,h2⟩:=ha;obtain⟨u,k1,k2⟩:=hb;refine⟨_,λ i=>aLi (h1 i) (k1 i),λ U Z H Y lab Q R W=>h2 U Z H Y lab _ R (W.bd.imp λ k _ w H1 s1=>?_)⟩;cases k with
 |true=>
  rw[if_pos rfl]at w ⊢;exact k2 U Z H1 Y lab Q (R.up s1) (w.imp λ z _ w H' s=>w H' (s1.trans s))
 |false=>
  rw[if_neg zA8]at w ⊢;exact w H1 s1
def aGJ(ha:ST C a ga)(hb:SW C (.BoolOp .Or (b::rest) pos) gb):SW C (.BoolOp .Or (a::b::rest) pos) (orT ga gb):=by
 obtain⟨t,h1,h2⟩:=ha;obtain⟨u,k1,k2⟩:=hb;refine⟨_,λ i=>aKr (h1 i) (k1 i),λ U Z H Y lab Q R W=>h2 U Z H Y lab _ R (W.bd.imp λ k _ w H1 s1=>?_)⟩;cases k with
 |false=>
  rw[if_neg zA8]at w ⊢;exact k2 U Z H1 Y lab Q (R.up s1) (w.imp λ z _ w H' s=>w H' (s1.trans s))
 |true=>
  rw[if_pos rfl]at w ⊢;exact w H1 s1
def pC(ha:ST C a ga):ST C (.UnaryOp .Not a pos) (uN ga):=by
 obtain⟨t,h1,h2⟩:=ha;exact⟨_,λ i=>aCq (h1 i),λ U Z H Y lab Q R W=>h2 U Z H Y lab _ R (W.bd.imp λ k _ w H1 s1=>w H1 s1)⟩
end
inductive Ou where
 |nx (Y:En)|rt (d:D)|bk (Y:En)|ct (Y:En)|ex (c:Str)|st
noncomputable def Rs.bo{α:Type}:Rs α->(α->Ou)->Ou
 | .ok a,f=>f a
 | .ex c,_=>.ex c
 | .st,_=>.st
@[simp] def cT(a:α)(f:α->Ou):(Rs.ok a).bo f=f a:=aM rfl
@[simp] def bo_ex(c:Str)(f:α->Ou):(Rs.ex c:Rs α).bo f= .ex c:=aM rfl
noncomputable def Ou.sq:Ou->(En->Ou)->Ou
 | .nx Y,f=>f Y
 |o,_=>o
@[simp] def bK(Y:En)(f:En->Ou):(Ou.nx Y).sq f=f Y:=aM rfl
@[simp] def sq_rt(d:D)(f:En->Ou):(Ou.rt d).sq f= .rt d:=aM rfl
@[simp] def sq_ex(c:Str)(f:En->Ou):(Ou.ex c).sq f= .ex c:=aM rfl
def WS(K:zAA)(G:Gx)(U:List (V×D))(o:Ou)(De:Ends):Prop:=match o with
 | .nx Y=>∀Z H lab,RR K G U Y Z H lab->De.nx Z H
 | .bk Y=>∀Z H lab,RR K G U Y Z H lab->De.bk Z H
 | .ct Y=>∀Z H lab,RR K G U Y Z H lab->De.ct Z H
 | .rt d=>∀v H,aO G.H0 H->Rp K (λ p=>G.H0 p=none) H v d->De.rt v H
 | .ex c=>∀H',aO G.H0 H'->G.E (.ref (G.cl c)) none H'
 | .st=>False
theorem WS.bo{K:zAA}(h:WS K G U (r.bo k) De):WR G r (λ a=>WS K G U (k a) De):=by
 cases r with
 |ok a=>exact h
 |ex c=>exact h
 |st=>exact h
def aOI(K:zAA)(G:Gx)(t:TS)(f:En->Ou):Prop:=∀U Z H Y lab (De:Ends),RR K G U Y Z H lab->WS K G U (f Y) De->t De Z H
def SS(C:Ct)(s:Stmt)(f:En->Ou):Prop:=∃t,(∀i,PS (C.X i) s t)/\aOI C.K C.G t f
def SSs(C:Ct)(s:List Stmt)(f:En->Ou):Prop:=∃t,(∀i,PSs (C.X i) s t)/\aOI C.K C.G t f
section
variable{C:Ct}{pos:Pos}{s:Stmt}{ss:List Stmt}{f g:En->Ou}{e:Expr}{m:Mode}{fe:En->Rs D}
def dB:SSs C [] .nx:=⟨_,λ _=>uh,λ U Z H Y lab De R W=>W Z H lab R⟩
def aq(f g:En->Ou):En->Ou:=λ Y=>(f Y).sq g
def aN(h:SS C s f):SSs C [s] f:=let⟨t,h1,h2⟩:=h;⟨t,λ i=>jR (h1 i),h2⟩
def aK(h:SS C s f)(k:SSs C ss g):SSs C (s::ss) (aq f g):=by
 obtain⟨t,h1,h2⟩:=h;obtain⟨u,k1,k2⟩:=k;refine⟨_,λ i=>dU (h1 i) (k1 i),λ U Z H Y lab De R W=>h2 U Z H Y lab _ R ?_⟩;unfold aq at W;cases h:f Y with
 |nx Y'=>rw[h]at W;exact λ Z' H' lab' R'=>k2 U Z' H' Y' lab' De R' W
 |rt d=>rw[h]at W;exact W
 |bk Y'=>rw[h]at W;exact W
 |ct Y'=>rw[h]at W;exact W
 |ex c=>rw[h]at W;exact W
 |st=>rw[h]at W;exact W
def frz(i:Nat)(Y:En):En:=match Y[i]? with
 |some (.ow d)=>Y.set i (.nw d)
 |some (.o2 l)=>Y.set i (.nw (.lst (l.map .lst)))
 |_=>Y
def aNp:Mode->Bool
 |some L=>L.all (·!=0)
 |none=>false
def retS(fe:En->Rs D):En->Ou:=λ Y=>(fe Y).bo .rt
def bG(he:SE C m e fe)(hm:aNp m=true:=by rfl):SS C (.Return (some e) pos) (retS fe):=by
 obtain⟨t,h1,h2⟩:=he;refine⟨_,λ i=>v9 (h1 i),λ U Z H Y lab De R W=>h2 U Z H Y lab _ R (W.bo.imp λ d _ w v H' s r=>w v H' (R.old.trans s) (r.wk λ p o _ z=>?_))⟩;rcases z with z|z
 .exact R.old.free z
 .cases m with
  |none=>cases hm
  |some L=>
   refine R.new p λ e0=>?_
   have:=zAt.mp hm _ z
   rw[e0]at this;simp at this
def aBs(fe:En->Rs D):En->Ou:=λ Y=>(fe Y).bo λ _=>.nx Y
def aDj(he:SE C m e fe)(hs:∀i,zCh e none pos.line (C.X i).env=pure false:=by intro _;rfl):SS C (.Expr e pos) (aBs fe):=by
 obtain⟨t,h1,h2⟩:=he;exact⟨_,λ i=>n6 (h1 i) (hs i),λ U Z H Y lab De R W=>h2 U Z H Y lab _ R (W.bo.imp λ d _ w v H' s r=>w Z H' lab (R.up s))⟩
def ifS(c:En->Rs Bool)(f g:En->Ou):En->Ou:=λ Y=>(c Y).bo λ k=>if k=true then f Y else g Y
def ie{a b:List Stmt}(hc:ST C c fc)(ha:SSs C a f)(hb:SSs C b g):SS C (.If c a b pos) (ifS fc f g):=by
 obtain⟨tc,c1,c2⟩:=hc;obtain⟨t,h1,h2⟩:=ha;obtain⟨u,k1,k2⟩:=hb;refine⟨_,λ i=>aDz (c1 i) (h1 i) (k1 i),λ U Z H Y lab De R W=>c2 U Z H Y lab _ R (W.bo.imp λ k _ w H1 s1=>?_)⟩;cases k with
 |true=>rw[if_pos rfl]at w ⊢;exact h2 U Z H1 Y lab De (R.up s1) w
 |false=>rw[if_neg zA8]at w ⊢;exact k2 U Z H1 Y lab De (R.up s1) w
def SV(C:Ct)(i:Nat)(s:Stmt)(m:Mode)(f:En->Rs D):Prop:=∃t,(∀j,PS (C.X j) s (zW t (lY i)))/\iD C.K C.G m t f
def j7(he:SE C m e fe)(hN:∀j,(C.X j).N[i]? =some x:=by intro _;rfl)(hx:∀j,Loc (C.X j).env.scope x:=by intro _;first|exact zCV rfl|exact zBc rfl)(hs:∀j,zCh e (some (.Name x pos')) pos.line (C.X j).env=pure false:=by intro _;rfl)(hf:∀j,(C.X j).fn x=true\/(C.X j).env.scope.names.lookup x=some .local:=by intro _;first|exact .inl rfl|exact .inr rfl)(nd:∀j,(C.X j).N.Nodup:=by intro _;assumption):
  SV C i (.Assign [.Name x pos'] e pos) m fe:=by
 obtain⟨t,h1,h2⟩:=he;exact⟨t,λ j=>lK (nd j) (hN j) (hx j) (h1 j) (hs j) (hf j),h2⟩
def SVF(C:Ct)(i:Nat)(s:Stmt)(m:Mode)(f:En->Rs D):Prop:=∃t,(∀j,PS (C.X j) s (zW t (lY i)))/\aNL C.K C.G m t f
def vJ(he:SF C m e fe)(hN:∀j,(C.X j).N[i]? =some x:=by intro _;rfl)(hx:∀j,Loc (C.X j).env.scope x:=by intro _;first|exact zCV rfl|exact zBc rfl)(hs:∀j,zCh e (some (.Name x pos')) pos.line (C.X j).env=pure false:=by intro _;rfl)(hf:∀j,(C.X j).fn x=true\/(C.X j).env.scope.names.lookup x=some .local:=by intro _;first|exact .inl rfl|exact .inr rfl)(nd:∀j,(C.X j).N.Nodup:=by intro _;assumption):
  SVF C i (.Assign [.Name x pos'] e pos) m fe:=by
 obtain⟨t,h1,h2⟩:=he;exact⟨t,λ j=>lK (nd j) (hN j) (hx j) (h1 j) (hs j) (hf j),h2⟩
def aEI(P:Nat->Bool):Mode->Bool
 |some L=>L.all P
 |none=>false
def n8(h:aEI P m=true):∀k,inM m k->P k=true:=by
 intro k hk;cases m with
 |none=>cases h
 |some L=>exact zAt.mp h k hk
abbrev okS:Mode->Bool:=aEI λ k=>decide (k<=1)
abbrev okN:Mode->Bool:=aEI λ k=>k==1
abbrev okO(i:Nat):Mode->Bool:=aEI λ k=>k==1||k==i+2
def du(i:Nat)(fe:En->Rs D):En->Ou:=λ Y=>(fe Y).bo λ d=>.nx (Y.set i (.sh d))
def vQ(i:Nat)(fe:En->Rs D):En->Ou:=λ Y=>(fe Y).bo λ d=>.nx (Y.set i (.nw d))
def oM(i:Nat)(fe:En->Rs D):En->Ou:=λ Y=>(fe Y).bo λ d=>.nx (Y.set i (.ow d))
def RR.shared{K:zAA}(hm:okS m=true)(R:RR K G U Y Z H lab)(s:aO H H')(r:Rp K (fpM m lab H) H' v d):
  RR K G U Y Z H' (cB H 1 lab)/\Rp K (λ p=>(cB H 1 lab p).1<=1) H' v d:=R.fresh (P:=λ k=>k<=1) (by decide) (λ k hk=>of_decide_eq_true (n8 hm k hk)) s r
def dC{i:Nat}(h:SV C i s m fe)(hm:okS m=true:=by rfl):SS C s (du i fe):=by
 obtain⟨t,h1,h2⟩:=h;refine⟨_,h1,λ U Z H Y lab De R W=>h2 U Z H Y lab _ R (W.bo.imp λ d _ w v H' s r=>?_)⟩;obtain⟨R',r'⟩:=R.shared hm s r;exact w _ _ _ (R'.put (s:=.sh d) r')
def nU(h:SV C i s m fe)(hm:okN m=true:=by rfl):SS C s (vQ i fe):=by
 obtain⟨t,h1,h2⟩:=h;refine⟨_,h1,λ U Z H Y lab De R W=>h2 U Z H Y lab _ R (W.bo.imp λ d _ w v H' s r=>?_)⟩;obtain⟨R',r'⟩:=R.fresh (P:=λ k=>k=1) rfl (λ k hk=>beq_iff_eq.mp (n8 hm k hk)) s r;exact w _ _ _ (R'.put (s:=.nw d) r')
def lB(h:SVF C i s m fe)(hm:okO i m=true:=by rfl):SS C s (oM i fe):=by
 obtain⟨t,h1,h2⟩:=h;refine⟨_,h1,λ U Z H Y lab De R W=>h2 U Z H Y lab _ R (W.bo.imp λ d _ w v H' s r ht=>?_)⟩;obtain⟨lab',R',r'⟩:=R.freshO i (λ k hk=>by have:=n8 hm k hk;simpa using this) s r ht;exact w _ _ _ (R'.put (s:=.ow d) r')
def aI3(K:zAA)(G:Gx)(g:TG)(fg:D->En->Rs En):Prop:=∀U v d Z H Y lab (Q:L2.St->Hp->Prop) Y',RR K G U Y Z H lab->Rp K (λ p=>(lab p).1<=1) H v d->fg d Y= .ok Y'->(∀Z',RR K G U Y' Z' H lab->Q Z' H)->g v Z H Q
def aOK(K:zAA)(G:Gx)(g:TGs)(fg:List D->En->Rs En):Prop:=∀U vs ds Z H Y lab (Q:L2.St->Hp->Prop) Y',RR K G U Y Z H lab->Rps K (λ p=>(lab p).1<=1) H vs ds->fg ds Y= .ok Y'->(∀Z',RR K G U Y' Z' H lab->Q Z' H)->g vs Z H Q
def SG(C:Ct)(tg:Expr)(ks:List Nat)(fg:D->En->Rs En):Prop:=∃g,(∀i,PG (C.X i) tg g)/\aI3 C.K C.G g fg/\j0 g ks/\zM g
def SGs(C:Ct)(tg:List Expr)(ks:List Nat)(fg:List D->En->Rs En):Prop:=∃g,(∀i,PGs (C.X i) tg g)/\aOK C.K C.G g fg/\xX g ks/\tE g
def gnm(i:Nat):D->En->Rs En:=λ d Y=>.ok (Y.set i (.sh d))
def gH:List D->En->Rs En:=λ ds Y=>match ds with
 |[]=>.ok Y
 |_=>.st
def aj(f:D->En->Rs En)(g:List D->En->Rs En):List D->En->Rs En:=λ ds Y=>match ds with
 |d::r=>(f d Y).bd (g r)
 |_=>.st
def fj(n:Nat)(g:List D->En->Rs En):D->En->Rs En:=λ d Y=>match d with
 | .tup ds=>if ds.length=n then g ds Y else .st
 |_=>.st
variable{ks:List Nat}{fg:D->En->Rs En}{fgs:List D->En->Rs En}{tg:Expr}{tgs:List Expr}
def bC(hN:∀j,(C.X j).N[i]? =some x:=by intro _;rfl)(hx:∀j,Loc (C.X j).env.scope x:=by intro _;first|exact zCV rfl|exact zBc rfl)(hf:∀j,(C.X j).fn x=true\/(C.X j).env.scope.names.lookup x=some .local:=by intro _;first|exact .inl rfl|exact .inr rfl)(nd:∀j,(C.X j).N.Nodup:=by intro _;assumption)(hk:i∈ks:=by decide):SG C (.Name x pos) ks (gnm i):=
 ⟨_,λ j=>aJO (nd j) (hN j) (hx j) (hf j),λ U v d Z H Y lab Q Y' R r e q=>by cases e;exact q _ (R.put (s:=.sh d) r),aKD hk,aKF⟩
def lF:SGs C [] ks gH:=by
 refine⟨_,λ _=>aJN,λ U vs ds Z H Y lab Q Y' R r e q=>?_,aKC,aKE⟩;cases r with
 |nil=>cases e;exact⟨rfl,q _ R⟩
 |cons _ _=>cases e
def bh(h:SG C tg ks fg)(k:SGs C tgs ks fgs)(hs:∀i,(zCj (tg::tgs) (C.X i).env).map (·.2)=zDz tg (C.X i).env::(zCj tgs (C.X i).env).map (·.2):=by intro _;rfl):SGs C (tg::tgs) ks (aj fg fgs):=by
 obtain⟨g,h1,h2,h3,h4⟩:=h;obtain⟨u,k1,k2,k3,k4⟩:=k;refine⟨_,λ i=>aHA (h1 i) (k1 i) (hs i),λ U vs ds Z H Y lab Q Y' R r e q=>?_,aHs h3 h4 k3 k4,aHw h4 k4⟩;cases r with
 |nil=>cases e
 |cons h r=>
  obtain⟨Y1,e1,e2⟩:=cF e;exact⟨_,_,rfl,h2 U _ _ Z H Y lab _ Y1 R h e1 λ Z1 R1=>k2 U _ _ Z1 H Y1 lab Q Y' R1 r e2 q⟩
def pF(h:SGs C tgs ks fgs)(hn:∀i,(zCj tgs (C.X i).env).length=n:=by intro _;rfl)(hst:∀i,(zCj tgs (C.X i).env).findIdx? (·.1)=none:=by intro _;rfl):SG C (.Tuple tgs k pos) ks (fj n fgs):=by
 obtain⟨u,k1,k2,k3,k4⟩:=h;refine⟨aKG C.K n u,λ i=>by rw[<-C.hK i];exact aLm (C.calm i) (k1 i) (hn i) (hst i),λ U v d Z H Y lab Q Y' R r e q=>?_,aMk k3,aMl k4⟩;cases r with
 |tup h r=>
  unfold fj at e;dsimp only at e;split at e
  .rename_i hl
   exact⟨_,_,rfl,h,by rw[r.length];exact hl,k2 U _ _ Z H Y lab Q Y' R r e q⟩
  .cases e
 |_=>cases e
def aIY(fe:En->Rs D)(fg:D->En->Rs En):En->Ou:=λ Y=>(fe Y).bo λ d=>match fg d Y with
 | .ok Y'=>.nx Y'
 |_=>.st
def aL0(he:SE C m e fe)(hg:SG C tg ks fg)(hm:okS m=true:=by rfl)(hs:∀i,zID [tg] e pos.line (C.X i).env=pure false:=by intro _;rfl)(hw:∀i,zIC [tg] e (C.X i).env=pure none:=by intro _;rfl)
  (h1:∀i,(zCj [tg] (C.X i).env).map (·.2)=[zDz tg (C.X i).env]:=by intro _;rfl):SS C (.Assign [tg] e pos) (aIY fe fg):=by
 obtain⟨t,p1,p2⟩:=he;obtain⟨g,q1,q2,_,_⟩:=hg;refine⟨_,λ i=>aGw (p1 i) (q1 i) (hs i) (hw i) (h1 i),λ U Z H Y lab De R W=>p2 U Z H Y lab _ R (W.bo.imp λ d _ w v H' s r=>?_)⟩;obtain⟨R',r'⟩:=R.shared hm s r;cases hgd:fg d Y with
 |ok Y'=>rw[hgd]at w;exact q2 U v d Z H' Y _ _ Y' R' r' hgd λ Z' R2=>w Z' H' _ R2
 |ex c=>rw[hgd]at w;exact zAN w
 |st=>rw[hgd]at w;exact zAN w
def JL(K:zAA)(lab:Lab)(J:It)(H:Hp)(ds:List D):Prop:=∀i,(ds.length<=i->J.stop i H)/\(i<ds.length->J.go i H/\∀x H',J.yld i H x H'->aO H H'/\∃d,ds[i]? =some d/\Rp K (λ p=>(lab p).1<=1) H' x d)
def aI2(K:zAA)(G:Gx)(wi:TI)(f:En->Rs (List D)):Prop:=∀U Z H Y lab (Rr:It->Hp->Prop),RR K G U Y Z H lab->
 WR G (f Y) (λ ds=>∀J H1 lab1 U1,aO H H1->(∀p o,H p=some o->lab1 p=lab p)->RR K G (U1++U) Y Z H1 lab1->(∀lab' H',(∀q∈U1,Rp K (λ p=>(lab' p).1<=1) H' q.1 q.2)->JL K lab' J H' ds)->Rr J H1)->wi Z H Rr
def SI(C:Ct)(tg iter:Expr)(f:En->Rs (List D)):Prop:=∃wi,(∀i,PI (C.X i) tg iter wi)/\aI2 C.K C.G wi f
def aMh(K:zAA)(tl:TE):TI:=λ Z H R=>tl Z H λ x H1=>∃a,x= .ref a/\(((∃xs,SqL K H1 a xs)/\R (Itl K a) H1)\/((∃xs,SqT K H1 a xs)/\R (Itt K a) H1))
def aGz(hl:PE X l tl):PI X tg l (aMh X.K tl):=by
 intro kX s Z H R I h;refine thn (hl kX s Z H _ I h) λ v s1 ⟨x,H1,I1,r1,a,e,q1⟩=>?_
 subst e;cases r1;have hp:∀b∈[s1.heap.objs.size],rF X kX H1 b:=λ b hb=>by
  have e:b=s1.heap.objs.size:=by simpa using hb
  rw[e];exact I1.fpOk (zAQ _) (I1.hok.fresh (zAQ _))
 rcases q1 with ⟨⟨xs,hq⟩,q⟩|⟨⟨xs,hq⟩,q⟩
 .obtain⟨its,rv,p,hz⟩:=I1.list hq
  refine zEh p.isList ?_;exact⟨_,_,_,_,H1,rfl,I1.kept (t':=s1.toks) λ b o e=>zAC _ e,aEn a _,⟨_,zAS _ rfl,rfl,rfl⟩,hp,q⟩
 .obtain⟨its,rv,p,hz⟩:=I1.tuple hq
  refine zGG (show s1.heap.IsTuple a its.toArray from p) ?_;exact⟨_,_,_,_,H1,rfl,I1.kept (t':=s1.toks) λ b o e=>zAC _ e,aCW a _,⟨_,zAS _ rfl,rfl,rfl⟩,hp,q⟩
def itD:D->Rs (List D)
 | .tup l=>.ok l
 | .lst l=>.ok l
 | .scr l=>.ok (l.map .int)
 |_=>.st
def dM(fe:En->Rs D):En->Rs (List D):=λ Y=>(fe Y).bd itD
def aEU{K:zAA}(h:SqL K H a xs)(r:Rps K (λ p=>(lab p).1<=1) H xs ds):JL K lab (Itl K a) H ds:=by
 have hl:=r.length;refine λ i=>⟨λ hi=>⟨xs,h,by lia⟩,λ hi=>⟨⟨xs,xs[i]'(by lia),h,by simp[hl,hi]⟩,λ x H' y=>?_⟩⟩
 obtain⟨e,y⟩:=y;subst e;obtain⟨d,h1,h2⟩:=r.get (y xs h);exact⟨aO.refl _,d,h1,h2⟩
def aM8{K:zAA}(h:SqT K H a xs)(r:Rps K (λ p=>(lab p).1<=1) H xs ds):JL K lab (Itt K a) H ds:=by
 have hl:=r.length;refine λ i=>⟨λ hi=>⟨xs,h,by lia⟩,λ hi=>⟨⟨xs,xs[i]'(by lia),h,by simp[hl,hi]⟩,λ x H' y=>?_⟩⟩
 obtain⟨e,y⟩:=y;subst e;obtain⟨d,h1,h2⟩:=r.get (y xs h);exact⟨aO.refl _,d,h1,h2⟩
def dO(he:SE C m e fe)(hm:okS m=true:=by rfl):SI C tg e (dM fe):=by
 obtain⟨t,p1,p2⟩:=he;refine⟨aMh C.K t,λ i=>by rw[<-C.hK i];exact aGz (p1 i),λ U Z H Y lab Rr R W=>p2 U Z H Y lab _ R (W.bd.imp λ d _ w v H1 s r=>?_)⟩;obtain⟨R',r'⟩:=R.shared hm s r;cases d with
 |tup l=>
  cases r' with
  |tup h q=>
   rename_i a xs;refine⟨_,rfl,.inr ⟨⟨_,h⟩,w _ H1 _ [(.ref a,.tup l)] s (λ p o e=>bR e) ⟨R'.len,R'.sl,R'.old,R'.new,λ z hz=>?_⟩ λ lab' H' hq=>?_⟩⟩
   .rcases zAP.mp hz with rfl|hz
    .exact .tup h q
    .exact R'.tm z hz
   .have z:=hq _ (zAF ..)
    cases z with
    |tup h' q'=>exact aM8 h' q'
 |lst l=>
  cases r' with
  |lst h mm q=>
   rename_i a xs;refine⟨_,rfl,.inl ⟨⟨_,SqL.of h⟩,w _ H1 _ [(.ref a,.lst l)] s (λ p o e=>bR e) ⟨R'.len,R'.sl,R'.old,R'.new,λ z hz=>?_⟩ λ lab' H' hq=>?_⟩⟩
   .rcases zAP.mp hz with rfl|hz
    .exact .lst h mm q
    .exact R'.tm z hz
   .have z:=hq _ (zAF ..)
    cases z with
    |lst h' _ q'=>exact aEU (SqL.of h') (q'.wk λ _ _ _ z=>z.1)
 |scr l=>
  cases r' with
  |scr h=>
   rename_i a;refine⟨_,rfl,.inl ⟨⟨_,h.sq⟩,w _ H1 _ [(.ref a,.scr l)] s (λ p o e=>bR e) ⟨R'.len,R'.sl,R'.old,R'.new,λ z hz=>?_⟩ λ lab' H' hq=>?_⟩⟩
   .rcases zAP.mp hz with rfl|hz
    .exact .scr h
    .exact R'.tm z hz
   .have z:=hq _ (zAF ..)
    cases z with
    |scr h'=>exact aEU h'.sq Rps.ints
 |_=>exact zAN w
end
section
variable{C:Ct}{pos:Pos}{s:Stmt}{ss:List Stmt}{f:En->Ou}{e a b:Expr}{es:List Expr}{m:Mode}{fa:En->Rs D}{ks:List Nat}{fg:D->En->Rs En}{tg:Expr}{fi:En->Rs (List D)}{ga:En->Rs (List D)}
def cU(lo hi:Int):List D:=(zAj (hi-lo).toNat).map λ(k:Nat)=>.int (lo+(k:Int))
def gr:List D->Rs (List D)
 |[.int j]=>if -(2^62)<=j/\j<2^62 then .ok (cU 0 j)else .st
 |_=>.st
def aBH:List D->Rs (List D)
 |[.int i,.int j]=>if (-(2^62)<=i/\i<2^62)/\(-(2^62)<=j/\j<2^62)then .ok (cU i j)else .st
 |_=>.st
def fQ(r:List D->Rs (List D))(ga:En->Rs (List D)):En->Rs (List D):=λ Y=>(ga Y).bd r
def aHb{K:zAA}{lo hi:Int}:JL K lab (Itr lo (hi-lo).toNat) H (cU lo hi):=by
 have hl:(cU lo hi).length=(hi-lo).toNat:=by unfold cU;simp
 refine λ i=>⟨λ h=>by show(hi-lo).toNat<=i;lia,λ h=>⟨by show i<(hi-lo).toNat;lia,λ x H' y=>?_⟩⟩
 obtain⟨e,rfl⟩:=y;subst e;refine⟨aO.refl _,.int (lo+i),?_,.int _⟩;unfold cU;rw[zAW,zFM (by lia)];rfl
def fO(ha:SA C m [a] ga)(hm:C.mg "range"=none)(hs:∀i,zA5 [a] (C.X i).env=[(false,eval a (C.X i).env)]:=by intro _;rfl)(hg:∀i,Gl (C.X i) "range":=by intro _;rfl):SI C tg (.Call (.Name "range" p) [a] [] pos) (fQ gr ga):=by
 obtain⟨t,h1,h2⟩:=ha;refine⟨_,λ i=>aFL (hg i) (by rw[(C.cx i).2.2.2.1];exact hm) (h1 i) (hs i),λ U Z H Y lab Rr R W=>h2 U Z H Y lab _ R (W.bd.imp λ ds _ w vs H1 s r=>?_)⟩;unfold gr at w;split at w
 .rename_i j _
  split at w
  .rename_i hj
   cases r with
   |cons h r=>
    cases h;cases r;refine⟨j,rfl,hj.1,hj.2,?_⟩;have z:=w (Itr 0 (j-0).toNat) H1 lab [] s (λ _ _ _=>rfl) (R.up s) λ lab' H' _=>aHb
    rwa [Int.sub_zero]at z
  .exact zAN w
 .exact zAN w
def z6(ha:SA C m [a,b] ga)(hm:C.mg "range"=none)(hs:∀i,zA5 [a,b] (C.X i).env=[(false,eval a (C.X i).env),(false,eval b (C.X i).env)]:=by intro _;rfl)(hs2:∀i,zA5 [b] (C.X i).env=[(false,eval b (C.X i).env)]:=by intro _;rfl)(hg:∀i,Gl (C.X i) "range":=by intro _;rfl):SI C tg (.Call (.Name "range" p) [a,b] [] pos) (fQ aBH ga):=by
 obtain⟨t,h1,h2⟩:=ha;refine⟨_,λ i=>aFK (hg i) (by rw[(C.cx i).2.2.2.1];exact hm) (h1 i) (hs i) (hs2 i),λ U Z H Y lab Rr R W=>h2 U Z H Y lab _ R (W.bd.imp λ ds _ w vs H1 s r=>?_)⟩;unfold aBH at w;split at w
 .rename_i i j _
  split at w
  .rename_i hj
   cases r with
   |cons h r=>
    cases h;cases r with
    |cons h r=>
     cases h;cases r;exact⟨i,j,rfl,⟨hj.1.1,hj.1.2,hj.2.1,hj.2.2⟩,w (Itr i (j-i).toNat) H1 lab [] s (λ _ _ _=>rfl) (R.up s) λ lab' H' _=>aHb⟩
  .exact zAN w
 .exact zAN w
def forL(fg:D->En->Rs En)(b:En->Ou):List D->En->Ou
 |[],Y=>.nx Y
 |d::ds,Y=>match fg d Y with
  | .ok Y1=>match b Y1 with
   | .nx Y2=>forL fg b ds Y2
   | .ct Y2=>forL fg b ds Y2
   | .bk Y2=>.nx Y2
   |o=>o
  |_=>.st
def iK(fi:En->Rs (List D))(fg:D->En->Rs En)(b:En->Ou):En->Ou:=λ Y=>(fi Y).bo λ ds=>forL fg b ds Y
def eZ(hi:SI C tg e fi)(hg:SG C tg ks fg)(hb:SSs C ss f)(hs:∀i,∀x,zAz e (C.X i).env x=pure x:=by intro _ _;rfl):SS C (.For tg e ss [] pos) (iK fi fg f):=by
 obtain⟨wi,i1,i2⟩:=hi;obtain⟨gg,g1,g2,_,g4⟩:=hg;obtain⟨tb,b1,b2⟩:=hb;refine⟨_,λ i=>aGv (C.own i) (C.calm i) (i1 i) (g1 i) (b1 i) (hs i),λ U Z H Y lab De R W=>i2 U Z H Y lab _ R (W.bo.imp λ ds _ w J H1 lab1 U1 s1 _ R1 jl=>?_)⟩;refine⟨λ i n Z' H'=>∃Y' lab',RR C.K C.G (U1++U) Y' Z' H' lab'/\n=ds.length-i/\i<=ds.length/\WS C.K C.G U (forL fg f (ds.drop i) Y') De,⟨ds.length,Y,lab1,R1,by lia,by lia,w⟩,?_⟩;rintro i n Z' H' ⟨Y',lab',R',rfl,hi,w'⟩;have jj:=jl lab' H' λ q hq=>R'.tm q (zA1 _ hq)
 by_cases hlt:i<ds.length
 .obtain⟨go,yl⟩:=(jj i).2 hlt
  refine .inr ⟨go,λ Z2 H2=>∃Y2 lab2,RR C.K C.G (U1++U) Y2 Z2 H2 lab2/\WS C.K C.G U (forL fg f (ds.drop (i+1)) Y2) De,λ Z2 H2 ⟨Y2,lab2,R2,w2⟩=>⟨ds.length-(i+1),by lia,Y2,lab2,R2,rfl,hlt,w2⟩,λ x H2 hy=>?_⟩;obtain⟨s2,d,ed,rx⟩:=yl x H2 hy;replace R':=R'.up s2;have ed2:ds.drop i=d::ds.drop (i+1):=by
   rw[zBr hlt]
   have:=zAH hlt
   rw[ed]at this;cases this;rfl
  rw[ed2]at w';unfold forL at w';cases eg:fg d Y' with
  |ex c=>rw[eg]at w';exact zAN w'
  |st=>rw[eg]at w';exact zAN w'
  |ok Y1=>
   rw[eg]at w';refine g2 (U1++U) x d Z' H2 Y' lab' _ Y1 R' rx eg λ Z1 R1'=>b2 (U1++U) Z1 H2 Y1 lab' _ R1' ?_
   dsimp only at w';cases eb:f Y1 with
   |nx Y2=>rw[eb]at w';exact λ Z2 H3 lab2 R2=>⟨Y2,lab2,R2,w'⟩
   |ct Y2=>rw[eb]at w';exact λ Z2 H3 lab2 R2=>⟨Y2,lab2,R2,w'⟩
   |bk Y2=>rw[eb]at w';exact λ Z2 H3 lab2 R2=>w' Z2 H3 lab2 R2.drop
   |rt d=>rw[eb]at w';exact w'
   |ex c=>rw[eb]at w';exact w'
   |st=>rw[eb]at w';exact w'
 .have e:i=ds.length:=by lia
  subst e;rw[zDA]at w';exact .inl ⟨(jj _).1 (zAQ _),w' Z' H' lab' R'.drop⟩
def fuel:Nat:=1000000
def v7(x:Str)(ga:En->Rs (List D)):En->Ou:=λ Y=>(ga Y).bo λ ds=>if ds.length<=zAY then .ex x else .st
def aAr{rest:List Expr}(hd:C.dOk=true)(hm:C.mg x=some (.ref Ca))(hcl:C.G.cl x=Ca)(hC:bx C.K Ca)(ha:SA C m (yT::rest) ga)(he:∀i,zA5 (yT::rest) (C.X i).env=(false,eval yT (C.X i).env)::zA5 rest (C.X i).env:=by intro _;rfl)(hplain:∀i,(zCg cpos (zA5 rest (C.X i).env)).any (·.1)=false:=by intro _;rfl)(hdb:Nd x:=by decide)(hg:∀i,Gl (C.X i) x:=by intro _;rfl):SS C (.Raise (some (.Call (.Name x np) (yT::rest) [] cpos)) none pos) (v7 x ga):=by
 obtain⟨t,h1,h2⟩:=ha;refine⟨_,λ i=>aGu (C.dcx hd i) (C.calm i) (by rw[(C.cx i).2.2.2.1];exact hm) (by rw[C.hK i];exact hC) (hg i) (h1 i) (he i) (hplain i) hdb,λ U Z H Y lab De R W=>h2 U Z H Y lab _ R (W.bo.imp λ ds _ w vs H1 s r=>?_)⟩;by_cases hz:ds.length<=zAY
 .rw[if_pos hz]at w
  refine⟨by rw[r.length];exact hz,?_⟩
  have:=w H1 (R.old.trans s)
  rwa [hcl]at this
 .rw[if_neg hz]at w
  exact zAN w
def spF(K:zAA)(cl:Str->Addr)(n:Nat)(F:List D->Rs D):Sp:=λ vs H Q E=>∃ds,vs.length=n/\Rps K (λ _=>True) H vs ds/\WR ⟨H,E,cl⟩ (F ds) (λ d=>∀v H',aO H H'->Rp K (λ p=>H p=none) H' v d->Q v H')
def ak(F:List D->Rs D)(ga:En->Rs (List D)):En->Rs D:=λ Y=>(ga Y).bd F
def aGU{K:zAA}(hn:∀Y ds,ga Y= .ok ds->ds.length=n)(h:aK1 K G m t ga):iD K G (some []) (aAp (spF K G.cl n F) [] G.E t) (ak F ga):=by
 intro U Z H Y lab Q R W;refine h U Z H Y lab _ R (W.bd.imp λ ds eds w vs H1 s r=>⟨ds,by rw[zBD,r.length];exact hn Y ds eds,by rw[zBD];exact r.wk λ _ _ _ _=>trivial,?_⟩);cases hF:F ds with
 |ok d=>
  rw[hF]at w;exact λ v H' s' r'=>w v H' (s.trans s') (r'.wk λ p o _ z=>.inl (s.free z))
 |ex c=>rw[hF]at w;exact λ H' s'=>w H' ((R.old.trans s).trans s')
 |st=>rw[hF]at w;exact w
variable{k:Nat}{fn:Addr}{fd:zAq}{ps:List Str}{x:Str}{p:Pos}{F:List D->Rs D}{n:Nat}
def aIv(hF:dI C.prog C.w C.K C.mg C.base (CX1 C.prog C.w) k fn fd ps (spF C.K C.G.cl n F))(hr:k<=C.k)(hm:C.mg x=some (.ref fn))(hk:zBm C.K (.ref fn)=true)(hb:Binds C.K fd ps [])(ha:SA C m (e::es) ga)(hn:∀Y ds,ga Y= .ok ds->ds.length=n)(hdb:Nd x:=by decide)(he:∀i,zA5 (e::es) (C.X i).env=(false,eval e (C.X i).env)::zA5 es (C.X i).env:=by intro _;rfl)(hpl:∀i,(zCg pos (zA5 es (C.X i).env)).any (·.1)=false:=by intro _;rfl)(hg:∀i,Gl (C.X i) x:=by intro _;rfl):SE C (some []) (.Call (.Name x p) (e::es) [] pos) (ak F ga):=by
 obtain⟨t,h1,h2⟩:=ha;refine⟨_,λ i=>?_,aGU hn h2⟩;obtain⟨e1,e2,e3,e4,e5⟩:=C.cx i;refine aJU (CX:=CX1 (C.X i).prog (C.X i).w) (by rw[e1,e2,e3,e4,e5];exact hF) ((C.room i).mono hr) (hg i) (by rw[e4];exact hm) (by rw[e3];exact hk) (by rw[e3];exact hb) .nil (C.pass i) (h1 i) hdb (he i) (hpl i)
def aJf(h:aH Y= .ok ds):ds.length=0:=by cases h;rfl
def aH0(h:∀Y ds,ga Y= .ok ds->ds.length=n):∀Y ds,aB fa ga Y= .ok ds->ds.length=n+1:=λ Y ds e=>by
 obtain⟨d,_,e⟩:=cF e;obtain⟨r,er,e⟩:=cF e;cases e;rw[zAO,h Y r er]
end
def aZ(mg:Str->Option Value):Str->Addr:=λ x=>match mg x with
 |some (.ref a)=>a
 |_=>0
abbrev ctD(P:zA3)(w:World)(K:zAA)(mg:Str->Option Value)(base:Heap)(N:List Str)(q:Str)(sc:Scope)(f:Addr)(cdv:Value)(A:zAc)(outer:List Env)(s:zAE)(H:Hp)(E:XK)(k:Nat)(hr:dj k (A.deeper (zDN q sc s.heap.objs.size f cdv))):Ct where
 ι:=Unit
 X:=λ _=>uV (CX1 P w) P w K mg base N q sc f cdv A outer s H E
 prog:=P
 w:=w
 K:=K
 mg:=mg
 base:=base
 k:=k
 G:=⟨H,E,aZ mg⟩
 cx:=λ _=>⟨rfl,rfl,rfl,rfl,rfl⟩
 calm:=λ _=>rfl
 room:=λ _=>hr
 own:=λ _=>dJ.own dJ.of
 pass:=λ _=>dJ.pass dJ.of
 dOk:=true
 dcx:=λ _ _=>dJ.of
def ao(n:Nat)(ds:List D):En:=ds.map .sh++zAJ (n-ds.length) .no
def fL(n:Nat)(f:En->Ou):List D->Rs D:=λ ds=>match f (ao n ds)with
 | .nx _=>.ok .non
 | .rt d=>.ok d
 | .ex c=>.ex c
 |_=>.st
theorem RR.start{K:zAA}(r:Rps K (λ _=>True) H vs ds):RR K ⟨H,E,cl⟩ [] (ao N.length ds) (start N vs) H (λ _=>(0,0)):=by
 have hl:=r.length;refine⟨by unfold ao L2.start;simp[hl],λ i s e=>?_,aO.refl H,λ p hp=>absurd rfl hp,λ q hq=>by cases hq⟩;unfold ao at e;by_cases hi:i<ds.length
 .rw[zB9 (by simpa using hi),zAW]at e
  cases ed:ds[i]? with
  |none=>rw[ed]at e;cases e
  |some d=>
   rw[ed]at e;cases e;obtain⟨x,ex,rx⟩:=r.getD ed;refine .inr ⟨x,?_,rx.wk λ _ _ _ _=>zAa _⟩;unfold L2.start;rw[zB9 (by simpa[hl]using hi),zAW,ex];rfl
 .rw[zCu (by simpa using hi),zCC]at e
  split at e
  .cases e;exact .inl rfl
  .cases e
section
variable{P:zA3}{w:World}{K:zAA}{mg:Str->Option Value}{base:Heap}
def aMo{x q:Str}{st:Stmt}(F:L2.Fun K x q st fn fd)(S:aY N ps (aF st))
  (hb:∀cdv A outer s H E hr,SSs (ctD P w K mg base N q (aF st) fn cdv A outer s H E k hr) (cX st) f):
  dI P w K mg base (CX1 P w) (k+1) fn fd ps (spF K (aZ mg) ps.length (fL N.length f)):=by
 refine F.okX S (λ vs H Q E ⟨ds,hl,_⟩=>hl) λ cdv A outer s H vs Q E hr ⟨ds,hl,r,W⟩=>?_
 obtain⟨t,h1,h2⟩:=hb cdv A outer s H E hr;refine⟨t,h1 (),h2 [] _ H _ _ _ (RR.start r) ?_⟩;unfold fL at W;cases e:f (ao N.length ds)with
 |nx Y=>rw[e]at W;exact λ Z' H' lab R=>W .non H' R.old .non
 |rt d=>rw[e]at W;exact λ v H' s r=>W v H' s r
 |ex c=>rw[e]at W;exact W
 |bk Y=>rw[e]at W;exact zAN W
 |ct Y=>rw[e]at W;exact zAN W
 |st=>rw[e]at W;exact zAN W
def aKI{st:Stmt}(F:L2.Fun K x q st fn fd)(S:aY N ps (aF st))
  (hb:∀cdv A outer s H E hr,SSs (ctD P w K mg base N q (aF st) fn cdv A outer s H E k hr) (cX st) f)(hn:ps.length=n)(hF:fL N.length f=FF):
  dI P w K mg base (CX1 P w) (k+1) fn fd ps (spF K (aZ mg) n FF):=by
 subst hn hF;exact aMo F S hb
end
def OpR.or(h:OpR X f r)(h':OpR X f r'):OpR X f (λ x y H Q=>r x y H Q\/r' x y H Q):=by
 intro kX s Z H x y v u Q I rx ry q;rcases q with q|q
 .exact h kX s Z H x y v u Q I rx ry q
 .exact h' kX s Z H x y v u Q I rx ry q
def OpS.or{K:zAA}(h:OpS K r fd)(h':OpS K r' fd'):OpS K (λ x y H Q=>r x y H Q\/r' x y H Q) (λ d e=>match fd d e with
  | .ok z=>.ok z
  |_=>fd' d e):=by
 intro A x y d e H Q z rx ry ez q;dsimp only at ez;cases hd:fd d e with
 |ok w=>rw[hd]at ez;cases ez;exact .inl (h A x y d e H Q _ rx ry hd q)
 |ex c=>rw[hd]at ez;exact .inr (h' A x y d e H Q z rx ry ez q)
 |st=>rw[hd]at ez;exact .inr (h' A x y d e H Q z rx ry ez q)
section
variable{K:zAA}
def i2(p:Int->Int->Bool)(g:Int->Int->D):D->D->Rs D
 | .int i,.int j=>if p i j=true then .ok (g i j)else .st
 |_,_=>.st
def vf{g:Int->Int->Int}(hp:∀i j,p i j=true->c i j):OpS K (rI c λ i j=>.int (g i j)) (i2 p λ i j=>.int (g i j)):=by
 intro A x y d e H Q z rx ry ez q;unfold i2 at ez;split at ez
 .rename_i i j
  split at ez
  .rename_i h
   cases ez;obtain rfl:=rx.int_inv;obtain rfl:=ry.int_inv;exact⟨i,j,rfl,rfl,hp i j h,q _ H (aO.refl H) (.int _)⟩
  .cases ez
 .cases ez
def aEH{g:Int->Int->Int}:OpS K (rI0 λ i j=>.int (g i j)) (i2 (λ _ _=>true) λ i j=>.int (g i j)):=by
 intro A x y d e H Q z rx ry ez q;unfold i2 at ez;split at ez
 .rename_i i j
  cases ez;obtain rfl:=rx.int_inv;obtain rfl:=ry.int_inv;exact⟨i,j,rfl,rfl,q _ H (aO.refl H) (.int _)⟩
 .cases ez
def aAD{g:Int->Int->Bool}:OpS K (rI0 λ i j=>.bl (g i j)) (i2 (λ _ _=>true) λ i j=>.bl (g i j)):=by
 intro A x y d e H Q z rx ry ez q;unfold i2 at ez;split at ez
 .rename_i i j
  cases ez;obtain rfl:=rx.int_inv;obtain rfl:=ry.int_inv;exact⟨i,j,rfl,rfl,q _ H (aO.refl H) (.bl _)⟩
 .cases ez
def pW{g:Int->Int->Int}:∀x y z,i2 p (λ i j=>.int (g i j)) x y= .ok z->imm z=true:=by
 intro x y z e;unfold i2 at e;split at e
 .split at e
  .cases e;rfl
  .cases e
 .cases e
def aHo{g:Int->Int->Bool}:∀x y z,i2 p (λ i j=>.bl (g i j)) x y= .ok z->imm z=true:=by
 intro x y z e;unfold i2 at e;split at e
 .split at e
  .cases e;rfl
  .cases e
 .cases e
def fZ:D->D->Rs D
 | .int i,.int j=>.ok (.int (i+j))
 | .lst l,.lst m=>if l.length+m.length<=zAY then .ok (.lst (l++m))else .st
 | .tup l,.tup m=>if l.length+m.length<=zAY then .ok (.tup (l++m))else .st
 |_,_=>.st
def aKp(K:zAA):R2:=λ x y H Q=>∃a b xs ys,x= .ref a/\y= .ref b/\SqT K H a xs/\SqT K H b ys/\xs.length+ys.length<=zAY/\
 (xs=[]->Q (.ref b) H)/\(ys=[]->Q (.ref a) H)/\New H (.tup (xs++ys)) Q
def aJ4:OpR X (zBv .Add) (aKp X.K):=by
 intro kX s Z H x y v u Q I rx ry h;obtain⟨a,b,xs,ys,rfl,rfl,ha,hb,hz,q0,q1,q2⟩:=h;by_cases hx:xs=[]
 .subst hx
  cases rx;cases ry;obtain⟨its,r1,p1,_⟩:=I.tuple ha;obtain⟨its2,r2,p2,_⟩:=I.tuple hb;cases r1;exact HT.aIQ p1 p2 ⟨.ref b,H,I,rfl,q0 rfl⟩
 .exact aJ5 kX s Z H _ _ v u Q I rx ry ⟨a,b,xs,ys,rfl,rfl,ha,hb,hx,hz,q1,λ _ p hp=>q2.at hp⟩
def aGm(K:zAA):R2:=λ x y H Q=>rI0 (λ i j=>.int (i+j)) x y H Q\/(aGl x y H Q\/aKp K x y H Q)
def aJ6:OpR X (zBv .Add) (aGm X.K):=OpR.or aMR (OpR.or aAE aJ4)
def aMA:OpS K (aGm K) fZ:=by
 intro A x y d e H Q z rx ry ez q;unfold fZ at ez;split at ez
 .cases ez;obtain rfl:=rx.int_inv;obtain rfl:=ry.int_inv;exact .inl ⟨_,_,rfl,rfl,q _ H (aO.refl H) (.int _)⟩
 .split at ez
  .rename_i hl
   cases ez;obtain⟨_,_,rfl,h1,m1,r1⟩:=rx.lst_inv;obtain⟨_,_,rfl,h2,m2,r2⟩:=ry.lst_inv;refine .inr (.inl ⟨_,_,_,_,rfl,rfl,h1,h2,by rw[r1.length,r2.length];exact hl,λ p H' s hp hn=>q _ H' s (.lst hp (.inl hn) ?_)⟩);exact(((r1.wk λ _ _ _ z=>z.1).append (r2.wk λ _ _ _ z=>z.1)).wk (A':=λ q=>(H q=none\/A q)/\q≠p) λ q o e z=>⟨.inr z,λ e'=>by subst e';rw[hn]at e;cases e⟩).up s
  .cases ez
 .split at ez
  .rename_i hl
   cases ez;obtain⟨_,_,rfl,h1,r1⟩:=rx.tup_inv;obtain⟨_,_,rfl,h2,r2⟩:=ry.tup_inv;have r1':=r1.wk (A':=λ p=>H p=none\/A p) λ _ _ _ z=>.inr z
   have r2':=r2.wk (A':=λ p=>H p=none\/A p) λ _ _ _ z=>.inr z
   refine .inr (.inr ⟨_,_,_,_,rfl,rfl,h1,h2,by rw[r1.length,r2.length];exact hl,λ e=>?_,λ e=>?_,λ p H' s hp hn=>q _ H' s (.tup (SqT.of hp) ((r1'.append r2').up s))⟩)
   .subst e
    cases r1';exact q _ H (aO.refl H) (.tup h2 r2')
   .subst e
    cases r2';rw[zBD]at q;exact q _ H (aO.refl H) (.tup h1 r1')
  .cases ez
 .cases ez
def jr:D->D->Rs D
 | .int i,.int j=>if (decide (-(2^64)<i)&&decide (i<2^64))||(decide (-(2^64)<j)&&decide (j<2^64))then .ok (.int (i*j))else .st
 | .lst l,.int k=>if decide (-(2^63)<=k)&&decide (k<2^63)&&decide (l.length*k.toNat<=zAY)&&eF l then .ok (.lst (zAJ k.toNat l).flatten)else .st
 |_,_=>.st
theorem Rps.rep(r:Rps K A H xs ds):∀k:Nat,Rps K A H (zAJ k xs).flatten (zAJ k ds).flatten
 |0=>.nil
 |k+1=>by
  rw[zBp,zBp,zCq,zCq];exact r.append (Rps.rep r k)
def aKm:R2:=λ x y H Q=>rI aK8 (λ i j=>.int (i*j)) x y H Q\/aNd x y H Q
def aJ2:OpR X (zBv .Mult) aKm:=OpR.or aMH aME
def aLz:OpS K aKm jr:=by
 intro A x y d e H Q z rx ry ez q;unfold jr at ez;split at ez
 .split at ez
  .rename_i hc
   cases ez;obtain rfl:=rx.int_inv;obtain rfl:=ry.int_inv;refine .inl ⟨_,_,rfl,rfl,?_,q _ H (aO.refl H) (.int _)⟩;simp only[zDp,zAL,decide_eq_true_eq]at hc;exact hc
  .cases ez
 .split at ez
  .rename_i hc
   simp only[zAL,decide_eq_true_eq]at hc;cases ez;obtain⟨_,_,rfl,h1,m1,r1⟩:=rx.lst_inv;obtain rfl:=ry.int_inv;refine .inr ⟨_,_,_,rfl,rfl,h1,hc.1.1.1,hc.1.1.2,by rw[r1.length];exact hc.1.2,λ p hp=>q _ _ (bQ hp _) (.lst aa (.inl hp) ?_)⟩;exact((r1.rep _).wk (A':=λ q=>(H q=none\/A q)/\q≠p) λ q o e z=>⟨.inr z.1,λ e'=>by subst e';rw[hp]at e;cases e⟩).up (bQ hp _)
  .cases ez
 .cases ez
def intsOf:List D->Option (List Int)
 |[]=>some []
 | .int i::r=>(intsOf r).map (i::·)
 |_=>none
theorem cI:∀{l:List D} {ns:List Int},intsOf l=some ns->l=ns.map .int
 |[],ns,h=>by cases h;rfl
 | .int i::r,ns,h=>by
  simp only[intsOf,zDW]at h;obtain⟨ms,h1,rfl⟩:=h;rw[cI h1];rfl
 | .non::_,_,h=>by cases h
 | .bl _::_,_,h=>by cases h
 | .str _::_,_,h=>by cases h
 | .tup _::_,_,h=>by cases h
 | .lst _::_,_,h=>by cases h
 | .dct _ _::_,_,h=>by cases h
 | .set _::_,_,h=>by cases h
 | .scr _::_,_,h=>by cases h
theorem gG:∀ns:List Int,intsOf (ns.map .int)=some ns
 |[]=>rfl
 |n::ns=>by simp only[zAM,intsOf,gG ns,zDL]
def ltT(p:List Int->List Int->Bool):D->D->Rs D
 | .tup l,.tup m=>match intsOf l,intsOf m with
  |some ns,some ms=>.ok (.bl (p ns ms))
  |_,_=>.st
 |_,_=>.st
def aDu(r:Rp K A H x (.tup l))(e:intsOf l=some ns):∃a,x= .ref a/\SqT K H a (ns.map V.int):=by
 have:=cI e
 subst this;cases r with
 |tup h r=>
  have:=r.ints_of
  subst this;exact⟨_,rfl,h⟩
def aEF(hr:∀x y H Q,(∃a b ns ms,x= .ref a/\y= .ref b/\SqT K H a (ns.map V.int)/\SqT K H b (ms.map V.int)/\Q (.bl (p ns ms)) H)->r x y H Q):OpS K r (ltT p):=by
 intro A x y d e H Q z rx ry ez q;unfold ltT at ez;split at ez
 .split at ez
  .rename_i ns ms e1 e2
   cases ez;obtain⟨a,rfl,ha⟩:=aDu rx e1;obtain⟨b,rfl,hb⟩:=aDu ry e2;exact hr _ _ _ _ ⟨a,b,ns,ms,rfl,rfl,ha,hb,q _ H (aO.refl H) (.bl _)⟩
  .cases ez
 .cases ez
def ltD:D->D->Rs D:=λ d e=>match i2 (λ _ _=>true) (λ i j=>.bl (decide (i<j))) d e with
 | .ok z=>.ok z
 |_=>ltT HT.lexLt d e
def leD:D->D->Rs D:=λ d e=>match i2 (λ _ _=>true) (λ i j=>.bl (decide (i<=j))) d e with
 | .ok z=>.ok z
 |_=>ltT HT.lexLe d e
def gtD:D->D->Rs D:=i2 (λ _ _=>true) (λ i j=>.bl (decide (j<i)))
def geD:D->D->Rs D:=i2 (λ _ _=>true) (λ i j=>.bl (decide (j<=i)))
def aMJ(hu:X.A.units<cLine):OpR X (zBH .Lt) (λ x y H Q=>rI0 (λ i j=>.bl (decide (i<j))) x y H Q\/aJA X.K x y H Q):=OpR.or aNl (aMK hu)
def aML(hu:X.A.units<cLine):OpR X (zBH .LtE) (λ x y H Q=>rI0 (λ i j=>.bl (decide (i<=j))) x y H Q\/aJB X.K x y H Q):=OpR.or aNm (aMM hu)
def aHM:OpS K (λ x y H Q=>rI0 (λ i j=>.bl (decide (i<j))) x y H Q\/aJA K x y H Q) ltD:=OpS.or aAD (aEF λ _ _ _ _ h=>h)
def aEG:OpS K (λ x y H Q=>rI0 (λ i j=>.bl (decide (i<=j))) x y H Q\/aJB K x y H Q) leD:=OpS.or aAD (aEF λ _ _ _ _ h=>h)
def aEZ(e:ltT p x y= .ok z):imm z=true:=by
 unfold ltT at e;split at e
 .split at e
  .cases e;rfl
  .cases e
 .cases e
def aHl:∀x y z,ltD x y= .ok z->imm z=true:=by
 intro x y z e;unfold ltD at e;split at e
 .rename_i w hw;cases e;exact aHo _ _ _ hw
 .exact aEZ e
def aMf:∀x y z,leD x y= .ok z->imm z=true:=by
 intro x y z e;unfold leD at e;split at e
 .rename_i w hw;cases e;exact aHo _ _ _ hw
 .exact aEZ e
def xu:D->Rs D
 | .int i=>.ok (.int (-i))
 |_=>.st
def aLN:UnS K (rU λ i=>.int (-i)) xu:=by
 intro A x d H Q z rx ez q;cases rx with
 |int i=>cases ez;exact⟨i,rfl,q _ H (aO.refl H) (.int _)⟩
 |_=>cases ez
def aJv:∀x z,xu x= .ok z->imm z=true:=by
 intro x z e;cases x with
 |int i=>cases e;rfl
 |_=>cases e
def atD(l:List D)(i:Int):Rs D:=match atI l i with
 |some d=>.ok d
 |none=>.st
def ixD:D->D->Rs D
 | .tup l,.int i=>atD l i
 | .lst l,.int i=>atD l i
 | .scr l,.int i=>atD (l.map .int) i
 |_,_=>.st
theorem Rps.at(r:Rps K A H xs ds)(e:atI ds i=some d):∃x,atI xs i=some x/\Rp K A H x d:=by
 unfold atI at e ⊢;rw[r.length];cases h:ixN ds.length i with
 |none=>rw[h]at e;cases e
 |some j=>
  rw[h]at e;obtain⟨x,e1,e2⟩:=r.getD (i:=j) (d:=d) e;exact⟨x,e1,e2⟩
def aNk:OpS K (rIx K) ixD:=by
 intro A x y d e H Q z rx ry ez q;unfold ixD at ez;split at ez
 .unfold atD at ez
  split at ez
  .rename_i w hw
   cases ez;obtain⟨_,_,rfl,h,r⟩:=rx.tup_inv;obtain rfl:=ry.int_inv;obtain⟨v,e1,e2⟩:=r.at hw;exact .inr (.inl ⟨_,_,_,v,rfl,rfl,h,e1,q v H (aO.refl H) (e2.wk λ _ _ _ z=>.inr z)⟩)
  .cases ez
 .unfold atD at ez
  split at ez
  .rename_i w hw
   cases ez;obtain⟨_,_,rfl,h,m,r⟩:=rx.lst_inv;obtain rfl:=ry.int_inv;obtain⟨v,e1,e2⟩:=r.at hw;exact .inl ⟨_,_,_,v,rfl,rfl,SqL.of h,e1,q v H (aO.refl H) (e2.wk λ _ _ _ z=>.inr z.1)⟩
  .cases ez
 .unfold atD at ez
  split at ez
  .rename_i w hw
   cases ez;obtain⟨_,rfl,h⟩:=rx.scr_inv;obtain rfl:=ry.int_inv;obtain⟨v,e1,e2⟩:=(Rps.ints (K:=K) (A:=A) (H:=H)).at hw;exact .inl ⟨_,_,_,v,rfl,rfl,h.sq,e1,q v H (aO.refl H) (e2.wk λ _ _ _ z=>.inr z)⟩
  .cases ez
 .cases ez
def lr:List D->Rs D
 |[.tup l]=>.ok (.int l.length)
 |[.lst l]=>.ok (.int l.length)
 |[.scr l]=>.ok (.int l.length)
 |_=>.st
def aMw:rG K (λ xs H Q=>∃p ys,xs=[.ref p]/\(SqL K H p ys\/SqT K H p ys)/\Q (.int ys.length) H) lr:=by
 intro A xs ds H Q z r ez q;unfold lr at ez;split at ez
 .cases ez
  obtain⟨_,rfl,h0⟩:=r.one_inv;obtain⟨_,_,rfl,h,r⟩:=h0.tup_inv;exact⟨_,_,rfl,.inr h,by rw[r.length];exact q _ H (aO.refl H) (.int _)⟩
 .cases ez
  obtain⟨_,rfl,h0⟩:=r.one_inv;obtain⟨_,_,rfl,h,m,r⟩:=h0.lst_inv;exact⟨_,_,rfl,.inl (SqL.of h),by rw[r.length];exact q _ H (aO.refl H) (.int _)⟩
 .cases ez
  obtain⟨_,rfl,h0⟩:=r.one_inv;obtain⟨_,rfl,h⟩:=h0.scr_inv;exact⟨_,_,rfl,.inl h.sq,by rw[zAD];exact q _ H (aO.refl H) (.int _)⟩
 .cases ez
def aJw:∀x z,lr x= .ok z->imm z=true:=by
 intro x z e;unfold lr at e;split at e<;>first|(cases e;rfl)|cases e
def tyD:D->String
 | .non=>"NoneType"| .bl _=>"bool"| .int _=>"int"| .str _=>"str"| .tup _=>"tuple"| .lst _=>"list"| .dct _ _=>"dict"| .set _=>"set"| .scr _=>"script"| .fn _=>"function"
def my(T:String):D->Rs D:=λ d=>if oY (tyD d) T true=true then .ok (.bl true)else if oY (tyD d) T false=true then .ok (.bl false)else .st
def aKn(K:zAA)(T:String):List V->Hp->VK->Prop:=λ xs H Q=>∃x d A b,xs=[x,.ty T]/\Rp K A H x d/\oY (tyD d) T b=true/\Q (.bl b) H
def aFm:cg X (.builtin "isinstance") (aKn X.K T):=by
 intro kX s Z H xs us Q I rv h;obtain⟨x,d,A,b,rfl,rd,ok,q⟩:=h;cases rd with
 |tup h r=>
  obtain⟨u,w',rfl,ru,rw'⟩:=vals2 rv;cases ru;cases rw';obtain⟨its,_,⟨o,h1,h2,_⟩,_⟩:=I.tuple h;exact zBS zHR I.kIn ⟨o,h1,h2⟩ (aDP ok) (λ z=>nomatch z) λ tk=>⟨.bl b,H,I.tok _,rfl,q⟩
 |set h m hS nd=>cases b<;>simp[oY,tyD]at ok
 |scr h=>cases b<;>simp[oY,tyD]at ok
 |fn h=>cases b<;>simp[oY,tyD]at ok
 |non=>exact kI kX s Z H _ us Q I rv ⟨_,T,_,b,rfl,.non,ok,q⟩
 |bl c=>exact kI kX s Z H _ us Q I rv ⟨_,T,_,b,rfl,.bl c,ok,q⟩
 |int c=>exact kI kX s Z H _ us Q I rv ⟨_,T,_,b,rfl,.int c,ok,q⟩
 |str c=>exact kI kX s Z H _ us Q I rv ⟨_,T,_,b,rfl,.str c,ok,q⟩
 |lst h m r=>exact kI kX s Z H _ us Q I rv ⟨_,T,_,b,rfl,.lst h,ok,q⟩
 |dK h m r=>exact kI kX s Z H _ us Q I rv ⟨_,T,_,b,rfl,.dK h,ok,q⟩
 |dT h m r=>
  obtain⟨u,w',rfl,ru,rw'⟩:=vals2 rv;cases ru;cases rw';obtain⟨⟨_,_,_,o,_,_,_,h1,h2,_⟩,_⟩:=(show cP X.prog X.w H s.heap _ (dxO _ _)from I.hok _ _ h.at_);exact zBS zFQ I.kIn ⟨o,h1,h2.1⟩ (aDP ok) (λ z=>nomatch z) λ tk=>⟨.bl b,H,I.tok _,rfl,q⟩
end
section
variable{C:Ct}{pos p p2:Pos}{m:Mode}{a:Expr}{fa:En->Rs D}
def rT(ha:SE C m a fa)(hm:C.mg "isinstance"=none)(hmT:C.mg x=none)(hn:x≠"__name__":=by decide)(hd:Nd x:=by decide)(he:∀i,zA5 [a,.Name x p2] (C.X i).env=(false,eval a (C.X i).env)::zA5 [.Name x p2] (C.X i).env:=by intro _;rfl)(hpl:∀i,(zCg pos (zA5 [.Name x p2] (C.X i).env)).any (·.1)=false:=by intro _;rfl)(hg:∀i,Gl (C.X i) "isinstance":=by intro _;rfl)(hv:zBC "isinstance"=some (.builtin "isinstance"):=by decide+kernel)(hgT:∀i,Gl (C.X i) x:=by intro _;rfl)(hvT:zBC x=some (.type T):=by decide+kernel):
  SE C (some []) (.Call (.Name "isinstance" p) [a,.Name x p2] [] pos) (op1 (my T) fa):=by
 obtain⟨t,h1,h2⟩:=ha;refine⟨tCB (aKn C.K T) (fM t (fM (tC (.ty T)) lq)),λ i=>?_,λ U Z H Y lab Q R W=>?_⟩
 .rw[<-C.hK i]
  exact jo aFm (hg i) (by rw[(C.cx i).2.2.2.1];exact hm) hv (aV (h1 i) (aV (aED (v:=.ty T) (hgT i) (by rw[(C.cx i).2.2.2.1];exact hmT) hvT rfl hn hd) cH) (he i)) (by decide) (by decide) (he i) (hpl i)
 .refine h2 U Z H Y lab _ R (W.bd.imp λ d _ w x H1 s1 r1=>?_)
  obtain⟨z,ez,w⟩:=w.okD;unfold my at ez;split at ez
  .rename_i h;cases ez;exact⟨x,d,_,true,rfl,r1,h,w _ H1 s1 (.bl _)⟩
  .split at ez
   .rename_i h;cases ez;exact⟨x,d,_,false,rfl,r1,h,w _ H1 s1 (.bl _)⟩
   .cases ez
end
def mD:Slot->Slot
 | .ow d=>.sh d
 | .nw d=>.sh d
 | .oz d=>.sh d
 | .o2 l=>.sh (.lst (l.map .lst))
 |s=>s
def shE(Y:En):En:=Y.map mD
def stV(js:kQ)(Z:L2.St):L2.St:=js.map λ o=>o.bind λ j=>(Z[j]?).join
def stE(js:kQ)(Y:En):En:=js.map λ o=>match o with
 |none=>.no
 |some j=>(Y[j]?).getD .no
def aIx{K:zAA}(h:eV K H lab i v s):∃d,(s= .no\/mD s= .sh d)/\(s= .no\/Rp K (λ _=>True) H v d):=by
 cases s with
 |no=>exact⟨.non,.inl rfl,.inl rfl⟩
 |sh d=>exact⟨d,.inr rfl,.inr (Rp.wk (λ _ _ _ _=>trivial) h)⟩
 |nw d=>exact⟨d,.inr rfl,.inr (Rp.wk (λ _ _ _ _=>trivial) h)⟩
 |ow d=>exact⟨d,.inr rfl,.inr (Rp.wk (λ _ _ _ _=>trivial) h.1)⟩
 |oz d=>exact⟨d,.inr rfl,.inr (Rp.wk (λ _ _ _ _=>trivial) (aKu h))⟩
 |o2 l=>exact⟨_,.inr rfl,.inr (Rp.wk (λ _ _ _ _=>trivial) (aEJ h))⟩
theorem RR.shE{K:zAA}(R:RR K G U Y Z H lab):RR K G U (shE Y) Z H (λ _=>(0,0)):=by
 refine⟨by unfold VL.shE;rw[zAD];exact R.len,λ i s e=>?_,R.old,λ p hp=>absurd rfl hp,λ q hq=>(R.tm q hq).wk λ _ _ _ _=>zAa _⟩;unfold VL.shE at e;rw[zAW]at e;cases e0:Y[i]? with
 |none=>rw[e0]at e;cases e
 |some s0=>
  rw[e0]at e;cases e;rcases R.sl i s0 e0 with rfl|⟨v,ev,hv⟩
  .exact .inl rfl
  .obtain⟨d,h1,h2⟩:=aIx hv
   rcases h1 with rfl|h1
   .exact .inl rfl
   .rcases h2 with rfl|h2
    .exact .inl rfl
    .exact .inr ⟨v,ev,by rw[h1];exact h2.wk λ _ _ _ _=>zAa _⟩
def aGN{i:Nat}(e:(stE js Y)[i]? =some s):s= .no\/∃j,js[i]? =some (some j)/\Y[j]? =some s:=by
 unfold stE at e;rw[zAW]at e;cases ej:js[i]? with
 |none=>rw[ej]at e;cases e
 |some o=>
  rw[ej]at e;cases o with
  |none=>cases e;exact .inl rfl
  |some j=>
   cases er:Y[j]? with
   |none=>simp[er]at e;exact .inl e.symm
   |some s'=>simp[er]at e;subst e;exact .inr ⟨j,rfl,er⟩
def RR.block{K:zAA}{U:List (V×D)}(R:RR K G U (VL.shE Y) Z H lab)(hz:∀p,(lab p).1<=1)(hl:H l=none):
  RR K G U (stE js (VL.shE Y)) (stV js Z) H (λ p=>if p=l then(2,0)else(0,0)):=by
 have nl:∀p o,H p=some o->p≠l:=λ p o e z=>by subst z;rw[hl]at e;cases e
 refine⟨by unfold stE stV;rw[zAD,zAD],λ i s e=>?_,R.old,λ p hp=>?_,λ q hq=>(R.tm q hq).wk λ p o e _=>by rw[if_neg (nl p o e)];exact zAa _⟩
 .rcases aGN e with rfl|⟨j,ej,es⟩
  .exact .inl rfl
  .rcases R.sl j s es with rfl|⟨v,ev,hv⟩
   .exact .inl rfl
   .refine .inr ⟨v,?_,?_⟩
    .unfold stV
     rw[zAW,ej];simp[ev]
    .unfold VL.shE at es
     rw[zAW]at es;cases e0:Y[j]? with
     |none=>rw[e0]at es;cases es
     |some s0=>
      rw[e0]at es;cases es;cases s0 with
      |no=>trivial
      |oz d=>exact Rp.wk (λ p o e _=>by show(if p=l then((2,0):Nat×Nat)else(0,0)).1<=1;rw[if_neg (nl p o e)];exact zAa _) hv
      |nw d=>exact Rp.wk (λ p o e _=>by show(if p=l then((2,0):Nat×Nat)else(0,0)).1<=1;rw[if_neg (nl p o e)];exact zAa _) hv
      |sh d=>exact Rp.wk (λ p o e _=>by show(if p=l then((2,0):Nat×Nat)else(0,0)).1<=1;rw[if_neg (nl p o e)];exact zAa _) hv
      |ow d=>exact Rp.wk (λ p o e _=>by show(if p=l then((2,0):Nat×Nat)else(0,0)).1<=1;rw[if_neg (nl p o e)];exact zAa _) hv
      |o2 d=>exact Rp.wk (λ p o e _=>by show(if p=l then((2,0):Nat×Nat)else(0,0)).1<=1;rw[if_neg (nl p o e)];exact zAa _) hv
 .by_cases hp':p=l
  .subst hp';exact R.old.free hl
  .exact absurd (show(if p=l then((2,0):Nat×Nat)else(0,0)).1=0 by rw[if_neg hp']) hp
def aO7(XN N:List Str)(js:kQ)(ks:List Nat)(sc:Scope):Bool:=(zAj js.length).all λ i=>match js[i]? with
 |some (some j)=>match N[i]?,XN[j]? with
  |some x,some y=>x==y&&sc.names.lookup x==some .free&& !ks.contains i
  |_,_=>false
 |_=>true
def xR(h1:sc.kind= .function)(h2:(sc.names.all λ y=>y.2 != .cell||sc.names.lookup y.1==some .cell)=true)(h3:(sc.names.all λ y=>y.2 != .local||sc.names.lookup y.1==some .local)=true)
  (h4:(sc.names.all λ y=>y.2 != .free||(X.env.kindOf y.1==some .cell||X.env.kindOf y.1==some .free))=true)(h5:js.length=N.length)(h6:aO7 X.N N js ks sc=true):cj X sc N (stV js) ks:=by
 refine⟨h1,λ y hy e=>?_,λ y hy e=>?_,λ y hy e=>?_,λ Z=>by unfold stV;rw[zAD];exact h5,λ Z i x v e1 e2=>?_⟩
 .have:=zAt.mp h2 y hy
  rw[e]at this;simpa using this
 .have:=zAt.mp h3 y hy
  rw[e]at this;simpa using this
 .have:=zAt.mp h4 y hy
  rw[e]at this;simpa using this
 .unfold stV at e2
  rw[zAW]at e2;cases ej:js[i]? with
  |none=>rw[ej]at e2;cases e2
  |some o=>
   rw[ej]at e2;cases o with
   |none=>cases e2
   |some j=>
    have hi:i<js.length:=(zAK.mp ej).1
    have:=zAt.mp h6 i (zBF.mpr hi)
    rw[ej,e1]at this;dsimp only at this;cases ey:X.N[j]? with
    |none=>rw[ey]at this;cases this
    |some y=>
     rw[ey]at this;simp only[zAL,beq_iff_eq,zCX]at this;obtain⟨⟨h,h'⟩,h''⟩:=this;subst h;refine⟨h',λ hk=>?_,j,ey,?_⟩
     .rw[List.contains_iff_mem.mpr hk]at h'';cases h''
     .simp only[zDL,zHs,Option.some.injEq]at e2
      cases es:Z[j]? with
      |none=>rw[es]at e2;cases e2
      |some w=>rw[es]at e2;simp at e2;subst e2;rfl
abbrev Ct.blk(C:Ct)(sc:Scope)(N:List Str):Ct where
 ι:=C.ι×Addr×List Addr×zAE×Hp
 X:=λ i=>(C.X i.1).block sc i.2.1 N i.2.2.1 i.2.2.2.1 i.2.2.2.2
 prog:=C.prog
 w:=C.w
 K:=C.K
 mg:=C.mg
 base:=C.base
 k:=C.k
 G:={C.G with E:=λ _ _ _=>False}
 cx:=λ i=>C.cx i.1
 calm:=λ i=>C.calm i.1
 room:=λ i=>C.room i.1
 own:=λ i=>PassesOwn.never
 pass:=λ i kX Z H s e s' I h=>by obtain⟨_,_,_,_,_,_,_,_,_,_,_,_,_,hE⟩:=h;exact hE
 dOk:=false
 dcx:=λ h=>absurd h zA8
def lcL(Y:En)(fg:D->En->Rs En)(ft:En->Rs Bool)(fe:En->Rs D):List D->Rs (List D)
 |[]=>.ok []
 |d::ds=>(fg d Y).bd λ Y1=>(ft Y1).bd λ k=>if k=true then(fe Y1).bd λ y=>(lcL Y fg ft fe ds).bd λ ys=>.ok (y::ys)else lcL Y fg ft fe ds
def lcD(fi:En->Rs (List D))(js:kQ)(fg:D->En->Rs En)(ft:En->Rs Bool)(fe:En->Rs D):En->Rs D:=λ Y=>(fi (shE Y)).bd λ ds=>
 if ds.length<zAY then(match lcL (stE js (shE Y)) fg ft fe ds with
  | .ok l=>.ok (.lst l)
  |_=>.st)else .st
def aCP(C:Ct)(ifs:List Expr)(f:En->Rs Bool):Prop:=∃t,(∀i,yK (C.X i) ifs t)/\aCN C.K C.G t f
def jO:En->Rs Bool:=λ _=>.ok true
def lG:aCP C [] jO:=⟨_,λ _=>aLp,λ U Z H Y lab Q R W=>W H (aO.refl H)⟩
def rP(h:ST C c f):aCP C [c] f:=let⟨t,h1,h2⟩:=h;⟨t,λ i=>aLo (h1 i),h2⟩
def aB8(h:lcL Y fg ft fe (d::ds)= .ok l):
  ∃Y1 k,fg d Y= .ok Y1/\ft Y1= .ok k/\((k=true/\∃y ys,fe Y1= .ok y/\lcL Y fg ft fe ds= .ok ys/\l=y::ys)\/(k=false/\lcL Y fg ft fe ds= .ok l)):=by
 unfold lcL at h;obtain⟨Y1,e1,h⟩:=cF h;obtain⟨k,e2,h⟩:=cF h;refine⟨Y1,k,e1,e2,?_⟩;cases k with
 |true=>
  rw[if_pos rfl]at h;obtain⟨y,e3,h⟩:=cF h;obtain⟨ys,e4,h⟩:=cF h;cases h;exact .inl ⟨rfl,y,ys,e3,e4,rfl⟩
 |false=>
  rw[if_neg zA8]at h;exact .inr ⟨rfl,h⟩
def RR.but_blk{K:zAA}{U:List (V×D)}(R:RR K G U (stE js (VL.shE Y)) Z H (λ p=>if p=l then(2,0)else(0,0)))(B:kh l H H')(hl:H l=some o)(ho:iG o=true)(h0:G.H0 l=none):
  RR K G U (stE js (VL.shE Y)) Z H' (λ p=>if p=l then(2,0)else(0,0)):=by
 have dE:¬((λ p=>if p=l then((2,0):Nat×Nat)else(0,0)) l).1<=1:=by simp
 refine⟨R.len,λ j s e=>?_,λ b o hb=>?_,R.new,λ q hq=>(R.tm q hq).but B hl ho dE⟩
 .rcases R.sl j s e with z|⟨u,e1,e2⟩
  .exact .inl z
  .refine .inr ⟨u,e1,?_⟩
   rcases aGN e with rfl|⟨jx,ej,es⟩
   .trivial
   .unfold VL.shE at es
    rw[zAW]at es;cases e0:Y[jx]? with
    |none=>rw[e0]at es;cases es
    |some s0=>rw[e0]at es;cases es;cases s0<;>first|trivial|exact Rp.but B hl ho dE e2
 .exact B b o (λ z=>by subst z;rw[h0]at hb;cases hb) (R.old b o hb)
def RR.blk0{K:zAA}(R:RR K G U (VL.shE Y) Z H lab)(hG:G'.H0=G.H0):RR K G' U (VL.shE Y) Z H (λ _=>(0,0)):=by
 refine⟨R.len,λ i s e=>?_,by rw[hG];exact R.old,λ p hp=>absurd rfl hp,λ q hq=>(R.tm q hq).wk λ _ _ _ _=>zAa _⟩;rcases R.sl i s e with rfl|⟨v,ev,hv⟩
 .exact .inl rfl
 .unfold VL.shE at e
  rw[zAW]at e;cases e0:Y[i]? with
  |none=>rw[e0]at e;cases e
  |some s0=>rw[e0]at e;cases e;cases s0<;>first|exact .inl rfl|exact .inr ⟨v,ev,Rp.wk (λ _ _ _ _=>zAa _) hv⟩
section
variable{K:zAA}{G:Gx}{wi:TI}{fi:En->Rs (List D)}{js:kQ}{g:TG}{fg:D->En->Rs En}{tt:TT}{ft:En->Rs Bool}{te:TE}{fe:En->Rs D}
def aGS(hi:aI2 K G wi fi)(hg:aI3 K {G with E:=λ _ _ _=>False} g fg)(ht:aCN K {G with E:=λ _ _ _=>False} tt ft)(he:iD K {G with E:=λ _ _ _=>False} (some []) te fe):
  iD K G (some []) (tLC wi (stV js) g tt te) (lcD fi js fg ft fe):=by
 intro U Z H Y lab Q R W;refine hi U Z H _ _ _ R.shE (W.bd.imp λ ds _ w J H1 lab1 U1 s1 _ R1 jl=>?_);intro l hl;obtain⟨kK,out,aS,w⟩:ds.length<zAY/\∃out,lcL (stE js (VL.shE Y)) fg ft fe ds= .ok out/\QE K (some []) lab H Q (.lst out):=by
  by_cases kK:ds.length<zAY
  .rw[if_pos kK]at w
   cases aS:lcL (stE js (VL.shE Y)) fg ft fe ds with
   |ok out=>rw[aS]at w;exact⟨kK,out,rfl,w⟩
   |ex c=>rw[aS]at w;exact zAN w
   |st=>rw[aS]at w;exact zAN w
  .rw[if_neg kK]at w
   exact zAN w
 have R0:RR K {G with E:=λ _ _ _=>False} (U1++U) (VL.shE Y) Z H1 (λ _=>(0,0)):=R1.blk0 rfl;have RB:=R0.block (js:=js) (λ _=>zAa _) hl;have hHl:H l=none:=s1.free hl;have dE:¬((λ p=>if p=l then((2,0):Nat×Nat)else(0,0)) l).1<=1:=by simp
 refine⟨λ i n acc H2=>∃pre,n=ds.length-i/\i<=ds.length/\H2 l=some (.lst acc)/\RR K {G with E:=λ _ _ _=>False} (U1++U) (stE js (VL.shE Y)) (stV js Z) H2 (λ p=>if p=l then(2,0)else(0,0))/\aO H H2/\acc.length<=i/\
  Rps K (λ p=>H p=none/\p≠l) H2 acc pre/\∃post,lcL (stE js (VL.shE Y)) fg ft fe (ds.drop i)= .ok post/\out=pre++post,⟨ds.length,[],by lia,by lia,aa,RB.up (bQ hl _),s1.trans (bQ hl _),zAQ _,.nil,out,aS,rfl⟩,?_⟩
 rintro i n acc H2 ⟨pre,rfl,hi,hH2,R2,s2,qV,rpre,post,hpost,eout⟩;refine⟨hH2,by lia,?_⟩;have jj:=jl _ H2 λ q hq=>R2.tm q (zA1 _ hq)
 by_cases hlt:i<ds.length
 .obtain⟨go,yl⟩:=(jj i).2 hlt
  refine .inr ⟨go,λ x H3 hy=>?_⟩;obtain⟨s3,d,ed,rx⟩:=yl x H3 hy;replace R2:=R2.up s3;replace hH2:=s3 _ _ hH2;replace s2:=s2.trans s3;replace rpre:=rpre.up s3;have ed2:ds.drop i=d::ds.drop (i+1):=by
   rw[zBr hlt]
   have:=zAH hlt
   rw[ed]at this;cases this;rfl
  rw[ed2]at hpost;obtain⟨Y1,k,e1,e2,e3⟩:=aB8 hpost;refine hg (U1++U) x d _ H3 _ _ _ Y1 R2 rx e1 λ Z4 R4=>?_
  refine ht (U1++U) Z4 H3 Y1 _ _ R4 ?_;rw[e2];intro H5 s5;rcases e3 with ⟨rfl,y,ys,e3,e4,rfl⟩|⟨rfl,e4⟩
  .rw[if_pos rfl]
   refine he (U1++U) Z4 H5 Y1 _ _ (R4.up s5) ?_;rw[e3];intro v H6 s6 r6;have hl6:H6 l=some (.lst acc):=s6 _ _ (s5 _ _ hH2);have B:kh l H6 (upd H6 l (.lst (acc++[v]))):=λ b o ne hb=>by rw[aX ne];exact hb
   refine⟨hl6,ds.length-(i+1),by lia,pre++[y],rfl,hlt,aa,?_,?_,by rw[zAZ];simp;lia,?_,ys,e4,by rw[eout];simp⟩
   .exact(R2.up (s5.trans s6)).but_blk B hl6 rfl (R1.old.free hl)
   .exact λ b o hb=>B b o (λ z=>by subst z;rw[hHl]at hb;cases hb) (((s2.trans s5).trans s6) b o hb)
   .refine((rpre.up (s5.trans s6)).append (.cons (r6.wk λ p o _ z=>?_) .nil)).but B hl6 rfl λ z=>z.2 rfl
    rcases z with z|z
    .exact⟨(s2.trans s5).free z,λ e=>by subst e;rw[s5 _ _ hH2]at z;cases z⟩
    .cases z
  .rw[if_neg zA8]
   exact⟨ds.length-(i+1),by lia,pre,rfl,hlt,s5 _ _ hH2,R2.up s5,s2.trans s5,by lia,rpre.up s5,post,e4,eout⟩
 .have ei:i=ds.length:=by lia
  subst ei;rw[zDA]at hpost;cases hpost;rw[zBD]at eout;subst eout;exact .inl ⟨(jj _).1 (zAQ _),w _ H2 s2 (.lst hH2 (.inl hHl) (rpre.wk λ p o _ z=>⟨.inl z.1,z.2⟩))⟩
end
section
variable{C:Ct}{pos:Pos}{elt tg iter:Expr}{ifs:List Expr}{sc:Scope}{N:List Str}{js:kQ}{ks:List Nat}{fi:En->Rs (List D)}{fg:D->En->Rs En}{ft:En->Rs Bool}{fe:En->Rs D}
def bj{C:Ct}(nd:N.Nodup:=by decide+kernel)(hk:i∈ks:=by decide)(hN:∀j,((C.blk sc N).X j).N[i]? =some x:=by intro _;rfl)(hx:∀j,Loc ((C.blk sc N).X j).env.scope x:=by intro _;first|exact zCV rfl|exact zBc rfl)
  (hf:∀j,((C.blk sc N).X j).fn x=true\/((C.blk sc N).X j).env.scope.names.lookup x=some .local:=by intro _;first|exact .inl rfl|exact .inr rfl):SG (C.blk sc N) (.Name x pos) ks (gnm i):=
 bC hN hx hf (λ _=>nd) hk
def vR(hi:SI C tg iter fi)(hg:SG (C.blk sc N) tg ks fg)(ht:aCP (C.blk sc N) ifs ft)(he:SE (C.blk sc N) (some []) elt fe)(hs:∀i x,zAz iter (C.X i).env x=pure x:=by intro _ _;rfl)(hB:∀i,cj (C.X i) sc N (stV js) ks:=by intro _;exact xR rfl rfl rfl rfl rfl rfl):SE C (some []) (.ListComp elt [⟨tg,iter,ifs,0⟩] sc pos) (lcD fi js fg ft fe):=by
 obtain⟨wi,i1,i2⟩:=hi;obtain⟨g,g1,g2,g3,g4⟩:=hg;obtain⟨tt,t1,t2⟩:=ht;obtain⟨te,e1,e2⟩:=he;exact⟨_,λ i=>aNi (hB i) (C.calm i) (i1 i) (λ c fp z5 zI=>g1 (i,c,fp,z5,zI)) g3 (λ c fp z5 zI=>t1 (i,c,fp,z5,zI)) (λ c fp z5 zI=>e1 (i,c,fp,z5,zI)) (hs i),aGS i2 g2 t2 e2⟩
def aGK(hi:SI C tg iter fi)(hg:SG (C.blk sc N) tg ks fg)(ht:aCP (C.blk sc N) ifs ft)(he:SE (C.blk sc N) (some []) elt fe)(hN:∀j,(C.X j).N[i]? =some x:=by intro _;rfl)(hx:∀j,Loc (C.X j).env.scope x:=by intro _;first|exact zCV rfl|exact zBc rfl)(hsw:∀j,zCh (.ListComp elt [⟨tg,iter,ifs,0⟩] sc pos) (some (.Name x pos')) spos.line (C.X j).env=pure true:=by intro _;rfl)(hs:∀i x,zAz iter (C.X i).env x=pure x:=by intro _ _;rfl)(hf:∀j,(C.X j).fn x=true\/(C.X j).env.scope.names.lookup x=some .local:=by intro _;first|exact .inl rfl|exact .inr rfl)(nd:∀j,(C.X j).N.Nodup:=by intro _;assumption)(hB:∀i,cj (C.X i) sc N (stV js) ks:=by intro _;exact xR rfl rfl rfl rfl rfl rfl):
  SV C i (.Assign [.Name x pos'] (.ListComp elt [⟨tg,iter,ifs,0⟩] sc pos) spos) (some []) (lcD fi js fg ft fe):=by
 obtain⟨wi,i1,i2⟩:=hi;obtain⟨g,g1,g2,g3,g4⟩:=hg;obtain⟨tt,t1,t2⟩:=ht;obtain⟨te,e1,e2⟩:=he;exact⟨_,λ j=>aBP (nd j) (hN j) (hx j) (hB j) (C.calm j) (i1 j) (λ c fp z5 zI=>g1 (j,c,fp,z5,zI)) g3 (λ c fp z5 zI=>t1 (j,c,fp,z5,zI)) (λ c fp z5 zI=>e1 (j,c,fp,z5,zI)) (hsw j) (hs j) (hf j),aGS i2 g2 t2 e2⟩
end
def RR.mut{K:zAA}(R:RR K G U Y Z H lab)(ev:Z[i]? =some (some v))(hl:H l=some o)(ho:iG o=true)(b9:(lab l).1=i+2)
  (B:kh l H H')(h':eV K H' lab i v s'):RR K G U (Y.set i s') Z H' lab:=by
 refine⟨by rw[zBf];exact R.len,λ j x e=>?_,λ b u hb=>B b u (λ z=>?_) (R.old b u hb),R.new,λ q hq=>(R.tm q hq).but B hl ho λ z=>by lia⟩
 .by_cases hj:i=j
  .subst hj
   have hi:i<Y.length:=by
    have:=(zAK.mp e).1
    rwa [zBf]at this
   rw[zCL hi]at e;cases e;exact .inr ⟨v,ev,h'⟩
  .rw[zBX hj]at e
   rcases R.sl j x e with z|⟨u,e1,e2⟩
   .exact .inl z
   .refine .inr ⟨u,e1,?_⟩
    cases x with
    |no=>trivial
    |sh d=>exact Rp.but B hl ho (λ z=>by lia) e2
    |nw d=>exact Rp.but B hl ho (λ z=>by lia) e2
    |ow d=>exact⟨Rp.but B hl ho (λ z=>by lia) e2.1,e2.2⟩
    |oz d=>
     obtain⟨a,xs,ds,q1,q2,q3,q4,q5⟩:=e2;exact⟨a,xs,ds,q1,q2,B a _ (λ z=>by subst z;exact hj (by lia)) q3,q4,Rps.but B hl ho (λ z=>by lia) q5⟩
    |o2 ll=>
     obtain⟨a,xs,q1,q2,q3,q4,q5⟩:=e2;refine⟨a,xs,q1,B a _ (λ z=>?_) q2,q3,q4,λ jj y ds f1 f2=>(q5 jj y ds f1 f2).but B hl ho λ z=>?_⟩
     .rw[z]at q3;rw[q3]at b9;exact hj (by simpa using b9.symm)
     .rw[z]at b9;exact hj (by simpa using b9.symm)
 .subst z
  have:=R.new b (by rw[b9];lia)
  rw[this]at hb;cases hb
section
variable{C:Ct}{pos apos cpos p:Pos}{e a:Expr}{fe fa:En->Rs D}{i:Nat}{x:Str}{m:Mode}
def rC(i:Nat)(fe:En->Rs D):En->Ou:=λ Y=>match Y[i]? with
 |some (.ow (.lst ds))=>(fe Y).bo λ d=>if ds.length<zAY then .nx (Y.set i (.ow (.lst (ds++[d]))))else .st
 |_=>.st
def nW(i:Nat)(he:SE C m e fe)(hm:okN m=true:=by rfl)(hN:∀j,(C.X j).N[i]? =some x:=by intro _;rfl)(hv:∀j,Vis (C.X j).env.scope x:=by intro _;first|exact zCV rfl|exact zBc (zCV rfl)|exact zBc (zBc rfl))(hd:Nd x:=by decide)
  (hcd:(x==("__classdict__":Str))=false:=by decide)(hs1:∀j,zA5 [e] (C.X j).env=[(false,eval e (C.X j).env)]:=by intro _;rfl)
  (hbase:∀j,zD6 (.Name x p) "append" (C.X j).env (eval (.Name x p) (C.X j).env)=eval (.Name x p) (C.X j).env:=by intro _;rfl)
  (hfew:∀j,((zCg cpos (zA5 [e] (C.X j).env)).all (λ x=>!x.1)&&(zGE cpos (zEL [] (C.X j).env)).all (λ x=>x.1.isSome)&&decide ([e].length+([]:List zDF).length+(if ([]:List zDF).isEmpty then 0 else 1)<30))=true:=by intro _;rfl)
  (hline:(apos.endLine==cpos.line)=true:=by rfl)
  (hsw:∀j,zCh (.Call (.Attribute (.Name x p) "append" apos) [e] [] cpos) none pos.line (C.X j).env=pure false:=by intro _;rfl):
  SS C (.Expr (.Call (.Attribute (.Name x p) "append" apos) [e] [] cpos) pos) (rC i fe):=by
 obtain⟨t,h1,h2⟩:=he;refine⟨vI (tBM C.K "list" qZ (jh i) (fM t lq)),λ j=>n6 (by rw[<-C.hK j];exact yV zBz zDR zEE pU (dW (hN j) (hv j) hd hcd) (aV (h1 j) cH (hs1 j)) (hbase j) (hfew j) hline (hs1 j) rfl) (hsw j),λ U Z H Y lab De R W=>?_⟩;unfold rC at W;cases es:Y[i]? with
 |none=>rw[es]at W;exact zAN W
 |some s=>
  rw[es]at W;split at W
  .rename_i ds hs
   cases hs;rcases R.sl i _ es with z|⟨v,ev,hv'⟩
   .cases z
   .obtain⟨hv1,htop⟩:=hv'
    obtain⟨a0,ea0,la0⟩:=htop rfl;subst ea0;cases hv1 with
    |lst h mm r=>
     rename_i xs;refine⟨.ref a0,ev,.inl ⟨rfl,xs,SqL.of h⟩,h2 U Z H Y lab _ R (W.bo.imp λ d _ w y H2 s2 r2=>?_)⟩;by_cases hz:ds.length<zAY
     .rw[if_pos hz]at w
      refine⟨a0,xs,y,rfl,rfl,s2 _ _ h,by rw[r.length];exact hz,λ H3 B h3=>?_⟩;obtain⟨R',r'⟩:=R.fresh (P:=λ k=>k=1) rfl (λ k hk=>beq_iff_eq.mp (n8 hm k hk)) s2 r2;have la:(cB H 1 lab a0).1=i+2:=by rw[bR h];exact la0
      refine w Z H3 _ (R'.mut ev (s2 _ _ h) rfl la B ⟨.lst h3 (.inr la) ?_,λ _=>⟨a0,rfl,la⟩⟩);have ra:Rps C.K (λ p=>((cB H 1 lab p).1=1\/(cB H 1 lab p).1=i+2)/\p≠a0) H2 (xs++[y]) (ds++[d]):=by
       refine(r.mono s2 λ p o e z=>⟨by rw[bR e];exact z.1,z.2⟩).append (.cons (r'.wk λ p o e z=>⟨.inl z,λ q=>?_⟩) .nil);subst q;rw[la]at z;lia
      exact ra.but B (s2 _ _ h) rfl λ z=>z.2 rfl
     .rw[if_neg hz]at w
      exact zAN w
  .exact zAN W
def at2(ll:fE):D->Option (Nat×List D)
 | .int n=>(ixN ll.length n).bind λ j=>(ll[j]?).map λ ds=>(j,ds)
 |_=>none
def iH(i:Nat)(fa fe:En->Rs D):En->Ou:=λ Y=>match Y[i]? with
 |some (.o2 ll)=>(fa Y).bo λ k=>match at2 ll k with
  |some (j,ds)=>(fe Y).bo λ d=>if ds.length<zAY then .nx (Y.set i (.o2 (ll.set j (ds++[d]))))else .st
  |none=>.st
 |_=>.st
def aIX(h:at2 ll k=some (j,ds)):∃n,k= .int n/\ixN ll.length n=some j/\ll[j]? =some ds:=by
 cases k with
 |int n=>
  simp only[at2,Option.bind_eq_some_iff,zDW]at h;obtain⟨j',h1,ds',h2,h3⟩:=h;cases h3;exact⟨n,rfl,h1,h2⟩
 |_=>cases h
def lC(i:Nat){p2:Pos}(ha:SE C m a fa)(he:SE C (some []) e fe)(hN:∀j,(C.X j).N[i]? =some x:=by intro _;rfl)(hv:∀j,Vis (C.X j).env.scope x:=by intro _;first|exact zCV rfl|exact zBc (zCV rfl)|exact zBc (zBc rfl))(hd:Nd x:=by decide)
  (hcd:(x==("__classdict__":Str))=false:=by decide)(hs1:∀j,zA5 [e] (C.X j).env=[(false,eval e (C.X j).env)]:=by intro _;rfl)(hp:vA a:=by exact λ _ _=>rfl)
  (hbase:∀j,zD6 (.Subscript (.Name x p) a p2) "append" (C.X j).env (eval (.Subscript (.Name x p) a p2) (C.X j).env)=eval (.Subscript (.Name x p) a p2) (C.X j).env:=by intro _;rfl)
  (hfew:∀j,((zCg cpos (zA5 [e] (C.X j).env)).all (λ x=>!x.1)&&(zGE cpos (zEL [] (C.X j).env)).all (λ x=>x.1.isSome)&&decide ([e].length+([]:List zDF).length+(if ([]:List zDF).isEmpty then 0 else 1)<30))=true:=by intro _;rfl)
  (hline:(apos.endLine==cpos.line)=true:=by rfl)
  (hsw:∀j,zCh (.Call (.Attribute (.Subscript (.Name x p) a p2) "append" apos) [e] [] cpos) none pos.line (C.X j).env=pure false:=by intro _;rfl):
  SS C (.Expr (.Call (.Attribute (.Subscript (.Name x p) a p2) "append" apos) [e] [] cpos) pos) (iH i fa fe):=by
 obtain⟨t,h1,h2⟩:=he;obtain⟨ta,a1,a2⟩:=ha;refine⟨vI (tBM C.K "list" qZ (tOp (aLh C.K) (jh i) ta) (fM t lq)),λ j=>n6 (by rw[<-C.hK j];exact yV zBz zDR zEE pU (aHD aAT (dW (hN j) (hv j) hd hcd) (a1 j) hp) (aV (h1 j) cH (hs1 j)) (hbase j) (hfew j) hline (hs1 j) rfl) (hsw j),λ U Z H Y lab De R W=>?_⟩;unfold iH at W;cases es:Y[i]? with
 |none=>rw[es]at W;exact zAN W
 |some s=>
  rw[es]at W;cases s with
  |o2 ll=>
   dsimp only at W;rcases R.sl i _ es with z|⟨v,ev,top,xs,rfl,ht,hlt,kK,hin⟩
   .cases z
   .refine⟨.ref top,ev,a2 U Z H Y lab _ R (W.bo.imp λ k _ w kv H1 s1 r1=>?_)⟩
    cases hk:at2 ll k with
    |none=>rw[hk]at w;exact zAN w
    |some q=>
     obtain⟨j,ds⟩:=q;rw[hk]at w;dsimp only at w;obtain⟨n,rfl,hj,hds⟩:=aIX hk;cases r1;have hjx:∃xj,xs[j]? =some xj:=by
      have:j<xs.length:=by rw[kK];exact(zAK.mp hds).1
      exact⟨_,zAH this⟩
     obtain⟨xj,hxj⟩:=hjx;have hr:=hin j xj ds hxj hds;cases hr with
     |lst hl ml rl=>
      rename_i l ys;refine⟨top,xs,n,.ref l,rfl,rfl,SqL.of (s1 _ _ ht),by unfold atI;rw[kK,hj];exact hxj,.inl ⟨rfl,ys,SqL.of (s1 _ _ hl)⟩,h2 U Z H1 Y lab _ (R.up s1) (w.bo.imp λ d _ w y H2 s2 r2=>?_)⟩;by_cases hz:ds.length<zAY
      .rw[if_pos hz]at w
       have s12:=s1.trans s2;refine⟨l,ys,y,rfl,rfl,s12 _ _ hl,by rw[rl.length];exact hz,λ H3 B h3=>?_⟩;have ltop:l≠top:=λ e=>by rw[e,hlt]at ml;cases ml
       let lab':Lab:=λ p=>match H1 p with
        |none=>(i+2,j+1)
        |some _=>lab p
       have lo:∀{p o},H1 p=some o->lab' p=lab p:=λ{p o} e=>by show(match H1 p with|none=>_|some _=>_)=_;rw[e]
       have ln:∀{p},H1 p=none->lab' p=(i+2,j+1):=λ{p} e=>by show(match H1 p with|none=>_|some _=>_)=_;rw[e]
       have R':RR C.K C.G U Y Z H2 lab':=((R.up s1).relab (λ p o e=>lo e) λ p hp=>by
        cases e:H1 p with
        |none=>exact(R.old.trans s1).free e
        |some o=>rw[lo e]at hp;exact R.new p hp).up s2
       have bS:lab' l=(i+2,j+1):=by rw[lo (s1 _ _ hl)];exact ml
       refine w Z H3 lab' (R'.mut ev (s12 _ _ hl) rfl (by rw[bS]) B ⟨top,xs,rfl,B _ _ (zCy ltop) (s12 _ _ ht),by rw[lo (s1 _ _ ht)];exact hlt,by rw[zBf];exact kK,λ jj z dz f1 f2=>?_⟩);by_cases hjj:j=jj
       .subst hjj
        rw[hxj]at f1;cases f1;rw[zCL (zAK.mp hds).1]at f2;cases f2;refine .lst h3 bS ?_;have ra:Rps C.K (λ p=>lab' p=(i+2,j+1)/\p≠l) H2 (ys++[y]) (ds++[d]):=by
         refine(rl.mono s12 λ p o e z=>⟨by rw[lo (s1 _ _ e)];exact z.1,z.2⟩).append (.cons (r2.wk λ p o e z=>?_) .nil);rcases z with z|z
         .exact⟨ln z,λ q=>by subst q;rw[s1 _ _ hl]at z;cases z⟩
         .cases z
        exact ra.but B (s12 _ _ hl) rfl λ z=>z.2 rfl
       .rw[zBX hjj]at f2
        refine((hin jj z dz f1 f2).mono s12 (A':=λ p=>lab' p=(i+2,jj+1)) λ p o e q=>by rw[lo (s1 _ _ e)];exact q).but B (s12 _ _ hl) rfl λ q=>?_
        rw[bS]at q;simp only[Prod.mk.injEq]at q;lia
      .rw[if_neg hz]at w
       exact zAN w
  |_=>exact zAN W
end
mutual
def eqD:D->D->Bool
 | .non,.non=>true
 | .bl a,.bl b=>a==b
 | .bl a,.int b=>(if a then 1 else 0)==b
 | .int a,.bl b=>a==(if b then 1 else 0)
 | .int a,.int b=>a==b
 | .str a,.str b=>a==b
 | .tup l,.tup m=>uR l m
 | .lst l,.lst m=>uR l m
 |_,_=>false
def uR:List D->List D->Bool
 |[],[]=>true
 |x::xs,y::ys=>eqD x y&&uR xs ys
 |_,_=>false
end
mutual
def lw:D->Nat
 | .tup l=>gA l+1
 | .lst l=>gA l+1
 |_=>0
def gA:List D->Nat
 |[]=>0
 |d::r=>max (lw d) (gA r)
end
mutual
def au:D->Bool
 | .tup l=>bH l
 | .lst l=>bH l
 | .dct _ _=>false
 | .set _=>false
 | .scr _=>false
 | .fn _=>false
 |_=>true
def bH:List D->Bool
 |[]=>true
 |d::r=>au d&&bH r
end
mutual
theorem ql:∀d:D,au d=true->eqD d d=true
 | .non,_=>by simp[eqD]
 | .bl b,_=>by simp[eqD]
 | .int i,_=>by simp[eqD]
 | .str x,_=>by simp[eqD]
 | .tup l,h=>by exact sy l (by simpa[au]using h)
 | .lst l,h=>by exact sy l (by simpa[au]using h)
 | .dct _ _,h=>by simp[au]at h
 | .set _,h=>by simp[au]at h
 | .scr _,h=>by simp[au]at h
theorem sy:∀l:List D,bH l=true->uR l l=true
 |[],_=>by simp[uR]
 |d::r,h=>by
  simp only[bH,zAL]at h;simp only[uR,zAL];exact⟨ql d h.1,sy r h.2⟩
end
structure kO(K:zAA)(H:Hp)(s:zAE):Prop where
 tup:∀{a:Addr} {xs:List V},SqT K H a xs->∃its:List Value,Vals xs its/\s.heap.IsTuple a its.toArray
 lst:∀{a:Addr} {xs:List V},H a=some (.lst xs)->∃its:List Value,Vals xs its/\s.heap.IsList a its.toArray
 inj:∀{a:Addr} {xs ys:List V},SqT K H a xs->SqT K H a ys->xs=ys
 ne:∀{a:Addr} {xs ys:List V},SqT K H a xs->H a=some (.lst ys)->False
def Inv.seqOk(I:L2.Inv X kX Z H s):kO X.K H s where
 tup:=λ h=>let⟨its,r,p,_⟩:=I.tuple h;⟨its,r,p⟩
 lst:=λ h=>let⟨its,r,p,_⟩:=I.list (SqL.of h);⟨its,r,p.isList⟩
 inj:=λ h h'=>I.tuple_inj h h'
 ne:=λ h h'=>by
  obtain⟨its,_,⟨o,e,c,_⟩,_⟩:=I.tuple h;obtain⟨its2,_,⟨o2,n2,e2,c2,_⟩,_⟩:=I.list (SqL.of h');rw[e]at e2;cases e2;rw[c]at c2;injection c2 with c3
  exact absurd c3 (by decide)
section
variable{K:zAA}{H:Hp}{s:zAE}
def ndP:D->Prop
 | .dct _ _=>False
 | .set _=>False
 | .scr _=>False
 | .fn _=>False
 |_=>True
def ndx{d:D}(h:au d=true):ndP d:=by cases d<;>first|exact zEU|(simp[au]at h)
def bF(h:au (.dct a b)=true):False:=by simp[au]at h
def dw(h:au (.set a)=true):False:=by simp[au]at h
def eE(h:au (.scr a)=true):False:=by simp[au]at h
def fX(h:au (.fn a)=true):False:=by simp[au]at h
def iR(h:au (.tup a)=true):bH a=true:=by simpa[au]using h
def iT(h:au (.lst a)=true):bH a=true:=by simpa[au]using h
def jU(h:bH (d::a)=true):au d=true/\bH a=true:=by
 simp only[bH,zAL]at h;exact h
def aK5(K:zAA)(s:zAE)(H:Hp)(x:V)(d:D):Prop:=kO K H s->∀(A':Addr->Prop) (e:D),Rp K A' H x e->au d=true->au e=true->d=e
def aCR(K:zAA)(s:zAE)(H:Hp)(xs:List V)(ds:List D):Prop:=kO K H s->∀(A':Addr->Prop) (es:List D),Rps K A' H xs es->bH ds=true->bH es=true->ds=es
def aJs(ha:SqT K H a xs)(ih:aCR K s H xs ds):aK5 K s H (.ref a) (.tup ds):=λ ok A' e h n1 n2=>by
 cases h with
 |tup hb r'=>
  have e:=ok.inj ha hb;subst e;rw[ih ok _ _ r' (iR n1) (iR n2)]
 |lst hb _ _=>exact(ok.ne ha hb).elim
 |_=>exact zAN (ndx n2)
def aJt(ha:H a=some (.lst xs))(ih:aCR K s H xs ds):aK5 K s H (.ref a) (.lst ds):=λ ok A' e h n1 n2=>by
 cases h with
 |tup hb r'=>exact(ok.ne hb ha).elim
 |lst hb _ r'=>
  rw[ha]at hb;cases hb;rw[ih ok _ _ r' (iT n1) (iT n2)]
 |_=>exact zAN (ndx n2)
def aHg(h1:aK5 K s H x d)(h2:aCR K s H xs ds):aCR K s H (x::xs) (d::ds):=λ ok A' es h n1 n2=>by
 cases h with
 |cons k r'=>rw[h1 ok _ _ k (jU n1).1 (jU n2).1,h2 ok _ _ r' (jU n1).2 (jU n2).2]
def Rp.inj(ok:kO K H s)(r:Rp K A H x d)(h:Rp K A' H x e)(n1:au d=true)(n2:au e=true):d=e:=
 Rp.rec (motive_1:=λ _ H x d _=>aK5 K s H x d) (motive_2:=λ _ H xs ds _=>aCR K s H xs ds)
  (λ _ _ _ h _ _=>by cases h;rfl) (λ _ _ _ _ h _ _=>by cases h;rfl) (λ _ _ _ _ h _ _=>by cases h;rfl) (λ _ _ _ _ h _ _=>by cases h;rfl) (λ ha _ ih=>aJs ha ih) (λ ha _ _ ih=>aJt ha ih)
  (λ _ _ _ _ _ _ _ _ n1 _=>(bF n1).elim) (λ _ _ _ _ _ _ _ _ n1 _=>(bF n1).elim) (λ _ _ _ _ _ _ _ _ n1 _=>(dw n1).elim) (λ _ _ _ _ _ n1 _=>(eE n1).elim) (λ _ _ _ _ _ n1 _=>(fX n1).elim)
  (λ _ _ _ h _ _=>by cases h;rfl) (λ _ _ h1 h2=>aHg h1 h2) r ok A' e h n1 n2
end
theorem aBo:∀(l m:List D),uR l m=((zAj (min l.length m.length)).all (λ j=>match l[j]?,m[j]? with|some a,some b=>eqD a b|_,_=>true)&&l.length==m.length)
 |[],[]=>by simp[uR]
 |[],y::ys=>by simp[uR]
 |x::xs,[]=>by simp[uR]
 |x::xs,y::ys=>by
  have ih:=aBo xs ys;simp only[uR,ih,zAO,Nat.succ_min_succ,List.range_succ_eq_map,zJF,zJW,zDS,Function.comp_def,zC5,Nat.succ_eq_add_one,Nat.add_one_inj,zG2];congr 1;congr 1;simp
theorem yu:∀{l:List D} {d:D},d∈l->lw d<=gA l
 |x::r,d,h=>by
  simp only[gA];rcases zAP.mp h with rfl|h
  .exact zIv _ _
  .exact zAi (yu h) (zIp _ _)
theorem pR:∀{l:List D} {d:D},d∈l->bH l=true->au d=true
 |x::r,d,h,n=>by
  simp only[bH,zAL]at n;rcases zAP.mp h with rfl|h
  .exact n.1
  .exact pR h n.2
def jB(hn:n=ds.length)(hm:m=es.length):((zAj (min n m)).all (λ j=>match ds[j]?,es[j]? with|some a,some b=>eqD a b|_,_=>true)&&n==m)=uR ds es:=by
 subst hn hm;exact(aBo ds es).symm
section
variable{K:zAA}{H:Hp}{s:zAE}
def aI8(K:zAA)(H:Hp)(s:zAE)(n:Nat):Prop:=∀(A1 A2:Addr->Prop) (x y:V) (d e:D) (A:zAc) (u v:Value),Rp K A1 H x d->Rp K A2 H y e->RelV x u->RelV y v->lw d<=n->au d=true->au e=true->A.units+n<cLine->zCm A s u v (eqD d e)
def aI9(K:zAA)(H:Hp)(s:zAE)(n:Nat):Prop:=∀(A1 A2:Addr->Prop) (xs ys:List V) (ds es:List D) (A:zAc) (us vs:List Value),Rps K A1 H xs ds->Rps K A2 H ys es->Vals xs us->Vals ys vs->gA ds<=n->bH ds=true->bH es=true->A.units+n<cLine->
  ∀(j:Nat) (h1:j<us.toArray.size) (h2:j<vs.toArray.size),zCm A s us.toArray[j] vs.toArray[j] (match ds[j]?,es[j]? with|some a,some b=>eqD a b|_,_=>true)
def ww(ok:kO K H s)(n:Nat)(IH:∀k,n=k+1->aI9 K H s k):aI8 K H s n:=by
 intro A1 A2 x y d e A u v r1 r2 ru rv hd nd ne hu;have hu0:A.units<cLine:=by lia
 cases r1 with
 |tup h1 q1=>
  rename_i a xs ds;cases ru;obtain⟨its,w1,t1⟩:=ok.tup h1;cases r2 with
  |tup h2 q2=>
   rename_i b ys es;cases rv;obtain⟨its2,w2,t2⟩:=ok.tup h2;by_cases hab:a=b
   .subst hab
    have e:=Rp.inj ok (Rp.tup h1 q1) (Rp.tup h2 q2) nd ne;rw[<-e,ql _ nd];exact zF2 _
   .simp only[lw]at hd
    obtain⟨k,rfl⟩:∃k,n=k+1:=⟨n-1,by lia⟩
    have z:=zGs t1 t2 hu0 (IH k rfl _ _ _ _ _ _ _ _ _ q1 q2 w1 w2 (by lia) (iR nd) (iR ne) (by show A.units+1+k<cLine;lia));rw[jB (by rw[zAX,<-w1.length,q1.length]) (by rw[zAX,<-w2.length,q2.length])]at z;simp only[eqD];exact zEr hab z
  |lst h2 mm2 q2=>
   cases rv;obtain⟨its2,w2,t2⟩:=ok.lst h2;simp only[eqD];exact SeqAt.EqAt.tuple_list t1 t2 hu0
  |non=>cases rv;exact SeqAt.EqAt.tuple_none t1 hu0
  |bl b=>cases rv;exact SeqAt.EqAt.tuple_bool b t1 hu0
  |int i=>obtain⟨tk,rfl⟩:=rv;exact SeqAt.EqAt.tuple_int i tk t1 hu0
  |str i=>obtain⟨tk,rfl⟩:=rv;exact SeqAt.EqAt.tuple_str i tk t1 hu0
  |_=>exact zAN (ndx ne)
 |lst h1 mm1 q1=>
  rename_i a xs ds;cases ru;obtain⟨its,w1,t1⟩:=ok.lst h1;cases r2 with
  |lst h2 mm2 q2=>
   rename_i b ys es;cases rv;obtain⟨its2,w2,t2⟩:=ok.lst h2;by_cases hab:a=b
   .subst hab
    have e:=Rp.inj ok (Rp.lst h1 mm1 q1) (Rp.lst h2 mm2 q2) nd ne;rw[<-e,ql _ nd];exact zF2 _
   .simp only[lw]at hd
    obtain⟨k,rfl⟩:∃k,n=k+1:=⟨n-1,by lia⟩
    have l1:its.toArray.size=ds.length:=by rw[zAX,<-w1.length,q1.length]
    have l2:its2.toArray.size=es.length:=by rw[zAX,<-w2.length,q2.length]
    by_cases hl:its.toArray.size=its2.toArray.size
    .have z:=zGz t1 t2 hl hu0 (IH k rfl _ _ _ _ _ _ _ _ _ q1 q2 w1 w2 (by lia) (iT nd) (iT ne) (by show A.units+1+k<cLine;lia))
     have z':=jB (ds:=ds) (es:=es) l1 l2;rw[<-hl,zFu,beq_self_eq_true,zFW]at z';rw[z']at z;simp only[eqD];exact zEr hab z
    .have z:=zFm t1 t2 (by simpa using hl) hu0
     have z':=jB (ds:=ds) (es:=es) l1 l2;rw[beq_eq_false_iff_ne.mpr hl,zFA]at z';simp only[eqD];rw[<-z'];exact zEr hab z
  |tup h2 q2=>
   cases rv;obtain⟨its2,w2,t2⟩:=ok.tup h2;simp only[eqD];exact SeqAt.EqAt.list_tuple t1 t2 hu0
  |non=>cases rv;exact SeqAt.EqAt.list_none t1 hu0
  |bl b=>cases rv;exact SeqAt.EqAt.list_bool b t1 hu0
  |int i=>obtain⟨tk,rfl⟩:=rv;exact SeqAt.EqAt.list_int i tk t1 hu0
  |str i=>obtain⟨tk,rfl⟩:=rv;exact SeqAt.EqAt.list_str i tk t1 hu0
  |_=>exact zAN (ndx ne)
 |non=>
  cases ru;cases r2 with
  |tup h2 q2=>cases rv;obtain⟨_,_,t2⟩:=ok.tup h2;exact SeqAt.EqAt.none_tuple t2 hu0
  |lst h2 mm2 q2=>cases rv;obtain⟨_,_,t2⟩:=ok.lst h2;exact SeqAt.EqAt.none_list t2 hu0
  |dK _ _ _=>exact(bF ne).elim
  |dT _ _ _=>exact(bF ne).elim
  |set _ _ _ _=>exact(dw ne).elim
  |scr _=>exact(eE ne).elim
  |fn _=>exact(fX ne).elim
  |non=>cases rv;exact zF2 _
  |bl b=>cases rv;exact SeqAt.EqAt.none_bool b
  |int i=>obtain⟨tk,rfl⟩:=rv;exact SeqAt.EqAt.none_int i tk
  |str i=>obtain⟨tk,rfl⟩:=rv;exact SeqAt.EqAt.none_str i tk
 |bl a=>
  cases ru;cases r2 with
  |tup h2 q2=>cases rv;obtain⟨_,_,t2⟩:=ok.tup h2;exact SeqAt.EqAt.bool_tuple a t2 hu0
  |lst h2 mm2 q2=>cases rv;obtain⟨_,_,t2⟩:=ok.lst h2;exact SeqAt.EqAt.bool_list a t2 hu0
  |dK _ _ _=>exact(bF ne).elim
  |dT _ _ _=>exact(bF ne).elim
  |set _ _ _ _=>exact(dw ne).elim
  |scr _=>exact(eE ne).elim
  |fn _=>exact(fX ne).elim
  |non=>cases rv;exact SeqAt.EqAt.bool_none a
  |bl b=>cases rv;exact zGU a b
  |int i=>obtain⟨tk,rfl⟩:=rv;exact SeqAt.EqAt.bool_int a i tk
  |str i=>obtain⟨tk,rfl⟩:=rv;exact SeqAt.EqAt.bool_str a i tk
 |int a=>
  obtain⟨tu,rfl⟩:=ru;cases r2 with
  |tup h2 q2=>cases rv;obtain⟨_,_,t2⟩:=ok.tup h2;exact SeqAt.EqAt.int_tuple a tu t2 hu0
  |lst h2 mm2 q2=>cases rv;obtain⟨_,_,t2⟩:=ok.lst h2;exact SeqAt.EqAt.int_list a tu t2 hu0
  |dK _ _ _=>exact(bF ne).elim
  |dT _ _ _=>exact(bF ne).elim
  |set _ _ _ _=>exact(dw ne).elim
  |scr _=>exact(eE ne).elim
  |fn _=>exact(fX ne).elim
  |non=>cases rv;exact SeqAt.EqAt.int_none a tu
  |bl b=>cases rv;exact SeqAt.EqAt.int_bool a tu b
  |int i=>obtain⟨tk,rfl⟩:=rv;exact zGi a tu i tk
  |str i=>obtain⟨tk,rfl⟩:=rv;exact zGj a tu i tk
 |str a=>
  obtain⟨tu,rfl⟩:=ru;cases r2 with
  |tup h2 q2=>cases rv;obtain⟨_,_,t2⟩:=ok.tup h2;exact SeqAt.EqAt.str_tuple a tu t2 hu0
  |lst h2 mm2 q2=>cases rv;obtain⟨_,_,t2⟩:=ok.lst h2;exact SeqAt.EqAt.str_list a tu t2 hu0
  |dK _ _ _=>exact(bF ne).elim
  |dT _ _ _=>exact(bF ne).elim
  |set _ _ _ _=>exact(dw ne).elim
  |scr _=>exact(eE ne).elim
  |fn _=>exact(fX ne).elim
  |non=>cases rv;exact SeqAt.EqAt.str_none a tu
  |bl b=>cases rv;exact SeqAt.EqAt.str_bool a tu b
  |int i=>obtain⟨tk,rfl⟩:=rv;exact zGk a tu i tk
  |str i=>obtain⟨tk,rfl⟩:=rv;exact SeqAt.EqAt.str_str a tu i tk
 |_=>exact zAN (ndx nd)
def yo(ok:kO K H s)(n:Nat)(IH:aI8 K H s n):aI9 K H s n:=by
 intro A1 A2 xs ys ds es A us vs q1 q2 w1 w2 hd nd ne hu j h1 h2;have hj1:j<us.length:=by simpa using h1
 have hj2:j<vs.length:=by simpa using h2
 have hx:j<xs.length:=by rw[w1.length];exact hj1
 have hy:j<ys.length:=by rw[w2.length];exact hj2
 have ex:=zAH hx;have ey:=zAH hy;obtain⟨d,ed,rd⟩:=q1.get ex;obtain⟨e,ee,re⟩:=q2.get ey;obtain⟨u,eu,ru⟩:=w1.get ex;obtain⟨v,ev,rv⟩:=w2.get ey;have e1:us.toArray[j]=u:=by
  rw[zHU];exact zAl ((zAH hj1).symm.trans eu)
 have e2:vs.toArray[j]=v:=by
  rw[zHU];exact zAl ((zAH hj2).symm.trans ev)
 rw[e1,e2,ed,ee];exact IH _ _ _ _ _ _ _ _ _ rd re ru rv (zAi (yu (zBA ed)) hd) (pR (zBA ed) nd) (pR (zBA ee) ne) hu
theorem aIC(ok:kO K H s):∀n,aI8 K H s n
 |0=>ww ok 0 λ k h=>absurd h (by simp)
 |n+1=>ww ok (n+1) λ k h=>by
  have h':=zG6 h;subst h';exact yo ok n (aIC ok n)
def aMs(ok:kO K H s):∀{A1 A2:Addr->Prop} {x y:V} {d e:D} (n:Nat) {A:zAc} {u v:Value},Rp K A1 H x d->Rp K A2 H y e->RelV x u->RelV y v->lw d<=n->au d=true->au e=true->A.units+n<cLine->zCm A s u v (eqD d e)
 |_,_,_,_,_,_,n,A,u,v,r1,r2,ru,rv,hd,nd,ne,hu=>aIC ok n _ _ _ _ _ _ _ _ _ r1 r2 ru rv hd nd ne hu
def aLC(ok:kO K H s):∀{A1 A2:Addr->Prop} {xs ys:List V} {ds es:List D} (n:Nat) {A:zAc} {us vs:List Value},Rps K A1 H xs ds->Rps K A2 H ys es->Vals xs us->Vals ys vs->gA ds<=n->bH ds=true->bH es=true->A.units+n<cLine->
  ∀(j:Nat) (h1:j<us.toArray.size) (h2:j<vs.toArray.size),zCm A s us.toArray[j] vs.toArray[j] (match ds[j]?,es[j]? with|some a,some b=>eqD a b|_,_=>true)
 |_,_,xs,ys,ds,es,n,A,us,vs,q1,q2,w1,w2,hd,nd,ne,hu,j,h1,h2=>yo ok n (aIC ok n) _ _ _ _ _ _ _ _ _ q1 q2 w1 w2 hd nd ne hu j h1 h2
def aGg(ok:kO K H s)(n:Nat)(r1:Rp K A1 H x d)(r2:Rp K A2 H y e)(ru:RelV x u)(rv:RelV y v)(hd:lw d<=n)(nd:au d=true)(ne:au e=true)(hu:A.units+n<cLine):
  SeqAt.RcAt A s u v (eqD d e)/\SeqAt.RcNeAt A s u v (!eqD d e):=by
 have hu0:A.units<cLine:=by lia
 cases r1 with
 |tup h1 q1=>
  rename_i a xs ds;cases ru;obtain⟨its,w1,t1⟩:=ok.tup h1;cases r2 with
  |tup h2 q2=>
   rename_i b ys es;cases rv;obtain⟨its2,w2,t2⟩:=ok.tup h2;simp only[lw]at hd;obtain⟨k,rfl⟩:∃k,n=k+1:=⟨n-1,by lia⟩
   have he:=aLC ok (A:=A.in1) k q1 q2 w1 w2 (by lia) (iR nd) (iR ne) (by show A.units+1+k<cLine;lia);have z:=zGs t1 t2 hu0 he;have z2:=SeqAt.RcNeAt.tuples t1 t2 hu0 he;rw[jB (by rw[zAX,<-w1.length,q1.length]) (by rw[zAX,<-w2.length,q2.length])]at z z2;simp only[eqD];exact⟨z,z2⟩
  |lst h2 mm2 q2=>
   cases rv;obtain⟨its2,w2,t2⟩:=ok.lst h2;simp only[eqD];exact⟨SeqAt.RcAt.tuple_list t1 t2 hu0,SeqAt.RcNeAt.tuple_list t1 t2 hu0⟩
  |non=>cases rv;exact⟨SeqAt.RcAt.tuple_none t1 hu0,SeqAt.RcNeAt.tuple_none t1 hu0⟩
  |bl b=>cases rv;exact⟨SeqAt.RcAt.tuple_bool b t1 hu0,SeqAt.RcNeAt.tuple_bool b t1 hu0⟩
  |int i=>obtain⟨tk,rfl⟩:=rv;exact⟨SeqAt.RcAt.tuple_int i tk t1 hu0,SeqAt.RcNeAt.tuple_int i tk t1 hu0⟩
  |str i=>obtain⟨tk,rfl⟩:=rv;exact⟨SeqAt.RcAt.tuple_str i tk t1 hu0,SeqAt.RcNeAt.tuple_str i tk t1 hu0⟩
  |_=>exact zAN (ndx ne)
 |lst h1 mm1 q1=>
  rename_i a xs ds;cases ru;obtain⟨its,w1,t1⟩:=ok.lst h1;cases r2 with
  |lst h2 mm2 q2=>
   rename_i b ys es;cases rv;obtain⟨its2,w2,t2⟩:=ok.lst h2;simp only[lw]at hd;obtain⟨k,rfl⟩:∃k,n=k+1:=⟨n-1,by lia⟩
   have l1:its.toArray.size=ds.length:=by rw[zAX,<-w1.length,q1.length]
   have l2:its2.toArray.size=es.length:=by rw[zAX,<-w2.length,q2.length]
   have z':=jB (ds:=ds) (es:=es) l1 l2;by_cases hl:its.toArray.size=its2.toArray.size
   .have he:=aLC ok (A:=A.in1) k q1 q2 w1 w2 (by lia) (iT nd) (iT ne) (by show A.units+1+k<cLine;lia)
    have z:=zGz t1 t2 hl hu0 he;have z2:=SeqAt.RcNeAt.lists t1 t2 hl hu0 he;rw[<-hl,zFu,beq_self_eq_true,zFW]at z';rw[z']at z z2;simp only[eqD];exact⟨z,z2⟩
   .rw[beq_eq_false_iff_ne.mpr hl,zFA]at z'
    simp only[eqD];rw[<-z'];exact⟨zFm t1 t2 (by simpa using hl) hu0,SeqAt.RcNeAt.lists_lengths t1 t2 (by simpa using hl) hu0⟩
  |tup h2 q2=>
   cases rv;obtain⟨its2,w2,t2⟩:=ok.tup h2;simp only[eqD];exact⟨SeqAt.RcAt.list_tuple t1 t2 hu0,SeqAt.RcNeAt.list_tuple t1 t2 hu0⟩
  |non=>cases rv;exact⟨SeqAt.RcAt.list_none t1 hu0,SeqAt.RcNeAt.list_none t1 hu0⟩
  |bl b=>cases rv;exact⟨SeqAt.RcAt.list_bool b t1 hu0,SeqAt.RcNeAt.list_bool b t1 hu0⟩
  |int i=>obtain⟨tk,rfl⟩:=rv;exact⟨SeqAt.RcAt.list_int i tk t1 hu0,SeqAt.RcNeAt.list_int i tk t1 hu0⟩
  |str i=>obtain⟨tk,rfl⟩:=rv;exact⟨SeqAt.RcAt.list_str i tk t1 hu0,SeqAt.RcNeAt.list_str i tk t1 hu0⟩
  |_=>exact zAN (ndx ne)
 |non=>
  cases ru;cases r2 with
  |tup h2 q2=>cases rv;obtain⟨_,_,t2⟩:=ok.tup h2;exact⟨SeqAt.RcAt.none_tuple t2 hu0,SeqAt.RcNeAt.none_tuple t2 hu0⟩
  |lst h2 mm2 q2=>cases rv;obtain⟨_,_,t2⟩:=ok.lst h2;exact⟨SeqAt.RcAt.none_list t2 hu0,SeqAt.RcNeAt.none_list t2 hu0⟩
  |dK _ _ _=>exact(bF ne).elim
  |dT _ _ _=>exact(bF ne).elim
  |set _ _ _ _=>exact(dw ne).elim
  |scr _=>exact(eE ne).elim
  |fn _=>exact(fX ne).elim
  |non=>cases rv;exact⟨SeqAt.RcAt.none_none,SeqAt.RcNeAt.none_none⟩
  |bl b=>cases rv;exact⟨SeqAt.RcAt.none_bool b,SeqAt.RcNeAt.none_bool b⟩
  |int i=>obtain⟨tk,rfl⟩:=rv;exact⟨SeqAt.RcAt.none_int i tk,SeqAt.RcNeAt.none_int i tk⟩
  |str i=>obtain⟨tk,rfl⟩:=rv;exact⟨SeqAt.RcAt.none_str i tk,SeqAt.RcNeAt.none_str i tk⟩
 |bl a=>
  cases ru;cases r2 with
  |tup h2 q2=>cases rv;obtain⟨_,_,t2⟩:=ok.tup h2;exact⟨SeqAt.RcAt.bool_tuple a t2 hu0,SeqAt.RcNeAt.bool_tuple a t2 hu0⟩
  |lst h2 mm2 q2=>cases rv;obtain⟨_,_,t2⟩:=ok.lst h2;exact⟨SeqAt.RcAt.bool_list a t2 hu0,SeqAt.RcNeAt.bool_list a t2 hu0⟩
  |dK _ _ _=>exact(bF ne).elim
  |dT _ _ _=>exact(bF ne).elim
  |set _ _ _ _=>exact(dw ne).elim
  |scr _=>exact(eE ne).elim
  |fn _=>exact(fX ne).elim
  |non=>cases rv;exact⟨SeqAt.RcAt.bool_none a,SeqAt.RcNeAt.bool_none a⟩
  |bl b=>cases rv;exact⟨SeqAt.RcAt.bool_bool a b,SeqAt.RcNeAt.bool_bool a b⟩
  |int i=>obtain⟨tk,rfl⟩:=rv;exact⟨SeqAt.RcAt.bool_int a i tk,SeqAt.RcNeAt.bool_int a i tk⟩
  |str i=>obtain⟨tk,rfl⟩:=rv;exact⟨SeqAt.RcAt.bool_str a i tk,SeqAt.RcNeAt.bool_str a i tk⟩
 |int a=>
  obtain⟨tu,rfl⟩:=ru;cases r2 with
  |tup h2 q2=>cases rv;obtain⟨_,_,t2⟩:=ok.tup h2;exact⟨SeqAt.RcAt.int_tuple a tu t2 hu0,SeqAt.RcNeAt.int_tuple a tu t2 hu0⟩
  |lst h2 mm2 q2=>cases rv;obtain⟨_,_,t2⟩:=ok.lst h2;exact⟨SeqAt.RcAt.int_list a tu t2 hu0,SeqAt.RcNeAt.int_list a tu t2 hu0⟩
  |dK _ _ _=>exact(bF ne).elim
  |dT _ _ _=>exact(bF ne).elim
  |set _ _ _ _=>exact(dw ne).elim
  |scr _=>exact(eE ne).elim
  |fn _=>exact(fX ne).elim
  |non=>cases rv;exact⟨SeqAt.RcAt.int_none a tu,SeqAt.RcNeAt.int_none a tu⟩
  |bl b=>cases rv;exact⟨SeqAt.RcAt.int_bool a tu b,SeqAt.RcNeAt.int_bool a tu b⟩
  |int i=>obtain⟨tk,rfl⟩:=rv;exact⟨SeqAt.RcAt.int_int a tu i tk,SeqAt.RcNeAt.int_int a tu i tk⟩
  |str i=>obtain⟨tk,rfl⟩:=rv;exact⟨SeqAt.RcAt.int_str a tu i tk,SeqAt.RcNeAt.int_str a tu i tk⟩
 |str a=>
  obtain⟨tu,rfl⟩:=ru;cases r2 with
  |tup h2 q2=>cases rv;obtain⟨_,_,t2⟩:=ok.tup h2;exact⟨SeqAt.RcAt.str_tuple a tu t2 hu0,SeqAt.RcNeAt.str_tuple a tu t2 hu0⟩
  |lst h2 mm2 q2=>cases rv;obtain⟨_,_,t2⟩:=ok.lst h2;exact⟨SeqAt.RcAt.str_list a tu t2 hu0,SeqAt.RcNeAt.str_list a tu t2 hu0⟩
  |dK _ _ _=>exact(bF ne).elim
  |dT _ _ _=>exact(bF ne).elim
  |set _ _ _ _=>exact(dw ne).elim
  |scr _=>exact(eE ne).elim
  |fn _=>exact(fX ne).elim
  |non=>cases rv;exact⟨SeqAt.RcAt.str_none a tu,SeqAt.RcNeAt.str_none a tu⟩
  |bl b=>cases rv;exact⟨SeqAt.RcAt.str_bool a tu b,SeqAt.RcNeAt.str_bool a tu b⟩
  |int i=>obtain⟨tk,rfl⟩:=rv;exact⟨SeqAt.RcAt.str_int a tu i tk,SeqAt.RcNeAt.str_int a tu i tk⟩
  |str i=>obtain⟨tk,rfl⟩:=rv;exact⟨SeqAt.RcAt.str_str a tu i tk,SeqAt.RcNeAt.str_str a tu i tk⟩
 |_=>exact zAN (ndx nd)
end
section
variable{K:zAA}{H:Hp}{s:zAE}
open Classical in
def oU(K:zAA)(H:Hp)(d:D)(u:Value):Bool:=if h:∃e,au e=true/\∃y,RelV y u/\Rp K (λ _=>True) H y e then eqD (choose h) d else false
def aE7(ok:kO K H s)(r:RelV y u)(h:Rp K A H y e)(ne:au e=true):oU K H d u=eqD e d:=by
 have hx:∃e,au e=true/\∃y,RelV y u/\Rp K (λ _=>True) H y e:=⟨e,ne,y,r,h.wk λ _ _ _ _=>trivial⟩
 unfold oU;rw[dif_pos hx];obtain⟨n',y',r',h'⟩:=zGO hx;have e1:=RelV.inj r r';subst e1;rw[Rp.inj ok h' h n' ne]
def inD(d:D)(es:List D):Bool:=es.any λ e=>eqD e d
def rD(ok:kO K H s):∀{A:Addr->Prop} {xs:List V} {es:List D} {us:List Value},Rps K A H xs es->Vals xs us->bH es=true->us.any (oU K H d)=inD d es:=by
 intro A xs es us h v n;induction v generalizing es with
 |nil=>cases h;rfl
 |cons k t ih=>
  cases h with
  |cons h r=>
   simp only[bH,zAL]at n;unfold inD;rw[zGq,zGq,aE7 ok k h n.1,ih r n.2];rfl
def ux(ok:kO K H s)(rx:Rp K A0 H x d)(rv:RelV x v)(hu:A.units+n<cLine)(nd:au d=true):∀{A1:Addr->Prop} {xs:List V} {es:List D} {us:List Value},Rps K A1 H xs es->Vals xs us->gA es<=n->bH es=true->∀u∈us,zCm A s u v (oU K H d u):=by
 intro A1 xs es us h v' hd ne u hm;induction v' generalizing es with
 |nil=>cases hm
 |cons k t ih=>
  cases h with
  |cons h r=>
   simp only[gA]at hd;simp only[bH,zAL]at ne;rcases zAP.mp hm with z|z
   .subst z
    rw[aE7 ok k h ne.1];exact aMs ok n h rx k rv (zAi (zIv _ _) hd) ne.1 nd hu
   .exact ih r (zAi (zIp _ _) hd) ne.2 z
end
section
variable{X:Cx}
def aGk(K:zAA)(neg:Bool):R2:=λ x y H Q=>∃A B d e,Rp K A H x d/\Rp K B H y e/\lw d<=60/\au d=true/\au e=true/\Q (.bl (if neg then !eqD d e else eqD d e)) H
def aMO(hu:X.A.units+64<cLine):OpR X (zBH .Eq) (aGk X.K false):=by
 intro kX s Z H x y v u Q I rx ry h;obtain⟨A,B,d,e,r1,r2,hd,nd,ne,q⟩:=h;exact(aGg (Inv.seqOk I) 60 r1 r2 rx ry hd nd ne (by lia)).1 X.prog X.w X.xe _ ⟨.bl (eqD d e),H,I,rfl,q⟩
def aMG(hu:X.A.units+64<cLine):OpR X (zBH .NotEq) (aGk X.K true):=by
 intro kX s Z H x y v u Q I rx ry h;obtain⟨A,B,d,e,r1,r2,hd,nd,ne,q⟩:=h;exact(aGg (Inv.seqOk I) 60 r1 r2 rx ry hd nd ne (by lia)).2 X.prog X.w X.xe _ ⟨.bl (!eqD d e),H,I,rfl,q⟩
def aGj(K:zAA)(neg:Bool):R2:=λ x y H Q=>∃A B d a es,Rp K A H x d/\y= .ref a/\(Rp K B H (.ref a) (.lst es)\/Rp K B H (.ref a) (.tup es))/\gA es<=60/\au d=true/\bH es=true/\Q (.bl (if neg then !inD d es else inD d es)) H
def aMN(hu:X.A.units+64<cLine):OpR X (zBH .In) (aGj X.K false):=by
 intro kX s Z H x y v u Q I rx ry h;obtain⟨A,B,d,a,es,rd,rfl,ra,hd,nd,ne,q⟩:=h;cases ry;have ok:=Inv.seqOk I;have hu1:X.A.in1.units+60<cLine:=by show X.A.units+1+60<cLine;lia
 rcases ra with ra|ra
 .cases ra with
  |lst ha _ r=>
   obtain⟨its,rv,tl⟩:=ok.lst ha;refine SeqAt.in_listAt (oU X.K H d) tl (λ w hw=>ux ok rd rx hu1 nd r rv hd ne w (by simpa using hw)) ⟨.bl _,H,I,rfl,?_⟩;rw[show its.toArray.any (oU X.K H d)=its.any (oU X.K H d)by simp,rD ok r rv ne];exact q
 .cases ra with
  |tup ha r=>
   obtain⟨its,rv,tl⟩:=ok.tup ha;refine SeqAt.in_tupleAt (oU X.K H d) tl (λ w hw=>ux ok rd rx hu1 nd r rv hd ne w (by simpa using hw)) ⟨.bl _,H,I,rfl,?_⟩;rw[show its.toArray.any (oU X.K H d)=its.any (oU X.K H d)by simp,rD ok r rv ne];exact q
def aFO(hu:X.A.units+64<cLine):OpR X (zBH .NotIn) (aGj X.K true):=by
 intro kX s Z H x y v u Q I rx ry h;obtain⟨A,B,d,a,es,rd,rfl,ra,hd,nd,ne,q⟩:=h;cases ry;have ok:=Inv.seqOk I;have hu1:X.A.in1.units+60<cLine:=by show X.A.units+1+60<cLine;lia
 rcases ra with ra|ra
 .cases ra with
  |lst ha _ r=>
   obtain⟨its,rv,tl⟩:=ok.lst ha;refine SeqAt.notIn_listAt (oU X.K H d) tl (λ w hw=>ux ok rd rx hu1 nd r rv hd ne w (by simpa using hw)) ⟨.bl _,H,I,rfl,?_⟩;rw[show its.toArray.any (oU X.K H d)=its.any (oU X.K H d)by simp,rD ok r rv ne];exact q
 .cases ra with
  |tup ha r=>
   obtain⟨its,rv,tl⟩:=ok.tup ha;refine SeqAt.notIn_tupleAt (oU X.K H d) tl (λ w hw=>ux ok rd rx hu1 nd r rv hd ne w (by simpa using hw)) ⟨.bl _,H,I,rfl,?_⟩;rw[show its.toArray.any (oU X.K H d)=its.any (oU X.K H d)by simp,rD ok r rv ne];exact q
end
section
variable{K:zAA}
def eqR(neg:Bool):D->D->Rs D:=λ d e=>if decide (lw d<=60)&&au d&&au e then .ok (.bl (if neg then !eqD d e else eqD d e))else .st
def inR(neg:Bool):D->D->Rs D:=λ d e=>match e with
 | .lst es=>if decide (gA es<=60)&&au d&&bH es then .ok (.bl (if neg then !inD d es else inD d es))else .st
 | .tup es=>if decide (gA es<=60)&&au d&&bH es then .ok (.bl (if neg then !inD d es else inD d es))else .st
 |_=>.st
def os_eq:OpS K (aGk K n) (eqR n):=by
 intro A x y d e H Q z rx ry ez q;unfold eqR at ez;split at ez
 .rename_i h
  simp only[zAL,decide_eq_true_eq]at h;cases ez;exact⟨A,A,d,e,rx,ry,h.1.1,h.1.2,h.2,q _ H (aO.refl H) (.bl _)⟩
 .cases ez
def aKv:OpS K (aGj K n) (inR n):=by
 intro A x y d e H Q z rx ry ez q;unfold inR at ez;split at ez
 .split at ez
  .rename_i h
   simp only[zAL,decide_eq_true_eq]at h;cases ez;cases ry with
   |lst ha mm r=>exact⟨A,A,d,_,_,rx,rfl,.inl (.lst ha mm r),h.1.1,h.1.2,h.2,q _ H (aO.refl H) (.bl _)⟩
  .cases ez
 .split at ez
  .rename_i h
   simp only[zAL,decide_eq_true_eq]at h;cases ez;cases ry with
   |tup ha r=>exact⟨A,A,d,_,_,rx,rfl,.inr (.tup ha r),h.1.1,h.1.2,h.2,q _ H (aO.refl H) (.bl _)⟩
  .cases ez
 .cases ez
def aHn:∀x y z,eqR n x y= .ok z->imm z=true:=by
 intro x y z e;unfold eqR at e;split at e
 .cases e;rfl
 .cases e
end
section
variable{K:zAA}
def boolsOf:List D->Option (List Bool)
 |[]=>some []
 | .bl i::r=>(boolsOf r).map (i::·)
 |_=>none
theorem qz:∀{l:List D} {ns:List Bool},boolsOf l=some ns->l=ns.map .bl
 |[],ns,h=>by cases h;rfl
 | .bl i::r,ns,h=>by
  simp only[boolsOf,zDW]at h;obtain⟨ms,h1,rfl⟩:=h;rw[qz h1];rfl
 | .non::_,_,h=>by cases h
 | .int _::_,_,h=>by cases h
 | .str _::_,_,h=>by cases h
 | .tup _::_,_,h=>by cases h
 | .lst _::_,_,h=>by cases h
 | .dct _ _::_,_,h=>by cases h
 | .set _::_,_,h=>by cases h
 | .scr _::_,_,h=>by cases h
theorem uF:∀ns:List Bool,boolsOf (ns.map .bl)=some ns
 |[]=>rfl
 |n::ns=>by simp only[zAM,boolsOf,uF ns,zDL]
theorem zB{X:Cx}:∀{bs:List Bool} {us:List Value},Vals (bs.map V.bl) us->LSm.BoolsAre us bs
 |[],_,.nil=>.nil
 |b::bs,_,.cons r t=>by
  have e:_=zCn b:=r;subst e;exact .cons b (zB (X:=X) t)
theorem Rps.bools_of:∀{xs:List V} {bs:List Bool},Rps K A H xs (bs.map D.bl)->xs=bs.map V.bl
 |_,[],.nil=>rfl
 |_,n::ns,.cons h r=>by
  cases h;rw[zAM,Rps.bools_of r]
def aAg(f:List Bool->Bool):List D->Rs D
 |[.lst l]=>match boolsOf l with
  |some bs=>.ok (.bl (f bs))
  |none=>.st
 |_=>.st
def aIS{X:Cx}(hc:X.calm=true):cg X (.builtin "all") (λ xs H Q=>∃(p:Addr) (bs:List Bool),xs=[.ref p]/\H p=some (.lst (bs.map V.bl))/\Q (.bl (bs.all id)) H):=by
 intro kX s Z H xs us Q I r h;obtain⟨p,bs,rfl,hp,q⟩:=h;obtain⟨u,rfl,ru⟩:=vals1 r;cases ru;obtain⟨its,rv,pl,hz⟩:=I.list (SqL.of hp);have hb:=zB (X:=X) rv;have hl:=pl.isList;have hlt:p<s.heap.objs.size:=by obtain⟨_,e,_⟩:=hl;exact zAT e
 refine call_all_walk (zEh hl ?_);refine⟨s.heap.objs.size,[s.heap.objs.size,p],[s.heap.objs.size],its.toArray.size,_,_,λ i=>(bs[i]?).getD true,rfl,zHw (A:=X.A.in1) (I.ok.hd hc) _ p (zA6 hlt) its.toArray,
  ⟨⟨_,zAS _ rfl,rfl,rfl⟩,hl.push _⟩,λ i v s' Q' E' hP hQ=>?_,λ h' tk hk=>?_⟩
 .obtain⟨b,e,rfl⟩:=hb.get i v (by simpa using hP)
  simp only[e,Option.getD_some]at hQ;exact zBe hQ
 .have e:((zAj its.toArray.size).all λ i=>(bs[i]?).getD true)=bs.all id:=by
   rw[zAX,hb.length];exact LSm.range_all bs
  rw[e];exact⟨.bl _,H,I.kept (LSm.kept_iter hk),rfl,q⟩
def aMx:rG K (λ xs H Q=>∃(p:Addr) (bs:List Bool),xs=[.ref p]/\H p=some (.lst (bs.map V.bl))/\Q (.bl (f bs)) H) (aAg f):=by
 intro A xs ds H Q z r ez q;unfold aAg at ez;split at ez
 .split at ez
  .rename_i l bs e
   cases ez
   have:=qz e
   subst this;cases r with
   |cons h r=>
    cases r;cases h with
    |lst h m r=>
     have:=r.bools_of
     subst this;exact⟨_,bs,rfl,h,q _ H (aO.refl H) (.bl _)⟩
  .cases ez
 .cases ez
def aJx:∀x z,aAg f x= .ok z->imm z=true:=by
 intro x z e;unfold aAg at e;split at e
 .split at e
  .cases e;rfl
  .cases e
 .cases e
def mmD(f:Int->Int->Int):List D->Rs D
 |[.int i,.int j]=>.ok (.int (f i j))
 |_=>.st
def aLF:rG K (λ xs H Q=>∃i j,xs=[.int i,.int j]/\Q (.int (f i j)) H) (mmD f):=by
 intro A xs ds H Q z r ez q;unfold mmD at ez;split at ez
 .cases ez
  cases r with
  |cons h r=>
   cases h;cases r with
   |cons h r=>
    cases h;cases r;exact⟨_,_,rfl,q _ H (aO.refl H) (.int _)⟩
 .cases ez
def aHj:∀x z,mmD f x= .ok z->imm z=true:=by
 intro x z e;unfold mmD at e;split at e
 .cases e;rfl
 .cases e
def j6:List D->Rs D
 |[.lst l]=>.ok (.tup l)
 |[.tup l]=>.ok (.tup l)
 |_=>.st
def aIN:rG K (λ xs H Q=>∃p ys,xs=[.ref p]/\((SqL K H p ys/\∀l,H l=none->Q (.ref l) (upd H l (.tup ys)))\/(SqT K H p ys/\Q (.ref p) H))) j6:=by
 intro A xs ds H Q z r ez q;unfold j6 at ez;split at ez
 .cases ez
  cases r with
  |cons h r=>
   cases r;cases h with
   |lst h m r=>exact⟨_,_,rfl,.inl ⟨SqL.of h,λ l hl=>q _ _ (bQ hl _) (.tup (SqT.of aa) ((r.wk λ _ _ _ z=>.inr z.1).up (bQ hl _)))⟩⟩
 .cases ez
  cases r with
  |cons h r=>
   cases r;cases h with
   |tup h r=>exact⟨_,_,rfl,.inr ⟨h,q _ H (aO.refl H) (.tup h (r.wk λ _ _ _ z=>.inr z))⟩⟩
 .cases ez
end
section
variable{C:Ct}{pos p2:Pos}{m:Mode}{a e:Expr}{fe:En->Rs D}
def aGb:D->Rs D
 | .tup l=>.ok (.tup l.reverse)
 |_=>.st
def aKf(K:zAA)(te:TE):TE:=λ Z H Q=>te Z H λ x H1=>∃a xs,x= .ref a/\SqT K H1 a xs/\∀c H',aO H1 H'->H' c=some (.tup xs.reverse)->Q (.ref c) H'
def aJR(he:PE X e te):PE X (.Subscript e (.Slice none none (some (.UnaryOp .USub (.Constant (.int 1) j p3) p4)) p2) pos) (aKf X.K te):=by
 intro kX s Z H Q I h;refine zJ1 (thn (he kX s Z H _ I h) λ v s1 ⟨x,H1,I1,r1,q1⟩=>?_);obtain⟨a,xs,rfl,hx,q⟩:=q1;cases r1;have hm:PE X (.UnaryOp .USub (.Constant (.int 1) j p3) p4) (tUn (rU λ i=>.int (-i)) (tC (.int 1))):=aKt aGA aCs;refine wpAny_Slice ?_;rw[evalPart_none];refine zAI (zAI ?_);rw[evalPart_some];refine thn (hm kX s1 Z H1 (λ z H2=>z= .int (-1)/\H2=H1) I1 ⟨1,rfl,rfl,rfl⟩) λ u s2 ⟨z,H2,I2,r2,ez,eH⟩=>?_
 subst ez eH;obtain⟨tk,rfl⟩:=r2;have I4:Inv X kX Z H2 {s2 with heap:=s2.heap.push {cls:=.type "slice",data:=.fields #[.none,.none,.int (-1) tk]}}:=I2.kept (t':=s2.toks) λ b ob q=>zAC _ q
 obtain⟨its,r,ht,hz⟩:=I4.tuple hx;have kK:its.toArray.size=xs.length:=by rw[zAX];exact r.length.symm
 show wpAny (model X.prog X.w) X.A (zIB e _ (.ref a) (.ref s2.heap.objs.size)) (EP X kX Z Q) X.xe _;refine tail_any (ops:=[.ref a,.ref s2.heap.objs.size]) ht.typeIs zDE.lookup ?_ (by with_unfolding_all rfl);refine HT.qi ht (zJE ..) ?_ (by rw[kK];exact hz);refine⟨.ref _,_,I4.laid (t':=s2.toks) (o:=.tup xs.reverse) (λ b ob q=>zAC _ q) (zAQ _) ?_,rfl,q _ _ (bQ (I4.hok.fresh (zAQ _)) _) aa⟩;exact⟨⟨by rw[zHe];exact hz,NoD.push _⟩,_,r.reverse,zGB _ _⟩
def aL3(h:SE C m e fe):SE C m (.Subscript e (.Slice none none (some (.UnaryOp .USub (.Constant (.int 1) j p3) p4)) p2) pos) (op1 aGb fe):=by
 obtain⟨t,h1,h2⟩:=h;refine⟨aKf C.K t,λ i=>by rw[<-C.hK i];exact aJR (h1 i),λ U Z H Y lab Q R W=>h2 U Z H Y lab _ R (W.bd.imp λ d _ w x H1 s1 r1=>?_)⟩;obtain⟨z,ez,w⟩:=w.okD;cases d with
 |tup l=>
  cases ez;cases r1 with
  |tup h r=>exact⟨_,_,rfl,h,λ c H' s hc=>w _ H' (s1.trans s) (.tup (SqT.of hc) (r.reverse.up s))⟩
 |_=>cases ez
end
section
variable{C:Ct}{pos p:Pos}{m m1 m2 m3:Mode}{a b c e:Expr}{fa fb fc:En->Rs D}{ga:En->Rs (List D)}
def Ct.u0(C:Ct)(i:C.ι):(C.X i).A.units<cLine:=(C.room i).units0
def Ct.u64(C:Ct)(i:C.ι):(C.X i).A.units+64<cLine:=(C.room i).units
def Ct.ltR(C:Ct)(i:C.ι):OpR (C.X i) (zBH .Lt) (λ x y H Q=>rI0 (λ i j=>.bl (decide (i<j))) x y H Q\/aJA C.K x y H Q):=by have h:=aMJ (X:=C.X i) (C.u0 i);rw[C.hK i]at h;exact h
def Ct.leR(C:Ct)(i:C.ι):OpR (C.X i) (zBH .LtE) (λ x y H Q=>rI0 (λ i j=>.bl (decide (i<=j))) x y H Q\/aJB C.K x y H Q):=by have h:=aML (X:=C.X i) (C.u0 i);rw[C.hK i]at h;exact h
def Ct.eqRl(C:Ct)(i:C.ι):OpR (C.X i) (zBH .Eq) (aGk C.K false):=by have h:=aMO (X:=C.X i) (C.u64 i);rw[C.hK i]at h;exact h
def Ct.neRl(C:Ct)(i:C.ι):OpR (C.X i) (zBH .NotEq) (aGk C.K true):=by have h:=aMG (X:=C.X i) (C.u64 i);rw[C.hK i]at h;exact h
def Ct.inRl(C:Ct)(i:C.ι):OpR (C.X i) (zBH .In) (aGj C.K false):=by have h:=aMN (X:=C.X i) (C.u64 i);rw[C.hK i]at h;exact h
def Ct.ninRl(C:Ct)(i:C.ι):OpR (C.X i) (zBH .NotIn) (aGj C.K true):=by have h:=aFO (X:=C.X i) (C.u64 i);rw[C.hK i]at h;exact h
def Ct.aOG(C:Ct)(i:C.ι):OpR (C.X i) (zBv .Add) (aGm C.K):=by have h:=aJ6 (X:=C.X i);rw[C.hK i]at h;exact h
def rM:D->D->Rs D:=i2 (λ _ _=>true) λ i j=>.int (i-j)
def tU:D->D->Rs D:=i2 (λ _ j=>decide (0<j)&&decide (j<1073741824)) λ i j=>.int (i / j)
def sS:D->D->Rs D:=i2 (λ _ j=>decide (0<j)) λ i j=>.int (i%j)
def aLk:D->D->Rs D:=i2 (λ i j=>decide (0<=j)&&decide (j<=1000000)&&decide (i.natAbs<2^64)) λ i j=>.int (i^j.toNat)
def gB(ha:SE C m1 a fa)(hb:SE C m2 b fb):SE C (jn m1 m2) (.BinOp a .Add b pos) (op2 fZ fa fb):=oX C.aOG aMA ha hb
def rQ(ha:SE C m1 a fa)(hb:SE C m2 b fb):SE C (jn m1 m2) (.BinOp a .Mult b pos) (op2 jr fa fb):=oX (λ _=>aJ2) aLz ha hb
def z8(ha:SE C m1 a fa)(hb:SE C m2 b fb):SE C (some []) (.BinOp a .Sub b pos) (op2 rM fa fb):=dR (oX (λ _=>aMB) aEH ha hb) λ _ _ h=>gj pW h
def aDo(ha:SE C m1 a fa)(hb:SE C m2 b fb):SE C (some []) (.BinOp a .FloorDiv b pos) (op2 tU fa fb):=dR (oX (λ _=>aJ3) (vf λ i j h=>by simpa[aOR]using h) ha hb) λ _ _ h=>gj pW h
def rR(ha:SE C m1 a fa)(hb:SE C m2 b fb):SE C (some []) (.BinOp a .Mod b pos) (op2 sS fa fb):=dR (oX (λ _=>aMI) (vf λ i j h=>by simpa using h) ha hb) λ _ _ h=>gj pW h
def aL4(ha:SE C m1 a fa)(hb:SE C m2 b fb):SE C (some []) (.BinOp a .Pow b pos) (op2 aLk fa fb):=dR (oX (λ _=>aMF) (vf λ i j h=>by simp only[zAL,decide_eq_true_eq]at h;exact⟨h.1.1,h.1.2,h.2⟩) ha hb) λ _ _ h=>gj pW h
def aCa(ha:SE C m a fa):SE C (some []) (.UnaryOp .USub a pos) (op1 xu fa):=dR (aN8 (λ _=>aGA) aLN ha) λ _ _ h=>aJu aJv h
def aNb(ha:SE C m1 a fa)(hb:SE C m2 b fb):SE C (some []) (.Compare a [.Lt] [b] pos) (op2 ltD fa fb):=dR (aCc C.ltR aHM ha hb) λ _ _ h=>gj aHl h
def aDp(ha:SE C m1 a fa)(hb:SE C m2 b fb):SE C (some []) (.Compare a [.Eq] [b] pos) (op2 (eqR false) fa fb):=dR (aCc C.eqRl os_eq ha hb) λ _ _ h=>gj aHn h
def aNa(ha:SE C m1 a fa)(hb:SE C m2 b fb):SE C (some []) (.Compare a [.NotEq] [b] pos) (op2 (eqR true) fa fb):=dR (aCc C.neRl os_eq ha hb) λ _ _ h=>gj aHn h
def yQ(ha:SE C m1 a fa)(hb:SE C m2 b fb):ST C (.Compare a [.Lt] [b] pos) (tsb (op2 ltD fa fb)):=mH C.ltR aHM ha hb
def aN2(ha:SE C m1 a fa)(hb:SE C m2 b fb):ST C (.Compare a [.LtE] [b] pos) (tsb (op2 leD fa fb)):=mH C.leR aEG ha hb
def aN4(ha:SE C m1 a fa)(hb:SE C m2 b fb):ST C (.Compare a [.Gt] [b] pos) (tsb (op2 gtD fa fb)):=mH (λ _=>aNn) aAD ha hb
def aN5(ha:SE C m1 a fa)(hb:SE C m2 b fb):ST C (.Compare a [.GtE] [b] pos) (tsb (op2 geD fa fb)):=mH (λ _=>aNo) aAD ha hb
def aDi(ha:SE C m1 a fa)(hb:SE C m2 b fb):ST C (.Compare a [.Eq] [b] pos) (tsb (op2 (eqR false) fa fb)):=mH C.eqRl os_eq ha hb
def yP(ha:SE C m1 a fa)(hb:SE C m2 b fb):ST C (.Compare a [.NotEq] [b] pos) (tsb (op2 (eqR true) fa fb)):=mH C.neRl os_eq ha hb
def aN3(ha:SE C m1 a fa)(hb:SE C m2 b fb)(hm:zCN .In b=false:=by with_unfolding_all rfl):ST C (.Compare a [.In] [b] pos) (tsb (op2 (inR false) fa fb)):=mH C.inRl aKv ha hb hm
def aGM(ha:SE C m1 a fa)(hb:SE C m2 b fb)(hm:zCN .NotIn b=false:=by with_unfolding_all rfl):ST C (.Compare a [.NotIn] [b] pos) (tsb (op2 (inR true) fa fb)):=mH C.ninRl aKv ha hb hm
def aIs(ha:SE C m1 a fa)(hb:SE C m2 b fb)(hc:SE C m3 c fc)(hm:zIj [.LtE,.LtE] [b,c]=false:=by with_unfolding_all rfl):SE C (some []) (.Compare a [.LtE,.LtE] [b,c] pos) (chD leD leD fa fb fc):=aAy C.leR aEG C.leR aEG aMf ha hb hc hm
def aIr(ha:SE C m1 a fa)(hb:SE C m2 b fb)(hc:SE C m3 c fc)(hm:zIj [.LtE,.Lt] [b,c]=false:=by with_unfolding_all rfl):SE C (some []) (.Compare a [.LtE,.Lt] [b,c] pos) (chD leD ltD fa fb fc):=aAy C.leR aEG C.ltR aHM aHl ha hb hc hm
def aL(ha:SE C m1 a fa)(hb:SE C m2 b fb)(hp:vA b:=by exact λ _ _=>rfl):SE C m1 (.Subscript a b pos) (op2 ixD fa fb):=by
 obtain⟨t,h1,h2⟩:=ha;obtain⟨u,k1,k2⟩:=hb;refine⟨tOp (rIx C.K) t u,λ i=>by rw[<-C.hK i];exact aHD aMb (h1 i) (k1 i) hp,λ U Z H Y lab Q R W=>?_⟩;refine h2 U Z H Y lab _ R (W.bd.imp λ d _ w x H1 s1 r1=>?_);refine k2 U Z H1 Y lab _ (R.up s1) (w.bd.imp λ e _ w y H2 s2 r2=>?_);obtain⟨z,ez,w⟩:=w.okD;have hi:imm e=true:=by
  unfold ixD at ez;split at ez<;>first|rfl|cases ez
 refine aNk (fpM m1 lab H) x y d e H2 Q z (r1.up s2) (r2.imm hi) ez λ v H' s r=>w v H' ((s1.trans s2).trans s) (r.wk λ p o _ q=>?_)
 rcases q with q|q
 .exact .inl ((s1.trans s2).free q)
 .exact q
def pG(hm:C.mg "len"=none)(ha:SA C m [a] ga)(he:∀i,zA5 [a] (C.X i).env=[(false,eval a (C.X i).env)]:=by intro _;rfl)(hg:∀i,Gl (C.X i) "len":=by intro _;rfl):SE C (some []) (.Call (.Name "len" p) [a] [] pos) (opA lr ga):=
 dR (mR (λ i=>by have h:=aAb (X:=C.X i);rw[C.hK i]at h;exact h) aMw hg hm PySem.boot_len ha (by decide) (by decide) he) λ _ _ h=>oJ aJw h
def aL6(hm:C.mg "all"=none)(ha:SA C m [a] ga)(he:∀i,zA5 [a] (C.X i).env=[(false,eval a (C.X i).env)]:=by intro _;rfl)(hg:∀i,Gl (C.X i) "all":=by intro _;rfl)(hv:zBC "all"=some (.builtin "all"):=by decide+kernel):SE C (some []) (.Call (.Name "all" p) [a] [] pos) (opA (aAg λ bs=>bs.all id) ga):=
 dR (mR (λ i=>aIS (C.calm i)) aMx hg hm hv ha (by decide) (by decide) he) λ _ _ h=>oJ aJx h
def zb(hm:C.mg "min"=none)(ha:SA C m [a,b] ga)(he:∀i,zA5 [a,b] (C.X i).env=(false,eval a (C.X i).env)::zA5 [b] (C.X i).env:=by intro _;rfl)(hpl:∀i,(zCg pos (zA5 [b] (C.X i).env)).any (·.1)=false:=by intro _;rfl)(hg:∀i,Gl (C.X i) "min":=by intro _;rfl)(hv:zBC "min"=some (.builtin "min"):=by decide+kernel):SE C (some []) (.Call (.Name "min" p) [a,b] [] pos) (opA (mmD λ i j=>if j<i then j else i) ga):=
 dR (mR (λ i=>aFk (C.calm i)) aLF hg hm hv ha (by decide) (by decide) he hpl) λ _ _ h=>oJ aHj h
def zc(hm:C.mg "max"=none)(ha:SA C m [a,b] ga)(he:∀i,zA5 [a,b] (C.X i).env=(false,eval a (C.X i).env)::zA5 [b] (C.X i).env:=by intro _;rfl)(hpl:∀i,(zCg pos (zA5 [b] (C.X i).env)).any (·.1)=false:=by intro _;rfl)(hg:∀i,Gl (C.X i) "max":=by intro _;rfl)(hv:zBC "max"=some (.builtin "max"):=by decide+kernel):SE C (some []) (.Call (.Name "max" p) [a,b] [] pos) (opA (mmD λ i j=>if j>i then j else i) ga):=
 dR (mR (λ i=>aFl (C.calm i)) aLF hg hm hv ha (by decide) (by decide) he hpl) λ _ _ h=>oJ aHj h
def mO(hm:C.mg "tuple"=none)(ha:SA C m [a] ga)(he:∀i,zA5 [a] (C.X i).env=[(false,eval a (C.X i).env)]:=by intro _;rfl)(hg:∀i,Gl (C.X i) "tuple":=by intro _;rfl)(hv:zBC "tuple"=some (.type "tuple"):=by decide+kernel):SE C m (.Call (.Name "tuple" p) [a] [] pos) (opA j6 ga):=
 aAz (λ i=>by have h:=yF (X:=C.X i);rw[C.hK i]at h;exact h) aIN hg hm hv ha (by decide) (by decide) he
def aL7{K:zAA}{a:Addr}(hO:Only H)(h:SqL K H a (ns.map V.int)):oh K H a ns:=by
 rcases h with (h|⟨o,h⟩)|h
 .rcases hO a with z|⟨o,xs,z⟩
  .rw[h]at z;cases z
  .rw[h]at z;cases z
 .exact .inl ⟨o,h⟩
 .exact .inr h
end
def aBN:V->List V->Hp->VK->Prop:=λ x vs H Q=>∃l b xs zs,x= .ref l/\vs=[.ref b]/\H l=some (.lst xs)/\H b=some (.lst zs)/\xs.length+zs.length<=zAY/\∀H',kh l H H'->H' l=some (.lst (xs++zs))->Q .non H'
def aCz:MtM X "list.extend" aBN:=λ kX s Z H x xs v us Q I rx rv ⟨l,b,ys,zs,e1,e2,h,h2,z,n⟩=>
 aFT kX s Z H x xs v us Q I rx rv ⟨l,b,ys,zs,e1,e2,h,h2,z,n _ (λ b o ne hb=>by rw[aX ne];exact hb) aa⟩
def zT:fillsNumberSlot (.type "tuple") "mul"=pure false:=
 PySem.fillsNumberSlot_seq (id:="tuple.__mul__") (r:=some (.builtin "tuple.__rmul__")) zDm.lookup (by decide+kernel) zIu.lookup (by decide+kernel)
def vD:seqRepeat? (.type "tuple")=pure (some (.builtin "tuple.__mul__")):=by
 unfold seqRepeat?;rw[zIU (T:="tuple") (name:="__mul__") (id:="tuple.__mul__") zDm.lookup (by decide+kernel)];rw[zIU (T:="tuple") (name:="__rmul__") (id:="tuple.__rmul__") zIu.lookup (by decide+kernel)];rfl
def vG(k:Int)(t:Tok)(a:Addr)(its:Array Value)(n:Nat)(dd:Option Addr)(sl:Array (Option Value)):
  Meets (zD4.«int.__rmul__» ⟨[.int k t,.ref a],[]⟩) (λ _ R s=>s.heap.get? a=some {cls:=.type "tuple",dict:=dd,data:=.seq its n,slots:=sl}/\R (.ok (.ret zEt)) s):=by
 refine .of_wp λ P w A R s h=>?_
 obtain⟨_,_,_,_,_⟩:=s;obtain⟨hl,h⟩:=h;wp_walk;exact⟨_,rfl,h⟩
def aGD(k:Int)(t:Tok)(a:Addr)(l:List Value)(n:Nat)(dd:Option Addr)(sl:Array (Option Value))(h1:1<k)(h2:k<2^63)(hz:l.length*k.toNat<=zAY)(he:l.isEmpty=false):
  Meets (zD4.«tuple.__mul__» ⟨[.ref a,.int k t],[]⟩) (λ _ R s=>s.heap.get? a=some {cls:=.type "tuple",dict:=dd,data:=.seq l.toArray n,slots:=sl}/\
   R (.ok (.ret (zAx s.heap.objs.size))) {s with heap:=s.heap.push {cls:=zBt "tuple",data:=zJD (zAJ k.toNat l).flatten.toArray}}):=by
 have hs:(l.length:Int)*k<=zAY:=by
  have:((l.length*k.toNat:Nat):Int)=(l.length:Int)*k:=by
   rw[Int.natCast_mul,zBa (by lia)]
  rw[<-this];exact Int.ofNat_le.mpr hz
 have hb:(zAY:Int)<=(2^63-1) / 8:=by decide
 have c0:¬(decide (k < -2^63)||decide (k ≥ 2^63))=true:=by simp;lia
 have c1:¬(l.toArray.isEmpty||k==1)=true:=by simp only[zEx,he];simp;lia
 have c2:¬(decide (k<=0)||l.toArray.isEmpty)=true:=by simp only[zEx,he];simp;lia
 have c3:¬((l.toArray.size:Int)*k>(2^63-1) / 8):=by rw[zAX];lia
 have c4:¬zFK ((l.toArray.size:Int)*k)=true:=by rw[zAX];unfold zFK;simp[zAY]at hs ⊢;lia
 have ef:zGc (λ x1 x2=>x1++x2) #[] (zAJ k.toNat l.toArray)=(zAJ k.toNat l).flatten.toArray:=by
  have:=foldl_rep l k.toNat []
  simpa using this
 have c5:¬((zAJ k.toNat l).flatten.toArray.size>zAY):=by rw[zAX,len_rep,zFv];lia
 refine .of_wp λ P w A R s h=>?_
 obtain⟨_,_,_,_,_⟩:=s;obtain⟨hl,h⟩:=h;wp_walk;rw[if_neg c0];wp_walk
 try rw[if_neg c1]
 wp_walk
 try rw[if_neg c2]
 wp_walk
 try rw[if_neg c3]
 wp_walk
 try rw[if_neg c4]
 try rw[ef]
 wp_walk
 try rw[if_neg c5]
 wp_walk;exact⟨_,rfl,h⟩
def aGi(K:zAA):R2:=λ x y H Q=>∃a k xs,x= .ref a/\y= .int k/\SqT K H a xs/\1<k/\k<2^63/\xs≠[]/\xs.length*k.toNat<=zAY/\New H (.tup (zAJ k.toNat xs).flatten) Q
def aJ1:OpR X (zBv .Mult) (aGi X.K):=by
 intro kX s Z H x y v u Q I rx ry h;obtain⟨a,k,xs,rfl,rfl,ha,h1,h2,hne,hz,q⟩:=h;cases rx;obtain⟨t,rfl⟩:=ry;obtain⟨its,r,p1,_⟩:=I.tuple ha;obtain⟨⟨cls,dd,data,sl⟩,ho,hc,n,hd⟩:=id p1;simp only at hc hd;subst hc hd;have hl:its.length*k.toNat<=zAY:=by rw[<-r.length];exact hz
 have he:its.isEmpty=false:=by
  cases its with
  |nil=>exact absurd (r.nil_iff.mp rfl) hne
  |cons _ _=>rfl
 refine zDO (T:="tuple") (U:="int") (by decide) ⟨_,ho,rfl⟩ (λ s'=>zDi s' k t) zT zFC zC2 vD zEk.lookup
  (zCk zC2 (zDi s k t) zEj (zE3 _ _) (vG k t a its.toArray n dd sl)
   ⟨ho,rfl,⟨_,ho,rfl⟩,zCk zDm ⟨_,ho,rfl⟩ zGA (zFf _ _) (aGD k t a its n dd sl h1 h2 hl he) ⟨ho,?_⟩⟩)
 refine⟨.ref s.heap.objs.size,_,I.laid (t':=s.toks) (o:=.tup (zAJ k.toNat xs).flatten) (λ b ob q=>zAC _ q) (zAQ _) ?_,rfl,q.at (I.hok.fresh (zAQ _))⟩;exact⟨⟨by rw[len_rep,zFv];exact hz,NoD.push _⟩,_,r.rep k.toNat,zGB _ _⟩
def aJ9:D->D->Rs D
 | .tup l,.int k=>if decide (1<k)&&decide (k<2^63)&& !l.isEmpty&&decide (l.length*k.toNat<=zAY)then .ok (.tup (zAJ k.toNat l).flatten)else .st
 |_,_=>.st
def aJY{K:zAA}:OpS K (aGi K) aJ9:=by
 intro A x y d e H Q z rx ry ez q;unfold aJ9 at ez;split at ez
 .split at ez
  .rename_i hc
   simp only[zAL,decide_eq_true_eq,zCX]at hc;obtain⟨⟨⟨c1,c2⟩,c3⟩,c4⟩:=hc;cases ez;cases ry;cases rx with
   |tup h r=>
    refine⟨_,_,_,rfl,rfl,h,c1,c2,λ e=>?_,by rw[r.length];exact c4,λ p H' s hp hn=>q _ H' s (.tup (SqT.of hp) ?_)⟩
    .subst e
     cases r;cases c3
    .exact((Rps.rep r _).up s).wk λ _ _ _ z=>.inr z
  .cases ez
 .cases ez
abbrev ctL(P:zA3)(w:World)(K:zAA)(mg:Str->Option Value)(base:Heap)(N:List Str)(q:Str)(sc:Scope)(cl:List (Str×Addr))(f:Addr)(cdv:Value)(A:zAc)(outer:List Env)(s:zAE)(H:Hp)(E:XK)(k:Nat)(hr:dj k (A.deeper (zCz q sc s.heap.objs.size f cdv cl))):Ct where
 ι:=Unit
 X:=λ _=>cxL P w K mg base N q sc cl f cdv A outer s H E
 prog:=P
 w:=w
 K:=K
 mg:=mg
 base:=base
 k:=k
 G:=⟨H,E,aZ mg⟩
 cx:=λ _=>⟨rfl,rfl,rfl,rfl,rfl⟩
 calm:=λ _=>rfl
 room:=λ _=>hr
 own:=λ _=>dJ.own dJ.ofL
 pass:=λ _=>dJ.pass dJ.ofL
 dOk:=true
 dcx:=λ _ _=>dJ.ofL
def shS:Slot->Slot
 | .no=>.no
 | .sh d=>.sh d
 | .nw d=>.sh d
 | .ow d=>.sh d
 | .oz d=>.sh d
 | .o2 l=>.sh (.lst (l.map .lst))
def eV.shut{K:zAA}{H:Hp}{lab:Lab}{i:Nat}{v:V}{x:Slot}(h:eV K H lab i v x):eV K H (λ _=>(0,0)) i v (shS x):=by
 cases x with
 |no=>exact trivial
 |sh d=>exact Rp.wk (λ _ _ _ _=>zAa _) h
 |nw d=>exact Rp.wk (λ _ _ _ _=>zAa _) h
 |ow d=>exact Rp.wk (λ _ _ _ _=>zAa _) h.1
 |oz d=>
  obtain⟨a,xs,ds,rfl,rfl,e3,e4,e5⟩:=h;exact .lst e3 (zAa _) (Rps.wk (λ p o e z=>⟨zAa _,λ ep=>by
   have z':(lab p).1<=1:=z;rw[ep,e4]at z';omega⟩) e5)
 |o2 l=>exact Rp.wk (λ _ _ _ _=>zAa _) (aEJ h)
theorem RR.shut{K:zAA}{G:Gx}{U:List (V×D)}{Y:En}{Z:L2.St}{H:Hp}{lab:Lab}{E:XK}{cl:Str->Addr}(R:RR K G U Y Z H lab):RR K ⟨H,E,cl⟩ [] (Y.map shS) Z H (λ _=>(0,0)):=by
 refine⟨by rw[zAD];exact R.len,λ i s e=>?_,aO.refl H,λ p hp=>absurd rfl hp,λ q hq=>by cases hq⟩;rw[zAW]at e;cases hr:Y[i]? with
 |none=>rw[hr]at e;cases e
 |some x=>
  rw[hr]at e;cases e;rcases R.sl i x hr with z|⟨v,e1,e2⟩
  .subst z;exact .inl rfl
  .exact .inr ⟨v,e1,e2.shut⟩
def aN6(cl:Str->Addr)(H1:Hp)(r:Rs D):Sp:=λ vs H Q E=>vs=[]/\aO H1 H/\WR ⟨H,E,cl⟩ r (λ _=>∀v H',aO H H'->Q v H')
def aFG(wn:Str->Option Str)(told:Str)(fe:En->Rs D):En->Rs D:=λ Y=>match fe (Y.map shS)with
 | .ok _=>.ok (.str told)
 | .ex c=>(match wn c with
  |some w=>.ok (.str w)
  |none=>.st)
 | .st=>.st
def aNT(P:zA3)(w:World)(K:zAA)(mg:Str->Option Value)(N:List Str)(q:Str)(params:zD3)(body:Expr)(scope:Scope)(k0:Nat)(told:Str)(wd:Addr->Option Str)(E:XK):TE:=λ Z H Q=>
 ∀(base:Heap) (cl:List (Str×Addr)) (f c':Addr) (ctv pm:Value) (H1:Hp),aO H H1->aCQ q params body scope cl pm H1 f c' ctv->aIa base N Z scope cl->spR P w K mg base k0 told wd [.ref f] H1 Q E
section
variable{C:Ct}{m:Mode}{x pc told q:Str}{p pos lpos:Pos}{k k0 kb:Nat}{fn:Addr}{fd:zAq}{wd:Addr->Option Str}{wn:Str->Option Str}{params:zD3}{body:Expr}{scope:Scope}{N:List Str}{fe:En->Rs D}
def aG0(hF:∀base,dI C.prog C.w C.K C.mg base (CX1 C.prog C.w) k fn fd [pc] (spR C.prog C.w C.K C.mg base k0 told wd))(hr:k<=C.k)(hm:C.mg x=some (.ref fn))(hk:zBm C.K (.ref fn)=true)(hb:Binds C.K fd [pc] [])
  (hL:∀i,(∃P,uG (C.X i) P)/\(C.X i).outer=[]/\(C.X i).N=N/\(C.X i).tq=q)(S:xW scope)(hcl:C.G.cl=aZ C.mg)(hwn:∀c w,wn c=some w->wd (aZ C.mg c)=some w)(hkb:kb+1<=k0)
  (hbody:∀base cl f cd A outer s H E hr,SE (ctL C.prog C.w C.K C.mg base N q scope cl f cd A outer s H E kb hr) m body fe)
  (hbnd:∀cl pm c' ctv,zJJ (zGD "<lambda>" q params body scope cl pm (.ref c') ctv) ⟨[],[]⟩=pure []:=by intro _ _ _ _;rfl)(hdef:∀i,zJ6 params (C.X i).env=([],[]):=by intro _;rfl)
  (hfree:∀i,∀y∈scope.names,y.2= .free->(C.X i).env.kindOf y.1=some .cell\/(C.X i).env.kindOf y.1=some .free)(hdb:Nd x:=by decide)(hg:∀i,Gl (C.X i) x:=by intro _;rfl):
  SE C (some []) (.Call (.Name x p) [.Lambda params body scope lpos] [] pos) (aFG wn told fe):=by
 refine⟨aNT C.prog C.w C.K C.mg N q params body scope k0 told wd C.G.E,λ i=>?_,λ U Z H Y lab Q R W=>?_⟩
 .obtain⟨e1,e2,e3,e4,e5⟩:=C.cx i
  obtain⟨⟨P,Lx⟩,ho,eN,eq⟩:=hL i;intro kX s Z H Q I h;refine zCt (oA I (hg i) (by rw[e4];exact hm) ?_ hdb);have ha:PA (C.X i) [.Lambda params body scope lpos] _:=aV (aLu Lx (hdef i) (hfree i)) cH;refine zFF (h₀:=(C.X i).base) I.ok.mod.kin (by rw[e3];exact hk) (thn (ha pos kX s Z H (λ vs H1=>aO H H1/\∃f c' ctv,vs=[.ref f]/\aCQ (C.X i).tq params body scope (L2.aZ scope (C.X i).env) (((C.X i).mg "__name__").getD .none) H1 f c' ctv) I
   (λ f c' ctv H' sm l=>⟨sm,f,c',ctv,rfl,l⟩)) λ us s1 ⟨vs,H1,I1,r,sm,f,c',ctv,ev,la⟩=>⟨I1.kIn,?_⟩)
  subst ev;have hz:=h (bse (C.X i) s1 H1) (L2.aZ scope (C.X i).env) f c' ctv _ H1 sm (by rw[<-eq];exact la) (by rw[<-eN];exact aMy I1 ho S (hfree i));exact aIw (CX:=CX1 (C.X i).prog (C.X i).w) I1 (by rw[e1,e2,e3,e4];exact hF _) ((C.room i).mono hr) (by rw[e3];exact hb) (C.pass i) r (by rw[e1,e2,e3,e4]at*;exact hz)
 .intro base cl f c' ctv pm H1 sm la cp
  have R1:=R.up sm;have FL:dI C.prog C.w C.K C.mg base (CX1 C.prog C.w) (kb+1) f (zGD "<lambda>" q params body scope cl pm (.ref c') ctv) [] (aN6 (aZ C.mg) H1 (fe (Y.map shS))):=by
   refine aM0 la S cp (λ vs H Q E h=>⟨h.1,h.2.1⟩) λ A outer s H2 Q2 E2 hr2 hsp=>?_
   obtain⟨t,h1,h2⟩:=hbody base cl f (.ref c') A outer s H2 E2 hr2;exact⟨t,h1 (),h2 [] Z H2 _ _ Q2 (R1.up hsp.2.1).shut (hsp.2.2.imp λ d _ z v H' s' _=>z v H' s')⟩
  refine⟨f,_,_,_,_,kb+1,_,rfl,la.1,FL,hkb,λ s us _ hl=>?_,rfl,aO.refl H1,?_⟩
  .have e:us=[]:=by
    rw[zBD]at hl;exact zCD.mp hl
   subst e;exact .of_eq (hbnd cl pm c' ctv)
  .unfold aFG at W
   cases he:fe (Y.map shS)with
   |ok d=>rw[he]at W;exact λ v H' s'=>W (.str told) H' (sm.trans s') (.str told)
   |ex c=>
    rw[he]at W;cases hw:wn c with
    |none=>simp only[hw]at W;exact W.elim
    |some w=>
     simp only[hw]at W;exact λ H' s'=>⟨_,w,rfl,hwn c w hw,λ H'' s''=>W (.str w) H'' (sm.trans (s'.trans s'')) (.str w)⟩
   |st=>rw[he]at W;exact W.elim
end
end VL
namespace L2
open PySem PySem.Spec PyProof.Rows
def cxW(P:zA3)(w:World)(K:zAA)(mg:Str->Option Value)(base:Heap)(N:List Str)(qual:Str)(scope:Scope)(f:Addr)(cd:Value)(A:zAc)(s:zAE)(H:Hp)(Pt:Addr):Cx where
 prog:=P
 w:=w
 K:=K
 mg:=mg
 base:=base
 A:=A.deeper (zDN qual scope s.heap.objs.size f cd)
 N:=N
 z5:=s
 zI:=H
 env:=zDN qual scope s.heap.objs.size f cd
 outer:=[]
 stack:=[zDN qual scope s.heap.objs.size f cd]
 ex:=[Pt]
 calm:=true
 fn:=λ _=>true
 pn:=[]
 xe:=λ _ _=>False
 ta:=[(Pt,zC7 #[])]
 tq:=qual++".<locals>."++"<lambda>"
section
variable{P:zA3}{w:World}{K:zAA}{mg:Str->Option Value}{base:Heap}{N ps:List Str}{qual:Str}{scope:Scope}{f Pt:Addr}{cd:Value}{A:zAc}{s s1:zAE}{H:Hp}{vs:List V}{us:List Value}
def aDU(S:aY N ps scope)(hd:A.handled=none)(e0:aCS P w K mg base A [] s H)(hl:vs.length=ps.length)(r:Vals vs us)
  (hP:s.heap.get? Pt=some (zC7 #[]))(hH:H Pt=none)(hb:base.get? Pt=none)
  (x:InCallC s s.heap.objs.size (bindL (zDN qual scope s.heap.objs.size f cd).kindOf (ps.zip us) λ _=>none) (zDM (s.heap.objs.size+1) scope.names []) (bindC (zDN qual scope s.heap.objs.size f cd).kindOf (ps.zip us) λ _=>none) s1):
  Inv (cxW P w K mg base N qual scope f cd A s H Pt) [] (start N vs) H s1:=by
 have I:Inv (uV (CX1 P w) P w K mg base N qual scope f cd A [] s H λ _ _ _=>False) [] (start N vs) H s1:=sW S hd e0 hl r x;obtain⟨h1,tk,e1,hk⟩:=x.done;have hlt:=zAT hP;have hne:∀b∈[Pt],b≠s.heap.objs.size:=λ b hb z=>by
  have e:b=Pt:=by simpa using hb
  rw[e]at z;exact absurd hlt (by rw[z];exact zB1 _)
 refine⟨⟨I.ok.mod,I.ok.kind,I.ok.glob,I.ok.blt,I.ok.above,I.ok.inj,I.ok.has,I.ok.cab,I.ok.hd,I.ok.frames,I.ok.stk,λ b hb2=>⟨hne b hb2,λ y c e z=>?_⟩,I.ok.bs,I.ok.bsz,λ b o e hb'=>?_,λ b _=>λ z=>(nomatch z),I.ok.funs,I.ok.frf⟩,
  I.os,I.bare,I.base.mono (λ b z=>z) (λ b z=>(nomatch z)),I.loc,I.cell,I.free,I.freeC,I.pin,I.hok,I.len,λ p hp=>?_⟩
 .have q:s.heap.objs.size<=c:=I.ok.cab y c rfl e
  have e2:b=Pt:=by simpa using(show b∈[Pt]from hb2)
  rw[z,e2]at q;exact absurd hlt (zEW.mpr q)
 .have e2:b=Pt:=by simpa using(show b∈[Pt]from hb')
  have e3:base.get? b=some o:=e;rw[e2,hb]at e3;cases e3
 .have e2:p=(Pt,zC7 #[]):=by simpa using(show p∈[(Pt,zC7 #[])]from hp)
  subst e2;refine⟨hH,hne Pt zAF,λ z=>(nomatch z),λ q hq=>(nomatch hq),#[],?_,trivial,λ pos cv e=>nomatch e⟩;subst e1;exact hk _ _ hP
end
def aF2{P:zA3}{w:World}{K:zAA}{mg mb:Str->Option Value}{k:Nat}{fa a c Pt:Addr}{x:Str}{zD:zAE}{vs:List Value}{ns:List Int}{N:List Str}{oc doc pm ct dV kV:Value}{od:Option Addr}{osl:Array (Option Value)}{name qual:Str}{params:zD3}{body:List Stmt}{scope:Scope}{an:Option Addr}
  (KX:K.In zD.heap)(hns:zD.heap.Ns zA9 mg)(hb:zD.heap.Ns zJ5 mb)(hbb:∀x:Str,x≠"__name__"->mb x=zBC x)(e8:zD.heap.NoLimit)(hg:zD.gens=#[])
  (ha:zD.heap.get? a=some {cls:=.type "list",data:=.seq vs.toArray})(hi:zBV vs ns)(hl:ns.length<=zAY)(hr:dj (k+1) zCo)
  (hP:zD.heap.get? Pt=some (zC7 #[]))(hKP:K.lookup Pt=none)(hC:zER K c Pt=true)(hbl:zD.heap.BuiltinsAt mg Pt)
  (lk:K.lookup fa=some ⟨oc,od,.func (zBq name qual params body scope dV kV doc pm an (.ref c) ct),osl⟩)(hcd:zDX K (.ref c) qual=true)(S:aY N [x] scope)
  (hbind:∀(s:zAE) (u:Value),zHm s (zBq name qual params body scope dV kV doc pm an (.ref c) ct) ⟨[u],[]⟩ [(x,u)])
  (hbody:∀(base:Heap) (s:zAE) (H:Hp),dj k (zCo.deeper (zDN qual scope s.heap.objs.size fa (.ref c)))->uG (cxW P w K mg base N qual scope fa (.ref c) zCo s H Pt) Pt->Only H->SqL K H a (ns.map V.int)->
   ∃t,PSs (cxW P w K mg base N qual scope fa (.ref c) zCo s H Pt) body t/\t {nx:=λ _ _=>False,rt:=λ v _=>v= .bl true} (start N [.ref a]) H):
  zCF (model P w) zCo (.call (.ref fa) ⟨[.ref a],[]⟩) (λ r s'=>r= .ok (.ret (.bool true))/\OldK zD.heap s'.heap/\s'.os=zD.os/\zFP s'.gens) zD:=by
 have rv:=yM hi;have lenV:=hi.length;have aP:a≠Pt:=λ z=>by
  rw[z,hP]at ha;have e2:=congrArg Obj.cls (zAl ha);cases e2
 have core:∀H:Hp,Only H->SqL K H a (ns.map V.int)->HOk P w H zD.heap->(∀b,H b≠none->b=a)->(H a≠none->K.lookup a=none)->
   zCF (model P w) zCo (.call (.ref fa) ⟨[.ref a],[]⟩) (λ r s'=>r= .ok (.ret (.bool true))/\OldK zD.heap s'.heap/\s'.os=zD.os/\zFP s'.gens) zD:=by
  intro H hO hS hok hA hK;have hPn:H Pt=none:=by
   cases q:H Pt with
   |none=>rfl
   |some u=>exact absurd (hA Pt (by rw[q];simp)).symm aP
  let B:=zCE (aHr zD.heap H) [Pt];have base_of:∀{b:Addr} {o:Obj},zD.heap.get? b=some o->H b=none->b≠Pt->B.get? b=some o:=λ e n ne=>zC0 _ (aHq e n) (by simpa using ne)
  have noA:∀{b:Addr} {o:Obj} {es:Array DictEntry} {ep:Nat},zD.heap.get? b=some o->o.data= .dict es ep->H b=none/\b≠Pt:=λ{b o es ep} e d=>by
   refine⟨?_,λ z=>?_⟩
   .cases q:H b with
    |none=>rfl
    |some u=>
     have e':b=a:=hA b (by rw[q];simp);subst e';rw[ha]at e;cases e;have d':zJD vs.toArray _=Data.dict es ep:=d;cases d'
   .rw[z,hP]at e
    cases e;cases d
  have nsK:∀{b:Addr} {m:Str->Option Value},zD.heap.Ns b m->B.Ns b m:=λ{b m} ⟨o,es,ep,e,d,r⟩=>⟨o,es,ep,base_of e (noA e d).1 (noA e d).2,d,r⟩
  have hKb:K.In B:=λ b o e=>base_of (KX b o e) (by
   cases q:H b with
   |none=>rfl
   |some u=>
    have e':b=a:=hA b (by rw[q];simp);subst e';rw[hK (by rw[q];simp)]at e;cases e) (λ z=>by rw[z,hKP]at e;cases e)
  have hM:Mod K mg B:=⟨hKb,nsK hns,⟨mb,nsK hb,hbb⟩,let⟨mc,h1,h2⟩:=e8;⟨mc,nsK h1,h2⟩⟩;have e0:aCS P w K mg B zCo [] zD H:=⟨rfl,hM,λ b o e=>aJ8 (zDr _ e),zHY ((zEd _ _).trans (aFa _ _)),trivial,λ b hb=>absurd (show b∈([]:List Addr)from hb) (by simp),hok,.of_eq hg⟩;have gP:zA9≠Pt:=by
   obtain⟨o,es,ep,e,d,_⟩:=hns;exact(noA e d).2
  have hLx:uG (cxW P w K mg B N qual scope fa (.ref c) zCo zD H Pt) Pt:=by
   refine⟨⟨_,rfl⟩,zAF,rfl,⟨c,rfl,zGx hKb hC⟩,?_,gP⟩;obtain⟨bm,o,b1,b2,b3,b4,b5,b6,b7,b8⟩:=hbl;refine⟨bm,o,b1,b2,b3,b4,base_of b5 ?_ b4,b6,b7,b8⟩;cases q:H bm with
   |none=>rfl
   |some u=>
    have e':bm=a:=hA bm (by rw[q];simp);rw[e',ha]at b5;cases b5;cases b8
  have dP:∀y∈[x].zip [zAx a],scope.names.lookup y.1=some .local\/(scope.names.lookup y.1=some .cell/\((zDM (zD.heap.objs.size+1) scope.names []).lookup y.1).isSome=true):=λ⟨n,v⟩ hy=>by
   rcases S.par n (zCY hy).1 with q|q
   .exact .inl q
   .exact .inr ⟨q,zDT _ _ _ (.inl q)⟩
  refine zFS hr.depth (KX _ _ lk) rfl S.co S.gen rfl (zFG KX hcd) (hbind zD (.ref a) _ _ _ _ ?_);refine zEZ S.kind dP λ env he s1 x'=>?_
  subst he;refine⟨e8.keeps x'.toInCall.keep,zIf ?_⟩;obtain⟨t,ht,hq⟩:=hbody B zD H (hr.deeper _) hLx hO hS;have I:Inv (cxW P w K mg B N qual scope fa (.ref c) zCo zD H Pt) [] (start N [.ref a]) H s1:=aDU (ps:=[x]) (us:=[.ref a]) S hr.hd e0 rfl (.cons rfl .nil) hP hPn (zEc _ zAF) x';refine zAw (ht [] s1 (start N [.ref a]) H _ I hq) (λ fl s' hs=>?_) λ e s' hs=>hs.elim
  cases fl with
  |next=>obtain⟨_,_,_,q⟩:=hs;exact q.elim
  |brk=>obtain⟨_,_,_,q⟩:=hs;exact q.elim
  |cont=>obtain⟨_,_,_,q⟩:=hs;exact q.elim
  |ret u=>
   obtain⟨v,Z',H',J,rv',q⟩:=hs;have q':v= .bl true:=q;subst q';obtain rfl:u=zCn true:=rv';obtain⟨_,_,_,_,ps,hps,_⟩:=J.tab (Pt,zC7 #[]) zAF;have all:∀b o,zD.heap.get? b=some o->b≠Pt->s'.heap.get? b=some o:=λ b o e ne=>by
    cases q:H b with
    |none=>exact J.base.keep b o e q (λ z=>(nomatch z)) (by simpa[cxW]using ne)
    |some u=>
     rcases hO b with z|⟨ob,xs,z⟩
     .rw[q]at z;cases z
     .have z2:=J.base.frzs b ob _ z
      obtain⟨e1,_⟩:=hok b _ z;obtain⟨e2,_⟩:=J.hok b _ z2;rw[e]at e1;cases e1;exact e2
   refine⟨rfl,⟨λ b o e=>?_,λ b o e=>?_⟩,J.os,J.bare⟩
   .by_cases hbP:b=Pt
    .subst hbP
     rw[hP]at e;cases e;obtain⟨⟨o1,vs1,f1,f2,f3,f4⟩,_⟩:=(zGx KX hC).tab hP;exact .inr (.inl ⟨⟨c,o1,vs1,f1,f2,f3,f4⟩,rfl,#[],ps,rfl,by simpa using hps⟩)
    .exact .inl (all b o e hbP)
   .by_cases hbP:b=Pt
    .subst hbP;exact⟨_,hps⟩
    .exact⟨o,all b o e hbP⟩
 cases hk:K.lookup a with
 |some o=>
  have e:=KX a o hk;rw[ha]at e;cases e;refine core (λ _=>none) (λ _=>.inl rfl) (.inr ⟨_,vs.toArray,_,hk,rfl,rfl,rfl,by rw[zAX,lenV];exact hl,by simpa using rv⟩) (λ b u z=>by have z':(none:Option HO)=some u:=z;cases z') (λ b z=>absurd rfl z) λ z=>absurd rfl z
 |none=>
  refine core (λ b=>if b=a then some (.frz {cls:=.type "list",data:=.seq vs.toArray} (.lst (ns.map V.int)))else none) (λ b=>?_) (.inl (.inr ⟨{cls:=.type "list",data:=.seq vs.toArray},if_pos rfl⟩)) (λ b u z=>?_) (λ b z=>?_) λ _=>hk
  .by_cases hb:b=a
   .exact .inr ⟨_,_,if_pos hb⟩
   .exact .inl (if_neg hb)
  .by_cases hb:b=a
   .have z':=(if_pos hb).symm.trans z
    cases z';subst hb;exact⟨ha,by rw[zAD];exact hl,vs,_,rv,ha⟩
   .have z':=(if_neg hb).symm.trans z
    cases z'
  .by_cases hb:b=a
   .exact hb
   .exact absurd (if_neg hb) z
end L2
namespace VL
open PySem PySem.Spec PyProof.Rows L2
abbrev ctW(P:zA3)(w:World)(K:zAA)(mg:Str->Option Value)(base:Heap)(N:List Str)(q:Str)(sc:Scope)(f:Addr)(cdv:Value)(A:zAc)(s:zAE)(H:Hp)(Pt:Addr)(k:Nat)(hr:dj k (A.deeper (zDN q sc s.heap.objs.size f cdv))):Ct where
 ι:=Unit
 X:=λ _=>cxW P w K mg base N q sc f cdv A s H Pt
 prog:=P
 w:=w
 K:=K
 mg:=mg
 base:=base
 k:=k
 G:=⟨H,λ _ _ _=>False,aZ mg⟩
 cx:=λ _=>⟨rfl,rfl,rfl,rfl,rfl⟩
 calm:=λ _=>rfl
 room:=λ _=>hr
 own:=λ _=>λ _ _ h=>zAN h
 pass:=λ _=>λ _ _ _ _ _ _ _ ⟨_,_,_,_,_,_,_,_,_,_,_,_,_,z⟩=>z
 dOk:=false
 dcx:=λ z=>nomatch z
def aH3{P:zA3}{w:World}{K:zAA}{mg:Str->Option Value}{base:Heap}{N:List Str}{q:Str}{sc:Scope}{fa a Pt:Addr}{cdv:Value}{A:zAc}{s:zAE}{H:Hp}{k:Nat}{hr:dj k (A.deeper (zDN q sc s.heap.objs.size fa cdv))}{body:List Stmt}{f:En->Ou}{ns:List Int}
  (hb:SSs (ctW P w K mg base N q sc fa cdv A s H Pt k hr) body f)(e:fL N.length f [.scr ns]= .ok (.bl true))(r:Rps K (λ _=>True) H [.ref a] [.scr ns]):
  ∃t,PSs (cxW P w K mg base N q sc fa cdv A s H Pt) body t/\t {nx:=λ _ _=>False,rt:=λ v _=>v= .bl true} (start N [.ref a]) H:=by
 obtain⟨t,h1,h2⟩:=hb;refine⟨t,h1 (),h2 [] _ H _ _ _ (RR.start r) ?_⟩;unfold fL at e;cases ef:f (ao N.length [.scr ns])with
 |nx Y=>rw[ef]at e;cases e
 |rt d=>rw[ef]at e;cases e;exact λ v H' s r=>r.bl_inv
 |ex c=>rw[ef]at e;cases e
 |bk Y=>rw[ef]at e;cases e
 |ct Y=>rw[ef]at e;cases e
 |st=>rw[ef]at e;cases e
def aCj{P:zA3}{w:World}{K:zAA}{mg:Str->Option Value}{base:Heap}{x q n0 n1 n2 few cn pe told:Str}{st:Stmt}{f fc C':Addr}{fd fdc:zAq}{kc k0:Nat}{wd:Addr->Option Str}{p1 p2 p3 p4 p5 p6 p7 p8 p9 p10 p11 p12 p13 p14 p15 p16:Pos}{j1:Nat}
  (F:L2.Fun K x q st f fd)(S:aY [n0,n1,n2] [n0] (aF st))(hst:cX st=[.Assign [.Name n1 p1] (.Constant (.str told) j1 p2) p3,.Try [.Expr (.Call (.Name n0 p4) [] [] p5) p6] [.ExceptHandler (some (.Name few p7)) (some n2) [.Assign [.Name n1 p8] (.Call (.Name cn p9) [.Name n2 p10] [] p11) p12] p13] [] [] p14,.Return (some (.Name n1 p15)) p16])
  (l0:(aF st).names.lookup n0=some .local)(l1:(aF st).names.lookup n1=some .local)(l2:(aF st).names.lookup n2=some .local)(g1:(aF st).names.lookup few=some .globalImplicit)(g2:(aF st).names.lookup cn=some .globalImplicit)
  (hm:mg few=some (.ref C'))(hC':bx K C')(FC:FnH P w K mg base kc fc fdc [pe] (spW wd))(hmc:mg cn=some (.ref fc))(hkc:zBm K (.ref fc)=true)(hbc:Binds K fdc [pe] [])(hkk:kc<=k0)(hw:∀C w,wd C=some w->bx K C/\su K C C'=true)
  (d1:Nd few:=by decide)(d2:Nd cn:=by decide)(d3:Nd n0:=by decide)(d4:Nd n1:=by decide)(d5:Nd n2:=by decide)
  (d6:(n0==("__classdict__":Str))=false:=by decide)(d7:(n1==("__classdict__":Str))=false:=by decide)(d8:(n2==("__classdict__":Str))=false:=by decide):
  dI P w K mg base (CX1 P w) (k0+1) f fd [n0] (spR P w K mg base k0 told wd):=by
 refine F.okX S (λ vs H Q E ⟨_,_,_,_,_,_,_,e,_⟩=>by rw[e];rfl) λ cdv A outer s H vs Q E hr hsp=>?_
 rw[hst];exact aGd (X:=uV (CX1 P w) P w K mg base [n0,n1,n2] q (aF st) f cdv A outer s H E) dJ.of rfl rfl S.nd l0 l1 l2 (λ _=>rfl) hm g1 hC' FC g2 hmc hkc hbc hr hkk hw hsp d1 d2 d3 d4 d5 d6 d7 d8
end VL
namespace L2
open PySem PySem.Spec PyProof.Rows
def fV{X:Cx}{n0:Str}{e:Expr}{c:V}{p p' pos:Pos}(hN:X.N[0]? =some n0)(hv:X.env.scope.names.lookup n0=some .local)(hg:Gl X "isinstance")(hm:X.mg "isinstance"=none)(hc:PE X e (tC c))(hse:zA5 [e] X.env=(false,eval e X.env)::zA5 [] X.env:=by rfl)
  (hpl:(zCg pos (zA5 [e] X.env)).any (·.1)=false:=by rfl)(d:Nd n0:=by decide)(d':(n0==("__classdict__":Str))=false:=by decide):PE X (.Call (.Name "isinstance" p) [.Name n0 p',e] [] pos) (aC0 X.K c):=
 jo aFn hg hm rfl (aV (dW hN (.inl hv) d d') (aV hc cH hse)) (hpl:=hpl)
section
variable{P:zA3}{w:World}{K:zAA}{mg:Str->Option Value}{base:Heap}{x q n0 n1 n2 odd:Str}{st:Stmt}{f:Addr}{fd:zAq}{k:Nat}{wd:Addr->Option Str}{c1 c2:V}{k1 k2 k3 k4:List V}{l1 l2:List Str}{a1 a2:Expr}{as1 as2 e1 e2 e3 e4 w1 w2:List Expr}{kw1 kw2:List zDF}
 {p1 p2 p3 p4 p5 p6 p7 p8 p9 p10 p11 p12 p13 p14 p15 p16 p17 p18 p19 p20 p21 p22 p23 p24 p25 p26 p27 p28 p29 p30 p31 p32 p33 p34 p35 p36 p37 p38 p39 p40:Pos}{q1 q2 q3 q4 q5 q6 q7:Pos}{j1 j2 j3 j4 j5:Nat}
end
structure aEj(P:zA3)(w:World)(K:zAA)(mg:Str->Option Value)(fa Pt:Addr)(k n:Nat):Prop where
 ex:∃(x name qual:Str) (params:zD3) (body:List Stmt) (scope:Scope) (dV kV doc pm ct oc:Value) (an od:Option Addr) (c:Addr) (osl:Array (Option Value)) (N:List Str),
  K.lookup Pt=none/\zER K c Pt=true/\K.lookup fa=some ⟨oc,od,.func (zBq name qual params body scope dV kV doc pm an (.ref c) ct),osl⟩/\zDX K (.ref c) qual=true/\aY N [x] scope/\
  (∀(s:zAE) (u:Value),zHm s (zBq name qual params body scope dV kV doc pm an (.ref c) ct) ⟨[u],[]⟩ [(x,u)])/\
  ∀(a:Addr) (ns:List Int),ns.length<=n->∀(base:Heap) (s:zAE) (H:Hp),dj k (zCo.deeper (zDN qual scope s.heap.objs.size fa (.ref c)))->uG (cxW P w K mg base N qual scope fa (.ref c) zCo s H Pt) Pt->Only H->SqL K H a (ns.map V.int)->
   ∃t,PSs (cxW P w K mg base N qual scope fa (.ref c) zCo s H Pt) body t/\t {nx:=λ _ _=>False,rt:=λ v _=>v= .bl true} (start N [.ref a]) H
def aFz{l:zFl}{n k:Nat}{q:zA3}{loose:List Str}{XP:(Str->Option Value)->Heap->Prop}{YP:World->Heap->Prop}{d:DefRec}{K:Params->zAA}{Pt:Addr}
  (hn:l.most=some n)(hn2:n<=zAY)(hdf:d.params.defaults=[])(hr:dj (k+1) zCo)
  (hY:∀(w:World) (h:Heap),YP w h->(K w.params).In h/\h.get? Pt=some (zC7 #[]))
  (F:∀(w:World) (mg:Str->Option Value) (fa:Addr) (h:Heap),(K w.params).In h->h.Ns zA9 mg->mg d.name=some (.ref fa)->aEj l.prog w (K w.params) mg fa Pt k n):
  zIc q loose XP YP l.row.toRowW d [] (λ f vs=>zHu f vs):=by
 refine Att.aCE hn hdf λ w z5 zD mg mb fa o pm cd doc a vs ns G Y ho hd hcd hmg hobj hints kK hg=>?_
 obtain⟨KX,hP⟩:=hY w _ Y;obtain⟨x,name,qual,params,body,scope,dV,kV,doc,pm,ct,oc,an,od,c,osl,N,h1,h2,h3,h4,h5,h6,h7⟩:=(F w mg fa _ KX G.T.g hmg).ex;have hbl:zD.heap.BuiltinsAt mg Pt:=by
  obtain⟨bm,ob,b1,b2,b3,b4,b5,b6⟩:=G.T.bmain;refine⟨bm,ob,b1,b2,λ z=>?_,λ z=>?_,b3,b4,b5,b6⟩
  .obtain⟨o,es,ep,e,hd,_⟩:=G.T.g
   rw[z,e]at b3;cases b3;rw[hd]at b6;cases b6
  .rw[z,hP]at b3;cases b3;cases b4
 exact aF2 KX G.T.g G.T.b G.T.builtins G.T.nolimit hg hobj hints (zAi kK hn2) hr hP h1 h2 hbl h3 h4 h5 h6 λ base s H r1 r2 r3 r4=>h7 a ns kK base s H r1 r2 r3 r4
def clB(K:zAA)(few C:Addr):Bool:=zGT K C [.type "ValueError",.type "Exception",.type "BaseException",.type "object"] "ValueError.__new__"&&decide (zBT K (.ref C) "__class__"=some (some (.builtin "object.__class__")))&&decide (zBT K (.ref C) "__getattribute__"=some (some (.builtin "BaseException.__getattribute__")))&&decide (zBT K (.ref C) "__getattr__"=some none)&&decide (zCB K (.ref C) (.ref few)=some true)&&decide (zCB K (.ref C) (.type "ValueError")=some true)&&su K C few
def aD3(K:zAA)(few:Addr)(cs:List Addr):Bool:=(zAj cs.length).all λ j=>match cs[j]? with
 |none=>true
 |some C=>clB K few C&&(zAj cs.length).all λ i=>match cs[i]? with
  |none=>true
  |some c=>decide (zCB K (.ref C) (.ref c)=some (i==j))
theorem lookup_at{C:Addr}{w:Str}:∀{cs:List Addr} {ws:List Str},(cs.zip ws).lookup C=some w->∃j:Nat,cs[j]? =some C/\ws[j]? =some w
 |[],_,h=>by cases h
 |_::_,[],h=>by cases h
 |c::cs,x::ws,h=>by
  rw[zBB,zAu]at h;by_cases e:C==c
  .simp only[e]at h
   cases h;exact⟨0,by rw[zEJ e];rfl,rfl⟩
  .simp only[e]at h
   obtain⟨j,h1,h2⟩:=lookup_at h;exact⟨j+1,h1,h2⟩
def aKa{K:zAA}{few c0 c1 c2 c3 c4 c5 c6 c7 c8 c9 c10 c11:Addr}{ws:List Str}(h:aD3 K few [c0,c1,c2,c3,c4,c5,c6,c7,c8,c9,c10,c11]=true){C:Addr}{w:Str}(hw:([c0,c1,c2,c3,c4,c5,c6,c7,c8,c9,c10,c11].zip ws).lookup C=some w):
  Wd K (.ref few) (.ty "ValueError") [[.ref c0,.ref c1,.ref c2],[.ref c3,.ref c4,.ref c5],[.ref c6,.ref c7,.ref c8],[.ref c9,.ref c10,.ref c11]] ws C w/\bx K C/\su K C few=true:=by
 obtain⟨j,h1,h2⟩:=lookup_at hw;have hj:j<12:=(zAK.mp h1).1;have h3:=zAt.mp h j (zBF.mpr hj);simp only[h1,zAL]at h3;obtain⟨h4,h5⟩:=h3;have F:∀(i:Nat) c,[c0,c1,c2,c3,c4,c5,c6,c7,c8,c9,c10,c11][i]? =some c->Kt K C (.ref c) (i==j):=λ i c e=>by
  have h6:=zAt.mp h5 i (zBF.mpr (zAK.mp e).1);simp only[e]at h6;exact⟨_,rfl,of_decide_eq_true h6⟩
 unfold clB at h4;simp only[zAL,decide_eq_true_eq]at h4;obtain⟨⟨⟨⟨⟨⟨q1,q2⟩,q3⟩,q4⟩,q5⟩,q6⟩,q7⟩:=h4;refine⟨⟨⟨q1,q2,q3,q4⟩,⟨_,rfl,q5⟩,⟨_,rfl,q6⟩,[0==j,1==j,2==j],[3==j,4==j,5==j],[6==j,7==j,8==j],[9==j,10==j,11==j],j,_,_,_,_,rfl,.cons (F 0 c0 rfl) (.cons (F 1 c1 rfl) (.cons (F 2 c2 rfl) .nil)),.cons (F 3 c3 rfl) (.cons (F 4 c4 rfl) (.cons (F 5 c5 rfl) .nil)),
  .cons (F 6 c6 rfl) (.cons (F 7 c7 rfl) (.cons (F 8 c8 rfl) .nil)),.cons (F 9 c9 rfl) (.cons (F 10 c10 rfl) (.cons (F 11 c11 rfl) .nil)),by simp,?_,?_,?_,h2⟩,q1,q7⟩
 .exact(by decide:∀j,j<12->([0==j,1==j,2==j]++[3==j,4==j,5==j]++[6==j,7==j,8==j]++[9==j,10==j,11==j]).count true=1) j hj
 .exact(by decide:∀j,j<12->([0==j,1==j,2==j]++[3==j,4==j,5==j]++[6==j,7==j,8==j]++[9==j,10==j,11==j])[j]? =some true) j hj
 .exact λ m hm=>(by decide:∀j,j<12->∀m,m<j->([0==j,1==j,2==j]++[3==j,4==j,5==j]++[6==j,7==j,8==j]++[9==j,10==j,11==j])[m]? =some false) j hj m hm
def aBb{scope sc:Scope}(h:∀y∈scope.names,y.2= .free->sc.names.lookup y.1=some .cell\/sc.names.lookup y.1=some .free):∀y∈scope.names,y.2= .free->sc.names.lookup y.1=some .cell\/sc.names.lookup y.1=some .free:=h
def aBx{K:zAA}{few:Addr}{cs:List Addr}(h:aD3 K few cs=true){i j:Nat}{C c:Addr}(hj:cs[j]? =some C)(hi:cs[i]? =some c):zCB K (.ref C) (.ref c)=some (i==j):=by
 have h3:=zAt.mp h j (zBF.mpr (zAK.mp hj).1);simp only[hj,zAL]at h3;have h6:=zAt.mp h3.2 i (zBF.mpr (zAK.mp hi).1);simp only[hi]at h6;exact of_decide_eq_true h6
def aKR{K:zAA}{few:Addr}{cs:List Addr}(h:aD3 K few cs=true){i j:Nat}{C:Addr}(hj:cs[j]? =some C)(hi:cs[i]? =some C):i=j:=by
 have a:=aBx h hj hi;have b:=aBx h hj hj;rw[a]at b;have e:=zAl b;rw[beq_self_eq_true]at e;exact zEJ e
theorem wC{C:Addr}{w:Str}:∀{cs:List Addr} {ws:List Str} {j:Nat},(∀i:Nat,cs[i]? =some C->i=j)->cs[j]? =some C->ws[j]? =some w->(cs.zip ws).lookup C=some w
 |[],_,_,_,h,_=>by simp at h
 |_::_,[],_,_,_,h=>by simp at h
 |c::cs,x::ws,j,u,h1,h2=>by
  rw[zBB,zAu];by_cases e:C==c
  .have e0:0=j:=u 0 (by rw[zEJ e];rfl)
   subst e0;simp only[e];simpa using h2
  .simp only[e]
   cases j with
   |zero=>
    have e1:c=C:=by simpa using h1
    rw[e1]at e;simp at e
   |succ j=>exact wC (j:=j) (λ i hi=>zG6 (u (i+1) hi)) h1 h2
def aNO{K:zAA}{few:Addr}{cs:List Addr}{ws:List Str}(h:aD3 K few cs=true){j:Nat}{C:Addr}{w:Str}(h1:cs[j]? =some C)(h2:ws[j]? =some w):(cs.zip ws).lookup C=some w:=wC (λ i hi=>aKR h h1 hi) h1 h2
end L2
namespace VL
open PySem PySem.Spec PyProof.Rows L2
def aNN{K:zAA}{mg:Str->Option Value}{few c0 c1 c2 c3 c4 c5 c6 c7 c8 c9 c10 c11:Addr}{ws:List Str}{ns:List Str}(h:aD3 K few [c0,c1,c2,c3,c4,c5,c6,c7,c8,c9,c10,c11]=true)
  (hl:ns.map (VL.aZ mg)=[c0,c1,c2,c3,c4,c5,c6,c7,c8,c9,c10,c11]):∀c w,(ns.zip ws).lookup c=some w->([c0,c1,c2,c3,c4,c5,c6,c7,c8,c9,c10,c11].zip ws).lookup (VL.aZ mg c)=some w:=λ c w e=>by
 have go:∀(ns:List Str) (ws:List Str),(ns.zip ws).lookup c=some w->∃j:Nat,ns[j]? =some c/\ws[j]? =some w:=by
  intro ns;induction ns with
  |nil=>intro ws h;cases h
  |cons x ns ih=>
   intro ws h;cases ws with
   |nil=>cases h
   |cons y ws=>
    rw[zBB,zAu]at h;by_cases e:c==x
    .simp only[e]at h
     cases h;exact⟨0,by rw[zEJ e];rfl,rfl⟩
    .simp only[e]at h
     obtain⟨j,h1,h2⟩:=ih ws h;exact⟨j+1,h1,h2⟩
 obtain⟨j,h1,h2⟩:=go ns ws e;refine aNO h (j:=j) ?_ h2;rw[<-hl,zAW,h1];rfl
section
variable{O:zC3}{kz:Nat->O.α}{n:Nat}
def Wr{α:Type}(kz:Nat->O.α)(n:Nat):zGh α->(α->Prop)->Prop
 | .ret a,Q=>Q a
 | .ask i j k,Q=>i<n/\j<n/\Wr kz n (k (O.blt (kz i) (kz j))) Q
theorem Wr.bindI:∀{t:zGh α},Wr kz n t (λ a=>Wr kz n (g a) Q)->Wr kz n (t.bind g) Q
 | .ret _,h=>h
 | .ask _ _ _,⟨h1,h2,h3⟩=>⟨h1,h2,Wr.bindI h3⟩
abbrev Pm(n:Nat)(p:Array Nat):Prop:=p.Perm (zAj n).toArray
def Pm.sz(h:Pm n p):p.size=n:=by
 have:=h.size_eq
 simpa using this
def Pm.in(h:Pm n p)(hi:i<n):p.getD i 0<n:=by
 have hs:i<p.size:=by rw[h.sz];exact hi
 have e:p.getD i 0=p[i]:=by simp[zCQ,hs]
 rw[e];have hm:p[i]∈(zAj n).toArray:=h.mem_iff.mp (Array.getElem_mem hs);simpa using hm
def Kp(kz:Nat->O.α)(p:Array Nat)(i:Nat):O.α:=kz (p.getD i 0)
def aBd(h:p[i]? =q[j]?):Kp kz p i=Kp kz q j:=by
 unfold Kp;congr 1;rw[zB3,zB3,h]
def aH8(hs:c<p.size)(hd:d<=c)(k:Nat):
  Kp kz (bubble p c d) k=if k=c-d then Kp kz p c else if c-d<k/\k<=c then Kp kz p (k-1)else Kp kz p k:=by
 have e:=getElem?_bubble hs d hd k;by_cases u1:k=c-d
 .rw[if_pos u1]at e ⊢
  exact aBd e
 .rw[if_neg u1]at e ⊢
  by_cases u2:c-d<k/\k<=c
  .rw[if_pos u2]at e ⊢
   exact aBd e
  .rw[if_neg u2]at e ⊢
   exact aBd e
def aDO(hj:j<=p.size)(k:Nat):Kp kz (zE6 p i j) k=if i<=k/\k<j then Kp kz p (i+j-1-k)else Kp kz p k:=by
 unfold zE6;have e:=getElem?_mirror_all (i:=i) hj k;by_cases u1:i<=k/\k<j
 .rw[if_pos u1]at e ⊢
  exact aBd e
 .rw[if_neg u1]at e ⊢
  exact aBd e
def oE(hj:j<=p.size)(he:∀k,i<=k->k<j->Kp kz p k=Kp kz p (j-1))(k:Nat):Kp kz (zE6 p i j) k=Kp kz p k:=by
 rw[aDO hj];split
 .rw[he _ (by lia) (by lia),he k (by lia) (by lia)]
 .rfl
def Up(kz:Nat->O.α)(p:Array Nat)(k:Nat):Prop:=∀i j,i<=j->j<k->O.kle (Kp kz p i) (Kp kz p j)
def Dn(kz:Nat->O.α)(p:Array Nat)(k:Nat):Prop:=∀i j,i<=j->j<k->O.kle (Kp kz p j) (Kp kz p i)
def v6(h:Pm n p)(i j:Nat):Pm n (zE6 p i j):=(mirror_perm _ _ _ _).trans h
def Up.succ(h:Up kz p m)(hm:1<=m)(hl:O.kle (Kp kz p (m-1)) (Kp kz p m)):Up kz p (m+1):=by
 intro i j hij hj;by_cases q:j<m
 .exact h i j hij q
 .have q':j=m:=by lia
  subst q';by_cases q2:i=j
  .rw[q2];exact zDI _
  .exact zEV (h i (j-1) (by lia) (by lia)) hl
def Dn.succ(h:Dn kz p m)(hm:1<=m)(hl:O.kle (Kp kz p m) (Kp kz p (m-1))):Dn kz p (m+1):=by
 intro i j hij hj;by_cases q:j<m
 .exact h i j hij q
 .have q':j=m:=by lia
  subst q';by_cases q2:i=j
  .rw[q2];exact zDI _
  .exact zEV hl (h i (j-1) (by lia) (by lia))
theorem aCT(hp:Pm n p)(hr:r<=n):∀(f m:Nat),1<=m->m+f=r->Up kz p m->
  (∀m',1<=m'->m'<=r->Up kz p m'->(m'=r\/O.klt (Kp kz p m') (Kp kz p (m'-1)))->Q m')->Wr kz n (PySem.W.kas_asc p f m) Q
 |0,m,h1,hm,hu,k=>k m h1 (by lia) hu (.inl (by lia))
 |f+1,m,h1,hm,hu,k=>by
  refine⟨hp.in (by lia),hp.in (by lia),?_⟩;have hd:O.blt (kz (p.getD m 0)) (kz (p.getD (m-1) 0))=O.blt (Kp kz p m) (Kp kz p (m-1)):=rfl;rw[hd];cases hb:O.blt (Kp kz p m) (Kp kz p (m-1))with
  |true=>exact k m h1 (by lia) hu (.inr hb)
  |false=>exact aCT hp hr f (m+1) (by lia) (by lia) (hu.succ h1 hb) k
theorem uc(hr:r<=n):∀(f:Nat) (p:Array Nat) (m e:Nat),Pm n p->1<=m->m+f=r->Dn kz p m->e+1<=m->(∀i,m-(e+1)<=i->i<m->Kp kz p i=Kp kz p (m-1))->
  (∀p' m' e',Pm n p'->1<=m'->m'<=r->Dn kz p' m'->e'+1<=m'->(∀i,m'-(e'+1)<=i->i<m'->Kp kz p' i=Kp kz p' (m'-1))->Q (p',m',e'))->Wr kz n (PySem.W.kas_desc f p m e) Q
 |0,p,m,e,hp,h1,hm,hd,he,hq,k=>k p m e hp h1 (by lia) hd he hq
 |f+1,p,m,e,hp,h1,hm,hd,he,hq,k=>by
  have hsz:m<=p.size:=by rw[hp.sz];lia
  refine⟨hp.in (by lia),hp.in (by lia),?_⟩;have hx:O.blt (kz (p.getD m 0)) (kz (p.getD (m-1) 0))=O.blt (Kp kz p m) (Kp kz p (m-1)):=rfl;rw[hx];cases hb:O.blt (Kp kz p m) (Kp kz p (m-1))with
  |true=>
   have hd':Dn kz p (m+1):=hd.succ h1 (zFX hb);dsimp only;rw[if_pos rfl];by_cases hz:e>0
   .rw[if_pos hz]
    refine uc hr f _ (m+1) 0 (v6 hp _ _) (by lia) (by lia) (λ i j hij hj=>?_) (by lia) (λ i u v=>by congr 1;lia) k;rw[oE hsz hq,oE hsz hq];exact hd' i j hij hj
   .rw[if_neg hz]
    exact uc hr f p (m+1) 0 hp (by lia) (by lia) hd' (by lia) (λ i u v=>by congr 1;lia) k
  |false=>
   dsimp only;rw[if_neg (by simp)];refine⟨hp.in (by lia),hp.in (by lia),?_⟩;have hy:O.blt (kz (p.getD (m-1) 0)) (kz (p.getD m 0))=O.blt (Kp kz p (m-1)) (Kp kz p m):=rfl;rw[hy];cases hc:O.blt (Kp kz p (m-1)) (Kp kz p m)with
   |true=>exact k p m e hp h1 (by lia) hd he hq
   |false=>
    dsimp only;rw[if_neg (by simp)];have hee:Kp kz p m=Kp kz p (m-1):=zHN hc hb;refine uc hr f p (m+1) (e+1) hp (by lia) (by lia) (hd.succ h1 hc) (by lia) (λ i u v=>?_) k;rw[show m+1-1=m by lia];by_cases hi:i=m
    .rw[hi]
    .rw[hee]
     exact hq i (by lia) (by lia)
def aDb(hr:r<=n)(hp:Pm n p)(h1:1<=m)(hm:m<=r)(hd:Dn kz p m)(k:∀m' p',Pm n p'->1<=m'->m'<=r->Up kz p' m'->Q (m',p')):Wr kz n (PySem.W.kas_tail3 m r p) Q:=by
 have hsz:m<=p.size:=by rw[hp.sz];lia
 refine Wr.bindI (aCT (v6 hp 0 m) hr (r-m) m h1 (by lia) (λ i j hij hj=>?_) λ m' a1 a2 a3 _=>k m' _ (v6 hp 0 m) a1 a2 a3);rw[aDO hsz,aDO hsz,if_pos (by lia),if_pos (by lia)];exact hd _ _ (by lia) (by lia)
def tG(hr:r<=n)(hp:Pm n p)(hm:m+1<=r)(hd:Dn kz p (m+1))(k:∀m' p',Pm n p'->1<=m'->m'<=r->Up kz p' m'->Q (m',p')):Wr kz n (PySem.W.kas_descPart m r p) Q:=by
 refine Wr.bindI (uc hr (r-(m+1)) p (m+1) 0 hp (by lia) (by lia) hd (by lia) (λ i u v=>by congr 1;lia) λ p' m' e' a1 a2 a3 a4 a5 a6=>?_);have hsz:m'<=p'.size:=by rw[a1.sz];lia
 dsimp only;by_cases hz:e'>0
 .rw[if_pos hz]
  refine aDb hr (v6 a1 _ _) a2 a3 (λ i j hij hj=>?_) k;rw[oE hsz a6,oE hsz a6];exact a4 i j hij hj
 .rw[if_neg hz]
  exact aDb hr a1 a2 a3 a4 k
def aFx(hr:r<=n)(hp:Pm n p)(h1:1<=r)(k:∀m' p',Pm n p'->1<=m'->m'<=r->Up kz p' m'->Q (m',p')):Wr kz n (PySem.W.kas_count r p) Q:=by
 refine Wr.bindI (aCT hp hr (r-1) 1 (zAQ 1) (by lia) (λ i j hij hj=>by rw[show i=j by lia];exact zDI _) λ m a1 a2 a3 a4=>?_);by_cases hm:m=r
 .rw[if_pos (by simpa using hm)]
  exact k m p hp a1 a2 a3
 .rw[if_neg (by simpa using hm)]
  have hl:O.klt (Kp kz p m) (Kp kz p (m-1)):=a4.resolve_left hm;by_cases hg:m>1
  .rw[if_pos hg]
   refine⟨hp.in (by lia),hp.in (by lia),?_⟩;have hx:O.blt (kz (p.getD 0 0)) (kz (p.getD (m-1) 0))=O.blt (Kp kz p 0) (Kp kz p (m-1)):=rfl;rw[hx];cases hb:O.blt (Kp kz p 0) (Kp kz p (m-1))with
   |true=>exact k m p hp a1 a2 a3
   |false=>
    dsimp only;rw[if_neg (by simp)];have hsz:m<=p.size:=by rw[hp.sz];lia
    have aE:∀i,0<=i->i<m->Kp kz p i=Kp kz p (m-1):=λ i _ hi=>zHN (a3 i (m-1) (by lia) (by lia)) (zEV hb (a3 0 i (by lia) hi))
    refine tG hr (v6 hp 0 m) (by lia) (λ i j hij hj=>?_) k;rw[oE hsz aE,oE hsz aE];by_cases hjm:j<m
    .rw[aE i (by lia) (by lia),aE j (by lia) hjm];exact zDI _
    .have hj':j=m:=by lia
     subst hj';by_cases hi:i=j
     .rw[hi];exact zDI _
     .rw[aE i (by lia) (by lia)];exact zFX hl
  .rw[if_neg hg]
   have hm1:m=1:=by lia
   subst hm1;refine tG hr hp (by lia) (λ i j hij hj=>?_) k;by_cases hi:i=j
   .rw[hi];exact zDI _
   .have e1:i=0:=by lia
    have e2:j=1:=by lia
    subst e1 e2;exact zFX hl
theorem vB(hp:Pm n p)(hc:c<n)(hu:Up kz p c):∀(f l r:Nat),l<=r->r<=c->r-l<=f->(∀i,i<l->O.kle (Kp kz p i) (Kp kz p c))->(∀i,r<=i->i<c->O.klt (Kp kz p c) (Kp kz p i))->
  (∀l',l'<=c->(∀i,i<l'->O.kle (Kp kz p i) (Kp kz p c))->(∀i,l'<=i->i<c->O.klt (Kp kz p c) (Kp kz p i))->Q l')->Wr kz n (zH0 p c f l r) Q
 |0,l,r,a1,a2,a3,a4,a5,k=>by
  have e:l=r:=by lia
  subst e;exact k l a2 a4 a5
 |f+1,l,r,a1,a2,a3,a4,a5,k=>by
  unfold zH0;by_cases hg:l ≥ r
  .rw[if_pos hg]
   have e:l=r:=by lia
   subst e;exact k l a2 a4 a5
  .rw[if_neg hg]
   refine⟨hp.in hc,hp.in (by lia),?_⟩;have hx:O.blt (kz (p.getD c 0)) (kz (p.getD ((l+r) / 2) 0))=O.blt (Kp kz p c) (Kp kz p ((l+r) / 2)):=rfl;rw[hx];cases hb:O.blt (Kp kz p c) (Kp kz p ((l+r) / 2))with
   |true=>exact vB hp hc hu f l ((l+r) / 2) (by lia) (by lia) (by lia) a4 (λ i u v=>KeyOrd.klt_of_klt_of_kle hb (hu _ _ u v)) k
   |false=>exact vB hp hc hu f ((l+r) / 2+1) r (by lia) a2 (by lia) (λ i u=>zEV (hu i ((l+r) / 2) (by lia) (by lia)) hb) a5 k
theorem aFy:∀(f:Nat) (p:Array Nat) (c:Nat),Pm n p->c+f=n->Up kz p c->(∀p',Pm n p'->Up kz p' n->Q p')->Wr kz n (PySem.W.kas_bin f p c) Q
 |0,p,c,hp,hc,hu,k=>k p hp (by rw[show n=c by lia];exact hu)
 |f+1,p,c,hp,hc,hu,k=>by
  refine Wr.bindI (vB hp (by lia) hu c 0 c (by lia) (zAQ c) (by lia) (λ i u=>by lia) (λ i u v=>by lia) λ l a1 a2 a3=>?_);refine aFy f _ (c+1) ((bubble_perm _ _ _).trans hp) (by lia) (λ i j hij hj=>?_) k;have hs:c<p.size:=by rw[hp.sz];lia
  rw[aH8 hs (by lia),aH8 hs (by lia),show c-(c-l)=l by lia]
  repeat' split
  all_goals first
   |(exfalso;lia)
   |exact O.irrefl _
   |exact a2 _ (by lia)
   |exact KeyOrd.klt_asymm (a3 _ (by lia) (by lia))
   |exact hu _ _ (by lia) (by lia)
def aIc(h1:1<=n)(k:∀p,Pm n p->Up kz p n->Q p):Wr kz n (PySem.W.kas_sort n) Q:=by
 refine Wr.bindI (aFx (zAQ n) (zHJ _) h1 λ m p a1 a2 a3 a4=>?_);dsimp only;by_cases hm:m<n
 .rw[if_pos hm]
  exact aFy _ p _ a1 (by lia) (by rw[show max m 1=m by lia];exact a4) k
 .rw[if_neg hm]
  exact k p a1 (by rw[show n=m by lia];exact a4)
theorem aAj{I:zAE->Prop}(hc:∀i j (C:Bool->zAE->Prop) s,I s->i<n->j<n->(∀s',I s'->C (O.blt (kz i) (kz j)) s')->cmp i j C s):
  ∀(t:zGh α) (s:zAE),I s->Wr kz n t (λ a=>∀s',I s'->Q a s')->t.kasWp cmp Q s
 | .ret a,s,hI,h=>h s hI
 | .ask i j k,s,hI,⟨h1,h2,h3⟩=>hc i j _ s hI h1 h2 λ s' hI'=>aAj hc _ s' hI' h3
end
theorem aAO:∀a:List Int,HT.lexLt a a=false
 |[]=>rfl
 |x::a=>by rw[HT.iz,if_pos rfl];exact aAO a
theorem qe:∀a b c:List Int,HT.lexLt a b=true->HT.lexLt b c=true->HT.lexLt a c=true
 |[],[],c,h,_=>by cases h
 |[],_::_,[],_,h=>by cases h
 |[],_::_,_::_,_,_=>rfl
 |_::_,[],_,h,_=>by cases h
 |_::_,_::_,[],_,h=>by cases h
 |x::a,y::b,z::c,h1,h2=>by
  rw[HT.iz]at h1 h2 ⊢;by_cases e1:x=y
  .subst e1
   rw[if_pos rfl]at h1;by_cases e2:x=z
   .rw[if_pos e2]at h2 ⊢
    exact qe a b c h1 h2
   .rw[if_neg e2]at h2 ⊢
    exact h2
  .rw[if_neg e1]at h1
   simp only[decide_eq_true_eq]at h1;by_cases e2:y=z
   .subst e2
    rw[if_neg e1];simpa using h1
   .rw[if_neg e2]at h2
    simp only[decide_eq_true_eq]at h2;rw[if_neg (by lia)];simp only[decide_eq_true_eq];lia
theorem wA:∀a b:List Int,HT.lexLt a b=false->HT.lexLt b a=false->a=b
 |[],[],_,_=>rfl
 |[],_::_,h,_=>by cases h
 |_::_,[],_,h=>by cases h
 |x::a,y::b,h1,h2=>by
  rw[HT.iz]at h1 h2;by_cases e:x=y
  .subst e
   rw[if_pos rfl]at h1 h2;rw[wA a b h1 h2]
  .rw[if_neg e]at h1
   rw[if_neg λ q=>e q.symm]at h2;simp only[decide_eq_false_iff_not]at h1 h2;lia
def aHY(a b c:List Int)(h:HT.lexLt a c=true):HT.lexLt a b=true\/HT.lexLt b c=true:=by
 cases e1:HT.lexLt a b with
 |true=>exact .inl rfl
 |false=>
  right;cases e2:HT.lexLt b a with
  |true=>exact qe b a c e2 h
  |false=>rw[<-wA a b e1 e2];exact h
def aDH:zC3:=⟨List Int,HT.lexLt,aAO,qe,aHY,wA⟩
inductive bI(h:Heap):List Value->List (List Int)->Prop where
 |nil:bI h [] []
 |cons {x:Addr} {o:Obj} {xs:Array Value} {k:Nat} {ns:List Int} {vs:List Value} {nss:gV} (ho:h.get? x=some o) (hc:o.cls= .type "tuple") (hd:o.data= .seq xs k) (hi:zBV xs.toList ns) (hne:ns≠[]) (r:bI h vs nss):bI h (.ref x::vs) (ns::nss)
theorem bI.mono(k:∀x o,h.get? x=some o->o.cls= .type "tuple"->h'.get? x=some o):∀{vs:List Value} {nss:gV},bI h vs nss->bI h' vs nss
 |_,_,.nil=>.nil
 |_,_,.cons ho hc hd hi hne r=>.cons (k _ _ ho hc) hc hd hi hne (bI.mono k r)
theorem bI.len:∀{vs:List Value} {nss:gV},bI h vs nss->vs.length=nss.length
 |_,_,.nil=>rfl
 |_,_,.cons _ _ _ _ _ r=>by rw[zAO,zAO,r.len]
theorem bI.at:∀{vs:List Value} {nss:gV} {i:Nat},bI h vs nss->i<vs.length->∃x o xs k,vs.getD i zBn= .ref x/\h.get? x=some o/\o.cls= .type "tuple"/\o.data= .seq xs k/\zBV xs.toList (nss.getD i [])/\nss.getD i []≠[]
 |_,_,_,.nil,hi=>by simp at hi
 |_,_,0,.cons ho hc hd hi hne _,_=>⟨_,_,_,_,rfl,ho,hc,hd,hi,hne⟩
 |_,_,i+1,.cons _ _ _ _ _ r,hi=>by
  obtain⟨x,o,xs,k,q⟩:=bI.at (i:=i) r (by simpa using hi);exact⟨x,o,xs,k,by simpa using q⟩
theorem bI.firsts:∀{vs:List Value} {nss:gV},bI h vs nss->∃fs,PySem.W.KatTups h vs fs/\fs.length=vs.length/\∀f∈fs,∃n t,f=zCf n t
 |_,_,.nil=>⟨[],.nil,rfl,λ f hf=>by simp at hf⟩
 |_,_,.cons (xs:=xs) ho hc hd hi hne r=>by
  obtain⟨fs,h1,h2,h3⟩:=bI.firsts r;obtain⟨l,rfl⟩:∃l:List Value,xs=l.toArray:=⟨xs.toList,by simp⟩
  rw[show l.toArray.toList=l by simp]at hi;cases hi with
  |nil=>exact absurd rfl hne
  |cons n t q=>
   rename_i l' ns';refine⟨.int n t::fs,.cons ho hc hd (by simp) h1,by simp[h2],λ f hf=>?_⟩;rcases zAP.mp hf with rfl|hf
   .exact⟨n,t,rfl⟩
   .exact h3 f hf
section
variable{prog:zA3}{w:World}{A:zAc}{E:Value->zAE->Prop}{s:zAE}
def aBe:∀{xs ys:List Value} {ns ms:List Int} (i:Nat),zBV xs ns->zBV ys ms->fin=decide (xs.length<ys.length)->Q (HT.lexLt ns ms) s->PySem.W.KatLex prog w A b fin Q (xs.zip ys) i s:=by
 intro xs ys ns ms i hx;induction hx generalizing ys ms i with
 |nil=>intro hy hf q;cases hy<;>(subst hf;exact q)
 |@cons x t xs ns r ih=>
  intro hy hf q;cases hy with
  |nil=>subst hf;exact q
  |@cons y u ys ms r'=>?_
  rw[zBB];refine PySem.W.kat_cons (wpAny_eqBool_int ?_);rw[HT.iz]at q;by_cases e:x=y
  .rw[if_pos e]at q
   rw[show(x==y)=true by simpa using e];exact PySem.W.kat_yes (ih (i+1) r' (by rw[hf];simp) q)
  .rw[if_neg e]at q
   rw[show(x==y)=false by simpa using e];refine PySem.W.kat_no ?_;cases hb:(b&&i==0)with
   |true=>exact oneLt_int q
   |false=>exact PySem.W.kat_one _ _ (zGM q)
def aDQ(hx:s.heap.get? x=some ox)(dx:ox.data= .seq xs n)(hy:s.heap.get? y=some oy)(dy:oy.data= .seq ys k)(hi:zBV xs.toList ns)(hj:zBV ys.toList ms)
  (q:Q (HT.lexLt ns ms) s):wpAny (model prog w) A (keyLt' (tuples' b) (.ref x) (.ref y)) Q E s:=
 PySem.W.kat_lt hx dx hy dy (aBe 0 hi hj (by simp) q)
def oO(vs:List Value)(p:Array Nat):Array Value:=(p.toList.map λ i=>vs.getD i zBn).toArray
def aIb(h:vs.length<2):(vs.toArray.zip vs.toArray).map (·.2)=oO vs (zAj vs.length).toArray:=by
 cases vs with
 |nil=>simp[oO]
 |cons v t=>
  cases t with
  |nil=>simp[oO]
  |cons u t=>exact absurd h (zEW.mpr (Nat.le_add_left 2 t.length))
def aDG(ho:s.heap.get? a=some (zBu "list" vs.toArray c))(ht:bI s.heap vs nss)(h64:vs.length<64)
  (h:∀p:Array Nat,Pm vs.length p->Up (O:=aDH) (λ i=>nss.getD i []) p vs.length->P (.done (.ret .none)) {s with heap:=zGY s.heap a vs (oO vs p)}):
  wpAny (model prog w) A (zD4.«list.sort» ⟨[.ref a],[]⟩) P E s:=by
 have hlt:a<s.heap.objs.size:=zAT ho;have hz:vs.length<=zAY:=by rw[zBj];lia
 obtain⟨e1,ho1⟩:∃e1,(s.heap.update a (zDK λ _=>(#[]:Array Value))).get? a=some (zBu "list" #[] e1):=⟨_,zEK ho λ _=>#[]⟩
 have keep:∀x o,s.heap.get? x=some o->o.cls= .type "tuple"->(((s.heap.update a (zDK λ _=>(#[]:Array Value))).push (zBu "tuple" vs.toArray 0)).push (zBu "list" #[] 0)).get? x=some o:=λ x o e q=>by
  have hxa:x≠a:=λ z=>by
   subst z;rw[ho]at e;cases e;exact absurd q (show¬(zBt "list"=zBt "tuple")by decide)
  refine zAC _ (zAC _ ?_);rw[zC4 _ _ _ _ hxa];exact e
 have ho6:(((s.heap.update a (zDK λ _=>(#[]:Array Value))).push (zBu "tuple" vs.toArray 0)).push (zBu "list" #[] 0)).get? a=some (zBu "list" #[] e1):=zAC _ (zAC _ ho1);have ht6:=ht.mono keep;rw[list_sort_plain];refine zAB (listItems_at ho rfl (zAB (zHz ho rfl ?_ (by rw[zAX];exact hz) (zAa _))));refine zAB (zIx ho1 rfl (zAB (wpAny_newTuple ?_ (by show vs.length<=_;exact hz))));refine zAB (zIE (zBW ?_) (zAa _));show wpAny (model prog w) A _ P E {s with heap:=((s.heap.update a (zDK λ _=>(#[]:Array Value))).push (zBu "tuple" vs.toArray 0)).push (zBu "list" #[] 0)};dsimp only;have hsz:∀p:Array Nat,Pm vs.length p->(oO vs p).size=vs.length:=λ p a1=>by unfold oO;rw[zAX,zAD,zAU,a1.sz]
 by_cases h2:vs.toArray.size<2
 .rw[if_pos h2,if_pos h2]
  refine zAB (zAI ?_);rw[StateT.run_pure];refine zAB (zAI ?_);have h2':vs.length<2:=by simpa using h2
  have a1:Pm vs.length (zAj vs.length).toArray:=zHJ _;have a3:=aIb h2';dsimp only;refine zAB (zIx ho6 rfl ?_);show wpAny (model prog w) A (Builtin.List.listUpdate (.ref a) (λ _=>(vs.toArray.zip vs.toArray).map (·.2))>>=_) P E _;rw[a3];refine zAB (zHz ho6 rfl ?_ (zAa _) (by show(oO vs _).size<=_;rw[hsz _ a1];lia));simp only[bne_self_eq_false,zA4,if_false];exact zAI (h _ a1 λ i j hij hj=>by rw[show i=j by lia];exact aAO _)
 .rw[if_neg h2,if_neg h2]
  have h2':2<=vs.length:=zE9 (show¬vs.length<2 by simpa using h2);obtain⟨fs,f1,f2,f3⟩:=ht6.firsts;refine zAB (PySem.W.kat_kind (T:=.type "int") f1 (by lia) (λ v hv=>?_) (by decide) ?_)
  .obtain⟨n,t,rfl⟩:=f3 v hv
   exact zJ0
  rw[show(zBt "int" !=zBt "tuple")=true by decide];refine zAB (zAw (PySem.W.kat_run (κ:=tuples' true) (ks:=vs) (vs:=vs) (Q:=λ st s'=>s'={s with heap:=((s.heap.update a (zDK λ _=>(#[]:Array Value))).push (zBu "tuple" vs.toArray 0)).push (zBu "list" #[] 0)}/\∃p:Array Nat,Pm vs.length p/\Up (O:=aDH) (λ i=>nss.getD i []) p vs.length/\(arrOf st).map (·.2)=oO vs p/\zGt st=none)
   (G:=λ p s'=>s'={s with heap:=((s.heap.update a (zDK λ _=>(#[]:Array Value))).push (zBu "tuple" vs.toArray 0)).push (zBu "list" #[] 0)}/\Pm vs.length p/\Up (O:=aDH) (λ i=>nss.getD i []) p vs.length)
   rfl h2' h64 (λ p st s' _ b2 b3 b4=>⟨b4.1,p,b4.2.1,b4.2.2,PySem.W.kat_snds rfl b2,b3⟩) ?_) (λ r s' hr=>?_) λ _ _ e=>e)
  .refine aAj (O:=aDH) (kz:=λ i=>nss.getD i []) (n:=vs.length) (I:=λ s'=>s'={s with heap:=((s.heap.update a (zDK λ _=>(#[]:Array Value))).push (zBu "tuple" vs.toArray 0)).push (zBu "list" #[] 0)}) (λ i j C s' hI hi hj hC=>?_) _ _ rfl (aIc (by lia) λ p a1 a2 s' hs'=>⟨hs',a1,a2⟩)
   subst hI;unfold PySem.W.kas_ask;obtain⟨x,ox,xs,kx,x1,x2,_,x4,x5,_⟩:=ht6.at hi;obtain⟨y,oy,ys,ky,y1,y2,_,y4,y5,_⟩:=ht6.at hj;rw[x1,y1];exact aDQ x2 x4 y2 y4 x5 y5 (hC _ rfl)
  .obtain⟨⟨⟩,st⟩:=r
   obtain⟨e,p,b1,b2,b3,b4⟩:=hr;subst e;refine zAB (zIx ho6 rfl ?_);rw[b3,b4];refine zAB (zHz ho6 rfl ?_ (zAa _) (by show(oO vs p).size<=_;rw[hsz p b1];lia));simp only[bne_self_eq_false,zA4,if_false];exact zAI (h p b1 b2)
end
theorem sub_len[BEq α][LawfulBEq α]:∀{l l':List α},l.Nodup->(∀x∈l,x∈l')->l.length<=l'.length
 |[],_,_,_=>zAa _
 |x::l,l',nd,h=>by
  have hx:x∈l':=h x zAF;have ih:=sub_len (l:=l) (l':=l'.erase x) (zAb.mp nd).2 λ y hy=>(zHV λ e=>by subst e;exact(zAb.mp nd).1 hy).mpr (h y (zAG _ hy))
  rw[zGd hx]at ih
  have:0<l'.length:=zGw hx
  rw[zAO];lia
def Ris(xs:Array Nat):Prop:=∀i j,i<j->j<xs.size->xs.getD i 0<xs.getD j 0
theorem aAd(hr:Ris xs):∀(f lo hi:Nat),lo<=hi->hi<=xs.size->hi-lo<=f->(∀i,i<lo->xs.getD i 0<j)->(∀i,hi<=i->i<xs.size->j<=xs.getD i 0)->
  zDf xs j f lo hi<=xs.size/\(∀i,i<zDf xs j f lo hi->xs.getD i 0<j)/\∀i,zDf xs j f lo hi<=i->i<xs.size->j<=xs.getD i 0
 |0,lo,hi,h1,h2,h3,h4,h5=>by
  have e:lo=hi:=by lia
  subst e;exact⟨h2,h4,h5⟩
 |f+1,lo,hi,h1,h2,h3,h4,h5=>by
  unfold zDf;by_cases hl:lo<hi
  .rw[if_pos hl]
   dsimp only;have hm:(lo+hi) / 2<xs.size:=by lia
   have e:xs.getD ((lo+hi) / 2) j=xs.getD ((lo+hi) / 2) 0:=by simp[zCQ,hm]
   rw[e];by_cases hc:xs.getD ((lo+hi) / 2) 0<j
   .rw[if_pos hc]
    refine aAd hr f _ hi (by lia) h2 (by lia) (λ i hi'=>?_) h5;by_cases q:i=(lo+hi) / 2
    .rw[q];exact hc
    .exact zFt (hr i ((lo+hi) / 2) (by lia) hm) hc
   .rw[if_neg hc]
    refine aAd hr f lo _ (by lia) (by lia) (by lia) h4 λ i q1 q2=>?_
    by_cases q:i=(lo+hi) / 2
    .rw[q];lia
    .have:=hr ((lo+hi) / 2) i (by lia) q2
     lia
  .rw[if_neg hl]
   have e:lo=hi:=by lia
   subst e;exact⟨h2,h4,h5⟩
def rA(hr:Ris xs)(j:Nat):zAn xs j<=xs.size/\(∀i,i<zAn xs j->xs.getD i 0<j)/\∀i,zAn xs j<=i->i<xs.size->j<=xs.getD i 0:=
 aAd hr xs.size 0 xs.size (zAa _) (zAQ _) (by lia) (λ i h=>by lia) λ i h1 h2=>by lia
structure cV(t:zCT)(n:Nat):Prop where
 dum:t.dummies=#[]
 siz:t.place.size=n
 ris:Ris t.place
 top:∀i,i<n->t.place.getD i 0<=t.mask
 msk:t.mask=7/\n<5\/t.mask=31/\n<19\/t.mask=127/\n<77
 pla:t.plain=true
def cV.fresh(led:Bool):cV (zHv 0 0 led) 0:=⟨rfl,rfl,λ i j _ h=>by simp[zHv]at h,λ i h=>by lia,.inl ⟨rfl,by lia⟩,rfl⟩
def cV.few(h:cV t n):n<t.mask:=by
 rcases h.msk with ⟨e,l⟩|⟨e,l⟩|⟨e,l⟩<;>lia
theorem cV.fill(h:cV t n):t.fill=n:=by unfold zIV;rw[h.dum,h.siz];rfl
theorem cV.fits(h:cV t n):t.fits n=true:=by
 unfold zIW;rw[h.fill,h.siz]
 have:=h.few
 simp;lia
def qP(h:cV t n)(j:Nat):t.slot j= .empty\/∃i,i<n/\t.slot j= .live i/\t.place.getD i 0=j:=by
 unfold zIY;dsimp only;by_cases e:(t.place[zAn t.place j]? ==some j)=true
 .rw[if_pos e]
  have e':=beq_iff_eq.mp e;obtain⟨h1,h2⟩:=zBh.mp e';exact .inr ⟨_,by rw[<-h.siz];exact h1,rfl,by simp[zCQ,h1,h2]⟩
 .rw[if_neg e]
  have:zE0 t.dummies j=false:=by rw[h.dum];unfold zE0;simp
  rw[this];exact .inl (by simp)
def aAu(h:cV t n)(e:t.slot j= .empty):∀i,i<n->t.place.getD i 0≠j:=by
 intro i hi q;obtain⟨b1,b2,b3⟩:=rA h.ris j;have hb:zAn t.place j=i:=by
  rcases zFi (zAn t.place j) i with z|z|z
  .have z1:=b3 _ (zAQ _) (by rw[h.siz];lia)
   have z2:=h.ris _ i z (by rw[h.siz];exact hi);lia
  .exact z
  .have:=b2 i z
   lia
 have hi':i<t.place.size:=by rw[h.siz];exact hi
 have e2:t.place[i]? =some j:=by rw[zBh];exact⟨hi',by rw[<-q];simp[zCQ,hi']⟩
 unfold zIY at e;dsimp only at e;rw[hb,e2]at e;simp at e
def lu(mask:Nat):Nat->Nat×Nat->Nat×Nat
 |0,st=>st
 |k+1,st=>lu mask k (zAp mask st.1 st.2)
theorem aB2(mask:Nat):∀(k:Nat) (st:Nat×Nat),(lu mask k st).2=st.2 / 32^k
 |0,st=>by simp[lu]
 |k+1,st=>by
  show(lu mask k (zAp mask st.1 st.2)).2=_
  rw[aB2 mask k];show st.2 / 32 / 32^k=_;rw[Nat.div_div_eq_div_mul,zHZ,zFv]
theorem aB5(mask:Nat):∀(j k:Nat) (st:Nat×Nat),lu mask (j+k) st=lu mask k (lu mask j st)
 |0,k,st=>by rw[zFx];rfl
 |j+1,k,st=>by
  rw[show j+1+k=(j+k)+1 by lia];exact aB5 mask j k _
def orb(M:Nat):Nat->Nat->Nat
 |0,i=>i
 |k+1,i=>orb M k ((i*5+1)%M)
theorem um(M:Nat):∀(j k i:Nat),orb M (j+k) i=orb M k (orb M j i)
 |0,k,i=>by rw[zFx];rfl
 |j+1,k,i=>by
  rw[show j+1+k=(j+k)+1 by lia];exact um M j k _
theorem aB3(mask:Nat):∀(k i:Nat),lu mask k (i,0)=(orb (mask+1) k i,0)
 |0,i=>rfl
 |k+1,i=>by
  show lu mask k (zAp mask i 0)=_
  have:zAp mask i 0=((i*5+1)%(mask+1),0):=by simp[zAp]
  rw[this];exact aB3 mask k _
def aFN:∀M∈[8,32,128],(∀t∈zAj M,∃k∈zAj M,orb M k 0=t)/\orb M M 0=0:=by decide+kernel
def aJZ(hm:mask=7\/mask=31\/mask=127)(hi:i<=mask)(ht:t<=mask):∃k,k<=mask/\orb (mask+1) k i=t:=by
 have hM:mask+1∈[8,32,128]:=by rcases hm with e|e|e<;>subst e<;>decide
 obtain⟨h1,h2⟩:=aFN _ hM;obtain⟨a,ha,ea⟩:=h1 i (by simp;lia);obtain⟨b,hb,eb⟩:=h1 t (by simp;lia);simp only[zBF]at ha hb;by_cases hab:a<=b
 .refine⟨b-a,by lia,?_⟩
  rw[<-ea,<-um,show a+(b-a)=b by lia,eb]
 .refine⟨mask+1-a+b,by lia,?_⟩
  rw[<-ea,<-um,show a+(mask+1-a+b)=(mask+1)+b by lia,um,h2,eb]
def aKU(h:Int):zAs h<2^64:=by
 unfold zAs;have h1:=zDu h (show(2^64:Int)≠0 by decide);have h2:=zDV h (show(0:Int)<2^64 by decide);lia
def aB4(hm:mask=7\/mask=31\/mask=127)(h:Int)(ht:t<=mask)(yB:Nat):∃k,k<mask+15/\(lu mask k (yB,zAs h)).1=t:=by
 have e1:(lu mask 13 (yB,zAs h)).2=0:=by
  rw[aB2]
  have:=aKU h
  exact Nat.div_eq_of_lt (zFt this (by decide))
 have e2:(lu mask 13 (yB,zAs h)).1<=mask:=by
  show(lu mask 12 (zAp mask yB (zAs h))).1<=mask
  have go:∀k (st:Nat×Nat),st.1<=mask->(lu mask k st).1<=mask:=by
   intro k;induction k with
   |zero=>intro st q;exact q
   |succ k ih=>
    intro st q;refine ih _ ?_
    show(st.1*5+1+st.2 / 32)%(mask+1)<=mask
    exact zCH (zD5 _ (zDJ _))
  refine go 12 _ ?_
  show(yB*5+1+zAs h / 32)%(mask+1)<=mask
  exact zCH (zD5 _ (zDJ _))
 obtain⟨k,hk,ek⟩:=aJZ hm e2 ht;refine⟨13+k,by lia,?_⟩;rw[aB5];have e3:lu mask 13 (yB,zAs h)=((lu mask 13 (yB,zAs h)).1,0):=by rw[<-e1]
 rw[e3,aB3];exact ek
def rz(hi:i<=mask):i<=zAg mask i/\zAg mask i<=mask/\zAg mask i<=i+9:=by
 unfold zAg;split<;>lia
section
variable{t:zCT}{n:Nat}{hashAt:Nat->Int}{h:Int}
abbrev aDt(t:zCT)(i pert:Nat):zCA:={j:=i,more:=zAg t.mask i-i,i:=i,perturb:=pert,dummy:=none}
def wV(fuel:Nat)(p:zCA):zBd t hashAt h (fuel+1) p=(match t.slot p.j with
  | .empty=>some (.empty p.j p.dummy)
  | .dummy=>zBd t hashAt h fuel (t.advance {p with dummy:=some p.j})
  | .live i=>if hashAt i==h then some (.candidate p.j i (t.advance p))else zBd t hashAt h fuel (t.advance p)):=rfl
theorem aHu(T:cV t n)(hh:∀i,i<n->hashAt i≠h):∀(m fuel:Nat) (p:zCA),p.more=m->p.dummy=none->
  (∃j,p.j<=j/\j<=p.j+m/\t.slot j= .empty/\zBd t hashAt h (fuel+m+1) p=some (.empty j none))\/
  (t.slot p.j≠.empty/\zBd t hashAt h (fuel+m+1) p=zBd t hashAt h fuel (aDt t (zAp t.mask p.i p.perturb).1 (zAp t.mask p.i p.perturb).2))
 |0,fuel,p,hm,hd=>by
  rw[show fuel+0+1=fuel+1 from rfl,wV];rcases qP T p.j with e|⟨i,hi,e,_⟩
  .rw[e]
   exact .inl ⟨p.j,zAQ _,zAQ _,e,by rw[hd]⟩
  .rw[e]
   right;refine⟨by simp,?_⟩;dsimp only;rw[if_neg (by simpa using hh i hi)];congr 1;unfold zH2;rw[if_neg (by lia)];simp[aDt,hd]
 |m+1,fuel,p,hm,hd=>by
  rw[wV];rcases qP T p.j with e|⟨i,hi,e,_⟩
  .rw[e]
   exact .inl ⟨p.j,zAQ _,by lia,e,by rw[hd]⟩
  .rw[e]
   dsimp only;rw[if_neg (by simpa using hh i hi)];have ha:t.advance p={p with j:=p.j+1,more:=p.more-1}:=by
    unfold zH2;rw[if_pos (by lia)]
   rw[ha];rcases aHu T hh m fuel {p with j:=p.j+1,more:=p.more-1} (by show p.more-1=m;lia) hd with ⟨j,q1,q2,q3,q4⟩|⟨q1,q2⟩
   .exact .inl ⟨j,by show p.j<=j;have:p.j+1<=j:=q1;lia,by have:j<=p.j+1+m:=q2;lia,q3,q4⟩
   .exact .inr ⟨by simp,q2⟩
theorem aE2(T:cV t n)(hh:∀i,i<n->hashAt i≠h):∀(N fuel i pert:Nat),i<=t.mask->10*N<=fuel->
  (∃j,j<=t.mask/\t.slot j= .empty/\zBd t hashAt h fuel (aDt t i pert)=some (.empty j none))\/∀k,k<N->t.slot (lu t.mask k (i,pert)).1≠.empty
 |0,fuel,i,pert,hi,hf=>.inr λ k hk=>by lia
 |N+1,fuel,i,pert,hi,hf=>by
  obtain⟨r1,r2,r3⟩:=rz hi;obtain⟨f',rfl⟩:∃f',fuel=f'+(zAg t.mask i-i)+1:=⟨fuel-(zAg t.mask i-i)-1,by lia⟩
  rcases aHu T hh (zAg t.mask i-i) f' (aDt t i pert) rfl rfl with ⟨j,q1,q2,q3,q4⟩|⟨q1,q2⟩
  .exact .inl ⟨j,by have:j<=i+(zAg t.mask i-i):=q2;lia,q3,q4⟩
  .have hl:(zAp t.mask i pert).1<=t.mask:=zCH (zD5 _ (zDJ _))
   rcases aE2 T hh N f' _ (zAp t.mask i pert).2 hl (by lia)with ⟨j,s1,s2,s3⟩|s
   .exact .inl ⟨j,s1,s2,q2.trans s3⟩
   .right
    intro k hk;cases k with
    |zero=>exact q1
    |succ k=>exact s k (by lia)
def cV.mask3(T:cV t n):t.mask=7\/t.mask=31\/t.mask=127:=by
 rcases T.msk with ⟨e,_⟩|⟨e,_⟩|⟨e,_⟩
 .exact .inl e
 .exact .inr (.inl e)
 .exact .inr (.inr e)
def vd(T:cV t n)(hh:∀i,i<n->hashAt i≠h):∃j,j<=t.mask/\t.slot j= .empty/\t.probe hashAt h (t.probeStart h)=some (.empty j none):=by
 have hs:zAs h%(t.mask+1)<=t.mask:=zCH (zD5 _ (zDJ _));rcases aE2 T hh (t.mask+15) (10*zBM t.mask) _ (zAs h) hs (by unfold zBM;lia)with z|z
 .exact z
 .exfalso
  have aE:∀x∈zAj (t.mask+1),x∈t.place.toList:=by
   intro x hx;simp only[zBF]at hx;obtain⟨k,hk,ek⟩:=aB4 T.mask3 h (t:=x) (by lia) (zAs h%(t.mask+1))
   have:=z k hk
   rw[ek]at this;rcases qP T x with e|⟨i,hi,_,e⟩
   .exact absurd e this
   .rw[<-e]
    have hi':i<t.place.size:=by rw[T.siz];exact hi
    rw[show t.place.getD i 0=t.place[i]by simp[zCQ,hi']];exact zG1 hi'
  have:=sub_len zI9 aE
  have h2:=T.few;rw[zF8,zAU,T.siz]at this;lia
end
def uo(xs:Array α)(p:Nat)(x d:α)(hp:p<=xs.size)(i:Nat):(zAr xs p x).getD i d=if i<p then xs.getD i d else if i=p then x else xs.getD (i-1) d:=by
 have e:∀(ys:Array α) i,ys.getD i d=(ys.toList[i]?).getD d:=λ ys i=>by rw[zB3,zAd]
 rw[e,e,e,zDy];have hl:p<=xs.toList.length:=by simpa using hp
 by_cases h1:i<p
 .rw[if_pos h1,zB9 (by rw[zBx];lia),List.getElem?_take,if_pos h1]
 .rw[if_neg h1,zCu (by rw[zBx];lia),zBx,Nat.min_eq_left hl]
  by_cases h2:i=p
  .rw[if_pos h2,h2,zFw]
   rfl
  .rw[if_neg h2,show i-p=(i-p-1)+1 by lia,zC5,List.getElem?_drop]
   congr 2;lia
def nA(xs:Array α)(p:Nat)(x:α):(zAr xs p x).size=xs.size+1:=by
 rw[<-zAU,(zET xs p x).length_eq,zEH];simp
def tH{t:zCT}(hf:t.fill=n):t.tooFull=decide (t.mask*3<=n*5):=by unfold SetTable.tooFull;rw[hf]
structure lZ(t:zCT)(n:Nat):Prop where
 dum:t.dummies=#[]
 siz:t.place.size=n
 ris:Ris t.place
 top:∀i,i<n->t.place.getD i 0<=t.mask
 msk:t.mask=7/\n<=5\/t.mask=31/\n<=19\/t.mask=127/\n<77
 pla:t.plain=true
theorem lZ.fill(h:lZ t n):t.fill=n:=by unfold zIV;rw[h.dum,h.siz];rfl
theorem lZ.fits(h:lZ t n):t.fits n=true:=by
 unfold zIW;rw[h.fill,h.siz]
 have:=h.msk
 simp;lia
def aGo(T:cV t n)(h64:n<76)(hj:j<=t.mask)(he:t.slot j= .empty):lZ (t.put j).1 (n+1)/\(t.put j).2=zAn t.place j/\(t.put j).2<=n/\(t.put j).1.mask=t.mask/\(t.put j).1.led=t.led:=by
 have hno:=aAu T he;obtain⟨b1,b2,b3⟩:=rA T.ris j;have hsz:=T.siz;have hg:=uo t.place (zAn t.place j) j 0 b1;refine⟨⟨?_,?_,?_,?_,?_,T.pla⟩,rfl,by rw[<-hsz];exact b1,rfl,rfl⟩
 .show(if zE0 t.dummies j then SetTable.eraseAt t.dummies (zAn t.dummies j)else t.dummies)=#[]
  rw[T.dum]
  have:zE0 #[] j=false:=by unfold zE0;simp
  rw[this];rfl
 .show(zAr t.place _ j).size=n+1
  rw[nA,hsz]
 .intro a b hab hb
  have hb':b<n+1:=by
   have:b<(zAr t.place (zAn t.place j) j).size:=hb
   rw[nA,hsz]at this;exact this
  show(zAr t.place (zAn t.place j) j).getD a 0<(zAr t.place (zAn t.place j) j).getD b 0
  rw[hg,hg];by_cases a1:a<zAn t.place j
  .rw[if_pos a1]
   by_cases c1:b<zAn t.place j
   .rw[if_pos c1];exact T.ris a b hab (by lia)
   .rw[if_neg c1]
    by_cases c2:b=zAn t.place j
    .rw[if_pos c2];exact b2 a a1
    .rw[if_neg c2]
     exact T.ris a (b-1) (by lia) (by lia)
  .rw[if_neg a1,if_neg (show¬b<zAn t.place j by lia),if_neg (show¬b=zAn t.place j by lia)]
   by_cases a2:a=zAn t.place j
   .rw[if_pos a2]
    have q1:=b3 (b-1) (by lia) (by lia);have q2:=hno (b-1) (by lia);lia
   .rw[if_neg a2]
    exact T.ris (a-1) (b-1) (by lia) (by lia)
 .intro i hi
  show(zAr t.place (zAn t.place j) j).getD i 0<=t.mask
  rw[hg];split
  .exact T.top i (by lia)
  .split
   .exact hj
   .exact T.top (i-1) (by lia)
 .have:=T.msk
  show t.mask=7/\n+1<=5\/t.mask=31/\n+1<=19\/t.mask=127/\n+1<77;lia
def lZ.still{t:zCT}(h:lZ t n)(hf:t.tooFull=false):cV t n:=by
 rw[tH h.fill]at hf;simp only[decide_eq_false_iff_not]at hf;refine⟨h.dum,h.siz,h.ris,h.top,?_,h.pla⟩;rcases h.msk with ⟨e,l⟩|⟨e,l⟩|⟨e,l⟩<;>rw[e]at hf
 .exact .inl ⟨e,by lia⟩
 .exact .inr (.inl ⟨e,by lia⟩)
 .exact .inr (.inr ⟨e,by lia⟩)
def lZ.full{t:zCT}(h:lZ t n)(h64:n<=76)(hf:t.tooFull=true):n=5\/n=19:=by
 rw[tH h.fill]at hf;simp only[decide_eq_true_eq]at hf
 have:=h.msk
 lia
def heldBy(owner:Array (Option Nat)):List Nat:=owner.toList.filterMap id
theorem wU:∀(l:kQ) (j x:Nat),l[j]? =some none->((l.set j (some x)).filterMap id).Perm (x::l.filterMap id)
 |[],j,x,h=>by simp at h
 |a::l,0,x,h=>by
  simp at h;subst h;exact zBL _
 |none::l,j+1,x,h=>by
  have ih:=wU l j x (by simpa using h);simpa using ih
 |some a::l,j+1,x,h=>by
  have ih:=wU l j x (by simpa using h)
  have:(((some a::l).set (j+1) (some x)).filterMap id).Perm (a::x::l.filterMap id):=by
   simpa using ih.cons a
  exact this.trans (zDn _ _ _)
theorem yf:∀(l:kQ),(∀j,j<l.length->∃x,l[j]? =some (some x))->(l.filterMap id).length=l.length
 |[],_=>rfl
 |a::l,h=>by
  obtain⟨x,e⟩:=h 0 (by simp);have ex:a=some x:=by simpa using e
  subst ex;have ih:=yf l λ j hj=>by simpa using h (j+1) (by simpa using hj)
  simp[ih]
theorem aE3(ho:owner.size=mask+1):∀(N i pert:Nat),i<=mask->
  (∃j,owner.toList[j]? =some none/\zBO mask owner N i pert=some j)\/∀k,k<N->∃x,owner.toList[(lu mask k (i,pert)).1]? =some (some x)
 |0,i,pert,hi=>.inr λ k hk=>by lia
 |N+1,i,pert,hi=>by
  obtain⟨r1,r2,r3⟩:=rz hi;have eJ:zBO mask owner (N+1) i pert=(match (zAj (zAg mask i+1-i)).find? λ k=>(owner.getD (i+k) (some 0)).isNone with
   |some k=>some (i+k)
   |none=>zBO mask owner N (zAp mask i pert).1 (zAp mask i pert).2):=rfl
  rw[eJ];cases hf:(zAj (zAg mask i+1-i)).find? λ k=>(owner.getD (i+k) (some 0)).isNone with
  |some k=>
   left;have h1:=zG4 hf;have h2:=List.find?_some hf;simp only[zBF]at h1;have hlt:i+k<owner.size:=by lia
   refine⟨i+k,?_,rfl⟩;have e:owner.getD (i+k) (some 0)=owner[i+k]:=by simp[zCQ,hlt]
   rw[e]at h2;rw[zAd,zBh];exact⟨hlt,by simpa using h2⟩
  |none=>
   have h0:=zHo.mp hf 0 (by simp;lia);have hlt:i<owner.size:=by lia
   have e:owner.getD (i+0) (some 0)=owner[i]:=by simp[zCQ,hlt]
   rw[e]at h0;have hl:(zAp mask i pert).1<=mask:=zCH (zD5 _ (zDJ _));rcases aE3 ho N _ (zAp mask i pert).2 hl with ⟨j,s1,s2⟩|s
   .exact .inl ⟨j,s1,s2⟩
   .right
    intro k hk;cases k with
    |zero=>
     show∃x,owner.toList[i]? =some (some x)
     rw[zAd];cases q:owner[i]with
     |none=>rw[q]at h0;simp at h0
     |some x=>exact⟨x,by rw[zBh];exact⟨hlt,q⟩⟩
    |succ k=>exact s k (by lia)
def aFb(hm:mask=7\/mask=31\/mask=127)(ho:owner.size=mask+1)(hfew:(heldBy owner).length<mask+1)(h:Int):
  ∃j,owner.toList[j]? =some none/\zBO mask owner (zBM mask) (zAs h%(mask+1)) (zAs h)=some j:=by
 rcases aE3 ho (zBM mask) _ (zAs h) (zCH (zD5 (zAs h) (zDJ mask)))with z|z
 .exact z
 .exfalso
  have:=yf owner.toList λ j hj=>by
   rw[zAU,ho]at hj;obtain⟨k,hk,ek⟩:=aB4 hm h (t:=j) (by lia) (zAs h%(mask+1));obtain⟨x,e⟩:=z k (by unfold zBM;lia);rw[ek]at e;exact⟨x,e⟩
  unfold heldBy at hfew;rw[this,zAU]at hfew;lia
def fY(mask:Nat)(acc:Option (Array (Option Nat)×Nat))(h:Int):Option (Array (Option Nat)×Nat):=do
 let(owner,k) <-acc
 let j <-zBO mask owner (zBM mask) (zAs h%(mask+1)) (zAs h)
 pure (owner.setIfInBounds j (some k),k+1)
theorem wL(hm:mask=7\/mask=31\/mask=127):∀(hs:List Int) (owner:Array (Option Nat)) (k:Nat),owner.size=mask+1->(heldBy owner).Perm (zAj k)->k+hs.length<=mask->
  ∃owner',hs.foldl (fY mask) (some (owner,k))=some (owner',k+hs.length)/\owner'.size=mask+1/\(heldBy owner').Perm (zAj (k+hs.length))
 |[],owner,k,ho,hp,hl=>⟨owner,rfl,ho,hp⟩
 |h::hs,owner,k,ho,hp,hl=>by
  rw[zAO]at hl;obtain⟨j,e1,e2⟩:=aFb hm ho (by rw[hp.length_eq,zF8];lia) h;have hst:fY mask (some (owner,k)) h=some (owner.setIfInBounds j (some k),k+1):=by
   unfold fY;simp[e2]
  rw[zBI,hst];obtain⟨o',f1,f2,f3⟩:=wL hm hs (owner.setIfInBounds j (some k)) (k+1) (by simpa using ho) (by
   unfold heldBy;rw[zDs];refine(wU owner.toList j k e1).trans ?_;rw[zGL];exact(zHb k hp).trans (List.perm_append_singleton k _).symm) (by lia)
  refine⟨o',?_,f2,?_⟩
  .rw[f1,zAO,show k+1+hs.length=k+(hs.length+1)by lia]
  .rw[zAO,show k+(hs.length+1)=k+1+hs.length by lia]
   exact f3
def aBi(m:Nat):heldBy (zDl m none)=[]:=by
 unfold heldBy;rw[zGo];induction m with
 |zero=>rfl
 |succ m ih=>rw[zBp];simpa using ih
def aB9(hm:mask=7\/mask=31\/mask=127)(hs:Array Int)(hl:hs.size<=mask):∃owner,zDx mask hs=some owner/\owner.size=mask+1/\(heldBy owner).Perm (zAj hs.size):=by
 obtain⟨o',f1,f2,f3⟩:=wL hm hs.toList (zDl (mask+1) none) 0 (by simp) (by rw[aBi];exact zBL _) (by simpa using hl);refine⟨o',?_,f2,by simpa using f3⟩;have e:zDx mask hs=(hs.foldl (fY mask) (some (zDl (mask+1) none,0))).map (·.1):=rfl;rw[e,<-zH9,f1];rfl
def dF(owner:Array (Option Nat))(m:Nat):List (Nat×Nat):=(zAj m).filterMap λ j=>(owner.getD j none).map (j,·)
theorem aB0:∀(l:kQ) (b:Nat) (f:Nat->Option Nat),(∀i,i<l.length->f (b+i)=(l[i]?).getD none)->
  ((zHg b l.length).filterMap λ j=>(f j).map (j,·)).map (·.2)=l.filterMap id
 |[],_,_,_=>rfl
 |a::l,b,f,h=>by
  have h0:=h 0 (by simp);simp at h0;have ih:=aB0 l (b+1) f λ i hi=>by
   have:=h (i+1) (by simpa using hi)
   rw[show b+(i+1)=b+1+i by lia]at this;simpa using this
  rw[zAO,zIa,zBQ,h0];cases a with
  |none=>simpa using ih
  |some x=>simpa using ih
def aDE(owner:Array (Option Nat)):(dF owner owner.size).map (·.2)=heldBy owner:=by
 have:=aB0 owner.toList 0 (λ j=>owner.getD j none) λ i hi=>by
  rw[zFx,zB3,zAd]
 unfold dF heldBy;rw[zHX,<-this,zAU]
theorem aB1(f:Nat->Option Nat):∀(m b:Nat),(((zHg b m).filterMap λ j=>(f j).map (j,·)).map (·.1)).Pairwise (·< ·)/\∀x∈((zHg b m).filterMap λ j=>(f j).map (j,·)).map (·.1),b<=x/\x<b+m
 |0,b=>⟨.nil,λ x hx=>by simp at hx⟩
 |m+1,b=>by
  obtain⟨ih1,ih2⟩:=aB1 f m (b+1);rw[zIa,zBQ];cases hf:f b with
  |none=>
   simp only[zIQ];exact⟨ih1,λ x hx=>by have:=ih2 x hx;lia⟩
  |some y=>
   simp only[zDL,zAM];refine⟨zAy.mpr ⟨λ x hx=>by have:=ih2 x hx;lia,ih1⟩,λ x hx=>?_⟩;rcases zAP.mp hx with e|hx
   .lia
   .have:=ih2 x hx
    lia
def aLe{l:List Nat}(h:l.Pairwise (·< ·)):Ris l.toArray:=by
 intro i j hij hj;have hj':j<l.length:=by simpa using hj
 have e:∀k,k<l.length->l.toArray.getD k 0=l[k]!:=λ k hk=>by simp[zCQ,hk]
 have:=zCU.mp h i j (by lia) hj' hij
 simp[zCQ,hj',show i<l.length by lia];exact this
def aBI{t:zCT}(hp:t.plain=true)(hn:n=5\/n=19)(hs:Array Int)(hl:hs.size=n):
  ∃t' order,t.relaid hs (zCs n)=some (t',order)/\cV t' n/\t'.led=t.led/\order.toList.Perm (zAj n):=by
 have hm:∃mask,zEz (zCs n)-1=mask/\(mask=31/\n=5\/mask=127/\n=19):=by
  rcases hn with e|e<;>subst e
  .exact⟨31,by decide,.inl ⟨rfl,rfl⟩⟩
  .exact⟨127,by decide,.inr ⟨rfl,rfl⟩⟩
 obtain⟨mask,em,hmn⟩:=hm;have hm3:mask=7\/mask=31\/mask=127:=by lia
 obtain⟨owner,o1,o2,o3⟩:=aB9 hm3 hs (by lia);have hsnd:=aDE owner;obtain⟨r1,r2⟩:=aB1 (λ j=>owner.getD j none) (mask+1) 0;rw[<-zHX]at r1 r2;have kK:((dF owner (mask+1)).map (·.1)).length=n:=by
  rw[zAD,<-zAD (f:=(·.2)),<-o2,hsnd,o3.length_eq,zF8,hl]
 refine⟨{mask:=mask,place:=((dF owner (mask+1)).map (·.1)).toArray,dummies:=#[],finger:=t.finger,led:=t.led,moves:=t.movedTo mask,plain:=t.plain},((dF owner (mask+1)).map (·.2)).toArray,?_,⟨rfl,?_,aLe r1,?_,?_,hp⟩,rfl,?_⟩
 .unfold zHi zIX
  rw[em,o1];rfl
 .simpa using kK
 .intro i hi
  have hi':i<((dF owner (mask+1)).map (·.1)).length:=by rw[kK];exact hi
  show((dF owner (mask+1)).map (·.1)).toArray.getD i 0<=mask
  have:((dF owner (mask+1)).map (·.1)).toArray.getD i 0=((dF owner (mask+1)).map (·.1))[i]:=by
   rw[zB3,List.getElem?_toArray,zAH hi'];rfl
  rw[this]
  have:=r2 _ (zDd hi')
  lia
 .show mask=7/\n<5\/mask=31/\n<19\/mask=127/\n<77
  lia
 .show((dF owner (mask+1)).map (·.2)).Perm (zAj n)
  rw[<-o2,hsnd,<-hl];exact o3
def aD8(mask:Nat)(p:zCA):zCA:=
 if p.more>0 then{p with j:=p.j+1,more:=p.more-1}else
 {p with j:=(zAp mask p.i p.perturb).1,more:=zAg mask (zAp mask p.i p.perturb).1-(zAp mask p.i p.perturb).1,i:=(zAp mask p.i p.perturb).1,perturb:=(zAp mask p.i p.perturb).2}
abbrev aFD(mask i pert:Nat):zCA:={j:=i,more:=zAg mask i-i,i:=i,perturb:=pert,dummy:=none}
def pst(mask:Nat)(h:Int):Nat->zCA
 |0=>aFD mask (zAs h%(mask+1)) (zAs h)
 |k+1=>aD8 mask (pst mask h k)
def aI1(mask:Nat)(p:zCA):(aD8 mask p).dummy=p.dummy:=by unfold aD8;split<;>rfl
theorem aDy(mask:Nat)(h:Int):∀k,(pst mask h k).dummy=none
 |0=>rfl
 |k+1=>(aI1 mask _).trans (aDy mask h k)
def jZ(mask:Nat)(L:List (Int×Nat)):Prop:=∀e∈L,∃k,(pst mask e.1 k).j=e.2/\k<10*zBM mask/\∀k',k'<k->∃e'∈L,e'.2=(pst mask e.1 k').j
def jZ.perm(h:jZ mask L)(p:L'.Perm L):jZ mask L':=λ e he=>by
 obtain⟨k,a,b,c⟩:=h e (p.mem_iff.mp he);exact⟨k,a,b,λ k' hk=>by obtain⟨e',x,y⟩:=c k' hk;exact⟨e',p.mem_iff.mpr x,y⟩⟩
def jZ.cons(h:jZ mask L)(hx:∃k,(pst mask x.1 k).j=x.2/\k<10*zBM mask/\∀k',k'<k->∃e'∈L,e'.2=(pst mask x.1 k').j):jZ mask (x::L):=λ e he=>by
 rcases zAP.mp he with rfl|he
 .obtain⟨k,a,b,c⟩:=hx
  exact⟨k,a,b,λ k' hk=>by obtain⟨e',x,y⟩:=c k' hk;exact⟨e',zAG _ x,y⟩⟩
 .obtain⟨k,a,b,c⟩:=h e he
  exact⟨k,a,b,λ k' hk=>by obtain⟨e',x,y⟩:=c k' hk;exact⟨e',zAG _ x,y⟩⟩
section
variable{t:zCT}{n:Nat}{hashAt:Nat->Int}{h:Int}
def yR(T:cV t n)(hi:i<n):t.slot (t.place.getD i 0)= .live i:=by
 rcases qP T (t.place.getD i 0)with e|⟨i',h1,h2,h3⟩
 .exact absurd rfl (aAu T e i hi)
 .have:i'=i:=by
   rcases zFi i' i with z|z|z
   .have:=T.ris i' i z (by rw[T.siz];exact hi);lia
   .exact z
   .have:=T.ris i i' z (by rw[T.siz];exact h1);lia
  rw[h2,this]
theorem aBj(T:cV t n)(hi:i<n)(hh:hashAt i=h)(hu:∀i',i'<n->hashAt i'=h->i'=i):∀(d k fuel:Nat),(pst t.mask h (k+d)).j=t.place.getD i 0->d<fuel->(∀k',k'<k+d->∃i',i'<n/\t.place.getD i' 0=(pst t.mask h k').j)->
  ∃j nx,zBd t hashAt h fuel (pst t.mask h k)=some (.candidate j i nx)
 |d,k,0,_,hf,_=>by lia
 |0,k,fuel+1,hj,hf,hp=>by
  rw[wV];have hj':(pst t.mask h k).j=t.place.getD i 0:=hj;rw[hj',yR T hi];dsimp only;rw[if_pos (by simp[hh])];exact⟨_,_,rfl⟩
 |d+1,k,fuel+1,hj,hf,hp=>by
  rw[wV];obtain⟨i',h1,h2⟩:=hp k (by lia);rw[<-h2,yR T h1];dsimp only;by_cases e:hashAt i'=h
  .rw[if_pos (by simp[e]),hu i' h1 e]
   exact⟨_,_,rfl⟩
  .rw[if_neg (by simpa using e)]
   exact aBj T hi hh hu d (k+1) fuel (by rw[show k+1+d=k+(d+1)by lia];exact hj) (by lia) (by rw[show k+1+d=k+(d+1)by lia];exact hp)
theorem aHt(T:cV t n):∀(fuel k:Nat),zBd t hashAt h fuel (pst t.mask h k)=some (.empty j none)->∃K,k<=K/\K<k+fuel/\(pst t.mask h K).j=j/\∀k',k<=k'->k'<K->∃i',i'<n/\t.place.getD i' 0=(pst t.mask h k').j
 |0,k,e=>by cases e
 |fuel+1,k,e=>by
  rw[wV]at e;rcases qP T (pst t.mask h k).j with q|⟨i,hi,q,hp⟩
  .rw[q]at e
   dsimp only at e;rw[aDy]at e;injection e with e
   injection e with e
   exact⟨k,zAQ _,by lia,e,λ k' a b=>by lia⟩
  .rw[q]at e
   dsimp only at e;split at e
   .cases e
   .obtain⟨K,a,b,c,d⟩:=aHt T fuel (k+1) e
    refine⟨K,by lia,by lia,c,λ k' a' b'=>?_⟩;by_cases z:k'=k
    .subst z;exact⟨i,hi,hp⟩
    .exact d k' (by lia) b'
end
def tlS(t:zCT)(es:hV):List (Int×Nat):=(es.toList.map (·.1)).zip t.place.toList
def aKb(T:cV t es.size)(hi:i<es.size):(es[i].1,t.place.getD i 0)∈tlS t es:=by
 have h2:i<t.place.size:=by rw[T.siz];exact hi
 refine zEn.mpr ⟨i,?_⟩;unfold tlS;rw[zCw];constructor
 .rw[zAW,zAd,zAo hi];rfl
 .rw[zAd,zAo h2]
  simp[zCQ,h2]
def aLT(T:cV t es.size)(he:e∈tlS t es):∃i,i<es.size/\t.place.getD i 0=e.2:=by
 obtain⟨i,hi⟩:=zEn.mp he;unfold tlS at hi;have h:=(zCw.mp hi).2;rw[zAd]at h;obtain⟨h1,h2⟩:=zBh.mp h;exact⟨i,by rw[<-T.siz];exact h1,by simp[zCQ,h1,h2]⟩
def aBQ(T:cV t es.size)(P:jZ t.mask (tlS t es))(hi:i<es.size)(hu:∀i' (q:i'<es.size),es[i'].1=es[i].1->i'=i):
  ∃j nx,t.probe (λ i=>(es[i]?.map (·.1)).getD 0) es[i].1 (t.probeStart es[i].1)=some (.candidate j i nx):=by
 obtain⟨k,a,b,c⟩:=P _ (aKb T hi);have hat:∀i' (q:i'<es.size),(es[i']?.map (·.1)).getD 0=es[i'].1:=λ i' q=>by rw[zAo q];rfl
 have:=aBj (hashAt:=λ i=>(es[i]?.map (·.1)).getD 0) T hi (hat i hi) (λ i' q e=>hu i' q ((hat i' q).symm.trans e)) k 0 (10*zBM t.mask) (by rw[zFx];exact a) b λ k' hk=>by
  obtain⟨e',x,y⟩:=c k' (by lia);obtain⟨i',z1,z2⟩:=aLT T x;exact⟨i',z1,z2.trans y⟩
 unfold SetTable.probe;exact this
def aFH(T:cV t es.size)(e:t.probe hashAt h (t.probeStart h)=some (.empty j none)):∃k,(pst t.mask h k).j=j/\k<10*zBM t.mask/\∀k',k'<k->∃e'∈tlS t es,e'.2=(pst t.mask h k').j:=by
 obtain⟨K,a,b,c,d⟩:=aHt T (10*zBM t.mask) 0 e;refine⟨K,c,by lia,λ k' hk=>?_⟩;obtain⟨i',h1,h2⟩:=d k' (zAa _) hk;exact⟨_,aKb T h1,h2⟩
def aLS(T:cV t es.size)(hp:p<=es.size):(((zAr es p x).toList.map (·.1)).zip (zAr t.place p j).toList).Perm ((x.1,j)::tlS t es):=by
 rw[zDy,zDy,zAk,zAM];have hs:=T.siz;rw[zIo (by simp[hs]),zBB];refine List.perm_middle.trans (zHb _ ?_)
 have:tlS t es=((es.toList.map (·.1)).take p++(es.toList.map (·.1)).drop p).zip (t.place.toList.take p++t.place.toList.drop p):=by rw[zEp,zEp];rfl
 rw[this,zIo (by simp[hs]),List.map_take,List.map_drop]
theorem ug(e:pst mask h k=aFD mask i pert):∀m,m<=zAg mask i-i->pst mask h (k+m)={aFD mask i pert with j:=i+m,more:=zAg mask i-i-m}
 |0,_=>by rw[Nat.add_zero,e];simp
 |m+1,hm=>by
  show aD8 mask (pst mask h (k+m))=_;rw[ug e m (by lia)];unfold aD8;rw[if_pos (show zAg mask i-i-m>0 by lia)];simp;lia
def aGr(e:pst mask h k=aFD mask i pert):pst mask h (k+(zAg mask i-i)+1)=aFD mask (zAp mask i pert).1 (zAp mask i pert).2:=by
 show aD8 mask (pst mask h (k+(zAg mask i-i)))=_;rw[ug e _ (zAQ _)];unfold aD8;rw[if_neg (by show¬zAg mask i-i-(zAg mask i-i)>0;lia)]
theorem aBk(ho:owner.size=mask+1):∀(N i pert k:Nat),i<=mask->pst mask h k=aFD mask i pert->zBO mask owner N i pert=some j->
  ∃K,k<=K/\K<k+10*N/\(pst mask h K).j=j/\∀k',k<=k'->k'<K->∃x,owner.toList[(pst mask h k').j]? =some (some x)
 |0,i,pert,k,hi,e,q=>by cases q
 |N+1,i,pert,k,hi,e,q=>by
  obtain⟨r1,r2,r3⟩:=rz hi;have eJ:zBO mask owner (N+1) i pert=(match (zAj (zAg mask i+1-i)).find? λ k=>(owner.getD (i+k) (some 0)).isNone with
   |some k=>some (i+k)
   |none=>zBO mask owner N (zAp mask i pert).1 (zAp mask i pert).2):=rfl
  rw[eJ]at q;have full:∀m,m<=zAg mask i-i->((owner.getD (i+m) (some 0)).isNone)=false->∃x,owner.toList[(pst mask h (k+m)).j]? =some (some x):=λ m hm z=>by
   rw[ug e m hm]
   show∃x,owner.toList[i+m]? =some (some x)
   have hlt:i+m<owner.size:=by lia
   rw[show owner.getD (i+m) (some 0)=owner[i+m]by simp[zCQ,hlt]]at z;rw[zAd];cases w:owner[i+m]with
   |none=>rw[w]at z;cases z
   |some x=>exact⟨x,by rw[zBh];exact⟨hlt,w⟩⟩
  cases hf:(zAj (zAg mask i+1-i)).find? λ k=>(owner.getD (i+k) (some 0)).isNone with
  |some m=>
   rw[hf]at q;cases q;have h1:=zG4 hf;simp only[zBF]at h1;refine⟨k+m,by lia,by lia,by rw[ug e m (by lia)],λ k' a b=>?_⟩;obtain⟨d,rfl⟩:∃d,k'=k+d:=⟨k'-k,by lia⟩
   refine full d (by lia) ?_
   have:=(List.find?_range_eq_some.mp hf).2.2 d (by lia)
   exact(zCX _).mp this
  |none=>
   rw[hf]at q;have hl:(zAp mask i pert).1<=mask:=zCH (zD5 _ (zDJ _));obtain⟨K,a,b,c,d⟩:=aBk ho N _ _ _ hl (aGr e) q;refine⟨K,by lia,by lia,c,λ k' a' b'=>?_⟩;by_cases z:k'<k+(zAg mask i-i)+1
   .obtain⟨m,rfl⟩:∃m,k'=k+m:=⟨k'-k,by lia⟩
    refine full m (by lia) ?_;exact zIF.mpr (zHo.mp hf m (by simp;lia))
   .exact d k' (by lia) b'
def aI5(mask:Nat)(hs:List Int)(owner:Array (Option Nat)):Prop:=∀j x,owner.toList[j]? =some (some x)->∃h,hs[x]? =some h/\∃K,(pst mask h K).j=j/\K<10*zBM mask/\∀k',k'<K->∃y,owner.toList[(pst mask h k').j]? =some (some y)
def aI5.set{K k j:Nat}(O:aI5 mask hs owner)(hx:hs[k]? =some h)(hK:(pst mask h K).j=j)(hK2:K<10*zBM mask)(hp:∀k',k'<K->∃y,owner.toList[(pst mask h k').j]? =some (some y)):aI5 mask hs (owner.setIfInBounds j (some k)):=by
 have keep:∀(a:Nat),(∃y,owner.toList[a]? =some (some y))->∃y,(owner.setIfInBounds j (some k)).toList[a]? =some (some y):=λ a ⟨y,e⟩=>by
  rw[zDs,zF7];by_cases z:j=a
  .subst z
   rw[if_pos rfl]
   have:=(zAK.mp e).1
   exact⟨k,by rw[if_pos this]⟩
  .rw[if_neg z];exact⟨y,e⟩
 intro a x e;rw[zDs,zF7]at e;by_cases z:j=a
 .subst z
  rw[if_pos rfl]at e;split at e
  .cases e
   exact⟨h,hx,K,hK,hK2,λ k' q=>keep _ (hp k' q)⟩
  .cases e
 .rw[if_neg z]at e
  obtain⟨h',a1,K',a2,a3,a4⟩:=O a x e;exact⟨h',a1,K',a2,a3,λ k' q=>keep _ (a4 k' q)⟩
theorem aES(all:List Int):∀(hs:List Int) (owner:Array (Option Nat)) (k:Nat),owner.size=mask+1->all.drop k=hs->aI5 mask all owner->∀o' k',hs.foldl (fY mask) (some (owner,k))=some (o',k')->aI5 mask all o'
 |[],owner,k,ho,hd,O,o',k',e=>by cases e;exact O
 |h::hs,owner,k,ho,hd,O,o',k',e=>by
  rw[zBI]at e;cases q:zBO mask owner (zBM mask) (zAs h%(mask+1)) (zAs h)with
  |none=>
   have hst:fY mask (some (owner,k)) h=none:=by unfold fY;simp[q]
   rw[hst]at e
   have:∀l:List Int,l.foldl (fY mask) none=none:=λ l=>by induction l with
    |nil=>rfl
    |cons a l ih=>rw[zBI];exact ih
   rw[this]at e;cases e
  |some j=>
   have hst:fY mask (some (owner,k)) h=some (owner.setIfInBounds j (some k),k+1):=by unfold fY;simp[q]
   rw[hst]at e;obtain⟨K,a,b,c,d⟩:=aBk (h:=h) ho (zBM mask) _ _ 0 (zCH (zD5 _ (zDJ _))) rfl q;have hk:all[k]? =some h:=by
    have:=congrArg (·[0]?) hd
    simpa using this
   refine aES all hs _ (k+1) (by simpa using ho) ?_ (O.set hk c (by lia) λ k' q=>d k' (zAa _) q) o' k' e
   have:=congrArg (List.drop 1) hd
   rw[List.drop_drop]at this;simpa using this
def wF(h:p∈dF owner m):owner.toList[p.1]? =some (some p.2):=by
 unfold dF at h;obtain⟨j,hj,e⟩:=zBg.mp h;cases q:owner.getD j none with
 |none=>rw[q]at e;cases e
 |some x=>
  rw[q]at e;cases e;rw[zAd];rw[zB3]at q;cases w:owner[j]? with
  |none=>rw[w]at q;cases q
  |some y=>rw[w]at q;rw[show y=some x from q]
def aDF(hj:j<m)(h:owner.toList[j]? =some (some x)):(j,x)∈dF owner m:=by
 unfold dF;refine zBg.mpr ⟨j,zBF.mpr hj,?_⟩;rw[zAd]at h;rw[zB3,h];rfl
theorem aE4(es:hV):∀l:List (Nat×Nat),(∀p∈l,∃h,(es.toList.map (·.1))[p.2]? =some h)->((l.map (·.2)).filterMap (es[·]?)).map (·.1)=l.map λ p=>((es.toList.map (·.1))[p.2]?).getD 0
 |[],_=>rfl
 |p::l,h=>by
  obtain⟨x,e⟩:=h p zAF;have ih:=aE4 es l λ q hq=>h q (zAG _ hq)
  rw[zAM,zAM,zBQ];have e':=e;rw[zAW,zAd]at e';cases w:es[p.2]? with
  |none=>rw[w]at e';cases e'
  |some y=>
   rw[w]at e';dsimp only;rw[zAM,ih,e];rw[show y.1=x from zAl e'];rfl
theorem aAi(f:α->β)(g:α->γ):∀l:List α,(l.map f).zip (l.map g)=l.map λ a=>(f a,g a)
 |[]=>rfl
 |a::l=>by rw[zAM,zAM,zBB,aAi f g l];rfl
def aFE{t:zCT}(hn:n=5\/n=19)(es:hV)(hl:es.size=n)(e:t.relaid (es.map (·.1)) (zCs n)=some (t',order)):jZ t'.mask (tlS t' (order.filterMap (es[·]?))):=by
 have hm:∃mask,zEz (zCs n)-1=mask/\(mask=31/\n=5\/mask=127/\n=19):=by
  rcases hn with e|e<;>subst e
  .exact⟨31,by decide,.inl ⟨rfl,rfl⟩⟩
  .exact⟨127,by decide,.inr ⟨rfl,rfl⟩⟩
 obtain⟨mask,em,hmn⟩:=hm;have hm3:mask=7\/mask=31\/mask=127:=by lia
 obtain⟨owner,f1,f2,f3⟩:=wL hm3 (es.map (·.1)).toList (zDl (mask+1) none) 0 (by simp) (by rw[aBi];exact zBL _) (by simp;lia);have o1:zDx mask (es.map (·.1))=some owner:=by
  have e:zDx mask (es.map (·.1))=((es.map (·.1)).foldl (fY mask) (some (zDl (mask+1) none,0))).map (·.1):=rfl;rw[e,<-zH9,f1];rfl
 have O:=aES (mask:=mask) (es.map (·.1)).toList _ _ 0 (by simp) rfl (λ j x q=>by
  rw[zGo,zCC]at q;split at q<;>cases q) _ _ f1
 unfold zHi zIX at e;rw[em,o1]at e;cases e;rw[Array.toList_map]at O;show jZ mask _;have et:tlS {mask:=mask,place:=((dF owner (mask+1)).map (·.1)).toArray,dummies:=#[],finger:=t.finger,led:=t.led,moves:=t.movedTo mask,plain:=t.plain} (((dF owner (mask+1)).map (·.2)).toArray.filterMap (es[·]?))=(dF owner (mask+1)).map λ p=>(((es.toList.map (·.1))[p.2]?).getD 0,p.1):=by
  unfold tlS;rw[zE2,aE4 es _ λ p hp=>by
   obtain⟨h,q,_⟩:=O p.1 p.2 (wF hp);exact⟨h,q⟩]
  exact aAi _ _ _
 show jZ mask (tlS {mask:=mask,place:=((dF owner (mask+1)).map (·.1)).toArray,dummies:=#[],finger:=t.finger,led:=t.led,moves:=t.movedTo mask,plain:=t.plain} (((dF owner (mask+1)).map (·.2)).toArray.filterMap (es[·]?)));rw[et];intro e he;obtain⟨p,hp,rfl⟩:=zA0.mp he;obtain⟨h,q,K,a,b,c⟩:=O p.1 p.2 (wF hp);dsimp only;rw[q];refine⟨K,a,b,λ k' hk=>?_⟩;obtain⟨y,z⟩:=c k' hk;refine⟨_,zA0.mpr ⟨((pst mask h k').j,y),aDF ?_ z,rfl⟩,rfl⟩
 have:=(zAK.mp z).1
 rw[zAU,f2]at this;exact this
abbrev bM(es:hV)(ep:Nat)(t:zCT):Obj:={cls:=.type "set",dict:=none,data:=.set es ep t}
def SetT(h:Heap)(a:Addr)(es:hV)(t:zCT):Prop:=∃ep,h.get? a=some (bM es ep t)
structure TupAt(h:Heap)(x:Addr)(ns:List Int):Prop where
 ex:∃o xs k,h.get? x=some o/\o.cls= .type "tuple"/\o.data= .seq xs k/\zBV xs.toList ns
theorem je:∀{vs:List Value} {ns:List Int},zBV vs ns->ItemsAre (zCS prog w) ns vs
 |_,_,.nil=>.nil
 |_,_,.cons n t r=>.cons (zF3 _ _ n t) (je r)
section
variable{prog:zA3}{w:World}{A:zAc}{E:Value->zAE->Prop}{s:zAE}
theorem ju{fuel:Nat}:∀{vs:List Value} {ns:List Int},zBV vs ns->∀v∈vs,zHB fuel v=pure true
 |_,_,.nil,v,hv=>by simp at hv
 |_,_,.cons n t r,v,hv=>by
  rcases zAP.mp hv with rfl|hv
  .cases fuel<;>rfl
  .exact ju r v hv
def uQ{x:Addr}(hx:TupAt s.heap x ns)(h:Q true s):wpAny (model prog w) A (zHB 8 (.ref x)) Q E s:=by
 obtain⟨o,xs,k,ho,hc,hd,hi⟩:=hx.ex;have hT:s.TypeIs (.ref x) "tuple":=⟨o,ho,hc⟩;unfold zHB;refine zAB (zHH hT PySem.F.slot_tuple_hash.lookup ?_);dsimp only;refine zAB (zE7 ho hd ?_);refine zAB ?_;show wpAny (model prog w) A (forIn xs _ _) _ _ _;rw[<-zHa];refine zAw (zDw _ (λ rest b s'=>b.1=none/\s'=s/\∀v∈rest,zHB 7 v=pure true) (λ b s'=>b.1=none/\s'=s) ?_ ?_ _ _ ⟨rfl,rfl,ju hi⟩) ?_ λ _ _ e=>e
 .rintro v rest b s' ⟨hb,rfl,hr⟩
  rw[hr v zAF];refine zAB (zAI ?_);simp only[zDP,zA4,if_false];exact zAI ⟨rfl,rfl,λ u hu=>hr u (zAG _ hu)⟩
 .rintro b s' ⟨hb,rfl,_⟩
  exact⟨hb,rfl⟩
 .rintro⟨b1,b2⟩ s' ⟨hb,rfl⟩
  dsimp only at hb;subst hb;exact zAI h
def zX(ho:s.heap.get? a=some (bM es ep t))(hz:es'.size<=4000)
  (h:(s.heap.update a (zIb es' t')).get? a=some (bM es' (ep+1) t')->Q () {s with heap:=s.heap.update a (zIb es' t')}):wpAny (model prog w) A (storeSet a es' t') Q E s:=by
 refine wpAny_storeSet_of ho rfl (h ?_) (by rw[zBj];lia)
 have:=zD9 (zIb es' t') ho (by rw[putSet_of es' t' rfl];rfl)
 rw[putSet_of es' t' rfl]at this;exact this
def vO(ho:s.heap.get? a=some (bM es ep t))(T:cV t es.size)(hne:∀e∈es.toList,e.1≠h)
  (q:∀j,j<=t.mask->t.slot j= .empty->(∃k,(pst t.mask h k).j=j/\k<10*zBM t.mask/\∀k',k'<k->∃e'∈tlS t es,e'.2=(pst t.mask h k').j)->Q (.free j false) s):wpAny (model prog w) A (zIk a x h true) Q E s:=by
 unfold zIk;unfold setSearchFrom;refine zAB (zB2 ho rfl T.fits ?_);dsimp only;have hg:t.gaveWay=false:=by
  unfold zH3;rcases T.mask3 with e|e|e<;>rw[e]<;>decide
 rw[hg];simp only[zA4,if_false];obtain⟨j,j1,j2,j3⟩:=vd (hashAt:=λ i=>(es[i]?.map (·.1)).getD 0) T (h:=h) λ i hi=>by
  have e:es[i]? =some es[i]:=zAo hi;rw[e];exact hne _ (zG1 hi)
 have j3':t.probe (λ i=>(es[i]?.map (·.1)).getD 0) h ((none:Option zCA).getD (t.probeStart h))=some (.empty j none):=j3;split
 .rename_i met heq
  have e:some met=some (.empty j none):=heq.symm.trans j3';cases e;exact zAI (q j j1 j2 (aFH T j3))
 .rename_i hno
  exact(hno _ j3').elim
def TupAt.key(hx:TupAt h x ns):IsTupleKey (zCS prog w) h ns x:=let⟨o,xs,k,a,b,c,d⟩:=hx.ex;⟨o,xs,k,a,b,c,je d⟩
theorem q9{fuel:Nat}:∀{vs:List Value} {ns:List Int},zBV vs ns->∀v∈vs,zEg fuel v=pure false
 |_,_,.nil,v,hv=>by simp at hv
 |_,_,.cons n t r,v,hv=>by
  rcases zAP.mp hv with rfl|hv
  .cases fuel<;>rfl
  .exact q9 r v hv
def tO(hx:TupAt s.heap x ns)(h:Q false s):wpAny (model prog w) A (zEg 8 (.ref x)) Q E s:=by
 obtain⟨o,xs,k,ho,hc,hd,hi⟩:=hx.ex;unfold zEg;refine zAB (zGa (T:="tuple") ⟨o,ho,hc⟩ ?_);dsimp only;rw[if_pos (by decide)];refine zAB (zAI ?_);simp only[zDP,zA4,if_false];refine zAB (zE7 ho hd ?_);refine zAB ?_;show wpAny _ _ (forIn xs _ _) _ _ s;rw[<-zHa];refine zDw _ (λ rest r s'=>r.1=none/\s'=s/\∀v∈rest,zEg 7 v=pure false) _ ?_ ?_ _ _ ⟨rfl,rfl,q9 hi⟩
 .rintro v rest r s' ⟨hr,rfl,aE⟩
  rw[aE v zAF];refine zAB (zAI ?_);simp only[zA4,if_false];exact zAI ⟨rfl,rfl,λ u hu'=>aE u (zAG _ hu')⟩
 .rintro⟨r1,r2⟩ s' ⟨hr,rfl,_⟩
  simp only at hr;subst hr;exact zAI h
def aK0(h:Heap)(v:Value):Prop:=∃y ms,v= .ref y/\TupAt h y ms
def aGX(hx:TupAt s.heap x ns)(l:List Value)(hl:∀v∈l,aK0 s.heap v)(h:Q false s):wpAny (model prog w) A (zJ7 (.ref x) l) Q E s:=by
 unfold zJ7;refine zAB ?_;refine zDw _ (λ rest r s'=>r.1=none/\s'=s/\∀v∈rest,aK0 s.heap v) _ ?_ ?_ _ _ ⟨rfl,rfl,hl⟩
 .rintro v rest r s' ⟨hr,rfl,aE⟩
  obtain⟨y,ms,rfl,hy⟩:=aE v zAF;have bE:=λ u hu'=>aE u (zAG _ hu')
  dsimp only;split
  .exact zAI ⟨rfl,rfl,bE⟩
  .refine zAB (zIl hx.key ?_)
   simp only[zDP,zA4,if_false];refine zAB (zIl hy.key ?_);simp only[zDP,zA4,if_false];refine zAB (tO hx ?_);simp only[zA4,if_false];refine zAB (tO hy ?_);simp only[zA4,if_false];exact zAI ⟨rfl,rfl,bE⟩
 .rintro⟨r1,r2⟩ s' ⟨hr,rfl,_⟩
  simp only at hr;subst hr;exact zAI h
def uH(hu:A.units<cLine)(ho:s.heap.get? a=some (bM es ep t))(T:cV t es.size)(P:jZ t.mask (tlS t es))(hes:∀e∈es.toList,aK0 s.heap e.2)(hx:TupAt s.heap x ns)(hi:i<es.size)(h1:es[i].1=hsh ns)(h2:es[i].2= .ref y)(hy:TupAt s.heap y ns)
  (hun:∀i' (q:i'<es.size),es[i'].1=es[i].1->i'=i)(q:Q (.there none) s):wpAny (model prog w) A (zIk a (.ref x) (hsh ns) true) Q E s:=by
 unfold zIk;unfold setSearchFrom;refine zAB (zB2 ho rfl T.fits ?_);dsimp only;have hg:t.gaveWay=false:=by
  unfold zH3;rcases T.mask3 with e|e|e<;>rw[e]<;>decide
 rw[hg];simp only[zA4,if_false];obtain⟨j,nx,j3⟩:=aBQ T P hi hun;rw[h1]at j3;have j3':t.probe (λ i=>(es[i]?.map (·.1)).getD 0) (hsh ns) ((none:Option zCA).getD (t.probeStart (hsh ns)))=some (.candidate j i nx):=j3;have he:es[i]? =some (hsh ns,.ref y):=by rw[zAo hi,<-h1,<-h2]
 split
 .rename_i met heq
  have e:some met=some (.candidate j i nx):=heq.symm.trans j3';cases e;dsimp only;have fin:∀k:Bool->Array (Int×Value)×Nat×zCT->Sem SetFound,(∀r,k true r=pure (.there none))->wpAny (model prog w) A (zCp [zAx y] (eqBool (.ref y) (.ref x))>>=λ equal=>setState a>>=λ r=>k equal r) Q E s:=λ k hk=>by
   refine zAB (zBW (wpAny_eqBool_tuple hu hy.key hx.key ?_));rw[show decide (ns=ns)=true by simp];refine zAB (zB2 ho rfl T.fits ?_);rw[hk];exact zAI q
  have stored:∀v∈(es.filter (·.1==hsh ns)).toList.map (·.2),aK0 s.heap v:=λ v hv=>by
   obtain⟨e,he,rfl⟩:=zA0.mp hv;rw[Array.toList_filter]at he;exact hes e (zAR.mp he).1
  cases hl:t.led with
  |true=>
   simp only[zDP,zA4,if_false];rw[he];exact fin _ λ r=>rfl
  |false=>
   simp only[zFB,if_true];refine zAB (aGX hx _ stored ?_);simp only[zA4,if_false];rw[he];exact fin _ λ r=>rfl
 .rename_i hno
  exact(hno _ j3').elim
def aAx(ho:s.heap.get? a=some (bM es ep t))(T:lZ t n)(hn:es.size=n)(h5:n=5\/n=19)
  (q:∀h' es' t',zD8 a s.heap h'->SetT h' a es' t'->cV t' n->t'.led=t.led->es'.toList.Perm es.toList->jZ t'.mask (tlS t' es')->Q () {s with heap:=h'}):wpAny (model prog w) A (setRelay a (zCs n)) Q E s:=by
 have hsz:zEz (zCs n)<=zAY:=by
  rw[zBj];rcases h5 with e|e<;>rw[e]<;>decide
 obtain⟨t',order,r1,r2,r3,r4⟩:=aBI T.pla h5 (es.map (·.1)) (by rw[zIn];exact hn);have pV:(order.filterMap (es[·]?)).toList.Perm es.toList:=by
  rw[zE2];refine(r4.filterMap _).trans ?_;rw[<-hn,zHk]
 have hes:(order.filterMap (es[·]?)).size=es.size:=by rw[<-zAU,pV.length_eq,zAU]
 have eW:=aFE h5 es hn r1;unfold setRelay;refine zAB (zB2 ho rfl (by rw[hn];exact T.fits) ?_);dsimp only;rw[if_neg (by lia),r1];refine zAB ?_;refine zFo (a:=(order.filterMap (es[·]?),t')) ?_ ?_
 .show(if ((order.filterMap (es[·]?)).size !=es.size)=true then _ else pure (order.filterMap (es[·]?),t'))=_
  rw[hes];simp only[bne_self_eq_false,zA4,if_false]
 .exact zX ho (by rw[hes,hn];lia) λ e=>q _ _ t' (zB7 ..) ⟨_,e⟩ r2 r3 pV eW
def SetT.keep(S:SetT h a es t)(k:∀o,h.get? a=some o->h'.get? a=some o):SetT h' a es t:=let⟨ep,e⟩:=S;⟨ep,k _ e⟩
def dY(zs:List (α×List Int))(p:α×List Int):List (α×List Int):=if p.2∈zs.map (·.2)then zs else zs++[p]
def ent(p:Value×List Int):Int×Value:=(hsh p.2,p.1)
structure uX(h:Heap)(a:Addr)(led:Bool)(zs:iX)(es:hV)(t:zCT):Prop where
 at_:SetT h a es t
 ok:cV t es.size
 way:jZ t.mask (tlS t es)
 led_:t.led=led
 perm:es.toList.Perm (zs.map ent)
 nd:(zs.map λ p=>hsh p.2).Nodup
def aLH(h:Heap)(zs:iX):Prop:=∀p∈zs,∃y,p.1= .ref y/\TupAt h y p.2
def aC7(hu:A.units<cLine)(S:uX s.heap a led zs es t)(hz:aLH s.heap zs)(hx:TupAt s.heap x ns)(hin:∀p∈zs,hsh p.2=hsh ns->p.2=ns)(h64:(dY zs (.ref x,ns)).length<=76)
  (q:∀b h' tk es' t',zD8 a s.heap h'->s.toks<=tk->uX h' a led (dY zs (.ref x,ns)) es' t'->Q b {s with heap:=h',toks:=tk}):wpAny (model prog w) A (zJN a (.ref x)) Q E s:=by
 obtain⟨⟨ep,ho⟩,T,P,hl,hp,hnd⟩:=S;obtain⟨o,xs,k,xo,xc,xd,xi⟩:=hx.ex;unfold zJN;refine zBW (zAB ?_);refine wpAny_pyHash_tuple (knd:=zCS prog w) (ks:=ns) hu ⟨o,xs,k,xo,xc,xd,je xi⟩ ?_;have eh:tupleKeyHash (zCS prog w) ns=hsh ns:=rfl;rw[eh];unfold setAddHashed;refine zBW ?_;unfold setAddHashedIn;refine zAB (zB2 ho rfl T.fits ?_);dsimp only;have hb:byScan (.ref x) es=false:=rfl;rw[hb];simp only[zA4,if_false];have hes:∀e∈es.toList,∃p∈zs,e=ent p:=λ e he=>by
  obtain⟨p,hp',e'⟩:=zA0.mp (hp.mem_iff.mp he);exact⟨p,hp',e'.symm⟩
 have hndE:(es.toList.map (·.1)).Nodup:=((hp.map (·.1)).nodup_iff).mpr (by rw[zAv];exact hnd);by_cases hm:ns∈zs.map (·.2)
 .have ed:dY zs (.ref x,ns)=zs:=by unfold dY;rw[if_pos hm]
  obtain⟨p,hp1,hp2⟩:=zA0.mp hm;obtain⟨y,ey,hy⟩:=hz p hp1;have dA:(hsh ns,zAx y)∈es.toList:=by
   refine hp.mem_iff.mpr (zA0.mpr ⟨p,hp1,?_⟩);unfold ent;rw[hp2,ey]
  obtain⟨i,hi,ei⟩:=List.mem_iff_getElem.mp dA;rw[zAU]at hi;rw[Array.getElem_toList]at ei;refine zAB (uH (s:={s with heap:=s.heap,toks:=_}) hu ho T P (λ e he=>?_) (ns:=ns) (i:=i) (y:=y) ⟨o,xs,k,xo,xc,xd,xi⟩ hi (by rw[ei]) (by rw[ei]) (by rw[<-hp2];exact hy) (λ i' q e=>?_) ?_)
  .obtain⟨p',a1,rfl⟩:=hes e he
   obtain⟨y',b1,b2⟩:=hz p' a1;exact⟨y',_,b1,b2⟩
  .have h1:(es.toList.map (·.1))[i']? =some es[i'].1:=by rw[zAW,zAd,zAo q];rfl
   have h2:(es.toList.map (·.1))[i]? =some es[i].1:=by rw[zAW,zAd,zAo hi];rfl
   rw[e]at h1;exact(zIL (by simpa using q) hndE).mp (h1.trans h2.symm)
  .dsimp only
   exact zAI (q _ _ _ _ _ ⟨rfl,λ _ _=>rfl⟩ (zGC _ _) (by rw[ed];exact⟨⟨_,ho⟩,T,P,hl,hp,hnd⟩))
 .have ed:dY zs (.ref x,ns)=zs++[(.ref x,ns)]:=by unfold dY;rw[if_neg hm]
  rw[ed]at h64;have hzl:es.size=zs.length:=by rw[<-zAU,hp.length_eq,zAD]
  rw[zAZ,zB5]at h64;have hne:∀e∈es.toList,e.1≠hsh ns:=λ e he z=>by
   obtain⟨p,a1,rfl⟩:=hes e he;exact hm (zA0.mpr ⟨p,a1,hin p a1 z⟩)
  have hnd':((zs++[(zAx x,ns)]).map λ p=>hsh p.2).Nodup:=by
   rw[zAk];refine zBo.mpr ⟨hnd,by simp,λ a ha b hb=>?_⟩;obtain⟨p,a1,rfl⟩:=zA0.mp ha;rw[zA2.mp hb];exact λ z=>hm (zA0.mpr ⟨p,a1,hin p a1 z⟩)
  refine zAB (vO ho T hne λ j j1 j2 j3=>?_);dsimp only;refine zAB (zB2 ho rfl T.fits ?_);dsimp only;obtain⟨PP,p1,p2,p3,p4⟩:=aGo T (by lia) j1 j2;have hes:(zAr es (t.put j).2 (hsh ns,zAx x)).size=es.size+1:=nA _ _ _;have pV:(zAr es (t.put j).2 (hsh ns,zAx x)).toList.Perm ((zs++[(zAx x,ns)]).map ent):=by
   have:=zET es (t.put j).2 (hsh ns,zAx x)
   rw[zEH]at this;rw[zAk];exact this.trans (hp.append_right _)
  have eW:jZ (t.put j).1.mask (tlS (t.put j).1 (zAr es (t.put j).2 (hsh ns,zAx x))):=by
   rw[p3];exact(P.cons (x:=(hsh ns,j)) j3).perm (aLS T p2)
  rw[PP.pla];simp only[if_true];refine zAB (uQ (ns:=ns) ⟨o,xs,k,xo,xc,xd,xi⟩ ?_);simp only[if_true];refine zAB (zX ho (by rw[hes];lia) λ e1=>?_);simp only[zFB,zJC];cases hf:(t.put j).1.tooFull with
  |true=>
   simp only[if_true];have h5:=PP.full (by lia) hf;refine zAB (aAx (s:={s with heap:=_,toks:=_}) e1 PP hes h5 λ h' es' t' b1 b2 b3 b4 b5 b6=>?_);have hsz:es'.size=es.size+1:=by rw[<-zAU,b5.length_eq,zAU,hes]
   exact zAI (q _ h' _ es' t' ((zB7 s.heap a _).trans b1) (zGC _ _) (by rw[ed];exact⟨b2,by rw[hsz];exact b3,b6,b4.trans (p4.trans hl),b5.trans pV,hnd'⟩))
  |false=>
   simp only[zA4,if_false];exact zAI (q _ _ _ _ _ (zB7 ..) (zGC _ _) (by rw[ed];exact⟨⟨_,e1⟩,by rw[hes];exact PP.still hf,eW,p4.trans hl,pV,hnd'⟩))
end
def ddV(l:List (α×List Int)):List (α×List Int):=l.foldl dY []
theorem aA1:∀(l:List (α×List Int)) (acc:List (α×List Int)),acc.length<=(l.foldl dY acc).length/\(∀p∈acc,p∈l.foldl dY acc)/\∀p∈l.foldl dY acc,p∈acc\/p∈l
 |[],acc=>⟨zAQ _,λ _ h=>h,λ _ h=>.inl h⟩
 |x::l,acc=>by
  obtain⟨a,b,c⟩:=aA1 l (dY acc x);have h:dY acc x=acc\/dY acc x=acc++[x]:=by unfold dY;split<;>simp
  refine⟨zAi ?_ a,λ p hp=>b p ?_,λ p hp=>?_⟩
  .rcases h with e|e<;>rw[e]<;>simp
  .rcases h with e|e<;>rw[e]<;>simp[hp]
  .rcases c p hp with z|z
   .rcases h with e|e<;>rw[e]at z
    .exact .inl z
    .rcases zAh.mp z with z|z
     .exact .inl z
     .exact .inr (by rw[zA2.mp z];exact zAF)
   .exact .inr (zAG _ z)
def uv(h:p∈ddV l):p∈l:=by
 rcases(aA1 l []).2.2 p h with z|z
 .simp at z
 .exact z
def aIJ(l:List (α×List Int))(x:α×List Int):ddV (l++[x])=dY (ddV l) x:=by unfold ddV;rw[zEQ];rfl
def aII(l:List (α×List Int))(i:Nat):(ddV (l.take i)).length<=(ddV l).length:=by
 conv=>rhs;rw[<-zEp i l]
 unfold ddV;rw[zEQ];exact(aA1 _ _).1
def aFe(f:α->β)(zs:List (α×List Int))(p:α×List Int):dY (zs.map λ q=>(f q.1,q.2)) (f p.1,p.2)=(dY zs p).map λ q=>(f q.1,q.2):=by
 have e:(zs.map λ q=>(f q.1,q.2)).map (·.2)=zs.map (·.2):=by rw[zAv];rfl
 unfold dY;rw[e];dsimp only;split
 .rfl
 .rw[zAk];rfl
def aKP(f:α->β)(l:List (α×List Int)):ddV (l.map λ q=>(f q.1,q.2))=(ddV l).map λ q=>(f q.1,q.2):=by
 have go:∀(l:List (α×List Int)) acc,(l.map λ q=>(f q.1,q.2)).foldl dY (acc.map λ q=>(f q.1,q.2))=(l.foldl dY acc).map λ q=>(f q.1,q.2):=by
  intro l;induction l with
  |nil=>intro acc;rfl
  |cons x l ih=>intro acc;rw[zAM,zBI,zBI,aFe];exact ih _
 exact go l []
def ddT(l:gV):gV:=l.foldl (λ acc x=>if x∈acc then acc else acc++[x]) []
def aKO(l:List (α×List Int)):(ddV l).map (·.2)=ddT (l.map (·.2)):=by
 have go:∀(l:List (α×List Int)) (acc:List (α×List Int)),(l.foldl dY acc).map (·.2)=(l.map (·.2)).foldl (λ acc x=>if x∈acc then acc else acc++[x]) (acc.map (·.2)):=by
  intro l;induction l with
  |nil=>intro acc;rfl
  |cons x l ih=>
   intro acc;rw[zBI,zAM,zBI,ih];congr 1;unfold dY;split
   .rfl
   .rw[zAk];rfl
 exact go l []
def bI.tup{i:Nat}(t:bI h vs nss)(hv:vs[i]? =some v):∃x ns,v= .ref x/\nss[i]? =some ns/\TupAt h x ns:=by
 have hi:i<vs.length:=(zAK.mp hv).1;obtain⟨x,o,xs,k,e1,e2,e3,e4,e5,_⟩:=t.at hi;have hi2:i<nss.length:=by rw[<-t.len];exact hi
 refine⟨x,nss.getD i [],?_,by simp[hi2],⟨o,xs,k,e2,e3,e4,e5⟩⟩;rw[<-e1];simp[hv]
section
variable{prog:zA3}{w:World}{A:zAc}{R:zEe->zAE->Prop}{I:Addr}{fp wr:List Addr}{G:Array zDj->Array zDj->Prop}{n:Nat}{St:Nat->zAE->Prop}{vs:List Value}{nss:gV}
def aEv(W:WalksS prog w A.in1 I fp wr G n (λ i v=>vs.toArray[i]? =some v) St)(S:Addr)(hSf:S∉fp)(hn:n=vs.length)(hu:A.in1.units<cLine)(h64:(ddV (vs.zip nss)).length<=76)(dQ:∀a∈nss,∀b∈nss,hsh a=hsh b->a=b)(hin:∀x,.ref x∈vs->x∉wr)(led:Bool):
  ∀(k i:Nat) (s:zAE) (es:hV) (t:zCT),n-i=k->i<=n->St i s->bI s.heap vs nss->uX s.heap S led (ddV ((vs.zip nss).take i)) es t->
   (∀s' es' t',Moved (S::wr) G s s'->uX s'.heap S led (ddV (vs.zip nss)) es' t'->R (.ok (.ret .none)) s')->
   zCF (model prog w) A (.builtin "set.update.loop" ⟨[.ref S,.ref I],[]⟩) R s:=by
 have hSw:S∉wr:=λ h=>hSf (W.sub _ h)
 have hsb:∀b∈wr,b∈S::wr:=λ b hb=>zAG _ hb
 intro k;induction k with
 |zero=>
  intro i s es t hk hi hst ht hS hR;have hin':i=n:=by lia
  subst hin';refine zBZ zBs ?_;rw[zBE zBK _];show wpAny _ A.in1 (zE1 (.ref I)>>=_) _ _ s;refine zAB (W.done s _ _ hst λ s' hm=>zAI (hR s' es t (hm.mono hsb) ?_))
  have:(vs.zip nss).length<=i:=by rw[zGK,hn];exact Nat.min_le_left _ _
  rw[zCM this]at hS
  exact{hS with at_:=hS.at_.keep λ o e=>hm.heap S _ hSw e}
 |succ k ih=>
  intro i s es t hk hi hst ht hS hR;have hlt:i<n:=by lia
  refine zBZ zBs ?_;rw[zBE zBK _];show wpAny _ A.in1 (zE1 (.ref I)>>=_) _ _ s;refine zAB (W.item i s _ _ hlt hst λ v s' hP' hst' hm=>?_);have hP:vs[i]? =some v:=by simpa using hP'
  obtain⟨x,ns,rfl,hns,hx⟩:=ht.tup hP;have ht':bI s'.heap vs nss:=by
   have go:∀{us:List Value} {ms:gV},(∀y,.ref y∈us->y∉wr)->bI s.heap us ms->bI s'.heap us ms:=by
    intro us ms hy z;induction z with
    |nil=>exact .nil
    |cons ho hc hd hi hne r ih2=>exact .cons (hm.heap _ _ (hy _ zAF) ho) hc hd hi hne (ih2 λ y m=>hy y (zAG _ m))
   exact go hin ht
  have hS':uX s'.heap S led (ddV ((vs.zip nss).take i)) es t:={hS with at_:=hS.at_.keep λ o e=>hm.heap S _ hSw e};have hx':TupAt s'.heap x ns:=by
   obtain⟨y,ms,e1,e2,e3⟩:=ht'.tup hP;cases e1;rw[hns]at e2;cases e2;exact e3
  have aE:aLH s'.heap (ddV ((vs.zip nss).take i)):=λ p hp=>by
   have hp2:=zHW (uv hp);obtain⟨j,hj⟩:=zEn.mp hp2;obtain⟨z1,z2⟩:=zCw.mp hj;obtain⟨y,ms,e1,e2,e3⟩:=ht'.tup z1;rw[z2]at e2;cases e2;exact⟨y,e1,e3⟩
  have eC:ddV ((vs.zip nss).take (i+1))=dY (ddV ((vs.zip nss).take i)) (.ref x,ns):=by
   rw[zCr,(zCw (z:=(zAx x,ns))).mpr ⟨hP,hns⟩];exact aIJ _ _
  have hmn:ns∈nss:=zBA hns;show wpAny _ A.in1 (zCp [zAx x] (zJN S (.ref x))>>=_) _ _ s';refine zAB (zBW (aC7 hu hS' aE hx' (λ p hp z=>dQ _ (zCY (zHW (uv hp))).2 _ hmn z) (by rw[<-eC];exact zAi (aII _ _) h64) λ b h' tk es' t' c1 c2 c3=>?_));rw[<-eC]at c3;have kp:∀b o,b≠S->s'.heap.get? b=some o->h'.get? b=some o:=λ b o hb e=>by rw[c1.2 b hb];exact e
  have ht2:bI h' vs nss:=ht'.mono λ y o e c=>kp y o (λ z=>by
   subst z;obtain⟨ep,q⟩:=hS'.at_;rw[q]at e;cases e;exact absurd c (show¬(zBt "set"=zBt "tuple")by decide)) e
  refine zAI ⟨zCd zBK _,ih (i+1) _ es' t' (by lia) hlt (W.frame _ s' _ _ hst' c2 λ b hb o e=>kp b o (λ z=>hSf (z▸hb)) e) ht2 c3 λ s'' es'' t'' hm'' hS''=>?_⟩;exact hR s'' es'' t'' (zJX W.gtrans ((hm.mono hsb).then_heap c2 λ b o hb e=>kp b o (λ z=>hb (z▸zAF)) e) hm'') hS''
end
end VL
namespace PySem
section
variable{prog:zA3}{w:World}{A:zAc}{E:Value->zAE->Prop}{s:zAE}
def aGV(a:Value)(h:Q₁ (.ref s.heap.objs.size) {s with heap:=s.heap.push (VL.bM #[] 0 (.fresh 0 0 (!w.params.followText "set-order")))}):
  zCF (model prog w) A (.call (.builtin "set.__new__") ⟨[.type "set",a],[]⟩) (wants Q₁ E) s:=by
 refine zHA ?_;show wpAny _ A.in1 (zGl "set.__new__" ⟨[.type "set",a],[]⟩>>=λ _=>again (.builtin "set.__new__" ⟨[.type "set",a],[]⟩)) _ _ s;refine zAB (zFo (F.newCall_set_1 a) (zAI ⟨zCd zGf _,zBZ PySem.F.entry_set_new ?_⟩));rw[zBE zGf _];unfold zD4.«set.__new__» zI2;have bX:=sub_set_self;obtain⟨hp,g,d,tk,os⟩:=s;dsimp only;wp_walk;refine zDU (zAI ?_);dsimp only;simp only[newObj];exact zAB (wpAny_alloc (zAI (zAI h)))
set_option maxHeartbeats 3200000 in
def uE{l:Addr}{T:String}{oI:Obj}{Φ:Heap->Prop}{Q:Value->zAE->Prop}(hty:s.TypeIs (.ref l) T)(hsls:zIi (.type T) (.type "set")=pure false)(hslf:zIi (.type T) (.type "frozenset")=pure false)(hne:(zBt T==zBt "dict")=false)
  (hit:∀(zC:Heap) (yA:zAc) (x9:Value->zAE->Prop) (Q₁:Value->zAE->Prop),(∀b o,s.heap.get? b=some o->zC.get? b=some o)->Q₁ (.ref zC.objs.size) {s with heap:=zC.push oI}->wpAny (model prog w) yA (zG9 (.ref l)) Q₁ x9 {s with heap:=zC})
  (hrun:∀R:zEe->zAE->Prop,(∀h' tk,Φ h'->(∀b o,s.heap.get? b=some o->h'.get? b=some o)->R (.ok (.ret .none)) {s with heap:=h',toks:=tk})->
   zCF (model prog w) A.in1.in1 (.builtin "set.update.loop" ⟨[.ref s.heap.objs.size,.ref (s.heap.push (VL.bM #[] 0 (.fresh 0 0 (!w.params.followText "set-order")))).objs.size],[]⟩) R {s with heap:=(s.heap.push (VL.bM #[] 0 (.fresh 0 0 (!w.params.followText "set-order")))).push oI})
  (h:∀h' tk,Φ h'->(∀b o,s.heap.get? b=some o->h'.get? b=some o)->Q (.ref s.heap.objs.size) {s with heap:=h',toks:=tk}):
  wpAny (model prog w) A (call (.type "set") [.ref l]) Q E s:=by
 obtain⟨c,tl,hmro⟩:=zDQ.mro;have hmade:=zDQ.made;have bX:=zDQ.sub
 refine zHl (zHA ?_);show wpAny _ _ (callAny (.type "set") _) _ _ _;refine zAI ⟨zHn _ (by decide+kernel),zBZ PySem.F.entry_type_call ?_⟩;rw[Around.under_plain (weight_type_call_type "set" [.ref l] []) rfl];have h1:=zDQ.notType;have h2:=zDQ.canCreate
 have hct:=F.typeCall_set_1 (.ref l);repeat (any_goals (first|assumption|wp_step))
 generalize hled:(!w.params.followText "set-order")=led at hrun;refine zC9 (aGV (.ref l) (E:=E) (Q₁:=λ obj zD=>obj= .ref s.heap.objs.size/\zD={s with heap:=s.heap.push (VL.bM #[] 0 (.fresh 0 0 led))}) ⟨rfl,by rw[hled]⟩) λ r zD hr=>?_
 cases r with
 |error e=>exact hr
 |ok fl=>
  cases fl with
  |ret obj=>
   obtain⟨rfl,rfl⟩:=hr;have hS:(s.heap.push (VL.bM #[] 0 (.fresh 0 0 led))).get? s.heap.objs.size=some (VL.bM #[] 0 (.fresh 0 0 led)):=zAS _ rfl;have hT:zIr {s with heap:=s.heap.push (VL.bM #[] 0 (.fresh 0 0 led))} (.ref s.heap.objs.size) "set":=⟨_,hS,rfl⟩;have hli:=zDQ.init.lookup;have hbi:=zDQ.init.bind (.ref s.heap.objs.size)
   repeat (any_goals (first|assumption|wp_step))
   refine zC9 (zF6 (R:=wants (λ r zS=>r= .none/\∃h' tk,zS={s with heap:=h',toks:=tk}/\Φ h'/\(∀b o,s.heap.get? b=some o->h'.get? b=some o)) E) zDQ.init.plain F.entry_set_init (check_set_init_1 hT ?_)) λ r₂ zS hr₂=>?_
   .obtain⟨ol,hol,hcl⟩:=hty
    obtain⟨ocls,odict,odata,oslots⟩:=ol;simp only at hcl;subst hcl;have hol':(s.heap.push (VL.bM #[] 0 (.fresh 0 0 led))).get? l=some {cls:=.type T,dict:=odict,data:=odata,slots:=oslots}:=zAC _ hol;unfold zD4.«set.__init__» noKeywords zI5;generalize hPI:zG9=PI;wp_walk;subst hPI;refine hit _ _ _ _ (λ b o e=>zAC _ e) (zAB (zH6 (hrun _ λ h' tk g1 g2=>?_)));show wpAny _ _ _ _ _ _;refine zAI ?_;show wpAny _ _ (ret zBn) _ _ _;exact zAI ⟨rfl,h',tk,rfl,g1,g2⟩
   .cases r₂ with
    |error e=>exact hr₂
    |ok fl₂=>
     cases fl₂ with
     |ret r=>
      obtain⟨rfl,h',tk,rfl,g1,g2⟩:=hr₂
      repeat (any_goals (first|assumption|wp_step))
      exact h _ _ g1 g2
     |_=>exact hr₂.elim
  |_=>exact hr.elim
def zA{l:Addr}{T:String}{oI:Obj}{vs:List Value}{nss:gV}{St:Addr->Nat->Heap->Prop}{Q:Value->zAE->Prop}(hh:A.handled=none)(hu:A.units+8<cLine)(hty:s.TypeIs (.ref l) T)(hsls:zIi (.type T) (.type "set")=pure false)(hslf:zIi (.type T) (.type "frozenset")=pure false)(hne:(zBt T==zBt "dict")=false)
  (hit:∀(zC:Heap) (yA:zAc) (x9:Value->zAE->Prop) (Q₁:Value->zAE->Prop),(∀b o,s.heap.get? b=some o->zC.get? b=some o)->Q₁ (.ref zC.objs.size) {s with heap:=zC.push oI}->wpAny (model prog w) yA (zG9 (.ref l)) Q₁ x9 {s with heap:=zC})
  (hW:∀(A':zAc) I,l≠I->A'.handled=none->Walks prog w A' I [I,l] [I] vs.toArray.size (λ i v=>vs.toArray[i]? =some v) (St I))(h0:∀zC:Heap,(∀b o,s.heap.get? b=some o->zC.get? b=some o)->St zC.objs.size 0 (zC.push oI))
  (ht:VL.bI s.heap vs nss)(h64:(VL.ddV (vs.zip nss)).length<=76)(hin:∀a∈nss,∀b∈nss,VL.hsh a=VL.hsh b->a=b)
  (h:∀h' tk es t,VL.uX h' s.heap.objs.size (!w.params.followText "set-order") (VL.ddV (vs.zip nss)) es t->(∀b o,s.heap.get? b=some o->h'.get? b=some o)->Q (.ref s.heap.objs.size) {s with heap:=h',toks:=tk}):
  wpAny (model prog w) A (call (.type "set") [.ref l]) Q E s:=by
 obtain⟨ol,hol,hcl⟩:=hty;have hlS:l<s.heap.objs.size:=zAT hol;refine uE (T:=T) (Φ:=λ h'=>∃es t,VL.uX h' s.heap.objs.size (!w.params.followText "set-order") (VL.ddV (vs.zip nss)) es t) ⟨ol,hol,hcl⟩ hsls hslf hne hit (λ R hR=>?_) λ h' tk ⟨es,t,g1⟩ g5=>h h' tk es t g1 g5
 generalize (!w.params.followText "set-order")=led at hR ⊢;have hS:(s.heap.push (VL.bM #[] 0 (.fresh 0 0 led))).get? s.heap.objs.size=some (VL.bM #[] 0 (.fresh 0 0 led)):=zAS _ rfl;have hh3:A.in1.in1.in1.handled=none:=by simp[hh]
 have eL:l≠(s.heap.push (VL.bM #[] 0 (.fresh 0 0 led))).objs.size:=by rw[zBN];exact zA6 (zCI hlS)
 have hSf:s.heap.objs.size∉[(s.heap.push (VL.bM #[] 0 (.fresh 0 0 led))).objs.size,l]:=by
  rw[zBN];simp only[zAP,zCR,or_false,not_or];exact⟨zA6 (zBy _),zC6 hlS⟩
 have hvt:∀{us:List Value} {ms:gV},VL.bI s.heap us ms->∀x,.ref x∈us->x<s.heap.objs.size:=by
  intro us ms z;induction z with
  |nil=>intro x hx;simp at hx
  |cons ho _ _ _ _ _ ih=>
   intro x hx;rcases zAP.mp hx with e|hx
   .cases e;exact zAT ho
   .exact ih x hx
 refine VL.aEv ((hW _ _ eL hh3).toS) s.heap.objs.size hSf (by simp) (by simp;omega) h64 hin (λ x hx=>?_) led (vs.toArray.size-0) 0 _ #[] (.fresh 0 0 led) (by simp) (zAa _)
  (h0 _ λ b o e=>zAC _ e) (ht.mono λ x o e _=>zAC _ (zAC _ e)) ⟨⟨0,zAC _ hS⟩,VL.cV.fresh led,(λ e he=>by cases he),rfl,zBL _,zCx⟩ ?hR
 case hR=>
  intro s' es t hm hS';obtain⟨h',g',d',tk',os'⟩:=s';have eg:g'=s.gens:=hm.gens;have ed:d'=s.drawn:=hm.drawn;have eo:os'=s.os:=hm.os;subst eg;subst ed;subst eo;refine hR h' tk' ⟨es,t,hS'⟩ λ b o e=>hm.heap b o ?_ (zAC _ (zAC _ e))
  have hb:=zAT e;simp only[zAP,zCR,or_false,not_or];rw[zBN];exact⟨zA6 hb,zA6 (zCI hb)⟩
 have:=hvt ht x hx
 simp only[zAP,zCR,or_false];rw[zBN];exact zA6 (zCI this)
def aFi(hh:A.handled=none)(hu:A.units+8<cLine)(hl:s.heap.IsList l vs.toArray)(ht:VL.bI s.heap vs nss)(h64:(VL.ddV (vs.zip nss)).length<=76)(hin:∀a∈nss,∀b∈nss,VL.hsh a=VL.hsh b->a=b)
  (h:∀h' tk es t,VL.uX h' s.heap.objs.size (!w.params.followText "set-order") (VL.ddV (vs.zip nss)) es t->(∀b o,s.heap.get? b=some o->h'.get? b=some o)->Q (.ref s.heap.objs.size) {s with heap:=h',toks:=tk}):
  wpAny (model prog w) A (call (.type "set") [.ref l]) Q E s:=by
 obtain⟨ol,hol,hcl,nl,hdl⟩:=hl;exact zA hh hu (T:="list") ⟨ol,hol,hcl⟩ F.sub_list_set zIG (by decide) (λ zC yA x9 Q₁ k q=>zEh (s:={s with heap:=zC}) (items:=vs.toArray) ⟨ol,k _ _ hol,hcl,nl,hdl⟩ q) (λ A' I ne e=>zHw e I l ne vs.toArray)
  (λ zC k=>⟨⟨_,zAS _ rfl,rfl,rfl⟩,Heap.IsList.push ⟨ol,k _ _ hol,hcl,nl,hdl⟩ _⟩) ht h64 hin h
def aCB(hh:A.handled=none)(hu:A.units+8<cLine)(hl:s.heap.IsTuple l vs.toArray)(ht:VL.bI s.heap vs nss)(h64:(VL.ddV (vs.zip nss)).length<=76)(hin:∀a∈nss,∀b∈nss,VL.hsh a=VL.hsh b->a=b)
  (h:∀h' tk es t,VL.uX h' s.heap.objs.size (!w.params.followText "set-order") (VL.ddV (vs.zip nss)) es t->(∀b o,s.heap.get? b=some o->h'.get? b=some o)->Q (.ref s.heap.objs.size) {s with heap:=h',toks:=tk}):
  wpAny (model prog w) A (call (.type "set") [.ref l]) Q E s:=by
 obtain⟨ol,hol,hcl,nl,hdl⟩:=hl;exact zA hh hu (T:="tuple") ⟨ol,hol,hcl⟩ F.sub_tuple_set F.sub_tuple_frozenset (by decide) (λ zC yA x9 Q₁ k q=>zGG (s:={s with heap:=zC}) (items:=vs.toArray) ⟨ol,k _ _ hol,hcl,nl,hdl⟩ q) (λ A' I ne e=>zJ4 e I l ne vs.toArray)
  (λ zC k=>⟨⟨_,zAS _ rfl,rfl,rfl⟩,⟨ol,zAC _ (k _ _ hol),hcl,nl,hdl⟩⟩) ht h64 hin h
end
end PySem
namespace VL
open PySem PySem.Spec PyProof.Rows L2
theorem aBh:∀{l:List α} {i:Nat} (h:i<l.length),(l[i]::l.eraseIdx i).Perm l
 |a::l,0,_=>zBL _
 |a::l,i+1,h=>by
  have h':i<l.length:=by simpa using h
  have ih:=aBh (l:=l) (i:=i) h'
  show(l[i]::a::l.eraseIdx i).Perm (a::l)
  exact(zDn _ _ _).trans (ih.cons a)
theorem aEC(next:Nat->Nat):∀(f k:Nat) (left:List α) (out:Array α),left.length<=f->(pickOrder.go next f k left out).toList.Perm (out.toList++left)
 |0,k,left,out,h=>by
  have:left=[]:=zCD.mp (by omega)
  subst this;rw[zBD];exact zBL _
 |f+1,k,left,out,h=>by
  unfold pickOrder.go;cases left with
  |nil=>simp
  |cons a l=>
   have hlt:next k%(a::l).length<(a::l).length:=zD5 _ (by simp)
   rw[zAH hlt];dsimp only;refine(aEC next f (k+1) _ _ (by rw[List.length_eraseIdx];simp only[hlt,if_true];simp at h ⊢;omega)).trans ?_;rw[zEH,zCG];exact List.Perm.append_left _ (aBh hlt)
def aFJ(next:Nat->Nat)(xs:Array α):(pickOrder next xs).toList.Perm xs.toList:=by
 have:=aEC next xs.size 0 xs.toList #[] (by simp)
 unfold pickOrder;simpa using this
def m7(w:World)(d:Addr)(ep:Nat)(es:hV):hV:=if w.params.followText "set-order" then pickOrder (w.params.setOrder d ep) es else es
def iQ(w:World)(d:Addr)(ep:Nat)(es:hV):(m7 w d ep es).toList.Perm es.toList:=by
 unfold m7;split
 .exact aFJ _ _
 .exact zBL _
def slotAt(w:World)(t:zCT):Nat->Nat
 |0=>0
 |i+1=>if w.params.followText "set-order" then 0 else t.place.getD i 0+1
def aD7(T:cV t n)(hf:w.params.followText "set-order"=false):∀i,i<=n->zAn t.place (slotAt w t i)=i
 |0,_=>by
  obtain⟨b1,b2,b3⟩:=rA T.ris 0;show zAn t.place 0=0;cases h:zAn t.place 0 with
  |zero=>rfl
  |succ k=>
   rw[h]at b2
   have:=b2 0 (by omega)
   omega
 |i+1,hi=>by
  unfold slotAt;rw[hf];simp only[zA4,if_false];obtain⟨b1,b2,b3⟩:=rA T.ris (t.place.getD i 0+1);have hs:=T.siz;rcases zFi (zAn t.place (t.place.getD i 0+1)) (i+1)with z|z|z
  .have:=b3 i (by omega) (by omega)
   omega
  .exact z
  .have h1:=b2 (i+1) (by omega)
   have h2:=T.ris i (i+1) (by omega) (by omega);omega
section
variable{prog:zA3}{w:World}{A:zAc}{E:Value->zAE->Prop}{s:zAE}{d:Addr}{es:hV}{ep:Nat}{t:zCT}
def vP(ho:s.heap.get? d=some (bM es ep t))(T:cV t es.size)(hled:t.led= !w.params.followText "set-order")(hi:i<=es.size)
  (h:Q (((m7 w d ep es)[i]?).map λ e=>(e.2,slotAt w t (i+1))) s):wpAny (model prog w) A (setNext d (slotAt w t i) i ep) Q E s:=by
 unfold setNext;refine zAB (zB2 ho rfl T.fits ?_);dsimp only;unfold zJ8;refine zAB (zAB (zDU (zAI ?_)));show wpAny _ _ (if w.params.followText "set-order"=true then _ else _) _ _ _;unfold m7 at h;cases hf:w.params.followText "set-order" with
 |true=>
  rw[hf]at h;simp only[if_true]at h ⊢;simp only[bne_self_eq_false,zA4,if_false];unfold setWalk;refine zAB (zAB (zB2 ho rfl T.fits ?_));dsimp only;unfold zJ8;refine zAB (zAB (zDU (zAI ?_)));show wpAny _ _ (if w.params.followText "set-order"=true then _ else _) _ _ _;rw[hf];simp only[if_true];refine zAB (zDU (zAI (zAI ?_)));have e1:slotAt w t (i+1)=slotAt w t i:=by
   unfold slotAt;cases i with
   |zero=>simp[hf]
   |succ i=>simp[hf]
  rw[e1]at h;exact h
 |false=>
  rw[hf]at h hled;simp only[zA4,if_false]at h ⊢;have hd:(!t.plain&&decide (es.size>1))=false:=by rw[T.pla];rfl
  show wpAny _ _ (if (!t.plain&&decide (es.size>1))=true then _ else _) _ _ _;rw[hd];simp only[zA4,if_false];refine zAB ?_;show wpAny _ _ (if (!t.led&& !es.isEmpty)=true then _ else _) _ _ _;rw[hled];simp only[zFB,zDP,zIt,zA4,if_false];refine zAI ?_;rw[aD7 T hf i hi];have hslot:slotAt w t (i+1)=t.place.getD i 0+1:=by unfold slotAt;rw[hf];rfl
  rw[hslot]at h;by_cases hlt:i<es.size
  .have h1:es[i]? =some es[i]:=zAo hlt
   have aT:i<t.place.size:=by rw[T.siz];exact hlt
   have h2:t.place[i]? =some (t.place.getD i 0):=by
    rw[zAo aT];simp[zCQ,aT]
   rw[h1,h2];rw[h1]at h;exact zAI h
  .have h1:es[i]? =none:=zGn (by omega)
   rw[h1];rw[h1]at h;exact zAI h
def bz:PySem.Slot "set_iterator" "__next__" "set_iterator.__next__":=
 .of (owner:="set_iterator") (n:="__next__") (by rw[typeLookup_type,zIe];kernel_rfl) (by decide+kernel) (by decide+kernel) (by decide+kernel) (.inl (by decide+kernel)) (by rw[zH5];kernel_rfl)
def jQ:PySem.Slot "set_iterator" "__iter__" "set_iterator.__iter__":=
 .of (owner:="set_iterator") (n:="__iter__") (by rw[typeLookup_type,zIe];kernel_rfl) (by decide+kernel) (by decide+kernel) (by decide+kernel) (.inl (by decide+kernel)) (by rw[zH5];kernel_rfl)
def jC:entryFor table "set_iterator.__next__"=some zD4.«set_iterator.__next__»:=entryFor_of_fast (by kernel_rfl)
def pX:entryFor table "set_iterator.__iter__"=some zD4.«dict_keyiterator.__iter__»:=entryFor_alias (id':="dict_keyiterator.__iter__") (by kernel_rfl) rfl (by decide+kernel) (by kernel_rfl)
def uT:entryFor table "set.__iter__"=some zD4.«frozenset.__iter__»:=entryFor_alias (id':="frozenset.__iter__") (by kernel_rfl) rfl (by decide+kernel) (by kernel_rfl)
def jY(a:Value):argsOk "set_iterator.__next__" ⟨[a],[]⟩:=by unfold argsOk;kernel_rfl
def rB(a:Value):argsOk "set_iterator.__iter__" ⟨[a],[]⟩:=by unfold argsOk;kernel_rfl
end
section
variable{prog:zA3}{w:World}{A:zAc}{E:Value->zAE->Prop}{s:zAE}{d I:Addr}{es:hV}{ep:Nat}{t:zCT}{i':Nat}
abbrev aHe(d:Addr)(sl i n ep:Nat):Obj:={cls:=.type "set_iterator",data:=.fields #[.int sl 0,.int i 0,.ref d,.int n 0,.int ep 0]}
def aK4(h:Heap)(I d:Addr)(sl i n ep:Nat):Prop:=h.get? I=some (aHe d sl i n ep)
def aHd{h:Heap}{sl i n ep k:Nat}(e:h.get? I=some {cls:=.type "set_iterator",data:=.fields vs}):(h.update I (zJY (·.setIfInBounds k x))).get? I=some {cls:=.type "set_iterator",data:=.fields (vs.setIfInBounds k x)}:=by
 have:=zD9 (zJY (·.setIfInBounds k x)) e (Obj.isFreed_of_fields (Obj.data_mapFields rfl _))
 rw[this];rfl
def aC6(hI:aK4 s.heap I d (slotAt w t i') i' es.size ep)(ho:s.heap.get? d=some (bM es ep t))(T:cV t es.size)(hled:t.led= !w.params.followText "set-order"){v:Value}(hi:i'<es.size)(hv:((m7 w d ep es)[i']?).map (·.2)=some v){Q:Option Value->zAE->Prop}
  (h:∀h',aK4 h' I d (slotAt w t (i'+1)) (i'+1) es.size ep->zD8 I s.heap h'->Q (some v) {s with heap:=h'}):wpAny (model prog w) A (zE1 (.ref I)) Q E s:=by
 have hT:s.TypeIs (.ref I) "set_iterator":=⟨_,hI,rfl⟩;unfold zE1;refine zAB (wpAny_attempt (zEw (name:=zH4 "__next__") hT bz (zCi bz hT jC ?_ (jY _))));show wpAny _ _ (fieldsOf (.ref I)>>=_) _ _ s;refine zAB (wpAny_fieldsOf hI rfl ?_);dsimp only;refine zAB ?_;unfold setEntries;refine zAB (zB2 ho rfl T.fits (zAI ?_));simp only[bne_self_eq_false,zA4,if_false];refine zAB ?_;simp only[zFg];refine vP ho T hled (zB8 hi) ?_;cases hq:(m7 w d ep es)[i']? with
 |none=>rw[hq]at hv;cases hv
 |some e=>
  rw[hq]at hv;cases hv;dsimp only[zDL];refine zAB (zH7 hI rfl (by simp) ?_);have e1:=aHd (h:=s.heap) (I:=I) (k:=0) (x:=zJM (slotAt w t (i'+1))) (sl:=0) (i:=0) (n:=0) (ep:=0) hI;refine zAB (zH7 e1 rfl (by simp) ?_);have e2:=aHd (k:=1) (x:=zJM (i'+1)) (sl:=0) (i:=0) (n:=0) (ep:=0) e1;exact zAI ⟨_,rfl,zAI (h _ e2 ((zB7 ..).trans (zB7 ..)))⟩
def aEu(hh:A.handled=none)(hI:aK4 s.heap I d (slotAt w t es.size) es.size es.size ep)(ho:s.heap.get? d=some (bM es ep t))(T:cV t es.size)(hled:t.led= !w.params.followText "set-order")
  (h:∀h',Heap.ExtBut I s.heap h'->Q none {s with heap:=h'}):wpAny (model prog w) A (zE1 (.ref I)) Q E s:=by
 have hT:s.TypeIs (.ref I) "set_iterator":=⟨_,hI,rfl⟩;unfold zE1;refine zAB (wpAny_attempt (zEw (name:=zH4 "__next__") hT bz (zCi bz hT jC ?_ (jY _))));show wpAny _ _ (fieldsOf (.ref I)>>=_) _ _ s;refine zAB (wpAny_fieldsOf hI rfl ?_);dsimp only;refine zAB ?_;unfold setEntries;refine zAB (zB2 ho rfl T.fits (zAI ?_));simp only[bne_self_eq_false,zA4,if_false];refine zAB ?_;simp only[zFg];refine vP ho T hled (zAQ _) ?_;have hq:(m7 w d ep es)[es.size]? =none:=zGn (by
  have:=(iQ w d ep es).length_eq
  rw[zAU,zAU]at this;lia)
 rw[hq];dsimp only[zIQ];refine zAB (zH7 hI rfl (by simp) ?_);show wpAny _ _ (newExc (.type "StopIteration") []>>=_) _ _ _;refine zAB ?_;simp only[newExc,newTuple];refine zAB (zBJ (zAB (m:=firstArgMember _ _) (zFo (a:=zBn) (by first|rfl|(simp only[firstArgMember];rfl)) (zBJ ?_ (by size_fits)))) (by size_fits));simp only[raiseNew];refine zAB (wpAny_handled ?_);rw[show A.in1.handled=none from hh];refine zAB (zAI (wpAny_throw ?_));refine zAB (wpAny_isInstance (T:="StopIteration") (b:=true) ⟨_,zAS _ rfl,rfl⟩ isSubtype_stop ?_);exact zAI (h _ (((zB7 ..).extBut.push _).push _))
def aEm(hh:A.handled=none)(I d:Addr)(hne:d≠I)(es:hV)(ep:Nat)(t:zCT)(T:cV t es.size)(hled:t.led= !w.params.followText "set-order"):
  Walks prog w A I [I,d] [I] es.size (λ i v=>((m7 w d ep es)[i]?).map (·.2)=some v) (λ i h=>aK4 h I d (slotAt w t i) i es.size ep/\h.get? d=some (bM es ep t)) where
 sub:=λ b hb=>by simp at hb;simp[hb]
 frame:=λ _ _ _ st hk=>⟨hk I (by simp) _ st.1,hk d (by simp) _ st.2⟩
 item:=λ i s Q E hi st hQ=>by
  have hl:i<(m7 w d ep es).size:=by
   have:=(iQ w d ep es).length_eq
   rw[zAU,zAU]at this;lia
  have hv:((m7 w d ep es)[i]?).map (·.2)=some (m7 w d ep es)[i].2:=by rw[zAo hl];rfl
  refine aC6 st.1 st.2 T hled hi hv λ h' hI' hs'=>?_
  exact hQ _ h' s.toks hv ⟨hI',by rw[hs'.2 d hne];exact st.2⟩ λ b o hb e=>hs'.extBut b o (λ h=>hb (by simp[h])) e
 done:=λ s Q E st hQ=>aEu hh st.1 st.2 T hled λ h' he'=>hQ h' s.toks λ b o hb e=>he' b o (λ h=>hb (by simp[h])) e
 self:=λ i s Q E st hQ=>by
  have hT:s.TypeIs (.ref I) "set_iterator":=⟨_,st.1,rfl⟩;refine zJa hT jQ (zCi jQ hT pX ?_ (rB _));show wpAny _ _ (ret (.ref I)) _ _ s;exact zAI ⟨_,rfl,"set_iterator",_,hT,bz.lookup,hQ⟩
def aCo(ho:s.heap.get? d=some (bM es ep t))(T:cV t es.size)(h:Q (.ref s.heap.objs.size) {s with heap:=s.heap.push (aHe d 0 0 es.size ep)}):wpAny (model prog w) A (zG9 (.ref d)) Q E s:=by
 have hT:s.TypeIs (.ref d) "set":=⟨_,ho,rfl⟩;refine zJa hT zGg (zCi zGg hT uT ?_ (PySem.F.args_set_iter_1 _));unfold zD4.«frozenset.__iter__» zI4 slotArgs;simp only[List.isEmpty_nil,zDP,zA4,↓reduceIte,bind_assoc,zCJ,bne_self_eq_false];unfold zI1 zI3;refine zAB (zAI (zAB (zAI (zAB (zAB (wpAny_setEntries_of ho rfl T.fits (zAI ?_)))))));unfold setDrawn;refine zAB (zAB (zB2 ho rfl T.fits ?_));dsimp only;unfold zJ8;refine zAB (zAB (zDU (zAI (zAI ?_))));have hd:(!w.params.followText "set-order"&&(!t.plain&&decide (es.size>1)))=false:=by rw[T.pla];simp
 show wpAny _ _ (if (!w.params.followText "set-order"&&(!t.plain&&decide (es.size>1)))=true then _ else _) _ _ _;rw[hd];simp only[zA4,if_false];refine zAB (zAI (zAB (wpAny_setEpoch_of ho rfl T.fits ?_)));simp only[newFields];refine zAB (zBJ (zAI ⟨_,rfl,"set_iterator",_,⟨_,zAS _ rfl,rfl⟩,bz.lookup,?_⟩));exact h
def aHp(hT:s.TypeIs (.ref r) "set")(h:Q false s):wpAny (model prog w) A (zFI (.ref r)) Q E s:=by
 unfold zFI;refine zAB (zHH hT PySem.F.slot_set_len.lookup ?_);generalize hid:("set.__len__":String)=id0;wp_delta;rw[show splitId id0=some ("set","__len__")from by subst hid;decide+kernel];subst hid;refine zAB (wpAny_isInstance (T:="set") (b:=true) hT (by rw[zH5];kernel_rfl) ?_);refine wpAny_ite_split (λ hab=>absurd hab (by decide)) λ _=>wpAny_ite_split (λ _=>?_) λ hab=>absurd (by decide+kernel) hab
 exact zAB (zGa hT (zAI h))
def aDk(T:cV t es.size)(hled:t.led= !w.params.followText "set-order"):zIT prog w "set" d d es.size (λ i v=>((m7 w d ep es)[i]?).map (·.2)=some v) (λ h=>h.get? d=some (bM es ep t)) where
 type:=λ _ hm=>⟨_,hm,rfl⟩
 there:=λ _ hm=>⟨zAT hm,zAT hm⟩
 keep:=λ _ _ hm hk=>hk d (.inl rfl) _ hm
 notList:=by decide
 notTuple:=by decide
 hint:=λ _ _ _ _ hm hq=>aHp ⟨_,hm,rfl⟩ hq
 iter:=λ A s hh hm=>⟨aHe d 0 0 es.size ep,_,(λ _ _ hq=>aCo hm T hq),aEm hh _ d (zA6 (zAT hm)) es ep t T hled,⟨zAS _ rfl,zAC _ hm⟩⟩
end
section
variable{prog:zA3}{w:World}{A:zAc}{E:Value->zAE->Prop}{s:zAE}{T:String}{r d:Addr}{n:Nat}{P:Nat->Value->Prop}{OK:Heap->Prop}
def uD(K:zIT prog w T r d n P OK)(hh:A.handled=none)(hok:OK s.heap)(hn:n<=zAY)
  (h:∀h' tk vs,s.heap.objs.size<h'.objs.size->(∀b o,s.heap.get? b=some o->h'.get? b=some o)->vs.length=n->(∀(j:Nat) v,vs[j]? =some v->P j v)->Q vs {s with heap:=h',toks:=tk}):wpAny (model prog w) A (zIw (.ref r)) Q E s:=by
 have hlt:=K.there _ hok;unfold zIw;refine zAB (zH6 (zBZ zFj ?_));rw[zBE zFk _];show wpAny _ A.in1 (zFT []>>=λ l=>again (.builtin "list.__iadd__" ⟨[l,.ref r],[]⟩)) _ _ s;refine zAB (zBJ (zAI ⟨zCd zDH _,zBZ zGQ ?_⟩));rw[zBE zDH _];show wpAny _ A.in1 (zFH (.ref s.heap.objs.size) (.ref r) (.ref s.heap.objs.size)) _ _ _;have fin:∀h' tk acc' c',(∀b o,b≠s.heap.objs.size->(s.heap.push (zBu "list" #[] 0)).get? b=some o->h'.get? b=some o)->h'.get? s.heap.objs.size=some {cls:=.type "list",dict:=none,data:=.seq acc' c',slots:=#[]}->ItemsOf P acc' n->
   wpAny (model prog w) A (do match (zAx s.heap.objs.size)with
    | .ref a=>match (<-load a).data with
     | .seq xs _=>pure xs.toList
     |_=>zHF "internal:collect"
    |_=>zHF "internal:collect") Q E {s with heap:=h',toks:=tk}:=λ h' tk acc' c' hk hS' qV=>
  zAB (zJ9 hS' (zAI (h h' tk acc'.toList (zAT hS') (λ b o e=>hk b o (zA6 (zAT e)) (zAC _ e)) (by rw[zAU];exact qV.1) λ j v e=>qV.2 j v (by rw[<-zAd];exact e))))
 refine zAw (PySem.W.kdl_extend (A:=A) (s:={s with heap:=s.heap.push (zBu "list" #[] 0)}) (R:=λ r s'=>∃h' tk acc' c',r= .ok (.ret (.ref s.heap.objs.size))/\s'={s with heap:=h',toks:=tk}/\(∀b o,b≠s.heap.objs.size->(s.heap.push (zBu "list" #[] 0)).get? b=some o->h'.get? b=some o)/\h'.get? s.heap.objs.size=some {cls:=.type "list",dict:=none,data:=.seq acc' c',slots:=#[]}/\ItemsOf P acc' n)
  K hh (K.keep _ _ hok λ b _ o e=>zAC _ e) s.heap.objs.size (zC6 hlt.1) (zC6 hlt.2) (.ref s.heap.objs.size) 0 (zAS _ rfl) (λ h' tk acc' c' hk hS' qV=>⟨h',tk,acc',c',rfl,rfl,hk,hS',qV⟩) hn) (λ f s' hf=>?_) λ e s' he=>?_
 .cases f with
  |done f=>
   obtain⟨h',tk,acc',c',q1,q2,q3,q4,q5⟩:=hf;cases q1;subst q2;exact fin h' tk acc' c' q3 q4 q5
  |again c=>
   refine⟨hf.1,zC9 hf.2 λ r s' hr=>?_⟩;obtain⟨h',tk,acc',c',q1,q2,q3,q4,q5⟩:=hr;subst q1 q2;exact fin h' tk acc' c' q3 q4 q5
 .obtain⟨h',tk,acc',c',q1,_⟩:=he
  cases q1
end
def aK2(h:Heap)(p:Value×List Int):Prop:=∃x o xs k,p.1= .ref x/\h.get? x=some o/\o.cls= .type "tuple"/\o.data= .seq xs k/\zBV xs.toList p.2/\p.2≠[]
theorem bI.all:∀{vs:List Value} {nss:gV},bI h vs nss->∀p∈vs.zip nss,aK2 h p
 |_,_,.nil,p,hp=>by simp at hp
 |_,_,.cons ho hc hd hi hne r,p,hp=>by
  rw[zBB]at hp;rcases zAP.mp hp with e|hp
  .subst e;exact⟨_,_,_,_,rfl,ho,hc,hd,hi,hne⟩
  .exact r.all p hp
theorem aDe:∀{zs:iX},(∀p∈zs,aK2 h p)->bI h (zs.map (·.1)) (zs.map (·.2))
 |[],_=>.nil
 |p::zs,hz=>by
  obtain⟨x,o,xs,k,e1,e2,e3,e4,e5,e6⟩:=hz p zAF;rw[zAM,zAM,e1];exact .cons e2 e3 e4 e5 e6 (aDe λ q hq=>hz q (zAG _ hq))
def lL(h:l.Perm m'):∀{m:List α},m'=m.map f->∃m2:List α,m2.Perm m/\l=m2.map f:=by
 induction h with
 |nil=>intro m e;exact⟨m,zBL _,e⟩
 |cons x p ih=>
  intro m e;cases m with
  |nil=>cases e
  |cons a m=>
   rw[zAM]at e;injection e with e1 e2
   obtain⟨m2,q1,q2⟩:=ih e2;exact⟨a::m2,q1.cons a,by rw[zAM,q2,e1]⟩
 |swap x y l=>
  intro m e;cases m with
  |nil=>cases e
  |cons a m=>
   cases m with
   |nil=>rw[zAM]at e;injection e with _ e2;cases e2
   |cons b m=>
    rw[zAM,zAM]at e;injection e with e1 e2
    injection e2 with e2 e3
    exact⟨b::a::m,zDn _ _ _,by rw[zAM,zAM,e1,e2,e3]⟩
 |trans p q ih1 ih2=>
  intro m e;obtain⟨m2,a1,a2⟩:=ih2 e;obtain⟨m3,b1,b2⟩:=ih1 a2;exact⟨m3,b1.trans a1,b2⟩
def nO(l:gV):Prop:=l.Pairwise λ a b=>HT.lexLt b a=false
section
variable{prog:zA3}{w:World}{A:zAc}{E:Value->zAE->Prop}{s:zAE}
def aAs{Q:Value->zAE->Prop}(hz:∀p∈zs,aK2 s.heap p)(h64:zs.length<64)
  (h:∀(zs':iX) h' e,zs'.Perm zs->nO (zs'.map (·.2))->(∀b o,s.heap.get? b=some o->h'.get? b=some o)->h'.get? s.heap.objs.size=some (zBu "list" (zs'.map (·.1)).toArray e)->Q (.ref s.heap.objs.size) {s with heap:=h'}):
  wpAny (model prog w) A (zFT (zs.map (·.1))>>=λ l=>zCp [l] (call (.builtin "list.sort") [l])>>=λ _=>ret l) (λ fin s'=>∃r,fin= .done (.ret r)/\Q r s') E s:=by
 have kK:(zs.map (·.1)).length=zs.length:=zAD _;refine zAB (zIE ?_ (by rw[zBj];omega));have hoL:(s.heap.push (zBu "list" (zs.map (·.1)).toArray 0)).get? s.heap.objs.size=some (zBu "list" (zs.map (·.1)).toArray 0):=zAS _ rfl;refine zAB (zBW (zCi slot_list_sort ⟨_,hoL,rfl⟩ entry_list_sort ?_ (args_list_sort _)));refine aDG (s:={s with heap:=s.heap.push (zBu "list" (zs.map (·.1)).toArray 0)}) hoL (aDe λ p hp=>?_) (by omega) λ p a1 a2=>⟨_,rfl,?_⟩
 .obtain⟨x,o,xs,k,e1,e2,e3⟩:=hz p hp
  exact⟨x,o,xs,k,e1,zAC _ e2,e3⟩
 rw[kK]at a1 a2;have eS:p.toList.map (λ i=>(zs.map (·.1)).getD i zBn)=(p.toList.map λ i=>zs.getD i (zBn,[])).map (·.1):=by
  rw[zAv];refine zFN λ i hi=>?_
  show(zs.map (·.1)).getD i zBn=(zs.getD i (zBn,[])).1
  rw[zBP,zBP,zAW];cases zs[i]?<;>rfl
 have pV:(p.toList.map λ i=>zs.getD i (zBn,[])).Perm zs:=by
  have h1:p.toList.Perm (zAj zs.length):=by
   have:=Array.perm_iff_toList_perm.mp a1
   simpa using this
  refine(h1.map _).trans ?_
  have:(zAj zs.length).map (λ i=>zs.getD i (zBn,[]))=zs:=by
   refine zFq (by simp) λ i h1 h2=>?_
   rw[zFr,List.getElem_range,zBP,zAH h2];rfl
  rw[this]
 have hne:∀b o,s.heap.get? b=some o->b≠s.heap.objs.size:=λ b o e=>zA6 (zAT e)
 obtain⟨e1,he1⟩:∃e1,((s.heap.push (zBu "list" (zs.map (·.1)).toArray 0)).update s.heap.objs.size (zDK λ _=>(#[]:Array Value))).get? s.heap.objs.size=some (zBu "list" #[] e1):=⟨_,zEK hoL λ _=>#[]⟩
 have g1:=zAC (zBu "list" #[] 0) (zAC (zBu "tuple" (zs.map (·.1)).toArray 0) he1);have g2:=zEK g1 (λ _=>oO (zs.map (·.1)) p);generalize (if ((oO (zs.map (·.1)) p).size==(#[]:Array Value).size)=true then e1 else e1+1)=c1 at g2;have hend:(zGY (s.heap.push (zBu "list" (zs.map (·.1)).toArray 0)) s.heap.objs.size (zs.map (·.1)) (oO (zs.map (·.1)) p)).get? s.heap.objs.size=some (zBu "list" (oO (zs.map (·.1)) p) c1):=g2;have aS:oO (zs.map (·.1)) p=((p.toList.map λ i=>zs.getD i (zBn,[])).map (·.1)).toArray:=by unfold oO;rw[eS]
 have hris:nO ((p.toList.map λ i=>zs.getD i (zBn,[])).map (·.2)):=by
  unfold nO;rw[zAv];refine zCU.mpr λ i j hi hj hij=>?_
  rw[zAD,zAU,a1.sz]at hi hj;have hk:∀k (hk:k<zs.length),Kp (O:=aDH) (λ i=>(zs.map (·.2)).getD i []) p k=(zs.getD (p.getD k 0) (zBn,[])).2:=λ k hk=>by
   show(zs.map (·.2)).getD (p.getD k 0) []=_
   rw[zBP,zBP,zAW];cases zs[p.getD k 0]?<;>rfl
  have hg:∀k (hk:k<p.toList.length),p.toList[k]=p.getD k 0:=λ k hk=>by
   have:k<p.size:=by simpa using hk
   simp[zCQ,this]
  have this:HT.lexLt (Kp (O:=aDH) (λ i=>(zs.map (·.2)).getD i []) p j) (Kp (O:=aDH) (λ i=>(zs.map (·.2)).getD i []) p i)=false:=a2 i j (zB8 hij) hj;rw[hk i hi,hk j hj]at this;rw[zFr,zFr,hg,hg];exact this
 have eD:∀b o,s.heap.get? b=some o->(zGY (s.heap.push (zBu "list" (zs.map (·.1)).toArray 0)) s.heap.objs.size (zs.map (·.1)) (oO (zs.map (·.1)) p)).get? b=some o:=λ b o e=>by
  unfold zGY;rw[zC4 _ _ _ _ (hne b o e)];refine zAC _ (zAC _ ?_);rw[zC4 _ _ _ _ (hne b o e)];exact zAC _ e
 rw[aS]at hend eD;have hq:=h (p.toList.map λ i=>zs.getD i (zBn,[])) _ c1 pV hris eD hend;rw[<-aS]at hq;exact zAI ⟨_,rfl,hq⟩
def lD(h:wpAny (model prog w) A.in1 (zIw v) (λ vs s'=>wpAny (model prog w) A.in1 (zFT vs>>=λ l=>zCp [l] (call (.builtin "list.sort") [l])>>=λ _=>ret l) (λ fin s'=>∃r,fin= .done (.ret r)/\Q r s') E s') E s):
  wpAny (model prog w) A (call (.builtin "sorted") [v]) Q E s:=by
 refine Calls.call_function_entry kind_sorted plain_sorted entry_sorted (args_sorted1 _) ?_;unfold zD4.«sorted»;refine zAB (m:=checkCount "sorted" 1 1 _) (zAI (zAB ?_));exact h
end
inductive cA(K:zAA)(H:Hp):List V->List (List Int)->Prop where
 |nil:cA K H [] []
 |cons {a:Addr} {ns:List Int} {vs:List V} {nss:gV} (h:SqT K H a (ns.map V.int)) (hne:ns≠[]) (r:cA K H vs nss):cA K H (.ref a::vs) (ns::nss)
def lJ:V->Value
 | .ref a=>.ref a
 |_=>.none
def cA.vals{K:zAA}:∀{vs:List V} {nss:gV} {us:List Value},cA K H vs nss->Vals vs us->us=vs.map lJ:=by
 intro vs nss us t v;induction v generalizing nss with
 |nil=>rfl
 |cons q s ih=>
  cases t with
  |cons _ _ r=>
   cases q;rw[zAM,ih r];rfl
theorem cA.len{K:zAA}:∀{vs:List V} {nss:gV},cA K H vs nss->vs.length=nss.length
 |_,_,.nil=>rfl
 |_,_,.cons _ _ r=>by rw[zAO,zAO,r.len]
theorem cA.refs{K:zAA}:∀{vs:List V} {nss:gV},cA K H vs nss->∀v∈vs,RelV v (lJ v)
 |_,_,.nil,v,hv=>by simp at hv
 |_,_,.cons _ _ r,v,hv=>by
  rcases zAP.mp hv with e|hv
  .subst e;exact rfl
  .exact r.refs v hv
theorem cA.up{K:zAA}(s:aO H H'):∀{vs:List V} {nss:gV},cA K H vs nss->cA K H' vs nss
 |_,_,.nil=>.nil
 |_,_,.cons h hne r=>.cons (s.sqt h) hne (r.up s)
theorem cA.at(I:Inv X kX Z H s):∀{vs:List V} {nss:gV},cA X.K H vs nss->bI s.heap (vs.map lJ) nss
 |_,_,.nil=>.nil
 |_,_,.cons h hne r=>by
  obtain⟨its,rv,⟨o,ho,hc,n,hd⟩,_⟩:=I.tuple h;exact .cons ho hc hd (by simpa using intsAre_of rv) hne (r.at I)
theorem yL:∀{vs:List V},(∀v∈vs,RelV v (lJ v))->Vals vs (vs.map lJ)
 |[],_=>.nil
 |v::vs,h=>.cons (h v zAF) (yL λ u hu=>h u (zAG _ hu))
def setφ(w:World)(a:Addr)(zs:iX):Heap->Prop:=λ h=>∃es t,uX h a (!w.params.followText "set-order") zs es t
abbrev aFF(zs:List (V×List Int)):iX:=zs.map λ q=>(lJ q.1,q.2)
def aBK(vs:List V)(nss:gV):(vs.map lJ).zip nss=aFF (vs.zip nss):=by rw[zIO];rfl
def aKJ{w:World}{H:Hp}{h:Heap}{a:Addr}{zs:iX}(S:uX h a (!w.params.followText "set-order") zs es t):cP prog w H h a (.ext (setφ w a zs)):=
 ⟨⟨es,t,S⟩,(let⟨_,e⟩:=S.at_;⟨_,e⟩),λ h1 h2 ⟨es,t,S⟩ k=>⟨es,t,{S with at_:=S.at_.keep k}⟩⟩
section
variable{X:Cx}
def aDw(K:zAA)(w:World):List V->Hp->VK->Prop:=λ xs H Q=>∃p vs nss,xs=[.ref p]/\(SqL K H p vs\/SqT K H p vs)/\cA K H vs nss/\(ddV (vs.zip nss)).length<=76/\(∀a∈nss,∀b∈nss,hsh a=hsh b->a=b)/\∀a H',aO H H'->H' a=some (.ext (setφ w a (aFF (ddV (vs.zip nss)))))->H a=none->Q (.ref a) H'
def aD4(hc:X.calm=true)(hu:X.A.units+64<cLine):cg X (.type "set") (aDw X.K X.w):=by
 intro kX s Z H xs us Q I r h;obtain⟨p,vs,nss,rfl,hp,ht,h64,hin,q⟩:=h;obtain⟨u,rfl,ru⟩:=vals1 r;cases ru;have ez:ddV ((vs.map lJ).zip nss)=aFF (ddV (vs.zip nss)):=by rw[aBK];exact aKP lJ _
 have h64':(ddV ((vs.map lJ).zip nss)).length<=76:=by rw[ez,zAD];exact h64
 have hfr:H s.heap.objs.size=none:=I.hok.fresh (zAQ _);have fin:∀h' tk es t,uX h' s.heap.objs.size (!X.w.params.followText "set-order") (ddV ((vs.map lJ).zip nss)) es t->(∀b o,s.heap.get? b=some o->h'.get? b=some o)->EP X kX Z Q (.ref s.heap.objs.size) {s with heap:=h',toks:=tk}:=λ h' tk es t g1 g5=>by
  rw[ez]at g1;exact⟨.ref s.heap.objs.size,upd H s.heap.objs.size (.ext (setφ X.w s.heap.objs.size (aFF (ddV (vs.zip nss))))),I.laid (t':=tk) g5 (zAQ _) (aKJ g1),rfl,q _ _ (bQ hfr _) aa hfr⟩
 rcases hp with hp|hp
 .obtain⟨its,rv,pl,hz⟩:=I.list hp
  have e:=ht.vals rv;subst e;exact PySem.aFi (I.ok.hd hc) (by lia) pl.isList (ht.at I) h64' hin fin
 .obtain⟨its,rv,pl,hz⟩:=I.tuple hp
  have e:=ht.vals rv;subst e;exact PySem.aCB (I.ok.hd hc) (by lia) pl (ht.at I) h64' hin fin
def aCM(H:Hp)(vs:List V)(nss:gV)(Q:VK):Prop:=∀zs:List (V×List Int),zs.Perm (vs.zip nss)->nO (zs.map (·.2))->New H (.lst (zs.map (·.1))) Q
def vL{kX:hZ}(I:Inv X kX Z H s)(ht:cA X.K H vs nss)(h64:vs.length<64)(q:aCM H vs nss Q)
  (hs1:∃h1 tk,s1={s with heap:=h1,toks:=tk}/\s.heap.objs.size<=h1.objs.size/\∀b o,s.heap.get? b=some o->h1.get? b=some o){zs:iX}(hz:zs.Perm ((vs.map lJ).zip nss))(hus:us=zs.map (·.1)):
  wpAny (model X.prog X.w) X.A.in1 (zFT us>>=λ l=>zCp [l] (call (.builtin "list.sort") [l])>>=λ _=>ret l) (λ fin s'=>∃r,fin= .done (.ret r)/\EP X kX Z Q r s') X.xe s1:=by
 obtain⟨h1,tk,rfl,hsz,keep⟩:=hs1;subst hus;have aE:∀p∈zs,aK2 h1 p:=λ p hp=>by
  obtain⟨x,o,xs,k,e1,e2,e3⟩:=(ht.at I).all p (hz.mem_iff.mp hp);exact⟨x,o,xs,k,e1,keep _ _ e2,e3⟩
 have kK:zs.length<64:=by
  rw[hz.length_eq,zGK,zAD,<-ht.len,zFu];exact h64
 refine aAs (s:={s with heap:=h1,toks:=tk}) aE kK λ zs' h' e a1 a2 a3 a4=>?_
 have eS:(vs.map lJ).zip nss=(vs.zip nss).map λ p=>(lJ p.1,p.2):=by rw[zIO];rfl
 obtain⟨ws,w1,w2⟩:=lL (f:=λ p:V×List Int=>(lJ p.1,p.2)) (a1.trans hz) eS;have hfr:H h1.objs.size=none:=I.hok.fresh hsz;have dA:∀v∈ws.map (·.1),RelV v (lJ v):=λ v hv=>by
  obtain⟨p,hp,rfl⟩:=zA0.mp hv;exact ht.refs p.1 (zCY (w1.mem_iff.mp hp)).1
 have hws:zs'.map (·.1)=(ws.map (·.1)).map lJ:=by rw[w2,zAv,zAv];rfl
 have hwl:(ws.map (·.1)).length<=zAY:=by
  rw[zAD,w1.length_eq,zGK,<-ht.len,zFu,zBj];lia
 refine⟨.ref h1.objs.size,upd H h1.objs.size (.lst (ws.map (·.1))),I.laid (t':=tk) (λ b o e=>a3 b o (keep b o e)) hsz ⟨hwl,(ws.map (·.1)).map lJ,e,yL dA,?_⟩,rfl,(q ws w1 ?_).at hfr⟩
 .rw[<-hws];exact a4
 .have:ws.map (·.2)=zs'.map (·.2):=by rw[w2,zAv];rfl
  rw[this];exact a2
def aCl(K:zAA):List V->Hp->VK->Prop:=λ xs H Q=>∃p vs nss,xs=[.ref p]/\SqL K H p vs/\cA K H vs nss/\vs.length<64/\aCM H vs nss Q
def yG:cg X (.builtin "sorted") (aCl X.K):=by
 intro kX s Z H xs us Q I r h;obtain⟨p,vs,nss,rfl,hp,ht,h64,q⟩:=h;obtain⟨u,rfl,ru⟩:=vals1 r;cases ru;obtain⟨its,rv,pl,hz⟩:=I.list hp;have e:=ht.vals rv;subst e;have hl2:(vs.map lJ).length=nss.length:=by rw[zAD];exact ht.len
 refine lD (collect_list pl.isList ?_ (by rw[zAD];exact hz));refine vL I ht h64 q ⟨_,_,rfl,?_,λ b o e=>?_⟩ (zBL _) ?_
 .rw[Heap.size_update,size_push']
  exact zDG _
 .rw[zC4 _ _ _ _ (zA6 (zAT e))]
  exact zAC _ e
 .exact(zI8 (by lia)).symm
def aC5{kX:hZ}{P:Value->zAE->Prop}(hc:X.calm=true)(I:Inv X kX Z H s){zs:iX}(ha:H a=some (.ext (setφ X.w a zs)))(h64:zs.length<4000)
  (h:∀s1 (zs':iX),(∃h1 tk,s1={s with heap:=h1,toks:=tk}/\s.heap.objs.size<=h1.objs.size/\∀b o,s.heap.get? b=some o->h1.get? b=some o)->zs'.Perm zs->wpAny (model X.prog X.w) X.A.in1 (zFT (zs'.map (·.1))>>=λ l=>zCp [l] (call (.builtin "list.sort") [l])>>=λ _=>ret l) (λ fin s'=>∃r,fin= .done (.ret r)/\P r s') X.xe s1):
  wpAny (model X.prog X.w) X.A (call (.builtin "sorted") [.ref a]) P X.xe s:=by
 obtain⟨⟨es,t,S⟩,_,_⟩:=I.hok a _ ha;obtain⟨⟨ep,e1⟩,e2,_,e3,e4,_⟩:=S;have hsz:es.size=zs.length:=by rw[<-zAU,e4.length_eq,zAD]
 have hh:X.A.in1.handled=none:=I.ok.hd hc;refine lD (uD (aDk (ep:=ep) e2 e3) hh e1 (by rw[hsz,zBj];lia) λ h1 tk vs1 k0 k1 k2 k3=>?_);obtain⟨zs',z1,z2⟩:=lL (f:=ent) ((iQ X.w a ep es).trans e4) rfl;have hvs:vs1=zs'.map (·.1):=by
  have e5:(m7 X.w a ep es).toList.map (·.2)=zs'.map (·.1):=by rw[z2,zAv];rfl
  rw[<-e5];have kK:(m7 X.w a ep es).toList.length=es.size:=by rw[(iQ X.w a ep es).length_eq,zAU]
  refine zFq (by rw[k2,zAD,kK]) λ i g1 g2=>?_
  have:=k3 i _ (zAH g1)
  rw[<-zAd,<-zAW,zAH g2]at this;exact(zAl this).symm
 subst hvs;exact h _ zs' ⟨h1,tk,rfl,zB8 k0,k1⟩ z1
theorem aFw:∀zs:List (α×β),(zs.map (·.1)).zip (zs.map (·.2))=zs
 |[]=>rfl
 |p::zs=>by rw[zAM,zAM,zBB,aFw zs]
def aCm(K:zAA)(w:World):List V->Hp->VK->Prop:=λ xs H Q=>∃a zs,xs=[.ref a]/\H a=some (.ext (setφ w a (aFF zs)))/\cA K H (zs.map (·.1)) (zs.map (·.2))/\zs.length<64/\aCM H (zs.map (·.1)) (zs.map (·.2)) Q
def yH(hc:X.calm=true):cg X (.builtin "sorted") (aCm X.K X.w):=by
 intro kX s Z H xs us Q I r h;obtain⟨a,zs,rfl,ha,ht,h64,q⟩:=h;obtain⟨u,rfl,ru⟩:=vals1 r;cases ru;exact aC5 hc I ha (by rw[zAD];lia) λ s1 zs' hs1 hp=>vL I ht (by rw[zAD];exact h64) q hs1 (by rw[aBK,aFw];exact hp) rfl
end
def aF8(a:List Int):gV->List (List Int)
 |[]=>[a]
 |b::l=>if HT.lexLt b a then b::aF8 a l else a::b::l
def qO:gV->List (List Int)
 |[]=>[]
 |a::l=>aF8 a (qO l)
theorem sX(a:List Int):∀l,(aF8 a l).Perm (a::l)
 |[]=>zBL _
 |b::l=>by
  unfold aF8;split
  .exact((sX a l).cons b).trans (zDn _ _ _)
  .exact zBL _
theorem lE:∀l,(qO l).Perm l
 |[]=>zBL _
 |a::l=>(sX a _).trans ((lE l).cons a)
def aEQ(h:HT.lexLt a b=true):HT.lexLt b a=false:=by
 cases e:HT.lexLt b a with
 |false=>rfl
 |true=>have:=qe a b a h e;rw[aAO]at this;cases this
def aMX(h1:HT.lexLt b a=false)(h2:HT.lexLt c b=false):HT.lexLt c a=false:=by
 cases e:HT.lexLt c a with
 |false=>rfl
 |true=>
  rcases aHY c b a e with z|z
  .rw[h2]at z;cases z
  .rw[h1]at z;cases z
theorem wQ(a:List Int):∀l,nO l->nO (aF8 a l)
 |[],_=>zAy.mpr ⟨λ _ h=>by simp at h,.nil⟩
 |b::l,h=>by
  obtain⟨h1,h2⟩:=zAy.mp h;unfold aF8;cases e:HT.lexLt b a with
  |true=>
   rw[if_pos rfl];refine zAy.mpr ⟨λ x hx=>?_,wQ a l h2⟩;rcases zAP.mp ((sX a l).mem_iff.mp hx)with q|q
   .subst q;exact aEQ e
   .exact h1 x q
  |false=>
   rw[if_neg (by simp)];refine zAy.mpr ⟨λ x hx=>?_,h⟩;rcases zAP.mp hx with q|q
   .subst q;exact e
   .exact aMX e (h1 x q)
theorem mJ:∀l,nO (qO l)
 |[]=>.nil
 |a::l=>wQ a _ (mJ l)
theorem sE:∀{a b:gV},a.Perm b->nO a->nO b->a=b
 |[],b,p,_,_=>p.nil_eq
 |x::a,b,p,h1,h2=>by
  cases b with
  |nil=>exact absurd p.length_eq (by simp)
  |cons y b=>
   have hxy:x=y:=by
    obtain⟨q1,_⟩:=zAy.mp h1;obtain⟨q2,_⟩:=zAy.mp h2;have m1:x∈y::b:=p.mem_iff.mp zAF;have m2:y∈x::a:=p.mem_iff.mpr zAF;rcases zAP.mp m1 with e|m1
    .exact e
    .rcases zAP.mp m2 with e|m2
     .exact e.symm
     .exact wA _ _ (q2 x m1) (q1 y m2)
   subst hxy;rw[sE (List.Perm.cons_inv p) (zAy.mp h1).2 (zAy.mp h2).2]
abbrev tupI(ns:List Int):D:=.tup (ns.map .int)
def mC:List D->Option gV
 |[]=>some []
 | .tup l::r=>match intsOf l,mC r with
  |some (n::ns),some nss=>some ((n::ns)::nss)
  |_,_=>none
 |_=>none
theorem lz:∀{l:List D} {nss:gV},mC l=some nss->l=nss.map tupI/\∀ns∈nss,ns≠[]
 |[],nss,h=>by cases h;exact⟨rfl,λ ns h=>by simp at h⟩
 | .tup l::r,nss,h=>by
  unfold mC at h;split at h
  .rename_i n ns nss' e1 e2
   cases h;obtain⟨q1,q2⟩:=lz e2;rw[cI e1,q1];refine⟨rfl,λ ms hm=>?_⟩;rcases zAP.mp hm with e|hm
   .subst e;simp
   .exact q2 ms hm
  .cases h
 | .non::_,_,h=>by cases h
 | .int _::_,_,h=>by cases h
 | .bl _::_,_,h=>by cases h
 | .str _::_,_,h=>by cases h
 | .lst _::_,_,h=>by cases h
 | .dct _ _::_,_,h=>by cases h
 | .set _::_,_,h=>by cases h
 | .scr _::_,_,h=>by cases h
theorem pA:∀{nss:gV},(∀ns∈nss,ns≠[])->mC (nss.map tupI)=some nss
 |[],_=>rfl
 |[]::nss,h=>absurd rfl (h [] zAF)
 |(n::ns)::nss,h=>by
  have ih:=pA λ ms hm=>h ms (zAG _ hm)
  rw[zAM];unfold mC;rw[ih,show intsOf (List.map D.int (n::ns))=some (n::ns)from gG _]
theorem vC{K:zAA}:∀{xs:List V} {nss:gV},Rps K A H xs (nss.map tupI)->(∀ns∈nss,ns≠[])->cA K H xs nss
 |_,[],.nil,_=>.nil
 |_,ns::nss,.cons h r,hne=>by
  cases h with
  |tup h r'=>
   have e:=r'.ints_of;subst e;exact .cons h (hne ns zAF) (vC r λ ms hm=>hne ms (zAG _ hm))
theorem aG6{K:zAA}:∀{zs:List (V×List Int)},(∀p∈zs,∃a,p.1= .ref a/\SqT K H a (p.2.map V.int))->Rps K A H (zs.map (·.1)) ((zs.map (·.2)).map tupI)
 |[],_=>.nil
 |p::zs,h=>by
  obtain⟨a,e1,e2⟩:=h p zAF;rw[zAM,zAM,zAM,e1];exact .cons (.tup e2 .ints) (aG6 λ q hq=>h q (zAG _ hq))
theorem cA.all{K:zAA}:∀{vs:List V} {nss:gV},cA K H vs nss->∀p∈vs.zip nss,∃a,p.1= .ref a/\SqT K H a (p.2.map V.int)
 |_,_,.nil,p,hp=>by simp at hp
 |_,_,.cons h _ r,p,hp=>by
  rw[zBB]at hp;rcases zAP.mp hp with e|hp
  .subst e;exact⟨_,rfl,h⟩
  .exact r.all p hp
def aAt{K:zAA}(ht:cA K H vs nss)(q:∀v H',aO H H'->Rp K (λ p=>H p=none) H' v (.lst ((qO nss).map tupI))->Q v H'):aCM H vs nss Q:=by
 intro zs hz hr p H' s hp hn;have e:zs.map (·.2)=qO nss:=sE (((hz.map (·.2)).trans (by rw[zFs (by rw[ht.len];exact zAQ _)])).trans (lE nss).symm) hr (mJ nss);refine q _ H' s (.lst hp hn ?_);rw[<-e];exact aG6 λ p hp=>by
  obtain⟨a,e1,e2⟩:=ht.all p (hz.mem_iff.mp hp);exact⟨a,e1,s.sqt e2⟩
def insI(a:Int):List Int->List Int
 |[]=>[a]
 |b::l=>if b<a then b::insI a l else a::b::l
def sortI:List Int->List Int
 |[]=>[]
 |a::l=>insI a (sortI l)
theorem insI_perm(a:Int):∀l,(insI a l).Perm (a::l)
 |[]=>zBL _
 |b::l=>by
  unfold insI;split
  .exact((insI_perm a l).cons b).trans (zDn _ _ _)
  .exact zBL _
theorem sortI_perm:∀l,(sortI l).Perm l
 |[]=>zBL _
 |a::l=>(insI_perm a _).trans ((sortI_perm l).cons a)
theorem aBg(a:Int):∀l:List Int,l.Pairwise (·<=·)->(insI a l).Pairwise (·<=·)
 |[],_=>zAy.mpr ⟨λ _ h=>by simp at h,.nil⟩
 |b::l,h=>by
  obtain⟨h1,h2⟩:=zAy.mp h;unfold insI;by_cases e:b<a
  .rw[if_pos e]
   refine zAy.mpr ⟨λ x hx=>?_,aBg a l h2⟩;rcases zAP.mp ((insI_perm a l).mem_iff.mp hx)with q|q
   .lia
   .exact h1 x q
  .rw[if_neg e]
   refine zAy.mpr ⟨λ x hx=>?_,h⟩;rcases zAP.mp hx with q|q
   .lia
   .have:=h1 x q;lia
theorem iM:∀l,(sortI l).Pairwise (·<=·)
 |[]=>.nil
 |a::l=>aBg a _ (iM l)
theorem lA:∀{us:List Value} {ns:List Int},zBV us ns->Vals (ns.map V.int) us
 |_,_,.nil=>.nil
 |_,_,.cons n t r=>.cons ⟨t,rfl⟩ (lA r)
section
variable{X:Cx}
def aCn(K:zAA):List V->Hp->VK->Prop:=λ xs H Q=>∃p ns,xs=[.ref p]/\SqL K H p (ns.map V.int)/\ns.length<64/\New H (.lst ((sortI ns).map V.int)) Q
def aA9:cg X (.builtin "sorted") (aCn X.K):=by
 intro kX s Z H xs us Q I r h;obtain⟨p,ns,rfl,hp,h64,q⟩:=h;obtain⟨u,rfl,ru⟩:=vals1 r;cases ru;obtain⟨its,rv,pl,hz⟩:=I.list hp;have hI:zBV its ns:=intsAre_of rv;have kK:its.length<64:=by
  have:=rv.length
  rw[zAD]at this;lia
 refine sorted_ints pl.isList hI kK λ out ns' h1 h2 h3=>?_
 have e:ns'=sortI ns:=zES (h2.trans (sortI_perm ns).symm) h3 (iM ns);subst e;obtain⟨e,he⟩:=sortedAll_at s.heap its out;have hfr:H (s.heap.objs.size+1)=none:=I.hok.fresh (zDG _);refine⟨.ref (s.heap.objs.size+1),upd H (s.heap.objs.size+1) (.lst ((sortI ns).map V.int)),I.laid (t':=s.toks) (λ b o q=>sortedAll_old q) (zDG _) ?_,rfl,q.at hfr⟩;refine⟨?_,out.toList,e,lA h1,?_⟩
 .rw[zAD,h2.length_eq]
  exact zAi (zB8 h64) (by decide)
 .rw[zHK]
  exact he
end
def aLK(K:zAA)(r:List V->Hp->VK->Prop)(fd:List D->Rs D):Prop:=∀(A:Addr->Prop) xs ds H (Q:VK) z,Rps K A H xs ds->fd ds= .ok z->(∀v H',aO H H'->Rp K (λ p=>H p=none) H' v z->Q v H')->r xs H Q
def aIl{K:zAA}(hs:aLK K r fd)(h1:aK1 K G m ta g):iD K G (some []) (tCB r ta) (opA fd g):=by
 intro U Z H Y lab Q R W;refine h1 U Z H Y lab _ R (W.bd.imp λ d _ w x H1 s1 r1=>?_);obtain⟨z,ez,w⟩:=w.okD;exact hs (fpM m lab H) x d H1 Q z r1 ez λ v H' s r=>w v H' (s1.trans s) (r.wk λ p o _ q=>.inl (s1.free q))
def vM:List D->Rs D
 |[.lst l]=>match mC l with
  |some nss=>if nss.length<64 then .ok (.lst ((qO nss).map tupI))else .st
  |none=>match intsOf l with
   |some ns=>if ns.length<64 then .ok (.lst ((sortI ns).map .int))else .st
   |none=>.st
 |_=>.st
def aFf{K:zAA}:aLK K (λ xs H Q=>aCl K xs H Q\/aCn K xs H Q) vM:=by
 intro A xs ds H Q z r ez q;unfold vM at ez;split at ez
 .cases r with
  |cons h r=>
   cases r;cases h with
   |lst h m r=>
    split at ez
    .rename_i nss e
     obtain⟨e1,e2⟩:=lz e;subst e1;split at ez
     .rename_i hl
      cases ez;have ht:=vC r e2;exact .inl ⟨_,_,nss,rfl,SqL.of h,ht,by rw[ht.len];exact hl,aAt ht q⟩
     .cases ez
    .split at ez
     .rename_i ns e
      have e1:=cI e;subst e1;split at ez
      .rename_i hl
       cases ez;have e2:=r.ints_of;subst e2;exact .inr ⟨_,ns,rfl,SqL.of h,hl,λ p H' s hp hn=>q _ H' s (.lst hp hn .ints)⟩
      .cases ez
     .cases ez
 .cases ez
section
variable{C:Ct}{pos p:Pos}{m:Mode}{a:Expr}{ga:En->Rs (List D)}
def aEy(hm:C.mg "sorted"=none)(ha:SA C m [a] ga)(he:∀i,zA5 [a] (C.X i).env=[(false,eval a (C.X i).env)]:=by intro _;rfl)(hg:∀i,Gl (C.X i) "sorted":=by intro _;rfl)(hv:zBC "sorted"=some (.builtin "sorted"):=by decide+kernel):SE C (some []) (.Call (.Name "sorted" p) [a] [] pos) (opA vM ga):=by
 obtain⟨t,h1,h2⟩:=ha;refine⟨_,λ i=>jo (r:=λ xs H Q=>aCl C.K xs H Q\/aCn C.K xs H Q) (by rw[<-C.hK i];exact yG.or aA9) (hg i) (by rw[(C.cx i).2.2.2.1];exact hm) hv (h1 i) (by decide) (by decide) (he i) rfl,aIl aFf h2⟩
end
def aKA(nss:gV):Bool:=nss.all λ a=>nss.all λ b=>a==b||hsh a !=hsh b
def aJz(h:aKA nss=true):∀a∈nss,∀b∈nss,hsh a=hsh b->a=b:=λ a ha b hb e=>by
 have:=zAt.mp (zAt.mp h a ha) b hb
 simpa[e]using this
theorem cA.one{K:zAA}:∀{zs:List (V×List Int)},(∀p∈zs,∃a,p.1= .ref a/\SqT K H a (p.2.map V.int)/\p.2≠[])->cA K H (zs.map (·.1)) (zs.map (·.2))
 |[],_=>.nil
 |p::zs,h=>by
  obtain⟨a,e1,e2,e3⟩:=h p zAF;rw[zAM,zAM,e1];exact .cons e2 e3 (cA.one λ q hq=>h q (zAG _ hq))
theorem cA.ne{K:zAA}:∀{vs:List V} {nss:gV},cA K H vs nss->∀ns∈nss,ns≠[]
 |_,_,.nil,ns,h=>by simp at h
 |_,_,.cons _ hne r,ns,h=>by
  rcases zAP.mp h with e|h
  .subst e;exact hne
  .exact r.ne ns h
def cA.dd{K:zAA}(t:cA K H vs nss):cA K H ((ddV (vs.zip nss)).map (·.1)) ((ddV (vs.zip nss)).map (·.2)):=cA.one λ p hp=>by
 obtain⟨a,e1,e2⟩:=t.all p (uv hp);exact⟨a,e1,e2,t.ne _ (zCY (uv hp)).2⟩
theorem cA.ddT{K:zAA}(t:cA K H vs nss):(ddV (vs.zip nss)).map (·.2)=VL.ddT nss:=by rw[aKO,zFs (by rw[t.len];exact zAQ _)]
def ig(n:Nat)(l:List D):Rs D:=match mC l with
 |some nss=>if (ddT nss).length<n/\aKA nss=true then .ok (.lst ((qO (ddT nss)).map tupI))else .st
 |none=>.st
def mL:List D->Rs D
 |[.lst l]=>ig 64 l
 |[.tup l]=>ig 64 l
 |_=>.st
def aIo{K:zAA}{w:World}{Q Q':VK}(hp:SqL K H p vs\/SqT K H p vs)(r:Rps K A H vs l)(ez:ig n l= .ok z)(hn:n<=77)
  (hr:∀a zs H2,aO H H2->H2 a=some (.ext (setφ w a (aFF zs)))->cA K H2 (zs.map (·.1)) (zs.map (·.2))->zs.length<n->aCM H2 (zs.map (·.1)) (zs.map (·.2)) Q->Q' (.ref a) H2)
  (q:∀v H',aO H H'->Rp K (λ p=>H p=none) H' v z->Q v H'):aDw K w [.ref p] H Q':=by
 unfold ig at ez;split at ez
 .rename_i nss e
  obtain⟨e1,e2⟩:=lz e;subst e1;split at ez
  .rename_i hl
   cases ez;have ht:=vC r e2;have hlv:=hl.1;rw[<-ht.ddT,zAD]at hlv;refine⟨_,_,nss,rfl,hp,ht,by lia,aJz hl.2,λ a H2 s2 ha hn=>hr a _ H2 s2 ha (ht.dd.up s2) hlv ?_⟩;refine aAt (ht.dd.up s2) ?_;rw[ht.ddT];exact λ v H' s r=>q v H' (s2.trans s) (r.wk λ p o _ q=>s2.free q)
  .cases ez
 .cases ez
section
variable{C:Ct}{pos p p2 pos2:Pos}{m:Mode}{a:Expr}{ga:En->Rs (List D)}
def za(hm:C.mg "sorted"=none)(hm2:C.mg "set"=none)(ha:SA C m [a] ga)(he:∀i,zA5 [a] (C.X i).env=[(false,eval a (C.X i).env)]:=by intro _;rfl)(he2:∀i,zA5 [Expr.Call (.Name "set" p2) [a] [] pos2] (C.X i).env=[(false,eval (.Call (.Name "set" p2) [a] [] pos2) (C.X i).env)]:=by intro _;rfl)(hg:∀i,Gl (C.X i) "sorted":=by intro _;rfl)(hv:zBC "sorted"=some (.builtin "sorted"):=by decide+kernel)(hg2:∀i,Gl (C.X i) "set":=by intro _;rfl)(hv2:zBC "set"=some (.type "set"):=by decide+kernel):
  SE C (some []) (.Call (.Name "sorted" p) [.Call (.Name "set" p2) [a] [] pos2] [] pos) (opA mL ga):=by
 obtain⟨t,h1,h2⟩:=ha;have hw:∀i,(C.X i).w=C.w:=λ i=>(C.cx i).2.1
 refine⟨tCB (aCm C.K C.w) (fM (tCB (aDw C.K C.w) t) lq),λ i=>jo (by rw[<-C.hK i,<-hw i];exact yH (C.calm i)) (hg i) (by rw[(C.cx i).2.2.2.1];exact hm) hv
  (aV (gD (by rw[<-C.hK i,<-hw i];exact aD4 (C.calm i) (C.u64 i)) (hg2 i) (by rw[(C.cx i).2.2.2.1];exact hm2) hv2 (h1 i) (by decide) (by decide) (he i) rfl) cH (he2 i)) (by decide) (by decide) (he2 i) rfl,λ U Z H Y lab Q R W=>?_⟩
 refine h2 U Z H Y lab _ R (W.bd.imp λ ds _ w xs H1 s1 r1=>?_);obtain⟨z,ez,w⟩:=w.okD;have fin:∀{p vs l},(SqL C.K H1 p vs\/SqT C.K H1 p vs)->∀{A},Rps C.K A H1 vs l->ig 64 l= .ok z->aDw C.K C.w [.ref p] H1 λ x H2=>aCm C.K C.w [x] H2 Q:=λ hp _ r ez=>aIo hp r ez (by decide) (λ a zs H2 _ h1 h2 h3 h4=>⟨a,zs,rfl,h1,h2,h3,h4⟩) λ v H' s r=>w v H' (s1.trans s) (r.wk λ p o _ q=>.inl (s1.free q))
 unfold mL at ez;split at ez
 .cases r1 with
  |cons h r=>
   cases r;obtain⟨a,xs,rfl,h,m,r⟩:=h.lst_inv;exact fin (.inl (SqL.of h)) r ez
 .cases r1 with
  |cons h r=>
   cases r;obtain⟨a,xs,rfl,h,r⟩:=h.tup_inv;exact fin (.inr h) r ez
 .cases ez
end
structure Mg{β:Type}(r:β->β->Prop)(T out ra rb:List β):Prop where
 pm:(out++(ra++rb)).Perm T
 so:out.Pairwise r
 lo:∀x∈out,∀y∈ra++rb,r x y
 sa:ra.Pairwise r
 sb:rb.Pairwise r
section
variable{β:Type}{r:β->β->Prop}{T:List β}
def Mf(r:β->β->Prop)(T o:List β):Prop:=o.Perm T/\o.Pairwise r
end
structure Eg(st st':zDg):Prop where
 k:zDh st'=zDh st
 a:arrOf st'=arrOf st
 p:zHC st'=zHC st
 f:zGt st'=zGt st
abbrev LS:=Option (Array Keyed)×Array Keyed×Nat×Nat×Nat×Nat×Nat
section
variable{O:zC3}{kf:Keyed->O.α}{T:List Keyed}{a b out:Array Keyed}{ia ib mg ac bc m0:Nat}{st:zDg}{Q:ForInStep LS->zDg->Prop}
abbrev rK(O:zC3)(kf:Keyed->O.α)(x y:Keyed):Prop:=O.kle (kf x) (kf y)
abbrev Ml(O:zC3)(kf:Keyed->O.α)(T:List Keyed)(a b out:Array Keyed)(ia ib:Nat):Prop:=Mg (rK O kf) T out.toList (a.toList.drop ia) (b.toList.drop ib)
structure Tu(O:zC3)(kf:Keyed->O.α)(T:List Keyed)(a b:Array Keyed)(m0:Nat)(st:zDg)(Q:ForInStep LS->zDg->Prop):Prop where
 ret:∀o out ia ib mg ac bc st',Eg st st'->Mf (rK O kf) T o.toList->Q (.done (some o,out,ia,ib,mg,ac,bc)) st'
 on:∀out ia ib mg ac bc st',Eg st st'->Ml O kf T a b out ia ib->ia+1<a.size->ib<b.size->m0<ia+ib->Q (.done (none,out,ia,ib,mg,ac,bc)) st'/\Q (.yield (none,out,ia,ib,mg,ac,bc)) st'
end
abbrev HS:=Option (Array Keyed)×Nat×Nat×Array Keyed×Nat×Nat×Nat
section
variable{O:zC3}{kf:Keyed->O.α}{T:List Keyed}{a b out:Array Keyed}{na nb mg ac bc m0:Nat}{st:zDg}{Q:ForInStep HS->zDg->Prop}
abbrev rH(O:zC3)(kf:Keyed->O.α)(x y:Keyed):Prop:=O.kle (kf y) (kf x)
abbrev Mh(O:zC3)(kf:Keyed->O.α)(T:List Keyed)(a b out:Array Keyed)(na nb:Nat):Prop:=Mg (rH O kf) T out.toList (a.toList.take na).reverse (b.toList.take nb).reverse
structure Th(O:zC3)(kf:Keyed->O.α)(T:List Keyed)(a b:Array Keyed)(m0:Nat)(st:zDg)(Q:ForInStep HS->zDg->Prop):Prop where
 ret:∀o na nb out mg ac bc st',Eg st st'->Mf (rK O kf) T o.toList->Q (.done (some o,na,nb,out,mg,ac,bc)) st'
 on:∀na nb out mg ac bc st',Eg st st'->Mh O kf T a b out na nb->0<na->1<nb->na<=a.size->nb<=b.size->na+nb<m0->Q (.done (none,na,nb,out,mg,ac,bc)) st'/\Q (.yield (none,na,nb,out,mg,ac,bc)) st'
end
structure Ea(st st':zDg):Prop where
 k:zDh st'=zDh st
 p:zHC st'=zHC st
 f:zGt st'=zGt st
section
variable{κ:zDk}{G:Keyed->Prop}{st:zDg}{P R:List Keyed}{lo:Nat}
structure Sg(κ:zDk)(G:Keyed->Prop)(st:zDg)(lo:Nat)(P R:List Keyed):Prop where
 k:zDh st=κ
 l:(arrOf st).toList=P++R
 p:P.length=lo
 g:∀x∈R,G x
end
def Pr(O:zC3)(kf:Keyed->O.α):Nat->List (List Keyed)->List (Nat×Nat×Nat)->Prop
 |_,[],[]=>True
 |o,x::segs,p::ps=>p.1=o/\p.2.1=x.length/\0<x.length/\x.Pairwise (rK O kf)/\Pr O kf (o+x.length) segs ps
 |_,_,_=>False
section
variable{κ:zDk}{O:zC3}{kf:Keyed->O.α}{st:zDg}{T R:List Keyed}{segs:List (List Keyed)}
structure Rn(κ:zDk)(O:zC3)(kf:Keyed->O.α)(T:List Keyed)(st:zDg)(segs:List (List Keyed))(R:List Keyed):Prop where
 k:zDh st=κ
 f:zGt st=none
 l:(arrOf st).toList=segs.flatten++R
 pm:(arrOf st).toList.Perm T
 pr:Pr O kf 0 segs (zHC st).toList
end
def ddI(ns:List Int):List Int:=ns.foldl zCP []
def aIL(ns:List Int)(n:Int):ddI (ns++[n])=zCP (ddI ns) n:=by unfold ddI;rw[zEQ];rfl
def aKN(hl:l.Nodup)(n:Int):(zCP l n).Nodup/\∀x,x∈zCP l n↔x∈l\/x=n:=by
 unfold zCP;by_cases h:l.any (·==n)=true
 .rw[if_pos h]
  have:n∈l:=by simpa using h
  exact⟨hl,λ x=>⟨.inl,λ q=>q.elim id λ e=>e▸this⟩⟩
 .rw[if_neg h]
  have:n∉l:=by simpa using h
  refine⟨zBo.mpr ⟨hl,by simp,λ x hx y hy e=>?_⟩,λ x=>by simp⟩;rw[zA2]at hy;subst hy;subst e;exact this hx
theorem aIH:∀(ns acc:List Int),acc.Nodup->(ns.foldl zCP acc).Nodup/\∀x,x∈ns.foldl zCP acc↔x∈acc\/x∈ns
 |[],acc,h=>⟨h,λ x=>by simp⟩
 |n::ns,acc,h=>by
  obtain⟨h1,h2⟩:=aKN h n;obtain⟨h3,h4⟩:=aIH ns _ h1;refine⟨h3,λ x=>?_⟩;rw[zBI,h4,h2,zAP];constructor
  .rintro((a|a)|a)
   .exact .inl a
   .exact .inr (.inl a)
   .exact .inr (.inr a)
  .rintro(a|a|a)
   .exact .inl (.inl a)
   .exact .inl (.inr a)
   .exact .inr a
def yx(ns:List Int):(ddI ns).Nodup:=(aIH ns [] (by simp)).1
def aEN(ns:List Int)(x:Int):x∈ddI ns↔x∈ns:=by
 have:=(aIH ns [] (by simp)).2 x
 unfold ddI;simpa using this
def aIM(ns:List Int):(ddI ns).length<=ns.length:=sub_len (yx ns) λ x hx=>(aEN ns x).mp hx
section
variable{K:zAA}{G:Gx}{wi:TI}{fi:En->Rs (List D)}{g:TG}{fg:D->En->Rs En}{tt:TT}
def aL1(hi:aI2 K G wi fi)(hg:aI3 K {G with E:=λ _ _ _=>False} g fg)(hfg:∀d,∃Y1,fg d [.no]= .ok Y1)(ht:aCN K {G with E:=λ _ _ _=>False} tt jO)(R:RR K G U Y Z H lab)
  (W:WR G (fi (shE Y)) (λ ds=>ds.length<zAY/\∀(l:Addr) (as:List Addr) H',aO H H'->H l=none->H' l=some (.lst (as.map V.ref))->(l::as).Nodup->as.length=ds.length->(∀a∈as,H a=none/\H' a=some (.lst []))->Q (.ref l) H')):
  tLC wi (stV [none]) g tt (aGH lq) Z H Q:=by
 refine hi U Z H _ _ _ R.shE (W.imp λ ds _ w J H1 lab1 U1 s1 _ R1 jl=>?_);obtain⟨kK,w⟩:=w;intro l hl;have hHl:H l=none:=s1.free hl;have nl:∀p o,H1 p=some o->p≠l:=λ p o e z=>by subst z;rw[hl]at e;cases e
 have RB:RR K {G with E:=λ _ _ _=>False} (U1++U) [.no] (stV [none] Z) H1 (λ p=>if p=l then(2,0)else(0,0)):=by
  refine⟨rfl,λ i s e=>?_,R1.old,λ p hp=>?_,λ q hq=>(R1.tm q hq).wk λ p o e _=>by rw[if_neg (nl p o e)];exact zAa _⟩
  .match i,e with
   |0,e=>cases e;exact .inl rfl
   |i+1,e=>simp at e
  .by_cases z:p=l
   .subst z;exact R1.old.free hl
   .exact absurd (show(if p=l then((2,0):Nat×Nat)else(0,0)).1=0 by rw[if_neg z]) hp
 have bS:¬((λ p=>if p=l then((2,0):Nat×Nat)else(0,0)) l).1<=1:=by simp
 refine⟨λ i n acc H2=>∃as:List Addr,n=ds.length-i/\i<=ds.length/\acc=as.map V.ref/\H2 l=some (.lst acc)/\RR K {G with E:=λ _ _ _=>False} (U1++U) [.no] (stV [none] Z) H2 (λ p=>if p=l then(2,0)else(0,0))/\aO H H2/\as.length=i/\(l::as).Nodup/\∀a∈as,H a=none/\H2 a=some (.lst []),
  ⟨ds.length,[],by omega,by omega,rfl,aa,RB.up (bQ hl _),s1.trans (bQ hl _),rfl,by simp,λ a h=>by simp at h⟩,?_⟩
 rintro i n acc H2 ⟨as,rfl,hi',rfl,hH2,R2,s2,hlen2,hnd,hal⟩;refine⟨hH2,by rw[zAD];omega,?_⟩;have jj:=jl _ H2 λ q hq=>R2.tm q (zA1 _ hq)
 by_cases hlt:i<ds.length
 .obtain⟨go,yl⟩:=(jj i).2 hlt
  refine .inr ⟨go,λ x H3 hy=>?_⟩;obtain⟨s3,d,ed,rx⟩:=yl x H3 hy;replace R2:=R2.up s3;replace hH2:=s3 _ _ hH2;replace s2:=s2.trans s3;replace hal:=λ a ha=>(⟨(hal a ha).1,s3 _ _ (hal a ha).2⟩:H a=none/\H3 a=some (.lst []))
  obtain⟨Y1,e1⟩:=hfg d;refine hg (U1++U) x d _ H3 _ _ _ Y1 R2 rx e1 λ Z4 R4=>?_
  refine ht (U1++U) Z4 H3 Y1 _ _ R4 λ H5 s5=>?_
  rw[if_pos rfl];refine⟨zAa _,λ p H6 s6 hp hn=>?_⟩;have hl6:H6 l=some (.lst (as.map V.ref)):=s6 _ _ (s5 _ _ hH2);have hpl:p≠l:=λ z=>by subst z;rw[s5 _ _ hH2]at hn;cases hn
  have hpa:p∉as:=λ z=>by
   have:=s5 _ _ (hal p z).2
   rw[hn]at this;cases this
  have hpH:H p=none:=(s2.trans s5).free hn;have B:kh l H6 (upd H6 l (.lst (as.map V.ref++[.ref p]))):=λ b o ne hb=>by rw[aX ne];exact hb
  refine⟨hl6,ds.length-(i+1),by omega,as++[p],rfl,hlt,by rw[zAk];rfl,aa,?_,?_,by rw[zAZ];simp;omega,?_,λ a ha=>?_⟩
  .have R6:=R2.up (s5.trans s6)
   refine⟨R6.len,λ j s e=>?_,λ b o hb=>?_,R6.new,λ q hq=>(R6.tm q hq).but B hl6 rfl bS⟩
   .match j,e with
    |0,e=>cases e;exact .inl rfl
    |j+1,e=>simp at e
   .exact B b o (λ z=>by subst z;rw[R1.old.free hl]at hb;cases hb) (R6.old b o hb)
  .exact λ b o hb=>B b o (λ z=>by subst z;rw[hHl]at hb;cases hb) (((s2.trans s5).trans s6) b o hb)
  .obtain⟨n1,n2⟩:=zAb.mp hnd
   refine zAb.mpr ⟨λ z=>?_,zBo.mpr ⟨n2,by simp,λ x hx y hy e=>?_⟩⟩
   .rcases zAh.mp z with z|z
    .exact n1 z
    .exact hpl (zA2.mp z).symm
   .rw[zA2]at hy
    subst hy;subst e;exact hpa hx
  .rcases zAh.mp ha with z|z
   .refine⟨(hal a z).1,?_⟩
    rw[aX λ q=>by subst q;exact(zAb.mp hnd).1 z];exact s6 _ _ (s5 _ _ (hal a z).2)
   .rw[zA2]at z
    subst z;exact⟨hpH,by rw[aX hpl];exact hp⟩
 .have ei:i=ds.length:=by omega
  exact .inl ⟨by rw[ei];exact(jj _).1 (zAQ _),w l as H2 s2 hHl hH2 hnd (by omega) hal⟩
end
section
variable{C:Ct}{pos lpos:Pos}{tg iter:Expr}{sc:Scope}{N:List Str}{js:kQ}{ks:List Nat}{fi:En->Rs (List D)}{fg:D->En->Rs En}
def llS(i:Nat)(fi:En->Rs (List D))(js:kQ)(fg:D->En->Rs En):En->Ou:=λ Y=>(fi (shE Y)).bo λ ds=>if ds.length<zAY then .nx (Y.set i (.o2 (zAJ ds.length [])))else .st
def aKg(hi:SI C tg iter fi)(hg:SG (C.blk sc N) tg ks fg)(hj:js=[none]:=by rfl)(hfg:∀d,∃Y1,fg d [.no]= .ok Y1:=by intro _;exact⟨_,rfl⟩)(hN:∀j,(C.X j).N[i]? =some x:=by intro _;rfl)(hx:∀j,Loc (C.X j).env.scope x:=by intro _;first|exact zCV rfl|exact zBc rfl)(hsw:∀j,zCh (.ListComp (.List [] lpos) [⟨tg,iter,[],0⟩] sc pos) (some (.Name x pos')) spos.line (C.X j).env=pure true:=by intro _;rfl)(hs:∀i x,zAz iter (C.X i).env x=pure x:=by intro _ _;rfl)(hf:∀j,(C.X j).fn x=true\/(C.X j).env.scope.names.lookup x=some .local:=by intro _;first|exact .inl rfl|exact .inr rfl)(nd:∀j,(C.X j).N.Nodup:=by intro _;assumption)(hB:∀i,cj (C.X i) sc N (stV js) ks:=by intro _;exact xR rfl rfl rfl rfl rfl rfl):
  SS C (.Assign [.Name x pos'] (.ListComp (.List [] lpos) [⟨tg,iter,[],0⟩] sc pos) spos) (llS i fi js fg):=by
 subst hj;obtain⟨wi,i1,i2⟩:=hi;obtain⟨g,g1,g2,g3,g4⟩:=hg;obtain⟨tt,t1,t2⟩:=lG (C:=C.blk sc N);refine⟨_,λ j=>aBP (nd j) (hN j) (hx j) (hB j) (C.calm j) (i1 j) (λ c fp z5 zI=>g1 (j,c,fp,z5,zI)) g3 (λ c fp z5 zI=>t1 (j,c,fp,z5,zI)) (λ c fp z5 zI=>lM cH) (hsw j) (hs j) (hf j),λ U Z H Y lab De R W=>?_⟩;refine aL1 i2 g2 hfg t2 R (W.bo.imp λ ds _ w=>?_);by_cases hl:ds.length<zAY
 .rw[if_pos hl]at w
  refine⟨hl,λ l as H' s hn hH hnd kK hal=>?_⟩;have b9:∀p o,H p=some o->(λ p=>if p=l then(i+2,0)else if p∈as then(i+2,as.idxOf p+1)else cB H 1 lab p) p=lab p:=λ p o e=>by
   dsimp only;have z1:p≠l:=λ z=>by subst z;rw[hn]at e;cases e
   have z2:p∉as:=λ z=>by rw[(hal p z).1]at e;cases e
   rw[if_neg z1,if_neg z2,bR e]
  have R':RR C.K C.G U Y Z H' (λ p=>if p=l then(i+2,0)else if p∈as then(i+2,as.idxOf p+1)else cB H 1 lab p):=by
   refine(R.relab b9 λ p hp=>?_).up s;cases e:H p with
   |none=>exact R.old.free e
   |some o=>
    have:=b9 p o e
    dsimp only at this hp;rw[this]at hp;exact R.new p hp
  refine w _ _ _ (R'.put (s:=.o2 (zAJ ds.length [])) ⟨l,as.map V.ref,rfl,hH,by dsimp only;rw[if_pos rfl],by rw[zAD,zBb];exact kK,λ j x es e1 e2=>?_⟩);rw[zAW,zDW]at e1;obtain⟨a,e1,rfl⟩:=e1;have ees:es=[]:=by
   rw[zCC]at e2;split at e2
   .cases e2;rfl
   .cases e2
  subst ees;have ha:a∈as:=zBA e1;have hla:a≠l:=λ z=>by subst z;exact(zAb.mp hnd).1 ha
  have hj2:j<as.length:=(zAK.mp e1).1;refine .lst (hal a ha).2 ?_ .nil
  show(if a=l then(i+2,0)else if a∈as then(i+2,as.idxOf a+1)else cB H 1 lab a)=(i+2,j+1)
  rw[if_neg hla,if_pos ha];have hix:as.idxOf a<as.length:=List.idxOf_lt_length_iff.mpr ha
  have:as[as.idxOf a]? =some a:=by rw[zAH hix];exact congrArg some (List.getElem_idxOf hix)
  have:=(zIL hix (zAb.mp hnd).2).mp (this.trans e1.symm)
  rw[this]
 .rw[if_neg hl]at w
  exact zAN w
end
def aF0:∀{us:List α},us.length=6->∃a0 a1 a2 a3 a4 a5,us=[a0,a1,a2,a3,a4,a5]
 |[a0,a1,a2,a3,a4,a5],_=>⟨a0,a1,a2,a3,a4,a5,rfl⟩
def gw(j:Int):List Int:=(zAj j.toNat).map λ(k:Nat)=>0+(k:Int)
def aLg:List V->Hp->VK->Prop:=λ xs H Q=>∃j:Int,xs=[.int j]/\∀p,H p=none->Q (.ref p) (upd H p (.rng 0 j))
def aCC:cg X (.type "range") aLg:=by
 intro kX s Z H vs us Q I rv h;obtain⟨j,rfl,q⟩:=h;obtain⟨u,rfl,ru⟩:=rv.one;obtain⟨t,rfl⟩:=ru;exact call_range_1 ⟨.ref s.heap.objs.size,_,I.laid (a:=s.heap.objs.size) (o:=.rng 0 j) (t':=s.toks+1+1) (λ _ _ q=>zAC _ q) (zAQ _) ⟨_,_,_,zAS _ rfl⟩,rfl,q _ (I.hok.fresh (zAQ _))⟩
def aBM:List V->Hp->VK->Prop:=λ xs H Q=>∃(p:Addr) (j:Int),xs=[.ref p]/\H p=some (.rng 0 j)/\-(2^62)<=j/\j<=10000/\∀l H',aO H H'->H l=none->H' l=some (.lst ((gw j).map V.int))->Q (.ref l) H'
def aDc:∀{ns:List Int} {us:List Value},ns.length=us.length->(∀(k:Nat) i,ns[k]? =some i->∃tk,us[k]? =some (.int i tk))->Vals (ns.map V.int) us:=by
 intro ns;induction ns with
 |nil=>intro us hl _;rw[List.eq_nil_of_length_eq_zero hl.symm];exact .nil
 |cons n ns ih=>
  intro us hl h;obtain⟨tk,e⟩:=h 0 n rfl;cases us with
  |nil=>cases e
  |cons u us=>
   have e':u= .int n tk:=zAl e;subst e';exact .cons ⟨tk,rfl⟩ (ih (zG6 hl) λ k i hi=>h (k+1) i hi)
def aAa(hc:X.calm=true):cg X (.type "list") aBM:=by
 intro kX s Z H vs us Q I rv h;obtain⟨p,j,rfl,hp,h1,h2,q⟩:=h;obtain⟨u,rfl,ru⟩:=rv.one;cases ru;obtain⟨t,u,v,hg⟩:=I.hok p _ hp;have hsz:zB0 0 j 1=(j.toNat:Int):=by
  unfold zB0;simp only[show(1:Int)>0 by decide,if_true];split<;>lia
 refine call_list_range (n:=j.toNat) (I.ok.hd hc) hg ?_ hsz (by lia) λ h' tk acc c' hk hS qV=>?_
 .have fl:∀x:Int,-(2^62)<=x->x<=2^62->zC1 x=true:=λ x hx1 hx2=>by
   unfold zC1;simp;lia
  unfold zCe;rw[hsz,fl 0 (by lia) (by lia),fl j (by lia) (by lia),fl 1 (by lia) (by lia),fl _ (by lia) (by lia),if_pos (by decide),fl (j+(1-1)) (by lia) (by lia),zFe];rfl
 .have hfr:=I.hok.fresh (zAQ s.heap.objs.size)
  have hv:Vals ((gw j).map V.int) acc.toList:=by
   have hl:(gw j).length=acc.toList.length:=by rw[show acc.toList.length=acc.size from zAU,qV.1];simp[gw]
   refine aDc hl λ k i hi=>?_
   have hk2:k<acc.size:=by rw[qV.1];have:=(zAK.mp hi).1;simpa[gw]using this
   obtain⟨tk,e⟩:=qV.2 k acc[k] (zAo hk2);refine⟨tk,?_⟩;have ei:i=0+(k:Int)*1:=by
    unfold gw at hi;rw[zAW]at hi;cases c:(zAj j.toNat)[k]? with
    |none=>rw[c]at hi;cases hi
    |some m=>
     rw[c]at hi;cases hi
     have:=zAK.mp c
     have:m=k:=by simpa using this.2.symm
     subst this
     show(0:Int)+(m:Int)=0+(m:Int)*1
     lia
   rw[ei,<-e];simp[hk2]
  refine⟨.ref s.heap.objs.size,upd H s.heap.objs.size (.lst ((gw j).map V.int)),I.laid (t':=tk) hk (zAQ _) ⟨?_,acc.toList,c',hv,by simpa using hS⟩,rfl,q _ _ (bQ hfr _) hfr aa⟩;simp[gw]
  have:zAY=16777216:=zBj
  lia
def lrR:D->Rs D
 | .int j=>if -(2^62)<=j/\j<=10000 then .ok (.lst (cU 0 j))else .st
 |_=>.st
def lrD(fa:En->Rs D):En->Rs D:=λ Y=>(fa Y).bd lrR
def yS(j:Int):cU 0 j=(gw j).map D.int:=by
 unfold cU gw;rw[zAv,Int.sub_zero];rfl
section
variable{C:Ct}{pos pos2 p p2:Pos}{a:Expr}{fa:En->Rs D}{m:Mode}
def aCb(hmL:C.mg "list"=none)(hmR:C.mg "range"=none)(ha:SE C m a fa)(hs:∀i,zA5 [a] (C.X i).env=[(false,eval a (C.X i).env)]:=by intro _;rfl)(hs2:∀i,zA5 [.Call (.Name "range" p2) [a] [] pos2] (C.X i).env=[(false,eval (.Call (.Name "range" p2) [a] [] pos2) (C.X i).env)]:=by intro _;rfl)(hgL:∀i,Gl (C.X i) "list":=by intro _;rfl)(hvL:zBC "list"=some (.type "list"):=by decide+kernel)(hgR:∀i,Gl (C.X i) "range":=by intro _;rfl):SE C (some []) (.Call (.Name "list" p) [.Call (.Name "range" p2) [a] [] pos2] [] pos) (lrD fa):=by
 obtain⟨t,h1,h2⟩:=ha;refine⟨tCB aBM (fM (tCB aLg (fM t lq)) lq),λ i=>gD (aAa (C.calm i)) (hgL i) (by rw[(C.cx i).2.2.2.1];exact hmL) hvL (aV (gD aCC (hgR i) (by rw[(C.cx i).2.2.2.1];exact hmR) zHj (aV (h1 i) cH (hs i)) (by decide) (by decide) (hs i) rfl) cH (hs2 i)) (by decide) (by decide) (hs2 i) rfl,λ U Z H Y lab Q R W=>?_⟩;refine h2 U Z H Y lab _ R (W.bd.imp λ d _ w y H1 s1 r1=>?_);unfold lrR at w;split at w
 .rename_i j _
  by_cases hz: -(2^62)<=j/\j<=10000
  .rw[if_pos hz]at w
   have ey:=r1.int_inv;subst ey;refine⟨j,rfl,λ q hq=>⟨q,j,rfl,aa,hz.1,hz.2,λ l H' s' hl hH'=>?_⟩⟩;have s0:=(s1.trans (bQ hq _)).trans s';have hlH:H l=none:=(s1.trans (bQ hq _)).free hl;refine w _ H' s0 (.lst hH' (.inl hlH) ?_);rw[yS];exact Rps.ints
  .rw[if_neg hz]at w
   exact zAN w
 .exact zAN w
end
def aOG(Y:En)(i:Nat)(ds:List Int):D->Ou
 | .int z=>if ds.length<4000 then .nx (Y.set i (.ow (.set (zCP ds z))))else .st
 |_=>.st
section
variable{prog:zA3}{w:World}{A:zAc}{E:Value->zAE->Prop}{s:zAE}{r:Addr}{a b c:Int}{t u v:Tok}{n:Nat}
def PR(a c:Int):Nat->Value->Prop:=λ i v=>∃t,v= .int (a+i*c) t
def aBv(hh:A.handled=none)(hr:IsRange s.heap r a b c t u v)(hsmall:zCe a b c=true)(hn:zB0 a b c=n)(kK:n<=2^24)
  (h:∀h' tk vs,s.heap.objs.size<h'.objs.size->(∀b o,s.heap.get? b=some o->h'.get? b=some o)->vs.length=n->(∀(j:Nat) v,vs[j]? =some v->PR a c j v)->Q vs {s with heap:=h',toks:=tk}):wpAny (model prog w) A (zIw (.ref r)) Q E s:=by
 unfold zIw;refine zAB (zH6 (zBZ zFj ?_));rw[zBE zFk _];show wpAny _ A.in1 (zFT []>>=λ l=>again (.builtin "list.__iadd__" ⟨[l,.ref r],[]⟩)) _ _ s;refine zAB (zBJ (zAI ⟨zCd zDH _,zBZ zGQ ?_⟩));rw[zBE zDH _];show wpAny _ A.in1 (zFH (.ref s.heap.objs.size) (.ref r) (.ref s.heap.objs.size)) _ _ _;have fin:∀h' tk acc' c',(∀b o,b≠s.heap.objs.size->(s.heap.push (zBu "list" #[] 0)).get? b=some o->h'.get? b=some o)->h'.get? s.heap.objs.size=some {cls:=.type "list",dict:=none,data:=.seq acc' c',slots:=#[]}->ItemsOf (PR a c) acc' n->
   wpAny (model prog w) A (do match (zAx s.heap.objs.size)with
    | .ref a=>match (<-load a).data with
     | .seq xs _=>pure xs.toList
     |_=>zHF "internal:collect"
    |_=>zHF "internal:collect") Q E {s with heap:=h',toks:=tk}:=λ h' tk acc' c' hk hS' qV=>
  zAB (zJ9 hS' (zAI (h h' tk acc'.toList (zAT hS') (λ b o e=>hk b o (zA6 (zAT e)) (zAC _ e)) (by rw[zAU];exact qV.1) λ j v e=>qV.2 j v (by rw[<-zAd];exact e))))
 refine zAw (wpAny_extend_range (A:=A) (s:={s with heap:=s.heap.push (zBu "list" #[] 0)}) (R:=λ r s'=>∃h' tk acc' c',r= .ok (.ret (.ref s.heap.objs.size))/\s'={s with heap:=h',toks:=tk}/\(∀b o,b≠s.heap.objs.size->(s.heap.push (zBu "list" #[] 0)).get? b=some o->h'.get? b=some o)/\h'.get? s.heap.objs.size=some {cls:=.type "list",dict:=none,data:=.seq acc' c',slots:=#[]}/\ItemsOf (PR a c) acc' n)
  hh (zAC _ hr) hsmall hn kK s.heap.objs.size (.ref s.heap.objs.size) 0 (zAS _ rfl) (λ h' tk acc' c' hk hS' qV=>⟨h',tk,acc',c',rfl,rfl,hk,hS',qV⟩)) (λ f s' hf=>?_) λ e s' he=>?_
 .cases f with
  |done f=>
   obtain⟨h',tk,acc',c',q1,q2,q3,q4,q5⟩:=hf;cases q1;subst q2;exact fin h' tk acc' c' q3 q4 q5
  |again c=>
   refine⟨hf.1,zC9 hf.2 λ r s' hr=>?_⟩;obtain⟨h',tk,acc',c',q1,q2,q3,q4,q5⟩:=hr;subst q1 q2;exact fin h' tk acc' c' q3 q4 q5
 .obtain⟨h',tk,acc',c',q1,_⟩:=he
  cases q1
end
def uO(r:Addr)(a b c:Int)(t u v:Tok)(n:Nat)(hsmall:zCe a b c=true)(hn:zB0 a b c=n)(kK:n<=10000):
  Meets (zD4.«tuple.__new__» ⟨[.type "tuple",.ref r],[]⟩)
   (λ A R s=>A.handled=none/\IsRange s.heap r a b c t u v/\∀(h':Heap) (tk:Nat) (vs:List Value),s.heap.objs.size<h'.objs.size->(∀b o',s.heap.get? b=some o'->h'.get? b=some o')->vs.length=n->(∀(j:Nat) v,vs[j]? =some v->PR a c j v)->
    R (.ok (.ret (.ref h'.objs.size))) {s with heap:=h'.push {cls:=.type "tuple",data:=.seq vs.toArray},toks:=tk}):=
 .of_wp λ prog w A R s h=>by
  obtain⟨hp,g,d,tk,os⟩:=s;obtain⟨hh,ht,h⟩:=h;have bX:=sub_tuple_self;have hinit:=init_tuple_lookup;have hmh:=madeHere_tuple;have hT:zIr ⟨hp,g,d,tk,os⟩ (.ref r) "range":=⟨_,ht,rfl⟩;wp_walk using zEN ht,zGa hT,aBv (A:=A.in1) (show A.in1.handled=none from hh) ht hsmall hn (zAi kK (by decide));intro h' tk' vs hlt hk hl hv;show wpAny _ _ (zBk vs.toArray>>=λ v=>ret v) _ _ _;unfold zBk;refine zAB (zBJ ?_ (by show vs.toArray.size<=zAY;rw[zAX,hl,zBj];lia));exact zAI ⟨_,rfl,h h' tk' vs hlt hk hl hv⟩
def aDv:List V->Hp->VK->Prop:=λ xs H Q=>∃(p:Addr) (j:Int),xs=[.ref p]/\H p=some (.rng 0 j)/\-(2^62)<=j/\j<=10000/\∀l H',aO H H'->H l=none->H' l=some (.tup ((gw j).map V.int))->Q (.ref l) H'
def aEs(h1: -(2^62)<=j)(h2:j<=10000):zB0 0 j 1=(j.toNat:Int)/\zCe 0 j 1=true:=by
 have hsz:zB0 0 j 1=(j.toNat:Int):=by
  unfold zB0;simp only[show(1:Int)>0 by decide,if_true];split<;>lia
 refine⟨hsz,?_⟩;have fl:∀x:Int,-(2^62)<=x->x<=2^62->zC1 x=true:=λ x hx1 hx2=>by
  unfold zC1;simp;lia
 unfold zCe;rw[hsz,fl 0 (by lia) (by lia),fl j (by lia) (by lia),fl 1 (by lia) (by lia),fl _ (by lia) (by lia),if_pos (by decide),fl (j+(1-1)) (by lia) (by lia),zFe];rfl
def aCA(hc:X.calm=true):cg X (.type "tuple") aDv:=by
 intro kX s Z H vs us Q I rv h;obtain⟨p,j,rfl,hp,h1,h2,q⟩:=h;obtain⟨u,rfl,ru⟩:=rv.one;cases ru;obtain⟨t,u,v,hg⟩:=I.hok p _ hp;obtain⟨hsz,hsm⟩:=aEs h1 h2;refine callType_new PySem.F.called_tuple (by decide) (PySem.F.typeCall_tuple_1 _) (PySem.F.newCall_tuple_1 _) (λ obj=>PySem.F.args_object_init_2 obj _) PySem.F.entry_tuple_new
  (uO p 0 j 1 t u v j.toNat hsm hsz (by lia)) ⟨I.ok.hd hc,hg,λ h' tk vs hlt hk hl hv=>⟨⟨_,zAS _ rfl,rfl⟩,?_⟩⟩
 have hle:s.heap.objs.size<=h'.objs.size:=zB8 hlt;have hv2:Vals ((gw j).map V.int) vs:=by
  have hl2:(gw j).length=vs.length:=by rw[hl];simp[gw]
  refine aDc hl2 λ k i hi=>?_
  have hk2:k<vs.length:=by rw[<-hl2];exact(zAK.mp hi).1
  obtain⟨tk,e⟩:=hv k vs[k] (zAH hk2);refine⟨tk,?_⟩;have ei:i=0+(k:Int)*1:=by
   unfold gw at hi;rw[zAW]at hi;cases c:(zAj j.toNat)[k]? with
   |none=>rw[c]at hi;cases hi
   |some m=>
    rw[c]at hi;cases hi
    have:=zAK.mp c
    have:m=k:=by simpa using this.2.symm
    subst this
    show(0:Int)+(m:Int)=0+(m:Int)*1
    lia
  rw[ei,<-e];exact zAH hk2
 have hfr:H h'.objs.size=none:=I.hok.fresh hle;refine⟨.ref h'.objs.size,upd H h'.objs.size (.tup ((gw j).map V.int)),I.laid (t':=tk) (λ b o e=>zAC _ (hk b o e)) hle ⟨⟨?_,NoD.push _⟩,vs,hv2,?_⟩,rfl,q _ _ (bQ hfr _) hfr aa⟩
 .simp[gw]
  have:zAY=16777216:=zBj
  lia
 .exact⟨_,zAS _ rfl,rfl,0,rfl⟩
def trR:D->Rs D
 | .int j=>if -(2^62)<=j/\j<=10000 then .ok (.tup (cU 0 j))else .st
 |_=>.st
def trD(fa:En->Rs D):En->Rs D:=λ Y=>(fa Y).bd trR
section
variable{C:Ct}{pos pos2 p p2:Pos}{a:Expr}{fa:En->Rs D}{m:Mode}
def aEx(hmL:C.mg "tuple"=none)(hmR:C.mg "range"=none)(ha:SE C m a fa)(hs:∀i,zA5 [a] (C.X i).env=[(false,eval a (C.X i).env)]:=by intro _;rfl)(hs2:∀i,zA5 [.Call (.Name "range" p2) [a] [] pos2] (C.X i).env=[(false,eval (.Call (.Name "range" p2) [a] [] pos2) (C.X i).env)]:=by intro _;rfl)(hgL:∀i,Gl (C.X i) "tuple":=by intro _;rfl)(hvL:zBC "tuple"=some (.type "tuple"):=by decide+kernel)(hgR:∀i,Gl (C.X i) "range":=by intro _;rfl):SE C (some []) (.Call (.Name "tuple" p) [.Call (.Name "range" p2) [a] [] pos2] [] pos) (trD fa):=by
 obtain⟨t,h1,h2⟩:=ha;refine⟨tCB aDv (fM (tCB aLg (fM t lq)) lq),λ i=>gD (aCA (C.calm i)) (hgL i) (by rw[(C.cx i).2.2.2.1];exact hmL) hvL (aV (gD aCC (hgR i) (by rw[(C.cx i).2.2.2.1];exact hmR) zHj (aV (h1 i) cH (hs i)) (by decide) (by decide) (hs i) rfl) cH (hs2 i)) (by decide) (by decide) (hs2 i) rfl,λ U Z H Y lab Q R W=>?_⟩;refine h2 U Z H Y lab _ R (W.bd.imp λ d _ w y H1 s1 r1=>?_);unfold trR at w;split at w
 .rename_i j _
  by_cases hz: -(2^62)<=j/\j<=10000
  .rw[if_pos hz]at w
   have ey:=r1.int_inv;subst ey;refine⟨j,rfl,λ q hq=>⟨q,j,rfl,aa,hz.1,hz.2,λ l H' s' hl hH'=>?_⟩⟩;refine w _ H' ((s1.trans (bQ hq _)).trans s') (.tup (SqT.of hH') ?_);rw[yS];exact Rps.ints
  .rw[if_neg hz]at w
   exact zAN w
 .exact zAN w
end
theorem aHc:∀{k:List Int} {us:List Value},Vals (k.map V.int) us->ItemsAre (zCS P w) k us
 |[],_,r=>by cases r;exact .nil
 |i::k,_,r=>by
  cases r with
  |cons h t=>obtain⟨t0,rfl⟩:=h;exact .cons (by simp[zCS,zJ3]) (aHc t)
abbrev Ent:=List Int×Addr×V
def DxP(es:List Ent)(xs:List (List Int×Addr×Value)):Prop:=zFa (λ(e:Ent) x=>e.1=x.1/\e.2.1=x.2.1/\RelV e.2.2 x.2.2) es xs
def DxP.mem(p:DxP es xs):∀x∈xs,∃e∈es,e.1=x.1/\e.2.1=x.2.1:=by
 unfold DxP at p;induction p with
 |nil=>intro x hx;cases hx
 |cons h t ih=>
  intro x hx;rcases zAP.mp hx with rfl|hx
  .exact⟨_,zAF ..,h.1,h.2.1⟩
  .obtain⟨e,he,q⟩:=ih x hx;exact⟨e,zAG _ he,q⟩
def DxP.keys(p:DxP es xs):es.map (·.1)=xs.map (·.1):=by
 unfold DxP at p;induction p with
 |nil=>rfl
 |cons h t ih=>rw[zAM,zAM,ih,h.1]
theorem aEf(k:List Int):∀(xs:List (List Int×β)),(xs.find? λ x=>decide (x.1=k)).isSome=(xs.map (·.1)).any (·==k)
 |[]=>rfl
 |x::xs=>by
  rw[zAM,zGq,<-aEf k xs,zGJ];by_cases e:x.1=k
  .simp[e]
  .have:(x.1==k)=false:=by simpa using e
   simp[e,this]
def DxP.has(p:DxP es xs)(k:List Int):(atKey xs k).isSome=(es.map (·.1)).any (·==k):=by
 unfold atKey;rw[Option.isSome_map,aEf,p.keys]
def DxP.snoc(p:DxP es xs)(h:e.1=x.1/\e.2.1=x.2.1/\RelV e.2.2 x.2.2):DxP (es++[e]) (xs++[x]):=by
 unfold DxP at p ⊢;induction p with
 |nil=>exact .cons h .nil
 |cons q t ih=>exact .cons q ih
section
variable{X:Cx}{kX:hZ}{Z:L2.St}{H:Hp}{s:zAE}{a b:Addr}{k:List Int}{es:List Ent}
def aM7(I:Inv X kX Z H s)(h:SqT X.K H b (k.map V.int)):(zHE (zCS X.prog X.w)).is s.heap k b:=by
 obtain⟨its,rv,⟨o,h1,h2,n,h3⟩,hz⟩:=I.tuple h;exact⟨o,its.toArray,n,h1,h2,h3,by simpa using aHc rv⟩
def aOC(I:Inv X kX Z H s)(h:DxK X.K H a es):es.length<=zAY/\(a==zDY)=false/\∃xs,DxP es xs/\s.heap.DictOfH (zHE (zCS X.prog X.w)) a xs:=by
 obtain⟨⟨hl,hd,xs,o,ts,ep,pr,h1,h2,h3,h4⟩,_⟩:=(show cP X.prog X.w H s.heap a (dxO a es)from I.hok a _ h.at_);refine⟨hl,hd,xs,pr,o,ts,ep,h1,h2,h3,h4,λ x hx=>?_,by rw[<-DxP.keys pr];exact h.nd⟩;obtain⟨e,he,e1,e2⟩:=DxP.mem pr x hx;rw[<-e1,<-e2];exact aM7 I (h.ks e he)
def aMu(hl:es.length<=zAY)(hd:(a==zDY)=false)(pr:DxP es xs)(dd:h'.DictOfH (zHE (zCS X.prog X.w)) a xs):cP X.prog X.w H' h' a (dxO a es):=by
 obtain⟨o,ts,ep,h1,h2,h3,h4,_,_⟩:=dd;exact⟨⟨hl,hd,xs,o,ts,ep,pr,h1,h2,h3,h4⟩,⟨o,h1⟩,λ g1 g2 ⟨hl,hd,xs,o,ts,ep,pr,h1,r⟩ k=>⟨hl,hd,xs,o,ts,ep,pr,k o h1,r⟩⟩
def aLE(I:Inv X kX Z H s)(h:DxK X.K H a es\/(es=[]/\H a=some (.dK []))):(a==zDY)=false/\∃xs,DxP es xs/\s.heap.DictOfH (zHE (zCS X.prog X.w)) a xs:=by
 rcases h with h|⟨rfl,h⟩
 .exact(aOC I h).2
 .obtain⟨_,hd,vs,kv,o,ts,ep,h1,h2,h3,h4⟩:=(show cP X.prog X.w H s.heap a (.dK [])from I.hok a _ h)
  cases kv;exact⟨hd,[],.nil,o,ts,ep,h1,h2,h3,by generalize ts.toList=l at h4;obtain⟨_,h4,_⟩:=h4;cases h4;rfl,λ x hx=>(by cases hx),zCx⟩
end
def aAS:D->Option (List Int)
 | .tup l=>intsOf l
 |_=>none
def yd:List D->Option gV
 |[]=>some []
 |d::ds=>match aAS d,yd ds with
  |some k,some ks=>some (k::ks)
  |_,_=>none
def aHa:List D->Option gV
 |[]=>some []
 | .non::ks=>yd ks
 |_=>none
def ye(h:aAS d=some k):d= .tup (k.map .int):=by
 cases d with
 |tup l=>rw[cI (show intsOf l=some k from h)]
 |_=>cases h
def wM(k:List Int):aAS (.tup (k.map .int))=some k:=gG k
theorem sU:∀(ks:gV),yd (ks.map λ k=>.tup (k.map .int))=some ks
 |[]=>rfl
 |k::ks=>by
  rw[zAM];unfold yd;rw[wM,sU ks]
def aFc(p:Int×Tok):Int×Value:=(hashInt p.1,.int p.1 p.2)
def aCO(h:Heap)(a:Addr)(led:Bool)(ks:List Int):Prop:=∃es ep t,h.get? a=some (bM es ep t)/\cV t es.size/\t.led=led/\∃tks:List (Int×Tok),tks.map (·.1)=ks/\es.toList.Perm (tks.map aFc)
section
variable{prog:zA3}{w:World}{A:zAc}{E:Value->zAE->Prop}{s:zAE}{a:Addr}{led:Bool}{ks:List Int}
def aDZ{es:hV}{tks:List (Int×Tok)}(hp:es.toList.Perm (tks.map aFc)):ElemsOf (zCS prog w) es.toList:=λ e he=>by
 obtain⟨p,_,rfl⟩:=zA0.mp (hp.mem_iff.mp he);exact⟨⟨p.1,zF3 _ _ _ _,rfl⟩,rfl⟩
def aF1(T:cV t es.size)(h63:es.size<63)(h:Int)(x:Value):∃j,layNew t es h x=(zAr es (t.put j).2 (h,x),(t.put j).1,false,false)/\lZ (t.put j).1 (es.size+1)/\(t.put j).1.led=t.led:=by
 obtain⟨j,j1,j2,j3⟩:=vd (hashAt:=λ _=>h+1) T (h:=h) λ i hi=>by omega
 obtain⟨P,p1,p2,p3,p4⟩:=aGo T (by lia) j1 j2;have hes:(zAr es (t.put j).2 (h,x)).size=es.size+1:=nA _ _ _;refine⟨j,?_,P,p4⟩;have hf:t.freeSlot h=some (j,false):=by unfold SetTable.freeSlot;rw[j3];rfl
 unfold layNew SetTable.orStandIn;rw[hf];dsimp only;rw[hes,P.fits];rfl
def aBJ(P:lZ t n)(hn:es.size=n)(h5:n=5\/n=19):∃es' t',relayAll t es (zCs es.size)=(es',t',false)/\cV t' es'.size/\t'.led=t.led/\es'.toList.Perm es.toList:=by
 obtain⟨t',order,r1,r2,r3,r4⟩:=aBI P.pla h5 (es.map (·.1)) (by rw[zIn];exact hn);have pV:(order.filterMap (es[·]?)).toList.Perm es.toList:=by
  rw[zE2];refine(r4.filterMap _).trans ?_;rw[<-hn,zHk]
 have hes:(order.filterMap (es[·]?)).size=n:=by rw[<-zAU,pV.length_eq,zAU,hn]
 refine⟨order.filterMap (es[·]?),t',?_,by rw[hes];exact r2,r3,pV⟩;unfold relayAll;rw[hn,r1];have hc:coversAll order n=true:=List.isPerm_iff.mpr r4;dsimp only;rw[hes,hc,r2.fits];rfl
def aIp(S:aCO s.heap a led ks)(h63:ks.length<63)
  (q:∀h' b,zD8 a s.heap h'->aCO h' a led (zCP ks k)->Q b {s with heap:=h',toks:=s.toks+1}):wpAny (model prog w) A (zJN a (.int k tk)) Q E s:=by
 obtain⟨es,ep,t,ho,T,hl,tks,hk,hp⟩:=S;have hel:ElemsOf (zCS prog w) es.toList:=aDZ hp;have hsz:es.size=ks.length:=by rw[<-zAU,hp.length_eq,zAD,<-hk,zAD]
 have hb:es.size<scanBound:=by rw[hsz];unfold scanBound;omega
 have hany:∀e∈es.toList,(zCS prog w).is k e.2=true->k∈ks:=λ e he hi=>by
  obtain⟨p,hpm,rfl⟩:=zA0.mp (hp.mem_iff.mp he)
  have:k=p.1:=(zCS prog w).inj _ k p.1 hi (zF3 _ _ _ _)
  rw[this,<-hk];exact zFO hpm
 unfold zJN;refine zBW (zAB ((zCS prog w).pyHash (k:=k) (zF3 _ _ _ _) ?_));unfold setAddHashed setAddHashedIn;refine zBW (zAB (zB2 (s:={s with toks:=s.toks+1}) ho rfl T.fits ?_));dsimp only;rw[byScan_of (knd:=zCS prog w) rfl hb hel];simp only[↓reduceIte];unfold setAddByScan;refine zAB (zAB (zJb (zAB (wpAny_setScan_of (knd:=zCS prog w) (s:={s with toks:=s.toks+1}) (zF3 _ _ _ _) ho rfl T.fits hel ?_))));cases hr:List.findIdx? (λ e=>(zCS prog w).is k e.2) es.toList with
 |some j=>
  obtain⟨hj,hpj,_⟩:=List.findIdx?_eq_some_iff_getElem.mp hr;have hin:=hany _ (zDd hj) hpj;dsimp only;refine zAI (zAI (q s.heap _ (Heap.SameBut.refl a s.heap) ?_))
  have:zCP ks k=ks:=by unfold zCP;rw[if_pos (zE4.mpr ⟨k,hin,by simp⟩)]
  rw[this];exact⟨es,ep,t,ho,T,hl,tks,hk,hp⟩
 |none=>
  have hno:k∉ks:=λ hin=>by
   rw[<-hk]at hin;obtain⟨p,hpm,e⟩:=zA0.mp hin;have he:aFc p∈es.toList:=hp.mem_iff.mpr (zFO hpm)
   have:=List.findIdx?_eq_none_iff.mp hr _ he
   rw[<-e]at this;have z:(zCS prog w).is p.1 (.int p.1 p.2)=false:=this;rw[zF3]at z;cases z
  have hstep:zCP ks k=ks++[k]:=by
   unfold zCP;rw[if_neg];intro h;obtain⟨y,hy,e⟩:=zE4.mp h;exact hno (by rw[<-zEJ e];exact hy)
  obtain⟨j,hL,P,pl⟩:=aF1 T (by omega) ((zCS prog w).hash k) (.int k tk);have hes:(zAr es (t.put j).2 ((zCS prog w).hash k,zCf k tk)).size=es.size+1:=nA _ _ _;have pV:(zAr es (t.put j).2 ((zCS prog w).hash k,zCf k tk)).toList.Perm ((tks++[(k,tk)]).map aFc):=by
   have:=zET es (t.put j).2 ((zCS prog w).hash k,zCf k tk)
   rw[zEH]at this;rw[zAk];exact this.trans (hp.append_right _)
  have htk:(tks++[(k,tk)]).map (·.1)=zCP ks k:=by rw[hstep,zAk,hk];rfl
  dsimp only;rw[hL];dsimp only;refine zAB (zAI ?_);rw[P.pla];simp only[↓reduceIte];refine zAB (zAI ?_);simp only[↓reduceIte];generalize zAr es (t.put j).2 ((zCS prog w).hash k,zCf k tk)=es1 at hes pV ⊢;generalize (t.put j).1=t1 at P pl ⊢;refine zAB (zX (s:={s with toks:=s.toks+1}) ho (by omega) λ e1=>?_);simp only[zFB,zJC];cases hf:t1.tooFull with
  |true=>
   obtain⟨es2,t2,hR,T2,l2,p2⟩:=aBJ P hes (P.full (by omega) hf);simp only[↓reduceIte];rw[hR];dsimp only;refine zAB (zAI ?_);have hz2:es2.size<=63:=by rw[<-zAU,p2.length_eq,zAU];omega
   refine zAB (zX e1 (by lia) λ e2=>zAI (zAI (q _ _ ((zB7 s.heap a _).trans (zB7 _ a _)) ⟨es2,_,t2,e2,T2,l2.trans (pl.trans hl),_,htk,p2.trans pV⟩)))
  |false=>
   simp only[zA4,if_false];exact zAI (zAI (q _ _ (zB7 ..) ⟨es1,_,t1,e1,by rw[hes];exact P.still hf,pl.trans hl,_,htk,pV⟩))
def aEw{St:Nat->zAE->Prop}(W:WalksS prog w A.in1 I fp wr G n (λ i v=>vs.toArray[i]? =some v) St)(hSf:S∉fp)(hi:zBV vs ns)(hn:n=vs.length)(h64:n<64)(led:Bool):
  ∀(k i:Nat) (s:zAE),n-i=k->i<=n->St i s->aCO s.heap S led (ddI (ns.take i))->(∀s',Moved (S::wr) G s s'->aCO s'.heap S led (ddI ns)->R (.ok (.ret .none)) s')->
   zCF (model prog w) A (.builtin "set.update.loop" ⟨[.ref S,.ref I],[]⟩) R s:=by
 have hSw:S∉wr:=λ h=>hSf (W.sub _ h)
 have hsb:∀b∈wr,b∈S::wr:=λ b hb=>zAG _ hb
 have kK:vs.length=ns.length:=zIJ hi;have keep:∀{h h':Heap} {ks:List Int},aCO h S led ks->(∀o,h.get? S=some o->h'.get? S=some o)->aCO h' S led ks:=λ⟨es,ep,t,e,r⟩ k=>⟨es,ep,t,k _ e,r⟩
 intro k;induction k with
 |zero=>
  intro i s hk hi' hst hS hR;have hin':i=n:=by omega
  subst hin';refine zBZ zBs ?_;rw[zBE zBK _];show wpAny _ A.in1 (zE1 (.ref I)>>=_) _ _ s;refine zAB (W.done s _ _ hst λ s' hm=>zAI (hR s' (hm.mono hsb) ?_));rw[zCM (by omega)]at hS;exact keep hS λ o e=>hm.heap S _ hSw e
 |succ k ih=>
  intro i s hk hi' hst hS hR;have hlt:i<n:=by omega
  refine zBZ zBs ?_;rw[zBE zBK _];show wpAny _ A.in1 (zE1 (.ref I)>>=_) _ _ s;refine zAB (W.item i s _ _ hlt hst λ v s' hP' hst' hm=>?_);have hP:vs[i]? =some v:=by simpa using hP'
  obtain⟨t,rfl⟩:=zHh hi i v hP;have hS':aCO s'.heap S led (ddI (ns.take i)):=keep hS λ o e=>hm.heap S _ hSw e
  have hle:(ddI (ns.take i)).length<63:=by
   have h1:=aIM (ns.take i);rw[zBx]at h1;omega
  have hnx:zCP (ddI (ns.take i)) (ns.getD i 0)=ddI (ns.take (i+1)):=by
   have hx:ns[i]? =some (ns.getD i 0):=by
    rw[zBP,zAH (by omega)];rfl
   rw[zCr,hx,<-aIL];rfl
  show wpAny _ A.in1 (zCp [zCf (ns.getD i 0) t] (zJN S (.int (ns.getD i 0) t))>>=_) _ _ s';refine zAB (zBW (aIp hS' hle λ h' b c1 c3=>?_));have kp:∀b o,b≠S->s'.heap.get? b=some o->h'.get? b=some o:=λ b o hb e=>by rw[c1.2 b hb];exact e
  rw[hnx]at c3;refine zAI ⟨zCd zBK _,ih (i+1) _ (by omega) hlt (W.frame _ s' _ _ hst' (zDG _) λ b hb o e=>kp b o (λ z=>hSf (z▸hb)) e) c3 λ s'' hm'' hS''=>?_⟩;exact hR s'' (zJX W.gtrans ((hm.mono hsb).then_heap (zDG _) λ b o hb e=>kp b o (λ z=>hb (z▸zAF)) e) hm'') hS''
def aAJ{Q:Value->zAE->Prop}(hI:zBV vs ns)(h64:vs.length<64)
  (h:∀(out:List Value) h' e,Vals ((sortI ns).map V.int) out->(∀b o,s.heap.get? b=some o->h'.get? b=some o)->h'.get? s.heap.objs.size=some (zBu "list" out.toArray e)->Q (.ref s.heap.objs.size) {s with heap:=h'}):
  wpAny (model prog w) A (zFT vs>>=λ l=>zCp [l] (call (.builtin "list.sort") [l])>>=λ _=>ret l) (λ fin s'=>∃r,fin= .done (.ret r)/\Q r s') E s:=by
 refine zAB (zIE ?_ (by rw[zBj];omega));have hoL:(s.heap.push (zBu "list" vs.toArray 0)).get? s.heap.objs.size=some (zBu "list" vs.toArray 0):=zAS _ rfl;refine zAB (zBW (zCi slot_list_sort ⟨_,hoL,rfl⟩ entry_list_sort (list_sort_tree (s:={s with heap:=s.heap.push (zBu "list" vs.toArray 0)}) hoL hI h64 λ out ns' a1 a2 a3=>⟨_,rfl,zAI ⟨_,rfl,?_⟩⟩) (args_list_sort _)));have e:ns'=sortI ns:=zES (a2.trans (sortI_perm ns).symm) a3 (iM ns);subst e;have hne:∀b o,s.heap.get? b=some o->b≠s.heap.objs.size:=λ b o e=>zA6 (zAT e)
 have g0:=zEK hoL λ _=>(#[]:Array Value)
 have g1:=zAC (zBu "list" #[] 0) (zAC (zBu "tuple" vs.toArray 0) g0);have g2:=zEK g1 (λ _=>out);refine h out.toList _ _ (lA a1) (λ b o e=>?_) (by rw[zHK];exact g2);unfold zGY;rw[zC4 _ _ _ _ (hne b o e)];refine zAC _ (zAC _ ?_);rw[zC4 _ _ _ _ (hne b o e)];exact zAC _ e
end
section
variable{X:Cx}
def aGWφ(w:World)(a:Addr)(ks:List Int):Heap->Prop:=λ h=>aCO h a (!w.params.followText "set-order") ks
def aKk(K:zAA)(w:World):List V->Hp->VK->Prop:=λ xs H Q=>∃p ns,xs=[.ref p]/\SqL K H p (ns.map V.int)/\ns.length<64/\∀a H',aO H H'->H' a=some (.ext (aGWφ w a (ddI ns)))->H a=none->Q (.ref a) H'
def aFj(hc:X.calm=true):cg X (.type "set") (aKk X.K X.w):=by
 intro kX s Z H xs us Q I r h;obtain⟨p,ns,rfl,hp,hz,q⟩:=h;obtain⟨u,rfl,ru⟩:=vals1 r;cases ru;have hh:X.A.in1.in1.in1.handled=none:=I.ok.hd hc;obtain⟨its,rv,pl,_⟩:=I.list hp;have hI:zBV its ns:=intsAre_of rv;have kK:its.length=ns.length:=zIJ hI;obtain⟨ol,hol,hcl,nl,hdl⟩:=pl.isList;have hlS:p<s.heap.objs.size:=zAT hol;refine PySem.uE (T:="list") (Φ:=aGWφ X.w s.heap.objs.size (ddI ns)) ⟨ol,hol,hcl⟩ F.sub_list_set zIG (by decide)
  (λ zC yA x9 Q₁ k q=>zEh (s:={s with heap:=zC}) (items:=its.toArray) ⟨ol,k _ _ hol,hcl,nl,hdl⟩ q) (λ R hR=>?_) λ h' tk g1 g2=>?_
 .generalize hled:(!X.w.params.followText "set-order")=led at hR ⊢
  have hS:(s.heap.push (bM #[] 0 (.fresh 0 0 led))).get? s.heap.objs.size=some (bM #[] 0 (.fresh 0 0 led)):=zAS _ rfl;have hl1:(s.heap.push (bM #[] 0 (.fresh 0 0 led))).IsList p its.toArray:=⟨ol,zAC _ hol,hcl,nl,hdl⟩;have eL:p≠(s.heap.push (bM #[] 0 (.fresh 0 0 led))).objs.size:=by rw[zBN];exact zA6 (zCI hlS)
  have hSf:s.heap.objs.size∉[(s.heap.push (bM #[] 0 (.fresh 0 0 led))).objs.size,p]:=by
   rw[zBN];simp only[zAP,zCR,or_false,not_or];exact⟨zA6 (zBy _),zC6 hlS⟩
  refine aEw ((zHw hh _ p eL its.toArray).toS) hSf hI (by simp) (by simpa[kK]using hz) led (its.toArray.size-0) 0 _ (by simp) (zAa _) ⟨⟨_,zAS _ rfl,rfl,rfl⟩,(hl1.push _)⟩
   ⟨#[],0,_,zAC _ hS,cV.fresh led,rfl,[],rfl,zBL _⟩ λ s' hm hS'=>?_
  obtain⟨h',g',d',tk',os'⟩:=s';have eg:g'=s.gens:=hm.gens;have ed:d'=s.drawn:=hm.drawn;have eo:os'=s.os:=hm.os;subst eg;subst ed;subst eo;refine hR h' tk' (by unfold aGWφ;rw[hled];exact hS') λ b o e=>hm.heap b o ?_ (zAC _ (zAC _ e))
  have hb:=zAT e;rw[zBN];simp only[zAP,zCR,or_false,not_or];exact⟨zA6 hb,zA6 (zCI hb)⟩
 .have hfr:H s.heap.objs.size=none:=I.hok.fresh (zAQ _)
  obtain⟨es,ep,t,ge,r⟩:=id g1;exact⟨.ref s.heap.objs.size,upd H s.heap.objs.size (.ext (aGWφ X.w s.heap.objs.size (ddI ns))),I.laid (t':=tk) g2 (zAQ _) ⟨g1,⟨_,ge⟩,λ h1 h2 ⟨es,ep,t,e1,e2⟩ k=>⟨es,ep,t,k _ e1,e2⟩⟩,rfl,q _ _ (bQ hfr _) aa hfr⟩
def aGh(w:World):List V->Hp->VK->Prop:=λ xs H Q=>∃a ks,xs=[.ref a]/\H a=some (.ext (aGWφ w a ks))/\ks.length<64/\New H (.lst ((sortI ks).map V.int)) Q
theorem ints_of:∀(tks:List (Int×Tok)),zBV (tks.map λ p=>zCf p.1 p.2) (tks.map (·.1))
 |[]=>.nil
 |p::r=>.cons _ _ (ints_of r)
def aA8(hc:X.calm=true):cg X (.builtin "sorted") (aGh X.w):=by
 intro kX s Z H xs us Q I r h;obtain⟨a,ks,rfl,ha,h64,q⟩:=h;obtain⟨u,rfl,ru⟩:=vals1 r;cases ru;obtain⟨⟨es,ep,t,e1,e2,e3,tks,hk,e4⟩,_,_⟩:=I.hok a _ ha;have hsz:es.size=ks.length:=by rw[<-zAU,e4.length_eq,zAD,<-hk,zAD]
 have hh:X.A.in1.handled=none:=I.ok.hd hc;refine lD (uD (aDk (ep:=ep) e2 e3) hh e1 (by rw[hsz,zBj];omega) λ h1 tk vs1 k0 k1 k2 k3=>?_);have pV:(m7 X.w a ep es).toList.Perm (tks.map aFc):=(iQ X.w a ep es).trans e4;obtain⟨zs,z1,z2⟩:=lL (f:=aFc) pV rfl;have hvs:vs1=zs.map λ p=>zCf p.1 p.2:=by
  have e5:(m7 X.w a ep es).toList.map (·.2)=zs.map λ p=>zCf p.1 p.2:=by rw[z2,zAv];rfl
  have kK:(m7 X.w a ep es).toList.length=es.size:=by rw[(iQ X.w a ep es).length_eq,zAU]
  rw[<-e5];refine zFq (by rw[k2,zAD,kK]) λ i g1 g2=>?_
  have:=k3 i _ (zAH g1)
  rw[<-zAd,<-zAW,zAH g2]at this;exact(zAl this).symm
 subst hvs;have hps:(zs.map (·.1)).Perm ks:=by rw[<-hk];exact z1.map _
 have hss:sortI (zs.map (·.1))=sortI ks:=zES (((sortI_perm _).trans hps).trans (sortI_perm ks).symm) (iM _) (iM _);refine aAJ (s:={s with heap:=h1,toks:=tk}) (ints_of zs) (by rw[k2];omega) λ out h' e a1 a2 a3=>?_
 rw[hss]at a1;have hle:s.heap.objs.size<=h1.objs.size:=zB8 k0;have hfr:H h1.objs.size=none:=I.hok.fresh hle;exact⟨.ref h1.objs.size,upd H h1.objs.size (.lst ((sortI ks).map V.int)),I.laid (t':=tk) (λ b o e=>a2 b o (k1 b o e)) hle ⟨by rw[zAD,(sortI_perm ks).length_eq];exact zAi (zB8 h64) (by decide),out,e,a1,a3⟩,rfl,q.at hfr⟩
end
def mK:List D->Rs D
 |[.lst l]=>match intsOf l with
  |some ns=>if ns.length<64 then .ok (.lst ((sortI (ddI ns)).map .int))else .st
  |none=>.st
 |_=>.st
section
variable{C:Ct}{pos pos2 p p2:Pos}{m:Mode}{a:Expr}{ga:En->Rs (List D)}
def xg(hm:C.mg "sorted"=none)(hm2:C.mg "set"=none)(ha:SA C m [a] ga)(he:∀i,zA5 [a] (C.X i).env=[(false,eval a (C.X i).env)]:=by intro _;rfl)(he2:∀i,zA5 [Expr.Call (.Name "set" p2) [a] [] pos2] (C.X i).env=[(false,eval (.Call (.Name "set" p2) [a] [] pos2) (C.X i).env)]:=by intro _;rfl)(hg:∀i,Gl (C.X i) "sorted":=by intro _;rfl)(hv:zBC "sorted"=some (.builtin "sorted"):=by decide+kernel)(hg2:∀i,Gl (C.X i) "set":=by intro _;rfl)(hv2:zBC "set"=some (.type "set"):=by decide+kernel):
  SE C (some []) (.Call (.Name "sorted" p) [.Call (.Name "set" p2) [a] [] pos2] [] pos) (opA mK ga):=by
 obtain⟨t,h1,h2⟩:=ha;have hw:∀i,(C.X i).w=C.w:=λ i=>(C.cx i).2.1
 refine⟨tCB (aGh C.w) (fM (tCB (aKk C.K C.w) t) lq),λ i=>jo (by rw[<-hw i];exact aA8 (C.calm i)) (hg i) (by rw[(C.cx i).2.2.2.1];exact hm) hv
  (aV (gD (by rw[<-C.hK i,<-hw i];exact aFj (C.calm i)) (hg2 i) (by rw[(C.cx i).2.2.2.1];exact hm2) hv2 (h1 i) (by decide) (by decide) (he i) rfl) cH (he2 i)) (by decide) (by decide) (he2 i) rfl,λ U Z H Y lab Q R W=>?_⟩
 refine h2 U Z H Y lab _ R (W.bd.imp λ ds _ w xs H1 s1 r1=>?_);obtain⟨z,ez,w⟩:=w.okD;unfold mK at ez;split at ez
 .obtain⟨v,rfl,rd⟩:=r1.one_inv
  obtain⟨b,ys,rfl,hb,mb,rb⟩:=rd.lst_inv;split at ez
  .rename_i ns e
   split at ez
   .rename_i hl
    cases ez;rw[cI e]at rb;have ey:=rb.ints_of;subst ey;refine⟨b,ns,rfl,SqL.of hb,hl,λ c H2 s2 hc2 hn2=>⟨c,ddI ns,rfl,hc2,zEG (aIM ns) hl,λ q H3 s3 hq hn3=>w _ H3 ((s1.trans s2).trans s3) (.lst hq (.inl ((s1.trans s2).free hn3)) Rps.ints)⟩⟩
   .cases ez
  .cases ez
 .cases ez
end
abbrev aOP:=List (Str×(List D->Rs D))
def fnOf(tab:aOP):Rs D->Option (List D->Rs D)
 | .ok (.fn x)=>tab.lookup x
 |_=>none
def shB:Slot->Bool
 | .no=>true
 | .sh _=>true
 |_=>false
def nsL(Y:En)(fg:D->En->Rs En)(ft:En->Rs Bool)(inn:En->Rs (List D)):List D->Rs (List D)
 |[]=>.ok []
 |d::ds=>(fg d Y).bd λ Y1=>(ft Y1).bd λ k=>if k=true then(inn Y1).bd λ ys=>(nsL Y fg ft inn ds).bd λ zs=>.ok (ys++zs)else nsL Y fg ft inn ds
def inL(fi2:En->Rs (List D))(fg2:D->En->Rs En)(ft2:En->Rs Bool)(fe:En->Rs D):En->Rs (List D):=λ Y1=>if Y1.all shB=true then(fi2 Y1).bd λ ds=>lcL Y1 fg2 ft2 fe ds else .st
def aDK(fi:En->Rs (List D))(js:kQ)(fg:D->En->Rs En)(ft:En->Rs Bool)(inn:En->Rs (List D)):En->Rs D:=λ Y=>(fi (shE Y)).bd λ ds=>match nsL (stE js (shE Y)) fg ft inn ds with
 | .ok l=>if l.length<zAY then .ok (.lst l)else .st
 |_=>.st
def aHN(h:nsL Y fg ft inn (d::ds)= .ok l):
  ∃Y1 k,fg d Y= .ok Y1/\ft Y1= .ok k/\((k=true/\∃ys zs,inn Y1= .ok ys/\nsL Y fg ft inn ds= .ok zs/\l=ys++zs)\/(k=false/\nsL Y fg ft inn ds= .ok l)):=by
 unfold nsL at h;obtain⟨Y1,e1,h⟩:=cF h;obtain⟨k,e2,h⟩:=cF h;refine⟨Y1,k,e1,e2,?_⟩;cases k with
 |true=>
  rw[if_pos rfl]at h;obtain⟨ys,e3,h⟩:=cF h;obtain⟨zs,e4,h⟩:=cF h;exact .inl ⟨rfl,ys,zs,e3,e4,by cases h;rfl⟩
 |false=>
  rw[if_neg zA8]at h;exact .inr ⟨rfl,h⟩
def aMe(h:inL fi2 fg2 ft2 fe Y1= .ok ys):Y1.all shB=true/\∃ds,fi2 Y1= .ok ds/\lcL Y1 fg2 ft2 fe ds= .ok ys:=by
 unfold inL at h;split at h
 .rename_i hs
  obtain⟨ds,e1,e2⟩:=cF h;exact⟨hs,ds,e1,e2⟩
 .cases h
def RR.butS{K:zAA}(R:RR K G U Y Z H lab)(hs:Y.all shB=true)(b9:¬(lab l).1<=1)(B:kh l H H')(hl:H l=some o)(ho:iG o=true)(h0:G.H0 l=none):RR K G U Y Z H' lab:=by
 refine⟨R.len,λ j s e=>?_,λ b o hb=>?_,R.new,λ q hq=>(R.tm q hq).but B hl ho b9⟩
 .rcases R.sl j s e with z|⟨u,e1,e2⟩
  .exact .inl z
  .have hb:=zAt.mp hs s (zBA e)
   cases s with
   |no=>exact .inl rfl
   |sh d=>exact .inr ⟨u,e1,Rp.but B hl ho b9 e2⟩
   |_=>cases hb
 .exact B b o (λ z=>by subst z;rw[h0]at hb;cases hb) (R.old b o hb)
section
variable{K:zAA}{G:Gx}{wi wi2:TI}{fi fi2:En->Rs (List D)}{js:kQ}{ks ks2:List Nat}{g g2:TG}{fg fg2:D->En->Rs En}{tt tt2:TT}{ft ft2:En->Rs Bool}{te:TE}{fe:En->Rs D}
def aGT(hi:aI2 K G wi fi)(hg:aI3 K {G with E:=λ _ _ _=>False} g fg)(hgo:j0 g ks)(hgm:zM g)(hk:∀k∈ks2,k∉ks/\(js[k]?).join=none)(ht:aCN K {G with E:=λ _ _ _=>False} tt ft)(hi2:aI2 K {G with E:=λ _ _ _=>False} wi2 fi2)
  (hg2:aI3 K {G with E:=λ _ _ _=>False} g2 fg2)(ht2:aCN K {G with E:=λ _ _ _=>False} tt2 ft2)(he:iD K {G with E:=λ _ _ _=>False} (some []) te fe):
  iD K G (some []) (aLY (λ _=>.lst []) wi (stV js) g tt (aGF ks2 wi2 g2 tt2 (aKc te))) (aDK fi js fg ft (inL fi2 fg2 ft2 fe)):=by
 intro U Z H Y lab Q R W;refine hi U Z H _ _ _ R.shE (W.bd.imp λ ds _ w J H1 lab1 U1 s1 _ R1 jl=>?_);intro l hl;obtain⟨out,aS,kK,w⟩:∃out,nsL (stE js (VL.shE Y)) fg ft (inL fi2 fg2 ft2 fe) ds= .ok out/\out.length<zAY/\QE K (some []) lab H Q (.lst out):=by
  cases aS:nsL (stE js (VL.shE Y)) fg ft (inL fi2 fg2 ft2 fe) ds with
  |ok out=>
   rw[aS]at w;dsimp only at w;split at w
   .rename_i hz;exact⟨out,rfl,hz,w⟩
   .exact zAN w
  |ex c=>rw[aS]at w;exact zAN w
  |st=>rw[aS]at w;exact zAN w
 have R0:RR K {G with E:=λ _ _ _=>False} (U1++U) (VL.shE Y) Z H1 (λ _=>(0,0)):=R1.blk0 rfl;have RB:=R0.block (js:=js) (λ _=>zAa _) hl;have hHl:H l=none:=s1.free hl;have h0l:G.H0 l=none:=R1.old.free hl;have bS:¬((λ p=>if p=l then((2,0):Nat×Nat)else(0,0)) l).1<=1:=by simp
 have hsk:∀k∈ks2,(stV js Z)[k]? =some none\/(stV js Z)[k]? =none:=λ k hk2=>by
  have:=(hk k hk2).2
  unfold stV;rw[zAW];cases e:js[k]? with
  |none=>exact .inr rfl
  |some o=>
   rw[e]at this;cases o with
   |none=>exact .inl rfl
   |some j=>cases this
 refine⟨λ i n H2=>∃(pre:List D) (acc:List V),n=ds.length-i/\i<=ds.length/\H2 l=some (.lst acc)/\RR K {G with E:=λ _ _ _=>False} (U1++U) (stE js (VL.shE Y)) (stV js Z) H2 (λ p=>if p=l then(2,0)else(0,0))/\aO H H2/\Rps K (λ p=>H p=none/\p≠l) H2 acc pre/\
  ∃post,nsL (stE js (VL.shE Y)) fg ft (inL fi2 fg2 ft2 fe) (ds.drop i)= .ok post/\out=pre++post,⟨ds.length,[],[],by lia,by lia,aa,RB.up (bQ hl _),s1.trans (bQ hl _),.nil,out,aS,rfl⟩,?_⟩
 rintro i n H2 ⟨pre,acc,rfl,hi',hH2,R2,s2,rpre,post,hpost,eout⟩;have jj:=jl _ H2 λ q hq=>R2.tm q (zA1 _ hq)
 by_cases hlt:i<ds.length
 .obtain⟨go,yl⟩:=(jj i).2 hlt
  refine .inr ⟨go,λ x H3 hy=>?_⟩;obtain⟨s3,d,ed,rx⟩:=yl x H3 hy;replace R2:=R2.up s3;replace hH2:=s3 _ _ hH2;replace s2:=s2.trans s3;replace rpre:=rpre.up s3;have ed2:ds.drop i=d::ds.drop (i+1):=by
   rw[zBr hlt]
   have:=zAH hlt
   rw[ed]at this;cases this;rfl
  rw[ed2]at hpost;obtain⟨Y1,k,e1,e2,e3⟩:=aHN hpost;have hgx:=hgo _ _ _ _ (hg (U1++U) x d _ H3 _ _ (λ Z4 H4=>H4=H3/\RR K {G with E:=λ _ _ _=>False} (U1++U) Y1 Z4 H3 (λ p=>if p=l then(2,0)else(0,0))) Y1 R2 rx e1 λ Z4 R4=>⟨rfl,R4⟩);refine hgm _ _ _ _ _ (λ Z4 H4 ⟨⟨eH,R4⟩,hlen4,hag4⟩=>?_) hgx;subst eH;refine ht (U1++U) Z4 H4 Y1 _ _ R4 ?_;rw[e2];intro H5 s5;rcases e3 with ⟨rfl,ys,zs,e3,e4,rfl⟩|⟨rfl,e4⟩
  .rw[if_pos rfl]
   obtain⟨hsh,ds2,f1,f2⟩:=aMe e3;refine⟨λ k hk2 v e=>?_,?_⟩
   .rw[hag4 k (hk k hk2).1]at e
    rcases hsk k hk2 with z|z<;>rw[z]at e<;>cases e
   refine hi2 (U1++U) Z4 H5 Y1 _ _ (R4.up s5) ?_;rw[f1];intro J2 H6 lab6 U6 s6 hlab6 R6 jl6;have hl6:H6 l=some (.lst acc):=s6 _ _ (s5 _ _ hH2);have lab6l:¬(lab6 l).1<=1:=by rw[hlab6 l _ (s5 _ _ hH2)];exact bS
   refine⟨λ j n2 H7=>∃(pre2:List D) (acc2:List V),n2=ds2.length-j/\j<=ds2.length/\H7 l=some (.lst acc2)/\RR K {G with E:=λ _ _ _=>False} (U6++(U1++U)) Y1 Z4 H7 lab6/\RR K {G with E:=λ _ _ _=>False} (U1++U) (stE js (VL.shE Y)) (stV js Z) H7 (λ p=>if p=l then(2,0)else(0,0))/\aO H H7/\
    Rps K (λ p=>H p=none/\p≠l) H7 acc2 (pre++pre2)/\∃post2,lcL Y1 fg2 ft2 fe (ds2.drop j)= .ok post2/\ys=pre2++post2,
    ⟨ds2.length,[],acc,by lia,by lia,hl6,R6,R2.up (s5.trans s6),(s2.trans s5).trans s6,by rw[zBD];exact rpre.up (s5.trans s6),ys,f2,rfl⟩,?_⟩
   rintro j n2 H7 ⟨pre2,acc2,rfl,hj,hl7,R7,Rb7,s7,rpre2,post2,hpost2,eys⟩;have jj7:=jl6 _ H7 λ q hq=>R7.tm q (zA1 _ hq)
   by_cases aT:j<ds2.length
   .obtain⟨go2,yl2⟩:=(jj7 j).2 aT
    refine .inr ⟨go2,λ x2 H8 hy2=>?_⟩;obtain⟨s8,d2,ed8,rx2⟩:=yl2 x2 H8 hy2;replace R7:=R7.up s8;replace Rb7:=Rb7.up s8;replace hl7:=s8 _ _ hl7;replace s7:=s7.trans s8;replace rpre2:=rpre2.up s8;have ed9:ds2.drop j=d2::ds2.drop (j+1):=by
     rw[zBr aT]
     have:=zAH aT
     rw[ed8]at this;cases this;rfl
    rw[ed9]at hpost2;obtain⟨Y2,k2,q1,q2,q3⟩:=aB8 hpost2;refine hg2 (U6++(U1++U)) x2 d2 _ H8 _ _ _ Y2 R7 rx2 q1 λ Z9 R9=>?_
    refine ht2 (U6++(U1++U)) Z9 H8 Y2 _ _ R9 ?_;rw[q2];intro H9 s9;rcases q3 with ⟨rfl,y,ys2,q3,q4,rfl⟩|⟨rfl,q4⟩
    .rw[if_pos rfl]
     refine he (U6++(U1++U)) Z9 H9 Y2 _ _ (R9.up s9) ?_;rw[q3];intro v Ha sa ra;have hla:Ha l=some (.lst acc2):=sa _ _ (s9 _ _ hl7);have B:kh l Ha (upd Ha l (.lst (acc2++[v]))):=λ b o ne hb=>by rw[aX ne];exact hb
     have hsz:acc2.length<zAY:=by
      have h1:=rpre2.length;have h2:out.length=pre.length+(pre2.length+(ys2.length+1))+zs.length:=by rw[eout,eys];simp;lia
      rw[zAZ]at h1;lia
     refine⟨acc2,hla,hsz,ds2.length-(j+1),by lia,pre2++[y],acc2++[v],rfl,aT,aa,(R7.up (s9.trans sa)).butS hsh lab6l B hla rfl h0l,(Rb7.up (s9.trans sa)).but_blk B hla rfl h0l,λ b o hb=>B b o (λ z=>by subst z;rw[hHl]at hb;cases hb) (((s7.trans s9).trans sa) b o hb),?_,ys2,q4,by rw[eys];simp⟩;rw[<-zCG];refine((rpre2.up (s9.trans sa)).append (.cons (ra.wk λ p o _ z=>?_) .nil)).but B hla rfl λ z=>z.2 rfl
     rcases z with z|z
     .exact⟨(s7.trans s9).free z,λ e=>by subst e;rw[s9 _ _ hl7]at z;cases z⟩
     .cases z
    .rw[if_neg zA8]
     exact⟨ds2.length-(j+1),by lia,pre2,acc2,rfl,aT,s9 _ _ hl7,R7.up s9,Rb7.up s9,s7.trans s9,rpre2.up s9,post2,q4,eys⟩
   .have ej:j=ds2.length:=by lia
    subst ej;rw[zDA]at hpost2;cases hpost2;rw[zBD]at eys;subst eys;exact .inl ⟨(jj7 _).1 (zAQ _),ds.length-(i+1),by lia,_,acc2,rfl,hlt,hl7,Rb7,s7,rpre2,zs,e4,by rw[eout];simp⟩
  .rw[if_neg zA8]
   exact⟨ds.length-(i+1),by lia,pre,acc,rfl,hlt,s5 _ _ hH2,R2.up s5,s2.trans s5,rpre.up s5,post,e4,eout⟩
 .have ei:i=ds.length:=by lia
  subst ei;rw[zDA]at hpost;cases hpost;rw[zBD]at eout;subst eout;exact .inl ⟨(jj _).1 (zAQ _),w _ H2 s2 (.lst hH2 (.inl hHl) (rpre.wk λ p o _ z=>⟨.inl z.1,z.2⟩))⟩
end
section
variable{C:Ct}{pos:Pos}{elt tg iter tg2 iter2:Expr}{ifs ifs2:List Expr}{sc:Scope}{N:List Str}{js:kQ}{ks ks2:List Nat}{fi fi2:En->Rs (List D)}{fg fg2:D->En->Rs En}{ft ft2:En->Rs Bool}{fe:En->Rs D}
def aNc(hi:SI C tg iter fi)(hg:SG (C.blk sc N) tg ks fg)(ht:aCP (C.blk sc N) ifs ft)(hi2:SI (C.blk sc N) tg2 iter2 fi2)(hg2:SG (C.blk sc N) tg2 ks2 fg2)(ht2:aCP (C.blk sc N) ifs2 ft2)(he:SE (C.blk sc N) (some []) elt fe)(hk:∀k∈ks2,k∉ks/\(js[k]?).join=none:=by decide)(hs:∀i x,zAz iter (C.X i).env x=pure x:=by intro _ _;rfl)(hs2:∀(i:(C.blk sc N).ι) x,zAz iter2 ((C.blk sc N).X i).env x=pure x:=by intro _ _;rfl)(hB:∀i,cj (C.X i) sc N (stV js) (ks++ks2):=by intro _;exact xR rfl rfl rfl rfl rfl rfl):
  SE C (some []) (.ListComp elt [⟨tg,iter,ifs,0⟩,⟨tg2,iter2,ifs2,0⟩] sc pos) (aDK fi js fg ft (inL fi2 fg2 ft2 fe)):=by
 obtain⟨wi,i1,i2⟩:=hi;obtain⟨g,g1,g2,g3,g4⟩:=hg;obtain⟨tt,t1,t2⟩:=ht;obtain⟨wi2,j1,j2⟩:=hi2;obtain⟨gg,h1,h2,h3,h4⟩:=hg2;obtain⟨tt2,u1,u2⟩:=ht2;obtain⟨te,e1,e2⟩:=he;have go1:j0 g (ks++ks2):=λ v Z H Q q=>g4 _ _ _ _ _ (λ Z' H' ⟨a,b,c⟩=>⟨a,b,λ k hk=>c k λ z=>hk (zA1 _ z)⟩) (g3 v Z H Q q)
 refine⟨_,λ i=>aNj (pos:=pos) (hB i) (C.calm i) (i1 i) (λ c fp z5 zI=>g1 (i,c,fp,z5,zI)) go1 (λ c fp z5 zI=>t1 (i,c,fp,z5,zI)) (aAm elt tg iter tg2 iter2 ifs ifs2 sc pos) (qM rfl (λ _ _ _ _=>rfl) λ _ _ _ _ _=>rfl) aEi ?_ rfl rfl (hs i),aGT i2 g2 g3 g4 hk t2 j2 h2 u2 e2⟩;intro c fp z5 zI;exact aEE (C.calm i) (λ _ _ h=>h) (aAl elt tg iter tg2 iter2 ifs ifs2 sc pos) (qM rfl (λ _ _ _ _=>rfl) λ _ _ _ _ _=>rfl) (j1 (i,c,fp,z5,zI)) (h1 (i,c,fp,z5,zI)) h3 (u1 (i,c,fp,z5,zI)) (aHJ (e1 (i,c,fp,z5,zI))) (hs2 (i,c,fp,z5,zI))
end
end VL
namespace HT
open PySem PySem.Spec PyProof.Rows
end HT
namespace VL
open PySem PySem.Spec PyProof.Rows L2
end VL
namespace PySem.AutoSeq1
end PySem.AutoSeq1
namespace VL
open PySem PySem.Spec PyProof.Rows L2
def Enr(K:zAA)(x:Str)(st:Stmt)(f:Addr)(fd:zAq):Prop:=L2.Fun K x x st f fd/\zAf K zA9 x=some (some (.ref f))
def enr{K:zAA}{st:Stmt}{oc kV dc pm cd ct:Value}(a:zAf K zA9 x=some (some (.ref f)))
  (l:K.lookup f=some ⟨oc,od,.func (zBq x x (lO st) (cX st) (aF st) .none kV dc pm an cd ct),sl⟩)(c:zDX K cd x=true)(k:zBm K (.ref f)=true):∃f fd,Enr K x st f fd:=⟨f,_,aMn (st:=st) l c k,a⟩
structure Dnr(K:zAA)(mg:Str->Option Value)(x:Str)(st:Stmt)(ps:List Str)(f:Addr)(d:zAq):Prop where
 F:L2.Fun K x x st f d
 m:mg x=some (.ref f)
 b:L2.Binds K d ps []
section
variable{C:Ct}
def bN{st:Stmt}(hF:dI C.prog C.w C.K C.mg C.base (CX1 C.prog C.w) k fn fd ps (spF C.K C.G.cl n F))(D:Dnr C.K C.mg x st ps fn fd)(ha:SA C m (e::es) ga)(hr:k<=C.k:=by exact zEs rfl)(hg:∀i,Gl (C.X i) x:=by intro _;rfl)
  (hn:∀Y ds,ga Y= .ok ds->ds.length=n:=by repeat (first|exact λ _ _ h=>aJf h|apply aH0))(hdb:Nd x:=by decide)(he:∀i,zA5 (e::es) (C.X i).env=(false,eval e (C.X i).env)::zA5 es (C.X i).env:=by intro _;rfl)
  (hpl:∀i,(zCg pos (zA5 es (C.X i).env)).any (·.1)=false:=by intro _;rfl):SE C (some []) (.Call (.Name x p) (e::es) [] pos) (ak F ga):=aIv hF hr D.m D.F.kp D.b ha hn hdb he hpl hg
end
def bY{P:zA3}{w:World}{K:zAA}{st:Stmt}(D:Dnr K mg q st ps fn fd)(S:aY N ps (aF st))(hb:N.Nodup->∀cdv A outer s H E hr,SSs (ctD P w K mg base N q (aF st) fn cdv A outer s H E k hr) (cX st) f)(hn:ps.length=n:=by rfl)(hF:fL N.length f=FF:=by rfl):
  dI P w K mg base (CX1 P w) (k+1) fn fd ps (spF K (aZ mg) n FF):=aKI D.F S (hb S.nd) hn hF
section
variable{prog:zA3}{w:World}{A:zAc}{R:zEe->zAE->Prop}{I S:Addr}{fp wr:List Addr}{n:Nat}{P:Nat->Value->Prop}{St:Nat->Heap->Prop}{bt:Nat->Nat->Bool}
def aK7(prog:zA3)(w:World)(A:zAc)(P:Nat->Value->Prop)(St:Nat->Heap->Prop)(bt:Nat->Nat->Bool):Prop:=
 ∀i j k vi vj (s:zAE) (Q E:Value->zAE->Prop),St k s.heap->P i vi->P j vj->Q (.bool (bt i j)) s->wpAny (model prog w) A (zEv .Lt vi vj) Q E s
abbrev aNQ(v:Value)(c:Nat):Obj:={cls:=.type "list",dict:=none,data:=.seq #[v,v] c,slots:=#[]}
abbrev aOO(prog:zA3)(w:World)(A:zAc)(I S:Addr)(R:zEe->zAE->Prop)(s:zAE):Prop:=zCF (model prog w) A (.builtin "min.loop" ⟨[.ref I,.none,.ref S],[]⟩) R s
abbrev aI6(wr:List Addr)(n:Nat)(P:Nat->Value->Prop)(bt:Nat->Nat->Bool)(S:Addr)(R:zEe->zAE->Prop)(s:zAE):Prop:=
 ∀v h' tk,P (zFn bt (n-1)) v->(∀b o,b∉wr->b≠S->s.heap.get? b=some o->h'.get? b=some o)->R (.ok (.ret v)) {s with heap:=h',toks:=tk}
def aJb(W:Walks prog w A.in1 I fp wr n P St)(hc:aK7 prog w A.in1 P St bt)(hSf:S∉fp)(k:Nat):∀(j:Nat) (s:zAE) (vb:Value) (c:Nat),j+1+k=n->St (j+1) s.heap->P (zFn bt j) vb->
  s.heap.get? S=some (aNQ vb c)->aI6 wr n P bt S R s->aOO prog w A I S R s:=by
 have nw:S∉wr:=λ h=>hSf (W.sub _ h)
 have nm:(zGu "min"++zGu ".loop":String)="min.loop":=by decide
 induction k with
 |zero=>
  intro j s vb c hk st pb hS fin;refine zBZ zGP ?_;rw[zBE zCb _];show wpAny _ A.in1 (seqItems? (.ref S)>>=_) _ _ s;refine zAB (zE7 hS rfl ?_);show wpAny _ A.in1 (zJO (zE1 (.ref I)) _>>=_) _ _ s;refine zAB (zFd (W.done s _ _ (by rw[<-hk];exact st) λ h' tk kp=>?_));show wpAny _ A.in1 (updateSeq S (λ _=>#[])>>=_) _ _ _;refine zAB (zHI (kp S _ nw hS) rfl (zAB (zHG (zAI (fin vb _ tk ?_ λ b o b1 b2 e=>?_)))))
  .have:n-1=j:=by omega
   rw[this];exact pb
  .exact(zCK _ _ (zCy b2)).trans (kp b o b1 e)
 |succ k ih=>
  intro j s vb c hk st pb hS fin;refine zBZ zGP ?_;rw[zBE zCb _];show wpAny _ A.in1 (seqItems? (.ref S)>>=_) _ _ s;refine zAB (zE7 hS rfl ?_);show wpAny _ A.in1 (zJO (zE1 (.ref I)) _>>=_) _ _ s;refine zAB (zFd (W.item (j+1) s _ _ (by omega) st λ v h' tk pv st' kp=>?_));have hS':=kp S _ nw hS;show wpAny _ A.in1 (zJO (zCp [v,v] (zEv .Lt v vb>>=_)) _>>=_) _ _ _;refine zAB (zFd (zBW (zAB (hc (j+1) (zFn bt j) _ v vb _ _ _ st' pv pb ?_))));refine zAB (zBW (zBe (zAB (zHG (zAI ?_)))));cases hb:bt (j+1) (zFn bt j)with
  |true=>
   simp only[if_true];refine zAB (zHI hS' rfl (zAB (zHG ?_)));rw[nm];refine zAI ⟨zCd zCb _,ih (j+1) _ v _ (by omega) (W.frame _ _ _ st' λ b bf o e=>?_) (by simp only[zFn,hb,if_true];exact pv) (zD9 _ hS' rfl) λ v' h2 t2 p2 k2=>?_⟩
   .exact(zCK _ _ (λ h:S=b=>hSf (h▸bf))).trans e
   .exact fin v' h2 t2 p2 λ b o b1 b2 e=>k2 b o b1 b2 ((zCK _ _ (zCy b2)).trans (kp b o b1 e))
  |false=>
   simp only[zA4,if_false];refine zAB (zHG ?_);rw[nm];refine zAI ⟨zCd zCb _,ih (j+1) _ vb c (by omega) st' (by simp only[zFn,hb,zA4,if_false];exact pb) hS' λ v' h2 t2 p2 k2=>?_⟩;exact fin v' h2 t2 p2 λ b o b1 b2 e=>k2 b o b1 b2 (kp b o b1 e)
def aHU(W:Walks prog w A.in1 I fp wr n P St)(hc:aK7 prog w A.in1 P St bt)(hSf:S∉fp)(hn:0<n){s:zAE}{c:Nat}(st:St 0 s.heap)
  (hS:s.heap.get? S=some {cls:=.type "list",dict:=none,data:=.seq #[] c,slots:=#[]})(fin:aI6 wr n P bt S R s):aOO prog w A I S R s:=by
 have nw:S∉wr:=λ h=>hSf (W.sub _ h)
 have nm:(zGu "min"++zGu ".loop":String)="min.loop":=by decide
 refine zBZ zGP ?_;rw[zBE zCb _];show wpAny _ A.in1 (seqItems? (.ref S)>>=_) _ _ s;refine zAB (zE7 hS rfl ?_);show wpAny _ A.in1 (zJO (zE1 (.ref I)) _>>=_) _ _ s;refine zAB (zFd (W.item 0 s _ _ hn st λ v h' tk pv st' kp=>?_));have hS':=kp S _ nw hS;show wpAny _ A.in1 (updateSeq S (λ _=>#[v,v])>>=_) _ _ _;refine zAB (zHI hS' rfl ?_);rw[nm];refine zAI ⟨zCd zCb _,aJb W hc hSf (n-1) 0 _ v _ (by omega) (W.frame _ _ _ st' λ b bf o e=>?_) pv (zD9 _ hS' rfl) λ v' h2 t2 p2 k2=>?_⟩
 .exact(zCK _ _ (λ h:S=b=>hSf (h▸bf))).trans e
 .exact fin v' h2 t2 p2 λ b o b1 b2 e=>k2 b o b1 b2 ((zCK _ _ (zCy b2)).trans (kp b o b1 e))
abbrev aLI(prog:zA3)(w:World)(A:zAc)(Q:Value->zAE->Prop):Value->zAE->Prop:=λ it zS=>∃I fp wr n P St bt,it= .ref I/\Walks prog w A.in1 I fp wr n P St/\St 0 zS.heap/\(∀b∈fp,b<zS.heap.objs.size)/\0<n/\aK7 prog w A.in1 P St bt/\
  ∀v h' tk,P (zFn bt (n-1)) v->(∀b o,b∉wr->zS.heap.get? b=some o->h'.get? b=some o)->Q v {zS with heap:=h',toks:=tk}
def aFW{Q:Value->zAE->Prop}{it:Value}{zS:zAE}(h:aLI prog w A Q it zS):
  zCF (model prog w) A (.builtin "min.loop" ⟨[it,.none,.ref zS.heap.objs.size],[]⟩) (λ r s=>match r with| .ok (.ret v)=>Q v s|_=>False) {zS with heap:=zS.heap.push {cls:=.type "list",data:=.seq #[]}}:=by
 obtain⟨I,fp,wr,n,P,St,bt,rfl,W,st,lo,hn,hc,q⟩:=h;refine aHU W hc (λ hm=>zB1 _ (lo _ hm)) hn (W.frame _ _ _ st λ b _ o e=>zAC _ e) (zAS _ rfl) λ v h' tk pv k=>?_
 exact q v h' tk pv λ b o bw e=>k b o bw (zA6 (zAT e)) (zAC _ e)
end
section
variable{prog:zA3}{w:World}{A:zAc}{E:Value->zAE->Prop}{s:zAE}{Q:Value->zAE->Prop}
def aD6{a b:Value}(h:wpAny (model prog w) A.in1 (zG9 (.ref s.heap.objs.size)) (aLI prog w A Q) E {s with heap:=s.heap.push {cls:=.type "tuple",data:=.seq #[a,b]}}):wpAny (model prog w) A (call (.builtin "min") [a,b]) Q E s:=by
 have nm:(zGu "min"++zGu ".loop":String)="min.loop":=by decide
 refine call_function_tree F.kind_min F.plain_min F.entry_min (F.args_min2 _ _) ?_;show wpAny _ A.in1 (zEi "min" ["key","default"] 0 ⟨[],[]⟩>>=_) _ _ s;refine zAB (zFo (show zEi "min" ["key","default"] 0 ⟨[],[]⟩=pure [none,none]from rfl) ?_);show wpAny _ A.in1 (newTuple [a,b]>>=_) _ _ s;refine zAB (zBJ (zAB (zAw h (λ it zS y8=>?_) λ _ _ e=>e)));refine zAB (zBJ ?_);rw[nm];refine zAI ⟨zCd zCb _,zC9 (aFW y8) λ r s hr=>?_⟩
 match r,hr with
 | .ok (.ret v),hr=>exact hr
end
def xV(items:Array Value)(nss:Nat->List Int)(h:Heap):Prop:=∀i v,items[i]? =some v->∃x its,v= .ref x/\IsTup h x its/\zBV its.toList (nss i)
def pO(items:Array Value):List Addr:=items.toList.filterMap λ v=>match v with| .ref x=>some x|_=>none
def aCk{items:Array Value}{i:Nat}(h:items[i]? =some (zAx x)):x∈pO items:=by
 unfold pO;rw[zBg];exact⟨.ref x,by have:=zBA (l:=items.toList) (i:=i) (by simpa using h);exact this,rfl⟩
def xV.keep(T:xV items nss h)(k:∀b∈pO items,∀o,h.get? b=some o->h'.get? b=some o):xV items nss h':=λ i v e=>by
 obtain⟨x,its,rfl,⟨o,h1,h2⟩,h3⟩:=T i v e;exact⟨x,its,rfl,⟨o,k x (aCk e) o h1,h2⟩,h3⟩
def aNP{items:Array Value}{nss:Nat->List Int}{St:Nat->Heap->Prop}(W:Walks prog w A I fp wr n (λ i v=>items[i]? =some v) St)(hw:∀b∈pO items,b∉wr):Walks prog w A I (fp++pO items) wr n (λ i v=>items[i]? =some v) (λ i h=>St i h/\xV items nss h) where
 sub:=λ b hb=>zA1 _ (W.sub b hb)
 frame:=λ i h h' st k=>⟨W.frame i h h' st.1 λ b hb=>k b (zA1 _ hb),st.2.keep λ b hb=>k b (zA7 _ hb)⟩
 item:=λ i s Q E hi st q=>W.item i s Q E hi st.1 λ v h' tk pv st' kp=>q v h' tk pv ⟨st',st.2.keep λ b hb o=>kp b o (hw b hb)⟩ kp
 done:=λ s Q E st q=>W.done s Q E st.1 q
 self:=λ i s Q E st q=>W.self i s Q E st.1 q
def aFg{items:Array Value}{nss:Nat->List Int}{St:Nat->Heap->Prop}{A:zAc}(hu:A.units<cLine):aK7 prog w A (λ i v=>items[i]? =some v) (λ i h=>St i h/\xV items nss h) (λ i j=>HT.lexLt (nss i) (nss j)):=λ i j k vi vj s Q E st hi hj q=>by
 obtain⟨x,xs,rfl,x1,x2⟩:=st.2 i vi hi;obtain⟨y,ys,rfl,y1,y2⟩:=st.2 j vj hj;exact HT.wB x1 y1 x2 y2 hu q
def aD5(hu:X.A.units+1<cLine)(hc:X.calm=true):cg X (.builtin "min") (λ xs H Q=>∃a b ns ms,xs=[.ref a,.ref b]/\SqT X.K H a (ns.map V.int)/\SqT X.K H b (ms.map V.int)/\Q (.ref (if HT.lexLt ms ns then b else a)) H):=by
 intro kX s Z H xs us Q I r h;obtain⟨a,b,ns,ms,rfl,ha,hb,q⟩:=h;obtain⟨u,v,rfl,ru,rv⟩:=vals2 r;cases ru;cases rv;obtain⟨is1,r1,t1,-⟩:=I.tuple ha;obtain⟨is2,r2,t2,-⟩:=I.tuple hb;have la:a<s.heap.objs.size:=by obtain⟨o,e,_⟩:=t1;exact zAT e
 have lb:b<s.heap.objs.size:=by obtain⟨o,e,_⟩:=t2;exact zAT e
 have hT:(s.heap.push {cls:=.type "tuple",data:=.seq #[.ref a,.ref b]}).IsTuple s.heap.objs.size #[.ref a,.ref b]:=⟨_,zAS _ rfl,rfl,0,rfl⟩;have hsz:(s.heap.push {cls:=.type "tuple",data:=.seq #[.ref a,.ref b]}).objs.size=s.heap.objs.size+1:=zBN ..;have mem:∀x∈pO #[zAx a,.ref b],x=a\/x=b:=λ x hx=>by simpa[pO]using hx
 refine aD6 (zGG hT ⟨_,_,_,_,_,_,_,rfl,aNP (nss:=λ i=>if i=0 then ns else ms) (zJ4 (A:=X.A.in1) (I.ok.hd hc) _ s.heap.objs.size (by rw[hsz];exact zA6 (zBy _)) #[.ref a,.ref b]) ?_,⟨⟨⟨_,zAS _ rfl,rfl,rfl⟩,hT.push _⟩,?_⟩,?_,by simp,aFg hu,?_⟩)
 .intro x hx hw
  rw[zA2,hsz]at hw
  have:x<s.heap.objs.size:=by rcases mem x hx with rfl|rfl<;>assumption
  exact absurd (hw▸this) (zEW.mpr (zDG _))
 .intro i v e
  have up:∀{x its},IsTup s.heap x its->IsTup ((s.heap.push {cls:=.type "tuple",data:=.seq #[.ref a,.ref b]}).push {cls:=.type "tuple_iterator",data:=.fields #[.ref s.heap.objs.size,.int 0 0]}) x its:=λ⟨o,e,z⟩=>⟨o,zAC _ (zAC _ e),z⟩
  match i,e with
  |0,e=>cases e;exact⟨a,_,rfl,up t1,intsAre_of r1⟩
  |1,e=>cases e;exact⟨b,_,rfl,up t2,intsAre_of r2⟩
  |k+2,e=>simp at e
 .intro x hx
  show x<((s.heap.push _).push _).objs.size;rw[zBN,hsz];rcases zAh.mp hx with hx|hx
  .simp only[zAP,zCR,or_false,hsz]at hx
   rcases hx with rfl|rfl
   .exact zBy _
   .exact zCI (zBy _)
  .have:x<s.heap.objs.size:=by rcases mem x hx with rfl|rfl<;>assumption
   exact zCI (zCI this)
 .intro v h' tk pv k
  refine⟨.ref (if HT.lexLt ms ns then b else a),H,I.kept λ c o e=>k c o (λ hm=>?_) (zAC _ (zAC _ e)),?_,q⟩
  .have:=zAT e
   rw[zA2,hsz]at hm;exact absurd (hm▸this) (zEW.mpr (zDG _))
  .have e2:zFn (λ i j=>HT.lexLt (if i=0 then ns else ms) (if j=0 then ns else ms)) ((#[zAx a,.ref b]).size-1)=if HT.lexLt ms ns then 1 else 0:=by simp[zFn]
   rw[e2]at pv;cases hl:HT.lexLt ms ns<;>rw[hl]at pv<;>cases pv<;>rfl
def mj:List D->Rs D
 |[.tup l,.tup m]=>match intsOf l,intsOf m with
  |some ns,some ms=>.ok (if HT.lexLt ms ns=true then .tup m else .tup l)
  |_,_=>.st
 |_=>.st
def aIO{K:zAA}:rG K (λ xs H Q=>∃a b ns ms,xs=[.ref a,.ref b]/\SqT K H a (ns.map V.int)/\SqT K H b (ms.map V.int)/\Q (.ref (if HT.lexLt ms ns then b else a)) H) mj:=by
 intro A xs ds H Q z r ez q;unfold mj at ez;split at ez
 .split at ez
  .rename_i l m _ _ ns ms e1 e2
   cases ez;cases r with
   |cons h r=>
    cases r with
    |cons h' r=>
     cases r;have k1:=h;have k2:=h';obtain⟨a,ys,rfl,sa,ra⟩:=h.tup_inv;obtain⟨b,zs,rfl,sb,rb⟩:=h'.tup_inv
     have:=cI e1
     subst this
     have:=cI e2
     subst this
     have:=ra.ints_of
     subst this
     have:=rb.ints_of
     subst this;refine⟨a,b,ns,ms,rfl,sa,sb,q _ H (aO.refl H) ?_⟩;cases HT.lexLt ms ns
     .exact k1.wk λ _ _ _ z=>.inr z
     .exact k2.wk λ _ _ _ z=>.inr z
  .cases ez
 .cases ez
def aF9(ns:List Int):eF (ns.map .int)=true:=by
 induction ns with
 |nil=>rfl
 |cons a l ih=>simp[eF,imm,ih]
def aHk:∀x z,mj x= .ok z->imm z=true:=by
 intro x z e;unfold mj at e;split at e
 .split at e
  .rename_i l m _ _ ns ms e1 e2
   cases e;rw[cI e1,cI e2];split<;>exact aF9 _
  .cases e
 .cases e
section
variable{C:Ct}{pos p:Pos}{a b:Expr}{ga:En->Rs (List D)}{m:Mode}
def aG1(hm:C.mg "min"=none)(ha:SA C m [a,b] ga)(he:∀i,zA5 [a,b] (C.X i).env=(false,eval a (C.X i).env)::zA5 [b] (C.X i).env:=by intro _;rfl)
  (hpl:∀i,(zCg pos (zA5 [b] (C.X i).env)).any (·.1)=false:=by intro _;rfl)(hg:∀i,Gl (C.X i) "min":=by intro _;rfl)(hv:zBC "min"=some (.builtin "min"):=by decide+kernel):SE C (some []) (.Call (.Name "min" p) [a,b] [] pos) (opA mj ga):=
 dR (mR (λ i=>by have h:=aD5 (X:=C.X i) (aNy (C.room i)) (C.calm i);rw[C.hK i]at h;exact h) aIO hg hm hv ha (by decide) (by decide) he hpl) λ _ _ h=>oJ aHk h
end
def aFo{X:Cx}:cg X (.type "int") (λ xs H Q=>∃b,xs=[.bl b]/\Q (.int (if b=true then 1 else 0)) H):=by
 intro kX s Z H xs us Q I r h;obtain⟨b,rfl,q⟩:=h;obtain⟨u,rfl,r1⟩:=vals1 r;cases r1;exact call_int_bool ⟨.int _,H,I.tok _,⟨_,rfl⟩,q⟩
def mz:List D->Rs D
 |[.bl b]=>.ok (.int (if b=true then 1 else 0))
 |_=>.st
def aKQ{K:zAA}:rG K (λ xs H Q=>∃b,xs=[.bl b]/\Q (.int (if b=true then 1 else 0)) H) mz:=by
 intro A xs ds H Q z r ez q;unfold mz at ez;split at ez
 .cases ez
  cases r with
  |cons h' r=>cases h';cases r;exact⟨_,rfl,q _ H (aO.refl H) (.int _)⟩
 .cases ez
def aHm:∀x z,mz x= .ok z->imm z=true:=by
 intro x z e;unfold mz at e;split at e
 .cases e;rfl
 .cases e
section
variable{C:Ct}{pos p:Pos}{m:Mode}{a:Expr}{ga:En->Rs (List D)}
def aIt(hm:C.mg "int"=none)(ha:SA C m [a] ga)(he:∀i,zA5 [a] (C.X i).env=[(false,eval a (C.X i).env)]:=by intro _;rfl)(hg:∀i,Gl (C.X i) "int":=by intro _;rfl)(hv:zBC "int"=some (.type "int"):=by decide+kernel):SE C (some []) (.Call (.Name "int" p) [a] [] pos) (opA mz ga):=
 dR (aAz (λ i=>aFo) aKQ hg hm hv ha (by decide) (by decide) he) λ _ _ h=>oJ aHm h
end
end VL
namespace PySem
open Sem(wp)
section
variable{prog:zA3}{w:World}
inductive aAh{K:Type}[DecidableEq K](knd:KeyKind prog w K)(h:Heap):List Value->List (K×Value)->Prop where
 |nil:aAh knd h [] []
 |cons {x:Addr} {o:Obj} {n:Nat} {kv v:Value} {k:K} {us:List Value} {ps:List (K×Value)} (ho:h.get? x=some o) (hc:o.cls= .type "tuple") (hd:o.data= .seq #[kv,v] n) (hk:knd.is k kv=true) (r:aAh knd h us ps):aAh knd h (.ref x::us) ((k,v)::ps)
end
end PySem
namespace VL
open PySem PySem.Spec PyProof.Rows L2
section
variable{K:Type}[DecidableEq K]
end
end VL
namespace L2
open PySem PySem.Spec PyProof.Rows
def zE:Value->Bool
 | .bool b=>b
 |_=>false
theorem zP:∀{bs:List Bool} {us:List Value},Vals (bs.map V.bl) us->us=bs.map zCn
 |[],_,.nil=>rfl
 |b::bs,_,.cons h t=>by rw[zP t];cases h;rfl
def aE6{A:zAc}{s:zAE}{bs:List Bool}:∀y∈bs.map zCn,zCm A s y (.bool true) (zE y):=λ y hy=>by
 obtain⟨b,_,rfl⟩:=zA0.mp hy
 have:=zGU (A:=A) (s:=s) b true
 cases b<;>exact this
def aJE:V->List V->Hp->VK->Prop:=λ x xs H Q=>∃(a:Addr) (bs:List Bool),x= .ref a/\xs=[.bl true]/\H a=some (.lst (bs.map V.bl))/\Q (.int (bs.count true:Nat)) H
def aJC:V->List V->Hp->VK->Prop:=λ x xs H Q=>∃(a:Addr) (bs:List Bool) (j:Nat),x= .ref a/\xs=[.bl true]/\H a=some (.lst (bs.map V.bl))/\bs[j]? =some true/\(∀m,m<j->bs[m]? =some false)/\Q (.int (j:Nat)) H
section
variable{X:Cx}
def aFU:MtR X "list.count" aJE:=by
 intro kX s Z H x xs v us Q I rx rxs h;obtain⟨a,bs,rfl,rfl,ha,q⟩:=h;cases rx;obtain⟨u,rfl,ru⟩:=vals1 rxs;cases ru;obtain⟨_,its,n,rv,e⟩:=I.hok a _ ha;have ei:=zP rv;subst ei;refine zCk zGR ⟨_,e,rfl⟩ PySem.F.entry_list_count (PySem.F.args_list_count_2 _ _) (SeqAt.list_countAt a _ n none #[] (.bool true) zE) ⟨e,λ y hy=>aE6 y (by simpa using hy),?_⟩
 have:(bs.map zCn).countP zE=bs.count true:=by
  rw[List.countP_map];unfold List.count;congr 1;funext b;cases b<;>rfl
 rw[show(bs.map zCn).toArray.toList=bs.map zCn from rfl,this];exact⟨.int _,H,I.tok _,⟨_,rfl⟩,q⟩
def aFS:MtR X "list.index" aJC:=by
 intro kX s Z H x xs v us Q I rx rxs h;obtain⟨a,bs,j,rfl,rfl,ha,hj,hm,q⟩:=h;cases rx;obtain⟨u,rfl,ru⟩:=vals1 rxs;cases ru;obtain⟨hz,its,n,rv,e⟩:=I.hok a _ ha;have ei:=zP rv;subst ei;rw[zAD]at hz;have hl:=(zAK.mp hj).1;have h62:zAY<2^62:=by decide
 refine zCk zGS ⟨_,e,rfl⟩ PySem.F.entry_list_index (PySem.F.args_list_index_2 _ _) (SeqAt.list_indexAt a _ n none #[] (.bool true) zE j (by simpa using hl) (by lia) ?_ λ m hm1 hmj=>?_) ⟨e,λ y hy=>aE6 y (by simpa using hy),⟨.int _,H,I.tok _,⟨_,rfl⟩,q⟩⟩
 .rw[zAH hl]at hj
  simpa[zE]using hj
 .have h2:=hm m hmj
  rw[zAH (by lia)]at h2;simpa[zE]using h2
end
section
variable{X:Cx}{n0 n1 n2 odd:Str}{c1 c2:V}{k1 k2 k3 k4:List V}{l1 l2:List Str}{a1 a2:Expr}{as1 as2 e1 e2 e3 e4 w1 w2:List Expr}{kw1 kw2:List zDF}{Q:VK}{H:Hp}{vs:List V}
 {p1 p2 p3 p4 p5 p6 p7 p8 p9 p10 p11 p12 p13 p14 p15 p16 p17 p18 p19 p20 p21 p22 p23 p24 p25 p26 p27 p28 p29 p30 p31 p32 p33 p34 p35 p36 p37 p38 p39 p40:Pos}{q1 q2 q3 q4 q5 q6 q7:Pos}{j1 j2 j3 j4 j5:Nat}{E0:XK}{wd:Addr->Option Str}
end
section
variable{P:zA3}{w:World}{K:zAA}{mg:Str->Option Value}{base:Heap}{x q n0 n1 n2 odd:Str}{st:Stmt}{f:Addr}{fd:zAq}{k:Nat}{wd:Addr->Option Str}{c1 c2:V}{k1 k2 k3 k4:List V}{l1 l2:List Str}{a1 a2:Expr}{as1 as2 e1 e2 e3 e4 w1 w2:List Expr}{kw1 kw2:List zDF}
 {p1 p2 p3 p4 p5 p6 p7 p8 p9 p10 p11 p12 p13 p14 p15 p16 p17 p18 p19 p20 p21 p22 p23 p24 p25 p26 p27 p28 p29 p30 p31 p32 p33 p34 p35 p36 p37 p38 p39 p40:Pos}{q1 q2 q3 q4 q5 q6 q7:Pos}{j1 j2 j3 j4 j5:Nat}
end
section
variable{X:Cx}{n0 n1 n2 odd:Str}{c1 c2:V}{k1 k2 k3 k4:List V}{l1 l2:List Str}{a1 a2:Expr}{as1 as2 e1 e2 e3 e4 w1 w2:List Expr}{kw1 kw2:List zDF}{Q:VK}{H:Hp}{vs:List V}
 {p1 p2 p3 p4 p5 p6 p7 p8 p9 p10 p11 p12 p13 p14 p15 p16 p17 p18 p19 p20 p21 p22 p23 p24 p25 p26 p27 p28 p29 p30 p31 p32 p33 p34 p35 p36 p37 p38 p39 p40:Pos}{q1 q2 q3 q4 q5 q6 q7:Pos}{j1 j2 j3 j4 j5:Nat}{E0:XK}{wd:Addr->Option Str}
def aBy(hN:X.N=[n0,n1,n2])(nd:X.N.Nodup)(m0:X.env.scope.names.lookup n0=some .local)(m1:X.env.scope.names.lookup n1=some .local)(m2:X.env.scope.names.lookup n2=some .local)
  (h1:PE X (.Call a1 as1 kw1 p1) (aC0 X.K c1))(h2:PE X (.Call a2 as2 kw2 p2) (aC0 X.K c2))(g1:PA X e1 (lX X.K k1))(g2:PA X e2 (lX X.K k2))(g3:PA X e3 (lX X.K k3))(g4:PA X e4 (lX X.K k4))(g5:PA X w1 (yO l1))(g6:PA X w2 (yO l2))
  (hl1:(p20.endLine==p21.line)=true)(hl2:(p30.endLine==p31.line)=true)(hz:(l1++l2).length<=100)(h:spW wd vs H Q E0)(hw:∀C w,wd C=some w->Wd X.K c1 c2 [k1,k2,k3,k4] (l1++l2) C w)
  (d0:Nd n0:=by decide)(d1:Nd n1:=by decide)(d2:Nd n2:=by decide)
  (f0:(n0==("__classdict__":Str))=false:=by decide)(f1:(n1==("__classdict__":Str))=false:=by decide)(f2:(n2==("__classdict__":Str))=false:=by decide):
  ∃t,PSs X [.If (.BoolOp .Or [.UnaryOp .Not (.Call a1 as1 kw1 p1) p3,.UnaryOp .Not (.Call a2 as2 kw2 p2) p4] p5) [.Return (some (.Constant (.str odd) j1 p6)) p7] [] p8,
   .Assign [.Name n1 p9] (.List e1 p10) p11,.Assign [.Name n1 p12] (.BinOp (.Name n1 p13) .Add (.List e2 p14) p15) p16,.Assign [.Name n1 p17] (.BinOp (.Name n1 p18) .Add (.List e3 p19) p22) p23,.Assign [.Name n1 p24] (.BinOp (.Name n1 p25) .Add (.List e4 p26) p27) p28,
   .If (.Compare (.Call (.Attribute (.Name n1 p29) "count" p20) [.Constant (.bool true) j2 p32] [] p21) [.NotEq] [.Constant (.int 1) j3 p33] p34) [.Return (some (.Constant (.str odd) j4 p35)) p36] [] p37,
   .Assign [.Name n2 p38] (.List w1 p39) p40,.Return (some (.Subscript (.BinOp (.Name n2 q1) .Add (.List w2 q2) q3) (.Call (.Attribute (.Name n1 q4) "index" p30) [.Constant (.bool true) j5 q5] [] p31) q6)) q7] t/\
   t {nx:=λ _ H'=>Q .non H',rt:=Q} (start X.N vs) H:=by
 obtain⟨ea,C,w,rfl,hH,hwd,hq⟩:=h;obtain⟨hk,hq1,hq2,b1,b2,b3,b4,j,k1',k2',k3',k4',ek,r1,r2,r3,r4,kK,hcnt,hj,hjm,hjw⟩:=hw C w hwd;cases ek;have i0:X.N[0]? =some n0:=by rw[hN];rfl
 have i1:X.N[1]? =some n1:=by rw[hN];rfl
 have i2:X.N[2]? =some n2:=by rw[hN];rfl
 have v1:∀{pos:Pos},PE X (.Name n1 pos) (jh 1):=λ{pos}=>dW i1 (.inl m1) d1 f1
 have cat:∀{pp pq pr:Pos} {es:List Expr} {ks:List V},PA X es (lX X.K ks)->PE X (.BinOp (.Name n1 pp) .Add (.List es pq) pr) (tOp aGl (jh 1) (aGH (lX X.K ks))):=λ g=>aHC aAE v1 (lM g)
 refine⟨_,dU (aDz (aKr (aCq (aGp h1)) (aGn (aCq (aGp h2)))).pt (jR (v9 eU)) uh)
  (dU (lK nd i1 (.inl m1) (lM g1) (hf:=.inr m1)) (dU (lK nd i1 (.inl m1) (cat g2) (hf:=.inr m1)) (dU (lK nd i1 (.inl m1) (cat g3) (hf:=.inr m1)) (dU (lK nd i1 (.inl m1) (cat g4) (hf:=.inr m1))
  (dU (aDz (aLj (aLx (yV zBz zGR PySem.F.type_list_count aFU v1 (aV aHI cH) (hline:=hl1)) aCs)) (jR (v9 eU)) uh)
  (dU (lK nd i2 (.inl m2) (lM g5) (hf:=.inr m2)) (jR (v9 (aHD aAT (aHC aAE (dW i2 (.inl m2) d2 f2) (lM g6)) (yV zBz zGS PySem.F.type_list_index aFS v1 (aV aHI cH) (hline:=hl2)) λ _ _=>rfl))))))))),?_⟩
 have hs:start X.N [.ref ea]=[some (.ref ea),none,none]:=by rw[hN];rfl
 rw[hs];have sz:∀{n:Nat},n<=100->n<=zAY:=λ h=>zAi h (by decide)
 simp only[zAZ]at kK hz;refine zV (ea:=ea) rfl hH hk hq1 ⟨true,rfl,zV (ea:=ea) rfl hH hk hq2 ⟨true,rfl,?_⟩⟩;refine mF (ea:=ea) rfl hH hk r1 ⟨sz (by rw[zAD];omega),λ a1 H1 s1 ha1 _=>?_⟩;refine⟨.ref a1,rfl,mF (ea:=ea) rfl (s1 _ _ hH) hk r2 ⟨sz (by rw[zAD];omega),λ x2 G2 t2 hx2 _=>⟨a1,x2,_,_,rfl,rfl,t2 _ _ ha1,hx2,sz (by simp only[zAD];omega),λ a2 H2 s2 ha2 _=>?_⟩⟩⟩;have hH2:=s2 _ _ (t2 _ _ (s1 _ _ hH));refine⟨.ref a2,rfl,mF (ea:=ea) rfl hH2 hk r3 ⟨sz (by rw[zAD];omega),λ x3 G3 t3 hx3 _=>⟨a2,x3,_,_,rfl,rfl,t3 _ _ ha2,hx3,sz (by simp only[zAD,zAZ];omega),λ a3 H3 s3 ha3 _=>?_⟩⟩⟩;have hH3:=s3 _ _ (t3 _ _ hH2);refine⟨.ref a3,rfl,mF (ea:=ea) rfl hH3 hk r4 ⟨sz (by rw[zAD];omega),λ x4 G4 t4 hx4 _=>⟨a3,x4,_,_,rfl,rfl,t4 _ _ ha3,hx4,sz (by simp only[zAD,zAZ];omega),λ a4 H4 s4 ha4 _=>?_⟩⟩⟩;rw[<-zAk,<-zAk,<-zAk]at ha4;generalize hbs:b1++b2++b3++b4=bs at hcnt hj hjm ha4;refine⟨.ref a4,rfl,.inl ⟨rfl,_,.inl (.inl ha4)⟩,a4,bs,rfl,rfl,ha4,1,1,by rw[hcnt];rfl,rfl,false,rfl,?_⟩;refine vH ⟨sz (by rw[zAD];omega),λ a5 H5 s5 ha5 _=>?_⟩;refine⟨.ref a5,rfl,vH ⟨sz (by rw[zAD];omega),λ x6 G6 t6 hx6 _=>⟨a5,x6,_,_,rfl,rfl,t6 _ _ ha5,hx6,sz (by simp only[zAD];omega),λ a7 H7 s7 ha7 _=>?_⟩⟩⟩;have ha4':=s7 _ _ (t6 _ _ (s5 _ _ ha4));refine⟨.ref a4,rfl,.inl ⟨rfl,_,.inl (.inl ha4')⟩,a4,bs,j,rfl,rfl,ha4',hj,hjm,a7,_,_,.str w,rfl,rfl,.inl (.inl ha7),?_,?_⟩
 .rw[<-zAk]
  have hjl:j<(l1++l2).length:=(zAK.mp hjw).1;unfold atI ixN;rw[if_pos (zII j),zAD,if_pos (by omega),zFg]
  show((l1++l2).map V.str)[j]? =_
  rw[zAW,hjw];rfl
 .exact hq _ λ b o e=>s7 _ _ (t6 _ _ (s5 _ _ (s4 _ _ (t4 _ _ (s3 _ _ (t3 _ _ (s2 _ _ (t2 _ _ (s1 _ _ e)))))))))
end
section
variable{P:zA3}{w:World}{K:zAA}{mg:Str->Option Value}{base:Heap}{x q n0 n1 n2 odd:Str}{st:Stmt}{f:Addr}{fd:zAq}{k:Nat}{wd:Addr->Option Str}{c1 c2:V}{k1 k2 k3 k4:List V}{l1 l2:List Str}{a1 a2:Expr}{as1 as2 e1 e2 e3 e4 w1 w2:List Expr}{kw1 kw2:List zDF}
 {p1 p2 p3 p4 p5 p6 p7 p8 p9 p10 p11 p12 p13 p14 p15 p16 p17 p18 p19 p20 p21 p22 p23 p24 p25 p26 p27 p28 p29 p30 p31 p32 p33 p34 p35 p36 p37 p38 p39 p40:Pos}{q1 q2 q3 q4 q5 q6 q7:Pos}{j1 j2 j3 j4 j5:Nat}
def aFh(F:Fun K x q st f fd)(S:aY [n0,n1,n2] [n0] (aF st))
  (hst:cX st=[.If (.BoolOp .Or [.UnaryOp .Not (.Call a1 as1 kw1 p1) p3,.UnaryOp .Not (.Call a2 as2 kw2 p2) p4] p5) [.Return (some (.Constant (.str odd) j1 p6)) p7] [] p8,
   .Assign [.Name n1 p9] (.List e1 p10) p11,.Assign [.Name n1 p12] (.BinOp (.Name n1 p13) .Add (.List e2 p14) p15) p16,.Assign [.Name n1 p17] (.BinOp (.Name n1 p18) .Add (.List e3 p19) p22) p23,.Assign [.Name n1 p24] (.BinOp (.Name n1 p25) .Add (.List e4 p26) p27) p28,
   .If (.Compare (.Call (.Attribute (.Name n1 p29) "count" p20) [.Constant (.bool true) j2 p32] [] p21) [.NotEq] [.Constant (.int 1) j3 p33] p34) [.Return (some (.Constant (.str odd) j4 p35)) p36] [] p37,
   .Assign [.Name n2 p38] (.List w1 p39) p40,.Return (some (.Subscript (.BinOp (.Name n2 q1) .Add (.List w2 q2) q3) (.Call (.Attribute (.Name n1 q4) "index" p30) [.Constant (.bool true) j5 q5] [] p31) q6)) q7])
  (m0:(aF st).names.lookup n0=some .local)(m1:(aF st).names.lookup n1=some .local)(m2:(aF st).names.lookup n2=some .local)
  (h:∀(cdv:Value) (A:zAc) (outer:List Env) (s:zAE) (H:Hp),PE (cxH P w K mg base [n0,n1,n2] q (aF st) f cdv A outer s H) (.Call a1 as1 kw1 p1) (aC0 K c1)/\PE (cxH P w K mg base [n0,n1,n2] q (aF st) f cdv A outer s H) (.Call a2 as2 kw2 p2) (aC0 K c2)/\
   PA (cxH P w K mg base [n0,n1,n2] q (aF st) f cdv A outer s H) e1 (lX K k1)/\PA (cxH P w K mg base [n0,n1,n2] q (aF st) f cdv A outer s H) e2 (lX K k2)/\PA (cxH P w K mg base [n0,n1,n2] q (aF st) f cdv A outer s H) e3 (lX K k3)/\
   PA (cxH P w K mg base [n0,n1,n2] q (aF st) f cdv A outer s H) e4 (lX K k4)/\PA (cxH P w K mg base [n0,n1,n2] q (aF st) f cdv A outer s H) w1 (yO l1)/\PA (cxH P w K mg base [n0,n1,n2] q (aF st) f cdv A outer s H) w2 (yO l2))
  (hl1:(p20.endLine==p21.line)=true)(hl2:(p30.endLine==p31.line)=true)(hz:(l1++l2).length<=100)(hw:∀C w,wd C=some w->Wd K c1 c2 [k1,k2,k3,k4] (l1++l2) C w)
  (d0:Nd n0:=by decide)(d1:Nd n1:=by decide)(d2:Nd n2:=by decide)
  (f0:(n0==("__classdict__":Str))=false:=by decide)(f1:(n1==("__classdict__":Str))=false:=by decide)(f2:(n2==("__classdict__":Str))=false:=by decide):
  FnH P w K mg base 1 f fd [n0] (spW wd):=by
 refine F.okH (k:=0) S (λ vs H Q E ⟨_,_,_,e,_⟩=>by rw[e];rfl) λ cdv A outer s H vs Q E hr hsp=>?_
 obtain⟨g1,g2,g3,g4,g5,g6,g7,g8⟩:=h cdv A outer s H;rw[hst];exact aBy (X:=cxH P w K mg base [n0,n1,n2] q (aF st) f cdv A outer s H) rfl S.nd m0 m1 m2 g1 g2 g3 g4 g5 g6 g7 g8 hl1 hl2 hz hsp hw d0 d1 d2 f0 f1 f2
end
end L2
namespace VL
open PySem PySem.Spec PyProof.Rows L2
def dnr{K:zAA}{h:Heap}{mg:Str->Option Value}{x:Str}{st:Stmt}(X:K.In h)(G:h.Ns zA9 mg)(e:∃f d,Enr K x st f d)(ps:List Str)
  (hb:∀(kV doc pm:Value) (an:Option Addr) (cdv ct:Value) (us:List Value),us.length=ps.length->zJJ (zBq x x (lO st) (cX st) (aF st) .none kV doc pm an cdv ct) ⟨us,[]⟩=pure (ps.zip us):=by
   intro _ _ _ _ _ _ us hl;repeat' first|rfl|(simp at hl;done)|rcases us with _|⟨_,us⟩):∃f d,Dnr K mg x st ps f d/\zAf K zA9 x=some (some (.ref f)):=by
 obtain⟨f,d,F,a⟩:=e;exact⟨f,d,⟨F,zAe X G a,F.binds hb⟩,a⟩
end VL
namespace L2
open PySem PySem.Spec PyProof.Rows
end L2
namespace VL
open PySem PySem.Spec PyProof.Rows L2
section
variable{C:Ct}{pos pos' spos:Pos}{x:Str}{i:Nat}{elt tg iter tg2 iter2:Expr}{ifs ifs2:List Expr}{sc:Scope}{N:List Str}{js:kQ}{ks ks2:List Nat}{fi fi2:En->Rs (List D)}{fg fg2:D->En->Rs En}{ft ft2:En->Rs Bool}{fe:En->Rs D}
def aN1(hi:SI C tg iter fi)(hg:SG (C.blk sc N) tg ks fg)(ht:aCP (C.blk sc N) ifs ft)(hi2:SI (C.blk sc N) tg2 iter2 fi2)(hg2:SG (C.blk sc N) tg2 ks2 fg2)(ht2:aCP (C.blk sc N) ifs2 ft2)(he:SE (C.blk sc N) (some []) elt fe)
  (hN:∀j,(C.X j).N[i]? =some x:=by intro _;rfl)(hx:∀j,Loc (C.X j).env.scope x:=by intro _;first|exact zCV rfl|exact zBc rfl)(hsw:∀j,zCh (.ListComp elt [⟨tg,iter,ifs,0⟩,⟨tg2,iter2,ifs2,0⟩] sc pos) (some (.Name x pos')) spos.line (C.X j).env=pure true:=by intro _;rfl)
  (hk:∀k∈ks2,k∉ks/\(js[k]?).join=none:=by decide)(hs:∀i x,zAz iter (C.X i).env x=pure x:=by intro _ _;rfl)(hs2:∀(i:(C.blk sc N).ι) x,zAz iter2 ((C.blk sc N).X i).env x=pure x:=by intro _ _;rfl)(hB:∀i,cj (C.X i) sc N (stV js) (ks++ks2):=by intro _;exact xR rfl rfl rfl rfl rfl rfl)
  (hf:∀j,(C.X j).fn x=true\/(C.X j).env.scope.names.lookup x=some .local:=by intro _;first|exact .inl rfl|exact .inr rfl)(nd:∀j,(C.X j).N.Nodup:=by intro _;assumption):
  SV C i (.Assign [.Name x pos'] (.ListComp elt [⟨tg,iter,ifs,0⟩,⟨tg2,iter2,ifs2,0⟩] sc pos) spos) (some []) (aDK fi js fg ft (inL fi2 fg2 ft2 fe)):=by
 obtain⟨wi,i1,i2⟩:=hi;obtain⟨g,g1,g2,g3,g4⟩:=hg;obtain⟨tt,t1,t2⟩:=ht;obtain⟨wi2,j1,j2⟩:=hi2;obtain⟨gg,h1,h2,h3,h4⟩:=hg2;obtain⟨tt2,u1,u2⟩:=ht2;obtain⟨te,e1,e2⟩:=he;have go1:j0 g (ks++ks2):=λ v Z H Q q=>g4 _ _ _ _ _ (λ Z' H' ⟨a,b,c⟩=>⟨a,b,λ k hk=>c k λ z=>hk (zA1 _ z)⟩) (g3 v Z H Q q)
 refine⟨_,λ j=>aGt (pos:=pos) (nd j) (hN j) (hx j) (hB j) (C.calm j) (i1 j) (λ c fp z5 zI=>g1 (j,c,fp,z5,zI)) go1 (λ c fp z5 zI=>t1 (j,c,fp,z5,zI)) (aAm elt tg iter tg2 iter2 ifs ifs2 sc pos) (qM rfl (λ _ _ _ _=>rfl) λ _ _ _ _ _=>rfl) aEi ?_ (hsw j) rfl (λ _=>rfl) (hs j) (hf j),aGT i2 g2 g3 g4 hk t2 j2 h2 u2 e2⟩;intro c fp z5 zI;exact aEE (C.calm j) (λ _ _ h=>h) (aAl elt tg iter tg2 iter2 ifs ifs2 sc pos) (qM rfl (λ _ _ _ _=>rfl) λ _ _ _ _ _=>rfl) (j1 (j,c,fp,z5,zI)) (h1 (j,c,fp,z5,zI)) h3 (u1 (j,c,fp,z5,zI)) (aHJ (e1 (j,c,fp,z5,zI))) (hs2 (j,c,fp,z5,zI))
end
def aOc(A:zAc)(s:zAE)(v u:Value)(b:Bool):Prop:=∀(prog:zA3) (w:World) (E:Value->zAE->Prop) (Q:Value->zAE->Prop),Q (.bool b) s->wpAny (model prog w) A (zEv .Gt v u) Q E s
inductive aFv(A:zAc)(s:zAE):List Value->List Value->Bool->Prop
 |nn:aFv A s [] [] false
 |nc:aFv A s [] (v::vs) false
 |cn:aFv A s (v::vs) [] true
 |eq:zCm A s v u true->aFv A s vs us b->aFv A s (v::vs) (u::us) b
 |un:zCm A s v u false->aOc A s v u b->aFv A s (v::vs) (u::us) b
section
open PySem.SeqAt
open PySem.AutoSeq1(wpAny_loadPart')
open PySem.MeetsSeq PySem.MeetsSeq2 PySem.MeetsSeq3
end
section
theorem aLB:∀{l:List D} {d:D},eF l=true->d∈l->imm d=true
 |_::_,d,h,hm=>by
  simp only[eF,zAL]at h;rcases zAP.mp hm with rfl|hm
  .exact h.1
  .exact aLB h.2 hm
structure Cmp(f:D->D->Option Bool)(l:List D):Prop where
 n0:0<l.length
 im:eF l=true
 nd:bH l=true
 dp:gA l<=40
 cm:∀x∈l,∀y∈l,(f x y).isSome=true
instance:Decidable (Cmp f l):=if h:0<l.length/\eF l=true/\bH l=true/\gA l<=40/\∀x∈l,∀y∈l,(f x y).isSome=true then .isTrue ⟨h.1,h.2.1,h.2.2.1,h.2.2.2.1,h.2.2.2.2⟩else .isFalse λ z=>h ⟨z.n0,z.im,z.nd,z.dp,z.cm⟩
end
def aOb(A:zAc)(s:zAE)(v u:Value)(b:Bool):Prop:=∀(prog:zA3) (w:World) (E:Value->zAE->Prop) (Q:Value->zAE->Prop),Q (.bool b) s->wpAny (model prog w) A (zEv .Lt v u) Q E s
inductive aFu(A:zAc)(s:zAE):List Value->List Value->Bool->Prop
 |nn:aFu A s [] [] false
 |nc:aFu A s [] (v::vs) true
 |cn:aFu A s (v::vs) [] false
 |eq:zCm A s v u true->aFu A s vs us b->aFu A s (v::vs) (u::us) b
 |un:zCm A s v u false->aOb A s v u b->aFu A s (v::vs) (u::us) b
section
open PySem.SeqAt
open PySem.AutoSeq1(wpAny_loadPart')
open PySem.MeetsSeq PySem.MeetsSeq2 PySem.MeetsSeq3
end
def aKK(i k:Nat):En->Ou:=λ Y=>match Y[i]?,Y[k]? with
 |some (.ow (.lst ds)),some (.ow (.lst es))=>if ds.length+es.length<=zAY/\eF es=true then .nx (Y.set i (.ow (.lst (ds++es))))else .st
 |_,_=>.st
section
variable{C:Ct}{pos apos cpos p p':Pos}{i k:Nat}{x y:Str}
def aC4(i k:Nat)(hN:∀j,(C.X j).N[i]? =some x:=by intro _;rfl)(hv:∀j,Vis (C.X j).env.scope x:=by intro _;first|exact zCV rfl|exact zBc (zCV rfl)|exact zBc (zBc rfl))(hd:Nd x:=by decide)
  (hcd:(x==("__classdict__":Str))=false:=by decide)(hN':∀j,(C.X j).N[k]? =some y:=by intro _;rfl)(hv':∀j,Vis (C.X j).env.scope y:=by intro _;first|exact zCV rfl|exact zBc (zCV rfl)|exact zBc (zBc rfl))(hd':Nd y:=by decide)
  (hcd':(y==("__classdict__":Str))=false:=by decide)(hs1:∀j,zA5 [.Name y p'] (C.X j).env=[(false,eval (.Name y p') (C.X j).env)]:=by intro _;rfl)
  (hbase:∀j,zD6 (.Name x p) "extend" (C.X j).env (eval (.Name x p) (C.X j).env)=eval (.Name x p) (C.X j).env:=by intro _;rfl)
  (hfew:∀j,((zCg cpos (zA5 [.Name y p'] (C.X j).env)).all (λ x=>!x.1)&&(zGE cpos (zEL [] (C.X j).env)).all (λ x=>x.1.isSome)&&decide ([Expr.Name y p'].length+([]:List zDF).length+(if ([]:List zDF).isEmpty then 0 else 1)<30))=true:=by intro _;rfl)
  (hline:(apos.endLine==cpos.line)=true:=by rfl)
  (hsw:∀j,zCh (.Call (.Attribute (.Name x p) "extend" apos) [.Name y p'] [] cpos) none pos.line (C.X j).env=pure false:=by intro _;rfl):
  SS C (.Expr (.Call (.Attribute (.Name x p) "extend" apos) [.Name y p'] [] cpos) pos) (aKK i k):=by
 refine⟨vI (tBM C.K "list" aBN (jh i) (fM (jh k) lq)),λ j=>n6 (by rw[<-C.hK j];exact yV zBz zHM PySem.F.type_list_extend aCz (dW (hN j) (hv j) hd hcd) (aV (dW (hN' j) (hv' j) hd' hcd') cH (hs1 j)) (hbase j) (hfew j) hline (hs1 j) rfl) (hsw j),λ U Z H Y lab De R W=>?_⟩;unfold aKK at W;split at W
 .rename_i ds es e1 e2
  by_cases hz:ds.length+es.length<=zAY/\eF es=true
  .rw[if_pos hz]at W
   rcases R.sl i _ e1 with z|⟨v,ev,hv1,htop⟩
   .cases z
   rcases R.sl k _ e2 with z|⟨v2,ev2,hv2,_⟩
   .cases z
   obtain⟨a0,ea0,la0⟩:=htop rfl;subst ea0;obtain⟨a1,xs,ea1,h,mm,r⟩:=hv1.lst_inv;cases ea1;obtain⟨b,zs,eb,hb,mb,rb⟩:=hv2.lst_inv;subst eb;refine⟨.ref a0,ev,.inl ⟨rfl,xs,SqL.of h⟩,.ref b,ev2,a0,b,xs,zs,rfl,rfl,h,hb,by rw[r.length,rb.length];exact hz.1,λ H3 B h3=>?_⟩;refine W Z H3 _ (R.mut ev h rfl la0 B ⟨.lst h3 (.inr la0) ?_,λ _=>⟨a0,rfl,la0⟩⟩);exact(r.append (rb.imm hz.2)).but B h rfl λ z=>z.2 rfl
  .rw[if_neg hz]at W
   exact zAN W
 .exact zAN W
end
mutual
def gn:D->D->Bool
 | .non,.non=>true
 | .bl a,.bl b=>a==b
 | .int a,.int b=>a==b
 | .tup l,.tup m=>fP l m
 |_,_=>false
def fP:List D->List D->Bool
 |[],[]=>true
 |x::xs,y::ys=>gn x y&&fP xs ys
 |_,_=>false
end
mutual
theorem aG3:∀(a b:D),gn a b=true->a=b
 | .non,b,h=>by cases b<;>simp[gn]at h;rfl
 | .bl a,b,h=>by cases b<;>simp[gn]at h;rw[h]
 | .int a,b,h=>by cases b<;>simp[gn]at h;rw[h]
 | .tup l,b,h=>by cases b<;>simp[gn]at h;rw[rW _ _ h]
 | .str _,b,h=>by simp[gn]at h
 | .lst _,b,h=>by simp[gn]at h
 | .dct _ _,b,h=>by simp[gn]at h
 | .set _,b,h=>by simp[gn]at h
 | .scr _,b,h=>by simp[gn]at h
 | .fn _,b,h=>by simp[gn]at h
theorem rW:∀(a b:List D),fP a b=true->a=b
 |[],b,h=>by cases b<;>simp[fP]at h;rfl
 |x::xs,b,h=>by
  cases b with
  |nil=>simp[fP]at h
  |cons y ys=>
   simp only[fP,zAL]at h;rw[aG3 _ _ h.1,rW _ _ h.2]
end
def WK(K:zAA)(G:Gx)(U:List (V×D))(k:Nat)(v0:V)(o:Ou)(De:Ends):Prop:=match o with
 | .nx Y=>∀Z H lab,RR K G U Y Z H lab->Z[k]? =some (some v0)->De.nx Z H
 | .bk Y=>∀Z H lab,RR K G U Y Z H lab->Z[k]? =some (some v0)->De.bk Z H
 | .ct Y=>∀Z H lab,RR K G U Y Z H lab->Z[k]? =some (some v0)->De.ct Z H
 | .rt d=>∀v H,aO G.H0 H->Rp K (λ p=>G.H0 p=none) H v d->De.rt v H
 | .ex c=>∀H',aO G.H0 H'->G.E (.ref (G.cl c)) none H'
 | .st=>False
theorem WK.bo{K:zAA}{G:Gx}{r:Rs α}{g:α->Ou}(h:WK K G U k v0 (r.bo g) De):WR G r (λ a=>WK K G U k v0 (g a) De):=by
 cases r with
 |ok a=>exact h
 |ex c=>exact h
 |st=>exact h
def aOJ(K:zAA)(G:Gx)(k:Nat)(t:TS)(f:En->Ou):Prop:=∀U Z H Y lab (De:Ends) (v0:V),RR K G U Y Z H lab->Z[k]? =some (some v0)->WK K G U k v0 (f Y) De->t De Z H
def SSk(C:Ct)(k:Nat)(s:Stmt)(f:En->Ou):Prop:=∃t,(∀i,PS (C.X i) s t)/\aOJ C.K C.G k t f
def aD9(C:Ct)(k:Nat)(s:List Stmt)(f:En->Ou):Prop:=∃t,(∀i,PSs (C.X i) s t)/\aOJ C.K C.G k t f
section
variable{C:Ct}{pos apos cpos p:Pos}{s:Stmt}{ss:List Stmt}{f g:En->Ou}{e a:Expr}{m:Mode}{fe:En->Rs D}{k i:Nat}{x:Str}
def aGO:aD9 C k [] .nx:=⟨_,λ _=>uh,λ U Z H Y lab De v0 R f0 W=>W Z H lab R f0⟩
def aAq(h:SSk C k s f):aD9 C k [s] f:=let⟨t,h1,h2⟩:=h;⟨t,λ i=>jR (h1 i),h2⟩
def nT(h:SSk C k s f)(kk:aD9 C k ss g):aD9 C k (s::ss) (aq f g):=by
 obtain⟨t,h1,h2⟩:=h;obtain⟨u,k1,k2⟩:=kk;refine⟨_,λ i=>dU (h1 i) (k1 i),λ U Z H Y lab De v0 R f0 W=>h2 U Z H Y lab _ v0 R f0 ?_⟩;unfold aq at W;cases h:f Y with
 |nx Y'=>rw[h]at W;exact λ Z' H' lab' R' f'=>k2 U Z' H' Y' lab' De v0 R' f' W
 |rt d=>rw[h]at W;exact W
 |bk Y'=>rw[h]at W;exact W
 |ct Y'=>rw[h]at W;exact W
 |ex c=>rw[h]at W;exact W
 |st=>rw[h]at W;exact W
def aLZ{a b:List Stmt}{c:Expr}{fc:En->Rs Bool}(hc:ST C c fc)(ha:aD9 C k a f)(hb:aD9 C k b g):SSk C k (.If c a b pos) (ifS fc f g):=by
 obtain⟨tc,c1,c2⟩:=hc;obtain⟨t,h1,h2⟩:=ha;obtain⟨u,k1,k2⟩:=hb;refine⟨_,λ i=>aDz (c1 i) (h1 i) (k1 i),λ U Z H Y lab De v0 R f0 W=>c2 U Z H Y lab _ R (WK.bo W |>.imp λ q _ w H1 s1=>?_)⟩;cases q with
 |true=>rw[if_pos rfl]at w ⊢;exact h2 U Z H1 Y lab De v0 (R.up s1) f0 w
 |false=>rw[if_neg zA8]at w ⊢;exact k2 U Z H1 Y lab De v0 (R.up s1) f0 w
def qN(h:SV C i s m fe)(hm:okS m=true:=by rfl)(hk:(k==i)=false:=by rfl):SSk C k s (du i fe):=by
 obtain⟨t,h1,h2⟩:=h;refine⟨_,h1,λ U Z H Y lab De v0 R f0 W=>h2 U Z H Y lab _ R (WK.bo W |>.imp λ d _ w v H' s r=>?_)⟩;obtain⟨R',r'⟩:=R.shared hm s r;exact w _ _ _ (R'.put (s:=.sh d) r') (by rw[zBX (λ e=>by rw[e]at hk;simp at hk)];exact f0)
def aC3(i:Nat)(he:SE C m e fe)(hm:okN m=true:=by rfl)(hN:∀j,(C.X j).N[i]? =some x:=by intro _;rfl)(hv:∀j,Vis (C.X j).env.scope x:=by intro _;first|exact zCV rfl|exact zBc (zCV rfl)|exact zBc (zBc rfl))(hd:Nd x:=by decide)
  (hcd:(x==("__classdict__":Str))=false:=by decide)(hs1:∀j,zA5 [e] (C.X j).env=[(false,eval e (C.X j).env)]:=by intro _;rfl)
  (hbase:∀j,zD6 (.Name x p) "append" (C.X j).env (eval (.Name x p) (C.X j).env)=eval (.Name x p) (C.X j).env:=by intro _;rfl)
  (hfew:∀j,((zCg cpos (zA5 [e] (C.X j).env)).all (λ x=>!x.1)&&(zGE cpos (zEL [] (C.X j).env)).all (λ x=>x.1.isSome)&&decide ([e].length+([]:List zDF).length+(if ([]:List zDF).isEmpty then 0 else 1)<30))=true:=by intro _;rfl)
  (hline:(apos.endLine==cpos.line)=true:=by rfl)
  (hsw:∀j,zCh (.Call (.Attribute (.Name x p) "append" apos) [e] [] cpos) none pos.line (C.X j).env=pure false:=by intro _;rfl):
  SSk C k (.Expr (.Call (.Attribute (.Name x p) "append" apos) [e] [] cpos) pos) (rC i fe):=by
 obtain⟨t,h1,h2⟩:=he;refine⟨vI (tBM C.K "list" qZ (jh i) (fM t lq)),λ j=>n6 (by rw[<-C.hK j];exact yV zBz zDR zEE pU (dW (hN j) (hv j) hd hcd) (aV (h1 j) cH (hs1 j)) (hbase j) (hfew j) hline (hs1 j) rfl) (hsw j),λ U Z H Y lab De v0 R f0 W=>?_⟩;unfold rC at W;cases es:Y[i]? with
 |none=>rw[es]at W;exact zAN W
 |some s=>
  rw[es]at W;split at W
  .rename_i ds hs
   cases hs;rcases R.sl i _ es with z|⟨v,ev,hv'⟩
   .cases z
   .obtain⟨hv1,htop⟩:=hv'
    obtain⟨a0,ea0,la0⟩:=htop rfl;subst ea0;cases hv1 with
    |lst h mm r=>
     rename_i xs;refine⟨.ref a0,ev,.inl ⟨rfl,xs,SqL.of h⟩,h2 U Z H Y lab _ R (WK.bo W |>.imp λ d _ w y H2 s2 r2=>?_)⟩;by_cases hz:ds.length<zAY
     .rw[if_pos hz]at w
      refine⟨a0,xs,y,rfl,rfl,s2 _ _ h,by rw[r.length];exact hz,λ H3 B h3=>?_⟩;obtain⟨R',r'⟩:=R.fresh (P:=λ k=>k=1) rfl (λ k hk=>beq_iff_eq.mp (n8 hm k hk)) s2 r2;have la:(cB H 1 lab a0).1=i+2:=by rw[bR h];exact la0
      refine w Z H3 _ (R'.mut ev (s2 _ _ h) rfl la B ⟨.lst h3 (.inr la) ?_,λ _=>⟨a0,rfl,la⟩⟩) f0;have ra:Rps C.K (λ p=>((cB H 1 lab p).1=1\/(cB H 1 lab p).1=i+2)/\p≠a0) H2 (xs++[y]) (ds++[d]):=by
       refine(r.mono s2 λ p o e z=>⟨by rw[bR e];exact z.1,z.2⟩).append (.cons (r'.wk λ p o e z=>⟨.inl z,λ q=>?_⟩) .nil);subst q;rw[la]at z;lia
      exact ra.but B (s2 _ _ h) rfl λ z=>z.2 rfl
     .rw[if_neg hz]at w
      exact zAN w
  .exact zAN W
def tK(k:Nat)(l:List D)(Y:En):Bool:=match Y[k]? with
 |some (.ow (.lst m))=>fP m l
 |_=>false
def nD(k:Nat)(l:List D)(fg:D->En->Rs En)(b:En->Ou):List D->En->Ou
 |[],Y=>if tK k l Y=true then .nx Y else .st
 |d::ds,Y=>if tK k l Y=true then(match fg d Y with
  | .ok Y1=>match b Y1 with
   | .nx Y2=>nD k l fg b ds Y2
   | .ct Y2=>nD k l fg b ds Y2
   | .bk _=>.st
   |o=>o
  |_=>.st)else .st
def aKH(k:Nat)(fg:D->En->Rs En)(b:En->Ou):En->Ou:=λ Y=>match Y[k]? with
 |some (.ow (.lst l))=>if eF l=true then nD k l fg b l Y else .st
 |_=>.st
def aIi{tg:Expr}{ks:List Nat}{fg:D->En->Rs En}(k:Nat)(hg:SG C tg ks fg)(hb:aD9 C k ss f)(hk:k∉ks:=by decide)(hN:∀j,(C.X j).N[k]? =some x:=by intro _;rfl)(hv:∀j,Vis (C.X j).env.scope x:=by intro _;first|exact zCV rfl|exact zBc (zCV rfl)|exact zBc (zBc rfl))(hd:Nd x:=by decide)
  (hcd:(x==("__classdict__":Str))=false:=by decide)(hs:∀i,∀y,zAz (.Name x p) (C.X i).env y=pure y:=by intro _ _;rfl):SS C (.For tg (.Name x p) ss [] pos) (aKH k fg f):=by
 obtain⟨gg,g1,g2,g3,g4⟩:=hg;obtain⟨tb,b1,b2⟩:=hb;refine⟨aNW (aMh C.K (jh k)) gg tb,λ i=>aGv (C.own i) (C.calm i) (by rw[<-C.hK i];exact aGz (dW (hN i) (hv i) hd hcd)) (g1 i) (b1 i) (hs i),λ U Z H Y lab De R W=>?_⟩;unfold aKH at W;split at W
 .rename_i l e1
  by_cases him:eF l=true
  .rw[if_pos him]at W
   rcases R.sl k _ e1 with z|⟨v,ev,hv1,htop⟩
   .cases z
   obtain⟨a0,xs,rfl,h,mm,r⟩:=hv1.lst_inv;refine⟨.ref a0,ev,a0,rfl,.inl ⟨⟨xs,SqL.of h⟩,?_⟩⟩;refine⟨λ i n Z' H'=>∃Y' lab',RR C.K C.G U Y' Z' H' lab'/\Z'[k]? =some (some (.ref a0))/\n=l.length-i/\i<=l.length/\WS C.K C.G U (nD k l fg f (l.drop i) Y') De,⟨l.length,Y,lab,R,ev,by lia,by lia,W⟩,?_⟩;rintro i n Z' H' ⟨Y',lab',R',f',rfl,hi,w'⟩;have own:tK k l Y'=true->∃(P:Addr->Prop) (xs':List V),H' a0=some (.lst xs')/\Rps C.K P H' xs' l:=λ o=>by
    unfold tK at o;split at o
    .rename_i m e2
     have:=rW m l o
     subst this;rcases R'.sl k _ e2 with z|⟨v,ev',hv',_⟩
     .cases z
     rw[f']at ev';cases ev';obtain⟨a1,xs',ea,h',mm',r'⟩:=hv'.lst_inv;cases ea;exact⟨_,xs',h',r'⟩
    .cases o
   by_cases hlt:i<l.length
   .have ed2:l.drop i=l[i]::l.drop (i+1):=zBr hlt
    rw[ed2]at w';unfold nD at w';by_cases o:tK k l Y'=true
    .rw[if_pos o]at w'
     obtain⟨P,xs',h',r'⟩:=own o;have hl:=r'.length;refine .inr ⟨⟨xs',xs'[i]'(by lia),SqL.of h',zAH (by lia)⟩,λ Z2 H2=>∃Y2 lab2,RR C.K C.G U Y2 Z2 H2 lab2/\Z2[k]? =some (some (.ref a0))/\WS C.K C.G U (nD k l fg f (l.drop (i+1)) Y2) De,λ Z2 H2 ⟨Y2,lab2,R2,f2,w2⟩=>⟨l.length-(i+1),by lia,Y2,lab2,R2,f2,rfl,hlt,w2⟩,λ x H2 hy=>?_⟩;obtain⟨e,y⟩:=hy;subst e;obtain⟨d,ed,rd⟩:=r'.get (y xs' (SqL.of h'));rw[zAH hlt]at ed;cases ed;have rx:Rp C.K (λ p=>(lab' p).1<=1) H2 x l[i]:=rd.imm (aLB him (zDd hlt));cases eg:fg l[i] Y' with
     |ex c=>rw[eg]at w';exact zAN w'
     |st=>rw[eg]at w';exact zAN w'
     |ok Y1=>
      rw[eg]at w';have G:=g2 U x l[i] Z' H2 Y' lab' (λ Z1 H1=>RR C.K C.G U Y1 Z1 H2 lab'/\H1=H2) Y1 R' rx eg λ Z1 R1=>⟨R1,rfl⟩
      refine g4 _ _ _ _ _ (λ Z1 H1 z=>?_) (g3 _ _ _ _ G);obtain⟨⟨R1,e⟩,_,fr⟩:=z;subst e;refine b2 U Z1 H1 Y1 lab' _ (.ref a0) R1 ((fr k hk).trans f') ?_;dsimp only at w';cases eb:f Y1 with
      |nx Y2=>rw[eb]at w';exact λ Z2 H3 lab2 R2 f2=>⟨Y2,lab2,R2,f2,w'⟩
      |ct Y2=>rw[eb]at w';exact λ Z2 H3 lab2 R2 f2=>⟨Y2,lab2,R2,f2,w'⟩
      |bk Y2=>rw[eb]at w';exact zAN w'
      |rt d=>rw[eb]at w';exact w'
      |ex c=>rw[eb]at w';exact w'
      |st=>rw[eb]at w';exact w'
    .rw[if_neg o]at w'
     exact zAN w'
   .have e:i=l.length:=by lia
    subst e;rw[zDA]at w';unfold nD at w';by_cases o:tK k l Y'=true
    .rw[if_pos o]at w'
     obtain⟨P,xs',h',r'⟩:=own o;exact .inl ⟨⟨xs',SqL.of h',by rw[r'.length];exact zAQ _⟩,w' Z' H' lab' R'⟩
    .rw[if_neg o]at w'
     exact zAN w'
  .rw[if_neg him]at W
   exact zAN W
 .exact zAN W
end
def aEq(t:Tok)(a:Addr)(l:List Value)(n:Nat)(dd:Option Addr)(sl:Array (Option Value))(he:l.isEmpty=false):
  Meets (zD4.«tuple.__mul__» ⟨[.ref a,.int 0 t],[]⟩) (λ _ R s=>s.heap.get? a=some {cls:=.type "tuple",dict:=dd,data:=.seq l.toArray n,slots:=sl}/\
   R (.ok (.ret (zAx s.heap.objs.size))) {s with heap:=s.heap.push {cls:=zBt "tuple",data:=zJD #[]}}):=by
 have c0:¬(decide ((0:Int) < -2^63)||decide ((0:Int) ≥ 2^63))=true:=by decide
 have c1:¬(l.toArray.isEmpty||(0:Int)==1)=true:=by simp only[zEx,he];simp
 have c2:(decide ((0:Int)<=0)||l.toArray.isEmpty)=true:=by simp
 refine .of_wp λ P w A R s h=>?_
 obtain⟨_,_,_,_,_⟩:=s;obtain⟨hl,h⟩:=h;wp_walk
 try rw[if_neg c0]
 wp_walk
 try rw[if_neg c1]
 wp_walk
 try rw[if_pos c2]
 wp_walk;exact⟨_,rfl,h⟩
def aEp(t:Tok)(a:Addr)(l:List Value)(n:Nat)(dd:Option Addr)(sl:Array (Option Value)):
  Meets (zD4.«tuple.__mul__» ⟨[.ref a,.int 1 t],[]⟩) (λ _ R s=>s.heap.get? a=some {cls:=.type "tuple",dict:=dd,data:=.seq l.toArray n,slots:=sl}/\
   R (.ok (.ret (zAx a))) s):=by
 have c0:¬(decide ((1:Int) < -2^63)||decide ((1:Int) ≥ 2^63))=true:=by decide
 have c1:(l.toArray.isEmpty||(1:Int)==1)=true:=by simp
 refine .of_wp λ P w A R s h=>?_
 obtain⟨_,_,_,_,_⟩:=s;obtain⟨hl,h⟩:=h;wp_walk
 try rw[if_neg c0]
 wp_walk
 try rw[if_pos c1]
 wp_walk;exact⟨_,rfl,h⟩
def aKl(K:zAA):R2:=λ x y H Q=>aGi K x y H Q\/∃a xs,x= .ref a/\SqT K H a xs/\xs≠[]/\((y= .int 0/\New H (.tup []) Q)\/(y= .int 1/\Q (.ref a) H))
def aJ0:OpR X (zBv .Mult) (aKl X.K):=by
 intro kX s Z H x y v u Q I rx ry h;rcases h with h|⟨a,xs,rfl,ha,hne,h⟩
 .exact aJ1 kX s Z H x y v u Q I rx ry h
 .cases rx
  obtain⟨its,r,p1,_⟩:=I.tuple ha;obtain⟨⟨cls,dd,data,sl⟩,ho,hc,n,hd⟩:=id p1;simp only at hc hd;subst hc hd;have he:its.isEmpty=false:=by
   cases its with
   |nil=>exact absurd (r.nil_iff.mp rfl) hne
   |cons _ _=>rfl
  rcases h with ⟨rfl,q⟩|⟨rfl,q⟩
  .obtain⟨t,rfl⟩:=ry
   refine zDO (T:="tuple") (U:="int") (by decide) ⟨_,ho,rfl⟩ (λ s'=>zDi s' 0 t) zT zFC zC2 vD zEk.lookup
    (zCk zC2 (zDi s 0 t) zEj (zE3 _ _) (vG 0 t a its.toArray n dd sl)
     ⟨ho,rfl,⟨_,ho,rfl⟩,zCk zDm ⟨_,ho,rfl⟩ zGA (zFf _ _) (aEq t a its n dd sl he) ⟨ho,?_⟩⟩)
   refine⟨.ref s.heap.objs.size,_,I.laid (t':=s.toks) (o:=.tup []) (λ b ob q=>zAC _ q) (zAQ _) ?_,rfl,q.at (I.hok.fresh (zAQ _))⟩;exact⟨⟨by simp,NoD.push _⟩,_,.nil,zGB _ _⟩
  .obtain⟨t,rfl⟩:=ry
   refine zDO (T:="tuple") (U:="int") (by decide) ⟨_,ho,rfl⟩ (λ s'=>zDi s' 1 t) zT zFC zC2 vD zEk.lookup
    (zCk zC2 (zDi s 1 t) zEj (zE3 _ _) (vG 1 t a its.toArray n dd sl)
     ⟨ho,rfl,⟨_,ho,rfl⟩,zCk zDm ⟨_,ho,rfl⟩ zGA (zFf _ _) (aEp t a its n dd sl) ⟨ho,?_⟩⟩)
   exact⟨.ref a,H,I,rfl,q⟩
def aCy:D->D->Rs D
 | .tup l,.int k=>if k=0/\l.isEmpty=false then .ok (.tup [])else if k=1/\l.isEmpty=false then .ok (.tup l)else aJ9 (.tup l) (.int k)
 |_,_=>.st
def aJX{K:zAA}:OpS K (aKl K) aCy:=by
 intro A x y d e H Q z rx ry ez q;unfold aCy at ez;split at ez
 .split at ez
  .rename_i hc
   obtain⟨rfl,c⟩:=hc;cases ez;cases ry;cases rx with
   |tup h r=>
    refine .inr ⟨_,_,rfl,h,λ e=>?_,.inl ⟨rfl,λ p H' s hp hn=>q _ H' s (.tup (SqT.of hp) .nil)⟩⟩;subst e;cases r;cases c
  .split at ez
   .rename_i hc
    obtain⟨rfl,c⟩:=hc;cases ez;cases ry;have rx':=rx;cases rx with
    |tup h r=>
     refine .inr ⟨_,_,rfl,h,λ e=>?_,.inr ⟨rfl,q _ H (aO.refl H) (rx'.wk λ _ _ _ z=>.inr z)⟩⟩;subst e;cases r;cases c
   .exact .inl (aJY _ _ _ _ _ _ _ _ rx ry ez q)
 .cases ez
section
variable{C:Ct}{pos:Pos}{a b:Expr}{fa fb:En->Rs D}{m1 m2:Mode}
def aIq(ha:SE C m1 a fa)(hb:SE C m2 b fb):SE C (jn m1 m2) (.BinOp a .Mult b pos) (op2 aCy fa fb):=oX (λ i=>by rw[<-C.hK i];exact aJ0) aJX ha hb
end
theorem intsAre_of:∀{vs:List Value} {ns:List Int},vs.length=ns.length->(∀(i:Nat) v,vs[i]? =some v->∃t,v= .int (ns.getD i 0) t)->zBV vs ns
 |[],[],_,_=>.nil
 |[],_::_,h,_=>by cases h
 |_::_,[],h,_=>by cases h
 |v::vs,n::ns,h,hv=>by
  obtain⟨t,e⟩:=hv 0 v rfl;have e2:v= .int n t:=e;subst e2;exact .cons _ _ (intsAre_of (by simpa using h) λ i v e=>by
   obtain⟨t,e⟩:=hv (i+1) v (by simpa using e);exact⟨t,by simpa using e⟩)
def uW(i:Int):Nat:=if i==0 then 0 else i.natAbs.log2+1
def aKW(fo:En->Rs D):En->Rs D:=λ Y=>(fo Y).bd λ d=>match d with
 | .int i=>.ok (.int (uW i:Nat))
 |_=>.st
def aKq:V->List V->Hp->VK->Prop:=λ x xs H Q=>∃i:Int,x= .int i/\xs=[]/\Q (.int (uW i:Nat)) H
def aJa{X:Cx}:MtR X "int.bit_length" aKq:=by
 rintro kX s Z H x xs v us Q I rx rxs ⟨i,rfl,rfl,q⟩;obtain⟨t,rfl⟩:=(show∃t,v=zCf i t from rx);cases rxs;exact call_int_bit_length ⟨.int (uW i:Nat),H,I.tok _,⟨_,rfl⟩,q⟩
section
variable{C:Ct}{m:Mode}{o:Expr}{fo:En->Rs D}{apos cpos:Pos}
def aEz(ho:SE C m o fo)(hbase:∀j,zD6 o "bit_length" (C.X j).env (eval o (C.X j).env)=eval o (C.X j).env:=by intro _;rfl)
  (hline:(apos.endLine==cpos.line)=true:=by rfl):SE C (some []) (.Call (.Attribute o "bit_length" apos) [] [] cpos) (aKW fo):=by
 obtain⟨t,h1,h2⟩:=ho;refine⟨aNZ C.K "int" aKq t,λ j=>by rw[<-C.hK j];exact aLv PySem.F.plainAttrs_int slot_int_bit_length type_int_bit_length aJa (h1 j) (hbase j) hline,λ U Z H Y lab Q R W=>?_⟩;refine h2 U Z H Y lab _ R (W.bd.imp λ d _ w x H1 s1 r1=>?_);cases d with
 |int i=>
  have ey:=r1.int_inv;subst ey;exact⟨rfl,i,rfl,rfl,w _ H1 s1 (.int _)⟩
 |_=>exact zAN w
end
def aAw:D->D->Rs D:=i2 (λ i j=>decide (0<=j)&&decide (j<=1000000)&&decide (i.natAbs<2^64)) λ i j=>.int (i*2^j.toNat)
def aAv:D->D->Rs D:=i2 (λ _ j=>decide (0<=j)) λ i j=>.int (i / 2^j.toNat)
def zK:D->D->Rs D:=i2 (λ _ _=>true) λ i j=>.int (zDt i j)
section
variable{C:Ct}{pos:Pos}{m1 m2:Mode}{a b:Expr}{fa fb:En->Rs D}
def aC9(ha:SE C m1 a fa)(hb:SE C m2 b fb):SE C (some []) (.BinOp a .LShift b pos) (op2 aAw fa fb):=dR (oX (λ _=>aMD) (vf λ i j h=>by simp only[zAL,decide_eq_true_eq]at h;exact⟨h.1.1,h.1.2,h.2⟩) ha hb) λ _ _ h=>gj pW h
def aGZ(ha:SE C m1 a fa)(hb:SE C m2 b fb):SE C (some []) (.BinOp a .RShift b pos) (op2 aAv fa fb):=dR (oX (λ _=>aMC) (vf λ i j h=>by simpa using h) ha hb) λ _ _ h=>gj pW h
def aDq(ha:SE C m1 a fa)(hb:SE C m2 b fb):SE C (some []) (.BinOp a .BitAnd b pos) (op2 zK fa fb):=dR (oX (λ _=>aMQ) aEH ha hb) λ _ _ h=>gj pW h
end
def xq(ks vs:List D):Option (List (List Int×D)):=match aHa ks with
 |some kk=>if kk.length=vs.length then some (kk.zip vs)else none
 |none=>none
def aMv(ps:List (List Int×D)):D:=.dct (.non::ps.map λ p=>.tup (p.1.map .int)) (ps.map (·.2))
theorem aDa:∀ps:List (List Int×D),(ps.map (·.1)).zip (ps.map (·.2))=ps
 |[]=>rfl
 |p::ps=>by rw[zAM,zAM,zBB,aDa ps]
def aGx(ps:List (List Int×D)):xq (.non::ps.map λ p=>.tup (p.1.map .int)) (ps.map (·.2))=some ps:=by
 have e:aHa (.non::ps.map λ p=>D.tup (p.1.map .int))=some (ps.map (·.1)):=by
  show yd (ps.map λ p=>D.tup (p.1.map .int))=_;rw[show(ps.map λ p=>D.tup (p.1.map .int))=(ps.map (·.1)).map λ k=>D.tup (k.map .int)by rw[zAv];rfl];exact sU _
 unfold xq;rw[e];dsimp only;rw[if_pos (by rw[zAD,zAD]),aDa]
def DxO(K:zAA)(H:Hp)(a:Addr)(es:List Ent):Prop:=DxK K H a es\/(es=[]/\H a=some (.dK []))
def Rp.dctX_inv{K:zAA}(r:Rp K A H v (.dct ks vs))(h:xq ks vs=some ps):
  ∃a es,v= .ref a/\DxO K H a es/\A a/\Rps K (λ p=>A p/\p≠a) H (es.map (·.2.2)) (ps.map (·.2))/\es.map (·.1)=ps.map (·.1):=by
 unfold xq at h;cases hk:aHa ks with
 |none=>rw[hk]at h;cases h
 |some kk=>
  rw[hk]at h;dsimp only at h;split at h
  .rename_i hl
   cases h;have p1:(kk.zip vs).map (·.1)=kk:=zI8 (by lia);have p2:(kk.zip vs).map (·.2)=vs:=zFs (by lia);rw[p1,p2];clear p1 p2 hl;generalize hd:D.dct ks vs=d at r;cases r with
   |dT hh m r=>
    rename_i es ds;injection hd with q1 q2
    subst q1 q2;replace hk:yd (es.map λ e=>D.tup (e.1.map .int))=some kk:=hk;rw[show(es.map λ e=>D.tup (e.1.map .int))=(es.map (·.1)).map λ k=>D.tup (k.map .int)by rw[zAv];rfl,sU]at hk;exact⟨_,es,rfl,.inl hh,m,r,zAl hk⟩
   |dK hh m r=>
    rename_i kvs ds;injection hd with q1 q2
    subst q1 q2;cases kvs with
    |nil=>cases hk;exact⟨_,[],rfl,.inr ⟨rfl,hh⟩,m,r,rfl⟩
    |cons p ps=>
     obtain⟨p1,p2⟩:=p;cases p1<;>cases hk
   |_=>cases hd
  .cases h
def lkE(es:List Ent)(k:List Int):Option V:=(es.find? λ e=>decide (e.1=k)).map (·.2.2)
theorem aKy{K:zAA}{k:List Int}{d:D}:∀{es:List Ent} {ps:List (List Int×D)},Rps K A H (es.map (·.2.2)) (ps.map (·.2))->es.map (·.1)=ps.map (·.1)->ps.lookup k=some d->∃v,lkE es k=some v/\Rp K A H v d
 |[],[],_,_,h=>by cases h
 |[],_::_,_,e,_=>by cases e
 |_::_,[],_,e,_=>by cases e
 |p::es,q::ps,r,e,h=>by
  obtain⟨q1,q2⟩:=q;rw[zAM,zAM]at e r;injection e with e1 e2
  cases r with
  |cons h1 r=>
   unfold lkE;rw[zGJ];rw[zAu]at h;by_cases c:p.1=k
   .have c2:(k==q1)=true:=by rw[beq_iff_eq,<-c];exact e1
    rw[c2]at h;cases h;rw[decide_eq_true c];exact⟨_,rfl,h1⟩
   .have c2:(k==q1)=false:=by rw[beq_eq_false_iff_ne];exact λ z=>c (e1.trans z.symm)
    rw[c2]at h;rw[decide_eq_false c];exact aKy r e2 h
def DxP.lk{k:List Int}{v:V}(p:DxP es xs)(h:lkE es k=some v):∃q,atKey xs k=some q/\RelV v q.2:=by
 unfold lkE at h;unfold atKey;unfold DxP at p;induction p with
 |nil=>cases h
 |cons q t ih=>
  rename_i e x es xs;rw[zGJ]at h ⊢;rw[<-q.1];by_cases c:e.1=k
  .rw[decide_eq_true c]at h ⊢
   cases h;exact⟨_,rfl,q.2.2⟩
  .rw[decide_eq_false c]at h ⊢
   exact ih h
def aAn:D->D->Rs D
 | .dct ks vs,e=>match aAS e,xq ks vs with
  |some k,some ps=>(match ps.lookup k with
   |some d=>.ok d
   |none=>.st)
  |_,_=>.st
 |_,_=>.st
def aKe(K:zAA)(td ty:TE):TE:=λ Z H Q=>td Z H λ x H1=>ty Z H1 λ y H2=>∃a b k es v,x= .ref a/\y= .ref b/\SqT K H2 b (k.map V.int)/\DxO K H2 a es/\lkE es k=some v/\Q v H2
def aJQ{X:Cx}{o i:Expr}{pos:Pos}{td ty:TE}(hu:X.A.units+1<cLine)(ho:PE X o td)(hi:PE X i ty)(hs:aOM i):PE X (.Subscript o i pos) (aKe X.K td ty):=by
 intro kX s Z H Q I h;refine aIg PySem.F.slot_dict_getitem.lookup hs (thn (ho kX s Z H _ I h) λ u s1 ⟨x,H1,I1,rx,q1⟩=>thn (hi kX s1 Z H1 _ I1 q1) λ iv s2 ⟨y,H2,I2,ry,a,b,k,es,v,ex,ey,hb,hD,hl,q2⟩=>?_);subst ex ey;obtain rfl:u=zAx a:=rx;obtain rfl:iv=zAx b:=ry;obtain⟨hd,xs,pr,dd⟩:=aLE I2 hD;obtain⟨p,hp,rp⟩:=pr.lk hl;exact⟨dd.typeIs,wpAny_getItem_heap (zJP hu) (aM7 I2 hb) dd hp ⟨v,H2,I2.tok _,rp,q2⟩⟩
section
variable{C:Ct}{m1 m2:Mode}{a b:Expr}{fa fb:En->Rs D}{pos:Pos}
def aGY(ha:SE C m1 a fa)(hb:SE C m2 b fb)(hp:vA b:=by exact λ _ _=>rfl):SE C m1 (.Subscript a b pos) (op2 aAn fa fb):=by
 obtain⟨t,h1,h2⟩:=ha;obtain⟨u,k1,k2⟩:=hb;refine⟨aKe C.K t u,λ i=>by rw[<-C.hK i];exact aJQ (by have:=(C.room i).un;lia) (h1 i) (k1 i) hp,λ U Z H Y lab Q R W=>?_⟩;refine h2 U Z H Y lab _ R (W.bd.imp λ d _ w x H1 s1 r1=>?_);refine k2 U Z H1 Y lab _ (R.up s1) (w.bd.imp λ e _ w y H2 s2 r2=>?_);obtain⟨z,ez,wz⟩:=w.okD;cases d with
 |dct ks vs=>
  unfold aAn at ez;dsimp only at ez;cases hk:aAS e with
  |none=>rw[hk]at ez;cases ez
  |some k=>
   cases hp2:xq ks vs with
   |none=>rw[hk,hp2]at ez;cases ez
   |some ps=>
    rw[hk,hp2]at ez;dsimp only at ez;rw[ye hk]at r2;obtain⟨b,xs,rfl,hb1,hb2⟩:=r2.tup_inv;have exs:=hb2.ints_of;subst exs;obtain⟨a,es,rfl,g1,m,r,he⟩:=(r1.up s2).dctX_inv hp2;cases hl:ps.lookup k with
    |none=>rw[hl]at ez;cases ez
    |some d=>
     rw[hl]at ez;cases ez;obtain⟨v,e1,e2⟩:=aKy r he hl;exact⟨a,b,k,es,v,rfl,rfl,hb1,g1,e1,wz v H2 (s1.trans s2) (e2.wk λ p o _ q=>q.1)⟩
 |_=>cases ez
end
def jm(es:List Ent)(k:List Int)(b:Addr)(v:V):List Ent:=if ((es.map (·.1)).any (·==k))=true then es.map (λ e=>if e.1=k then(e.1,e.2.1,v)else e)else es++[(k,b,v)]
def DxP.rep{k:List Int}{v:V}{u:Value}(r:RelV v u)(p:DxP es xs):DxP (es.map λ e=>if e.1=k then(e.1,e.2.1,v)else e) (xs.map (putAt k u)):=by
 unfold DxP at p ⊢;induction p with
 |nil=>exact .nil
 |cons q t ih=>
  refine .cons ?_ ih;unfold putAt;rename_i e x _ _;dsimp only;by_cases c:e.1=k
  .rw[if_pos c,if_pos (q.1▸c)]
   exact⟨q.1,q.2.1,r⟩
  .rw[if_neg c,if_neg (q.1▸c)]
   exact q
theorem DxP.jm{k:List Int}{v:V}{u:Value}{b:Addr}(p:DxP es xs)(r:RelV v u):DxP (jm es k b v) (storedH xs k b u):=by
 unfold VL.jm storedH;rw[p.has];split
 .exact p.rep r
 .exact p.snoc ⟨rfl,rfl,r⟩
def aHZ(es:List Ent)(k:List Int)(b:Addr)(v:V):(jm es k b v).length<=es.length+1:=by
 unfold jm;split
 .rw[zAD];lia
 .rw[zAZ];exact zAQ _
def aKj(K:zAA):V->V->V->Hp->(Hp->Prop)->Prop:=λ o i v H Q=>∃a b k es,o= .ref a/\i= .ref b/\SqT K H b (k.map V.int)/\DxO K H a es/\es.length<zAY/\Q (upd H a (dxO a (jm es k b v)))
def DxO.mut{K:zAA}(h:DxO K H a es):∃o,H a=some o/\iG o=true:=by
 rcases h with h|⟨_,h⟩
 .exact⟨_,h.at_,rfl⟩
 .exact⟨_,h,rfl⟩
def aIn{X:Cx}(hu:X.A.units+1<cLine):aOL X (aKj X.K):=by
 intro kX s Z H o i v ov iv u Q I ro ri rv ⟨a,b,k,es,e1,e2,hb,hD,hl,q⟩;subst e1 e2;cases ro;cases ri;obtain⟨hd,xs,pr,dd⟩:=aLE I hD;refine wpAny_setItem_heap (hsz:=by rw[<-zG7 pr];lia) (zJP hu) (aM7 I hb) dd λ h' dd' hs=>⟨_,?_,q⟩
 obtain⟨o,ts,ep,h1,r⟩:=id dd';refine I.write (x:=a) (e:=a) ?_ (.inl rfl) (λ b' u hb hu=>(hs.2 b' hb).trans hu) ⟨o,h1⟩ (aMu (zAi (aHZ es k b v) hl) hd (pr.jm rv) dd');rcases hD with h|⟨_,h⟩
 .rw[h.at_];exact trivial
 .rw[h];exact trivial
def aBO(ps:List (List Int×D))(k:List Int)(d:D):List (List Int×D):=if ((ps.map (·.1)).any (·==k))=true then ps.map (λ p=>if p.1=k then(p.1,d)else p)else ps++[(k,d)]
def v8:D->D->Option (List (List Int×D)×List Int)
 | .dct ks vs,e=>match aAS e,xq ks vs with
  |some k,some ps=>some (ps,k)
  |_,_=>none
 |_,_=>none
def aCp(h:v8 c e=some (ps,k)):∃ks vs,c= .dct ks vs/\e= .tup (k.map .int)/\xq ks vs=some ps:=by
 cases c with
 |dct ks vs=>
  unfold v8 at h;dsimp only at h;cases hk:aAS e with
  |none=>rw[hk]at h;cases h
  |some k2=>
   cases hp:xq ks vs with
   |none=>rw[hk,hp]at h;cases h
   |some p2=>rw[hk,hp]at h;cases h;exact⟨ks,vs,rfl,ye hk,hp⟩
 |_=>cases h
theorem aDx{K:zAA}{k:List Int}{b:Addr}{v:V}{d:D}(h:Rp K A H v d):∀{es:List Ent} {ps:List (List Int×D)},Rps K A H (es.map (·.2.2)) (ps.map (·.2))->es.map (·.1)=ps.map (·.1)->
  Rps K A H ((es.map λ e=>if e.1=k then(e.1,e.2.1,v)else e).map (·.2.2)) ((ps.map λ p=>if p.1=k then(p.1,d)else p).map (·.2))/\((es.map λ e=>if e.1=k then(e.1,e.2.1,v)else e).map (·.1)=(ps.map λ p=>if p.1=k then(p.1,d)else p).map (·.1))
 |[],[],_,_=>⟨.nil,rfl⟩
 |[],_::_,_,e=>by cases e
 |_::_,[],_,e=>by cases e
 |p::es,q::ps,r,e=>by
  rw[zAM,zAM]at e r;injection e with e1 e2
  cases r with
  |cons h1 r1=>
   obtain⟨z1,z2⟩:=aDx (b:=b) h r1 e2;rw[zAM,zAM,zAM,zAM,zAM,zAM,z2];by_cases c:q.1=k
   .rw[if_pos c,if_pos (e1.trans c)]
    exact⟨.cons h z1,by rw[e1]⟩
   .rw[if_neg c,if_neg λ z=>c (e1.symm.trans z)]
    exact⟨.cons h1 z1,by rw[e1]⟩
def aJH{K:zAA}{k:List Int}{b:Addr}{v:V}{d:D}{es:List Ent}{ps:List (List Int×D)}(h:Rp K A H v d)(r:Rps K A H (es.map (·.2.2)) (ps.map (·.2)))(e:es.map (·.1)=ps.map (·.1)):
  Rps K A H ((jm es k b v).map (·.2.2)) ((aBO ps k d).map (·.2))/\(jm es k b v).map (·.1)=(aBO ps k d).map (·.1):=by
 unfold jm aBO;rw[e];split
 .exact aDx (b:=b) h r e
 .rw[zAk,zAk,zAk,zAk,e]
  exact⟨r.append (.cons h .nil),rfl⟩
def aJJ{es:List Ent}{k:List Int}{b:Addr}{v:V}{e:Ent}(he:e∈jm es k b v):(∃e0∈es,e0.1=e.1/\e0.2.1=e.2.1)\/(e.1=k/\e.2.1=b):=by
 unfold jm at he;split at he
 .obtain⟨e0,h1,h2⟩:=zA0.mp he
  refine .inl ⟨e0,h1,?_⟩;split at h2<;>subst h2<;>exact⟨rfl,rfl⟩
 .rcases zAh.mp he with h|h
  .exact .inl ⟨e,h,rfl,rfl⟩
  .rw[zA2.mp h];exact .inr ⟨rfl,rfl⟩
def aJI{es:List Ent}{k:List Int}{b:Addr}{v:V}(h:(es.map (·.1)).Nodup):((jm es k b v).map (·.1)).Nodup:=by
 unfold jm;split
 .rw[zAv,show((λ e:Ent=>e.1)∘λ e:Ent=>if e.1=k then(e.1,e.2.1,v)else e)=λ e=>e.1 from funext λ e=>by dsimp only[Function.comp];split<;>rfl]
  exact h
 .rename_i hn
  rw[zAk,zBo];refine⟨h,by simp,λ a ha c hc z=>hn ?_⟩;rw[show c=k by simpa using hc]at z;rw[zE4];exact⟨a,ha,by simpa using z⟩
def ptS(i:Nat)(fk fe:En->Rs D):En->Ou:=λ Y=>match Y[i]? with
 |some (.ow c)=>(fe Y).bo λ d=>(fk Y).bo λ k=>match v8 c k with
  |some (ps,j)=>if ps.length<zAY then .nx (Y.set i (.ow (aMv (aBO ps j d))))else .st
  |none=>.st
 |_=>.st
section
variable{C:Ct}{pos tpos p:Pos}{ek e:Expr}{fk fe:En->Rs D}{x:Str}{m m1:Mode}
def aIh(i:Nat)(hk:SE C m1 ek fk)(he:SE C m e fe)(hm:okN m=true:=by rfl)(hN:∀j,(C.X j).N[i]? =some x:=by intro _;rfl)(hv:∀j,Vis (C.X j).env.scope x:=by intro _;first|exact zCV rfl|exact zBc (zCV rfl)|exact zBc (zBc rfl))(hd:Nd x:=by decide)
  (hcd:(x==("__classdict__":Str))=false:=by decide)(ha:∀j v,zDz (.Subscript (.Name x p) ek tpos) (C.X j).env v=(do
   let ov <-zCp [v] (eval (.Name x p) (C.X j).env);let iv <-zCp [v,ov] (eval ek (C.X j).env)
   zFU tpos
   zCp [v,ov,iv] (setItem ov iv v)
   release [v,ov,iv] []):=by intro _ _;rfl)(hs:∀j,zID [.Subscript (.Name x p) ek tpos] e pos.line (C.X j).env=pure false:=by intro _;rfl)(hw:∀j,zIC [.Subscript (.Name x p) ek tpos] e (C.X j).env=pure none:=by intro _;rfl)
  (h1:∀j,(zCj [.Subscript (.Name x p) ek tpos] (C.X j).env).map (·.2)=[zDz (.Subscript (.Name x p) ek tpos) (C.X j).env]:=by intro _;rfl):
  SS C (.Assign [.Subscript (.Name x p) ek tpos] e pos) (ptS i fk fe):=by
 obtain⟨tk,k1,k2⟩:=hk;obtain⟨te,e1,e2⟩:=he;refine⟨zW te (aOA (jh i) tk (aKj C.K)),λ j=>aGw (e1 j) (aLn (dW (hN j) (hv j) hd hcd) (k1 j) (by rw[<-C.hK j];exact aIn (by have:=(C.room j).un;lia)) (ha j)) (hs j) (hw j) (h1 j),λ U Z H Y lab De R W=>?_⟩;unfold ptS at W;cases es:Y[i]? with
 |none=>rw[es]at W;exact zAN W
 |some s=>
  rw[es]at W;split at W
  .rename_i c hs
   cases hs;rcases R.sl i _ es with z|⟨v,ev,hv'⟩
   .cases z
   .obtain⟨hv1,htop⟩:=hv'
    refine e2 U Z H Y lab _ R (W.bo.imp λ d _ w0 y H2 s2 r2=>⟨v,ev,?_⟩);refine k2 U Z H2 Y lab _ (R.up s2) (w0.bo.imp λ k _ w kv H3 s3 r3=>?_);clear w0;cases hj:v8 c k with
    |none=>rw[hj]at w;exact zAN w
    |some q=>
     obtain⟨ps,j⟩:=q;rw[hj]at w;dsimp only at w;obtain⟨ks,vs,rfl,rfl,hp⟩:=aCp hj;obtain⟨a0,ea0,la0⟩:=htop rfl;subst ea0;obtain⟨b,xs,rfl,hb1,hb2⟩:=r3.tup_inv;have exs:=hb2.ints_of;subst exs;obtain⟨a1,ee,ea,h,mm,r,hk⟩:=hv1.dctX_inv hp;cases ea;by_cases hz:ps.length<zAY
     .rw[if_pos hz]at w
      have kK:ee.length=ps.length:=by have:=congrArg List.length hk;simpa using this
      have h3:DxO C.K H3 a0 ee:=h.elim (λ z=>.inl (z.mono (s2.trans s3))) λ z=>.inr ⟨z.1,(s2.trans s3) _ _ z.2⟩
      obtain⟨om,ho,hmu⟩:=h.mut;have ho3:H3 a0=some om:=(s2.trans s3) _ _ ho;refine⟨a0,b,j,ee,rfl,rfl,hb1,h3,by rw[kK];exact hz,?_⟩;obtain⟨R',r'⟩:=R.fresh (P:=λ k=>k=1) rfl (λ k hk=>beq_iff_eq.mp (n8 hm k hk)) s2 r2;have la:(cB H 1 lab a0).1=i+2:=by rw[bR ho];exact la0
      have B:kh a0 H3 (upd H3 a0 (dxO a0 (jm ee j b y))):=λ b' o ne hb=>by rw[aX ne];exact hb
      obtain⟨q1,q2⟩:=aJH (k:=j) (b:=b) (A:=λ p=>((cB H 1 lab p).1=1\/(cB H 1 lab p).1=i+2)/\p≠a0) ((r'.up s3).wk λ p o e z=>⟨.inl z,λ q=>by subst q;rw[la]at z;lia⟩) (r.mono (s2.trans s3) λ p o e z=>⟨by rw[bR e];exact z.1,z.2⟩) hk;have hnd:(ee.map (·.1)).Nodup:=h.elim (λ z=>z.nd) λ z=>by rw[z.1];exact zCx
      have hks:∀e∈ee,SqT C.K H3 e.2.1 (e.1.map V.int):=h3.elim (λ z=>z.ks) λ z=>by rw[z.1];intro e he;cases he
      have hD:DxK C.K (upd H3 a0 (dxO a0 (jm ee j b y))) a0 (jm ee j b y):=by
       refine⟨aa,λ e he=>ud B ho3 hmu ?_,aJI hnd⟩;rcases aJJ he with ⟨e0,h1,h2,h3⟩|⟨h1,h2⟩
       .rw[<-h2,<-h3];exact hks e0 h1
       .rw[h1,h2];exact hb1
      have rd:=Rp.dT (A:=λ p=>(cB H 1 lab p).1=1\/(cB H 1 lab p).1=i+2) hD (.inr la) (q1.but B ho3 hmu λ z=>z.2 rfl);have ek:((jm ee j b y).map λ e=>D.tup (e.1.map .int))=(aBO ps j d).map λ p=>D.tup (p.1.map .int):=by
       rw[show((jm ee j b y).map λ e=>D.tup (e.1.map .int))=((jm ee j b y).map (·.1)).map λ k=>D.tup (k.map .int)by rw[zAv];rfl,q2,zAv];rfl
      rw[ek]at rd;exact w Z _ _ ((R'.up s3).mut ev ho3 hmu la B ⟨rd,λ _=>⟨a0,rfl,la⟩⟩)
     .rw[if_neg hz]at w
      exact zAN w
  .exact zAN W
end
def aAR(K:zAA)(x:Str)(Pt:Addr):Bool:=match zAf K zA9 x with
 |some (some (.ref f))=>(match K.lookup f with
  |some ⟨_,_,.func fd,_⟩=>(match fd.code with| .ref c=>zER K c Pt|_=>false)
  |_=>false)&&(K.lookup Pt).isNone
 |_=>false
def aF3{K:zAA}{h:Heap}{mg:Str->Option Value}{fa Pt:Addr}{x:Str}(X:K.In h)(G:h.Ns zA9 mg)(hm:mg x=some (.ref fa))(e:aAR K x Pt=true)
  {o:Obj}{fd:zAq}(lk:K.lookup fa=some o)(hd:o.data= .func fd):K.lookup Pt=none/\∃c,fd.code= .ref c/\zER K c Pt=true:=by
 unfold aAR at e;split at e
 .rename_i f hf
  have e1:=(zAe X G hf).symm.trans hm;cases e1;rw[zAL]at e;refine⟨by simpa using e.2,?_⟩;have e2:=e.1;rw[lk]at e2;split at e2
  .rename_i fd' _ q
   have q2:=zAl q;rw[q2]at hd;have hd2:Data.func fd'=Data.func fd:=hd;cases hd2;split at e2
   .rename_i c hc
    exact⟨c,hc,e2⟩
   .cases e2
  .cases e2
 .cases e
def aJg{P:zA3}{w:World}{K:zAA}{h:Heap}{mg:Str->Option Value}{fa Pt:Addr}{fd:zAq}{k n:Nat}{x:Str}{N:List Str}{st:Stmt}{f:En->Ou}{F:List D->Rs D}(X:K.In h)(G:h.Ns zA9 mg)
  (hB:aAR K "law" Pt=true){ps:List Str}(e:Dnr K mg "law" st ps fa fd)(S:aY N [x] (aF st))
  (hbind:∀(kV doc pm:Value) (an:Option Addr) (cdv ct:Value) (s:zAE) (u:Value),zHm s (zBq "law" "law" (lO st) (cX st) (aF st) .none kV doc pm an cdv ct) ⟨[u],[]⟩ [(x,u)])
  (body:∀(base:Heap) (c:Addr) (s:zAE) (H:Hp) (hr:dj k (zCo.deeper (zDN "law" (aF st) s.heap.objs.size fa (.ref c)))),uG (cxW P w K mg base N "law" (aF st) fa (.ref c) zCo s H Pt) Pt->zGb N->
   SSs (ctW P w K mg base N "law" (aF st) fa (.ref c) zCo s H Pt k hr) (cX st) f)
  (hF:F=fL N.length f)(tru:∀ns:List Int,ns.length<=n->F [.scr ns]= .ok (.bl true)):aEj P w K mg fa Pt k n:=by
 obtain⟨oc,od,kV,doc,pm,an,cdv,ct,osl,e1,lk,hcd⟩:=e.F.ex;obtain⟨h1,c,h2,h3⟩:=aF3 X G e.m hB lk rfl;subst e1;obtain rfl:cdv= .ref c:=h2;exact⟨x,"law","law",_,_,_,_,kV,doc,pm,ct,oc,an,od,c,osl,N,h1,h3,lk,hcd,S,λ s u=>hbind kV doc pm an _ ct s u,λ a ns hl base s H hr Lx hO hS=>
  aH3 (body base c s H hr Lx S.nd) (by rw[<-hF];exact tru ns hl) (.cons (.scr (aL7 hO hS)) .nil)⟩
section
variable{Y:En}{i:Nat}{f g:En->Rs D}{fb gb:En->Rs Bool}{ga:En->Rs (List D)}{u v:En->Ou}{d:D}
@[simp] def varD_ap:zO i Y=match Y[i]? with
 |some (.sh d)=>.ok d
 |some (.nw d)=>.ok d
 |some (.ow d)=>.ok d
 |some (.oz d)=>.ok d
 |some (.o2 l)=>.ok (.lst (l.map .lst))
 |_=>.st:=aM rfl
@[simp] def zN:aC i Y=match Y[i]? with
 |some (.sh d)=>.ok d
 |some (.nw d)=>.ok d
 |_=>.st:=aM rfl
@[simp] def varN_ap:rJ i Y=match Y[i]? with
 |some (.nw d)=>.ok d
 |_=>.st:=aM rfl
@[simp] def varO_ap:qJ i Y=match Y[i]? with
 |some (.ow d)=>.ok d
 |some (.o2 l)=>.ok (.lst (l.map .lst))
 |_=>.st:=aM rfl
@[simp] def aIT:cD d Y= .ok d:=aM rfl
@[simp] def jV:aH Y= .ok []:=aM rfl
@[simp] def cM:aB f ga Y=(f Y).bd λ d=>(ga Y).bd λ ds=>.ok (d::ds):=aM rfl
@[simp] def szl:zAY=16777216:=zBj
@[simp] def aIe:bW ga Y=(ga Y).bd λ ds=>if ds.length<=16777216 then .ok (.tup ds)else .st:=by unfold bW;rw[szl]
@[simp] def lstD_ap:jd ga Y=(ga Y).bd λ ds=>if ds.length<=16777216 then .ok (.lst ds)else .st:=by unfold jd;rw[szl]
@[simp] def fW:okD (.ok d)= .ok d:=aM rfl
@[simp] def gF:op2 fd f g Y=(f Y).bd λ x=>(g Y).bd λ y=>okD (fd x y):=aM rfl
@[simp] def aMT:op1 fd f Y=(f Y).bd λ x=>okD (fd x):=aM rfl
@[simp] def pQ:opA fd ga Y=(ga Y).bd λ x=>okD (fd x):=aM rfl
@[simp] def qy:ak F ga Y=(ga Y).bd F:=aM rfl
def aNI(d:D)(r:Rs D):Rs D:=match d with
 | .bl true=>r
 | .bl false=>.ok (.bl false)
 |_=>.st
def orR(d:D)(r:Rs D):Rs D:=match d with
 | .bl false=>r
 | .bl true=>.ok (.bl true)
 |_=>.st
@[simp] def aEh:aNI (.bl b) r=if b=true then r else .ok (.bl false):=by cases b<;>rfl
@[simp] def orR_bl:orR (.bl b) r=if b=true then .ok (.bl true)else r:=by cases b<;>rfl
@[simp] def uz:yI f g Y=(f Y).bd λ d=>aNI d (g Y):=aM rfl
@[simp] def orD_ap:orD f g Y=(f Y).bd λ d=>orR d (g Y):=aM rfl
@[simp] def notD_bl:aMU (.bl b)= .ok (.bl (!b)):=aM rfl
@[simp] def aMg:ifD fb f g Y=(fb Y).bd λ k=>if k=true then f Y else g Y:=aM rfl
def chR(d:D)(r:Rs D):Rs D:=match d with
 | .bl true=>r
 | .bl false=>.ok (.bl false)
 |_=>.st
@[simp] def chR_bl:chR (.bl b) r=if b=true then r else .ok (.bl false):=by cases b<;>rfl
@[simp] def chD_ap:chD fd fd' f g h Y=(f Y).bd λ x=>(g Y).bd λ y=>(okD (fd x y)).bd λ z=>chR z ((h Y).bd λ w=>okD (fd' y w)):=aM rfl
@[simp] def truD_bl:aIf (.bl b)= .ok b:=aM rfl
@[simp] def truD_int:aIf (.int n)= .ok (n !=0):=aM rfl
@[simp] def blD_bl:blD (.bl b)= .ok b:=aM rfl
@[simp] def tst_ap:tst f Y=(f Y).bd aIf:=aM rfl
@[simp] def zR:tsb f Y=(f Y).bd blD:=aM rfl
@[simp] def aEg:aIZ fb gb Y=(fb Y).bd λ k=>if k=true then gb Y else .ok false:=aM rfl
@[simp] def orT_ap:orT fb gb Y=(fb Y).bd λ k=>if k=true then .ok true else gb Y:=aM rfl
@[simp] def notT_ap:uN fb Y=(fb Y).bd λ k=>.ok (!k):=aM rfl
@[simp] def aU:aq u v Y=(u Y).sq v:=aM rfl
@[simp] def qY:retS f Y=(f Y).bo .rt:=aM rfl
@[simp] def dropS_ap:aBs f Y=(f Y).bo λ _=>.nx Y:=aM rfl
@[simp] def wR:ifS fb u v Y=(fb Y).bo λ k=>if k=true then u Y else v Y:=aM rfl
@[simp] def qQ:du i f Y=(f Y).bo λ d=>.nx (Y.set i (.sh d)):=aM rfl
@[simp] def nY:vQ i f Y=(f Y).bo λ d=>.nx (Y.set i (.nw d)):=aM rfl
@[simp] def setO_ap:oM i f Y=(f Y).bo λ d=>.nx (Y.set i (.ow d)):=aM rfl
@[simp] def aDW:gnm i d Y= .ok (Y.set i (.sh d)):=aM rfl
@[simp] def gnil_nil:gH [] Y= .ok Y:=aM rfl
@[simp] def gcons_cons:aj a b (d::ds) Y=(a d Y).bd (b ds):=aM rfl
@[simp] def gtup_tup:fj n b (.tup ds) Y=if ds.length=n then b ds Y else .st:=aM rfl
def nxO(r:Rs En):Ou:=match r with
 | .ok Y=>.nx Y
 |_=>.st
@[simp] def nxO_ok:nxO (.ok Y)= .nx Y:=aM rfl
@[simp] def asgS_ap:aIY f a Y=(f Y).bo λ d=>nxO (a d Y):=aM rfl
@[simp] def itD_tup:itD (.tup l)= .ok l:=aM rfl
@[simp] def aJn:itD (.lst l)= .ok l:=aM rfl
@[simp] def aJm:dM f Y=(f Y).bd itD:=aM rfl
@[simp] def gm:iK ga a u Y=(ga Y).bo λ ds=>forL a u ds Y:=aM rfl
noncomputable def Ou.tn(o:Ou)(k:En->Ou):Ou:=match o with
 | .nx Y2=>k Y2
 | .ct Y2=>k Y2
 | .bk Y2=>.nx Y2
 |o=>o
@[simp] def aDf:(Ou.nx Y).tn k=k Y:=aM rfl
@[simp] def tn_rt:(Ou.rt d).tn k= .rt d:=aM rfl
def okE(r:Rs En)(k:En->Ou):Ou:=match r with
 | .ok Y=>k Y
 |_=>.st
@[simp] def sI:okE (.ok Y) k=k Y:=aM rfl
def iU:forL a u (d::ds) Y=okE (a d Y) λ Y1=>(u Y1).tn (forL a u ds):=by
 unfold forL;cases a d Y with
 |ok Y1=>simp only[sI];cases u Y1<;>rfl
 |ex c=>rfl
 |st=>rfl
@[simp] def aJy:bV f Y=(f Y).bd aDY:=aM rfl
@[simp] def rngA_ap:fQ r ga Y=(ga Y).bd r:=aM rfl
@[simp] def raiseS_ap:v7 x ga Y=(ga Y).bo λ ds=>if ds.length<=16777216 then .ex x else .st:=by unfold v7;rw[szl]
@[simp] def yesT_ap:jO Y= .ok true:=aM rfl
end
section
variable{d e:D}{i j:Int}{l m:List D}
@[simp] def gImm_int:aDY (.int i)= .ok (.int i):=aM rfl
@[simp] def addD_int:fZ (.int i) (.int j)= .ok (.int (i+j)):=aM rfl
@[simp] def aCL:fZ (.tup l) (.tup m)=if l.length+m.length<=16777216 then .ok (.tup (l++m))else .st:=by unfold fZ;rw[szl]
@[simp] def aGL:rM (.int i) (.int j)= .ok (.int (i-j)):=aM rfl
def yg(h0:0<j)(h1:j<1073741824):tU (.int i) (.int j)= .ok (.int (i / j)):=by unfold tU i2;dsimp only;rw[if_pos (by simp[h0,h1])]
def m9(h0:0<j):sS (.int i) (.int j)= .ok (.int (i%j)):=by unfold sS i2;dsimp only;rw[if_pos (by simp[h0])]
def aAL(h0: -(2^64)<i)(h1:i<2^64):jr (.int i) (.int j)= .ok (.int (i*j)):=by unfold jr;dsimp only;rw[if_pos (by simp only[zDp,zAL,decide_eq_true_eq];exact .inl ⟨h0,h1⟩)]
def aHT(h0: -(2^64)<j)(h1:j<2^64):jr (.int i) (.int j)= .ok (.int (i*j)):=by unfold jr;dsimp only;rw[if_pos (by simp only[zDp,zAL,decide_eq_true_eq];exact .inr ⟨h0,h1⟩)]
@[simp] def aHQ:xu (.int i)= .ok (.int (-i)):=aM rfl
@[simp] def ltD_int:ltD (.int i) (.int j)= .ok (.bl (decide (i<j))):=aM rfl
@[simp] def leD_int:leD (.int i) (.int j)= .ok (.bl (decide (i<=j))):=aM rfl
@[simp] def gtD_int:gtD (.int i) (.int j)= .ok (.bl (decide (j<i))):=aM rfl
@[simp] def geD_int:geD (.int i) (.int j)= .ok (.bl (decide (j<=i))):=aM rfl
def aJe(ns ms:List Int):ltD (.tup (ns.map .int)) (.tup (ms.map .int))= .ok (.bl (HT.lexLt ns ms)):=by
 unfold ltD ltT i2;simp only[gG]
@[simp] def lenD_tup:lr [.tup l]= .ok (.int l.length):=aM rfl
@[simp] def lenD_lst:lr [.lst l]= .ok (.int l.length):=aM rfl
@[simp] def lenD_scr:lr [.scr x]= .ok (.int x.length):=aM rfl
@[simp] def aCY:j6 [.lst l]= .ok (.tup l):=aM rfl
@[simp] def mmD_int:mmD f [.int i,.int j]= .ok (.int (f i j)):=aM rfl
@[simp] def aEV:ixD (.tup l) (.int i)=atD l i:=aM rfl
@[simp] def aJl:ixD (.lst l) (.int i)=atD l i:=aM rfl
@[simp] def ixD_scr:ixD (.scr x) (.int i)=atD (x.map .int) i:=aM rfl
def jX{k:Nat}(h:l[k]? =some d):atD l (k:Int)= .ok d:=by
 have hk:=(zAK.mp h).1;unfold atD atI ixN;rw[if_pos (by omega),if_pos (by omega)];simp[h]
def aNH(h0:0<=i)(h1:i<l.length):∃d,atD l i= .ok d/\d∈l/\l[i.toNat]? =some d:=by
 have hk:i.toNat<l.length:=by omega
 have e:=zAH hk;refine⟨_,?_,zDd hk,e⟩
 have:=jX e
 rwa [zBa h0]at this
@[simp] def atD_0{r:List D}:atD (d::r) 0= .ok d:=jX (k:=0) rfl
@[simp] def atD_1{r:List D}:atD (d::e::r) 1= .ok e:=jX (k:=1) rfl
@[simp] def eqR_int:eqR n (.int i) (.int j)= .ok (.bl (if n then !(i==j)else i==j)):=aM rfl
def knd:D->Bool
 | .set _=>false
 | .scr _=>false
 | .fn _=>false
 |_=>true
def aAU(hT:T∈["bool","int","str","list","tuple","dict"])(h:knd d=true):my T d= .ok (.bl (aJp (tyD d) T)):=by
 have ht:tyD d∈["NoneType","bool","int","str","list","tuple","dict"]:=by cases d<;>simp_all [tyD,knd]
 unfold my oY;cases e:aJp (tyD d) T<;>simp[ht,hT]
def aMc:D->Bool
 | .int _=>true
 | .bl _=>true
 |_=>false
def aNt:D->Bool
 | .bl _=>true
 |_=>false
def sV:D->Bool
 | .tup _=>true
 |_=>false
def aJo(h:knd d=true):my "int" d= .ok (.bl (aMc d)):=by
 rw[aAU (by simp) h];cases d<;>first|rfl|(simp[knd]at h)
def aHf(h:knd d=true):my "bool" d= .ok (.bl (aNt d)):=by
 rw[aAU (by simp) h];cases d<;>first|rfl|(simp[knd]at h)
def oF(h:knd d=true):my "tuple" d= .ok (.bl (sV d)):=by
 rw[aAU (by simp) h];cases d<;>first|rfl|(simp[knd]at h)
@[simp] def isi_tuple_tup:my "tuple" (.tup l)= .ok (.bl true):=oF rfl
@[simp] def isi_tuple_lst:my "tuple" (.lst l)= .ok (.bl false):=oF rfl
end
@[simp] def bL:fL n u ds=match u (ao n ds)with
 | .nx _=>.ok .non
 | .rt d=>.ok d
 | .ex c=>.ex c
 |_=>.st:=aM rfl
def fU(h0: -(2^62)<=j)(h1:j<2^62):gr [.int j]= .ok (cU 0 j):=by unfold gr;dsimp only;rw[if_pos ⟨h0,h1⟩]
def zu(h0: -(2^62)<=i)(h1:i<2^62)(h2: -(2^62)<=j)(h3:j<2^62):aBH [.int i,.int j]= .ok (cU i j):=by unfold aBH;dsimp only;rw[if_pos ⟨⟨h0,h1⟩,h2,h3⟩]
def aBY{lo hi:Int}:d∈cU lo hi↔∃k:Int,d= .int k/\lo<=k/\k<hi:=by
 unfold cU;rw[zA0];constructor
 .rintro⟨n,hn,rfl⟩
  have:=zBF.mp hn
  exact⟨lo+n,rfl,by omega,by omega⟩
 .rintro⟨k,rfl,h1,h2⟩
  exact⟨(k-lo).toNat,zBF.mpr (by omega),by congr 1;omega⟩
def iB(I:Nat->En->Prop)(hs:∀(i:Nat) d Y,ds[i]? =some d->I i Y->∃Y2,okE (a d Y) (λ Y1=>u Y1)= .nx Y2/\I (i+1) Y2)(h0:I 0 Y):∃Y',forL a u ds Y= .nx Y'/\I ds.length Y':=by
 have go:∀(n:Nat) (Y:En),n<=ds.length->I (ds.length-n) Y->∃Y',forL a u (ds.drop (ds.length-n)) Y= .nx Y'/\I ds.length Y':=by
  intro n;induction n with
  |zero=>intro Y _ h;exact⟨Y,by rw[Nat.sub_zero,zDA];rfl,h⟩
  |succ n ih=>
   intro Y hn h;have hlt:ds.length-(n+1)<ds.length:=by omega
   rw[zBr hlt,iU];obtain⟨Y2,e,h2⟩:=hs _ _ Y (zAH hlt) h;rw[show ds.length-(n+1)+1=ds.length-n by omega]at h2 ⊢;cases ea:a ds[ds.length-(n+1)] Y with
   |ok Y1=>
    rw[ea]at e;simp only[sI]at e ⊢;rw[e,aDf];exact ih Y2 (by omega) h2
   |ex c=>rw[ea]at e;cases e
   |st=>rw[ea]at e;cases e
 have:=go ds.length Y (zAQ _) (by rw[zFw];exact h0)
 rwa [zFw,List.drop_zero]at this
end VL
namespace VL.My
open PySem L2
def wdN:Str->Option Str:=λ c=>((["NoWeb","NoPlace","NoWay","NoParting","TooMany","NoForest","NoPlan","NoOneWay","NoOrder","NoText","NoDeed","NoRow"]:List Str).zip (["web","place","way","parting","many","forest","plan","one way","order","text","deed","row"]:List Str)).lookup c
def gM:En->Ou:=
  (retS (yI (op1 (my "int") (aC 0)) (op1 aMU (op1 (my "bool") (aC 0)))))
def jM:List D->Rs D:=fL 1 gM
def dg:En->Ou:=
  (aq (iK (fQ aBH (aB (cD (.int 1)) (aB (opA lr (aB (aC 0) aH)) aH))) (gnm 1)
   (ifS (uN (tsb (op2 ltD (op2 ixD (aC 0) (op2 rM (aC 1) (cD (.int 1)))) (op2 ixD (aC 0) (aC 1)))))
    (retS (cD (.bl false)))
    Ou.nx))
  (retS (cD (.bl true))))
def fK:List D->Rs D:=fL 2 dg
def gR:En->Ou:=
  (aq (aIY (aC 0) (fj 2 (aj (gnm 1) (aj (gnm 2) gH))))
  (aq (llS 3 (fQ gr (aB (aC 1) aH)) [none] (gnm 0))
  (aq (iK (dM (aC 2)) (fj 2 (aj (gnm 4) (aj (gnm 5) gH)))
   (aq (iH 3 (aC 4) (bV (aC 5)))
   (iH 3 (aC 5) (bV (aC 4)))))
  (retS (qJ 3)))))
def jN:List D->Rs D:=fL 6 gR
def fH:En->Ou:=
  (retS (lcD (fQ gr (aB (aKW (aC 0)) aH)) [none,some 0] (gnm 0) (tst (op2 zK (op2 aAv (aC 1) (aC 0)) (cD (.int 1)))) (bV (aC 0))))
def iC:List D->Rs D:=fL 1 fH
def cR:En->Ou:=
  (aq (ifS (tsb (op2 ltD (aC 1) (opA lr (aB (aC 0) aH))))
   (retS (bV (op2 ixD (aC 0) (aC 1))))
   Ou.nx)
  (retS (cD (.int 0))))
def eY:List D->Rs D:=fL 2 cR
def dZ:En->Ou:=
  (aq (ifS (tsb (op2 geD (aC 0) (op2 aLk (cD (.int 10)) (cD (.int 18)))))
   (aq (du 3 (aC 0))
   (aq (iK (fQ gr (aB (aC 1) aH)) (gnm 4)
    (aq (ifS (tsb (op2 (eqR false) (aC 3) (cD (.int 0))))
     (retS (cD (.int 0)))
     Ou.nx)
    (du 3 (op2 tU (aC 3) (aC 2)))))
   (retS (op2 sS (aC 3) (aC 2)))))
   Ou.nx)
  (aq (du 5 (op2 sS (op2 jr (op2 fZ (op2 fZ (op2 sS (aC 0) (cD (.int 1000000007))) (op2 jr (cD (.int 1009)) (aC 1))) (cD (.int 17))) (cD (.int 69621))) (cD (.int 2147483647))))
  (aq (du 5 (op2 sS (op2 fZ (op2 fZ (op2 jr (aC 5) (aC 5)) (op2 jr (cD (.int 40503)) (aC 1))) (cD (.int 5))) (cD (.int 2147483629))))
  (retS (op2 sS (op2 tU (op2 sS (op2 jr (aC 5) (cD (.int 48271))) (cD (.int 2147483647))) (cD (.int 32))) (aC 2))))))
def bU:List D->Rs D:=fL 6 dZ
def gK:En->Ou:=
  (aq (llS 1 (fQ gr (aB (op2 ixD (aC 0) (cD (.int 0))) aH)) [none] (gnm 0))
  (aq (iK (dM (op2 ixD (aC 0) (cD (.int 1)))) (fj 2 (aj (gnm 2) (aj (gnm 3) gH)))
   (aq (iH 1 (aC 2) (bV (aC 3)))
   (iH 1 (aC 3) (bV (aC 2)))))
  (retS (qJ 1))))
def gf:List D->Rs D:=fL 4 gK
def roL:En->Rs D:=opA j6 (aB (lcD (dM (aC 6)) [none,some 9,some 8] (gnm 0) jO (ifD (tsb (op2 (eqR false) (aC 0) (aC 1))) (bV (aC 2)) (bV (aC 0)))) aH)
def roU:En->Rs D:=opA j6 (aB (lcD (fQ gr (aB (op2 ixD (aC 0) (cD (.int 0))) aH)) [none,some 7,some 2,some 3] (gnm 0) jO (op2 fZ (bV (op2 ixD (aC 1) (aC 0))) (opA mz (aB (orD (op2 (eqR false) (aC 0) (aC 2)) (op2 (eqR false) (aC 0) (aC 3))) aH)))) aH)
def roT:En->Rs Bool:=aIZ (tsb (op2 ltD (op2 ixD (aC 7) (aC 2)) (cD (.int 2)))) (aIZ (tsb (op2 ltD (op2 ixD (aC 7) (aC 3)) (cD (.int 2)))) (tsb (op2 (eqR true) (op2 ixD (aC 6) (aC 2)) (op2 ixD (aC 6) (aC 3)))))
def roA:En->Ou:=rC 4 (bW (aB (op2 fZ (bV (aC 5)) (bW (aB (bW (aB (bV (aC 2)) (aB (bV (aC 3)) aH))) aH))) (aB (bV (aC 10)) (aB (bV (aC 11)) aH))))
def roB:En->Ou:=ifS roT (aq (du 8 (opA (mmD λ i j=>if j<i then j else i) (aB (op2 ixD (aC 6) (aC 2)) (aB (op2 ixD (aC 6) (aC 3)) aH)))) (aq (du 9 (opA (mmD λ i j=>if j>i then j else i) (aB (op2 ixD (aC 6) (aC 2)) (aB (op2 ixD (aC 6) (aC 3)) aH)))) (aq (du 10 roL) (aq (du 11 roU) roA)))) Ou.nx
abbrev roG:D->En->Rs En:=fj 3 (aj (gnm 5) (aj (gnm 6) (aj (gnm 7) gH)))
def roO:En->Ou:=aq (oM 4 (jd aH)) (aq (aKH 1 roG roB) (aKK 1 4))
def roR:En->Rs D:=lcD (dM (aC 1)) [none] (gnm 0) jO (bV (op2 ixD (aC 0) (cD (.int 0))))
def gJ:En->Ou:=aq (oM 1 (jd (aB (bW (aB (bW aH) (aB (trD (op2 ixD (aC 0) (cD (.int 0)))) (aB (op2 aCy (bW (aB (cD (.int 0)) aH)) (bV (op2 ixD (aC 0) (cD (.int 0))))) aH)))) aH))) (aq (iK (dM (op2 ixD (aC 0) (cD (.int 1)))) (fj 2 (aj (gnm 2) (aj (gnm 3) gH))) roO) (retS roR))
def jL:List D->Rs D:=fL 12 gJ
def iY:En->Ou:=
  (retS (yI (ak jM (aB (aC 0) aH)) (chD leD leD (cD (.int 0)) (aC 0) (cD (.int 60)))))
def oK:List D->Rs D:=fL 1 iY
def gO:En->Ou:=
  (retS (yI (ak jM (aB (aC 1) aH)) (chD leD ltD (cD (.int 0)) (aC 1) (aC 0))))
def fG:List D->Rs D:=fL 2 gO
def bgH:En->Rs D:=lcD (dM (op2 ixD (aC 1) (aC 4))) [none,some 5] (gnm 0) (tst (op2 zK (op2 aAv (aC 1) (aC 0)) (cD (.int 1)))) (bV (aC 0))
def bgI:En->Ou:=aq (du 5 (op2 rM (aC 3) (op2 aAw (cD (.int 1)) (aC 4)))) (aq (vQ 6 bgH) (rC 2 (bW (aB (bV (aC 3)) (aB (bV (aC 4)) (aB (bV (aC 5)) (aB (rJ 6) aH)))))))
def bgO:En->Ou:=iK (dM (ak iC (aB (aC 3) aH))) (gnm 4) bgI
def bgR:En->Rs (List D):=fQ aBH (aB (cD (.int 1)) (aB (op2 aAw (cD (.int 1)) (op2 ixD (aC 0) (cD (.int 0)))) aH))
def jz:En->Ou:=aq (du 1 (ak jN (aB (aC 0) aH))) (aq (oM 2 (jd aH)) (aq (iK bgR (gnm 3) bgO) (retS (qJ 2))))
def nP:List D->Rs D:=fL 7 jz
def iV:En->Ou:=
  (aq (du 2 (ak bU (aB (aC 0) (aB (cD (.int 0)) (aB (op2 fZ (aC 1) (cD (.int 1))) aH)))))
  (aq (du 3 (op2 fZ (cD (.int 1)) (ak bU (aB (aC 0) (aB (cD (.int 1)) (aB (cD (.int 6)) aH))))))
  (aq (oM 4 (jd aH))
  (aq (iK (fQ gr (aB (aC 2) aH)) (gnm 5)
   (iK (fQ aBH (aB (op2 fZ (aC 5) (cD (.int 1))) (aB (aC 2) aH))) (gnm 6)
    (ifS (tsb (op2 ltD (ak bU (aB (aC 0) (aB (op2 fZ (op2 fZ (cD (.int 3)) (op2 jr (cD (.int 61)) (aC 5))) (aC 6)) (aB (cD (.int 8)) aH)))) (aC 3)))
     (rC 4 (bW (aB (bV (aC 5)) (aB (bV (aC 6)) aH))))
     Ou.nx)))
  (retS (bW (aB (bV (aC 2)) (aB (opA j6 (aB (qJ 4) aH)) aH))))))))
def kW:List D->Rs D:=fL 7 iV
def wkC:En->Rs D:=lcD (dM (op2 ixD (aC 2) (op2 ixD (aC 6) (op1 xu (cD (.int 1)))))) [none,some 6] (gnm 0) (tsb (op2 (inR true) (aC 0) (aC 1))) (bV (aC 0))
def wkI:En->Ou:=du 6 (op2 fZ (aC 6) (opA j6 (aB wkC aH)))
def wkL:En->Rs D:=lcD (dM (aC 3)) [none,some 6] (gnm 0) (tsb (op2 (inR true) (aC 0) (aC 1))) (bV (aC 0))
def wkB:En->Ou:=aq (du 6 (bW (aB (aC 5) aH))) (aq (iK (fQ gr (aB (aC 0) aH)) (gnm 7) wkI) (aq (vQ 3 wkL) (rC 4 (opA mj (aB (aC 6) (aB (op1 aGb (aC 6)) aH))))))
def wkT:En->Rs Bool:=aIZ (tsb (op2 (inR false) (aC 5) (rJ 3))) (tsb (op2 ltD (opA lr (aB (op2 ixD (aC 2) (aC 5)) aH)) (cD (.int 2))))
def eO:En->Ou:=aq (du 2 (ak gf (aB (bW (aB (aC 0) (aB (aC 1) aH))) aH))) (aq (vQ 3 (lrD (aC 0))) (aq (oM 4 (jd aH)) (aq (iK (fQ gr (aB (aC 0) aH)) (gnm 5) (ifS wkT wkB Ou.nx)) (retS (opA j6 (aB (opA vM (aB (zO 4) aH)) aH))))))
def bT:List D->Rs D:=fL 8 eO
def ipE:En->Ou:=ifS (orT (uN (tst (op1 (my "tuple") (aC 1)))) (tsb (op2 (eqR true) (opA lr (aB (aC 1) aH)) (cD (.int 2))))) (retS (cD (.bl false))) Ou.nx
def iW:En->Ou:=aq ipE (retS (yI (ak fG (aB (aC 0) (aB (op2 ixD (aC 1) (cD (.int 0))) aH))) (yI (ak fG (aB (aC 0) (aB (op2 ixD (aC 1) (cD (.int 1))) aH))) (op2 (eqR true) (op2 ixD (aC 1) (cD (.int 0))) (op2 ixD (aC 1) (cD (.int 1)))))))
def kZ:List D->Rs D:=fL 2 iW
def erC:En->Rs D:=aDK (dM (aC 5)) [none,none,some 1,some 4] (gnm 0) jO (inL (dM (op2 aAn (aC 2) (bW (aB (aC 3) (aB (aC 0) aH))))) (gnm 1) jO (bV (aC 1)))
def erV:En->Rs D:=ifD (tsb (op2 (eqR false) (aC 4) (cD (.int 0)))) (jd (aB (bV (aC 3)) aH)) (opA mK (aB (rJ 6) aH))
def erB:En->Ou:=aq (vQ 6 erC) (ptS 1 (bW (aB (aC 2) (aB (aC 3) aH))) erV)
def erG:D->En->Rs En:=fj 4 (aj (gnm 2) (aj (gnm 3) (aj (gnm 4) (aj (gnm 5) gH))))
def cZ:En->Ou:=aq (oM 1 (cD (.dct [] []))) (aq (iK (dM (ak nP (aB (aC 0) aH))) erG erB) (retS (qJ 1)))
def dm:List D->Rs D:=fL 7 cZ
def bB:En->Ou:=
  (aq (ifS (uN (tst (op1 (my "tuple") (aC 1))))
   (retS (cD (.bl false)))
   Ou.nx)
  (aq (iK (dM (aC 1)) (gnm 2)
   (ifS (uN (tst (ak kZ (aB (aC 0) (aB (aC 2) aH)))))
    (retS (cD (.bl false)))
    Ou.nx))
  (retS (ak fK (aB (aC 1) aH)))))
def bJ:List D->Rs D:=fL 3 bB
def gQ:En->Ou:=
  (retS (yI (ak bJ (aB (aC 0) (aB (aC 1) aH))) (opA (aAg λ bs=>bs.all id) (aB (lcD (dM (aC 1)) [none,none] (fj 2 (aj (gnm 0) (aj (gnm 1) gH))) jO (op2 ltD (aC 0) (aC 1))) aH))))
def lW:List D->Rs D:=fL 2 gQ
def jF:En->Ou:=
  (aq (ifS (orT (uN (tst (op1 (my "tuple") (aC 0)))) (tsb (op2 (eqR true) (opA lr (aB (aC 0) aH)) (cD (.int 2)))))
   (retS (cD (.bl false)))
   Ou.nx)
  (retS (yI (ak oK (aB (op2 ixD (aC 0) (cD (.int 0))) aH)) (ak lW (aB (op2 ixD (aC 0) (cD (.int 0))) (aB (op2 ixD (aC 0) (cD (.int 1))) aH))))))
def kY:List D->Rs D:=fL 1 jF
def dh:En->Ou:=
  (ifS (uN (tst (ak kY (aB (aC 0) aH))))
   (v7 "NoWeb" (aB (cD (.str "this is no web")) aH))
   Ou.nx)
def dq:List D->Rs D:=fL 1 dh
def ctI:En->Ou:=ifS (tsb (op2 gtD (op2 ixD (aC 0) (cD (.int 0))) (cD (.int 10)))) (v7 "TooMany" (aB (cD (.str "only webs of at most ten places are tried")) aH)) Ou.nx
def cJ:En->Ou:=aq (aBs (ak dq (aB (aC 0) aH))) ctI
def bZ:List D->Rs D:=fL 1 cJ
def thC:En->Rs D:=aDK (fQ gr (aB (op2 ixD (aC 0) (cD (.int 0))) aH)) [none,none,some 2,some 1] (gnm 0) jO (inL (dM (op2 aAn (aC 2) (bW (aB (aC 3) (aB (aC 0) aH))))) (gnm 1) (tsb (op2 leD (aC 0) (aC 1))) (bW (aB (bV (aC 0)) (aB (bV (aC 1)) aH))))
def bA:En->Ou:=aq (aBs (ak bZ (aB (aC 0) aH))) (aq (du 1 (op2 rM (op2 aAw (cD (.int 1)) (op2 ixD (aC 0) (cD (.int 0)))) (cD (.int 1)))) (aq (du 2 (ak dm (aB (aC 0) aH))) (retS thC)))
def aR:List D->Rs D:=fL 3 bA
def lwR:En->Rs (List D):=(fQ gr (aB (opA (mmD λ i j=>if j>i then j else i) (aB (cD (.int 1)) (aB (opA (mmD λ i j=>if j<i then j else i) (aB (opA lr (aB (aC 0) aH)) (aB (cD (.int 4)) aH))) aH))) aH))
def lQ0:En->Ou:=(du 2 (ak eY (aB (aC 0) (aB (aC 1) aH))))
def lQ1:En->Ou:=(du 3 (ak kW (aB (aC 2) (aB (cD (.int 6)) aH))))
def lQ2:En->Ou:=(vQ 4 (lcD (dM (ak jL (aB (aC 3) aH))) [none,some 3] (gnm 0) (tsb (op2 (eqR false) (opA lr (aB (aC 0) aH)) (op2 rM (op2 ixD (aC 1) (cD (.int 0))) (cD (.int 1))))) (ak bT (aB (op2 ixD (aC 1) (cD (.int 0))) (aB (aC 0) aH)))))
def lQ3:En->Ou:=(vQ 5 (opA mL (aB (lcD (dM (aC 4)) [none] (gnm 0) jO (bW (aB (opA (mmD λ i j=>if j<i then j else i) (aB (op2 ixD (op2 ixD (aC 0) (cD (.int 0))) (cD (.int 0))) (aB (op2 ixD (op2 ixD (aC 0) (cD (.int 0))) (op1 xu (cD (.int 1)))) aH))) (aB (opA (mmD λ i j=>if j>i then j else i) (aB (op2 ixD (op2 ixD (aC 0) (cD (.int 0))) (cD (.int 0))) (aB (op2 ixD (op2 ixD (aC 0) (cD (.int 0))) (op1 xu (cD (.int 1)))) aH))) aH)))) aH)))
def lQ4:En->Ou:=(iK (fQ gr (aB (cD (.int 2)) aH)) (gnm 6) (aq (oM 7 (ak aR (aB (aC 3) aH))) (aq (ifS (orT (uN (tst (op1 (my "list") (zO 7)))) (tsb (op2 (eqR true) (zO 7) (rJ 5)))) (retS (cD (.bl false))) Ou.nx) (rC 7 (bW aH)))))
def lQ5:En->Ou:=(ifS (tsb (op2 (eqR true) (aFG wdN "told" (ak aR (aB (bW (aB (op2 fZ (cD (.int 11)) (ak bU (aB (aC 2) (aB (cD (.int 9000)) (aB (cD (.int 50)) aH))))) (aB (bW aH) aH))) aH))) (cD (.str "many")))) (retS (cD (.bl false))) Ou.nx)
def lQ6:En->Ou:=(ifS (tsb (op2 (eqR true) (aFG wdN "told" (ak aR (aB (jd (aB (op2 ixD (aC 3) (cD (.int 0))) (aB (op2 ixD (aC 3) (cD (.int 1))) aH))) aH))) (cD (.str "web")))) (retS (cD (.bl false))) Ou.nx)
def lwK:En->Ou:=aq lQ0 (aq lQ1 (aq lQ2 (aq lQ3 (aq lQ4 (aq lQ5 lQ6)))))
def lwZ:En->Rs D:=(yI (op2 (eqR false) (ak aR (aB (bW (aB (cD (.int 1)) (aB (bW aH) aH))) aH)) (jd (aB (bW (aB (cD (.int 0)) (aB (cD (.int 0)) aH))) aH))) (op2 (eqR false) (ak aR (aB (bW (aB (cD (.int 0)) (aB (bW aH) aH))) aH)) (jd aH)))
def xO:En->Ou:=aq (iK lwR (gnm 1) lwK) (retS lwZ)
def aI7:List D->Rs D:=fL 8 xO
theorem yt(hb:0<b)(hb2:b<1073741824):∀(ds:List D) (x:Int) (s:Slot),(∀d∈ds,∃n:Int,d= .int n)->
  (∃y s',forL (gnm 4) (aq (ifS (tsb (op2 (eqR false) (aC 3) (cD (.int 0)))) (retS (cD (.int 0))) Ou.nx) (du 3 (op2 tU (aC 3) (aC 2)))) ds [.sh (.int c),.sh (.int k),.sh (.int b),.sh (.int x),s,.no]= .nx [.sh (.int c),.sh (.int k),.sh (.int b),.sh (.int y),s',.no])\/
  forL (gnm 4) (aq (ifS (tsb (op2 (eqR false) (aC 3) (cD (.int 0)))) (retS (cD (.int 0))) Ou.nx) (du 3 (op2 tU (aC 3) (aC 2)))) ds [.sh (.int c),.sh (.int k),.sh (.int b),.sh (.int x),s,.no]= .rt (.int 0)
 |[],x,s,_=>.inl ⟨x,s,rfl⟩
 |d::ds,x,s,h=>by
  have ih:=yt hb hb2 (c:=c) (k:=k) ds (x / b) (.sh d) λ e he=>h e (zAG _ he)
  rw[iU];by_cases hx:x=0
  .subst hx
   right;simp
  .simp[hx,yg hb hb2]
   exact ih
def aE9(hk0:0<=k)(hk1:k<2^40)(hb:0<b)(hb2:b<1073741824):∃r:Int,bU [.int c,.int k,.int b]= .ok (.int r)/\0<=r/\r<b:=by
 have hp:aLk (.int 10) (.int 18)= .ok (.int 1000000000000000000):=rfl;by_cases hc:(1000000000000000000:Int)<=c
 .have hr:=fU (j:=k) (by lia) (by lia)
  have hl:=yt hb hb2 (c:=c) (k:=k) (cU 0 k) c .no λ d hd=>let⟨n,e,_⟩:=aBY.mp hd;⟨n,e⟩
  rcases hl with ⟨y,s',e⟩|e
  .refine⟨y%b,?_,zDu _ (by lia),zDV _ hb⟩
   simp[bU,dZ,ao,hp,hc,hr,e,m9 hb]
  .refine⟨0,?_,by lia,hb⟩
   simp[bU,dZ,ao,hp,hc,hr,e]
 .have s1:∀z:Int,0<=z%2147483647/\z%2147483647<2147483647:=λ z=>⟨zDu _ (by decide),zDV _ (by decide)⟩
  have s2:∀z:Int,0<=z%2147483629/\z%2147483629<2147483629:=λ z=>⟨zDu _ (by decide),zDV _ (by decide)⟩
  have m1:∀z,jr (.int 1009) (.int z)= .ok (.int (1009*z)):=λ z=>aAL (by decide) (by decide)
  have m2:∀z,jr (.int z) (.int 69621)= .ok (.int (z*69621)):=λ z=>aHT (by decide) (by decide)
  have m3:∀z,jr (.int 40503) (.int z)= .ok (.int (40503*z)):=λ z=>aAL (by decide) (by decide)
  have m4:∀z,jr (.int z) (.int 48271)= .ok (.int (z*48271)):=λ z=>aHT (by decide) (by decide)
  have m5:∀z:Int,jr (.int (z%2147483647)) (.int (z%2147483647))= .ok (.int (z%2147483647*(z%2147483647))):=λ z=>aAL (by have:=s1 z;lia) (by have:=s1 z;lia)
  have d1:∀z,sS (.int z) (.int 1000000007)= .ok (.int (z%1000000007)):=λ z=>m9 (by decide)
  have d2:∀z,sS (.int z) (.int 2147483647)= .ok (.int (z%2147483647)):=λ z=>m9 (by decide)
  have d3:∀z,sS (.int z) (.int 2147483629)= .ok (.int (z%2147483629)):=λ z=>m9 (by decide)
  have d4:∀z,tU (.int z) (.int 32)= .ok (.int (z / 32)):=λ z=>yg (by decide) (by decide)
  have d5:∀z,sS (.int z) (.int b)= .ok (.int (z%b)):=λ z=>m9 hb
  simp[bU,dZ,ao,hp,hc,m1,m2,m3,m4,m5,d1,d2,d3,d4,d5,-Int.emod_emod_of_dvd];exact⟨zDu _ (by lia),zDV _ hb⟩
def aA0(hk0:0<=k)(hk1:k<2^40)(hb:0<b)(hb2:b<1073741824):∃r:Nat,bU [.int c,.int k,.int b]= .ok (.int r)/\(r:Int)<b:=by
 obtain⟨r,e,h0,h1⟩:=aE9 (c:=c) hk0 hk1 hb hb2;exact⟨r.toNat,by rw[zBa h0];exact e,by lia⟩
def aKS(h:0<=k):∃c:Int,eY [.scr ns,.int k]= .ok (.int c):=by
 by_cases hk:k<ns.length
 .obtain⟨d,e,hm,_⟩:=aNH (l:=ns.map .int) (i:=k) h (by simpa using hk)
  obtain⟨c,_,rfl⟩:=zA0.mp hm;exact⟨c,by simp[eY,cR,ao,hk,e]⟩
 .exact⟨0,by simp[eY,cR,ao,hk]⟩
mutual
def pln:D->Bool
 | .tup l=>sG l
 | .lst l=>sG l
 | .set _=>false
 | .scr _=>false
 | .fn _=>false
 |_=>true
def sG:List D->Bool
 |[]=>true
 |d::r=>pln d&&sG r
end
def ul(h:pln d=true):knd d=true:=by cases d<;>first|rfl|(simp[pln]at h)
theorem aBR:∀{l:List D} {d:D},sG l=true->d∈l->pln d=true
 |x::r,d,h,hm=>by
  simp only[sG,zAL]at h;rcases zAP.mp hm with rfl|hm
  .exact h.1
  .exact aBR h.2 hm
theorem aEB:∀{l:List D},(∀d∈l,pln d=true)->sG l=true
 |[],_=>rfl
 |x::r,h=>by
  simp only[sG,zAL];exact⟨h x (zAF ..),aEB λ d hd=>h d (zAG _ hd)⟩
def aCU:D->Bool
 | .int _=>true
 |_=>false
def aEO:D->Bool
 | .int i=>decide (0<=i)&&decide (i<=60)
 |_=>false
def gC(m:Int):D->Bool
 | .int i=>decide (0<=i)&&decide (i<m)
 |_=>false
def tQ(h:knd d=true):jM [d]= .ok (.bl (aCU d)):=by
 simp[jM,gM,ao,aJo h,aHf h];cases d<;>rfl
def aDS(h:knd d=true):oK [d]= .ok (.bl (aEO d)):=by
 simp[oK,iY,ao,tQ h];cases d<;>simp[aCU,aEO]
 rename_i i;by_cases h0:0<=i<;>simp[h0]
def tR(h:knd d=true):fG [.int m,d]= .ok (.bl (gC m d)):=by
 simp[fG,gO,ao,tQ h];cases d<;>simp[aCU,gC]
 rename_i i;by_cases h0:0<=i<;>simp[h0]
def iw(m:Int):D->Bool
 | .tup [.int a,.int b]=>decide (0<=a)&&decide (a<m)&&decide (0<=b)&&decide (b<m)&& !(a==b)
 |_=>false
def yU(h:gC m d=true):∃i:Int,d= .int i/\0<=i/\i<m:=by
 cases d with
 |int i=>simp[gC]at h;exact⟨i,rfl,h.1,h.2⟩
 |_=>simp[gC]at h
def aGC(h:sV d=true):∃l,d= .tup l:=by cases d<;>first|exact⟨_,rfl⟩|(cases h)
def aLQ(h:l.length=2):∃x y,l=[x,y]:=by
 match l,h with
 |[x,y],_=>exact⟨x,y,rfl⟩
def aHL(h:sV d=false):iw m d=false:=by cases d<;>first|rfl|(cases h)
def aFM(h:l.length≠2):iw m (.tup l)=false:=by
 match l,h with
 |[],_=>rfl
 |[x],_=>cases x<;>rfl
 |[x,y],h=>exact absurd rfl h
 |x::y::z::r,_=>cases x<;>first|rfl|(cases y<;>rfl)
def aJW(h:gC m x=false):iw m (.tup [x,y])=false:=by
 cases x with
 |int i=>
  cases y with
  |int j=>
   show((((decide (0<=i)&&decide (i<m))&&decide (0<=j))&&decide (j<m))&& !(i==j))=false
   rw[show(decide (0<=i)&&decide (i<m))=false from h];rfl
  |_=>rfl
 |_=>rfl
def aJV(h:gC m y=false):iw m (.tup [.int i,y])=false:=by
 cases y with
 |int j=>
  show((((decide (0<=i)&&decide (i<m))&&decide (0<=j))&&decide (j<m))&& !(i==j))=false
  rw[zG2 (decide (0<=i)&&decide (i<m)),show(decide (0<=j)&&decide (j<m))=false from h,zFA];rfl
 |_=>rfl
def aHK(h1:gC m (.int i)=true)(h2:gC m (.int j)=true):iw m (.tup [.int i,.int j])= !(i==j):=by
 show((((decide (0<=i)&&decide (i<m))&&decide (0<=j))&&decide (j<m))&& !(i==j))= !(i==j)
 rw[zG2 (decide (0<=i)&&decide (i<m)),show(decide (0<=j)&&decide (j<m))=true from h2,show(decide (0<=i)&&decide (i<m))=true from h1];rfl
def aMd(hk:knd d=true)(h:sV d=false):ipE [s,.sh d]= .rt (.bl false):=by simp[ipE,oF hk,h]
def aJr(h:l.length≠2):ipE [s,.sh (.tup l)]= .rt (.bl false):=by
 have:¬((l.length:Int)=2):=by omega
 simp[ipE,this]
def aJq:ipE [s,.sh (.tup [x,y])]= .nx [s,.sh (.tup [x,y])]:=by simp[ipE]
def aDR(h:pln d=true):kZ [.int m,d]= .ok (.bl (iw m d)):=by
 have st:ao 2 [.int m,d]=[.sh (.int m),.sh d]:=rfl;simp only[kZ,iW,bL,st];cases ht:sV d with
 |false=>rw[aU,aMd (ul h) ht,aHL ht];rfl
 |true=>
  obtain⟨l,rfl⟩:=aGC ht;by_cases hl:l.length=2
  .obtain⟨x,y,rfl⟩:=aLQ hl
   simp only[pln,sG,zAL]at h;have hx:=tR (m:=m) (ul h.1);have hy:=tR (m:=m) (ul h.2.1);have ex:ak fG (aB (aC 0) (aB (op2 ixD (aC 1) (cD (.int 0))) aH)) [.sh (.int m),.sh (.tup [x,y])]= .ok (.bl (gC m x)):=by simp[hx]
   have ey:ak fG (aB (aC 0) (aB (op2 ixD (aC 1) (cD (.int 1))) aH)) [.sh (.int m),.sh (.tup [x,y])]= .ok (.bl (gC m y)):=by simp[hy]
   rw[aU,aJq,bK,qY,uz,ex,aQ,aEh,uz,ey,aQ,aEh];cases c1:gC m x with
   |false=>rw[aJW c1];rfl
   |true=>
    obtain⟨i,rfl,_,_⟩:=yU c1;cases c2:gC m y with
    |false=>rw[aJV c2];rfl
    |true=>
     obtain⟨j,rfl,_,_⟩:=yU c2;rw[aHK c1 c2];rfl
  .rw[aU,aJr hl,aFM hl];rfl
def pD(p:Int×Int):D:=.tup [.int p.1,.int p.2]
def ltP(p q:Int×Int):Bool:=HT.lexLt [p.1,p.2] [q.1,q.2]
def uK:gX->Bool
 |[]=>true
 |[_]=>true
 |p::q::r=>ltP p q&&uK (q::r)
def aMZ(p q:Int×Int):ltD (pD p) (pD q)= .ok (.bl (ltP p q)):=aJe [p.1,p.2] [q.1,q.2]
theorem sY:∀(ds:List D) (ok:Nat->Bool) (I:En->Prop) (Y:En),I Y->(∀(i:Nat) d Y,ds[i]? =some d->I Y->okE (a d Y) u= .rt r/\ok i=false\/∃Y',okE (a d Y) u= .nx Y'/\I Y'/\ok i=true)->
  (forL a u ds Y= .rt r/\∃i,i<ds.length/\ok i=false)\/(∃Y',forL a u ds Y= .nx Y'/\I Y'/\∀i,i<ds.length->ok i=true)
 |[],ok,I,Y,h,_=>.inr ⟨Y,rfl,h,λ i hi=>absurd hi (Nat.not_lt_zero _)⟩
 |d::ds,ok,I,Y,h,hs=>by
  rw[iU];rcases hs 0 d Y rfl h with ⟨e,o⟩|⟨Y',e,h',o⟩
  .left
   refine⟨?_,0,by simp,o⟩;cases ea:a d Y with
   |ok Y1=>rw[ea]at e;simp at e ⊢;rw[e];rfl
   |ex c=>rw[ea]at e;cases e
   |st=>rw[ea]at e;cases e
  .have ih:=sY ds (λ i=>ok (i+1)) I Y' h' λ i d2 Y2 e2 h2=>hs (i+1) d2 Y2 (by simpa using e2) h2
   have e3:okE (a d Y) (λ Y1=>(u Y1).tn (forL a u ds))=forL a u ds Y':=by
    cases ea:a d Y with
    |ok Y1=>rw[ea]at e;simp at e ⊢;rw[e];rfl
    |ex c=>rw[ea]at e;cases e
    |st=>rw[ea]at e;cases e
   rw[e3];rcases ih with ⟨e4,i,hi,o4⟩|⟨Y4,e4,h4,o4⟩
   .exact .inl ⟨e4,i+1,by simpa using hi,o4⟩
   .refine .inr ⟨Y4,e4,h4,λ i hi=>?_⟩
    cases i with
    |zero=>exact o
    |succ i=>exact o4 i (by simpa using hi)
def mZ{i:Nat}(h:(cU lo hi)[i]? =some d):d= .int (lo+i)/\lo+i<hi:=by
 unfold cU at h;rw[zAW]at h;by_cases hi2:i<(hi-lo).toNat
 .rw[zFM hi2]at h
  cases h;exact⟨rfl,by omega⟩
 .rw[zEm (by simpa using hi2)]at h
  cases h
def gq:(cU lo hi).length=(hi-lo).toNat:=by unfold cU;simp
section
variable{α:Type}{f:α->D}{lt:α->α->Bool}
def v5(lt:α->α->Bool):List α->Bool
 |[]=>true
 |[_]=>true
 |p::q::r=>lt p q&&v5 lt (q::r)
theorem qX:∀{ps:List α},v5 lt ps=true↔∀(i:Nat) (p q:α),ps[i]? =some p->ps[i+1]? =some q->lt p q=true
 |[]=>by simp[v5]
 |[x]=>by
  simp only[v5,true_iff];intro i p q _ h2;simp at h2
 |x::y::r=>by
  have ih:=qX (ps:=y::r);unfold v5;rw[zAL,ih];constructor
  .rintro⟨h1,h2⟩ i p q e1 e2
   cases i with
   |zero=>simp at e1 e2;subst e1 e2;exact h1
   |succ i=>exact h2 i p q (by simpa using e1) (by simpa using e2)
  .intro h
   exact⟨h 0 x y rfl rfl,λ i p q e1 e2=>h (i+1) p q (by simpa using e1) (by simpa using e2)⟩
def aBf(hlt:∀a b,ltD (f a) (f b)= .ok (.bl (lt a b)))(hl:ps.length<=100000):fK [.tup (ps.map f)]= .ok (.bl (v5 lt ps)):=by
 have hr:=zu (i:=1) (j:=(ps.length:Int)) (by decide) (by decide) (by omega) (by omega);have kK:(cU 1 (ps.length:Int)).length=ps.length-1:=by rw[gq];omega
 have L:=sY (a:=gnm 1) (u:=ifS (uN (tsb (op2 ltD (op2 ixD (aC 0) (op2 rM (aC 1) (cD (.int 1)))) (op2 ixD (aC 0) (aC 1))))) (retS (cD (.bl false))) Ou.nx) (r:=.bl false)
  (cU 1 (ps.length:Int)) (λ i=>match ps[i]?,ps[i+1]? with|some p,some q=>lt p q|_,_=>true) (λ Y=>∃s,Y=[.sh (.tup (ps.map f)),s]) [.sh (.tup (ps.map f)),.no] ⟨_,rfl⟩ (by
   rintro i d Y hd ⟨s,rfl⟩;obtain⟨rfl,h2⟩:=mZ hd;have e1:ps[i]? =some ps[i]:=zAH (by omega);have e2:ps[i+1]? =some ps[i+1]:=zAH (by omega);have a1:atD (ps.map f) (1+(i:Int)-1)= .ok (f ps[i]):=by
    rw[show(1+(i:Int)-1)=(i:Int)by omega];exact jX (by rw[zAW,e1];rfl)
   have a2:atD (ps.map f) (1+(i:Int))= .ok (f ps[i+1]):=by
    rw[show(1+(i:Int))=((i+1:Nat):Int)by omega];exact jX (by rw[zAW,e2];rfl)
   simp only[e1,e2];cases c:lt ps[i] ps[i+1]with
   |true=>right;exact⟨_,by simp[a1,a2,hlt,c];rfl,⟨_,rfl⟩,rfl⟩
   |false=>left;exact⟨by simp[a1,a2,hlt,c],rfl⟩)
 have st:ao 2 [.tup (ps.map f)]=[.sh (.tup (ps.map f)),.no]:=rfl;rcases L with ⟨e,i,hi,o⟩|⟨Y',e,⟨s,rfl⟩,o⟩
 .have:v5 lt ps=false:=by
   cases c:v5 lt ps with
   |false=>rfl
   |true=>
    rw[kK]at hi;have z:=qX.mp c i ps[i] ps[i+1] (zAH (by omega)) (zAH (by omega));rw[zAH (by omega),zAH (by omega)]at o;simp only at o;rw[z]at o;cases o
  rw[this];simp only[fK,dg,bL,st];simp[hr,e]
 .have:v5 lt ps=true:=qX.mpr λ i p q e1 e2=>by
   have h2:=(zAK.mp e2).1
   have:=o i (by rw[kK];omega)
   rw[e1,e2]at this;exact this
  rw[this];simp only[fK,dg,bL,st];simp[hr,e]
end
theorem aCg:∀ps:gX,uK ps=v5 ltP ps
 |[]=>rfl
 |[_]=>rfl
 |p::q::r=>by unfold uK v5;rw[aCg (q::r)]
def aAV(hl:ps.length<=100000):fK [.tup (ps.map pD)]= .ok (.bl (uK ps)):=by
 rw[aCg];exact aBf aMZ hl
def zx:uK ps=true↔∀(i:Nat) (p q:Int×Int),ps[i]? =some p->ps[i+1]? =some q->ltP p q=true:=by rw[aCg];exact qX
def aJL:D->Int×Int
 | .tup [.int a,.int b]=>(a,b)
 |_=>(0,0)
def aCt(h:iw m d=true):∃a b:Int,d= .tup [.int a,.int b]/\0<=a/\a<m/\0<=b/\b<m/\a≠b:=by
 unfold iw at h;split at h
 .rename_i a b
  simp at h;exact⟨a,b,rfl,h.1.1.1.1,h.1.1.1.2,h.1.1.2,h.1.2,h.2⟩
 .cases h
theorem aKs:∀{ts:List D},ts.all (iw m)=true->(ts.map aJL).map pD=ts
 |[],_=>rfl
 |t::ts,h=>by
  rw[zJF,zAL]at h;obtain⟨a,b,rfl,_⟩:=aCt h.1;simp only[zAM];rw[aKs h.2];rfl
def rpB(m:Int):D->Bool
 | .tup ts=>ts.all (iw m)&&uK (ts.map aJL)
 |_=>false
def aL2:D->Bool
 | .tup l=>decide (l.length<=100000)
 |_=>true
def oV(h:pln d=true)(hs:aL2 d=true):bJ [.int m,d]= .ok (.bl (rpB m d)):=by
 cases d with
 |tup ts=>
  have hp:sG ts=true:=by simpa[pln]using h
  have hl:ts.length<=100000:=by simpa[aL2]using hs
  have L:=sY (a:=gnm 2) (u:=ifS (uN (tst (ak kZ (aB (aC 0) (aB (aC 2) aH))))) (retS (cD (.bl false))) Ou.nx) (r:=.bl false)
   ts (λ i=>match ts[i]? with|some t=>iw m t|none=>true) (λ Y=>∃s,Y=[.sh (.int m),.sh (.tup ts),s]) [.sh (.int m),.sh (.tup ts),.no] ⟨_,rfl⟩ (by
    rintro i d Y hd ⟨s,rfl⟩;have e:=aDR (m:=m) (aBR hp (zBA hd));simp only[hd];cases c:iw m d with
    |true=>right;exact⟨_,by simp[e,c];rfl,⟨_,rfl⟩,rfl⟩
    |false=>left;exact⟨by simp[e,c],rfl⟩)
  have st:ao 3 [.int m,.tup ts]=[.sh (.int m),.sh (.tup ts),.no]:=rfl;rcases L with ⟨e,i,hi,o⟩|⟨Y',e,⟨s,rfl⟩,o⟩
  .have:ts.all (iw m)=false:=by
    rw[List.all_eq_false];rw[zAH hi]at o;exact⟨ts[i],zDd hi,by simpa using o⟩
   simp only[bJ,bB,bL,st];simp[e,rpB,this]
  .have:ts.all (iw m)=true:=by
    rw[zAt];intro t ht;obtain⟨i,hi,rfl⟩:=zHd ht
    have:=o i hi
    rw[zAH hi]at this;exact this
   have er:=aAV (ps:=ts.map aJL) (by rw[zAD];exact hl);rw[aKs this]at er;simp only[bJ,bB,bL,st];simp[e,rpB,this,er]
 |_=>simp[bJ,bB,ao,oF (ul h),sV,rpB]
structure Ow(n:Int)(ps:gX):Prop where
 n0:0<=n
 n1:n<=60
 len:ps.length<=3600
 pr:∀p∈ps,0<=p.1/\p.1<n/\0<=p.2/\p.2<n/\p.1≠p.2
 ris:uK ps=true
def owD(n:Int)(ps:gX):D:=.tup [.int n,.tup (ps.map pD)]
def Ow.rp(h:Ow n ps):rpB n (.tup (ps.map pD))=true:=by
 have e:(ps.map pD).map aJL=ps:=by rw[zAv];exact(zFN λ p _=>rfl).trans (List.map_id ps)
 unfold rpB;dsimp only;rw[e,h.ris,zFW,zAt];intro d hd;obtain⟨p,hp,rfl⟩:=zA0.mp hd;obtain⟨a,b,c,d,e⟩:=h.pr p hp;simp[pD,iw,a,b,c,d,e]
theorem aEA:∀ps:gX,sG (ps.map pD)=true
 |[]=>rfl
 |p::ps=>by simp only[zAM,sG,aEA ps,zFW];rfl
theorem aBu:∀ns:List Int,gA (ns.map .int)=0/\bH (ns.map .int)=true
 |[]=>⟨rfl,rfl⟩
 |n::ns=>by
  obtain⟨h1,h2⟩:=aBu ns;simp[gA,lw,bH,au,h1,h2]
def aAW(neg:Bool)(y:Int)(ns:List Int):inR neg (.int y) (.lst (ns.map .int))= .ok (.bl (if neg then !decide (y∈ns)else decide (y∈ns))):=by
 obtain⟨h1,h2⟩:=aBu ns;have e:inD (.int y) (ns.map .int)=decide (y∈ns):=by
  unfold inD;rw[zDo];simp[zE4,eqD]
 unfold inR;dsimp only;rw[h1,h2,e];rfl
def aAc(f:α->Bool)(l:List α):boolsOf (l.map λ x=>D.bl (f x))=some (l.map f):=by
 have:=uF (l.map f)
 rwa [zAv]at this
def aI0(f:α->Bool)(l:List α):aAg (λ bs=>bs.all id) [.lst (l.map λ x=>D.bl (f x))]= .ok (.bl (l.all f)):=by
 unfold aAg;dsimp only;rw[aAc];dsimp only;rw[zJW];rfl
theorem lN:∀(l:List α),(∀x∈l,∃Y1,fg (f x) Y= .ok Y1/\ft Y1= .ok (t x)/\fe Y1= .ok (g x))->lcL Y fg ft fe (l.map f)= .ok ((l.filter t).map g)
 |[],_=>rfl
 |x::l,h=>by
  obtain⟨Y1,e1,e2,e3⟩:=h x zAF;have ih:=lN l λ y hy=>h y (zAG _ hy)
  rw[zAM];unfold lcL;rw[e1,aQ,e2,aQ,e3,aQ,ih,aQ,zBU];cases t x<;>rfl
theorem aKz{Y:En}:∀(ps:gX),lcL [.no,.no] (fj 2 (aj (gnm 0) (aj (gnm 1) gH))) jO (op2 ltD (aC 0) (aC 1)) (ps.map pD)= .ok (ps.map λ p=>.bl (decide (p.1<p.2)))
 |[]=>rfl
 |p::ps=>by
  unfold lcL;simp[pD,aKz (Y:=Y) ps]
def aCH{n:Int}(h:Ow n ps)(low:∀p∈ps,p.1<p.2):lW [.int n,.tup (ps.map pD)]= .ok (.bl true):=by
 have hl:=h.len;have e:=oV (m:=n) (d:=.tup (ps.map pD)) (by simpa[pln]using aEA ps) (by simp[aL2];lia);rw[h.rp]at e;have el:=aKz (Y:=[]) ps;have ei:lcD (dM (aC 1)) [none,none] (fj 2 (aj (gnm 0) (aj (gnm 1) gH))) jO (op2 ltD (aC 0) (aC 1)) [.sh (.int n),.sh (.tup (ps.map pD))]= .ok (.lst (ps.map λ p=>.bl (decide (p.1<p.2)))):=by
  have hi:dM (aC 1) (shE [.sh (.int n),.sh (.tup (ps.map pD))])= .ok (ps.map pD):=by simp[shE,mD]
  unfold lcD;rw[hi,aQ,if_pos (by rw[szl,zAD];lia)]
  show(match lcL [.no,.no] _ jO _ (ps.map pD)with| .ok l=>Rs.ok (D.lst l)|_=>Rs.st)=_
  rw[el]
 have ha:opA (aAg λ bs=>bs.all id) (aB (lcD (dM (aC 1)) [none,none] (fj 2 (aj (gnm 0) (aj (gnm 1) gH))) jO (op2 ltD (aC 0) (aC 1))) aH) [.sh (.int n),.sh (.tup (ps.map pD))]= .ok (.bl true):=by
  rw[pQ,cM,ei,aQ,jV,aQ,aQ,aI0,fW];rw[zAt.mpr λ p hp=>decide_eq_true (low p hp)]
 have st:ao 2 [.int n,.tup (ps.map pD)]=[.sh (.int n),.sh (.tup (ps.map pD))]:=rfl;have ec:ak bJ (aB (aC 0) (aB (aC 1) aH)) [.sh (.int n),.sh (.tup (ps.map pD))]= .ok (.bl true):=by rw[qy];exact e
 simp only[lW,gQ,bL,st];rw[qY,uz,ec,ha];rfl
def aF7(h:Ow n ps)(low:∀p∈ps,p.1<p.2):kY [owD n ps]= .ok (.bl true):=by
 have e1:=aDS (d:=.int n) rfl;have e2:=aCH h low;have e3:aEO (.int n)=true:=by simp[aEO,h.n0,h.n1]
 rw[e3]at e1;simp[kY,jF,owD,ao,e1,e2]
def mq(h1:fi (shE Y)= .ok ds)(h2:ds.length<16777216)(h3:lcL (stE js (shE Y)) fg ft fe ds= .ok out):lcD fi js fg ft fe Y= .ok (.lst out):=by
 unfold lcD;rw[h1,aQ,if_pos (by rw[szl];exact h2),h3]
def wK(l:List α)(h:∀x∈l,∃Y1,fg (f x) Y= .ok Y1/\fe Y1= .ok (g x)):lcL Y fg jO fe (l.map f)= .ok (l.map g):=by
 have:=lN (Y:=Y) (fg:=fg) (ft:=jO) (fe:=fe) (f:=f) (g:=g) (t:=λ _=>true) l λ x hx=>by
  obtain⟨Y1,h1,h2⟩:=h x hx;exact⟨Y1,h1,rfl,h2⟩
 rwa [zFL.mpr λ _ _=>rfl]at this
def aHh(neg:Bool)(y:Int)(ns:List Int):inR neg (.int y) (.tup (ns.map .int))= .ok (.bl (if neg then !decide (y∈ns)else decide (y∈ns))):=aAW neg y ns
def az(ll:fE)(p:Int×Int):fE:=ll.set p.1.toNat (ll.getD p.1.toNat []++[.int p.2])
theorem jy:∀(ps:gX) (ll:fE),(ps.foldl az ll).length=ll.length
 |[],_=>rfl
 |p::ps,ll=>by rw[zBI,jy ps];unfold az;rw[zBf]
def bD(ps:gX)(i:Int):List Int:=(ps.filter λ p=>p.1==i).map (·.2)
theorem sZ:∀(ps:gX) (ll:fE) (i:Nat),(∀p∈ps,0<=p.1/\p.1<ll.length)->i<ll.length->(ps.foldl az ll).getD i []=ll.getD i []++(bD ps i).map .int
 |[],ll,i,_,_=>by simp[bD]
 |p::ps,ll,i,h,hi=>by
  obtain⟨h0,h1⟩:=h p zAF;rw[zBI,sZ ps (az ll p) i (λ q hq=>by unfold az;rw[zBf];exact h q (zAG _ hq)) (by unfold az;rw[zBf];exact hi)];unfold az bD;by_cases c:p.1=i
  .have hk:p.1.toNat=i:=by lia
   rw[hk,List.filter_cons_of_pos (by simpa using c)];simp[hi]
  .have hk:p.1.toNat≠i:=by lia
   rw[List.filter_cons_of_neg (by simpa using c)];simp[zBX hk]
def gh:b∈bD ps a↔(a,b)∈ps:=by
 unfold bD;simp only[zA0,zAR];constructor
 .rintro⟨p,⟨h1,h2⟩,rfl⟩
  have:p.1=a:=by simpa using h2
  rw[<-this];exact h1
 .intro h
  exact⟨(a,b),⟨h,by simp⟩,rfl⟩
def dbl(ps:gX):gX:=ps.flatMap λ p=>[p,(p.2,p.1)]
def dD:(a,b)∈dbl ps↔(a,b)∈ps\/(b,a)∈ps:=by
 unfold dbl;simp only[zDe,zAP,zCR,or_false];constructor
 .rintro⟨p,hp,h|h⟩
  .rw[h];exact .inl hp
  .cases h;exact .inr hp
 .rintro(h|h)
  .exact⟨_,h,.inl rfl⟩
  .exact⟨_,h,.inr rfl⟩
def nM(p:Int×Int)(ps:gX):dbl (p::ps)=p::(p.2,p.1)::dbl ps:=rfl
def uy(hi:Y[i]? =some (.o2 ll))(hf:f Y= .ok (.int a))(hg:g Y= .ok (.int b))(h0:0<=a)(h1:a<ll.length)(hz:(ll.getD a.toNat []).length<16777216):
  iH i f g Y= .nx (Y.set i (.o2 (az ll (a,b)))):=by
 have hk:a.toNat<ll.length:=by lia
 have ha:at2 ll (.int a)=some (a.toNat,ll.getD a.toNat []):=by
  have hx:ixN ll.length a=some a.toNat:=by
   unfold ixN;rw[if_pos (by lia),if_pos (by lia)]
  simp only[at2,hx,zHs];rw[zAH hk];simp[hk]
 unfold iH;rw[hi];dsimp only;rw[hf,cT,ha];dsimp only;rw[hg,cT,if_pos (by rw[zBj];exact hz)];rfl
def ji(ll:fE)(p:Int×Int):(az ll p).length=ll.length:=by unfold az;rw[zBf]
def qL(h:∀l∈ll,l.length<=m):∀l∈az ll p,l.length<=m+1:=by
 intro l hl;unfold az at hl;rcases List.mem_or_eq_of_mem_set hl with z|z
 .exact Nat.le_succ_of_le (h l z)
 .subst z
  rw[zAZ,zB5]
  have:(ll.getD p.1.toNat []).length<=m:=by
   by_cases hk:p.1.toNat<ll.length
   .exact h _ (by simp[hk])
   .simp[zEm (zE9 hk)]
  lia
def ur{ll:fE}(h:∀l∈ll,l.length<=m)(k:Nat):(ll.getD k []).length<=m:=by
 by_cases hk:k<ll.length
 .exact h _ (by simp[hk])
 .simp[zEm (zE9 hk)]
def atB:En->Ou:=aq (iH 3 (aC 4) (bV (aC 5))) (iH 3 (aC 5) (bV (aC 4)))
theorem yN{w s1 s2:Slot}:∀(ps:gX) (ll:fE) (s4 s5:Slot),(∀p∈ps,0<=p.1/\p.1<ll.length/\0<=p.2/\p.2<ll.length)->(∀l∈ll,l.length+2*ps.length<=10000)->
  ∃s4' s5',forL (fj 2 (aj (gnm 4) (aj (gnm 5) gH))) atB (ps.map pD) [w,s1,s2,.o2 ll,s4,s5]= .nx [w,s1,s2,.o2 ((dbl ps).foldl az ll),s4',s5']
 |[],ll,s4,s5,_,_=>⟨s4,s5,rfl⟩
 |p::ps,ll,s4,s5,h,hl=>by
  obtain⟨a0,a1,b0,b1⟩:=h p zAF;have hb0:∀l∈ll,l.length<=10000-2*(ps.length+1):=λ l hm=>by
   have:=hl l hm
   rw[zAO]at this;lia
  have hb1:=qL (p:=p) hb0;have hb2:=qL (p:=(p.2,p.1)) hb1;by_cases hne:ll=[]
  .subst hne
   simp at a1;lia
  have hbig:2*(ps.length+1)<=10000:=by
   obtain⟨l,hm⟩:=zEF ll hne
   have:=hl l hm
   rw[zAO]at this;lia
  obtain⟨s4',s5',e⟩:=yN (w:=w) (s1:=s1) (s2:=s2) ps (az (az ll p) (p.2,p.1)) (.sh (.int p.1)) (.sh (.int p.2)) (λ q hq=>by rw[ji,ji];exact h q (zAG _ hq)) (λ l hm=>by have:=hb2 l hm;lia);refine⟨s4',s5',?_⟩;rw[zAM,iU,nM,zBI,zBI];have hg:okE (fj 2 (aj (gnm 4) (aj (gnm 5) gH)) (pD p) [w,s1,s2,.o2 ll,s4,s5]) (λ Y1=>(atB Y1).tn (forL (fj 2 (aj (gnm 4) (aj (gnm 5) gH))) atB (ps.map pD)))=
    (atB [w,s1,s2,.o2 ll,.sh (.int p.1),.sh (.int p.2)]).tn (forL (fj 2 (aj (gnm 4) (aj (gnm 5) gH))) atB (ps.map pD)):=by
   simp[pD]
  have c1:iH 3 (aC 4) (bV (aC 5)) [w,s1,s2,.o2 ll,.sh (.int p.1),.sh (.int p.2)]= .nx [w,s1,s2,.o2 (az ll p),.sh (.int p.1),.sh (.int p.2)]:=
   uy (a:=p.1) (b:=p.2) rfl (by simp) (by simp) a0 a1 (by have:=ur hb0 p.1.toNat;lia)
  have c2:iH 3 (aC 5) (bV (aC 4)) [w,s1,s2,.o2 (az ll p),.sh (.int p.1),.sh (.int p.2)]= .nx [w,s1,s2,.o2 (az (az ll p) (p.2,p.1)),.sh (.int p.1),.sh (.int p.2)]:=
   uy (a:=p.2) (b:=p.1) rfl (by simp) (by simp) b0 (by rw[ji];exact b1) (by have:=ur hb1 p.2.toNat;lia)
  have hc:atB [w,s1,s2,.o2 ll,.sh (.int p.1),.sh (.int p.2)]= .nx [w,s1,s2,.o2 (az (az ll p) (p.2,p.1)),.sh (.int p.1),.sh (.int p.2)]:=by
   unfold atB;rw[aU,c1,bK,c2]
  rw[hg,hc,aDf];exact e
structure aON(n:Int)(es:gX)(ll:fE):Prop where
 len:ll.length=n.toNat
 item:∀i:Int,0<=i->i<n->∃ws:List Int,atD (ll.map .lst) i= .ok (.lst (ws.map .int))/\∀b,b∈ws↔(i,b)∈es
def aAf(h:Ow n ps):∃ll,jN [owD n ps]= .ok (.lst (ll.map .lst))/\aON n (dbl ps) ll/\∀i:Int,0<=i->i<n->atD (ll.map .lst) i= .ok (.lst ((bD (dbl ps) i).map .int)):=by
 have hn0:=h.n0;have hn1:=h.n1;have hr:=fU (j:=n) (by lia) (by lia);have kK:(cU 0 n).length=n.toNat:=by rw[gq];lia
 have hps:=h.len;have hin:∀p∈ps,0<=p.1/\p.1<(zAJ n.toNat ([]:List D)).length/\0<=p.2/\p.2<(zAJ n.toNat ([]:List D)).length:=λ p hp=>by
  obtain⟨a,b,c,d,_⟩:=h.pr p hp;rw[zBb];lia
 have dQ:∀p∈dbl ps,0<=p.1/\p.1<(zAJ n.toNat ([]:List D)).length:=λ p hp=>by
  rcases dD.mp (show(p.1,p.2)∈dbl ps from hp)with z|z
  .have:=hin _ z;exact⟨this.1,this.2.1⟩
  .have:=hin _ z;exact⟨this.2.2.1,this.2.2.2⟩
 obtain⟨s4,s5,e⟩:=yN (w:=.sh (owD n ps)) (s1:=.sh (.int n)) (s2:=.sh (.tup (ps.map pD))) ps (zAJ n.toNat []) .no .no hin (λ l hl=>by
  rw[(zF1.mp hl).2];simp;lia)
 have item:∀i:Int,0<=i->i<n->atD (((dbl ps).foldl az (zAJ n.toNat [])).map .lst) i= .ok (.lst ((bD (dbl ps) i).map .int)):=by
  intro i h0 h1;have hk:i.toNat<(zAJ n.toNat ([]:List D)).length:=by rw[zBb];lia
  have hg:=sZ (dbl ps) (zAJ n.toNat []) i.toNat dQ hk;have hk2:i.toNat<((dbl ps).foldl az (zAJ n.toNat [])).length:=by rw[jy];exact hk
  have hi:((i.toNat:Nat):Int)=i:=zBa h0;rw[hi]at hg;rw[<-hi];refine jX ?_;rw[hi,zAW,zAH hk2]
  have:((dbl ps).foldl az (zAJ n.toNat []))[i.toNat]=(bD (dbl ps) i).map .int:=by
   have e1:((dbl ps).foldl az (zAJ n.toNat [])).getD i.toNat []=((dbl ps).foldl az (zAJ n.toNat []))[i.toNat]:=by simp[hk2]
   rw[<-e1,hg];have e2:(zAJ n.toNat ([]:List D)).getD i.toNat []=[]:=by
    rw[zBP,zCC];split<;>rfl
   rw[e2,zEo]
  rw[this];rfl
 refine⟨(dbl ps).foldl az (zAJ n.toNat []),?_,⟨by rw[jy,zBb],λ i h0 h1=>⟨bD (dbl ps) i,item i h0 h1,λ b=>gh⟩⟩,item⟩
 .have hz:n.toNat<16777216:=by lia
  have a0:aIY (aC 0) (fj 2 (aj (gnm 1) (aj (gnm 2) gH))) [.sh (owD n ps),.no,.no,.no,.no,.no]= .nx [.sh (owD n ps),.sh (.int n),.sh (.tup (ps.map pD)),.no,.no,.no]:=by
   simp[owD]
  have a1:llS 3 (fQ gr (aB (aC 1) aH)) [none] (gnm 0) [.sh (owD n ps),.sh (.int n),.sh (.tup (ps.map pD)),.no,.no,.no]= .nx [.sh (owD n ps),.sh (.int n),.sh (.tup (ps.map pD)),.o2 (zAJ n.toNat []),.no,.no]:=by
   unfold llS;simp[shE,mD,hr,kK,hz]
  have a2:iK (dM (aC 2)) (fj 2 (aj (gnm 4) (aj (gnm 5) gH))) atB [.sh (owD n ps),.sh (.int n),.sh (.tup (ps.map pD)),.o2 (zAJ n.toNat []),.no,.no]= .nx [.sh (owD n ps),.sh (.int n),.sh (.tup (ps.map pD)),.o2 ((dbl ps).foldl az (zAJ n.toNat [])),s4,s5]:=by
   have hi:dM (aC 2) [.sh (owD n ps),.sh (.int n),.sh (.tup (ps.map pD)),.o2 (zAJ n.toNat []),.no,.no]= .ok (ps.map pD):=by simp
   rw[gm,hi,cT];exact e
  have a3:retS (qJ 3) [.sh (owD n ps),.sh (.int n),.sh (.tup (ps.map pD)),.o2 ((dbl ps).foldl az (zAJ n.toNat [])),s4,s5]= .rt (.lst (((dbl ps).foldl az (zAJ n.toNat [])).map .lst)):=by simp
  have st:ao 6 [owD n ps]=[.sh (owD n ps),.no,.no,.no,.no,.no]:=rfl;have df:gR=aq (aIY (aC 0) (fj 2 (aj (gnm 1) (aj (gnm 2) gH)))) (aq (llS 3 (fQ gr (aB (aC 1) aH)) [none] (gnm 0)) (aq (iK (dM (aC 2)) (fj 2 (aj (gnm 4) (aj (gnm 5) gH))) atB) (retS (qJ 3)))):=rfl;simp only[jN,df,bL,st];rw[aU,a0,bK,aU,a1,bK,aU,a2,bK,a3]
def cN(ps:gX):List Int->Bool
 |a::b::r=>decide ((a,b)∈ps)&&cN ps (b::r)
 |_=>true
theorem kJ:∀{ws:List Int},cN ps ws=true↔∀(i:Nat) (a b:Int),ws[i]? =some a->ws[i+1]? =some b->(a,b)∈ps
 |[]=>by simp[cN]
 |[x]=>by
  simp only[cN,true_iff];intro i p q _ h2;simp at h2
 |x::y::r=>by
  have ih:=kJ (ps:=ps) (ws:=y::r);unfold cN;rw[zAL,ih,decide_eq_true_eq];constructor
  .rintro⟨h1,h2⟩ i p q e1 e2
   cases i with
   |zero=>simp at e1 e2;subst e1 e2;exact h1
   |succ i=>exact h2 i p q (by simpa using e1) (by simpa using e2)
  .intro h
   exact⟨h 0 x y rfl rfl,λ i p q e1 e2=>h (i+1) p q (by simpa using e1) (by simpa using e2)⟩
def aO3:D->Bool
 | .tup l=>decide (l.length<4000)
 |_=>true
theorem aAX{a:D->En->Rs En}{u:En->Ou}{I:En->Prop}:∀(ds:List D) (Y:En),I Y->(∀d∈ds,∀Y,I Y->∃Y',okE (a d Y) u= .nx Y'/\I Y')->∃Y',forL a u ds Y= .nx Y'/\I Y'
 |[],Y,h,_=>⟨Y,rfl,h⟩
 |d::ds,Y,h,H=>by
  rw[iU];have tnE:∀(r':Rs En) (k:En->Ou),okE r' (λ Y1=>(u Y1).tn k)=(okE r' u).tn k:=λ r' k=>by cases r'<;>rfl
  rw[tnE];obtain⟨Y',e,hI⟩:=H d zAF Y h;rw[e,aDf];exact aAX ds Y' hI λ y hy=>H y (zAG _ hy)
theorem aB7:∀(l:List α),(∀x∈l,∃Y1,fg (f x) Y= .ok Y1/\ft Y1= .ok (t x)/\(t x=true->fe Y1= .ok (g x)))->lcL Y fg ft fe (l.map f)= .ok ((l.filter t).map g)
 |[],_=>rfl
 |x::l,h=>by
  obtain⟨Y1,e1,e2,e3⟩:=h x zAF;have ih:=aB7 (t:=t) (g:=g) (ft:=ft) (fe:=fe) l λ y hy=>h y (zAG _ hy)
  rw[zAM,zBU];unfold lcL;rw[e1,aQ,e2,aQ];cases c:t x with
  |true=>rw[if_pos rfl,e3 c,aQ,ih,aQ];rfl
  |false=>rw[if_neg (by simp),ih];rfl
def qg:ltP p q=true↔p.1<q.1\/p.1=q.1/\p.2<q.2:=by
 unfold ltP;have e:HT.lexLt [p.1,p.2] [q.1,q.2]=true↔p.1<q.1\/p.1=q.1/\p.2<q.2:=by
  by_cases h1:p.1=q.1
  .by_cases h2:p.2=q.2
   .simp[HT.lexLt,h1,h2]
   .simp[HT.lexLt,h1,h2]
  .simp[HT.lexLt,h1]
 exact e
def aG9(h:uK ps=true)(l:∀p∈ps,ltP p q=true):uK (ps++[q])=true:=by
 rw[zx]at h ⊢;intro i a b e1 e2;by_cases hi:i+1<ps.length
 .rw[zB9 (by lia)]at e1
  rw[zB9 hi]at e2;exact h i a b e1 e2
 .have hj:=(zAK.mp e2).1
  rw[zAZ,zB5]at hj;have hk:i+1=ps.length:=by lia
  rw[zB9 (by lia)]at e1;rw[hk,zCu (zAQ _),zFw]at e2;cases e2;exact l a (zBA e1)
structure Wi(n a b:Int)(ps:gX):Prop where
 ris:uK ps=true
 pr:∀p∈ps,0<=p.1/\p.1<p.2/\p.2<n/\(p.1<a\/p.1=a/\p.2<b)
def Wi.put(W:Wi n a b ps)(h0:0<=a)(h1:a<b)(h2:b<n):Wi n a (b+1) (ps++[(a,b)]):=by
 refine⟨aG9 W.ris λ p hp=>?_,λ p hp=>?_⟩
 .obtain⟨_,_,_,h⟩:=W.pr p hp
  rw[qg];exact h
 .rcases zAh.mp hp with hp|hp
  .obtain⟨q1,q2,q3,q4⟩:=W.pr p hp
   exact⟨q1,q2,q3,by lia⟩
  .rw[zA2.mp hp]
   exact⟨h0,h1,h2,.inr ⟨rfl,by show b<b+1;lia⟩⟩
def Wi.on(W:Wi n a b ps)(h:a<a'\/a=a'/\b<=b'):Wi n a' b' ps:=⟨W.ris,λ p hp=>by
 obtain⟨q1,q2,q3,q4⟩:=W.pr p hp;exact⟨q1,q2,q3,by lia⟩⟩
def wbI:En->Ou:=ifS (tsb (op2 ltD (ak bU (aB (aC 0) (aB (op2 fZ (op2 fZ (cD (.int 3)) (op2 jr (cD (.int 61)) (aC 5))) (aC 6)) (aB (cD (.int 8)) aH)))) (aC 3))) (rC 4 (bW (aB (bV (aC 5)) (aB (bV (aC 6)) aH)))) Ou.nx
def wbO:En->Ou:=iK (fQ aBH (aB (op2 fZ (aC 5) (cD (.int 1))) (aB (aC 2) aH))) (gnm 6) wbI
def aDL{most:Nat}(h1:most<=60):∃n ps,kW [.int c,.int most]= .ok (owD n ps)/\Ow n ps/\(∀p∈ps,p.1<p.2)/\n<=most:=by
 obtain⟨n,en,hn⟩:=aA0 (c:=c) (k:=0) (b:=(most:Int)+1) (by decide) (by decide) (by lia) (by lia);obtain⟨th,et,_⟩:=aA0 (c:=c) (k:=1) (b:=6) (by decide) (by decide) (by decide) (by decide);have hr1:=fU (j:=(n:Int)) (by lia) (by lia);have inner:∀(a:Int) (K0:Nat) (ps:gX) (s2:Slot),0<=a->a<n->K0<=3600->ps.length<=K0->Wi n a (a+1) ps->
   ∃ps' s2',forL (gnm 6) wbI (cU (a+1) n) [.sh (.int c),.sh (.int most),.sh (.int n),.sh (.int (1+th)),.ow (.lst (ps.map pD)),.sh (.int a),s2]= .nx [.sh (.int c),.sh (.int most),.sh (.int n),.sh (.int (1+th)),.ow (.lst (ps'.map pD)),.sh (.int a),s2']/\ps'.length<=K0+60/\Wi n a n ps':=by
  intro a K0 ps s2 ha0 ha1 hK hl W;obtain⟨Y',e,ps',s',rfl,hl',W'⟩:=iB (a:=gnm 6) (u:=wbI) (ds:=cU (a+1) n)
   (λ k Y=>∃(ps:gX) (s2:Slot),Y=[.sh (.int c),.sh (.int most),.sh (.int n),.sh (.int (1+th)),.ow (.lst (ps.map pD)),.sh (.int a),s2]/\ps.length<=K0+k/\Wi n a (a+1+k) ps)
   (by
    rintro i d Y hd ⟨ps,s2,rfl,hps,W⟩;obtain⟨rfl,hlt⟩:=mZ hd;have hm:jr (.int 61) (.int a)= .ok (.int (61*a)):=aAL (by decide) (by decide);obtain⟨r,er,_⟩:=aA0 (c:=c) (k:=3+61*a+(a+1+i)) (b:=8) (by lia) (by lia) (by decide) (by decide);have hz:ps.length<16777216:=by lia
    by_cases aT:(r:Int)<1+th
    .exact⟨_,by simp[wbI,hm,er,aT,rC,hz];rfl,ps++[(a,a+1+i)],_,by simp[pD];rfl,by simp;lia,by rw[show a+1+((i+1:Nat):Int)=a+1+(i:Int)+1 by lia];exact W.put ha0 (by lia) (by lia)⟩
    .exact⟨_,by simp[wbI,hm,er,aT];rfl,ps,_,rfl,by lia,W.on (by lia)⟩)
   (Y:=[.sh (.int c),.sh (.int most),.sh (.int n),.sh (.int (1+th)),.ow (.lst (ps.map pD)),.sh (.int a),s2]) ⟨ps,s2,rfl,by lia,W.on (by lia)⟩
  rw[gq]at hl' W';exact⟨ps',s',e,by lia,W'.on (by lia)⟩
 obtain⟨Y',e,ps,s1,s2,rfl,hl,W⟩:=iB (a:=gnm 5) (u:=wbO) (ds:=cU 0 n)
  (λ k Y=>∃(ps:gX) (s1 s2:Slot),Y=[.sh (.int c),.sh (.int most),.sh (.int n),.sh (.int (1+th)),.ow (.lst (ps.map pD)),s1,s2]/\ps.length<=60*k/\Wi n k 0 ps)
  (by
   rintro i d Y hd ⟨ps,s1,s2,rfl,hps,W⟩;obtain⟨rfl,hlt⟩:=mZ hd;have hr2:=zu (i:=0+(i:Int)+1) (j:=(n:Int)) (by lia) (by lia) (by lia) (by lia);obtain⟨ps',s2',e,hl',W'⟩:=inner (0+(i:Int)) (60*i) ps s2 (by lia) (by lia) (by lia) hps ⟨W.ris,λ p hp=>by obtain⟨q1,q2,q3,q4⟩:=W.pr p hp;exact⟨q1,q2,q3,by lia⟩⟩;refine⟨_,?_,ps',.sh (.int (0+(i:Int))),s2',rfl,by lia,W'.on (by lia)⟩;simp only[Int.zero_add]at hr2 e ⊢;simp[wbO,hr2,e])
  (Y:=[.sh (.int c),.sh (.int most),.sh (.int n),.sh (.int (1+th)),.ow (.lst []),.no,.no]) ⟨[],.no,.no,rfl,by simp,rfl,λ p hp=>by cases hp⟩
 rw[gq]at hl;refine⟨n,ps,?_,⟨by lia,by lia,by lia,λ p hp=>by obtain⟨q1,q2,q3,q4⟩:=W.pr p hp;exact⟨q1,by lia,by lia,q3,by lia⟩,W.ris⟩,λ p hp=>(W.pr p hp).2.1,by lia⟩;have st:ao 7 [.int c,.int most]=[.sh (.int c),.sh (.int most),.no,.no,.no,.no,.no]:=rfl;have df:iV=aq (du 2 (ak bU (aB (aC 0) (aB (cD (.int 0)) (aB (op2 fZ (aC 1) (cD (.int 1))) aH)))))
  (aq (du 3 (op2 fZ (cD (.int 1)) (ak bU (aB (aC 0) (aB (cD (.int 1)) (aB (cD (.int 6)) aH))))))
  (aq (oM 4 (jd aH)) (aq (iK (fQ gr (aB (aC 2) aH)) (gnm 5) wbO)
  (retS (bW (aB (bV (aC 2)) (aB (opA j6 (aB (qJ 4) aH)) aH))))))):=rfl
 simp only[kW,df,bL,st];simp[en,et,hr1,e,owD]
def lnB:En->Ou:=aq (iH 1 (aC 2) (bV (aC 3))) (iH 1 (aC 3) (bV (aC 2)))
theorem wD:∀(ps:gX) (ll:fE) (s4 s5:Slot),(∀p∈ps,0<=p.1/\p.1<ll.length/\0<=p.2/\p.2<ll.length)->(∀l∈ll,l.length+2*ps.length<=10000)->
  ∃s4' s5',forL (fj 2 (aj (gnm 2) (aj (gnm 3) gH))) lnB (ps.map pD) [w,.o2 ll,s4,s5]= .nx [w,.o2 ((dbl ps).foldl az ll),s4',s5']
 |[],ll,s4,s5,_,_=>⟨s4,s5,rfl⟩
 |p::ps,ll,s4,s5,h,hl=>by
  obtain⟨a0,a1,b0,b1⟩:=h p zAF;have hb0:∀l∈ll,l.length<=10000-2*(ps.length+1):=λ l hm=>by
   have:=hl l hm
   rw[zAO]at this;lia
  have hb1:=qL (p:=p) hb0;have hb2:=qL (p:=(p.2,p.1)) hb1;by_cases hne:ll=[]
  .subst hne
   simp at a1;lia
  have hbig:2*(ps.length+1)<=10000:=by
   obtain⟨l,hm⟩:=zEF ll hne
   have:=hl l hm
   rw[zAO]at this;lia
  obtain⟨s4',s5',e⟩:=wD (w:=w) ps (az (az ll p) (p.2,p.1)) (.sh (.int p.1)) (.sh (.int p.2)) (λ q hq=>by rw[ji,ji];exact h q (zAG _ hq)) (λ l hm=>by have:=hb2 l hm;lia);refine⟨s4',s5',?_⟩;rw[zAM,iU,nM,zBI,zBI];have hg:okE (fj 2 (aj (gnm 2) (aj (gnm 3) gH)) (pD p) [w,.o2 ll,s4,s5]) (λ Y1=>(lnB Y1).tn (forL (fj 2 (aj (gnm 2) (aj (gnm 3) gH))) lnB (ps.map pD)))=
    (lnB [w,.o2 ll,.sh (.int p.1),.sh (.int p.2)]).tn (forL (fj 2 (aj (gnm 2) (aj (gnm 3) gH))) lnB (ps.map pD)):=by
   simp[pD]
  have c1:iH 1 (aC 2) (bV (aC 3)) [w,.o2 ll,.sh (.int p.1),.sh (.int p.2)]= .nx [w,.o2 (az ll p),.sh (.int p.1),.sh (.int p.2)]:=
   uy (a:=p.1) (b:=p.2) rfl (by simp) (by simp) a0 a1 (by have:=ur hb0 p.1.toNat;lia)
  have c2:iH 1 (aC 3) (bV (aC 2)) [w,.o2 (az ll p),.sh (.int p.1),.sh (.int p.2)]= .nx [w,.o2 (az (az ll p) (p.2,p.1)),.sh (.int p.1),.sh (.int p.2)]:=
   uy (a:=p.2) (b:=p.1) rfl (by simp) (by simp) b0 (by rw[ji];exact b1) (by have:=ur hb1 p.2.toNat;lia)
  have hc:lnB [w,.o2 ll,.sh (.int p.1),.sh (.int p.2)]= .nx [w,.o2 (az (az ll p) (p.2,p.1)),.sh (.int p.1),.sh (.int p.2)]:=by
   unfold lnB;rw[aU,c1,bK,c2]
  rw[hg,hc,aDf];exact e
theorem aBl:∀(ps:gX) (ll:fE) (m:Nat),(∀l∈ll,l.length<=m)->∀l∈ps.foldl az ll,l.length<=m+ps.length
 |[],_,_,h=>h
 |p::ps,ll,m,h=>λ l hl=>by
  have:=aBl ps (az ll p) (m+1) (qL h) l hl
  rw[zAO];lia
theorem aEb:∀ps:gX,(dbl ps).length=2*ps.length
 |[]=>rfl
 |p::ps=>by rw[nM,zAO,zAO,aEb ps,zAO];lia
def aAQ(h:Ow n ps):∃ll,gf [owD n ps]= .ok (.lst (ll.map .lst))/\(aON n (dbl ps) ll/\∀l∈ll,l.length<=7200)/\∀i:Int,0<=i->i<n->atD (ll.map .lst) i= .ok (.lst ((bD (dbl ps) i).map .int)):=by
 have hn0:=h.n0;have hn1:=h.n1;have hr:=fU (j:=n) (by lia) (by lia);have kK:(cU 0 n).length=n.toNat:=by rw[gq];lia
 have hps:=h.len;have hin:∀p∈ps,0<=p.1/\p.1<(zAJ n.toNat ([]:List D)).length/\0<=p.2/\p.2<(zAJ n.toNat ([]:List D)).length:=λ p hp=>by
  obtain⟨a,b,c,d,_⟩:=h.pr p hp;rw[zBb];lia
 have dQ:∀p∈dbl ps,0<=p.1/\p.1<(zAJ n.toNat ([]:List D)).length:=λ p hp=>by
  rcases dD.mp (show(p.1,p.2)∈dbl ps from hp)with z|z
  .have:=hin _ z;exact⟨this.1,this.2.1⟩
  .have:=hin _ z;exact⟨this.2.2.1,this.2.2.2⟩
 obtain⟨s4,s5,e⟩:=wD (w:=.sh (owD n ps)) ps (zAJ n.toNat []) .no .no hin (λ l hl=>by
  rw[(zF1.mp hl).2];simp;lia)
 have item:∀i:Int,0<=i->i<n->atD (((dbl ps).foldl az (zAJ n.toNat [])).map .lst) i= .ok (.lst ((bD (dbl ps) i).map .int)):=by
  intro i h0 h1;have hk:i.toNat<(zAJ n.toNat ([]:List D)).length:=by rw[zBb];lia
  have hg:=sZ (dbl ps) (zAJ n.toNat []) i.toNat dQ hk;have hk2:i.toNat<((dbl ps).foldl az (zAJ n.toNat [])).length:=by rw[jy];exact hk
  have hi:((i.toNat:Nat):Int)=i:=zBa h0;rw[hi]at hg;rw[<-hi];refine jX ?_;rw[hi,zAW,zAH hk2]
  have:((dbl ps).foldl az (zAJ n.toNat []))[i.toNat]=(bD (dbl ps) i).map .int:=by
   have e1:((dbl ps).foldl az (zAJ n.toNat [])).getD i.toNat []=((dbl ps).foldl az (zAJ n.toNat []))[i.toNat]:=by simp[hk2]
   rw[<-e1,hg];have e2:(zAJ n.toNat ([]:List D)).getD i.toNat []=[]:=by
    rw[zBP,zCC];split<;>rfl
   rw[e2,zEo]
  rw[this];rfl
 refine⟨(dbl ps).foldl az (zAJ n.toNat []),?_,⟨⟨by rw[jy,zBb],λ i h0 h1=>⟨bD (dbl ps) i,item i h0 h1,λ b=>gh⟩⟩,λ l hl=>?_⟩,item⟩
 .have hz:n.toNat<16777216:=by lia
  have a1:llS 1 (fQ gr (aB (op2 ixD (aC 0) (cD (.int 0))) aH)) [none] (gnm 0) [.sh (owD n ps),.no,.no,.no]= .nx [.sh (owD n ps),.o2 (zAJ n.toNat []),.no,.no]:=by
   unfold llS;simp[shE,mD,owD,hr,kK,hz]
  have a2:iK (dM (op2 ixD (aC 0) (cD (.int 1)))) (fj 2 (aj (gnm 2) (aj (gnm 3) gH))) lnB [.sh (owD n ps),.o2 (zAJ n.toNat []),.no,.no]= .nx [.sh (owD n ps),.o2 ((dbl ps).foldl az (zAJ n.toNat [])),s4,s5]:=by
   have hi:dM (op2 ixD (aC 0) (cD (.int 1))) [.sh (owD n ps),.o2 (zAJ n.toNat []),.no,.no]= .ok (ps.map pD):=by simp[owD]
   rw[gm,hi,cT];exact e
  have a3:retS (qJ 1) [.sh (owD n ps),.o2 ((dbl ps).foldl az (zAJ n.toNat [])),s4,s5]= .rt (.lst (((dbl ps).foldl az (zAJ n.toNat [])).map .lst)):=by simp
  have st:ao 4 [owD n ps]=[.sh (owD n ps),.no,.no,.no]:=rfl;have df:gK=aq (llS 1 (fQ gr (aB (op2 ixD (aC 0) (cD (.int 0))) aH)) [none] (gnm 0)) (aq (iK (dM (op2 ixD (aC 0) (cD (.int 1)))) (fj 2 (aj (gnm 2) (aj (gnm 3) gH))) lnB) (retS (qJ 1))):=rfl;simp only[gf,df,bL,st];rw[aU,a1,bK,aU,a2,bK,a3]
 .have:=aBl (dbl ps) (zAJ n.toNat []) 0 (λ l hl=>by rw[(zF1.mp hl).2];exact zAQ _) l hl
  rw[aEb]at this;lia
theorem aGy:∀ws:List Int,sG (ws.map .int)=true
 |[]=>rfl
 |_::ws=>by simp only[zAM,sG,aGy ws,pln];rfl
theorem nC:∀ws:List Int,eF (ws.map .int)=true
 |[]=>rfl
 |_::ws=>by simp only[zAM,eF,nC ws,imm];rfl
theorem oG:∀{l:List D},(∀d∈l,imm d=true)->eF l=true
 |[],_=>rfl
 |x::r,h=>by
  simp only[eF,zAL];exact⟨h x (zAF ..),oG λ d hd=>h d (zAG _ hd)⟩
theorem xN:∀{l:List D},(∀d∈l,lw d<=k)->gA l<=k
 |[],_=>zAa _
 |x::r,h=>by
  unfold gA;exact Nat.max_le.mpr ⟨h x zAF,xN λ d hd=>h d (zAG _ hd)⟩
theorem sJ:∀{l:List D},(∀d∈l,au d=true)->bH l=true
 |[],_=>rfl
 |x::r,h=>by
  unfold bH;rw[h x zAF,sJ λ d hd=>h d (zAG _ hd)];rfl
structure El(k:Nat)(d:D):Prop where
 p:pln d=true
 e:lw d<=k
 n:au d=true
 i:imm d=true
theorem El.tup(h:∀d∈l,El k d):El (k+1) (.tup l):=⟨by unfold pln;exact aEB λ d hd=>(h d hd).p,by unfold lw;exact Nat.succ_le_succ (xN λ d hd=>(h d hd).e),by unfold au;exact sJ λ d hd=>(h d hd).n,by unfold imm;exact oG λ d hd=>(h d hd).i⟩
theorem El.int{k:Nat}{i:Int}:El k (.int i):=⟨rfl,zAa _,rfl,rfl⟩
def El.ints{k:Nat}{ws:List Int}:∀d∈ws.map D.int,El k d:=λ d hd=>by obtain⟨w,_,rfl⟩:=zA0.mp hd;exact .int
def aOF(h:l.length+m.length<=16777216):fZ (.tup l) (.tup m)= .ok (.tup (l++m)):=by rw[aCL,if_pos h]
def aKX(h:l≠[]):atD l (-1)= .ok (l.getLast h):=by
 have hk:0<l.length:=zDq.mpr h;unfold atD atI ixN;rw[if_neg (by decide),if_pos (by lia)];have e:((-1:Int)+(l.length:Int)).toNat=l.length-1:=by lia
 rw[e,List.getLast_eq_getElem];simp[zAH (show l.length-1<l.length by lia)]
def aCF(h:ws≠[]):atD (ws.map .int) (-1)= .ok (.int (ws.getLast h)):=by
 rw[aKX (by simpa using h),List.getLast_map]
structure Fn4(d:D):Prop where
 p:pln d=true
 s:aO3 d=true
 e:lw d<=60
 n:au d=true
def upI(n:Int):List Int:=(zAj n.toNat).map λ(k:Nat)=>(k:Int)
def vZ(n:Int):cU 0 n=(upI n).map .int:=by
 unfold cU upI;rw[zAv,show(n-0).toNat=n.toNat by lia];exact zFN λ k _=>by simp
def jg(n:Int):(upI n).Nodup:=by
 unfold upI;rw[zCv,zCZ];exact zI9.imp λ h e=>h (by lia)
def cL:x∈upI n↔0<=x/\x<n:=by
 unfold upI;rw[zA0];constructor
 .rintro⟨k,hk,rfl⟩
  have:=zBF.mp hk
  lia
 .rintro⟨h0,h1⟩
  exact⟨x.toNat,zBF.mpr (by lia),by lia⟩
def eQ(n:Int):(upI n).length=n.toNat:=by unfold upI;simp
theorem xU:∀{ws:List Int} (h:ws≠[]),cN es ws=true->(ws.getLast h,v)∈es->cN es (ws++[v])=true
 |[a],_,_,h2=>by simpa[cN]using h2
 |a::b::r,_,h1,h2=>by
  simp only[cN,zAL,decide_eq_true_eq]at h1
  have:=xU (ws:=b::r) (by simp) h1.2 (by simpa using h2)
  rw[zFp,zFp,cN,zAL,decide_eq_true_eq];exact⟨h1.1,by simpa using this⟩
def aCr{left ws:List Int}(h1:left.Nodup)(h2:ws.Nodup)(h3:∀w∈ws,w∈left):(ws++left.filter λ x=>!decide (x∈ws)).Perm left:=by
 rw[zB6]
 .intro a
  rw[zAh,zAR];constructor
  .rintro(h|h)
   .exact h3 a h
   .exact h.1
  .intro h
   by_cases hw:a∈ws
   .exact .inl hw
   .exact .inr ⟨h,by simp[hw]⟩
 .rw[zBo]
  refine⟨h2,h1.filter _,λ a ha b hb e=>?_⟩;subst e
  have:=(zAR.mp hb).2
  simp[ha]at this
 .exact h1
def aNs(hf:f Y= .ok (.int n))(h0:0<=n)(h1:n<=60):lrD f Y= .ok (.lst (cU 0 n)):=by
 unfold lrD;rw[hf,aQ];unfold lrR;simp;lia
def aEr(h:∀r∈f,r≠[])(hl:f.length<64):vM [.lst (f.map tupI)]= .ok (.lst ((qO f).map tupI)):=by
 unfold vM;dsimp only;rw[pA h];dsimp only;rw[if_pos hl]
def aBW{i j:Nat}{l m:List Int}(hf:f (shE Y)= .ok (l.map .int))(hs:stE js (shE Y)=[.no,.sh (.tup (m.map .int))]\/stE js (shE Y)=[.no,.sh (.lst (m.map .int))])(hl:l.length<=1000):
  lcD f js (gnm 0) (tsb (op2 (inR true) (aC 0) (aC 1))) (bV (aC 0)) Y= .ok (.lst ((l.filter λ x=>!decide (x∈m)).map .int)):=by
 refine mq hf (by rw[zAD];lia) ?_;rcases hs with hs|hs<;>rw[hs]
 .refine lN (fg:=gnm 0) (f:=D.int) (g:=D.int) (t:=λ x=>!decide (x∈m)) l λ x _=>⟨[.sh (.int x),.sh (.tup (m.map .int))],rfl,?_,by simp⟩
  have a2:aC 1 [.sh (.int x),.sh (.tup (m.map .int))]= .ok (.tup (m.map .int)):=rfl;have a3:aC 0 [.sh (.int x),.sh (.tup (m.map .int))]= .ok (.int x):=rfl;rw[zR,gF,a3,aQ,a2,aQ,aHh,fW,aQ];rfl
 .refine lN (fg:=gnm 0) (f:=D.int) (g:=D.int) (t:=λ x=>!decide (x∈m)) l λ x _=>⟨[.sh (.int x),.sh (.lst (m.map .int))],rfl,?_,by simp⟩
  have a2:aC 1 [.sh (.int x),.sh (.lst (m.map .int))]= .ok (.lst (m.map .int)):=rfl;have a3:aC 0 [.sh (.int x),.sh (.lst (m.map .int))]= .ok (.int x):=rfl;rw[zR,gF,a3,aQ,a2,aQ,aAW,fW,aQ];rfl
def qw(h:Ow n ps)(low:∀p∈ps,p.1<p.2):dq [owD n ps]= .ok .non:=by
 have st:ao 1 [owD n ps]=[.sh (owD n ps)]:=rfl;simp only[dq,dh,bL,st];simp[aF7 h low]
inductive Cn(es:gX)(a:Int):Int->Prop where
 |refl:Cn es a a
 |step {b c:Int} (h:Cn es a b) (e:(b,c)∈es):Cn es a c
def Sym(es:gX):Prop:=∀a b,(a,b)∈es->(b,a)∈es
def aA3(ps:gX):Sym (dbl ps):=λ a b h=>dD.mpr (dD.mp h).symm
structure Path(es:gX)(a b:Int)(l:List Int):Prop where
 hd:l.head?=some a
 lt:l.getLast?=some b
 al:cN es l=true
def prB(p:Prop):Bool:=@decide p (zFz p)
def aJM:prB p=true↔p:=@decide_eq_true_iff p (zFz p)
def zQ(n:Int):(upI n).Pairwise (·< ·):=by
 unfold upI;rw[zCZ];exact List.pairwise_lt_range.imp λ h=>by lia
def zY(nd:l.Nodup):(sortI l).Pairwise (·< ·):=by
 have h1:=iM l;have h2:(sortI l).Nodup:=(sortI_perm l).nodup_iff.mpr nd;rw[zCv]at h2;exact(h1.and h2).imp λ⟨a,b⟩=>by lia
def m6{ps:gX}:uK ps=true↔ps.Pairwise λ p q=>p.1<q.1\/p.1=q.1/\p.2<q.2:=by
 constructor
 .intro h
  have h':=zx.mp h;clear h;induction ps with
  |nil=>exact .nil
  |cons p ps ih=>
   have hs:∀(i:Nat) (p q:Int×Int),ps[i]? =some p->ps[i+1]? =some q->ltP p q=true:=λ i a b e1 e2=>h' (i+1) a b e1 e2
   have hp:=ih hs;refine zAy.mpr ⟨λ q hq=>?_,hp⟩;cases ps with
   |nil=>cases hq
   |cons r rs=>
    have h1:=qg.mp (h' 0 p r rfl rfl);rcases zAP.mp hq with rfl|hq
    .exact h1
    .have h2:=(zAy.mp hp).1 q hq
     lia
 .intro h
  rw[zx];intro i p q e1 e2;rw[qg];obtain⟨h1,rfl⟩:=zAK.mp e1;obtain⟨h2,rfl⟩:=zAK.mp e2;exact zCU.mp h i (i+1) h1 h2 (zBy i)
section
variable{n:Int}{ps:gX}
def jq(h:Ow n ps):ps.Nodup:=by
 refine(m6.mp h.ris).imp λ{a b} q e=>?_
 subst e;lia
end
theorem jc{α:Type}[DecidableEq α]:∀{l m:List α},l.Nodup->(∀x∈l,x∈m)->l.length<=m.length
 |[],_,_,_=>zAa _
 |x::l,m,h,hs=>by
  obtain⟨h1,h2⟩:=zAb.mp h;have hx:=hs x zAF
  have:=jc (m:=m.erase x) h2 λ y hy=>(zHV (λ e:y=x=>h1 (e▸hy))).mpr (hs y (zAG _ hy))
  have hp:=zGw hx;rw[zGd hx]at this;rw[zAO];lia
section
variable{ps:gX}
theorem yz:∀{ps:gX},ps.Nodup->(∀p∈ps,p.1<p.2)->(dbl ps).Nodup
 |[],_,_=>zCx
 |p::ps,h,low=>by
  obtain⟨h1,h2⟩:=zAb.mp h;have ih:=yz h2 λ q hq=>low q (zAG _ hq)
  have lp:=low p zAF;have no:∀q∈ps,q≠(p.2,p.1):=λ q hq e=>by
   have:=low q (zAG _ hq)
   rw[e]at this;dsimp only at this;lia
  rw[nM];refine zAb.mpr ⟨λ z=>?_,zAb.mpr ⟨λ z=>?_,ih⟩⟩
  .rcases zAP.mp z with e|z
   .have:=congrArg Prod.fst e
    dsimp only at this;lia
   .rcases dD.mp (show(p.1,p.2)∈dbl ps from z)with z|z
    .exact h1 z
    .exact no _ z rfl
  .rcases dD.mp z with z|z
   .exact no _ z rfl
   .exact h1 z
def nj(h:ps.Nodup)(low:∀p∈ps,p.1<p.2)(a:Int):(bD (dbl ps) a).Nodup:=by
 unfold bD zGb;rw[zCZ];refine zJV ?_ ((yz h low).filter _);intro p q hp hq ne e;have e1:p.1=a:=by simpa using(zAR.mp hp).2
 have e2:q.1=a:=by simpa using(zAR.mp hq).2
 exact ne (zHt (e1.trans e2.symm) e)
end
def aKY(a b:Nat):zDt (a:Int) (b:Int)=((a&&& b:Nat):Int):=by
 unfold zDt;simp
def aDm(a i:Nat):zDt ((a:Int) / 2^i) 1=if a.testBit i then 1 else 0:=by
 have e:(a:Int) / 2^i=((a / 2^i:Nat):Int):=by push_cast;rfl
 rw[e,show(1:Int)=((1:Nat):Int)from rfl,aKY,Nat.and_one_is_mod,<-zGe]
 have:a.testBit i=decide ((a>>>i)%2=1):=by
  rw[zF9,zGe]
 rw[this];by_cases c:(a>>>i)%2=1
 .simp[c]
 .have:(a>>>i)%2=0:=by lia
  simp[this]
def aKV{a i:Nat}(h:a.testBit i=true):i<uW (a:Int):=by
 unfold uW;have h1:=zDC h;have h0:a≠0:=λ z=>by rw[z]at h;simp at h
 have:((a:Int)==0)=false:=by simp;exact h0
 rw[this,zIH]
 have:=(Nat.le_log2 h0).mpr h1
 simp;lia
def aNB{a:Nat}(h:a≠0):∃i,uW (a:Int)=i+1/\a.testBit i=true:=by
 refine⟨a.log2,?_,?_⟩
 .unfold uW
  have:((a:Int)==0)=false:=by simp;exact h
  rw[this,zIH];simp
 .rw[zF9]
  have h1:=Nat.log2_self_le h;have h2:=Nat.lt_log2_self (n:=a);have h3:a / 2^a.log2=1:=by
   refine Nat.div_eq_of_lt_le (by simpa using h1) ?_;rw[zHZ]at h2;lia
  rw[h3];rfl
def aNA{a n:Nat}(h:a<2^n):uW (a:Int)<=n:=by
 by_cases h0:a=0
 .subst h0
  exact zAa _
 .obtain⟨i,e,hi⟩:=aNB h0
  rw[e];refine zBR λ z=>?_
  have:=zDC hi
  have h2:2^n<=2^i:=zBY (by decide) (by lia);lia
def bu(n:Int)(g:Nat):List Int:=(upI n).filter λ p=>g.testBit p.toNat
def dX{n:Int}{g:Nat}{x:Int}:x∈bu n g↔(0<=x/\x<n)/\g.testBit x.toNat=true:=by
 unfold bu;rw[zAR,cL]
def aCD(n:Int)(g:Nat):(bu n g).Pairwise (·< ·):=(zQ n).filter _
def zy:∀{a b:List Int},a.Pairwise (·< ·)->b.Pairwise (·< ·)->(∀x,x∈a↔x∈b)->a=b:=λ{a b} h1 h2 h=>by
 have p:a.Perm b:=(zB6 (zCv.mpr (h1.imp λ z=>by lia)) (zCv.mpr (h2.imp λ z=>by lia))).mpr h;exact zES p (h1.imp λ z=>Int.le_of_lt z) (h2.imp λ z=>Int.le_of_lt z)
def aAC{n:Int}{g:Nat}(h0:0<=n)(h1:n<=60)(hg:g<2^n.toNat):iC [.int (g:Int)]= .ok (.lst ((bu n g).map .int)):=by
 have st:ao 1 [.int (g:Int)]=[.sh (.int (g:Int))]:=rfl;have hb:=aNA hg;have hr:=fU (j:=(uW (g:Int):Nat)) (by lia) (by lia);have e1:bu n g=(upI (uW (g:Int):Nat)).filter λ p=>g.testBit p.toNat:=zy (aCD n g) ((zQ _).filter _) λ x=>by
  rw[dX,zAR,cL];constructor
  .rintro⟨⟨a,b⟩,c⟩
   exact⟨⟨a,by have:=aKV c;lia⟩,c⟩
  .rintro⟨⟨a,b⟩,c⟩
   exact⟨⟨a,by lia⟩,c⟩
 have hlc:lcD (fQ gr (aB (aKW (aC 0)) aH)) [none,some 0] (gnm 0) (tst (op2 zK (op2 aAv (aC 1) (aC 0)) (cD (.int 1)))) (bV (aC 0)) [.sh (.int (g:Int))]= .ok (.lst ((bu n g).map .int)):=by
  rw[e1];refine mq (ds:=(upI (uW (g:Int):Nat)).map .int) ?_ (by rw[zAD,eQ];lia) (lN _ λ p hp=>⟨[.sh (.int p),.sh (.int (g:Int))],rfl,?_,rfl⟩)
  .have:aKW (aC 0) (shE [.sh (.int (g:Int))])= .ok (.int (uW (g:Int):Nat)):=rfl
   rw[vZ]at hr;simp[this,hr]
  .obtain⟨a,b⟩:=cL.mp hp
   have e2:=aDm g p.toNat;have e3:aAv (.int (g:Int)) (.int p)= .ok (.int ((g:Int) / 2^p.toNat)):=by simp[aAv,i2,a]
   have e4:zK (.int ((g:Int) / 2^p.toNat)) (.int 1)= .ok (.int (if g.testBit p.toNat then 1 else 0)):=by
    rw[<-e2];rfl
   cases c:g.testBit p.toNat<;>rw[c]at e4<;>simp[e3,e4,tst]
 simp only[iC,fH,bL,st];simp[hlc]
def mnI(a b:Int):Int:=if b<a then b else a
def mxI(a b:Int):Int:=if b>a then b else a
section
variable{ps qs:gX}{S:List Int}
def inN(S:List Int)(ps:gX):Nat:=(ps.filter λ p=>decide (p.1∈S)&&decide (p.2∈S)).length
def Ac(ps:gX):Prop:=∀S:List Int,S.Nodup->S≠[]->inN S ps+1<=S.length
def aHi(h:ps.Perm qs):inN S ps=inN S qs:=(h.filter _).length_eq
def Ac.perm(h:ps.Perm qs)(A:Ac qs):Ac ps:=λ S nd ne=>by rw[aHi h];exact A S nd ne
def vy(a b:Int):(mnI a b=a/\mxI a b=b)\/(mnI a b=b/\mxI a b=a):=by
 unfold mnI mxI;split<;>split
 .lia
 .exact .inr ⟨rfl,rfl⟩
 .exact .inl ⟨rfl,rfl⟩
 .have:a=b:=by lia
  exact .inl ⟨rfl,this⟩
def aNr{a b:Int}:(decide (mnI a b∈S)&&decide (mxI a b∈S))=(decide (a∈S)&&decide (b∈S)):=by
 rcases vy a b with ⟨h1,h2⟩|⟨h1,h2⟩
 .rw[h1,h2]
 .rw[h1,h2,Bool.and_comm]
end
def dgr(F:gX)(x:Int):Nat:=(F.filter λ t=>decide (t.1=x)||decide (t.2=x)).length
def xM(t:Int×Int)(F:gX)(x:Int):dgr (t::F) x=dgr F x+(if t.1=x\/t.2=x then 1 else 0):=by
 unfold dgr;rw[zBU];by_cases c:t.1=x\/t.2=x
 .rw[if_pos (by simpa using c),if_pos c,zAO]
 .rw[if_neg (by simpa using c),if_neg c]
  rfl
def aBt{F G:gX}(h:F.Perm G)(x:Int):dgr F x=dgr G x:=(h.filter _).length_eq
abbrev Tr:=List (Int×Int)×(Int->Int)×(Int->Int)
def zr(qs:gX)(ls us:List Int):D:=.tup [.tup (qs.map pD),tupI ls,tupI us]
def rwF(n:Int)(t:Tr):D:=zr t.1 ((upI n).map t.2.1) ((upI n).map t.2.2)
def cnd(p:Int×Int)(t:Tr):Bool:=decide (t.2.2 p.1<2)&&(decide (t.2.2 p.2<2)&& !decide (t.2.1 p.1=t.2.1 p.2))
def nwT(p:Int×Int)(t:Tr):Tr:=(t.1++[p],(λ z=>if t.2.1 z=mxI (t.2.1 p.1) (t.2.1 p.2)then mnI (t.2.1 p.1) (t.2.1 p.2)else t.2.1 z),λ z=>t.2.2 z+(if z=p.1\/z=p.2 then 1 else 0))
def dG(ps:gX):List Tr:=ps.foldl (λ L p=>L++(L.filter (cnd p)).map (nwT p)) [([],id,λ _=>0)]
section
variable{n:Int}{ps:gX}
def aCG{f:Int->Int}{x:Int}(h0:0<=x)(h1:x<n):atD (((upI n).map f).map .int) x= .ok (.int (f x)):=by
 have ex:((x.toNat:Nat):Int)=x:=zBa h0
 have:=jX (l:=((upI n).map f).map .int) (k:=x.toNat) (d:=.int (f x)) (by
  rw[zAW,zAW];unfold upI;rw[zAW,zFM (by lia)];simp[ex])
 rwa [ex]at this
def aLc{x y:Int}(h6:Y[6]? =some (.sh (tupI ((upI n).map lf))))(h8:Y[8]? =some (.sh (.int x)))(h9:Y[9]? =some (.sh (.int y)))(hl:n<=60):roL Y= .ok (tupI ((upI n).map λ z=>if lf z=y then x else lf z)):=by
 have hu:(upI n).length<=60:=by rw[eQ];lia
 have e:lcD (dM (aC 6)) [none,some 9,some 8] (gnm 0) jO (ifD (tsb (op2 (eqR false) (aC 0) (aC 1))) (bV (aC 2)) (bV (aC 0))) Y= .ok (.lst (((upI n).map λ z=>if lf z=y then x else lf z).map .int)):=by
  rw[zAv];refine mq (ds:=(upI n).map λ z=>.int (lf z)) (by simp[shE,mD,tupI,h6]) (by rw[zAD];lia) (wK (upI n) λ z hz=>⟨[.sh (.int (lf z)),.sh (.int y),.sh (.int x)],by simp[stE,shE,mD,h8,h9],?_⟩);by_cases c:lf z=y<;>simp[c,aDY,imm]
 unfold roL;rw[pQ,cM,e];simp[tupI]
def aLb(h:Ow n ps)(h0:Y[0]? =some (.sh (owD n ps)))(h7:Y[7]? =some (.sh (tupI ((upI n).map uf))))(h2:Y[2]? =some (.sh (.int a)))(h3:Y[3]? =some (.sh (.int b))):roU Y= .ok (tupI ((upI n).map λ z=>uf z+(if z=a\/z=b then 1 else 0))):=by
 have hn1:=h.n1;have hn0:=h.n0;have hr:=fU (j:=n) (by lia) (by lia);have hx:ixD (owD n ps) (.int 0)= .ok (.int n):=by simp[owD]
 have e:lcD (fQ gr (aB (op2 ixD (aC 0) (cD (.int 0))) aH)) [none,some 7,some 2,some 3] (gnm 0) jO (op2 fZ (bV (op2 ixD (aC 1) (aC 0))) (opA mz (aB (orD (op2 (eqR false) (aC 0) (aC 2)) (op2 (eqR false) (aC 0) (aC 3))) aH))) Y= .ok (.lst (((upI n).map λ z=>uf z+(if z=a\/z=b then 1 else 0)).map .int)):=by
  rw[zAv];refine mq (ds:=(upI n).map .int) ?_ (by rw[zAD,eQ];lia) (wK (upI n) λ z hz=>⟨[.sh (.int z),.sh (tupI ((upI n).map uf)),.sh (.int a),.sh (.int b)],by simp[stE,shE,mD,h7,h2,h3],?_⟩)
  .simp[shE,mD,h0,hx,hr,vZ]
  .obtain⟨z0,z1⟩:=cL.mp hz
   have g:=aCG (f:=uf) z0 z1;have v:bV (op2 ixD (aC 1) (aC 0)) [.sh (.int z),.sh (tupI ((upI n).map uf)),.sh (.int a),.sh (.int b)]= .ok (.int (uf z)):=by
    simp only[aJy,gF,zN,zDS,zC5,aQ,tupI,aEV,g,fW];rfl
   rw[gF,v,aQ];by_cases c1:z=a
   .subst c1
    by_cases c2:z=b
    .subst c2
     simp[mz]
    .simp[c2,mz]
   .by_cases c2:z=b
    .subst c2
     simp[c1,mz]
    .simp[c1,c2,mz]
 unfold roU;rw[pQ,cM,e];simp[tupI]
abbrev roV(n:Int)(ps:gX)(s1:Slot)(a b:Int)(lg:List D)(t:Tr)(s8 s9 s10 s11:Slot):En:=[.sh (owD n ps),s1,.sh (.int a),.sh (.int b),.ow (.lst lg),.sh (.tup (t.1.map pD)),.sh (tupI ((upI n).map t.2.1)),.sh (tupI ((upI n).map t.2.2)),s8,s9,s10,s11]
def aLd{lg:List D}(h:Ow n ps)(ha:0<=a/\a<n)(hb:0<=b/\b<n)(hg:lg.length<100000)(hq:t.1.length<=1000):
  ∃s8' s9' s10' s11',roB (roV n ps s1 a b lg t s8 s9 s10 s11)= .nx (roV n ps s1 a b (lg++(if cnd (a,b) t=true then[rwF n (nwT (a,b) t)]else[])) t s8' s9' s10' s11'):=by
 have hn1:=h.n1;have g1:=aCG (f:=t.2.2) ha.1 ha.2;have g2:=aCG (f:=t.2.2) hb.1 hb.2;have g3:=aCG (f:=t.2.1) ha.1 ha.2;have g4:=aCG (f:=t.2.1) hb.1 hb.2;have x1:ixD (tupI ((upI n).map t.2.2)) (.int a)= .ok (.int (t.2.2 a)):=g1;have x2:ixD (tupI ((upI n).map t.2.2)) (.int b)= .ok (.int (t.2.2 b)):=g2;have x3:ixD (tupI ((upI n).map t.2.1)) (.int a)= .ok (.int (t.2.1 a)):=g3;have x4:ixD (tupI ((upI n).map t.2.1)) (.int b)= .ok (.int (t.2.1 b)):=g4;have ez:roT (roV n ps s1 a b lg t s8 s9 s10 s11)= .ok (cnd (a,b) t):=by
  unfold cnd;by_cases c1:t.2.2 a<2
  .by_cases c2:t.2.2 b<2
   .by_cases c3:t.2.1 a=t.2.1 b<;>simp[roT,x1,x2,x3,x4,c1,c2,c3]
   .simp[roT,x1,x2,x3,x4,c1,c2]
  .simp[roT,x1,x2,x3,x4,c1]
 cases z:cnd (a,b) t with
 |false=>exact⟨s8,s9,s10,s11,by rw[roB,wR,ez,z];simp⟩
 |true=>
  have ex:du 8 (opA (mmD λ i j=>if j<i then j else i) (aB (op2 ixD (aC 6) (aC 2)) (aB (op2 ixD (aC 6) (aC 3)) aH))) (roV n ps s1 a b lg t s8 s9 s10 s11)= .nx (roV n ps s1 a b lg t (.sh (.int (mnI (t.2.1 a) (t.2.1 b)))) s9 s10 s11):=by simp[x3,x4,mnI]
  have ey:du 9 (opA (mmD λ i j=>if j>i then j else i) (aB (op2 ixD (aC 6) (aC 2)) (aB (op2 ixD (aC 6) (aC 3)) aH))) (roV n ps s1 a b lg t (.sh (.int (mnI (t.2.1 a) (t.2.1 b)))) s9 s10 s11)= .nx (roV n ps s1 a b lg t (.sh (.int (mnI (t.2.1 a) (t.2.1 b)))) (.sh (.int (mxI (t.2.1 a) (t.2.1 b)))) s10 s11):=by simp[x3,x4,mxI]
  have e1:=aLc (Y:=roV n ps s1 a b lg t (.sh (.int (mnI (t.2.1 a) (t.2.1 b)))) (.sh (.int (mxI (t.2.1 a) (t.2.1 b)))) s10 s11) (n:=n) (lf:=t.2.1) rfl rfl rfl hn1;have e2:=λ s=>aLb (Y:=roV n ps s1 a b lg t (.sh (.int (mnI (t.2.1 a) (t.2.1 b)))) (.sh (.int (mxI (t.2.1 a) (t.2.1 b)))) s s11) (uf:=t.2.2) h rfl rfl rfl rfl
  obtain⟨l',hl'⟩:∃l':List Int,l'=(upI n).map λ z=>if t.2.1 z=mxI (t.2.1 a) (t.2.1 b)then mnI (t.2.1 a) (t.2.1 b)else t.2.1 z:=⟨_,rfl⟩
  obtain⟨u',hu'⟩:∃u':List Int,u'=(upI n).map λ z=>t.2.2 z+(if z=a\/z=b then 1 else 0):=⟨_,rfl⟩
  rw[<-hl']at e1;simp only[<-hu']at e2;have er:rwF n (nwT (a,b) t)=zr (t.1++[(a,b)]) l' u':=by rw[hl',hu'];rfl
  have e3:roA (roV n ps s1 a b lg t (.sh (.int (mnI (t.2.1 a) (t.2.1 b)))) (.sh (.int (mxI (t.2.1 a) (t.2.1 b)))) (.sh (tupI l')) (.sh (tupI u')))= .nx (roV n ps s1 a b (lg++[zr (t.1++[(a,b)]) l' u']) t (.sh (.int (mnI (t.2.1 a) (t.2.1 b)))) (.sh (.int (mxI (t.2.1 a) (t.2.1 b)))) (.sh (tupI l')) (.sh (tupI u'))):=by
   have A:fZ (.tup (t.1.map pD)) (.tup [.tup [.int a,.int b]])= .ok (.tup ((t.1++[(a,b)]).map pD)):=by
    rw[aOF (by simp;lia),zAk];rfl
   have i1:eF (t.1.map pD)=true:=oG λ d hd=>by
    obtain⟨p,_,rfl⟩:=zA0.mp hd;rfl
   have i2:eF (l'.map D.int)=true:=nC l';have i3:eF (u'.map D.int)=true:=nC u';have hz:lg.length<16777216:=by lia
   simp[roA,rC,tupI,aDY,imm,i1,i2,i3,A,zr,hz,-aCL]
  refine⟨.sh (.int (mnI (t.2.1 a) (t.2.1 b))),.sh (.int (mxI (t.2.1 a) (t.2.1 b))),.sh (tupI l'),.sh (tupI u'),?_⟩
  .rw[roB,wR,ez,z,cT,if_pos rfl,aU,ex,bK,aU,ey,bK,aU,qQ,e1,cT]
   simp only[zHp,zHq,bK];rw[aU,qQ,e2,cT];simp only[zHp,zHq,bK];rw[if_pos trivial,er];exact e3
theorem nZ:∀{l:List D},(∀d∈l,gn d d=true)->fP l l=true
 |[],_=>rfl
 |x::l,h=>by
  rw[fP,h x zAF,nZ λ d hd=>h d (zAG _ hd)];rfl
def same_ints(l:List Int):fP (l.map .int) (l.map .int)=true:=nZ λ d hd=>by
 obtain⟨i,_,rfl⟩:=zA0.mp hd;simp[gn]
def aG2(l:gX):fP (l.map pD) (l.map pD)=true:=nZ λ d hd=>by
 obtain⟨i,_,rfl⟩:=zA0.mp hd;simp[pD,gn,fP]
def aEY(l:gX):eF (l.map pD)=true:=oG λ d hd=>by
 obtain⟨p,_,rfl⟩:=zA0.mp hd;rfl
def aG4(t:Tr):gn (rwF n t) (rwF n t)=true:=by
 have h1:=same_ints ((upI n).map t.2.1);have h2:=same_ints ((upI n).map t.2.2);have h3:=aG2 t.1;unfold rwF zr tupI;simp only[gn,fP,h1,h2,h3];rfl
def aDs(t:Tr):VL.imm (rwF n t)=true:=by
 have h1:eF (((upI n).map t.2.1).map D.int)=true:=nC _;have h2:eF (((upI n).map t.2.2).map D.int)=true:=nC _;have h3:=aEY t.1;unfold rwF zr tupI;simp only[VL.imm,eF,h1,h2,h3];rfl
abbrev roW(n:Int)(ps:gX)(l:List D)(a b:Int)(lg:List D)(s5 s6 s7 s8 s9 s10 s11:Slot):En:=[.sh (owD n ps),.ow (.lst l),.sh (.int a),.sh (.int b),.ow (.lst lg),s5,s6,s7,s8,s9,s10,s11]
theorem aKi{l:List D}(h:Ow n ps)(ha:0<=a/\a<n)(hb:0<=b/\b<n)(hl:fP l l=true):∀(L lg:List Tr) (s5 s6 s7 s8 s9 s10 s11:Slot),(∀t∈L,t.1.length<=1000)->lg.length+L.length<100000->
  ∃s5' s6' s7' s8' s9' s10' s11',nD 1 l roG roB (L.map (rwF n)) (roW n ps l a b (lg.map (rwF n)) s5 s6 s7 s8 s9 s10 s11)= .nx (roW n ps l a b ((lg++(L.filter (cnd (a,b))).map (nwT (a,b))).map (rwF n)) s5' s6' s7' s8' s9' s10' s11')
 |[],lg,s5,s6,s7,s8,s9,s10,s11,_,_=>by
  refine⟨s5,s6,s7,s8,s9,s10,s11,?_⟩;have o:tK 1 l (roW n ps l a b (lg.map (rwF n)) s5 s6 s7 s8 s9 s10 s11)=true:=hl;rw[zFh];unfold nD;rw[if_pos o];simp
 |t::L,lg,s5,s6,s7,s8,s9,s10,s11,h1,h3=>by
  rw[zAO]at h3;obtain⟨t8,t9,t10,t11,e⟩:=aLd (t:=t) (s1:=.ow (.lst l)) (lg:=lg.map (rwF n)) (s8:=s8) (s9:=s9) (s10:=s10) (s11:=s11) h ha hb (by rw[zAD];lia) (h1 t zAF);have el:lg.map (rwF n)++(if cnd (a,b) t=true then[rwF n (nwT (a,b) t)]else[])=(lg++(if cnd (a,b) t=true then[nwT (a,b) t]else[])).map (rwF n):=by
   split<;>simp
  rw[el]at e;obtain⟨u5,u6,u7,u8,u9,u10,u11,e2⟩:=aKi h ha hb hl L (lg++(if cnd (a,b) t=true then[nwT (a,b) t]else[])) (.sh (.tup (t.1.map pD))) (.sh (tupI ((upI n).map t.2.1))) (.sh (tupI ((upI n).map t.2.2))) t8 t9 t10 t11 (λ d hd=>h1 d (zAG _ hd)) (by rw[zAZ];split<;>simp<;>lia);refine⟨u5,u6,u7,u8,u9,u10,u11,?_⟩;have o:tK 1 l (roW n ps l a b (lg.map (rwF n)) s5 s6 s7 s8 s9 s10 s11)=true:=hl;have g:roG (rwF n t) (roW n ps l a b (lg.map (rwF n)) s5 s6 s7 s8 s9 s10 s11)= .ok (roV n ps (.ow (.lst l)) a b (lg.map (rwF n)) t s8 s9 s10 s11):=by simp[roG,rwF,zr]
  rw[zAM];unfold nD;rw[if_pos o,g];dsimp only;rw[e];dsimp only;have ef:(lg++(if cnd (a,b) t=true then[nwT (a,b) t]else[]))++(L.filter (cnd (a,b))).map (nwT (a,b))=lg++((t::L).filter (cnd (a,b))).map (nwT (a,b)):=by
   rw[zBU];split<;>simp
  rw[e2,ef]
abbrev roE(n:Int)(ps:gX)(L:List Tr)(s2 s3 s4 s5 s6 s7 s8 s9 s10 s11:Slot):En:=[.sh (owD n ps),.ow (.lst (L.map (rwF n))),s2,s3,s4,s5,s6,s7,s8,s9,s10,s11]
def aLa(h:Ow n ps)(ha:0<=a/\a<n)(hb:0<=b/\b<n)(hl:∀t∈L,t.1.length<=1000)(hz:L.length<=40000){s4:Slot}:
  ∃s4' s5' s6' s7' s8' s9' s10' s11',roO (roE n ps L (.sh (.int a)) (.sh (.int b)) s4 s5 s6 s7 s8 s9 s10 s11)= .nx (roE n ps (L++(L.filter (cnd (a,b))).map (nwT (a,b))) (.sh (.int a)) (.sh (.int b)) s4' s5' s6' s7' s8' s9' s10' s11'):=by
 obtain⟨t5,t6,t7,t8,t9,t10,t11,e⟩:=aKi (l:=L.map (rwF n)) h ha hb (nZ λ d hd=>by obtain⟨t,_,rfl⟩:=zA0.mp hd;exact aG4 t) L [] s5 s6 s7 s8 s9 s10 s11 hl (by simp;lia);have hf:=zB4 (cnd (a,b)) L;have c1:oM 4 (jd aH) (roE n ps L (.sh (.int a)) (.sh (.int b)) s4 s5 s6 s7 s8 s9 s10 s11)= .nx (roW n ps (L.map (rwF n)) a b [] s5 s6 s7 s8 s9 s10 s11):=by simp
 have c2:aKH 1 roG roB (roW n ps (L.map (rwF n)) a b [] s5 s6 s7 s8 s9 s10 s11)= .nx (roW n ps (L.map (rwF n)) a b (((L.filter (cnd (a,b))).map (nwT (a,b))).map (rwF n)) t5 t6 t7 t8 t9 t10 t11):=by
  show(if eF (L.map (rwF n))=true then nD 1 (L.map (rwF n)) roG roB (L.map (rwF n)) (roW n ps (L.map (rwF n)) a b [] s5 s6 s7 s8 s9 s10 s11)else .st)=_
  rw[if_pos (oG λ d hd=>by obtain⟨t,_,rfl⟩:=zA0.mp hd;exact aDs t)];exact e
 have c3:aKK 1 4 (roW n ps (L.map (rwF n)) a b (((L.filter (cnd (a,b))).map (nwT (a,b))).map (rwF n)) t5 t6 t7 t8 t9 t10 t11)= .nx (roW n ps (L.map (rwF n)++((L.filter (cnd (a,b))).map (nwT (a,b))).map (rwF n)) a b (((L.filter (cnd (a,b))).map (nwT (a,b))).map (rwF n)) t5 t6 t7 t8 t9 t10 t11):=by
  show(if (L.map (rwF n)).length+(((L.filter (cnd (a,b))).map (nwT (a,b))).map (rwF n)).length<=zAY/\eF (((L.filter (cnd (a,b))).map (nwT (a,b))).map (rwF n))=true then Ou.nx (roW n ps (L.map (rwF n)++((L.filter (cnd (a,b))).map (nwT (a,b))).map (rwF n)) a b (((L.filter (cnd (a,b))).map (nwT (a,b))).map (rwF n)) t5 t6 t7 t8 t9 t10 t11)else .st)=_
  rw[if_pos ⟨by rw[szl,zAD,zAD,zAD];lia,oG λ d hd=>by obtain⟨t,_,rfl⟩:=zA0.mp hd;exact aDs t⟩]
 refine⟨.ow (.lst (((L.filter (cnd (a,b))).map (nwT (a,b))).map (rwF n))),t5,t6,t7,t8,t9,t10,t11,?_⟩;rw[roO,aU,c1,bK,aU,c2,bK,c3,<-zAk]
def jk(ps:gX)(p:Int×Int):dG (ps++[p])=dG ps++((dG ps).filter (cnd p)).map (nwT p):=by
 unfold dG;rw[zEQ];rfl
def snoc_ind{α:Type}{P:List α->Prop}(h0:P [])(h1:∀l a,P l->P (l++[a]))(l:List α):P l:=by
 have:∀k (l:List α),l.length=k->P l:=by
  intro k;induction k with
  |zero=>exact λ l e=>by rw[zCD.mp e];exact h0
  |succ k ih=>
   intro l e;rcases zHP l with rfl|⟨l',a,rfl⟩
   .exact h0
   .rw[zHO]at e ⊢
    rw[zAZ,zB5]at e;exact h1 l' a (ih l' (by lia))
 exact this _ l rfl
def qW(ps:gX):(dG ps).length<=2^ps.length/\∀t∈dG ps,t.1.length<=ps.length:=by
 induction ps using snoc_ind with
 |h0=>exact⟨by simp[dG],λ t ht=>by
  rw[zA2.mp ht];exact zAQ _⟩
 |h1 l a ih=>
  rw[jk];have hf:=zB4 (cnd a) (dG l);refine⟨by rw[zAZ,zAD,zAZ,zB5,zHZ];have:=ih.1;lia,λ t ht=>?_⟩;rw[zAZ,zB5];rcases zAh.mp ht with z|z
  .have:=ih.2 t z;lia
  .obtain⟨s,hs,rfl⟩:=zA0.mp z
   have:=ih.2 s (zAR.mp hs).1
   simp[nwT];lia
def rwD(qs:gX):D:=.tup (qs.map pD)
def aBa(h:Ow n ps)(hn:n<=12)(hps:ps.length<=15):jL [owD n ps]= .ok (.lst ((dG ps).map λ t=>rwD t.1)):=by
 have hn0:=h.n0;have st:ao 12 [owD n ps]=[.sh (owD n ps),.no,.no,.no,.no,.no,.no,.no,.no,.no,.no,.no]:=rfl;have hx:ixD (owD n ps) (.int 0)= .ok (.int n):=by simp[owD]
 obtain⟨N,rfl⟩:∃N:Nat,n=N:=⟨n.toNat,(zBa hn0).symm⟩
 have hi0:rwF N ([],id,λ _=>0)= .tup [.tup [],tupI (upI N),tupI (zAJ N 0)]:=by
  unfold rwF zr;rw[List.map_id]
  have:(upI N).map (λ _=>(0:Int))=zAJ N 0:=by
   rw[List.map_const',eQ];rfl
  rw[this];rfl
 have c1:oM 1 (jd (aB (bW (aB (bW aH) (aB (trD (op2 ixD (aC 0) (cD (.int 0)))) (aB (op2 aCy (bW (aB (cD (.int 0)) aH)) (bV (op2 ixD (aC 0) (cD (.int 0))))) aH)))) aH)) [.sh (owD N ps),.no,.no,.no,.no,.no,.no,.no,.no,.no,.no,.no]= .nx (roE N ps (dG []) .no .no .no .no .no .no .no .no .no .no):=by
  have t1:trD (op2 ixD (aC 0) (cD (.int 0))) [.sh (owD N ps),.no,.no,.no,.no,.no,.no,.no,.no,.no,.no,.no]= .ok (tupI (upI N)):=by
   have v:op2 ixD (aC 0) (cD (.int 0)) [.sh (owD N ps),.no,.no,.no,.no,.no,.no,.no,.no,.no,.no,.no]= .ok (.int N):=by simp[hx]
   unfold trD;rw[v,aQ];unfold trR;dsimp only;rw[if_pos (by lia),vZ,tupI]
  have t2:aCy (.tup [.int 0]) (.int N)= .ok (tupI (zAJ N 0)):=by
   have:N=0\/N=1\/N=2\/N=3\/N=4\/N=5\/N=6\/N=7\/N=8\/N=9\/N=10\/N=11\/N=12:=by lia
   rcases this with rfl|rfl|rfl|rfl|rfl|rfl|rfl|rfl|rfl|rfl|rfl|rfl|rfl<;>simp[aCy,aJ9,zBj,tupI,zAJ]
  show _=Ou.nx [.sh (owD N ps),.ow (.lst [rwF N ([],id,λ _=>0)]),.no,.no,.no,.no,.no,.no,.no,.no,.no,.no];rw[hi0];simp[t1,t2,hx]
 have hi:dM (op2 ixD (aC 0) (cD (.int 1))) (roE N ps (dG []) .no .no .no .no .no .no .no .no .no .no)= .ok (ps.map pD):=by simp[owD]
 obtain⟨Y',e,s2,s3,s4,s5,s6,s7,s8,s9,s10,s11,rfl⟩:=iB (ds:=ps.map pD) (a:=fj 2 (aj (gnm 2) (aj (gnm 3) gH))) (u:=roO) (Y:=roE N ps (dG []) .no .no .no .no .no .no .no .no .no .no)
  (λ i Y=>∃(s2 s3 s4 s5 s6 s7 s8 s9 s10 s11:Slot),Y=roE N ps (dG (ps.take i)) s2 s3 s4 s5 s6 s7 s8 s9 s10 s11) (by
   rintro i d Y hd ⟨s2,s3,s4,s5,s6,s7,s8,s9,s10,s11,rfl⟩;rw[zAW]at hd;cases ep:ps[i]? with
   |none=>rw[ep]at hd;cases hd
   |some p=>
    rw[ep]at hd;cases hd;obtain⟨a0,a1,b0,b1,_⟩:=h.pr p (zBA ep);obtain⟨r1,r2⟩:=qW (ps.take i);have hle:2^(ps.take i).length<=2^15:=zBY (by decide) (by rw[zBx];lia);have hlt:(ps.take i).length<=15:=by rw[zBx];lia
    obtain⟨t4,t5,t6,t7,t8,t9,t10,t11,e⟩:=aLa (L:=dG (ps.take i)) (s4:=s4) (s5:=s5) (s6:=s6) (s7:=s7) (s8:=s8) (s9:=s9) (s10:=s10) (s11:=s11) h ⟨a0,a1⟩ ⟨b0,b1⟩ (λ t ht=>by have:=r2 t ht;lia) (by lia);refine⟨_,by simp[pD];exact e,.sh (.int p.1),.sh (.int p.2),t4,t5,t6,t7,t8,t9,t10,t11,?_⟩;rw[zCr,ep];show _=roE N ps (dG (ps.take i++[p])) _ _ _ _ _ _ _ _ _ _;rw[jk]) ⟨_,_,_,_,_,_,_,_,_,_,rfl⟩
 rw[zCM (by rw[zAD];exact zAQ _)]at e;have hle:2^ps.length<=2^15:=zBY (by decide) hps;have hrl:=(qW ps).1;have eR:roR (roE N ps (dG ps) s2 s3 s4 s5 s6 s7 s8 s9 s10 s11)= .ok (.lst ((dG ps).map λ t=>rwD t.1)):=by
  refine mq (ds:=(dG ps).map (rwF N)) (by simp[shE,mD]) (by rw[zAD];lia) (wK (dG ps) λ t hm=>⟨[.sh (rwF N t)],rfl,?_⟩);have i1:=aEY t.1;simp[rwF,zr,aDY,imm,i1,rwD]
 simp only[jL,gJ,bL,st];rw[aU,c1,bK,aU,gm,hi,cT,e,bK,qY,eR];rfl
end
section
variable{n:Int}{ps:gX}
theorem sr{α:Type}{P Q:α->Bool}:∀{l:List α},(∀x∈l,¬(P x=true/\Q x=true))->(l.filter λ x=>P x||Q x).length=(l.filter P).length+(l.filter Q).length
 |[],_=>rfl
 |x::l,h=>by
  have ih:=sr λ y hy=>h y (zAG _ hy)
  have hx:=h x zAF;cases c1:P x<;>cases c2:Q x<;>simp[c1,c2]at hx ⊢<;>lia
def nq(lf:Int->Int)(qs:gX)(v:Int):Nat:=(qs.filter λ q=>decide (lf q.1=v)).length
def nc(n:Int)(lf:Int->Int)(v:Int):Nat:=((upI n).filter λ z=>decide (lf z=v)).length
structure RI(n:Int)(t:Tr):Prop where
 inn:∀q∈t.1,(0<=q.1/\q.1<n)/\(0<=q.2/\q.2<n)
 u:∀x,t.2.2 x=(dgr t.1 x:Int)
 l:∀q∈t.1,t.2.1 q.1=t.2.1 q.2
 c:∀x,0<=x->x<n->nq t.2.1 t.1 (t.2.1 x)+1=nc n t.2.1 (t.2.1 x)
def nJ(F:gX)(p:Int×Int)(x:Int):dgr (F++[p]) x=dgr F x+(if x=p.1\/x=p.2 then 1 else 0):=by
 unfold dgr;rw[zEA,zAZ,zBU];by_cases c:x=p.1\/x=p.2
 .rw[if_pos (by rcases c with c|c<;>simp[c]),if_pos c]
  simp
 .rw[if_neg (by rw[not_or]at c;simp[zCy c.1,zCy c.2]),if_neg c]
  simp
def RI.step(R:RI n t)(hp:(0<=p.1/\p.1<n)/\(0<=p.2/\p.2<n))(hc:cnd p t=true):RI n (nwT p t):=by
 obtain⟨qs,lf,uf⟩:=t;simp only[cnd,zAL,decide_eq_true_eq,zCX,decide_eq_false_iff_not]at hc;obtain⟨h1,h2,h3⟩:=hc;obtain⟨lo,hlo⟩:∃lo,lo=mnI (lf p.1) (lf p.2):=⟨_,rfl⟩
 obtain⟨hi,hhi⟩:∃hi,hi=mxI (lf p.1) (lf p.2):=⟨_,rfl⟩
 have hne:lo≠hi:=by
  rw[hlo,hhi];rcases vy (lf p.1) (lf p.2)with ⟨e1,e2⟩|⟨e1,e2⟩<;>rw[e1,e2]
  .exact h3
  .exact zCy h3
 have hab:(lf p.1=lo/\lf p.2=hi)\/(lf p.1=hi/\lf p.2=lo):=by
  rw[hlo,hhi];rcases vy (lf p.1) (lf p.2)with ⟨e1,e2⟩|⟨e1,e2⟩
  .exact .inl ⟨e1.symm,e2.symm⟩
  .exact .inr ⟨e2.symm,e1.symm⟩
 have ca:=R.c p.1 hp.1.1 hp.1.2;have cb:=R.c p.2 hp.2.1 hp.2.2;dsimp only at ca cb;have clo:nq lf qs lo+1=nc n lf lo:=by
  rcases hab with ⟨e1,e2⟩|⟨e1,e2⟩
  .rw[<-e1];exact ca
  .rw[<-e2];exact cb
 have chi:nq lf qs hi+1=nc n lf hi:=by
  rcases hab with ⟨e1,e2⟩|⟨e1,e2⟩
  .rw[<-e2];exact cb
  .rw[<-e1];exact ca
 have lab:∀z,(if lf z=hi then lo else lf z)=lo↔lf z=lo\/lf z=hi:=λ z=>by
  split
  .rename_i e
   exact⟨λ _=>.inr e,λ _=>rfl⟩
  .rename_i e
   exact⟨.inl,λ q=>q.resolve_right e⟩
 have labv:∀z v,v≠lo->v≠hi->((if lf z=hi then lo else lf z)=v↔lf z=v):=λ z v h1 h2=>by
  split
  .rename_i e
   exact⟨λ q=>absurd q.symm h1,λ q=>absurd (q.symm.trans e) h2⟩
  .exact Iff.rfl
 have nohi:∀z,(if lf z=hi then lo else lf z)≠hi:=λ z=>by
  split
  .exact hne
  .assumption
 have pl:(if lf p.1=hi then lo else lf p.1)=lo:=(lab p.1).mpr (hab.elim (λ z=>.inl z.1) λ z=>.inr z.1);have pl2:(if lf p.2=hi then lo else lf p.2)=lo:=(lab p.2).mpr (hab.elim (λ z=>.inr z.2) λ z=>.inl z.2);refine⟨λ q hq=>?_,λ x=>?_,λ q hq=>?_,λ x x0 x1=>?_⟩
 .rcases zAh.mp hq with z|z
  .exact R.inn q z
  .rw[zA2.mp z];exact hp
 .have:=R.u x
  dsimp only at this;show uf x+(if x=p.1\/x=p.2 then 1 else 0)=(dgr (qs++[p]) x:Int);rw[nJ,this];split<;>simp
 .show(if lf q.1=mxI (lf p.1) (lf p.2)then mnI (lf p.1) (lf p.2)else lf q.1)=(if lf q.2=mxI (lf p.1) (lf p.2)then mnI (lf p.1) (lf p.2)else lf q.2)
  rw[<-hlo,<-hhi];rcases zAh.mp hq with z|z
  .have:=R.l q z
   dsimp only at this;rw[this]
  .rw[zA2.mp z,pl,pl2]
 .show nq (λ z=>if lf z=mxI (lf p.1) (lf p.2)then mnI (lf p.1) (lf p.2)else lf z) (qs++[p]) (if lf x=mxI (lf p.1) (lf p.2)then mnI (lf p.1) (lf p.2)else lf x)+1=nc n (λ z=>if lf z=mxI (lf p.1) (lf p.2)then mnI (lf p.1) (lf p.2)else lf z) (if lf x=mxI (lf p.1) (lf p.2)then mnI (lf p.1) (lf p.2)else lf x)
  rw[<-hlo,<-hhi];have hv:=nohi x;have hw:(if lf x=hi then lo else lf x)=lo\/(if lf x=hi then lo else lf x)=lf x:=by
   split
   .exact .inl rfl
   .exact .inr rfl
  have cx:=R.c x x0 x1;dsimp only at cx;generalize (if lf x=hi then lo else lf x)=w at hv hw ⊢;unfold nq nc at*;rw[zEA,zAZ];by_cases c:w=lo
  .subst c
   have e1:(qs.filter λ q=>decide ((if lf q.1=hi then w else lf q.1)=w))=qs.filter λ q=>decide (lf q.1=w)||decide (lf q.1=hi):=zD0 λ q _=>by
    rw[zDo,decide_eq_true_eq,zDp,decide_eq_true_eq,decide_eq_true_eq];exact lab q.1
   have e2:((upI n).filter λ z=>decide ((if lf z=hi then w else lf z)=w))=(upI n).filter λ z=>decide (lf z=w)||decide (lf z=hi):=zD0 λ z _=>by
    rw[zDo,decide_eq_true_eq,zDp,decide_eq_true_eq,decide_eq_true_eq];exact lab z
   have no:∀z:Int,¬(decide (lf z=w)=true/\decide (lf z=hi)=true):=λ z q=>by
    rw[decide_eq_true_eq,decide_eq_true_eq]at q;exact hne (q.1.symm.trans q.2)
   rw[e1,e2,sr λ q _=>no q.1,sr λ z _=>no z,zBU,if_pos (decide_eq_true pl)];simp only[zGI,zAO,zCJ];lia
  .have hwx:=hw.resolve_left c
   have e1:(qs.filter λ q=>decide ((if lf q.1=hi then lo else lf q.1)=w))=qs.filter λ q=>decide (lf q.1=w):=zD0 λ q _=>by
    rw[zDo,decide_eq_true_eq,decide_eq_true_eq];exact labv q.1 w c hv
   have e2:((upI n).filter λ z=>decide ((if lf z=hi then lo else lf z)=w))=(upI n).filter λ z=>decide (lf z=w):=zD0 λ z _=>by
    rw[zDo,decide_eq_true_eq,decide_eq_true_eq];exact labv z w c hv
   rw[e1,e2,zBU,if_neg (by rw[decide_eq_true_eq];exact λ e=>c (e.symm.trans pl)),hwx];simp only[zGI,zCJ];exact cx
def zq(hp:∀p∈ps,(0<=p.1/\p.1<n)/\(0<=p.2/\p.2<n)):∀t∈dG ps,RI n t/\t.1.Sublist ps/\∀x,dgr t.1 x<=2:=by
 induction ps using snoc_ind with
 |h0=>
  intro t ht;rw[zA2.mp ht];refine⟨⟨λ q hq=>(nomatch hq),λ x=>rfl,λ q hq=>(nomatch hq),λ x x0 x1=>?_⟩,zEl _,λ x=>zAa _⟩;show 0+1=nc n id x;unfold nc;have h1:(upI n).filter (λ z=>decide (id z=x))=[x]:=by
   have nd:=(jg n).filter λ z=>decide (id z=x)
   have hm:∀z,z∈(upI n).filter (λ z=>decide (id z=x))↔z∈[x]:=λ z=>by
    rw[zAR,zA2,decide_eq_true_eq,cL];exact⟨λ q=>q.2,λ q=>⟨by rw[q];exact⟨x0,x1⟩,q⟩⟩
   exact zHf.mp ((zB6 nd (by simp)).mpr hm)
  rw[h1];rfl
 |h1 l a ih=>
  intro t ht;have hl:∀p∈l,(0<=p.1/\p.1<n)/\(0<=p.2/\p.2<n):=λ p h=>hp p (zA1 _ h)
  rw[jk]at ht;rcases zAh.mp ht with z|z
  .obtain⟨h1,h2,h3⟩:=ih hl t z
   exact⟨h1,h2.trans (List.sublist_append_left _ _),h3⟩
  .obtain⟨s,hs,rfl⟩:=zA0.mp z
   obtain⟨hs1,hs2⟩:=zAR.mp hs;obtain⟨h1,h2,h3⟩:=ih hl s hs1;refine⟨h1.step (hp a (by simp)) hs2,h2.append (zEl _),λ x=>?_⟩;show dgr (s.1++[a]) x<=2;rw[nJ];simp only[cnd,zAL,decide_eq_true_eq]at hs2;obtain⟨c1,c2,_⟩:=hs2;rw[h1.u]at c1 c2;split
   .rename_i e
    rcases e with rfl|rfl<;>lia
   .have:=h3 x;lia
def aG8(hp:∀p∈ps,(0<=p.1/\p.1<n)/\(0<=p.2/\p.2<n))(nd:ps.Nodup):∀sub:gX,sub.Sublist ps->Ac sub->(∀x,dgr sub x<=2)->∃t∈dG ps,t.1=sub:=by
 induction ps using snoc_ind with
 |h0=>
  intro sub hs _ _;rw[List.sublist_nil.mp hs];exact⟨_,zA2.mpr rfl,rfl⟩
 |h1 l a ih=>
  intro sub hs A hd;have hl:∀p∈l,(0<=p.1/\p.1<n)/\(0<=p.2/\p.2<n):=λ p h=>hp p (zA1 _ h)
  have ih:=ih hl (zBo.mp nd).1;rw[jk];obtain⟨s1,s2,rfl,h1,h2⟩:=List.sublist_append_iff.mp hs;have h2':s2=[]\/s2=[a]:=by
   cases s2 with
   |nil=>exact .inl rfl
   |cons b r=>
    right;have hl:=h2.length_le;have hm:=h2.subset zAF;rw[zAO,zB5]at hl;rw[zCD.mp (show r.length=0 by lia),zA2.mp hm]
  rcases h2' with rfl|rfl
  .rw[zBD]at hd A ⊢
   obtain⟨t,ht,e⟩:=ih s1 h1 A hd;exact⟨t,zA1 _ ht,e⟩
  .have hd1:∀x,dgr s1 x<=2:=λ x=>by
    have:=hd x
    rw[nJ]at this;lia
   have A1:Ac s1:=λ S nd ne=>by
    have:=A S nd ne
    unfold inN at this ⊢;rw[zEA,zAZ]at this;lia
   obtain⟨t,ht,rfl⟩:=ih s1 h1 A1 hd1;obtain⟨R,_,_⟩:=zq hl t ht;have ha:=hp a (by simp);refine⟨nwT a t,zA7 _ (zA0.mpr ⟨t,zAR.mpr ⟨ht,?_⟩,rfl⟩),rfl⟩;simp only[cnd,zAL,decide_eq_true_eq,zCX,decide_eq_false_iff_not];have d1:=hd a.1;have d2:=hd a.2;rw[nJ,if_pos (.inl rfl)]at d1;rw[nJ,if_pos (.inr rfl)]at d2;refine⟨by rw[R.u];lia,by rw[R.u];lia,λ e=>?_⟩;have c:=R.c a.1 ha.1.1 ha.1.2;have hS:=A ((upI n).filter λ z=>decide (t.2.1 z=t.2.1 a.1)) ((jg n).filter _) (zEB (zAR.mpr ⟨cL.mpr ha.1,by simp⟩));have hN:((t.1.filter λ q=>decide (t.2.1 q.1=t.2.1 a.1))++[a]).Nodup:=((nd.sublist hs).sublist ((zHc (p:=λ q:Int×Int=>decide (t.2.1 q.1=t.2.1 a.1))).append (zEl _)));have hm:=jc (m:=(t.1++[a]).filter λ p=>decide (p.1∈(upI n).filter λ z=>decide (t.2.1 z=t.2.1 a.1))&&decide (p.2∈(upI n).filter λ z=>decide (t.2.1 z=t.2.1 a.1))) hN λ q hq=>by
    rw[zAR,zAL,decide_eq_true_eq,decide_eq_true_eq,zAR,zAR,decide_eq_true_eq,decide_eq_true_eq,cL,cL];rcases zAh.mp hq with z|z
    .obtain⟨z1,z2⟩:=zAR.mp z
     rw[decide_eq_true_eq]at z2
     have:=R.inn q z1
     exact⟨zA1 _ z1,⟨this.1,z2⟩,this.2,by rw[<-R.l q z1];exact z2⟩
    .rw[zA2.mp z]
     exact⟨by simp,⟨ha.1,rfl⟩,ha.2,e.symm⟩
   unfold inN at hS;unfold nq nc at c;rw[zAZ,zB5]at hm;lia
def aIy(hp:∀p∈ps,(0<=p.1/\p.1<n)/\(0<=p.2/\p.2<n)):∀t∈dG ps,Ac t.1:=by
 induction ps using snoc_ind with
 |h0=>
  intro t ht S nd ne;rw[zA2.mp ht];show 0+1<=S.length
  have:=zDq.mpr ne
  lia
 |h1 l a ih=>
  intro t ht;have hl:∀p∈l,(0<=p.1/\p.1<n)/\(0<=p.2/\p.2<n):=λ p h=>hp p (zA1 _ h)
  rw[jk]at ht;rcases zAh.mp ht with z|z
  .exact ih hl t z
  .obtain⟨s,hs,rfl⟩:=zA0.mp z
   obtain⟨hs1,hs2⟩:=zAR.mp hs;have A:=ih hl s hs1;obtain⟨R,_,_⟩:=zq hl s hs1;simp only[cnd,zAL,decide_eq_true_eq,zCX,decide_eq_false_iff_not]at hs2;have hne:=hs2.2.2;intro S nd ne;show inN S (s.1++[a])+1<=S.length;unfold inN;rw[zEA,zAZ];by_cases c:a.1∈S/\a.2∈S
   .have n1:S.filter (λ z=>decide (s.2.1 z=s.2.1 a.1))≠[]:=zEB (zAR.mpr ⟨c.1,by simp⟩)
    have n2:S.filter (λ z=>!decide (s.2.1 z=s.2.1 a.1))≠[]:=zEB (zAR.mpr ⟨c.2,by simpa using λ e=>hne e.symm⟩);have h1:=A _ (nd.filter _) n1;have h2:=A _ (nd.filter _) n2;have hS:S.length=(S.filter (λ z=>decide (s.2.1 z=s.2.1 a.1))).length+(S.filter (λ z=>!decide (s.2.1 z=s.2.1 a.1))).length:=by
     rw[<-sr λ x _ q=>by simp at q,zFL.mpr λ x _=>by cases decide (s.2.1 x=s.2.1 a.1)<;>rfl]
    have hq:(s.1.filter λ p=>decide (p.1∈S)&&decide (p.2∈S)).length=inN (S.filter (λ z=>decide (s.2.1 z=s.2.1 a.1))) s.1+inN (S.filter (λ z=>!decide (s.2.1 z=s.2.1 a.1))) s.1:=by
     unfold inN;rw[<-sr λ x _ q=>by simp at q;exact q.2.1.2 q.1.1.2];congr 1;refine zD0 λ p hp=>?_
     have e:=R.l p hp;simp only[zAR,decide_eq_true_eq,<-e];by_cases c1:p.1∈S<;>by_cases c2:p.2∈S<;>by_cases c3:s.2.1 p.1=s.2.1 a.1<;>simp[c1,c2,c3]
    rw[hq];simp only[zBU,c.1,c.2,decide_true,Bool.and_self,if_true,zGI,zAO,zCJ];lia
   .have h1:=A S nd ne
    unfold inN at h1
    have:([a].filter λ p=>decide (p.1∈S)&&decide (p.2∈S))=[]:=by
     rw[zBU,if_neg (by simpa using c)];rfl
    rw[this];simpa using h1
end
def cpL:List Int->List (Int×Int)
 |x::y::r=>(mnI x y,mxI x y)::cpL (y::r)
 |_=>[]
theorem aD1:∀w:List Int,(cpL w).length=w.length-1
 |[]=>rfl
 |[_]=>rfl
 |x::y::r=>by
  have:=aD1 (y::r)
  rw[cpL,zAO,this];simp
def aMW{a b x:Int}:(mnI a b=x\/mxI a b=x)↔a=x\/b=x:=by
 rcases vy a b with ⟨h1,h2⟩|⟨h1,h2⟩
 .rw[h1,h2]
 .rw[h1,h2,or_comm]
theorem aIP:∀{w:List Int} {p:Int×Int},p∈cpL w->p.1∈w/\p.2∈w
 |x::y::r,p,h=>by
  rw[cpL]at h;rcases zAP.mp h with rfl|h
  .dsimp only
   rcases vy x y with ⟨h1,h2⟩|⟨h1,h2⟩
   .rw[h1,h2];simp
   .rw[h1,h2];simp
  .have:=aIP h
   exact⟨zAG _ this.1,zAG _ this.2⟩
theorem qp:∀{w:List Int},w.Nodup->(cpL w).Nodup
 |[],_=>zCx
 |[_],_=>zCx
 |x::y::r,h=>by
  rw[cpL];obtain⟨h1,h2⟩:=zAb.mp h;refine zAb.mpr ⟨λ z=>h1 ?_,qp h2⟩
  have:=aIP z
  rcases vy x y with ⟨e1,e2⟩|⟨e1,e2⟩
  .rw[<-e1];exact this.1
  .rw[<-e2];exact this.2
theorem aA4{ps:gX}(low:∀p∈ps,p.1<p.2):∀{w:List Int},cN (dbl ps) w=true->∀p∈cpL w,p∈ps
 |[],_,p,h=>nomatch h
 |[_],_,p,h=>nomatch h
 |x::y::r,h,p,hp=>by
  rw[cN,zAL,decide_eq_true_eq]at h;rw[cpL]at hp;rcases zAP.mp hp with rfl|hp
  .rcases dD.mp h.1 with z|z
   .have:=low _ z
    dsimp only at this
    have:mnI x y=x/\mxI x y=y:=by unfold mnI mxI;rw[if_neg (by lia),if_pos (by lia)];exact⟨rfl,rfl⟩
    rw[this.1,this.2];exact z
   .have:=low _ z
    dsimp only at this
    have:mnI x y=y/\mxI x y=x:=by unfold mnI mxI;rw[if_pos (by lia),if_neg (by lia)];exact⟨rfl,rfl⟩
    rw[this.1,this.2];exact z
  .exact aA4 low h.2 p hp
theorem aLG(S:List Int):∀w:List Int,inN S (cpL w)+(if ∃x∈w,x∈S then 1 else 0)<=(w.filter λ x=>decide (x∈S)).length
 |[]=>by simp[cpL,inN]
 |[x]=>by by_cases c:x∈S<;>simp[cpL,inN,c]
 |x::y::r=>by
  have ih:=aLG S (y::r);have e:inN S (cpL (x::y::r))=inN S (cpL (y::r))+(if x∈S/\y∈S then 1 else 0):=by
   rw[cpL];unfold inN;rw[zBU];dsimp only;rw[aNr];by_cases c:x∈S/\y∈S
   .rw[if_pos (by simp[c.1,c.2]),if_pos c,zAO]
   .rw[if_neg (by simpa using c),if_neg c]
    rfl
  rw[e,zBU];have ex:(∃z∈x::y::r,z∈S)↔x∈S\/∃z∈y::r,z∈S:=by
   constructor
   .rintro⟨z,h1,h2⟩
    rcases zAP.mp h1 with rfl|h1
    .exact .inl h2
    .exact .inr ⟨z,h1,h2⟩
   .rintro(h|⟨z,h1,h2⟩)
    .exact⟨x,zAF,h⟩
    .exact⟨z,zAG _ h1,h2⟩
  have ey:y∈S->∃z∈y::r,z∈S:=λ h=>⟨y,zAF,h⟩
  simp only[ex];by_cases c:∃z∈y::r,z∈S
  .rw[if_pos c]at ih
   rw[if_pos (show x∈S\/∃z∈y::r,z∈S from .inr c)];by_cases cx:x∈S
   .rw[if_pos (decide_eq_true cx),zAO]
    split<;>lia
   .rw[if_neg (show¬decide (x∈S)=true by simpa using cx),if_neg (show¬(x∈S/\y∈S)from λ z=>cx z.1)]
    exact ih
  .rw[if_neg c]at ih
   rw[if_neg (show¬(x∈S/\y∈S)from λ z=>c (ey z.2))];by_cases cx:x∈S
   .rw[if_pos (decide_eq_true cx),zAO,if_pos (show x∈S\/∃z∈y::r,z∈S from .inl cx)]
    lia
   .rw[if_neg (show¬decide (x∈S)=true by simpa using cx),if_neg (show¬(x∈S\/∃z∈y::r,z∈S)from λ z=>z.elim cx c)]
    exact ih
def aOD{w:List Int}(nd:w.Nodup):Ac (cpL w):=λ S hS ne=>by
 have h1:=aLG S w;have h2:=jc (m:=S) (nd.filter λ x=>decide (x∈S)) λ x hx=>by simpa using(zAR.mp hx).2
 by_cases c:∃x∈w,x∈S
 .rw[if_pos c]at h1
  lia
 .have h3:(w.filter λ x=>decide (x∈S))=[]:=zE8.mpr λ x hx z=>c ⟨x,hx,by simpa using z⟩
  rw[h3]at h1
  have:=zDq.mpr ne
  simp at h1;lia
def aD2(x y:Int)(r:List Int)(z:Int):dgr (cpL (x::y::r)) z=dgr (cpL (y::r)) z+(if x=z\/y=z then 1 else 0):=by
 rw[cpL,xM];dsimp only;simp only[aMW]
theorem ut:∀{w:List Int} {z:Int},z∉w->dgr (cpL w) z=0
 |[],z,_=>rfl
 |[_],z,_=>rfl
 |x::y::r,z,h=>by
  rw[aD2,ut λ q=>h (zAG _ q),if_neg];rintro(q|q)
  .exact h (by rw[q];exact zAF)
  .exact h (by rw[q];simp)
def xK{x:Int}{r:List Int}(nd:(x::r).Nodup):dgr (cpL (x::r)) x=if r=[]then 0 else 1:=by
 cases r with
 |nil=>rfl
 |cons y r=>
  rw[aD2,ut (zAb.mp nd).1,if_pos (.inl rfl),if_neg (by simp)]
theorem aD0:∀{r:List Int} {x z:Int} (_:(x::r).Nodup) (h:r≠[]) (_:z∈r),dgr (cpL (x::r)) z=if z=r.getLast h then 1 else 2
 |y::r,x,z,nd,h,hz=>by
  obtain⟨n1,n2⟩:=zAb.mp nd;have hxz:x≠z:=λ e=>n1 (e▸hz)
  rw[aD2];cases r with
  |nil=>
   have:z=y:=by simpa using hz
   subst this;rw[if_pos (.inr rfl),if_pos (show z=[z].getLast h from rfl)];rfl
  |cons v r=>
   rw[List.getLast_cons (by simp)];by_cases c:z=y
   .subst c
    rw[xK n2,if_neg (by simp),if_pos (.inr rfl),if_neg];intro e;exact(zAb.mp n2).1 (e▸zDB _)
   .have hz2:z∈v::r:=(zAP.mp hz).resolve_left c
    rw[aD0 n2 (by simp) hz2,if_neg (show¬(x=z\/y=z)from λ q=>q.elim hxz λ q=>c q.symm)];rfl
def aKM{w:List Int}(nd:w.Nodup)(z:Int):dgr (cpL w) z<=2:=by
 by_cases hz:z∈w
 .cases w with
  |nil=>cases hz
  |cons x r=>
   by_cases c:r=[]
   .subst c;exact zAa _
   .rcases zAP.mp hz with rfl|hz
    .rw[xK nd,if_neg c];decide
    .rw[aD0 nd c hz];split<;>decide
 .rw[ut hz];exact zAa _
def aEa{x:Int}{r:List Int}(nd:(x::r).Nodup)(h:r≠[])(z:Int):dgr (cpL (x::r)) z=1↔z=x\/z=r.getLast h:=by
 by_cases hx:z=x
 .subst hx
  rw[xK nd,if_neg h];simp
 .by_cases hz:z∈r
  .rw[aD0 nd h hz]
   split
   .rename_i c
    simp[c]
   .rename_i c
    simp[c,hx]
  .rw[ut (by simp[hx,hz])]
   constructor
   .intro z;cases z
   .rintro(q|q)
    .exact absurd q hx
    .exact absurd (q▸zDB h) hz
structure Hw(n:Int)(ps:gX)(w:List Int):Prop where
 nd:w.Nodup
 mem:∀x,x∈w↔0<=x/\x<n
 al:cN (dbl ps) w=true
section
variable{n:Int}{ps qs:gX}{w v:List Int}
def Hw.len(h:Hw n ps w):w.length=n.toNat:=by
 have p:w.Perm (upI n):=(zB6 h.nd (jg n)).mpr λ x=>by rw[h.mem,cL]
 rw[p.length_eq,eQ]
def Hw.ends(low:∀p∈qs,p.1<p.2)(nq:qs.Nodup)(hw:Hw n qs w)(hv:Hw n qs v)(hl:(qs.length:Int)+1=n):∃a b c d:Int,w.head?=some a/\w.getLast?=some b/\v.head?=some c/\v.getLast?=some d/\((a=c/\b=d)\/(a=d/\b=c)):=by
 have per:∀{u:List Int},Hw n qs u->(cpL u).Perm qs:=λ{u} hu=>by
  have s:=aA4 low hu.al;have hle:=hu.len;have h1:=aD1 u;refine(zB6 (qp hu.nd) nq).mpr λ p=>⟨s p,λ hp=>zBR λ z=>?_⟩
  have:=jc (m:=qs) (zAb.mpr ⟨z,qp hu.nd⟩) λ q hq=>by
   rcases zAP.mp hq with rfl|hq
   .exact hp
   .exact s q hq
  rw[zAO]at this;lia
 have p1:=per hw;have p2:=per hv;have l1:=hw.len;have l2:=hv.len;cases w with
 |nil=>simp at l1;lia
 |cons x r=>
  cases v with
  |nil=>simp at l2;lia
  |cons y s=>
   rw[zAO]at l1 l2;by_cases c:r=[]
   .subst c
    have:s=[]:=zCD.mp (by simp at l1;lia)
    subst this;have e:x=y:=by
     have:=(hv.mem x).mpr ((hw.mem x).mp zAF)
     simpa using this
    subst e;exact⟨x,x,x,x,rfl,rfl,rfl,rfl,.inl ⟨rfl,rfl⟩⟩
   .have c2:s≠[]:=λ z=>by
     subst z
     have:=zDq.mpr c
     simp at l2;lia
    have key:∀z,(z=x\/z=r.getLast c)↔(z=y\/z=s.getLast c2):=λ z=>by
     rw[<-aEa hw.nd c z,<-aEa hv.nd c2 z,aBt (p1.trans p2.symm) z]
    have n1:x≠r.getLast c:=λ e=>(zAb.mp hw.nd).1 (e▸zDB c)
    have k1:=(key x).mp (.inl rfl);have k2:=(key (r.getLast c)).mp (.inr rfl);have k3:=(key y).mpr (.inl rfl);have k4:=(key (s.getLast c2)).mpr (.inr rfl);refine⟨x,r.getLast c,y,s.getLast c2,rfl,?_,rfl,?_,by lia⟩
    .rw[zFZ,zBw c];rfl
    .rw[zFZ,zBw c2];rfl
end
section
variable{n:Int}{qs:gX}{ll:fE}{R:gV}{left ws:List Int}{t:D}{s5 s6 s7:Slot}
abbrev wkE(n:Int)(t:D)(ll:fE)(left:List Int)(R:gV)(s5 s6 s7:Slot):En:=[.sh (.int n),.sh t,.sh (.lst (ll.map .lst)),.nw (.lst (left.map .int)),.ow (.lst (R.map tupI)),s5,s6,s7]
structure Wl(n:Int)(qs:gX)(x:Int)(ws:List Int):Prop where
 ne:ws≠[]
 nd:ws.Nodup
 inn:∀y∈ws,0<=y/\y<n
 al:cN (dbl qs) ws=true
 hd:ws.head?=some x
 cl:∀y∈ws,y≠ws.getLast ne->∀z,(y,z)∈dbl qs->z∈ws
def Cld(qs:gX)(ws:List Int):Prop:=∀y∈ws,∀z,(y,z)∈dbl qs->z∈ws
def Wl.len(h:Wl n qs x ws):(ws.length:Int)<=n:=by
 have:=jc (m:=upI n) h.nd λ x hx=>cL.mpr (h.inn x hx)
 rw[eQ]at this;obtain⟨x,hx⟩:=zEF ws h.ne
 have:=h.inn x hx
 lia
def aER(low:∀p∈qs,p.1<p.2)(x:Int):(bD (dbl qs) x).length=dgr qs x:=by
 unfold bD;rw[zAD];induction qs with
 |nil=>rfl
 |cons p qs ih=>
  have h:=low p zAF;rw[nM,xM,<-ih λ q hq=>low q (zAG _ hq),zBU,zBU];by_cases c1:p.1=x
  .by_cases c2:p.2=x
   .lia
   .simp[c1,c2]
  .by_cases c2:p.2=x
   .simp[c1,c2]
   .simp[c1,c2]
def nu(h:Ow n qs)(hx:z∈bD (dbl qs) y):0<=z/\z<n:=by
 rcases dD.mp (gh.mp hx)with z|z
 .have:=h.pr _ z;exact⟨this.2.2.1,this.2.2.2.1⟩
 .have:=h.pr _ z;exact⟨this.1,this.2.1⟩
def Wl.step(h:Ow n qs)(low:∀p∈qs,p.1<p.2)(hd:∀y,dgr qs y<=2)(hx:dgr qs x<2)(w:Wl n qs x ws):
  ((bD (dbl qs) (ws.getLast w.ne)).filter (λ y=>!decide (y∈ws))=[]/\Cld qs ws)\/∃z,(bD (dbl qs) (ws.getLast w.ne)).filter (λ y=>!decide (y∈ws))=[z]/\Wl n qs x (ws++[z]):=by
 have nd:=nj (jq h) low (ws.getLast w.ne);have hle:=aER low (ws.getLast w.ne);have hl:((bD (dbl qs) (ws.getLast w.ne)).filter (λ y=>!decide (y∈ws))).length<=1:=by
  obtain⟨init,e⟩:∃init,ws=init++[ws.getLast w.ne]:=⟨ws.dropLast,(List.dropLast_concat_getLast w.ne).symm⟩
  rcases zHP init with z|⟨pre,y,z⟩
  .have e2:ws.getLast w.ne=x:=by
    have:=w.hd
    rw[e,z]at this;simpa using this
   have:=zB4 (λ y=>!decide (y∈ws)) (bD (dbl qs) (ws.getLast w.ne))
   rw[e2]at hle this ⊢;lia
  .rw[zHO]at z
   have hy:(y,ws.getLast w.ne)∈dbl qs:=by
    have k:∀g,ws=init++[g]->ws[pre.length]? =some y/\ws[pre.length+1]? =some g:=λ g e=>by rw[e,z];simp
    exact(kJ.mp w.al) pre.length y _ (k _ e).1 (k _ e).2
   have hy2:y∈bD (dbl qs) (ws.getLast w.ne):=gh.mpr (aA3 qs _ _ hy);have hyw:y∈ws:=by rw[e,z];simp
   have:=jc (m:=bD (dbl qs) (ws.getLast w.ne)) (l:=y::(bD (dbl qs) (ws.getLast w.ne)).filter (λ y=>!decide (y∈ws))) (zAb.mpr ⟨λ q=>by simpa[hyw]using(zAR.mp q).2,nd.filter _⟩) λ q hq=>by
    rcases zAP.mp hq with rfl|hq
    .exact hy2
    .exact(zAR.mp hq).1
   rw[zAO]at this
   have:=hd (ws.getLast w.ne)
   lia
 cases hf:(bD (dbl qs) (ws.getLast w.ne)).filter (λ y=>!decide (y∈ws))with
 |nil=>
  refine .inl ⟨rfl,λ y hy z hz=>?_⟩;by_cases c:y=ws.getLast w.ne
  .subst c
   have:=zE8.mp hf z (gh.mpr hz)
   simpa using this
  .exact w.cl y hy c z hz
 |cons z r=>
  rw[hf,zAO]at hl
  have:r=[]:=zCD.mp (by lia)
  subst this;have hz:z∈(bD (dbl qs) (ws.getLast w.ne)).filter (λ y=>!decide (y∈ws)):=by rw[hf];simp
  obtain⟨z1,z2⟩:=zAR.mp hz;have z3:z∉ws:=by simpa using z2
  refine .inr ⟨z,rfl,⟨by simp,?_,λ y hy=>?_,xU w.ne w.al (gh.mp z1),?_,λ y hy hne u hu=>?_⟩⟩
  .rw[zBo]
   exact⟨w.nd,by simp,λ a ha b hb e=>z3 (by rw[<-zA2.mp hb,<-e];exact ha)⟩
  .rcases zAh.mp hy with q|q
   .exact w.inn y q
   .rw[zA2.mp q];exact nu h z1
  .rw[List.head?_append,w.hd];rfl
  .have hne2:y≠z:=by simpa using hne
   have hyw:y∈ws:=by
    rcases zAh.mp hy with q|q
    .exact q
    .exact absurd (zA2.mp q) hne2
   by_cases c:y=ws.getLast w.ne
   .subst c
    by_cases cu:u∈ws
    .exact zA1 _ cu
    .have:u∈(bD (dbl qs) (ws.getLast w.ne)).filter (λ y=>!decide (y∈ws)):=zAR.mpr ⟨gh.mpr hu,by simpa using cu⟩
     rw[hf]at this;exact zA7 _ this
   .exact zA1 _ (w.cl y hyw c u hu)
def aLL(h:Ow n qs)(low:∀p∈qs,p.1<p.2)(L:∀i:Int,0<=i->i<n->atD (ll.map .lst) i= .ok (.lst ((bD (dbl qs) i).map .int)))(hw:Wl n qs x ws):
  wkI (wkE n t ll left R s5 (.sh (tupI ws)) s7)= .nx (wkE n t ll left R s5 (.sh (tupI (ws++(bD (dbl qs) (ws.getLast hw.ne)).filter λ x=>!decide (x∈ws)))) s7):=by
 have hx:=hw.inn _ (zDB hw.ne);have hat:=aCF hw.ne;have hl:=hw.len;have hn1:=h.n1;have nd:=nj (jq h) low (ws.getLast hw.ne);have hll:(bD (dbl qs) (ws.getLast hw.ne)).length<=60:=by
  have:=jc (m:=upI n) nd λ x hx=>cL.mpr (nu h hx)
  rw[eQ]at this;lia
 have b2:wkC (wkE n t ll left R s5 (.sh (tupI ws)) s7)= .ok (.lst (((bD (dbl qs) (ws.getLast hw.ne)).filter λ x=>!decide (x∈ws)).map .int)):=by
  unfold wkC;refine aBW (i:=0) (j:=0) ?_ (.inl rfl) (by lia);simp only[shE,zAM,zFh,mD,aJm,gF,aMT,zN,aIT,aQ,aHQ,fW,zDS,zC5,aJl,aEV,hat,L _ hx.1 hx.2,aJn]
 have A:fZ (tupI ws) (.tup (((bD (dbl qs) (ws.getLast hw.ne)).filter λ x=>!decide (x∈ws)).map .int))= .ok (tupI (ws++(bD (dbl qs) (ws.getLast hw.ne)).filter λ x=>!decide (x∈ws))):=by
  have hf:=zB4 (λ x=>!decide (x∈ws)) (bD (dbl qs) (ws.getLast hw.ne))
  have:=aOF (l:=ws.map .int) (m:=((bD (dbl qs) (ws.getLast hw.ne)).filter λ x=>!decide (x∈ws)).map .int) (by rw[zAD,zAD];lia)
  rw[<-zAk]at this;exact this
 have hv:aC 6 (wkE n t ll left R s5 (.sh (tupI ws)) s7)= .ok (tupI ws):=rfl;rw[wkI,qQ,gF,hv,aQ,pQ,cM,b2,aQ,jV,aQ,aQ,aCY,fW,aQ,A,fW,cT];rfl
def aFV(ws:List Int):∃vs,mj [tupI ws,.tup (ws.map .int).reverse]= .ok (tupI vs)/\(vs=ws\/vs=ws.reverse):=by
 show∃vs,mj [.tup (ws.map .int),.tup (ws.map .int).reverse]= .ok (tupI vs)/\_
 unfold mj;rw[<-List.map_reverse];simp only[gG];split
 .exact⟨_,rfl,.inr rfl⟩
 .exact⟨_,rfl,.inl rfl⟩
def zL{es:gX}(S:Sym es)(h:cN es ws=true):cN es ws.reverse=true:=by
 rw[kJ]at h ⊢;intro i a b ha hb;have hi:i+1<ws.length:=by
  have:=(zAK.mp hb).1
  simpa using this
 rw[zHQ (by lia)]at ha hb;refine S _ _ (h (ws.length-1-(i+1)) b a hb ?_);rw[show ws.length-1-(i+1)+1=ws.length-1-i by lia];exact ha
def Wl.all(h:Ow n qs)(A:Ac qs)(hl:(qs.length:Int)+1=n)(w:Wl n qs x ws)(c:Cld qs ws):Hw n qs ws:=by
 refine⟨w.nd,λ y=>⟨w.inn y,λ hy=>zBR λ z=>?_⟩,w.al⟩;have h1:=A ws w.nd w.ne;have h2:=A ((upI n).filter λ x=>!decide (x∈ws)) ((jg n).filter _) (zEB (zAR.mpr ⟨cL.mpr hy,by simpa using z⟩));have h3:=(aCr (jg n) w.nd λ x hx=>cL.mpr (w.inn x hx)).length_eq;rw[zAZ,eQ]at h3;have iff2:∀p∈qs,(p.1∈ws↔p.2∈ws):=λ p hp=>⟨λ q=>c _ q _ (dD.mpr (.inl hp)),λ q=>c _ q _ (dD.mpr (.inr hp))⟩
 have h4:qs.length=inN ws qs+inN ((upI n).filter λ x=>!decide (x∈ws)) qs:=by
  unfold inN;rw[<-sr λ p _ q=>by simp at q;exact q.2.1.2 q.1.1,zFL.mpr λ p hp=>?_]
  have:=iff2 p hp
  have hin:=h.pr p hp;have u1:p.1∈upI n:=cL.mpr ⟨hin.1,hin.2.1⟩;have u2:p.2∈upI n:=cL.mpr ⟨hin.2.2.1,hin.2.2.2.1⟩;simp only[zAR,u1,u2,true_and];by_cases q:p.1∈ws
  .have q2:=this.mp q
   simp[q,q2]
  .have q2:p.2∉ws:=λ e=>q (this.mpr e)
   simp[q,q2]
 lia
def aLM{x:Int}(h:Ow n qs)(low:∀p∈qs,p.1<p.2)(A:Ac qs)(hd:∀y,dgr qs y<=2)(hlq:(qs.length:Int)+1=n)(L:∀i:Int,0<=i->i<n->atD (ll.map .lst) i= .ok (.lst ((bD (dbl qs) i).map .int)))(hx:0<=x/\x<n)(hxd:dgr qs x<2):
  ∃ws s6' s7',wkB (wkE n t ll (upI n) [] (.sh (.int x)) s6 s7)= .nx (wkE n t ll [] [ws] (.sh (.int x)) s6' s7')/\Hw n qs ws:=by
 have hn0:=h.n0;have hn1:=h.n1;have W0:Wl n qs x [x]:=⟨by simp,by simp,λ y hy=>by rw[zA2.mp hy];exact hx,rfl,rfl,λ y hy hne=>absurd (zA2.mp hy) hne⟩;have c1:du 6 (bW (aB (aC 5) aH)) (wkE n t ll (upI n) [] (.sh (.int x)) s6 s7)= .nx (wkE n t ll (upI n) [] (.sh (.int x)) (.sh (tupI [x])) s7):=by simp[tupI]
 have hr:=fU (j:=n) (by lia) (by lia);have hi:fQ gr (aB (aC 0) aH) (wkE n t ll (upI n) [] (.sh (.int x)) (.sh (tupI [x])) s7)= .ok (cU 0 n):=by simp[hr]
 obtain⟨Y',e,ws,s7',rfl,W,hc⟩:=iB (ds:=cU 0 n) (a:=gnm 7) (u:=wkI) (Y:=wkE n t ll (upI n) [] (.sh (.int x)) (.sh (tupI [x])) s7) (λ i Y=>∃ws s7,Y=wkE n t ll (upI n) [] (.sh (.int x)) (.sh (tupI ws)) s7/\Wl n qs x ws/\(ws.length=i+1\/Cld qs ws)) (by
  rintro i d Y hd2 ⟨ws,s7,rfl,W,hc⟩;have e:=aLL (t:=t) (left:=upI n) (R:=[]) (s5:=.sh (.int x)) (s7:=.sh d) h low L W;refine⟨_,e,_,_,rfl,?_⟩;rcases W.step h low hd hxd with ⟨e1,e2⟩|⟨z,e1,e2⟩
  .rw[e1,zBD]
   exact⟨W,.inr e2⟩
  .rw[e1]
   refine⟨e2,?_⟩;rcases hc with hc|hc
   .left;rw[zAZ,hc];rfl
   .exfalso
    have hz:z∈(bD (dbl qs) (ws.getLast W.ne)).filter (λ y=>!decide (y∈ws)):=by rw[e1];simp
    obtain⟨z1,z2⟩:=zAR.mp hz
    have:=hc _ (zDB W.ne) z (gh.mp z1)
    simp[this]at z2) ⟨_,_,rfl,W0,.inl rfl⟩
 have kK:(cU 0 n).length=n.toNat:=by rw[gq];lia
 have hC:Cld qs ws:=by
  rcases hc with hc|hc
  .have:=W.len
   lia
  .exact hc
 have HW:=W.all h A hlq hC;have e3:wkL (wkE n t ll (upI n) [] (.sh (.int x)) (.sh (tupI ws)) s7')= .ok (.lst (((upI n).filter λ x=>!decide (x∈ws)).map .int)):=aBW (i:=0) (j:=0) (f:=dM (aC 3)) (by simp[shE,mD]) (.inl rfl) (by rw[eQ];lia);have e4:((upI n).filter λ x=>!decide (x∈ws))=[]:=zE8.mpr λ y hy=>by simpa using(HW.mem y).mpr (cL.mp hy)
 rw[e4]at e3;obtain⟨vs,ev,hv⟩:=aFV ws;have V:Hw n qs vs:=by
  rcases hv with rfl|rfl
  .exact HW
  .exact⟨(zIN ws).nodup_iff.mpr HW.nd,λ y=>by rw[zE5];exact HW.mem y,zL (aA3 qs) HW.al⟩
 refine⟨vs,.sh (tupI ws),s7',?_,V⟩;rw[wkB,aU,c1,bK,aU,gm,hi,cT,e,bK,aU,nY,e3,cT];show Ou.sq (.nx (wkE n t ll [] [] (.sh (.int x)) (.sh (tupI ws)) s7')) _=_;rw[bK];have hm:opA mj (aB (aC 6) (aB (op1 aGb (aC 6)) aH)) (wkE n t ll [] [] (.sh (.int x)) (.sh (tupI ws)) s7')= .ok (tupI vs):=by
  have hr:aGb (tupI ws)= .ok (.tup (ws.map .int).reverse):=rfl;simp[hr,ev]
 show((opA mj (aB (aC 6) (aB (op1 aGb (aC 6)) aH)) (wkE n t ll [] [] (.sh (.int x)) (.sh (tupI ws)) s7')).bo λ d=>if ([]:List D).length<zAY then .nx (List.set (wkE n t ll [] [] (.sh (.int x)) (.sh (tupI ws)) s7') 4 (.ow (.lst ([]++[d]))))else .st)=_
 rw[hm,cT,if_pos (by rw[szl];decide)];rfl
def usL(qs:gX):List Int:=qs.flatMap λ q=>[q.1,q.2]
theorem aAk(x:Int):∀{qs:gX},(∀q∈qs,q.1<q.2)->(usL qs).countP (λ a=>a==x)=dgr qs x
 |[],_=>rfl
 |q::qs,h=>by
  have:=aAk x λ p hp=>h p (zAG _ hp)
  have hq:=h q zAF;rw[xM,<-this,show usL (q::qs)=q.1::q.2::usL qs from rfl,zI6,zI6];by_cases c1:q.1=x<;>by_cases c2:q.2=x<;>simp[c1,c2]
  lia
def aLO(qs:gX):(usL qs).length=2*qs.length:=by
 induction qs with
 |nil=>rfl
 |cons q qs ih=>rw[show usL (q::qs)=q.1::q.2::usL qs from rfl,zAO,zAO,ih,zAO];lia
theorem aEc:∀{xs l:List Int},xs.Nodup->(∀x∈xs,2<=l.countP (λ a=>a==x))->2*xs.length<=l.length
 |[],_,_,_=>by simp
 |x::xs,l,nd,h=>by
  obtain⟨n1,n2⟩:=zAb.mp nd;have ih:=aEc (l:=l.filter λ a=>!(a==x)) n2 λ y hy=>by
   have:=h y (zAG _ hy)
   rw[List.countP_filter];refine zAi this (List.countP_mono_left λ a _ ha=>?_);have e:a=y:=by simpa using ha
   subst e
   have:a≠x:=λ z=>n1 (z▸hy)
   simp[this]
  have h1:=h x zAF;have h2:l.length=l.countP (λ a=>a==x)+(l.filter λ a=>!(a==x)).length:=by
   rw[List.length_eq_countP_add_countP (λ a=>a==x),<-List.countP_eq_length_filter];congr 1;exact List.countP_congr λ a _=>by simp
  rw[zAO];lia
def aFd(h:Ow n qs)(low:∀p∈qs,p.1<p.2)(hl:(qs.length:Int)+1=n):∃x,(0<=x/\x<n)/\dgr qs x<2:=by
 refine zBR λ z=>?_
 have:=aEc (xs:=upI n) (l:=usL qs) (jg n) λ x hx=>by
  rw[aAk x low];refine zBR λ q=>z ⟨x,cL.mp hx,by lia⟩
 rw[aLO,eQ]at this;lia
def yC(h:Ow n qs)(low:∀p∈qs,p.1<p.2)(A:Ac qs)(hd:∀y,dgr qs y<=2)(hlq:(qs.length:Int)+1=n):∃w,bT [.int n,rwD qs]= .ok (.tup [tupI w])/\Hw n qs w:=by
 obtain⟨ll,el,_,L⟩:=aAQ h;have hn0:=h.n0;have hn1:=h.n1;have st:ao 8 [.int n,rwD qs]=[.sh (.int n),.sh (rwD qs),.no,.no,.no,.no,.no,.no]:=rfl;have el':gf [.tup [.int n,rwD qs]]= .ok (.lst (ll.map .lst)):=el;have c1:du 2 (ak gf (aB (bW (aB (aC 0) (aB (aC 1) aH))) aH)) [.sh (.int n),.sh (rwD qs),.no,.no,.no,.no,.no,.no]= .nx [.sh (.int n),.sh (rwD qs),.sh (.lst (ll.map .lst)),.no,.no,.no,.no,.no]:=by simp[el']
 have hlr:=aNs (f:=aC 0) (Y:=[.sh (.int n),.sh (rwD qs),.sh (.lst (ll.map .lst)),.no,.no,.no,.no,.no]) (n:=n) (by simp) hn0 hn1;rw[vZ]at hlr;have c2:vQ 3 (lrD (aC 0)) [.sh (.int n),.sh (rwD qs),.sh (.lst (ll.map .lst)),.no,.no,.no,.no,.no]= .nx [.sh (.int n),.sh (rwD qs),.sh (.lst (ll.map .lst)),.nw (.lst ((upI n).map .int)),.no,.no,.no,.no]:=by
  rw[nY,hlr,cT];rfl
 have c3:oM 4 (jd aH) [.sh (.int n),.sh (rwD qs),.sh (.lst (ll.map .lst)),.nw (.lst ((upI n).map .int)),.no,.no,.no,.no]= .nx (wkE n (rwD qs) ll (upI n) [] .no .no .no):=by simp
 have hr:=fU (j:=n) (by lia) (by lia);have hi:fQ gr (aB (aC 0) aH) (wkE n (rwD qs) ll (upI n) [] .no .no .no)= .ok (cU 0 n):=by simp[hr]
 obtain⟨Y',e,s5,s6,s7,hh⟩:=iB (ds:=cU 0 n) (a:=gnm 5) (u:=ifS wkT wkB Ou.nx) (Y:=wkE n (rwD qs) ll (upI n) [] .no .no .no)
  (λ i Y=>∃(s5 s6 s7:Slot),(Y=wkE n (rwD qs) ll (upI n) [] s5 s6 s7/\∀x:Int,0<=x->x<i->¬dgr qs x<2)\/∃w,Y=wkE n (rwD qs) ll [] [w] s5 s6 s7/\Hw n qs w) (by
   rintro i d Y hd2 ⟨s5,s6,s7,hh⟩;obtain⟨rfl,hlt⟩:=mZ hd2;have hx:0<=(0+(i:Int))/\0+(i:Int)<n:=by lia
   rw[aDW,sI];have t1:∀(left:List Int) (R:gV),tsb (op2 (inR false) (aC 5) (rJ 3)) (wkE n (rwD qs) ll left R (.sh (.int (0+(i:Int)))) s6 s7)= .ok (decide (0+(i:Int)∈left)):=λ left R=>by
    have:=aAW false (0+(i:Int)) left
    simp only[zR,gF,zN,zDS,zC5,aQ];have v:rJ 3 (wkE n (rwD qs) ll left R (.sh (.int (0+(i:Int)))) s6 s7)= .ok (.lst (left.map .int)):=rfl;rw[v,aQ,this];rfl
   have t2:∀(left:List Int) (R:gV),tsb (op2 ltD (opA lr (aB (op2 ixD (aC 2) (aC 5)) aH)) (cD (.int 2))) (wkE n (rwD qs) ll left R (.sh (.int (0+(i:Int)))) s6 s7)= .ok (decide (((bD (dbl qs) (0+(i:Int))).length:Int)<2)):=λ left R=>by
    have:=L _ hx.1 hx.2
    simp[-Int.zero_add,this]
   rcases hh with ⟨rfl,hn⟩|⟨w,rfl,W⟩
   .have ht:wkT (wkE n (rwD qs) ll (upI n) [] (.sh (.int (0+(i:Int)))) s6 s7)= .ok (decide (dgr qs (0+(i:Int))<2)):=by
     rw[wkT,aEg,t1,aQ,decide_eq_true (cL.mpr hx),if_pos rfl,t2,aER low];congr 1;rw[decide_eq_decide];lia
    show∃Y2,ifS wkT wkB Ou.nx (wkE n (rwD qs) ll (upI n) [] (.sh (.int (0+(i:Int)))) s6 s7)= .nx Y2/\_
    by_cases c:dgr qs (0+(i:Int))<2
    .obtain⟨w,t6,t7,e,W⟩:=aLM (t:=rwD qs) (s6:=s6) (s7:=s7) h low A hd hlq L hx c
     exact⟨_,by rw[wR,ht,decide_eq_true c,cT,if_pos rfl];exact e,_,t6,t7,.inr ⟨w,rfl,W⟩⟩
    .refine⟨_,by rw[wR,ht,decide_eq_false c];rfl,_,s6,s7,.inl ⟨rfl,λ x x0 x1=>?_⟩⟩
     by_cases c2:x<i
     .exact hn x x0 c2
     .rw[show x=0+(i:Int)by lia];exact c
   .have ht:wkT (wkE n (rwD qs) ll [] [w] (.sh (.int (0+(i:Int)))) s6 s7)= .ok false:=by
     rw[wkT,aEg,t1];rfl
    exact⟨_,by
     show ifS wkT wkB Ou.nx (wkE n (rwD qs) ll [] [w] (.sh (.int (0+(i:Int)))) s6 s7)=_;rw[wR,ht];rfl,_,s6,s7,.inr ⟨w,rfl,W⟩⟩) ⟨_,_,_,.inl ⟨rfl,λ x x0 x1=>by lia⟩⟩
 have kK:(cU 0 n).length=n.toNat:=by rw[gq];lia
 obtain⟨w,rfl,W⟩:∃w,Y'=wkE n (rwD qs) ll [] [w] s5 s6 s7/\Hw n qs w:=by
  rcases hh with ⟨_,hn⟩|q
  .obtain⟨x,hx,hx2⟩:=aFd h low hlq
   exact absurd hx2 (hn x hx.1 (by rw[kK];lia))
  .exact q
 have wne:w≠[]:=λ z=>by
  have:=W.len
  rw[z]at this;simp at this;lia
 have es:=aEr (f:=[w]) (λ r hr=>by rw[zA2.mp hr];exact wne) (by simp);rw[zHf.mp (lE [w])]at es;have es2:vM [.lst [tupI w]]= .ok (.lst [tupI w]):=es;refine⟨w,?_,W⟩;simp only[bT,eO,bL,st];rw[aU,c1,bK,aU,c2,bK,aU,c3,bK,aU,gm,hi,cT,e,bK];simp[es2]
end
def aIW:∀g<64,∀p<6,g.testBit p=true->2^p<=g/\∀x<6,(g-2^p).testBit x=(g.testBit x&& !decide (x=p)):=by decide+kernel
def aIV:∀g<64,(∀x<6,g.testBit x=false)->g=0:=by decide+kernel
def aFp:∀k<7,∀x<k,(2^k-1).testBit x=true:=by decide+kernel
def aDd{n:Int}{g:Nat}(hn:n<=6)(hg:g<2^n.toNat):g<64:=by
 have:2^n.toNat<=2^6:=zBY (by decide) (by lia)
 lia
section
variable{n:Int}{ps:gX}{g:Nat}{p e:Int}
def ni(hn:n<=6)(hg:g<2^n.toNat)(hp:p∈bu n g):2^p.toNat<=g/\g-2^p.toNat<g/\∀x,x∈bu n (g-2^p.toNat)↔x∈bu n g/\x≠p:=by
 obtain⟨⟨p0,p1⟩,pb⟩:=dX.mp hp;obtain⟨h1,h2⟩:=aIW g (aDd hn hg) p.toNat (by lia) pb;have cE:=zDv p.toNat;refine⟨h1,by lia,λ x=>?_⟩;rw[dX,dX];constructor
 .rintro⟨hx,hb⟩
  rw[h2 x.toNat (by lia),zAL]at hb;refine⟨⟨hx,hb.1⟩,λ z=>?_⟩;rw[z]at hb;simp at hb
 .rintro⟨⟨hx,hb⟩,ne⟩
  refine⟨hx,?_⟩;rw[h2 x.toNat (by lia),hb];simp;lia
def aIU(hn:n<=6)(hg:g<2^n.toNat)(h:∀x,x∉bu n g):g=0:=by
 refine aIV g (aDd hn hg) λ x hx=>?_
 cases c:g.testBit x with
 |false=>rfl
 |true=>
  have:=zDC c
  have hxn:x<n.toNat:=by
   refine zBR λ z=>?_
   have:2^n.toNat<=2^x:=zBY (by decide) (by lia)
   lia
  exact absurd (dX.mpr ⟨⟨by lia,by lia⟩,by simpa using c⟩) (h (x:Int))
def Hg(n:Int)(ps:gX)(g:Nat)(p e:Int):Prop:=∃w:List Int,w.Nodup/\(∀x,x∈w↔x∈bu n g)/\cN (dbl ps) w=true/\w.head?=some p/\w.getLast?=some e
def hdL(ps:gX)(r:Nat)(p:Int):List Int:=(bD (dbl ps) p).filter λ h=>r.testBit h.toNat
def Hg.inn(h:Hg n ps g p e):0<=e/\e<n:=by
 obtain⟨w,_,h2,_,_,h5⟩:=h;exact(dX.mp ((h2 e).mp (zEy h5))).1
def aMi(hn:n<=6)(hg:g<2^n.toNat)(hp:p∈bu n g)(hr:g-2^p.toNat=0):Hg n ps g p e↔e=p:=by
 obtain⟨_,_,hb⟩:=ni hn hg hp;have one:∀x,x∈bu n g↔x=p:=λ x=>by
  constructor
  .intro hx
   refine zBR λ ne=>?_
   have:=(hb x).mpr ⟨hx,ne⟩
   rw[hr]at this
   have:=(dX.mp this).2
   simp at this
  .rintro rfl;exact hp
 constructor
 .rintro⟨w,_,h2,_,_,h5⟩
  exact(one e).mp ((h2 e).mp (zEy h5))
 .rintro rfl
  exact⟨[e],by simp,λ x=>by rw[one,zA2],rfl,rfl,rfl⟩
def aKB(O:Ow n ps)(hn:n<=6)(hg:g<2^n.toNat)(hp:p∈bu n g)(hr:g-2^p.toNat≠0):Hg n ps g p e↔∃h∈hdL ps (g-2^p.toNat) p,Hg n ps (g-2^p.toNat) h e:=by
 obtain⟨_,hlt,hb⟩:=ni hn hg hp;constructor
 .rintro⟨w,h1,h2,h3,h4,h5⟩
  cases w with
  |nil=>cases h4
  |cons q r=>
   cases h4;obtain⟨n1,n2⟩:=zAb.mp h1;have hm:∀x,x∈r↔x∈bu n (g-2^p.toNat):=λ x=>by
    rw[hb,<-h2,zAP];constructor
    .intro hx;exact⟨.inr hx,λ z=>n1 (z▸hx)⟩
    .rintro⟨z|z,ne⟩
     .exact absurd z ne
     .exact z
   cases r with
   |nil=>exact absurd (aIU hn (by lia) λ x hx=>by simpa using(hm x).mpr hx) hr
   |cons h r=>
    rw[cN,zAL,decide_eq_true_eq]at h3;refine⟨h,zAR.mpr ⟨gh.mpr h3.1,(dX.mp ((hm h).mp zAF)).2⟩,h::r,n2,hm,h3.2,rfl,?_⟩;rw[<-h5,zGr]
 .rintro⟨h,hh,w,h1,h2,h3,h4,h5⟩
  obtain⟨k1,k2⟩:=zAR.mp hh;have hpw:p∉w:=λ z=>((hb p).mp ((h2 p).mp z)).2 rfl
  refine⟨p::w,zAb.mpr ⟨hpw,h1⟩,λ x=>?_,?_,rfl,?_⟩
  .rw[zAP,h2,hb]
   by_cases c:x=p
   .subst c;simp[hp]
   .simp[c]
  .cases w with
   |nil=>rfl
   |cons q r=>
    cases h4;rw[cN,zAL,decide_eq_true_eq];exact⟨gh.mp k1,h3⟩
  .cases w with
   |nil=>cases h4
   |cons q r=>rw[zGr];exact h5
def endL(n:Int)(ps:gX)(g:Nat)(p:Int):List Int:=(upI n).filter λ e=>prB (Hg n ps g p e)
def qd:e∈endL n ps g p↔Hg n ps g p e:=by
 unfold endL;rw[zAR,aJM,cL];exact⟨λ h=>h.2,λ h=>⟨h.inn,h⟩⟩
def aAY(g:Nat)(p:Int):(endL n ps g p).Pairwise (·< ·):=(zQ n).filter _
def aAZ(g:Nat)(p:Int):(endL n ps g p).length<=n.toNat:=by
 have:=zB4 (λ e=>prB (Hg n ps g p e)) (upI n)
 rw[eQ]at this;exact this
def aE8(hn:n<=6)(hg:g<2^n.toNat)(hp:p∈bu n g)(hr:g-2^p.toNat=0):endL n ps g p=[p]:=
 zy (aAY g p) (by simp) λ x=>by rw[qd,aMi hn hg hp hr,zA2]
def aIE(O:Ow n ps)(hn:n<=6)(hg:g<2^n.toNat)(hp:p∈bu n g)(hr:g-2^p.toNat≠0):endL n ps g p=sortI (ddI ((hdL ps (g-2^p.toNat) p).flatMap (endL n ps (g-2^p.toNat)))):=
 zy (aAY g p) (zY (yx _)) λ x=>by
  rw[qd,aKB O hn hg hp hr,(sortI_perm _).mem_iff,aEN,zDe];simp only[qd]
end
def z7{p:Int}(h0:0<=p)(h1:p<=60):aAw (.int 1) (.int p)= .ok (.int ((2^p.toNat:Nat):Int)):=by
 have hc:(decide (0<=p)&&decide (p<=1000000)&&decide ((1:Int).natAbs<2^64))=true:=by
  rw[zAL,zAL,decide_eq_true_eq,decide_eq_true_eq];exact⟨⟨by lia,by lia⟩,by decide⟩
 unfold aAw i2;dsimp only;rw[if_pos hc];simp
def aDh{a b:Nat}(h:b<=a):rM (.int (a:Int)) (.int (b:Int))= .ok (.int ((a-b:Nat):Int)):=by
 rw[aGL];congr 2;lia
abbrev bgE(n:Int)(ps:gX)(ll:fE)(L:List D)(s3 s4 s5 s6:Slot):En:=[.sh (owD n ps),.sh (.lst (ll.map .lst)),.ow (.lst L),s3,s4,s5,s6]
def bgD(ps:gX)(q:Nat×Int):D:=.tup [.int (q.1:Int),.int q.2,.int ((q.1-2^q.2.toNat:Nat):Int),.lst ((hdL ps (q.1-2^q.2.toNat) q.2).map .int)]
def bgL(n:Int)(i:Nat):List (Nat×Int):=(zAj i).flatMap λ k=>(bu n (k+1)).map λ p=>(k+1,p)
def xT(n:Int)(i:Nat):bgL n (i+1)=bgL n i++(bu n (i+1)).map λ p=>(i+1,p):=by
 unfold bgL;rw[zGL,List.flatMap_append];simp
def aEe(n:Int)(i:Nat):(bgL n i).length<=i*n.toNat:=by
 induction i with
 |zero=>exact zAa _
 |succ i ih=>
  rw[xT,zAZ,zAD,Nat.succ_mul]
  have:(bu n (i+1)).length<=n.toNat:=by
   have:=zB4 (λ p:Int=>(i+1).testBit p.toNat) (upI n)
   rw[eQ]at this;exact this
  lia
section
variable{n:Int}{ps:gX}{ll:fE}{g:Nat}{p:Int}{L:List D}{s5 s6:Slot}
def aMj(O:Ow n ps)(low:∀p∈ps,p.1<p.2)(r:Nat)(p:Int):(hdL ps r p).length<=n.toNat:=by
 have nd:=(nj (jq O) low p).filter λ h=>r.testBit h.toNat
 have:=jc (m:=upI n) nd λ x hx=>cL.mpr (nu O (zAR.mp hx).1)
 rw[eQ]at this;exact this
def aNG(O:Ow n ps)(low:∀p∈ps,p.1<p.2)(hn:n<=6)(hg:g<2^n.toNat)(hp:p∈bu n g)(item:∀i:Int,0<=i->i<n->atD (ll.map .lst) i= .ok (.lst ((bD (dbl ps) i).map .int)))(hL:L.length<=10000):
  ∃s5' s6',bgI (bgE n ps ll L (.sh (.int (g:Int))) (.sh (.int p)) s5 s6)= .nx (bgE n ps ll (L++[bgD ps (g,p)]) (.sh (.int (g:Int))) (.sh (.int p)) s5' s6'):=by
 obtain⟨⟨p0,p1⟩,pb⟩:=dX.mp hp;obtain⟨h1,h2,_⟩:=ni hn hg hp;obtain⟨r,er⟩:∃r,r=g-2^p.toNat:=⟨_,rfl⟩
 have e1:du 5 (op2 rM (aC 3) (op2 aAw (cD (.int 1)) (aC 4))) (bgE n ps ll L (.sh (.int (g:Int))) (.sh (.int p)) s5 s6)= .nx (bgE n ps ll L (.sh (.int (g:Int))) (.sh (.int p)) (.sh (.int (r:Int))) s6):=by
  have a:=z7 p0 (by lia);have b:=aDh h1;rw[<-er]at b;have v3:aC 3 (bgE n ps ll L (.sh (.int (g:Int))) (.sh (.int p)) s5 s6)= .ok (.int (g:Int)):=rfl;have v4:aC 4 (bgE n ps ll L (.sh (.int (g:Int))) (.sh (.int p)) s5 s6)= .ok (.int p):=rfl;rw[qQ,gF,v3,aQ,gF,aIT,aQ,v4,aQ,a,fW,aQ,b,fW,cT];rfl
 have e2:bgH (bgE n ps ll L (.sh (.int (g:Int))) (.sh (.int p)) (.sh (.int (r:Int))) s6)= .ok (.lst ((hdL ps r p).map .int)):=by
  have hll:(bD (dbl ps) p).length<=6:=by
   have:=jc (m:=upI n) (nj (jq O) low p) λ x hx=>cL.mpr (nu O hx)
   rw[eQ]at this;lia
  refine mq (ds:=(bD (dbl ps) p).map .int) (by simp[shE,mD,item p p0 p1]) (by rw[zAD];lia) (lN _ λ h hh=>⟨[.sh (.int h),.sh (.int (r:Int))],rfl,?_,rfl⟩);obtain⟨a,b⟩:=nu O hh;have e2:=aDm r h.toNat;have e3:aAv (.int (r:Int)) (.int h)= .ok (.int ((r:Int) / 2^h.toNat)):=by simp[aAv,i2,a]
  have e4:zK (.int ((r:Int) / 2^h.toNat)) (.int 1)= .ok (.int (if r.testBit h.toNat then 1 else 0)):=by
   rw[<-e2];rfl
  cases c:r.testBit h.toNat<;>rw[c]at e4<;>simp[e3,e4,tst]
 refine⟨.sh (.int (r:Int)),.nw (.lst ((hdL ps r p).map .int)),?_⟩;rw[bgI,aU,e1,bK,aU,nY,e2,cT];show Ou.sq (.nx (bgE n ps ll L (.sh (.int (g:Int))) (.sh (.int p)) (.sh (.int (r:Int))) (.nw (.lst ((hdL ps r p).map .int))))) _=_;rw[bK];have ht:bW (aB (bV (aC 3)) (aB (bV (aC 4)) (aB (bV (aC 5)) (aB (rJ 6) aH)))) (bgE n ps ll L (.sh (.int (g:Int))) (.sh (.int p)) (.sh (.int (r:Int))) (.nw (.lst ((hdL ps r p).map .int))))= .ok (bgD ps (g,p)):=by
  unfold bgD;dsimp only;rw[<-er];rfl
 show((bW (aB (bV (aC 3)) (aB (bV (aC 4)) (aB (bV (aC 5)) (aB (rJ 6) aH)))) (bgE n ps ll L (.sh (.int (g:Int))) (.sh (.int p)) (.sh (.int (r:Int))) (.nw (.lst ((hdL ps r p).map .int))))).bo λ d=>if L.length<zAY then .nx (List.set (bgE n ps ll L (.sh (.int (g:Int))) (.sh (.int p)) (.sh (.int (r:Int))) (.nw (.lst ((hdL ps r p).map .int)))) 2 (.ow (.lst (L++[d]))))else .st)=_
 rw[ht,cT,if_pos (by rw[szl];lia)];rfl
def aNF(O:Ow n ps)(low:∀p∈ps,p.1<p.2)(hn:n<=6)(hg:g<2^n.toNat)(item:∀i:Int,0<=i->i<n->atD (ll.map .lst) i= .ok (.lst ((bD (dbl ps) i).map .int)))(hL:L.length<=1000){s4:Slot}:
  ∃s4' s5' s6',bgO (bgE n ps ll L (.sh (.int (g:Int))) s4 s5 s6)= .nx (bgE n ps ll (L++(bu n g).map λ p=>bgD ps (g,p)) (.sh (.int (g:Int))) s4' s5' s6'):=by
 have hpl:=aAC O.n0 O.n1 hg;have hi:dM (ak iC (aB (aC 3) aH)) (bgE n ps ll L (.sh (.int (g:Int))) s4 s5 s6)= .ok ((bu n g).map .int):=by simp[hpl]
 have hbl:(bu n g).length<=6:=by
  have:=zB4 (λ p:Int=>g.testBit p.toNat) (upI n)
  rw[eQ]at this
  have:(bu n g).length<=n.toNat:=this
  lia
 obtain⟨Y',e,t4,t5,t6,rfl⟩:=iB (ds:=(bu n g).map .int) (a:=gnm 4) (u:=bgI) (Y:=bgE n ps ll L (.sh (.int (g:Int))) s4 s5 s6)
  (λ j Y=>∃t4 t5 t6,Y=bgE n ps ll (L++((bu n g).take j).map λ p=>bgD ps (g,p)) (.sh (.int (g:Int))) t4 t5 t6) (by
   rintro j d Y hd ⟨t4,t5,t6,rfl⟩;rw[zAW]at hd;cases ep:(bu n g)[j]? with
   |none=>rw[ep]at hd;cases hd
   |some p=>
    rw[ep]at hd;cases hd;obtain⟨u5,u6,e⟩:=aNG (L:=L++((bu n g).take j).map λ p=>bgD ps (g,p)) (s5:=t5) (s6:=t6) O low hn hg (zBA ep) item (by rw[zAZ,zAD,zBx];lia);refine⟨_,e,.sh (.int p),u5,u6,?_⟩;rw[zCr,ep,zAk,zCG];rfl) ⟨s4,s5,s6,by simp⟩
 rw[zAD,zCM (zAQ _)]at e;exact⟨t4,t5,t6,by rw[bgO,gm,hi,cT,e]⟩
def aFr(O:Ow n ps)(low:∀p∈ps,p.1<p.2)(hn:n<=6):nP [owD n ps]= .ok (.lst ((bgL n (2^n.toNat-1)).map (bgD ps))):=by
 obtain⟨ll,el,_,item⟩:=aAf O;have hn0:=O.n0;have st:ao 7 [owD n ps]=[.sh (owD n ps),.no,.no,.no,.no,.no,.no]:=rfl;have c1:du 1 (ak jN (aB (aC 0) aH)) [.sh (owD n ps),.no,.no,.no,.no,.no,.no]= .nx [.sh (owD n ps),.sh (.lst (ll.map .lst)),.no,.no,.no,.no,.no]:=by simp[el]
 have c2:oM 2 (jd aH) [.sh (owD n ps),.sh (.lst (ll.map .lst)),.no,.no,.no,.no,.no]= .nx (bgE n ps ll [] .no .no .no .no):=by simp
 obtain⟨M,eM⟩:∃M,M=2^n.toNat:=⟨_,rfl⟩
 have hM:M<=64:=by
  have:2^n.toNat<=2^6:=zBY (by decide) (by lia)
  lia
 have hM1:1<=M:=by rw[eM];exact zDv _
 have hi:bgR (bgE n ps ll [] .no .no .no .no)= .ok (cU 1 M):=by
  have a:=z7 hn0 (show n<=60 by lia);rw[<-eM]at a;have b:=zu (i:=1) (j:=(M:Int)) (by decide) (by decide) (by lia) (by lia);have hx:ixD (owD n ps) (.int 0)= .ok (.int n):=by simp[owD]
  simp[bgR,hx,a,b]
 obtain⟨Y',e,t3,t4,t5,t6,rfl⟩:=iB (ds:=cU 1 M) (a:=gnm 3) (u:=bgO) (Y:=bgE n ps ll [] .no .no .no .no)
  (λ i Y=>∃t3 t4 t5 t6,Y=bgE n ps ll ((bgL n i).map (bgD ps)) t3 t4 t5 t6) (by
   rintro i d Y hd ⟨t3,t4,t5,t6,rfl⟩;obtain⟨rfl,hlt⟩:=mZ hd;obtain⟨g,eg⟩:∃g:Nat,g=i+1:=⟨_,rfl⟩
   have ei:(1+(i:Int))=(g:Int):=by lia
   have kK:=aEe n i;have hle:i*n.toNat<=64*6:=zJG (by lia) (by lia);obtain⟨u4,u5,u6,e⟩:=aNF (L:=(bgL n i).map (bgD ps)) (g:=g) (s4:=t4) (s5:=t5) (s6:=t6) O low hn (by rw[<-eM];lia) item (by rw[zAD];lia);rw[ei,aDW,sI];refine⟨_,(show bgO (bgE n ps ll ((bgL n i).map (bgD ps)) (.sh (.int (g:Int))) t4 t5 t6)=_ from e),.sh (.int (g:Int)),u4,u5,u6,?_⟩;rw[xT,zAk,zAv,<-eg];rfl) ⟨_,_,_,_,rfl⟩
 have kK:(cU 1 M).length=M-1:=by rw[gq];lia
 rw[kK]at e;rw[<-eM];simp only[nP,jz,bL,st];rw[aU,c1,bK,aU,c2,bK,aU,gm,hi,cT,e,bK];rfl
end
section
variable{n:Int}{ps:gX}{g:Nat}{p:Int}
def aDA{i:Nat}:(g,p)∈bgL n i↔(1<=g/\g<=i)/\p∈bu n g:=by
 unfold bgL;rw[zDe];constructor
 .rintro⟨k,hk,h⟩
  obtain⟨q,hq,e⟩:=zA0.mp h;injection e with e1 e2
  subst e1 e2
  have:=zBF.mp hk
  exact⟨⟨by lia,by lia⟩,hq⟩
 .rintro⟨⟨h1,h2⟩,h3⟩
  refine⟨g-1,zBF.mpr (by lia),zA0.mpr ⟨p,?_,?_⟩⟩
  .rw[show g-1+1=g by lia];exact h3
  .rw[show g-1+1=g by lia]
def aNE(n:Int)(i:Nat):(bgL n i).Pairwise λ a b=>a.1<b.1\/a.1=b.1/\a.2<b.2:=by
 induction i with
 |zero=>exact zEb
 |succ i ih=>
  rw[xT,List.pairwise_append];refine⟨ih,?_,λ a ha b hb=>?_⟩
  .rw[zCZ]
   exact(aCD n (i+1)).imp λ h=>.inr ⟨rfl,h⟩
  .obtain⟨a1,a2⟩:=a
   have:=(aDA.mp ha).1
   obtain⟨q,_,rfl⟩:=zA0.mp hb;exact .inl (by lia)
def aFq{B:List (Nat×Int)}(hB:B.Pairwise λ a b=>a.1<b.1\/a.1=b.1/\a.2<b.2){i:Nat}{q r:Nat×Int}(hi:B[i]? =some r)(hq:q∈B)(hl:q.1<r.1):q∈B.take i:=by
 obtain⟨j,hj,ej⟩:=zHd hq;obtain⟨hi1,hi2⟩:=zAK.mp hi;have hji:j<i:=by
  refine zBR λ z=>?_
  by_cases c:j=i
  .subst c
   rw[ej]at hi2;rw[hi2]at hl;lia
  .have:=(zCU.mp hB) i j hi1 hj (by lia)
   rw[ej,hi2]at this;lia
 rw[zG5];exact⟨j,by lia,ej⟩
def aND{B:List (Nat×Int)}(hB:B.Pairwise λ a b=>a.1<b.1\/a.1=b.1/\a.2<b.2){i:Nat}{r:Nat×Int}(hi:B[i]? =some r):r∉B.take i:=λ h=>by
 obtain⟨hi1,hi2⟩:=zAK.mp hi;rw[zG5]at h;obtain⟨j,hj,ej⟩:=h
 have:=(zCU.mp hB) j i (by lia) hi1 (by lia)
 rw[ej,hi2]at this;lia
def ent(n:Int)(ps:gX)(q:Nat×Int):List Int×D:=([(q.1:Int),q.2],.lst ((endL n ps q.1 q.2).map .int))
theorem aID:∀{l:List (Nat×Int)},(g,p)∈l->(l.map (ent n ps)).lookup [(g:Int),p]=some (.lst ((endL n ps g p).map .int))
 |x::l,h=>by
  rw[zAM,ent,zAu];by_cases c:x=(g,p)
  .subst c
   simp
  .have hne:([(g:Int),p]==[(x.1:Int),x.2])=false:=by
    rw[beq_eq_false_iff_ne];intro z;injection z with z1 z2
    injection z2 with z2
    exact c (zHt (by lia) z2.symm)
   rw[hne];exact aID ((zAP.mp h).resolve_left λ z=>c z.symm)
def aMt{l:List (Nat×Int)}(h:(g,p)∉l):((l.map (ent n ps)).map (·.1)).any (·==[(g:Int),p])=false:=by
 rw[zIK];intro k hk z;rw[zAv]at hk;obtain⟨x,hx,rfl⟩:=zA0.mp hk;have z:[(x.1:Int),x.2]=[(g:Int),p]:=by simpa[ent]using z
 injection z with z1 z2
 injection z2 with z2
 refine h ?_;rw[show(g,p)=x from zHt (by dsimp only;lia) z2.symm];exact hx
def Dc(n:Int)(ps:gX)(l:List (Nat×Int))(c:D):Prop:=∃ks vs,c= .dct ks vs/\xq ks vs=some (l.map (ent n ps))
def Dc.at{l:List (Nat×Int)}{c:D}(h:Dc n ps l c)(hm:(g,p)∈l):aAn c (.tup [.int (g:Int),.int p])= .ok (.lst ((endL n ps g p).map .int)):=by
 obtain⟨ks,vs,rfl,hp⟩:=h;have hk:aAS (.tup [.int (g:Int),.int p])=some [(g:Int),p]:=wM [(g:Int),p];unfold aAn;dsimp only;rw[hk,hp];dsimp only;rw[aID hm]
abbrev erE(n:Int)(ps:gX)(c:D)(g:Nat)(p:Int)(r:Nat)(hs:List Int)(s6:Slot):En:=[.sh (owD n ps),.ow c,.sh (.int (g:Int)),.sh (.int p),.sh (.int (r:Int)),.sh (.lst (hs.map .int)),s6]
def aH1{fi:En->Rs (List D)}{Y:En}{l:List D}(h1:fi (shE Y)= .ok ds)(h2:nsL (stE js (shE Y)) fg ft inn ds= .ok l)(h3:l.length<16777216):aDK fi js fg ft inn Y= .ok (.lst l):=by
 unfold aDK;rw[h1,aQ,h2];dsimp only;rw[if_pos (by rw[szl];exact h3)]
theorem aCx{α:Type}{f:α->D}{h:α->List D}{Y:En}{fg:D->En->Rs En}{inn:En->Rs (List D)}:∀(l:List α),(∀x∈l,∃Y1,fg (f x) Y= .ok Y1/\inn Y1= .ok (h x))->nsL Y fg jO inn (l.map f)= .ok (l.flatMap h)
 |[],_=>rfl
 |x::l,hx=>by
  obtain⟨Y1,e1,e2⟩:=hx x zAF;have ih:=aCx l λ y hy=>hx y (zAG _ hy)
  rw[zAM,nsL,e1,aQ,show jO Y1= .ok true from rfl,aQ,if_pos rfl,e2,aQ,ih,aQ,zEP]
def aMq{l:List (Nat×Int)}{c:D}{r:Nat}{hs:List Int}{s6:Slot}(hc:Dc n ps l c)(hn:n<=6)(hh:∀h∈hs,(r,h)∈l)(hl:hs.length<=6):erC (erE n ps c g p r hs s6)= .ok (.lst ((hs.flatMap (endL n ps r)).map .int)):=by
 have hfl:((hs.flatMap (endL n ps r)).map D.int)=hs.flatMap λ h=>(endL n ps r h).map .int:=by rw[zI7]
 have kK:∀hs:List Int,(hs.flatMap (endL n ps r)).length<=hs.length*6:=λ hs=>by
  induction hs with
  |nil=>exact zAa _
  |cons h hs ih=>
   rw[zEP,zAZ,zAO]
   have:=aAZ (n:=n) (ps:=ps) r h
   lia
 rw[hfl];refine aH1 (ds:=hs.map .int) (by simp[shE,mD]) (aCx hs λ h hm=>⟨[.sh (.int h),.no,.sh c,.sh (.int (r:Int))],rfl,?_⟩) (by rw[<-hfl,zAD];have:=kK hs;lia);have ht:=hc.at (hh h hm);have hi:dM (op2 aAn (aC 2) (bW (aB (aC 3) (aB (aC 0) aH)))) [.sh (.int h),.no,.sh c,.sh (.int (r:Int))]= .ok ((endL n ps r h).map .int):=by
  simp[ht]
 unfold inL;rw[if_pos (show([.sh (.int h),.no,.sh c,.sh (.int (r:Int))]:List Slot).all shB=true from rfl),hi,aQ];exact wK _ λ e _=>⟨[.sh (.int h),.sh (.int e),.sh c,.sh (.int (r:Int))],rfl,rfl⟩
def aMp{c:D}{r:Nat}{hs:List Int}(O:Ow n ps)(hn:n<=6)(hg:g<2^n.toNat)(hp:p∈bu n g)(er:r=g-2^p.toNat)(eh:hs=hdL ps r p)(hl:hs.length<=6):erV (erE n ps c g p r hs (.nw (.lst ((hs.flatMap (endL n ps r)).map .int))))= .ok (.lst ((endL n ps g p).map .int)):=by
 have t:tsb (op2 (eqR false) (aC 4) (cD (.int 0))) (erE n ps c g p r hs (.nw (.lst ((hs.flatMap (endL n ps r)).map .int))))= .ok (decide (r=0)):=by
  by_cases c0:r=0
  .subst c0;rfl
  .have:((r:Int)==0)=false:=by rw[beq_eq_false_iff_ne];lia
   have q0:eqR false (.int (r:Int)) (.int 0)= .ok (.bl ((r:Int)==0)):=rfl;have q:eqR false (.int (r:Int)) (.int 0)= .ok (.bl false):=by rw[q0,this]
   simp[q,c0]
 rw[erV,aMg,t,aQ];by_cases c0:r=0
 .rw[decide_eq_true c0,if_pos rfl,aE8 hn hg hp (er▸c0)]
  rfl
 .rw[decide_eq_false c0,if_neg zA8]
  have hm:=aIE O hn hg hp (er▸c0);rw[<-er,<-eh]at hm;have kK:∀hs:List Int,(hs.flatMap (endL n ps r)).length<=hs.length*6:=λ hs=>by
   induction hs with
   |nil=>exact zAa _
   |cons h hs ih=>
    rw[zEP,zAZ,zAO]
    have:=aAZ (n:=n) (ps:=ps) r h
    lia
  have hs2:mK [.lst ((hs.flatMap (endL n ps r)).map .int)]= .ok (.lst ((sortI (ddI (hs.flatMap (endL n ps r)))).map .int)):=by
   unfold mK;dsimp only;rw[gG];dsimp only;rw[if_pos (by have:=kK hs;lia)]
  rw[hm];simp[hs2]
def aMr{l:List (Nat×Int)}{c:D}{r:Nat}{hs:List Int}{s6:Slot}(O:Ow n ps)(hn:n<=6)(hg:g<2^n.toNat)(hp:p∈bu n g)(er:r=g-2^p.toNat)(eh:hs=hdL ps r p)(hl:hs.length<=6)(hc:Dc n ps l c)(hh:∀h∈hs,(r,h)∈l)(eK:(g,p)∉l)(hll:l.length<=10000):
  ∃c' s6',erB (erE n ps c g p r hs s6)= .nx (erE n ps c' g p r hs s6')/\Dc n ps (l++[(g,p)]) c':=by
 have e1:=aMq (g:=g) (p:=p) (s6:=s6) hc hn hh hl;have e2:=aMp (c:=c) O hn hg hp er eh hl;obtain⟨ks,vs,rfl,hpr⟩:=hc;refine⟨aMv (l.map (ent n ps)++[ent n ps (g,p)]),.nw (.lst ((hs.flatMap (endL n ps r)).map .int)),?_,_,_,rfl,?_⟩
 .rw[erB,aU,nY,e1,cT]
  show Ou.sq (.nx (erE n ps (.dct ks vs) g p r hs (.nw (.lst ((hs.flatMap (endL n ps r)).map .int))))) _=_;rw[bK];have ek:bW (aB (aC 2) (aB (aC 3) aH)) (erE n ps (.dct ks vs) g p r hs (.nw (.lst ((hs.flatMap (endL n ps r)).map .int))))= .ok (.tup [.int (g:Int),.int p]):=rfl;have ep:v8 (.dct ks vs) (.tup [.int (g:Int),.int p])=some (l.map (ent n ps),[(g:Int),p]):=by
   have hk:aAS (.tup [.int (g:Int),.int p])=some [(g:Int),p]:=wM [(g:Int),p];unfold v8;dsimp only;rw[hk,hpr]
  have eq:aBO (l.map (ent n ps)) [(g:Int),p] (.lst ((endL n ps g p).map .int))=l.map (ent n ps)++[ent n ps (g,p)]:=by
   unfold aBO;rw[aMt eK,if_neg zA8];rfl
  unfold ptS
  show((erV (erE n ps (.dct ks vs) g p r hs (.nw (.lst ((hs.flatMap (endL n ps r)).map .int))))).bo λ d=>(bW (aB (aC 2) (aB (aC 3) aH)) (erE n ps (.dct ks vs) g p r hs (.nw (.lst ((hs.flatMap (endL n ps r)).map .int))))).bo λ k=>match v8 (.dct ks vs) k with
   |some (ps',j)=>if ps'.length<zAY then .nx ((erE n ps (.dct ks vs) g p r hs (.nw (.lst ((hs.flatMap (endL n ps r)).map .int)))).set 1 (.ow (aMv (aBO ps' j d))))else .st
   |none=>.st)=_
  rw[e2,cT,ek,cT,ep];dsimp only;rw[if_pos (by rw[szl,zAD];lia),eq];rfl
 .refine(aGx _).trans ?_
  rw[zAk];rfl
def uU(O:Ow n ps)(low:∀p∈ps,p.1<p.2)(hn:n<=6):∃c,dm [owD n ps]= .ok c/\Dc n ps (bgL n (2^n.toNat-1)) c:=by
 have hb:=aFr O low hn;obtain⟨M,eM⟩:∃M,M=2^n.toNat:=⟨_,rfl⟩
 have hM:M<=64:=by
  have:2^n.toNat<=2^6:=zBY (by decide) (by lia)
  lia
 have hM1:1<=M:=by rw[eM];exact zDv _
 rw[<-eM]at hb ⊢;obtain⟨B,eB⟩:∃B,B=bgL n (M-1):=⟨_,rfl⟩
 have kK:B.length<=10000:=by
  have h1:=aEe n (M-1);have h2:(M-1)*n.toNat<=64*6:=zJG (by lia) (by lia);rw[eB];lia
 have hlex:B.Pairwise λ a b=>a.1<b.1\/a.1=b.1/\a.2<b.2:=by rw[eB];exact aNE n _
 have dA:∀{g:Nat} {p:Int},(g,p)∈B↔(1<=g/\g<=M-1)/\p∈bu n g:=by rw[eB];exact aDA
 rw[<-eB]at hb ⊢;have st:ao 7 [owD n ps]=[.sh (owD n ps),.no,.no,.no,.no,.no,.no]:=rfl;have c1:oM 1 (cD (.dct [] [])) [.sh (owD n ps),.no,.no,.no,.no,.no,.no]= .nx [.sh (owD n ps),.ow (.dct [] []),.no,.no,.no,.no,.no]:=rfl;have hi:dM (ak nP (aB (aC 0) aH)) [.sh (owD n ps),.ow (.dct [] []),.no,.no,.no,.no,.no]= .ok (B.map (bgD ps)):=by simp[hb]
 obtain⟨Y',e,c,s2,s3,s4,s5,s6,rfl,hc⟩:=iB (ds:=B.map (bgD ps)) (a:=erG) (u:=erB) (Y:=[.sh (owD n ps),.ow (.dct [] []),.no,.no,.no,.no,.no])
  (λ i Y=>∃(c:D) (s2 s3 s4 s5 s6:Slot),Y=[.sh (owD n ps),.ow c,s2,s3,s4,s5,s6]/\Dc n ps (B.take i) c) (by
   rintro i d Y hd ⟨c,s2,s3,s4,s5,s6,rfl,hc⟩;rw[zAW]at hd;cases eq:B[i]? with
   |none=>rw[eq]at hd;cases hd
   |some q=>
    rw[eq]at hd;cases hd;obtain⟨g,p⟩:=q;obtain⟨⟨g1,g2⟩,hp⟩:=dA.mp (zBA eq);have hg:g<2^n.toNat:=by rw[<-eM];lia
    obtain⟨_,hlt,hbits⟩:=ni hn hg hp;obtain⟨c',t6,e,hc'⟩:=aMr (g:=g) (p:=p) (r:=g-2^p.toNat) (hs:=hdL ps (g-2^p.toNat) p) (s6:=s6) O hn hg hp rfl rfl (by have:=aMj O low (g-2^p.toNat) p;lia) hc (λ h hh=>by
     obtain⟨k1,k2⟩:=zAR.mp hh;have hb2:h∈bu n (g-2^p.toNat):=dX.mpr ⟨nu O k1,k2⟩;refine aFq hlex eq (dA.mpr ⟨⟨?_,by lia⟩,hb2⟩) hlt;have k3:=zDC k2
     have:=zDv h.toNat
     lia) (aND hlex eq) (by rw[zBx];lia)
    have eG:erG (bgD ps (g,p)) [.sh (owD n ps),.ow c,s2,s3,s4,s5,s6]= .ok (erE n ps c g p (g-2^p.toNat) (hdL ps (g-2^p.toNat) p) s6):=rfl;rw[eG,sI];refine⟨_,(show erB (erE n ps c g p (g-2^p.toNat) (hdL ps (g-2^p.toNat) p) s6)=_ from e),c',_,_,_,_,t6,rfl,?_⟩;rw[zCr,eq];exact hc') ⟨_,_,_,_,_,_,rfl,[],[],rfl,rfl⟩
 rw[zAD,zCM (zAQ _)]at hc;refine⟨c,?_,hc⟩;obtain⟨ks,vs,rfl,_⟩:=hc;simp only[dm,cZ,bL,st];rw[aU,c1,bK,aU,gm,hi,cT,e,bK];rfl
end
section
variable{n:Int}{ps:gX}
def ou(hn:n<=6)(x:Int):x∈bu n (2^n.toNat-1)↔0<=x/\x<n:=by
 rw[dX];refine⟨λ h=>h.1,λ h=>⟨h,aFp n.toNat (by lia) x.toNat (by lia)⟩⟩
def thL(n:Int)(ps:gX):gX:=(upI n).flatMap λ a=>((endL n ps (2^n.toNat-1) a).filter λ b=>decide (a<=b)).map λ b=>(a,b)
def aAN(hn:n<=6){a b:Int}:(a,b)∈thL n ps↔a<=b/\∃w,Hw n ps w/\w.head?=some a/\w.getLast?=some b:=by
 unfold thL;rw[zDe];constructor
 .rintro⟨x,hx,h⟩
  obtain⟨y,hy,e⟩:=zA0.mp h;injection e with e1 e2
  subst e1 e2;obtain⟨h1,h2⟩:=zAR.mp hy;obtain⟨w,w1,w2,w3,w4,w5⟩:=qd.mp h1;exact⟨by simpa using h2,w,⟨w1,λ z=>by rw[w2,ou hn],w3⟩,w4,w5⟩
 .rintro⟨hab,w,W,h1,h2⟩
  refine⟨a,cL.mpr ((W.mem a).mp (zIM h1)),zA0.mpr ⟨b,zAR.mpr ⟨qd.mpr ⟨w,W.nd,λ z=>by rw[ou hn,W.mem],W.al,h1,h2⟩,by simpa using hab⟩,rfl⟩⟩
def aLU(n:Int)(ps:gX):(thL n ps).Pairwise λ p q=>p.1<q.1\/p.1=q.1/\p.2<q.2:=by
 unfold thL;rw[List.pairwise_flatMap];refine⟨λ a _=>?_,(zQ n).imp λ{a b} h x hx y hy=>?_⟩
 .rw[zCZ]
  exact((aAY _ a).filter _).imp λ h=>.inr ⟨rfl,h⟩
 .obtain⟨_,_,rfl⟩:=zA0.mp hx
  obtain⟨_,_,rfl⟩:=zA0.mp hy;exact .inl h
def aGE(n:Int)(ps:gX)(h:n<=6):(thL n ps).length<=36:=by
 have:∀l:List Int,(l.flatMap λ a=>((endL n ps (2^n.toNat-1) a).filter λ b=>decide (a<=b)).map λ b=>(a,b)).length<=l.length*6:=λ l=>by
  induction l with
  |nil=>exact zAa _
  |cons a l ih=>
   rw[zEP,zAZ,zAO,zAD];have h1:=zB4 (λ b=>decide (a<=b)) (endL n ps (2^n.toNat-1) a);have h2:=aAZ (n:=n) (ps:=ps) (2^n.toNat-1) a;lia
 have h1:=this (upI n);rw[eQ]at h1;unfold thL;lia
def xQ(O:Ow n ps)(low:∀p∈ps,p.1<p.2)(hn:n<=10):bZ [owD n ps]= .ok .non:=by
 have hc:=qw O low;have st:ao 1 [owD n ps]=[.sh (owD n ps)]:=rfl;have hx:ixD (owD n ps) (.int 0)= .ok (.int n):=by simp[owD]
 have c1:ctI [.sh (owD n ps)]= .nx [.sh (owD n ps)]:=by
  have:¬(10<n):=by lia
  simp[ctI,hx,this]
 simp only[bZ,cJ,bL,st];simp[hc,c1]
def pB(O:Ow n ps)(low:∀p∈ps,p.1<p.2)(hn:n<=6):aR [owD n ps]= .ok (.lst ((thL n ps).map pD)):=by
 have hn0:=O.n0;have hct:=xQ O low (by lia);obtain⟨c,ec,hc⟩:=uU O low hn;obtain⟨G,eG⟩:∃G:Nat,G=2^n.toNat-1:=⟨_,rfl⟩
 have cE:=zDv n.toNat;have hx:ixD (owD n ps) (.int 0)= .ok (.int n):=by simp[owD]
 have st:ao 3 [owD n ps]=[.sh (owD n ps),.no,.no]:=rfl;have c0:aBs (ak bZ (aB (aC 0) aH)) [.sh (owD n ps),.no,.no]= .nx [.sh (owD n ps),.no,.no]:=by simp[hct]
 have c1:du 1 (op2 rM (op2 aAw (cD (.int 1)) (op2 ixD (aC 0) (cD (.int 0)))) (cD (.int 1))) [.sh (owD n ps),.no,.no]= .nx [.sh (owD n ps),.sh (.int (G:Int)),.no]:=by
  have a:=z7 hn0 (show n<=60 by lia);have b:=aDh (a:=2^n.toNat) (b:=1) cE;rw[<-eG]at b;have b2:rM (.int ((2^n.toNat:Nat):Int)) (.int 1)= .ok (.int (G:Int)):=b;have v:op2 ixD (aC 0) (cD (.int 0)) [.sh (owD n ps),.no,.no]= .ok (.int n):=by simp[hx]
  rw[qQ,gF,gF,aIT,aQ,v,aQ,a,fW,aQ,aQ,b2,fW,cT];rfl
 have c2:du 2 (ak dm (aB (aC 0) aH)) [.sh (owD n ps),.sh (.int (G:Int)),.no]= .nx [.sh (owD n ps),.sh (.int (G:Int)),.sh c]:=by simp[ec]
 have hr:=fU (j:=n) (by lia) (by lia);have hfl:(thL n ps).map pD=(upI n).flatMap λ a=>((endL n ps G a).filter λ b=>decide (a<=b)).map λ b=>pD (a,b):=by
  unfold thL;rw[zI7,<-eG];simp only[zAv];rfl
 have c3:thC [.sh (owD n ps),.sh (.int (G:Int)),.sh c]= .ok (.lst ((thL n ps).map pD)):=by
  have hl:=aGE n ps hn;rw[hfl];refine aH1 (ds:=(upI n).map .int) (by simp[shE,mD,hx,hr,vZ]) (aCx (upI n) λ a ha=>⟨[.sh (.int a),.no,.sh c,.sh (.int (G:Int))],rfl,?_⟩) (by rw[<-hfl,zAD];lia);obtain⟨a0,a1⟩:=cL.mp ha;have ht:=hc.at (g:=G) (p:=a) (by
   rw[<-eG];refine aDA.mpr ⟨⟨?_,zAQ _⟩,by rw[eG];exact(ou hn a).mpr ⟨a0,a1⟩⟩
   have:2^1<=2^n.toNat:=zBY (by decide) (by lia)
   lia)
  have hi:dM (op2 aAn (aC 2) (bW (aB (aC 3) (aB (aC 0) aH)))) [.sh (.int a),.no,.sh c,.sh (.int (G:Int))]= .ok ((endL n ps G a).map .int):=by
   simp[ht]
  unfold inL;rw[if_pos (show([.sh (.int a),.no,.sh c,.sh (.int (G:Int))]:List Slot).all shB=true from rfl),hi,aQ];exact lN _ λ e _=>⟨[.sh (.int a),.sh (.int e),.sh c,.sh (.int (G:Int))],rfl,rfl,rfl⟩
 have key:bA [.sh (owD n ps),.no,.no]= .rt (.lst ((thL n ps).map pD)):=by
  rw[bA,aU,c0,bK,aU,c1,bK,aU,c2,bK,qY,c3];rfl
 unfold aR;rw[bL,st,key]
def zU{n:Int}(h0:10<n)(hn:n<=60):aR [.tup [.int n,.tup []]]= .ex "TooMany":=by
 have O:Ow n []:=⟨by lia,hn,by simp,λ p hp=>(nomatch hp),rfl⟩;have hc:=qw O (λ p hp=>(nomatch hp));have hc':dq [.tup [.int n,.tup []]]= .ok .non:=hc;have hk:bZ [.tup [.int n,.tup []]]= .ex "TooMany":=by
  have st:ao 1 [.tup [.int n,.tup []]]=[.sh (.tup [.int n,.tup []])]:=rfl;have c1:ctI [.sh (.tup [.int n,.tup []])]= .ex "TooMany":=by simp[ctI,h0]
  simp only[bZ,cJ,bL,st];simp[hc',c1]
 have st:ao 3 [.tup [.int n,.tup []]]=[.sh (.tup [.int n,.tup []]),.no,.no]:=rfl;have key:bA [.sh (.tup [.int n,.tup []]),.no,.no]= .ex "TooMany":=by
  rw[bA,aU];simp[hk]
 unfold aR;rw[bL,st,key]
def xf{x y:D}:aR [.lst [x,y]]= .ex "NoWeb":=by
 have hw:kY [.lst [x,y]]= .ok (.bl false):=by
  simp[kY,jF,bL,ao]
 have hc:dq [.lst [x,y]]= .ex "NoWeb":=by
  have st:ao 1 [.lst [x,y]]=[.sh (.lst [x,y])]:=rfl;simp only[dq,dh,bL,st];simp[hw]
 have hk:bZ [.lst [x,y]]= .ex "NoWeb":=by
  have st:ao 1 [.lst [x,y]]=[.sh (.lst [x,y])]:=rfl;simp only[bZ,cJ,bL,st];simp[hc]
 have st:ao 3 [.lst [x,y]]=[.sh (.lst [x,y]),.no,.no]:=rfl;have key:bA [.sh (.lst [x,y]),.no,.no]= .ex "NoWeb":=by
  rw[bA,aU];simp[hk]
 unfold aR;rw[bL,st,key]
end
def pl(p:Int×Int):List Int:=[p.1,p.2]
def hp(p:Int×Int):Int:=hsh (pl p)
def yJ:gX:=(0,0)::(zAj 6).flatMap λ(i:Nat)=>((zAj 6).filter λ j=>decide (i<j)).map λ(j:Nat)=>((i:Int),(j:Int))
def aCI{p:Int×Int}(h0:0<=p.1)(h1:p.1<p.2)(h2:p.2<6):p∈yJ:=by
 unfold yJ;refine zAG _ ?_;rw[zDe];refine⟨p.1.toNat,by simp;lia,?_⟩;rw[zA0];refine⟨p.2.toNat,?_,?_⟩
 .rw[zAR]
  exact⟨by simp;lia,by simp;lia⟩
 .have e1:((p.1.toNat:Nat):Int)=p.1:=zBa h0
  have e2:((p.2.toNat:Nat):Int)=p.2:=zBa (by lia);rw[e1,e2]
def aE1:List Int:=[(-8458139203682520985),(-1950498447580522560),7204814214171964562,(-4734289103435588629),1773351652666409796,(-3119722376306286570),(-3550055125485641917),(-1440771752368011620),(-6333845781340707986),173794974761290439,8409376899596376432,3516302870623680066,(-8422800446983873125),1079245023883434373,7586885779985432798,(-1009709641759730766)]
set_option maxRecDepth 1000000 in
def aCK:yJ.map hp=aE1:=by decide+kernel
set_option maxRecDepth 1000000 in
def aDV:aE1.Nodup:=by decide+kernel
def aCJ:yJ.length=16:=by rw[<-zAD (f:=hp),aCK];rfl
theorem yX:∀{L:List α},(L.map f).Nodup->∀x∈L,∀y∈L,f x=f y->x=y
 |a::L,h,x,hx,y,hy,e=>by
  rw[zAM,zAb]at h;rcases zAP.mp hx with q|q
  .rcases zAP.mp hy with z|z
   .rw[q,z]
   .subst q
    exact absurd (zA0.mpr ⟨y,z,e.symm⟩) h.1
  .rcases zAP.mp hy with z|z
   .subst z
    exact absurd (zA0.mpr ⟨x,q,e⟩) h.1
   .exact yX h.2 x q y z e
def aDB(ps:gX):(ps.map pl).map tupI=ps.map pD:=by rw[zAv];rfl
def aLl(h:pl p=pl q):p=q:=by
 unfold pl at h;injection h with h1 h2
 injection h2 with h2 _
 exact zHt h1 h2
def aEo(ps:gX):mC (ps.map pD)=some (ps.map pl):=by
 rw[<-aDB];exact pA λ ns h=>by
  obtain⟨p,_,rfl⟩:=zA0.mp h;simp[pl]
def aNz{ps:gX}(h:∀p∈ps,p∈yJ):aKA (ps.map pl)=true:=by
 unfold aKA;rw[zAt];intro a ha;rw[zAt];intro b hb;obtain⟨p,hp1,rfl⟩:=zA0.mp ha;obtain⟨q,hq1,rfl⟩:=zA0.mp hb;by_cases e:hsh (pl p)=hsh (pl q)
 .have:=yX (f:=hp) (by rw[aCK];exact aDV) p (h p hp1) q (h q hq1) e
  subst this;simp
 .have:(hsh (pl p)!=hsh (pl q))=true:=by simpa using e
  rw[this,zFe]
theorem aA2:∀(l acc:gV),(acc.Nodup->(l.foldl (λ acc x=>if x∈acc then acc else acc++[x]) acc).Nodup)/\((acc++l).Nodup->l.foldl (λ acc x=>if x∈acc then acc else acc++[x]) acc=acc++l)/\∀y,y∈l.foldl (λ acc x=>if x∈acc then acc else acc++[x]) acc↔y∈acc\/y∈l
 |[],acc=>⟨λ h=>h,λ _=>by simp,λ y=>by simp⟩
 |x::l,acc=>by
  rw[zBI];by_cases h:x∈acc
  .rw[if_pos h]
   obtain⟨a,b,c⟩:=aA2 l acc;refine⟨a,λ nd=>?_,λ y=>?_⟩
   .exact absurd h λ z=>(zBo.mp nd).2.2 x z x zAF rfl
   .rw[c,zAP]
    constructor
    .rintro(z|z)
     .exact .inl z
     .exact .inr (.inr z)
    .rintro(z|rfl|z)
     .exact .inl z
     .exact .inl h
     .exact .inr z
  .rw[if_neg h]
   obtain⟨a,b,c⟩:=aA2 l (acc++[x]);refine⟨λ nd=>a (zBo.mpr ⟨nd,by simp,λ y hy z hz e=>?_⟩),λ nd=>?_,λ y=>?_⟩
   .rw[zA2.mp hz]at e;subst e;exact h hy
   .rw[b (by rw[zCG];exact nd),zCG];rfl
   .rw[c,zAh,zA2,zAP,or_assoc]
def yw(l:gV):(ddT l).Nodup:=(aA2 l []).1 zCx
def aEM:y∈ddT l↔y∈l:=by rw[show(y∈ddT l)=(y∈l.foldl (λ acc x=>if x∈acc then acc else acc++[x]) [])from rfl,(aA2 l []).2.2];simp
def aIK{ps:gX}(h:∀p∈ps,p∈yJ):(ddT (ps.map pl)).length<=16:=by
 have:=sub_len (l':=yJ.map pl) (yw (ps.map pl)) λ x hx=>by
  obtain⟨p,hp1,rfl⟩:=zA0.mp (aEM.mp hx);exact zFO (h p hp1)
 rwa [zAD,aCJ]at this
def aLf:uK qs=true↔nO (qs.map pl)/\(qs.map pl).Nodup:=by
 rw[m6];unfold nO zGb;rw[zCZ,zCZ];constructor
 .intro h
  refine⟨h.imp λ{p q} z=>?_,h.imp λ{p q} z e=>?_⟩
  .exact aEQ (qg.mpr z)
  .have:=aLl e
   subst this;lia
 .rintro⟨h1,h2⟩
  refine(h1.and h2).imp λ{p q} z=>?_
  refine qg.mp ?_;show HT.lexLt (pl p) (pl q)=true;cases c:HT.lexLt (pl p) (pl q)with
  |true=>rfl
  |false=>exact absurd (wA _ _ c z.1) z.2
def aIG(a:gV):lw (.lst (a.map tupI))<=60/\au (.lst (a.map tupI))=true:=by
 have eT:∀d∈a.map tupI,El 1 d:=λ d hd=>by obtain⟨x,_,rfl⟩:=zA0.mp hd;exact .tup .ints
 exact⟨by have:=xN (k:=1) λ d hd=>(eT d hd).e;unfold lw;lia,by unfold au;exact sJ λ d hd=>(eT d hd).n⟩
section
variable{n:Int}{ps qs:gX}{w:List Int}
def Hw.rev(h:Hw n ps w):Hw n ps w.reverse:=⟨(zIN w).nodup_iff.mpr h.nd,λ y=>by rw[zE5];exact h.mem y,zL (aA3 ps) h.al⟩
def aFs{es fs:gX}(hs:∀p∈es,p∈fs)(h:cN es w=true):cN fs w=true:=by
 rw[kJ]at h ⊢;exact λ i a b ha hb=>hs _ (h i a b ha hb)
def Hw.sub(h:Hw n qs w)(hs:∀p∈qs,p∈ps):Hw n ps w:=⟨h.nd,h.mem,aFs (λ p hp=>by
 obtain⟨a,b⟩:=p;rcases dD.mp hp with z|z
 .exact dD.mpr (.inl (hs _ z))
 .exact dD.mpr (.inr (hs _ z))) h.al⟩
def Ow.sub(O:Ow n ps)(h:qs.Sublist ps):Ow n qs:=⟨O.n0,O.n1,zAi h.length_le O.len,λ p hp=>O.pr p (h.subset hp),m6.mpr ((m6.mp O.ris).sublist h)⟩
def hdI(w:List Int):Int:=w.head?.getD 0
def laI(w:List Int):Int:=w.getLast?.getD 0
def mmP(w:List Int):Int×Int:=(if laI w<hdI w then laI w else hdI w,if laI w>hdI w then laI w else hdI w)
def fu(n:Int)(ps:gX):List Tr:=(dG ps).filter λ t=>decide ((t.1.length:Int)=n-1)
def aIz(O:Ow n ps)(low:∀p∈ps,p.1<p.2):∃wf:Tr->List Int,∀t∈fu n ps,bT [.int n,rwD t.1]= .ok (.tup [tupI (wf t)])/\Hw n t.1 (wf t)/\t.1.Sublist ps:=by
 have key:∀t,∃w,t∈fu n ps->bT [.int n,rwD t.1]= .ok (.tup [tupI w])/\Hw n t.1 w/\t.1.Sublist ps:=λ t=>by
  by_cases c:t∈fu n ps
  .obtain⟨h1,h2⟩:=zAR.mp c
   have hin:∀p∈ps,(0<=p.1/\p.1<n)/\(0<=p.2/\p.2<n):=λ p hp=>by
    obtain⟨a,b,c,d,_⟩:=O.pr p hp;exact⟨⟨a,b⟩,c,d⟩
   obtain⟨R,hs,hd⟩:=zq hin t h1;obtain⟨w,e,W⟩:=yC (O.sub hs) (λ p hp=>low p (hs.subset hp)) (aIy hin t h1) hd (by rw[decide_eq_true_eq]at h2;lia);exact⟨w,λ _=>⟨e,W,hs⟩⟩
  .exact⟨[],λ z=>absurd z c⟩
 exact⟨λ t=>Classical.choose (key t),λ t=>zGO (key t)⟩
def aKL(O:Ow n ps)(low:∀p∈ps,p.1<p.2)(hn:n<=6){wf:Tr->List Int}(hf:∀t∈fu n ps,bT [.int n,rwD t.1]= .ok (.tup [tupI (wf t)])/\Hw n t.1 (wf t)/\t.1.Sublist ps)(q:Int×Int):
  q∈(fu n ps).map (λ t=>mmP (wf t))↔q∈thL n ps:=by
 have ends:∀{w:List Int} {a b:Int},w.head?=some a->w.getLast?=some b->hdI w=a/\laI w=b:=λ h1 h2=>by
  unfold hdI laI;rw[h1,h2];exact⟨rfl,rfl⟩
 constructor
 .intro h
  obtain⟨t,ht,rfl⟩:=zA0.mp h;obtain⟨_,W,hs⟩:=hf t ht;replace W:=W.sub (ps:=ps) λ p hp=>hs.subset hp
  obtain⟨w,ew⟩:∃w,w=wf t:=⟨_,rfl⟩
  rw[<-ew]at W ⊢;have hl:(t.1.length:Int)=n-1:=by simpa using(zAR.mp ht).2
  have wne:w≠[]:=λ z=>by
   have:=W.len
   rw[z]at this;simp at this;lia
  obtain⟨a,ha⟩:∃a,w.head?=some a:=⟨w.head wne,List.head?_eq_some_head wne⟩
  obtain⟨b,hb⟩:∃b,w.getLast?=some b:=⟨w.getLast wne,zBw wne⟩
  obtain⟨e1,e2⟩:=ends ha hb;unfold mmP;rw[e1,e2];by_cases c:b<a
  .rw[if_pos c,if_neg (by lia)]
   exact(aAN hn).mpr ⟨by lia,w.reverse,W.rev,by rw[List.head?_reverse];exact hb,by rw[List.getLast?_reverse];exact ha⟩
  .rw[if_neg c]
   have:(if b>a then b else a)=b:=by split<;>lia
   rw[this];exact(aAN hn).mpr ⟨by lia,w,W,ha,hb⟩
 .intro h
  obtain⟨a,b⟩:=q;obtain⟨hab,w,W,ha,hb⟩:=(aAN hn).mp h;have eI:=aA4 low W.al;have hin:∀p∈ps,(0<=p.1/\p.1<n)/\(0<=p.2/\p.2<n):=λ p hp=>by
   obtain⟨a,b,c,d,_⟩:=O.pr p hp;exact⟨⟨a,b⟩,c,d⟩
  have nd:=jq O;have per:(ps.filter λ p=>decide (p∈cpL w)).Perm (cpL w):=(zB6 (nd.filter _) (qp W.nd)).mpr λ p=>by
   rw[zAR,decide_eq_true_eq];exact⟨λ z=>z.2,λ z=>⟨eI p z,z⟩⟩
  obtain⟨t,ht,et⟩:=aG8 hin nd (ps.filter λ p=>decide (p∈cpL w)) zHc ((aOD W.nd).perm per) λ x=>by rw[aBt per];exact aKM W.nd x
  have wl:=W.len;have cE:0<w.length:=by
   cases w with
   |nil=>cases ha
   |cons x r=>simp
  have tl:(t.1.length:Int)=n-1:=by
   rw[et,per.length_eq,aD1]
   have:=O.n0
   lia
  have ht2:t∈fu n ps:=zAR.mpr ⟨ht,by simpa using tl⟩;obtain⟨_,W2,hs⟩:=hf t ht2;have W3:Hw n t.1 w:=by
   refine⟨W.nd,W.mem,?_⟩;rw[kJ];intro i x y hx hy;have hxy:(mnI x y,mxI x y)∈cpL w:=by
    clear per eI et ht W2 hs tl ht2 hf h wl cE W hb ha;induction w generalizing i with
    |nil=>simp at hx
    |cons u r ih=>
     cases r with
     |nil=>simp at hy
     |cons v r=>
      rw[cpL];cases i with
      |zero=>
       simp at hx hy;rw[hx,hy];exact zAF
      |succ i=>exact zAG _ (ih i (by simpa using hx) (by simpa using hy))
   have hm:(mnI x y,mxI x y)∈t.1:=by rw[et];exact zAR.mpr ⟨eI _ hxy,by simpa using hxy⟩
   rcases vy x y with ⟨e1,e2⟩|⟨e1,e2⟩
   .rw[e1,e2]at hm;exact dD.mpr (.inl hm)
   .rw[e1,e2]at hm;exact dD.mpr (.inr hm)
  obtain⟨c,d,a',b',h1,h2,h3,h4,hh⟩:=W2.ends (λ p hp=>low p (hs.subset hp)) (nd.sublist hs) W3 (by lia);rw[ha]at h3;rw[hb]at h4;cases h3;cases h4;refine zA0.mpr ⟨t,ht2,?_⟩;obtain⟨e1,e2⟩:=ends h1 h2;unfold mmP;rw[e1,e2];rcases hh with ⟨rfl,rfl⟩|⟨rfl,rfl⟩
  .have q1:(if d<c then d else c)=c:=by split<;>lia
   have q2:(if d>c then d else c)=d:=by split<;>lia
   rw[q1,q2]
  .have q1:(if d<c then d else c)=d:=by split<;>lia
   have q2:(if d>c then d else c)=c:=by split<;>lia
   rw[q1,q2]
def aNR(hn:n<=6):∀p∈thL n ps,p∈yJ:=λ p hp=>by
 obtain⟨a,b⟩:=p;obtain⟨hab,w,W,h1,h2⟩:=(aAN hn).mp hp;have ha:=(W.mem a).mp (zIM h1);have hb:=(W.mem b).mp (zEy h2);by_cases c:a=b
 .subst c
  have:w.length=1:=by
   cases w with
   |nil=>cases h1
   |cons x r=>
    cases h1;by_cases z:r=[]
    .subst z;rfl
    .exfalso
     rw[zFZ,zBw z]at h2;have h3:r.getLast z=a:=by simpa using h2
     exact(zAb.mp W.nd).1 (h3▸zDB z)
  have wl:=W.len
  have:a=0:=by lia
  subst this;exact zAF
 .exact aCI ha.1 (by dsimp only;lia) (by dsimp only;lia)
def aIF(O:Ow n ps)(low:∀p∈ps,p.1<p.2)(hn:n<=6){wf:Tr->List Int}(hf:∀t∈fu n ps,bT [.int n,rwD t.1]= .ok (.tup [tupI (wf t)])/\Hw n t.1 (wf t)/\t.1.Sublist ps):
  mL [.lst (((fu n ps).map λ t=>mmP (wf t)).map pD)]= .ok (.lst ((thL n ps).map pD)):=by
 have hm:=aKL O low hn hf;obtain⟨R,eR⟩:∃R,R=(fu n ps).map λ t=>mmP (wf t):=⟨_,rfl⟩
 rw[<-eR]at hm ⊢;have h6:∀p∈R,p∈yJ:=λ p hp=>aNR hn p ((hm p).mp hp)
 have rn:=aLf.mp (m6.mpr (aLU n ps));have e:qO (ddT (R.map pl))=(thL n ps).map pl:=by
  refine sE ((lE _).trans ((zB6 (yw _) rn.2).mpr λ x=>?_)) (mJ _) rn.1;rw[aEM,zA0,zA0];simp only[hm]
 show ig 64 (R.map pD)=_;unfold ig;rw[aEo];dsimp only;rw[if_pos ⟨by have:=aIK h6;lia,aNz h6⟩,e,aDB]
end
def lWy:En->Rs D:=(lcD (dM (ak jL (aB (aC 3) aH))) [none,some 3] (gnm 0) (tsb (op2 (eqR false) (opA lr (aB (aC 0) aH)) (op2 rM (op2 ixD (aC 1) (cD (.int 0))) (cD (.int 1))))) (ak bT (aB (op2 ixD (aC 1) (cD (.int 0))) (aB (aC 0) aH))))
def lPr:En->Rs D:=(lcD (dM (aC 4)) [none] (gnm 0) jO (bW (aB (opA (mmD λ i j=>if j<i then j else i) (aB (op2 ixD (op2 ixD (aC 0) (cD (.int 0))) (cD (.int 0))) (aB (op2 ixD (op2 ixD (aC 0) (cD (.int 0))) (op1 xu (cD (.int 1)))) aH))) (aB (opA (mmD λ i j=>if j>i then j else i) (aB (op2 ixD (op2 ixD (aC 0) (cD (.int 0))) (cD (.int 0))) (aB (op2 ixD (op2 ixD (aC 0) (cD (.int 0))) (op1 xu (cD (.int 1)))) aH))) aH))))
def lFb:En->Ou:=(aq (oM 7 (ak aR (aB (aC 3) aH))) (aq (ifS (orT (uN (tst (op1 (my "list") (zO 7)))) (tsb (op2 (eqR true) (zO 7) (rJ 5)))) (retS (cD (.bl false))) Ou.nx) (rC 7 (bW aH))))
abbrev lV(ns:List Int)(k c n:Int)(ps:gX)(s4 s5 s6 s7:Slot):En:=[.sh (.scr ns),.sh (.int k),.sh (.int c),.sh (owD n ps),s4,s5,s6,s7]
def aGc(h:fe (Y.map shS)= .ex c)(hw:wdN c=some w):aFG wdN "told" fe Y= .ok (.str w):=by
 unfold aFG;rw[h];dsimp only;rw[hw]
def aAo{n:Int}{ps:gX}(h:Ow n ps)(low:∀p∈ps,p.1<p.2)(hn:n<=6):ps.length<=15:=by
 have nd:=jq h
 have:=jc (m:=yJ) (l:=(0,0)::ps) (zAb.mpr ⟨λ z=>by have:=low _ z;dsimp only at this;lia,nd⟩) λ p hp=>by
  rcases zAP.mp hp with rfl|hp
  .exact zAF
  .have:=h.pr p hp
   have:=low p hp
   exact aCI (by lia) (by lia) (by lia)
 rw[aCJ,zAO]at this;lia
def aM1{n:Int}{ps:gX}{ns:List Int}{k c:Int}{s4 s5 s6 s7:Slot}(O:Ow n ps)(low:∀p∈ps,p.1<p.2)(hn:n<=6){wf:Tr->List Int}(hf:∀t∈fu n ps,bT [.int n,rwD t.1]= .ok (.tup [tupI (wf t)])/\Hw n t.1 (wf t)/\t.1.Sublist ps):
  lWy (lV ns k c n ps s4 s5 s6 s7)= .ok (.lst ((fu n ps).map λ t=>.tup [tupI (wf t)])):=by
 have hl:=aAo O low hn;have hr:=aBa O (by lia) hl;have hrl:=qW ps;have hle:2^ps.length<=2^15:=zBY (by decide) hl;have hx:ixD (owD n ps) (.int 0)= .ok (.int n):=by simp[owD]
 refine mq (ds:=(dG ps).map λ t=>rwD t.1) ?_ (by rw[zAD];have:=hrl.1;lia) (aB7 _ λ t ht=>⟨[.sh (rwD t.1),.sh (owD n ps)],rfl,?_,λ q=>?_⟩)
 .simp[shE,mD,hr]
 .have kK:opA lr (aB (aC 0) aH) [.sh (rwD t.1),.sh (owD n ps)]= .ok (.int (t.1.length:Int)):=by
   simp[rwD]
  have hs:op2 rM (op2 ixD (aC 1) (cD (.int 0))) (cD (.int 1)) [.sh (rwD t.1),.sh (owD n ps)]= .ok (.int (n-1)):=by
   simp[hx]
  have e0:eqR false (.int (t.1.length:Int)) (.int (n-1))= .ok (.bl ((t.1.length:Int)==n-1)):=rfl;rw[zR,gF,kK,aQ,hs,aQ,e0];by_cases q:(t.1.length:Int)=n-1
  .rw[decide_eq_true q,q,beq_self_eq_true]
   rfl
  .rw[decide_eq_false q,beq_eq_false_iff_ne.mpr q]
   rfl
 .have e:=(hf t (zAR.mpr ⟨ht,q⟩)).1
  have v:op2 ixD (aC 1) (cD (.int 0)) [.sh (rwD t.1),.sh (owD n ps)]= .ok (.int n):=by simp[hx]
  rw[qy,cM,v,aQ,cM,show aC 0 [.sh (rwD t.1),.sh (owD n ps)]= .ok (rwD t.1)from rfl,aQ,jV,aQ,aQ,aQ,e]
def aM2{n:Int}{ps:gX}{ns:List Int}{k c:Int}{s5 s6 s7:Slot}(O:Ow n ps)(low:∀p∈ps,p.1<p.2)(hn:n<=6){wf:Tr->List Int}(hf:∀t∈fu n ps,bT [.int n,rwD t.1]= .ok (.tup [tupI (wf t)])/\Hw n t.1 (wf t)/\t.1.Sublist ps):
  lPr (lV ns k c n ps (.nw (.lst ((fu n ps).map λ t=>.tup [tupI (wf t)]))) s5 s6 s7)= .ok (.lst (((fu n ps).map λ t=>mmP (wf t)).map pD)):=by
 have hl:=aAo O low hn;have hrl:=qW ps;have hle:2^ps.length<=2^15:=zBY (by decide) hl;have hfl:=zB4 (λ t:Tr=>decide ((t.1.length:Int)=n-1)) (dG ps);rw[zAv];refine mq (ds:=(fu n ps).map λ t=>.tup [tupI (wf t)]) (by simp[shE,mD]) (by rw[zAD];have:=hrl.1;unfold fu;lia) (wK _ λ t ht=>⟨[.sh (.tup [tupI (wf t)])],rfl,?_⟩);obtain⟨_,W,_⟩:=hf t ht;have hlt:(t.1.length:Int)=n-1:=by simpa using(zAR.mp ht).2
 obtain⟨w,ew⟩:∃w,w=wf t:=⟨_,rfl⟩
 show _=Rs.ok (pD (mmP (wf t)));rw[<-ew]at W ⊢;have wne:w≠[]:=λ z=>by
  have:=W.len
  rw[z]at this;simp at this;lia
 have h0:op2 ixD (op2 ixD (aC 0) (cD (.int 0))) (cD (.int 0)) [.sh (.tup [tupI w])]= .ok (.int (hdI w)):=by
  cases w with
  |nil=>exact absurd rfl wne
  |cons x r=>
   simp[tupI,hdI]
 have h1:op2 ixD (op2 ixD (aC 0) (cD (.int 0))) (op1 xu (cD (.int 1))) [.sh (.tup [tupI w])]= .ok (.int (laI w)):=by
  have hat:=aCF wne;have e:laI w=w.getLast wne:=by unfold laI;rw[zBw wne];rfl
  rw[e];simp[tupI,hat]
 have m1:mmD (λ i j=>if j<i then j else i) [.int (hdI w),.int (laI w)]= .ok (.int (if laI w<hdI w then laI w else hdI w)):=rfl;have m2:mmD (λ i j=>if j>i then j else i) [.int (hdI w),.int (laI w)]= .ok (.int (if laI w>hdI w then laI w else hdI w)):=rfl;rw[aIe,cM,pQ,cM,h0,aQ,cM,h1,aQ,jV,aQ,aQ,aQ,m1,fW,aQ,cM,pQ,cM,h0,aQ,cM,h1,aQ,jV,aQ,aQ,aQ,m2,fW,aQ];rfl
def aMY{ns:List Int}{k:Int}{s2 s3 s4 s5 s6 s7:Slot}(hk:0<=k):∃t2 t3 t4 t5 t6 t7,lwK [.sh (.scr ns),.sh (.int k),s2,s3,s4,s5,s6,s7]= .nx [.sh (.scr ns),.sh (.int k),t2,t3,t4,t5,t6,t7]:=by
 obtain⟨c,ec⟩:=aKS (ns:=ns) hk;obtain⟨n,ps,ew,O,low,hn⟩:=aDL (c:=c) (most:=6) (by decide);have ew':kW [.int c,.int 6]= .ok (owD n ps):=ew;have hn6:n<=6:=hn;have hn0:=O.n0;have hx:ixD (owD n ps) (.int 0)= .ok (.int n):=by simp[owD]
 have hx1:ixD (owD n ps) (.int 1)= .ok (.tup (ps.map pD)):=by simp[owD]
 obtain⟨dr,ed,d0,d1⟩:=aE9 (c:=c) (k:=9000) (b:=50) (by decide) (by decide) (by decide) (by decide);obtain⟨wf,hf⟩:=aIz O low;have c0:lQ0 [.sh (.scr ns),.sh (.int k),s2,s3,s4,s5,s6,s7]= .nx [.sh (.scr ns),.sh (.int k),.sh (.int c),s3,s4,s5,s6,s7]:=by simp[lQ0,ec]
 have c1:lQ1 [.sh (.scr ns),.sh (.int k),.sh (.int c),s3,s4,s5,s6,s7]= .nx (lV ns k c n ps s4 s5 s6 s7):=by simp[lQ1,ew']
 have e2:=aM1 (ns:=ns) (k:=k) (c:=c) (s4:=s4) (s5:=s5) (s6:=s6) (s7:=s7) O low hn6 hf;have c2:lQ2 (lV ns k c n ps s4 s5 s6 s7)= .nx (lV ns k c n ps (.nw (.lst ((fu n ps).map λ t=>.tup [tupI (wf t)]))) s5 s6 s7):=by
  have u:lQ2=vQ 4 lWy:=rfl;rw[u,nY,e2];rfl
 have e3:=aM2 (ns:=ns) (k:=k) (c:=c) (s5:=s5) (s6:=s6) (s7:=s7) O low hn6 hf;have es:=aIF O low hn6 hf;obtain⟨wy,ewy⟩:∃wy:Slot,wy= .nw (.lst ((fu n ps).map λ t=>.tup [tupI (wf t)])):=⟨_,rfl⟩
 rw[<-ewy]at c2 e3;have c3:lQ3 (lV ns k c n ps wy s5 s6 s7)= .nx (lV ns k c n ps wy (.nw (.lst ((thL n ps).map pD))) s6 s7):=by
  have u:lQ3=vQ 5 (opA mL (aB lPr aH)):=rfl;rw[u,nY,pQ,cM,e3,aQ,jV,aQ,aQ,es];rfl
 have th:=pB O low hn6;have tl:=aGE n ps hn6;have hr:fQ gr (aB (cD (.int 2)) aH) (lV ns k c n ps wy (.nw (.lst ((thL n ps).map pD))) s6 s7)= .ok (cU 0 2):=by
  have:=fU (j:=2) (by decide) (by decide)
  simp[this]
 have q0:eqR true (.lst ((thL n ps).map pD)) (.lst ((thL n ps).map pD))= .ok (.bl false):=by
  have d:=aIG ((thL n ps).map pl);rw[aDB]at d;unfold eqR;rw[if_pos (by rw[zAL,zAL,decide_eq_true_eq];exact⟨⟨d.1,d.2⟩,d.2⟩),if_pos rfl,ql _ d.2];rfl
 obtain⟨Y',e,t6,t7,rfl⟩:=aAX (a:=gnm 6) (u:=lFb) (I:=λ Y=>∃t6 t7,Y=lV ns k c n ps wy (.nw (.lst ((thL n ps).map pD))) t6 t7) (cU 0 2) (lV ns k c n ps wy (.nw (.lst ((thL n ps).map pD))) s6 s7) ⟨_,_,rfl⟩ (by
  rintro d hd Y ⟨t6,t7,rfl⟩;refine⟨lV ns k c n ps wy (.nw (.lst ((thL n ps).map pD))) (.sh d) (.ow (.lst ((thL n ps).map pD++[.tup []]))),?_,_,_,rfl⟩;rw[aDW,sI];show lFb (lV ns k c n ps wy (.nw (.lst ((thL n ps).map pD))) (.sh d) t7)=_;have hz:(thL n ps).length<16777216:=by lia
  have il:my "list" (.lst ((thL n ps).map pD))= .ok (.bl true):=rfl;have ap:rC 7 (bW aH) (lV ns k c n ps wy (.nw (.lst ((thL n ps).map pD))) (.sh d) (.ow (.lst ((thL n ps).map pD))))= .nx (lV ns k c n ps wy (.nw (.lst ((thL n ps).map pD))) (.sh d) (.ow (.lst ((thL n ps).map pD++[.tup []])))):=by
   show(if ((thL n ps).map pD).length<zAY then Ou.nx _ else .st)=_
   rw[if_pos (by rw[szl,zAD];exact hz)];rfl
  simp[lFb,th,q0,il,ap])
 have c4:lQ4 (lV ns k c n ps wy (.nw (.lst ((thL n ps).map pD))) s6 s7)= .nx (lV ns k c n ps wy (.nw (.lst ((thL n ps).map pD))) t6 t7):=by
  have u:lQ4=iK (fQ gr (aB (cD (.int 2)) aH)) (gnm 6) lFb:=rfl;rw[u,gm,hr,cT,e]
 have hb1:=zU (n:=11+dr) (by lia) (by lia);have hb2:=xf (x:=.int n) (y:=.tup (ps.map pD));obtain⟨s5',es5⟩:∃s5':Slot,s5'= .nw (.lst ((thL n ps).map pD)):=⟨_,rfl⟩
 rw[<-es5]at c4 c3;have c5:lQ5 (lV ns k c n ps wy s5' t6 t7)= .nx (lV ns k c n ps wy s5' t6 t7):=by
  have r:=aGc (Y:=lV ns k c n ps wy s5' t6 t7) (fe:=ak aR (aB (bW (aB (op2 fZ (cD (.int 11)) (ak bU (aB (aC 2) (aB (cD (.int 9000)) (aB (cD (.int 50)) aH))))) (aB (bW aH) aH))) aH)) (c:="TooMany") (w:="many") (by simp[ed,hb1,shS]) rfl;have q:eqR true (.str "many") (.str "many")= .ok (.bl false):=by kernel_rfl
  unfold lQ5;simp[r,q]
 have c6:lQ6 (lV ns k c n ps wy s5' t6 t7)= .nx (lV ns k c n ps wy s5' t6 t7):=by
  have r:=aGc (Y:=lV ns k c n ps wy s5' t6 t7) (fe:=ak aR (aB (jd (aB (op2 ixD (aC 3) (cD (.int 0))) (aB (op2 ixD (aC 3) (cD (.int 1))) aH))) aH)) (c:="NoWeb") (w:="web") (by simp[hx,hx1,hb2,shS]) rfl;have q:eqR true (.str "web") (.str "web")= .ok (.bl false):=by kernel_rfl
  unfold lQ6;simp[r,q]
 exact⟨_,_,_,_,_,_,by rw[lwK,aU,c0,bK,aU,c1,bK,aU,c2,bK,aU,c3,bK,aU,c4,bK,aU,c5,bK,c6]⟩
def aH2(ns:List Int)(hl:ns.length<=63):aI7 [.scr ns]= .ok (.bl true):=by
 have st:ao 8 [.scr ns]=[.sh (.scr ns),.no,.no,.no,.no,.no,.no,.no]:=rfl;let m:Int:=if (if (4:Int)<ns.length then(4:Int)else ns.length)>1 then(if (4:Int)<ns.length then(4:Int)else ns.length)else 1
 have hm:1<=m/\m<=4:=by
  show 1<=(if (if (4:Int)<ns.length then(4:Int)else ns.length)>1 then(if (4:Int)<ns.length then(4:Int)else ns.length)else 1)/\(if (if (4:Int)<ns.length then(4:Int)else ns.length)>1 then(if (4:Int)<ns.length then(4:Int)else ns.length)else 1)<=4;split<;>split<;>lia
 have hr:=fU (j:=m) (by lia) (by lia);have hR:lwR [.sh (.scr ns),.no,.no,.no,.no,.no,.no,.no]= .ok (cU 0 m):=by
  rw[<-hr];unfold lwR;simp[m]
 obtain⟨Y',el,t1,t2,t3,t4,t5,t6,t7,rfl⟩:=aAX (a:=gnm 1) (u:=lwK) (I:=λ Y=>∃t1 t2 t3 t4 t5 t6 t7,Y=[.sh (.scr ns),t1,t2,t3,t4,t5,t6,t7]) (cU 0 m) [.sh (.scr ns),.no,.no,.no,.no,.no,.no,.no] ⟨.no,.no,.no,.no,.no,.no,.no,rfl⟩ (by
  rintro d hd Y ⟨t1,t2,t3,t4,t5,t6,t7,rfl⟩;obtain⟨k,rfl,k0,k1⟩:=aBY.mp hd;obtain⟨u2,u3,u4,u5,u6,u7,e⟩:=aMY (ns:=ns) (k:=k) (s2:=t2) (s3:=t3) (s4:=t4) (s5:=t5) (s6:=t6) (s7:=t7) k0;exact⟨_,e,_,_,_,_,_,_,_,rfl⟩)
 have O0:Ow 0 []:=⟨by decide,by decide,by simp,λ p hp=>(nomatch hp),rfl⟩;have O1:Ow 1 []:=⟨by decide,by decide,by simp,λ p hp=>(nomatch hp),rfl⟩;have z0:aR [.tup [.int 0,.tup []]]= .ok (.lst []):=pB O0 (λ p hp=>(nomatch hp)) (by decide);have th1:thL 1 []=[(0,0)]:=by
  have h1:endL 1 [] 1 0=[0]:=aE8 (n:=1) (g:=1) (p:=0) (by decide) (by decide) (by decide) (by decide)
  show[(0:Int)].flatMap (λ a=>((endL 1 [] 1 a).filter λ b=>decide (a<=b)).map λ b=>(a,b))=_
  simp[h1]
 have z1:aR [.tup [.int 1,.tup []]]= .ok (.lst [.tup [.int 0,.int 0]]):=by
  have:=pB O1 (λ p hp=>(nomatch hp)) (by decide)
  rw[th1]at this;exact this
 have z3:eqR false (.lst []) (.lst [])= .ok (.bl true):=rfl;have z4:eqR false (.lst [.tup [.int 0,.int 0]]) (.lst [.tup [.int 0,.int 0]])= .ok (.bl true):=rfl;have cz:lwZ [.sh (.scr ns),t1,t2,t3,t4,t5,t6,t7]= .ok (.bl true):=by
  have b0:bW (aB (cD (.int 0)) (aB (bW aH) aH)) [.sh (.scr ns),t1,t2,t3,t4,t5,t6,t7]= .ok (.tup [.int 0,.tup []]):=rfl;have b1:bW (aB (cD (.int 1)) (aB (bW aH) aH)) [.sh (.scr ns),t1,t2,t3,t4,t5,t6,t7]= .ok (.tup [.int 1,.tup []]):=rfl;have a1:ak aR (aB (bW (aB (cD (.int 0)) (aB (bW aH) aH))) aH) [.sh (.scr ns),t1,t2,t3,t4,t5,t6,t7]= .ok (.lst []):=by
   rw[qy,cM,b0,aQ,jV,aQ,aQ,z0]
  have a2:ak aR (aB (bW (aB (cD (.int 1)) (aB (bW aH) aH))) aH) [.sh (.scr ns),t1,t2,t3,t4,t5,t6,t7]= .ok (.lst [.tup [.int 0,.int 0]]):=by
   rw[qy,cM,b1,aQ,jV,aQ,aQ,z1]
  have l1:jd (aB (bW (aB (cD (.int 0)) (aB (cD (.int 0)) aH))) aH) [.sh (.scr ns),t1,t2,t3,t4,t5,t6,t7]= .ok (.lst [.tup [.int 0,.int 0]]):=rfl;have l0:jd aH [.sh (.scr ns),t1,t2,t3,t4,t5,t6,t7]= .ok (.lst []):=rfl;unfold lwZ;simp only[uz,gF,a1,a2,l0,l1,aQ,z3,z4,fW,aNI]
 have key:xO [.sh (.scr ns),.no,.no,.no,.no,.no,.no,.no]= .rt (.bl true):=by
  rw[xO,aU,gm,hR,cT,el,bK,qY,cz,cT]
 unfold aI7;rw[bL,st,key]
local macro_rules|`(tactic|walk_at "sc")=>`(tactic|exact⟨rfl,rfl,rfl,by decide+kernel,rfl,by decide+kernel,by decide+kernel⟩)
def top(i:Nat):Stmt:=PySem.Challenge.pw_fewways_k13_ends_of_ways_through_all.main.body.getD i (.Pass ⟨0,0,0,0⟩)
abbrev pK:Stmt:=top 16
abbrev rm:Stmt:=top 17
abbrev pL:Stmt:=top 18
abbrev rZ:Stmt:=top 19
abbrev mX:Stmt:=top 20
abbrev fB:Stmt:=top 21
abbrev pM:Stmt:=top 22
abbrev vX:Stmt:=top 23
abbrev mY:Stmt:=top 24
abbrev pN:Stmt:=top 25
abbrev jb:Stmt:=top 28
abbrev mV:Stmt:=top 29
abbrev vY:Stmt:=top 30
abbrev iu:Stmt:=top 31
abbrev ik:Stmt:=top 32
abbrev j9:Stmt:=top 34
abbrev pJ:Stmt:=top 35
abbrev rY:Stmt:=top 36
abbrev pI:Stmt:=top 37
abbrev pH:Stmt:=top 38
abbrev lH:Stmt:=top 39
abbrev mW:Stmt:=top 40
abbrev j8:Stmt:=top 41
abbrev qU:Stmt:=top 42
def aBD:aY ["thing"] ["thing"] (aF pK):=by walk_at "sc"
def aCf:aY ["thing"] ["thing"] (aF rm):=by walk_at "sc"
def aBE:aY ["many","thing"] ["many","thing"] (aF pL):=by walk_at "sc"
def aCe:aY ["many","thing"] ["many","thing"] (aF rZ):=by walk_at "sc"
def zm:aY ["things","at"] ["things"] (aF mX):=by walk_at "sc"
def oN:aY ["many","thing","pair"] ["many","thing"] (aF fB):=by walk_at "sc"
def aBF:aY ["many","thing"] ["many","thing"] (aF pM):=by walk_at "sc"
def aFB:aY ["thing"] ["thing"] (aF vX):=by walk_at "sc"
def zp:aY ["thing"] ["thing"] (aF mY):=by walk_at "sc"
def aBG:aY ["web","many","ties","near","low","high"] ["web"] (aF pN):=by walk_at "sc"
def vW:aY ["web"] ["web"] (aF jb):=by walk_at "sc"
def zg:aY ["group"] ["group"] (aF mV):=by walk_at "sc"
def aFC:aY ["web","near","found","group","place","rest","heads"] ["web"] (aF vY):=by walk_at "sc"
def uJ:aY ["web","reached","group","place","rest","heads","ends"] ["web"] (aF iu):=by walk_at "sc"
def uI:aY ["web","whole","reached"] ["web"] (aF ik):=by walk_at "sc"
def vV:aY ["_law_script","_law_k"] ["_law_script","_law_k"] (aF j9):=by walk_at "sc"
def aBC:aY ["_law_cell","_law_k","_law_bound","_law_left","_law_j","_law_stir"] ["_law_cell","_law_k","_law_bound"] (aF pJ):=by walk_at "sc"
def aCd:aY ["_law_cell","_law_most","_law_many","_law_thick","_law_ties","_law_one","_law_other"] ["_law_cell","_law_most"] (aF rY):=by walk_at "sc"
def aBB:aY ["_law_web_here","_law_found","_law_one","_law_other"] ["_law_web_here"] (aF pI):=by walk_at "sc"
def aBA:aY ["_law_web_here","_law_found","_law_one","_law_other","_law_longer","_law_some","_law_least","_law_uses","_law_low","_law_high","_law_more","_law_used"] ["_law_web_here"] (aF pH):=by walk_at "sc"
def xm:aY ["_law_many","_law_ties","_law_nigh","_law_left","_law_found","_law_place","_law_way","_law_turn"] ["_law_many","_law_ties"] (aF lH):=by walk_at "sc"
def zj:aY ["_law_error","_law_kinds","_law_words"] ["_law_error"] (aF mW):=by walk_at "sc"
def vU:aY ["_law_call","_law_word","_law_error"] ["_law_call"] (aF j8):=by walk_at "sc"
def aL8:aY ["_law_script","_law_k","_law_cell","_law_web_here","_law_ways","_law_due","_law_turn","_law_found"] ["_law_script"] (aF qU):=by walk_at "sc"
set_option genInjectivity false in
set_option genSizeOf false in
structure Adr where
 wZ:Addr
 gM:zAq
 ym:Addr
 iY:zAq
 w6:Addr
 gO:zAq
 yj:Addr
 iW:zAq
 tX:Addr
 dg:zAq
 jA:Addr
 bB:zAq
 wg:Addr
 gQ:zAq
 aBm:Addr
 jF:zAq
 tY:Addr
 dh:zAq
 wj:Addr
 gR:zAq
 o6:Addr
 cJ:zAq
 tV:Addr
 fH:zAq
 aBn:Addr
 jz:zAq
 nG:Addr
 cZ:zAq
 nF:Addr
 bA:zAq
 o5:Addr
 cR:zAq
 wY:Addr
 dZ:zAq
 yh:Addr
 iV:zAq
 wX:Addr
 gK:zAq
 wW:Addr
 gJ:zAq
 qj:Addr
 eO:zAq
 tW:Addr
 uC:zAq
 oZ:Addr
 o9:zAq
 aE5:Addr
 xO:zAq
 oW:Value
 qK:Value
 gZ:Addr
 lQ:Addr
 gW:Addr
 lR:Addr
 di:Addr
 gU:Addr
 fD:Addr
 jH:Addr
 fC:Addr
 gY:Addr
 jG:Addr
 jJ:Addr
 lU:Addr
def wdA(t:Adr):Addr->Option Str:=λ C=>(([t.lQ,t.gW,t.lR,t.di,t.gU,t.fD,t.jH,t.fC,t.gY,t.jG,t.jJ,t.lU]:List Addr).zip (["web","place","way","parting","many","forest","plan","one way","order","text","deed","row"]:List Str)).lookup C
structure Txt(K:zAA)(mg:Str->Option Value)(t:Adr):Prop where
 pY:Dnr K mg "is_whole" pK ["thing"] t.wZ t.gM
 yr:Dnr K mg "is_many" rm ["thing"] t.ym t.iY
 pZ:Dnr K mg "is_place" pL ["many","thing"] t.w6 t.gO
 yq:Dnr K mg "is_pair" rZ ["many","thing"] t.yj t.iW
 uA:Dnr K mg "is_rising" mX ["things"] t.tX t.dg
 jE:Dnr K mg "are_rising_pairs" fB ["many","thing"] t.jA t.bB
 xH:Dnr K mg "are_ties" pM ["many","thing"] t.wg t.gQ
 aBq:Dnr K mg "is_web" vX ["thing"] t.aBm t.jF
 uB:Dnr K mg "check_web" mY ["thing"] t.tY t.dh
 xJ:Dnr K mg "all_tied" pN ["web"] t.wj t.gR
 o8:Dnr K mg "check_tried" jb ["web"] t.o6 t.cJ
 tZ:Dnr K mg "places_in" mV ["group"] t.tV t.fH
 aBr:Dnr K mg "begins" vY ["web"] t.aBn t.jz
 nH:Dnr K mg "ends_reached" iu ["web"] t.nG t.cZ
 cY:Dnr K mg "through_ends" ik ["web"] t.nF t.bA
 o7:Dnr K mg "_law_cell_at" j9 ["_law_script","_law_k"] t.o5 t.cR
 jD:Dnr K mg "_law_draw" pJ ["_law_cell","_law_k","_law_bound"] t.wY t.dZ
 yp:Dnr K mg "_law_web" rY ["_law_cell","_law_most"] t.yh t.iV
 xG:Dnr K mg "_law_near" pI ["_law_web_here"] t.wX t.gK
 xF:Dnr K mg "_law_rows" pH ["_law_web_here"] t.wW t.gJ
 qm:Dnr K mg "_law_walked" lH ["_law_many","_law_ties"] t.qj t.eO
 jW:Dnr K mg "_law_class" mW ["_law_error"] t.tW t.uC
 cQ:Dnr K mg "_law_refused" j8 ["_law_call"] t.oZ t.o9
 aLD:Dnr K mg "law" qU ["_law_script"] t.aE5 t.xO
 gk:mg "MOST_PLACES"=some t.oW
 xn:RelV (.int 60) t.oW
 iJ:mg "MOST_TRIED"=some t.qK
 aAB:RelV (.int 10) t.qK
 vz:mg "FewError"=some (.ref t.gZ)
 l_FewError:aZ mg "FewError"=t.gZ
 iZ:bx K t.gZ
 aEP:mg "NoWeb"=some (.ref t.lQ)
 aET:aZ mg "NoWeb"=t.lQ
 qF:bx K t.lQ
 aFX:mg "NoPlace"=some (.ref t.gW)
 aF4:aZ mg "NoPlace"=t.gW
 nQ:bx K t.gW
 aJc:mg "NoWay"=some (.ref t.lR)
 aJh:aZ mg "NoWay"=t.lR
 uY:bx K t.lR
 aBZ:mg "NoParting"=some (.ref t.di)
 aBc:aZ mg "NoParting"=t.di
 jP:bx K t.di
 yZ:mg "TooMany"=some (.ref t.gU)
 yc:aZ mg "TooMany"=t.gU
 jf:bx K t.gU
 aDD:mg "NoForest"=some (.ref t.fD)
 aDN:aZ mg "NoForest"=t.fD
 km:bx K t.fD
 aHW:mg "NoPlan"=some (.ref t.jH)
 aH6:aZ mg "NoPlan"=t.jH
 qH:bx K t.jH
 aDC:mg "NoOneWay"=some (.ref t.fC)
 aDM:aZ mg "NoOneWay"=t.fC
 kj:bx K t.fC
 aFY:mg "NoOrder"=some (.ref t.gY)
 aF5:aZ mg "NoOrder"=t.gY
 nR:bx K t.gY
 aHV:mg "NoText"=some (.ref t.jG)
 aH5:aZ mg "NoText"=t.jG
 qG:bx K t.jG
 aHX:mg "NoDeed"=some (.ref t.jJ)
 aH7:aZ mg "NoDeed"=t.jJ
 qI:bx K t.jJ
 aJd:mg "NoRow"=some (.ref t.lU)
 aJi:aZ mg "NoRow"=t.lU
 uZ:bx K t.lU
 aAK:mg "ValueError"=none
 aNq:mg "all"=none
 aMV:mg "bool"=none
 aKx:mg "int"=none
 aW:mg "isinstance"=none
 vq:mg "len"=none
 aHS:mg "list"=none
 aHR:mg "max"=none
 aEL:mg "min"=none
 cW:mg "range"=none
 aKw:mg "set"=none
 vp:mg "sorted"=none
 iI:mg "tuple"=none
 cb:aD3 K t.gZ [t.lQ,t.gW,t.lR,t.di,t.gU,t.fD,t.jH,t.fC,t.gY,t.jG,t.jJ,t.lU]=true
open PySem.Spec PyProof.Rows
section
variable{P:zA3}{w:World}{K:zAA}{mg:Str->Option Value}{base:Heap}{t:Adr}
def tL(T:Txt K mg t):dI P w K mg base (CX1 P w) 1 t.wZ t.gM ["thing"] (spF K (aZ mg) 1 jM):=
 bY (k:=0) (f:=gM) T.pY aBD λ n _ _ _ _ _ _ _=>
  (aN (bG (mU (rT (aA 0) T.aW T.aKx) (mQ (aL5 (rT (aA 0) T.aW T.aMV))))))
def aAH(T:Txt K mg t):dI P w K mg base (CX1 P w) 1 t.tX t.dg ["things"] (spF K (aZ mg) 1 fK):=
 bY (k:=0) (f:=dg) T.uA zm λ n _ _ _ _ _ _ _=>
  (aK (eZ (z6 (aD aJ (aD (pG T.vq (aD (aA 0) aG)) aG)) T.cW) (bC (ks:=[1]))
   (aN (ie (pC (yQ (aL (aA 0) (z8 (aA 1) aJ)) (aL (aA 0) (aA 1))))
    (aN (bG qT))
    dB)))
  (aN (bG qT)))
def aBV(T:Txt K mg t):dI P w K mg base (CX1 P w) 1 t.wj t.gR ["web"] (spF K (aZ mg) 1 jN):=
 bY (k:=0) (f:=gR) T.xJ aBG λ n _ _ _ _ _ _ _=>
  (aK (aL0 (aA 0) (pF (n:=2) (bh (bC (ks:=[1,2])) (bh (bC (ks:=[1,2])) lF))))
  (aK (aKg (N:=["place"]) (js:=[none]) (ks:=[0]) (fO (aD (aA 1) aG) T.cW) bj)
  (aK (eZ (dO (aA 2)) (pF (n:=2) (bh (bC (ks:=[4,5])) (bh (bC (ks:=[4,5])) lF)))
   (aK (lC 3 (aA 4) (bO (aA 5)))
   (aN (lC 3 (aA 5) (bO (aA 4))))))
  (aN (bG (qR 3))))))
def aAF(T:Txt K mg t):dI P w K mg base (CX1 P w) 1 t.tV t.fH ["group"] (spF K (aZ mg) 1 iC):=
 bY (k:=0) (f:=fH) T.tZ zg λ n _ _ _ _ _ _ _=>
  (aN (bG (vR (N:=["place","group"]) (js:=[none,some 0]) (ks:=[0]) (fO (aD (aEz (aA 0)) aG) T.cW) bj (rP (mG (aDq (aGZ (aA 1) (aA 0)) aJ))) (bO (aA 0)))))
def vg(T:Txt K mg t):dI P w K mg base (CX1 P w) 1 t.o5 t.cR ["_law_script","_law_k"] (spF K (aZ mg) 2 eY):=
 bY (k:=0) (f:=cR) T.o7 vV λ n _ _ _ _ _ _ _=>
  (aK (ie (yQ (aA 1) (pG T.vq (aD (aA 0) aG)))
   (aN (bG (bO (aL (aA 0) (aA 1)))))
   dB)
  (aN (bG aJ)))
def jT(T:Txt K mg t):dI P w K mg base (CX1 P w) 1 t.wY t.dZ ["_law_cell","_law_k","_law_bound"] (spF K (aZ mg) 3 bU):=
 bY (k:=0) (f:=dZ) T.jD aBC λ n _ _ _ _ _ _ _=>
  (aK (ie (aN5 (aA 0) (aL4 aJ aJ))
   (aK (dC (i:=3) (j7 (aA 0)))
   (aK (eZ (fO (aD (aA 1) aG) T.cW) (bC (ks:=[4]))
    (aK (ie (aDi (aA 3) aJ)
     (aN (bG aJ))
     dB)
    (aN (dC (i:=3) (j7 (aDo (aA 3) (aA 2)))))))
   (aN (bG (rR (aA 3) (aA 2))))))
   dB)
  (aK (dC (i:=5) (j7 (rR (rQ (gB (gB (rR (aA 0) aJ) (rQ aJ (aA 1))) aJ) aJ) aJ)))
  (aK (dC (i:=5) (j7 (rR (gB (gB (rQ (aA 5) (aA 5)) (rQ aJ (aA 1))) aJ) aJ)))
  (aN (bG (rR (aDo (rR (rQ (aA 5) aJ) aJ) aJ) (aA 2)))))))
def aBT(T:Txt K mg t):dI P w K mg base (CX1 P w) 1 t.wX t.gK ["_law_web_here"] (spF K (aZ mg) 1 gf):=
 bY (k:=0) (f:=gK) T.xG aBB λ n _ _ _ _ _ _ _=>
  (aK (aKg (N:=["_law_place"]) (js:=[none]) (ks:=[0]) (fO (aD (aL (aA 0) aJ) aG) T.cW) bj)
  (aK (eZ (dO (aL (aA 0) aJ)) (pF (n:=2) (bh (bC (ks:=[2,3])) (bh (bC (ks:=[2,3])) lF)))
   (aK (lC 1 (aA 2) (bO (aA 3)))
   (aN (lC 1 (aA 3) (bO (aA 2))))))
  (aN (bG (qR 1)))))
def aBS(T:Txt K mg t):dI P w K mg base (CX1 P w) 1 t.wW t.gJ ["_law_web_here"] (spF K (aZ mg) 1 jL):=
 bY (k:=0) (f:=gJ) T.xF aBA λ n _ _ _ _ _ _ _=>
  (aK (lB (i:=1) (vJ (vN (aD (cG (aD (cG aG) (aD (aEx T.iI T.cW (aL (aA 0) aJ)) (aD (aIq (cG (aD aJ aG)) (bO (aL (aA 0) aJ))) aG)))) aG))))
  (aK (eZ (dO (aL (aA 0) aJ)) (pF (n:=2) (bh (bC (ks:=[2,3])) (bh (bC (ks:=[2,3])) lF)))
   (aK (lB (i:=4) (vJ (vN aG)))
   (aK (aIi 1 (pF (n:=3) (bh (bC (ks:=[5,6,7])) (bh (bC (ks:=[5,6,7])) (bh (bC (ks:=[5,6,7])) lF))))
    (aAq (aLZ (SW.st (aC2 (yQ (aL (aA 7) (aA 2)) aJ) (aC2 (yQ (aL (aA 7) (aA 3)) aJ) (aDg (yP (aL (aA 6) (aA 2)) (aL (aA 6) (aA 3)))))))
     (nT (qN (i:=8) (j7 (zb T.aEL (aD (aL (aA 6) (aA 2)) (aD (aL (aA 6) (aA 3)) aG)))))
     (nT (qN (i:=9) (j7 (zc T.aHR (aD (aL (aA 6) (aA 2)) (aD (aL (aA 6) (aA 3)) aG)))))
     (nT (qN (i:=10) (j7 (mO T.iI (aD (vR (N:=["_law_here","_law_high","_law_low"]) (js:=[none,some 9,some 8]) (ks:=[0]) (dO (aA 6)) bj lG (aKh (aDi (aA 0) (aA 1)) (bO (aA 2)) (bO (aA 0)))) aG))))
     (nT (qN (i:=11) (j7 (mO T.iI (aD (vR (N:=["_law_k","_law_uses","_law_one","_law_other"]) (js:=[none,some 7,some 2,some 3]) (ks:=[0]) (fO (aD (aL (aA 0) aJ) aG) T.cW) bj lG (gB (bO (aL (aA 1) (aA 0))) (aIt T.aKx (aD (aN9 (aDp (aA 0) (aA 2)) (mQ (aDp (aA 0) (aA 3)))) aG)))) aG))))
     (aAq (aC3 4 (cG (aD (gB (bO (aA 5)) (cG (aD (cG (aD (bO (aA 2)) (aD (bO (aA 3)) aG))) aG))) (aD (bO (aA 10)) (aD (bO (aA 11)) aG))))))))))
     aGO)))
   (aN (aC4 1 4)))))
  (aN (bG (vR (N:=["_law_row"]) (js:=[none]) (ks:=[0]) (dO (aA 1)) bj lG (bO (aL (aA 0) aJ)))))))
def aAG(T:Txt K mg t):FnH P w K mg base 1 t.tW t.uC ["_law_error"] (spW (wdA t)):=
 aFh (c1:=.ref t.gZ) (c2:=.ty "ValueError") (k1:=[.ref t.lQ,.ref t.gW,.ref t.lR]) (k2:=[.ref t.di,.ref t.gU,.ref t.fD]) (k3:=[.ref t.jH,.ref t.fC,.ref t.gY]) (k4:=[.ref t.jG,.ref t.jJ,.ref t.lU]) (l1:=["web","place","way","parting","many","forest","plan","one way"]) (l2:=["order","text","deed","row"]) T.jW.F zj rfl rfl rfl rfl (λ cdv A outer s H=>⟨(fV rfl rfl rfl T.aW (dN (v:=.ref t.gZ) rfl T.vz rfl)),(fV rfl rfl rfl T.aW (aED (v:=.ty "ValueError") (u:=.type "ValueError") rfl T.aAK rfl rfl)),(aV (fV rfl rfl rfl T.aW (dN (v:=.ref t.lQ) rfl T.aEP rfl)) (aV (fV rfl rfl rfl T.aW (dN (v:=.ref t.gW) rfl T.aFX rfl)) (aV (fV rfl rfl rfl T.aW (dN (v:=.ref t.lR) rfl T.aJc rfl)) cH))),(aV (fV rfl rfl rfl T.aW (dN (v:=.ref t.di) rfl T.aBZ rfl)) (aV (fV rfl rfl rfl T.aW (dN (v:=.ref t.gU) rfl T.yZ rfl)) (aV (fV rfl rfl rfl T.aW (dN (v:=.ref t.fD) rfl T.aDD rfl)) cH))),(aV (fV rfl rfl rfl T.aW (dN (v:=.ref t.jH) rfl T.aHW rfl)) (aV (fV rfl rfl rfl T.aW (dN (v:=.ref t.fC) rfl T.aDC rfl)) (aV (fV rfl rfl rfl T.aW (dN (v:=.ref t.gY) rfl T.aFY rfl)) cH))),(aV (fV rfl rfl rfl T.aW (dN (v:=.ref t.jG) rfl T.aHV rfl)) (aV (fV rfl rfl rfl T.aW (dN (v:=.ref t.jJ) rfl T.aHX rfl)) (aV (fV rfl rfl rfl T.aW (dN (v:=.ref t.lU) rfl T.aJd rfl)) cH))),(aV eU (aV eU (aV eU (aV eU (aV eU (aV eU (aV eU (aV eU cH)))))))),(aV eU (aV eU (aV eU (aV eU cH))))⟩) rfl rfl (by decide) λ C w h=>(aKa T.cb h).1
def aCw(T:Txt K mg t):dI P w K mg base (CX1 P w) 2 t.ym t.iY ["thing"] (spF K (aZ mg) 1 oK):=
 bY (k:=1) (f:=iY) T.yr aCf λ n _ _ _ _ _ _ _=>
  (aN (bG (mU (bN (tL T) T.pY (aD (aA 0) aG)) (mQ (aIs aJ (aA 0) (aDn T.gk T.xn (λ _ _=>.int _)))))))
def tM(T:Txt K mg t):dI P w K mg base (CX1 P w) 2 t.w6 t.gO ["many","thing"] (spF K (aZ mg) 2 fG):=
 bY (k:=1) (f:=gO) T.pZ aBE λ n _ _ _ _ _ _ _=>
  (aN (bG (mU (bN (tL T) T.pY (aD (aA 1) aG)) (mQ (aIr aJ (aA 1) (aA 0))))))
def aFQ(T:Txt K mg t):dI P w K mg base (CX1 P w) 2 t.aBn t.jz ["web"] (spF K (aZ mg) 1 nP):=
 bY (k:=1) (f:=jz) T.aBr aFC λ n _ _ _ _ _ _ _=>
  (aK (dC (i:=1) (j7 (bN (aBV T) T.xJ (aD (aA 0) aG))))
  (aK (lB (i:=2) (vJ (vN aG)))
  (aK (eZ (z6 (aD aJ (aD (aC9 aJ (aL (aA 0) aJ)) aG)) T.cW) (bC (ks:=[3]))
   (aN (eZ (dO (bN (aAF T) T.tZ (aD (aA 3) aG))) (bC (ks:=[4]))
    (aK (dC (i:=5) (j7 (z8 (aA 3) (aC9 aJ (aA 4)))))
    (aK (nU (i:=6) (aGK (N:=["other","rest"]) (js:=[none,some 5]) (ks:=[0]) (dO (aL (aA 1) (aA 4))) bj (rP (mG (aDq (aGZ (aA 1) (aA 0)) aJ))) (bO (aA 0))))
    (aN (nW 2 (cG (aD (bO (aA 3)) (aD (bO (aA 4)) (aD (bO (aA 5)) (aD (ue 6) aG))))))))))))
  (aN (bG (qR 2))))))
def aCu(T:Txt K mg t):dI P w K mg base (CX1 P w) 2 t.yh t.iV ["_law_cell","_law_most"] (spF K (aZ mg) 2 kW):=
 bY (k:=1) (f:=iV) T.yp aCd λ n _ _ _ _ _ _ _=>
  (aK (dC (i:=2) (j7 (bN (jT T) T.jD (aD (aA 0) (aD aJ (aD (gB (aA 1) aJ) aG))))))
  (aK (dC (i:=3) (j7 (gB aJ (bN (jT T) T.jD (aD (aA 0) (aD aJ (aD aJ aG)))))))
  (aK (lB (i:=4) (vJ (vN aG)))
  (aK (eZ (fO (aD (aA 2) aG) T.cW) (bC (ks:=[5]))
   (aN (eZ (z6 (aD (gB (aA 5) aJ) (aD (aA 2) aG)) T.cW) (bC (ks:=[6]))
    (aN (ie (yQ (bN (jT T) T.jD (aD (aA 0) (aD (gB (gB aJ (rQ aJ (aA 5))) (aA 6)) (aD aJ aG)))) (aA 3))
     (aN (nW 4 (cG (aD (bO (aA 5)) (aD (bO (aA 6)) aG)))))
     dB)))))
  (aN (bG (cG (aD (bO (aA 2)) (aD (mO T.iI (aD (qR 4) aG)) aG)))))))))
def xr(T:Txt K mg t):dI P w K mg base (CX1 P w) 2 t.qj t.eO ["_law_many","_law_ties"] (spF K (aZ mg) 2 bT):=
 bY (k:=1) (f:=eO) T.qm xm λ n _ _ _ _ _ _ _=>
  (aK (dC (i:=2) (j7 (bN (aBT T) T.xG (aD (cG (aD (aA 0) (aD (aA 1) aG))) aG))))
  (aK (nU (i:=3) (j7 (aCb T.aHS T.cW (aA 0))))
  (aK (lB (i:=4) (vJ (vN aG)))
  (aK (eZ (fO (aD (aA 0) aG) T.cW) (bC (ks:=[5]))
   (aN (ie (SW.st (aC2 (aN3 (aA 5) (ue 3)) (aDg (yQ (pG T.vq (aD (aL (aA 2) (aA 5)) aG)) aJ))))
    (aK (dC (i:=6) (j7 (cG (aD (aA 5) aG))))
    (aK (eZ (fO (aD (aA 0) aG) T.cW) (bC (ks:=[7]))
     (aN (dC (i:=6) (j7 (gB (aA 6) (mO T.iI (aD (vR (N:=["_law_other","_law_way"]) (js:=[none,some 6]) (ks:=[0]) (dO (aL (aA 2) (aL (aA 6) (aCa aJ)))) bj (rP (aGM (aA 0) (aA 1))) (bO (aA 0))) aG)))))))
    (aK (nU (i:=3) (aGK (N:=["_law_other","_law_way"]) (js:=[none,some 6]) (ks:=[0]) (dO (aA 3)) bj (rP (aGM (aA 0) (aA 1))) (bO (aA 0))))
    (aN (nW 4 (aG1 T.aEL (aD (aA 6) (aD (aL3 (aA 6)) aG))))))))
    dB)))
  (aN (bG (mO T.iI (aD (aEy T.vp (aD (aC8 4) aG)) aG))))))))
def aCv(T:Txt K mg t):dI P w K mg base (CX1 P w) 3 t.yj t.iW ["many","thing"] (spF K (aZ mg) 2 kZ):=
 bY (k:=2) (f:=iW) T.yq aCe λ n _ _ _ _ _ _ _=>
  (aK (ie (SW.st (aGJ (pC (mG (rT (aA 1) T.aW T.iI))) (aC1 (yP (pG T.vq (aD (aA 1) aG)) aJ))))
   (aN (bG qT))
   dB)
  (aN (bG (mU (bN (tM T) T.pZ (aD (aA 0) (aD (aL (aA 1) aJ) aG))) (mU (bN (tM T) T.pZ (aD (aA 0) (aD (aL (aA 1) aJ) aG))) (mQ (aNa (aL (aA 1) aJ) (aL (aA 1) aJ))))))))
def uM(T:Txt K mg t):dI P w K mg base (CX1 P w) 3 t.nG t.cZ ["web"] (spF K (aZ mg) 1 dm):=
 bY (k:=2) (f:=cZ) T.nH uJ λ n _ _ _ _ _ _ _=>
  (aK (lB (i:=1) (vJ (aN7 aIu)))
  (aK (eZ (dO (bN (aFQ T) T.aBr (aD (aA 0) aG))) (pF (n:=4) (bh (bC (ks:=[2,3,4,5])) (bh (bC (ks:=[2,3,4,5])) (bh (bC (ks:=[2,3,4,5])) (bh (bC (ks:=[2,3,4,5])) lF)))))
   (aK (nU (i:=6) (aN1 (N:=["head","end","reached","rest"]) (js:=[none,none,some 1,some 4]) (ks:=[0]) (ks2:=[1]) (dO (aA 5)) bj lG (dO (aGY (aA 2) (cG (aD (aA 3) (aD (aA 0) aG))))) bj lG (bO (aA 1))))
   (aN (aIh 1 (cG (aD (aA 2) (aD (aA 3) aG))) (aKh (aDi (aA 4) aJ) (zf (aD (bO (aA 3)) aG)) (xg T.vp T.aKw (aD (ue 6) aG)))))))
  (aN (bG (qR 1)))))
def oR(T:Txt K mg t):dI P w K mg base (CX1 P w) 4 t.jA t.bB ["many","thing"] (spF K (aZ mg) 2 bJ):=
 bY (k:=3) (f:=bB) T.jE oN λ n _ _ _ _ _ _ _=>
  (aK (ie (pC (mG (rT (aA 1) T.aW T.iI)))
   (aN (bG qT))
   dB)
  (aK (eZ (dO (aA 1)) (bC (ks:=[2]))
   (aN (ie (pC (mG (bN (aCv T) T.yq (aD (aA 0) (aD (aA 2) aG)))))
    (aN (bG qT))
    dB)))
  (aN (bG (bN (aAH T) T.uA (aD (aA 1) aG))))))
def aBU(T:Txt K mg t):dI P w K mg base (CX1 P w) 5 t.wg t.gQ ["many","thing"] (spF K (aZ mg) 2 lW):=
 bY (k:=4) (f:=gQ) T.xH aBF λ n _ _ _ _ _ _ _=>
  (aN (bG (mU (bN (oR T) T.jE (aD (aA 0) (aD (aA 1) aG))) (mQ (aL6 T.aNq (aD (vR (N:=["low","high"]) (js:=[none,none]) (ks:=[0,1]) (dO (aA 1)) (pF (n:=2) (bh bj (bh bj lF))) lG (aNb (aA 0) (aA 1))) aG))))))
def aFP(T:Txt K mg t):dI P w K mg base (CX1 P w) 6 t.aBm t.jF ["thing"] (spF K (aZ mg) 1 kY):=
 bY (k:=5) (f:=jF) T.aBq aFB λ n _ _ _ _ _ _ _=>
  (aK (ie (SW.st (aGJ (pC (mG (rT (aA 0) T.aW T.iI))) (aC1 (yP (pG T.vq (aD (aA 0) aG)) aJ))))
   (aN (bG qT))
   dB)
  (aN (bG (mU (bN (aCw T) T.yr (aD (aL (aA 0) aJ) aG)) (mQ (bN (aBU T) T.xH (aD (aL (aA 0) aJ) (aD (aL (aA 0) aJ) aG))))))))
def aAI(T:Txt K mg t):dI P w K mg base (CX1 P w) 7 t.tY t.dh ["thing"] (spF K (aZ mg) 1 dq):=
 bY (k:=6) (f:=dh) T.uB zp λ n _ _ _ _ _ _ _=>
  (aN (ie (pC (mG (bN (aFP T) T.aBq (aD (aA 0) aG))))
   (aN (aAr rfl T.aEP T.aET T.qF (aD z9 aG)))
   dB))
def vh(T:Txt K mg t):dI P w K mg base (CX1 P w) 8 t.o6 t.cJ ["web"] (spF K (aZ mg) 1 bZ):=
 bY (k:=7) (f:=cJ) T.o8 vW λ n _ _ _ _ _ _ _=>
  (aK (aDj (bN (aAI T) T.uB (aD (aA 0) aG)))
  (aN (ie (aN4 (aL (aA 0) aJ) (aDn T.iJ T.aAB (λ _ _=>.int _)))
   (aN (aAr rfl T.yZ T.yc T.jf (aD z9 aG)))
   dB)))
def dH(T:Txt K mg t):dI P w K mg base (CX1 P w) 9 t.nF t.bA ["web"] (spF K (aZ mg) 1 aR):=
 bY (k:=8) (f:=bA) T.cY uI λ n _ _ _ _ _ _ _=>
  (aK (aDj (bN (vh T) T.o8 (aD (aA 0) aG)))
  (aK (dC (i:=1) (j7 (z8 (aC9 aJ (aL (aA 0) aJ)) aJ)))
  (aK (dC (i:=2) (j7 (bN (uM T) T.nH (aD (aA 0) aG))))
  (aN (bG (aNc (N:=["one","other","reached","whole"]) (js:=[none,none,some 2,some 1]) (ks:=[0]) (ks2:=[1]) (fO (aD (aL (aA 0) aJ) aG) T.cW) bj lG (dO (aGY (aA 2) (cG (aD (aA 3) (aD (aA 0) aG))))) bj (rP (aN2 (aA 0) (aA 1))) (cG (aD (bO (aA 0)) (aD (bO (aA 1)) aG)))))))))
def m8(T:Txt K mg t):dI P w K mg base (CX1 P w) 11 t.oZ t.o9 ["_law_call"] (spR P w K mg base 10 "told" (wdA t)):=
 aCj T.cQ.F vU rfl rfl rfl rfl rfl rfl T.vz T.iZ (aAG T) T.jW.m T.jW.F.kp T.jW.b (by decide) λ C w h=>(aKa T.cb h).2
def aK9(T:Txt K mg t):∀c w,wdN c=some w->wdA t (aZ mg c)=some w:=aNN (ns:=["NoWeb","NoPlace","NoWay","NoParting","TooMany","NoForest","NoPlan","NoOneWay","NoOrder","NoText","NoDeed","NoRow"]) T.cb (by simp only[List.map,T.aET,T.aF4,T.aJh,T.aBc,T.yc,T.aDN,T.aH6,T.aDM,T.aF5,T.aH5,T.aH7,T.aJi])
def aOE(T:Txt K mg t){c Pt:Addr}{s:zAE}{H:Hp}(hr:dj 11 (zCo.deeper (zDN "law" (aF qU) s.heap.objs.size t.aE5 (.ref c))))(Lx:uG (cxW P w K mg base ["_law_script","_law_k","_law_cell","_law_web_here","_law_ways","_law_due","_law_turn","_law_found"] "law" (aF qU) t.aE5 (.ref c) zCo s H Pt) Pt)(n:zGb (["_law_script","_law_k","_law_cell","_law_web_here","_law_ways","_law_due","_law_turn","_law_found"]:List Str)):
  SSs (ctW P w K mg base ["_law_script","_law_k","_law_cell","_law_web_here","_law_ways","_law_due","_law_turn","_law_found"] "law" (aF qU) t.aE5 (.ref c) zCo s H Pt 11 hr) (cX qU) xO:=
  (aK (eZ (fO (aD (zc T.aHR (aD aJ (aD (zb T.aEL (aD (pG T.vq (aD (aA 0) aG)) (aD aJ aG))) aG))) aG) T.cW) (bC (ks:=[1]))
   (aK (dC (i:=2) (j7 (bN (vg T) T.o7 (aD (aA 0) (aD (aA 1) aG)))))
   (aK (dC (i:=3) (j7 (bN (aCu T) T.yp (aD (aA 2) (aD aJ aG)))))
   (aK (nU (i:=4) (aGK (N:=["_law_row","_law_web_here"]) (js:=[none,some 3]) (ks:=[0]) (dO (bN (aBS T) T.xF (aD (aA 3) aG))) bj (rP (aDi (pG T.vq (aD (aA 0) aG)) (z8 (aL (aA 1) aJ) aJ))) (bN (xr T) T.qm (aD (aL (aA 1) aJ) (aD (aA 0) aG)))))
   (aK (nU (i:=5) (j7 (za T.vp T.aKw (aD (vR (N:=["_law_way"]) (js:=[none]) (ks:=[0]) (dO (aA 4)) bj lG (cG (aD (zb T.aEL (aD (aL (aL (aA 0) aJ) aJ) (aD (aL (aL (aA 0) aJ) (aCa aJ)) aG))) (aD (zc T.aHR (aD (aL (aL (aA 0) aJ) aJ) (aD (aL (aL (aA 0) aJ) (aCa aJ)) aG))) aG)))) aG))))
   (aK (eZ (fO (aD aJ aG) T.cW) (bC (ks:=[6]))
    (aK (lB (i:=7) (vJ (aN7 (bN (dH T) T.cY (aD (aA 3) aG)))))
    (aK (ie (SW.st (aGJ (pC (mG (rT (aC8 7) T.aW T.aHS))) (aC1 (yP (aC8 7) (ue 5)))))
     (aN (bG qT))
     dB)
    (aN (nW 7 (cG aG))))))
   (aK (ie (yP (aG0 (k:=11) (k0:=10) (kb:=9) (wn:=wdN) (wd:=wdA t) (λ _=>m8 T) (zEs rfl) T.cQ.m T.cQ.F.kp T.cQ.b (λ _=>⟨⟨_,Lx⟩,rfl,rfl,rfl⟩) ⟨rfl,rfl,rfl,by decide+kernel,by decide+kernel⟩ rfl (aK9 T) (by decide) (λ _ _ _ _ _ _ _ _ _ _=>(bN (dH T) T.cY (aD (cG (aD (gB aJ (bN (jT T) T.jD (aD (aA 2) (aD aJ (aD aJ aG))))) (aD (cG aG) aG))) aG))) (hfree:=λ _=>aBb (sc:=aF qU) (by decide+kernel))) z9)
    (aN (bG qT))
    dB)
   (aN (ie (yP (aG0 (k:=11) (k0:=10) (kb:=9) (wn:=wdN) (wd:=wdA t) (λ _=>m8 T) (zEs rfl) T.cQ.m T.cQ.F.kp T.cQ.b (λ _=>⟨⟨_,Lx⟩,rfl,rfl,rfl⟩) ⟨rfl,rfl,rfl,by decide+kernel,by decide+kernel⟩ rfl (aK9 T) (by decide) (λ _ _ _ _ _ _ _ _ _ _=>(bN (dH T) T.cY (aD (zf (aD (aL (aA 3) aJ) (aD (aL (aA 3) aJ) aG))) aG))) (hfree:=λ _=>aBb (sc:=aF qU) (by decide+kernel))) z9)
    (aN (bG qT))
    dB)))))))))
  (aN (bG (mU (aDp (bN (dH T) T.cY (aD (cG (aD aJ (aD (cG aG) aG))) aG)) (zf (aD (cG (aD aJ (aD aJ aG))) aG))) (mQ (aDp (bN (dH T) T.cY (aD (cG (aD aJ (aD (cG aG) aG))) aG)) (zf aG)))))))
end
def aLP{K:zAA}{h:Heap}{mg:Str->Option Value}{tk_MOST_PLACES:Tok}{tk_MOST_TRIED:Tok}{q_FewError:Addr}{q_NoWeb:Addr}{q_NoPlace:Addr}{q_NoWay:Addr}{q_NoParting:Addr}{q_TooMany:Addr}{q_NoForest:Addr}{q_NoPlan:Addr}{q_NoOneWay:Addr}{q_NoOrder:Addr}{q_NoText:Addr}{q_NoDeed:Addr}{q_NoRow:Addr}(X:K.In h)(G:h.Ns zA9 mg)
  (h0:∃f d,Enr K "is_whole" pK f d)
  (h1:∃f d,Enr K "is_many" rm f d)
  (h2:∃f d,Enr K "is_place" pL f d)
  (h3:∃f d,Enr K "is_pair" rZ f d)
  (h4:∃f d,Enr K "is_rising" mX f d)
  (h5:∃f d,Enr K "are_rising_pairs" fB f d)
  (h6:∃f d,Enr K "are_ties" pM f d)
  (h7:∃f d,Enr K "is_web" vX f d)
  (h8:∃f d,Enr K "check_web" mY f d)
  (h9:∃f d,Enr K "all_tied" pN f d)
  (h10:∃f d,Enr K "check_tried" jb f d)
  (h11:∃f d,Enr K "places_in" mV f d)
  (h12:∃f d,Enr K "begins" vY f d)
  (h13:∃f d,Enr K "ends_reached" iu f d)
  (h14:∃f d,Enr K "through_ends" ik f d)
  (h15:∃f d,Enr K "_law_cell_at" j9 f d)
  (h16:∃f d,Enr K "_law_draw" pJ f d)
  (h17:∃f d,Enr K "_law_web" rY f d)
  (h18:∃f d,Enr K "_law_near" pI f d)
  (h19:∃f d,Enr K "_law_rows" pH f d)
  (h20:∃f d,Enr K "_law_walked" lH f d)
  (h21:∃f d,Enr K "_law_class" mW f d)
  (h22:∃f d,Enr K "_law_refused" j8 f d)
  (h23:∃f d,Enr K "law" qU f d)
  (gk:zAf K zA9 "MOST_PLACES"=some (some (.int 60 tk_MOST_PLACES)))
  (iJ:zAf K zA9 "MOST_TRIED"=some (some (.int 10 tk_MOST_TRIED)))
  (y_FewError:zAf K zA9 "FewError"=some (some (.ref q_FewError)))
  (iZ:bx K q_FewError)
  (y_NoWeb:zAf K zA9 "NoWeb"=some (some (.ref q_NoWeb)))
  (qF:bx K q_NoWeb)
  (y_NoPlace:zAf K zA9 "NoPlace"=some (some (.ref q_NoPlace)))
  (nQ:bx K q_NoPlace)
  (y_NoWay:zAf K zA9 "NoWay"=some (some (.ref q_NoWay)))
  (uY:bx K q_NoWay)
  (y_NoParting:zAf K zA9 "NoParting"=some (some (.ref q_NoParting)))
  (jP:bx K q_NoParting)
  (y_TooMany:zAf K zA9 "TooMany"=some (some (.ref q_TooMany)))
  (jf:bx K q_TooMany)
  (y_NoForest:zAf K zA9 "NoForest"=some (some (.ref q_NoForest)))
  (km:bx K q_NoForest)
  (y_NoPlan:zAf K zA9 "NoPlan"=some (some (.ref q_NoPlan)))
  (qH:bx K q_NoPlan)
  (y_NoOneWay:zAf K zA9 "NoOneWay"=some (some (.ref q_NoOneWay)))
  (kj:bx K q_NoOneWay)
  (y_NoOrder:zAf K zA9 "NoOrder"=some (some (.ref q_NoOrder)))
  (nR:bx K q_NoOrder)
  (y_NoText:zAf K zA9 "NoText"=some (some (.ref q_NoText)))
  (qG:bx K q_NoText)
  (y_NoDeed:zAf K zA9 "NoDeed"=some (some (.ref q_NoDeed)))
  (qI:bx K q_NoDeed)
  (y_NoRow:zAf K zA9 "NoRow"=some (some (.ref q_NoRow)))
  (uZ:bx K q_NoRow)
  (cb:L2.aD3 K q_FewError [q_NoWeb,q_NoPlace,q_NoWay,q_NoParting,q_TooMany,q_NoForest,q_NoPlan,q_NoOneWay,q_NoOrder,q_NoText,q_NoDeed,q_NoRow]=true)
  (z_ValueError:zAf K zA9 "ValueError"=some none)
  (z_all:zAf K zA9 "all"=some none)
  (z_bool:zAf K zA9 "bool"=some none)
  (z_int:zAf K zA9 "int"=some none)
  (z_isinstance:zAf K zA9 "isinstance"=some none)
  (z_len:zAf K zA9 "len"=some none)
  (z_list:zAf K zA9 "list"=some none)
  (z_max:zAf K zA9 "max"=some none)
  (z_min:zAf K zA9 "min"=some none)
  (z_range:zAf K zA9 "range"=some none)
  (z_set:zAf K zA9 "set"=some none)
  (z_sorted:zAf K zA9 "sorted"=some none)
  (z_tuple:zAf K zA9 "tuple"=some none):
  ∃t,Txt K mg t:=by
 obtain⟨f0,d0,F0,a0⟩:=dnr X G h0 ["thing"];obtain⟨f1,d1,F1,a1⟩:=dnr X G h1 ["thing"];obtain⟨f2,d2,F2,a2⟩:=dnr X G h2 ["many","thing"];obtain⟨f3,d3,F3,a3⟩:=dnr X G h3 ["many","thing"];obtain⟨f4,d4,F4,a4⟩:=dnr X G h4 ["things"];obtain⟨f5,d5,F5,a5⟩:=dnr X G h5 ["many","thing"];obtain⟨f6,d6,F6,a6⟩:=dnr X G h6 ["many","thing"];obtain⟨f7,d7,F7,a7⟩:=dnr X G h7 ["thing"];obtain⟨f8,d8,F8,a8⟩:=dnr X G h8 ["thing"];obtain⟨f9,d9,F9,a9⟩:=dnr X G h9 ["web"];obtain⟨f10,d10,F10,a10⟩:=dnr X G h10 ["web"];obtain⟨f11,d11,F11,a11⟩:=dnr X G h11 ["group"];obtain⟨f12,d12,F12,a12⟩:=dnr X G h12 ["web"];obtain⟨f13,d13,F13,a13⟩:=dnr X G h13 ["web"];obtain⟨f14,d14,F14,a14⟩:=dnr X G h14 ["web"];obtain⟨f15,d15,F15,a15⟩:=dnr X G h15 ["_law_script","_law_k"];obtain⟨f16,d16,F16,a16⟩:=dnr X G h16 ["_law_cell","_law_k","_law_bound"];obtain⟨f17,d17,F17,a17⟩:=dnr X G h17 ["_law_cell","_law_most"];obtain⟨f18,d18,F18,a18⟩:=dnr X G h18 ["_law_web_here"];obtain⟨f19,d19,F19,a19⟩:=dnr X G h19 ["_law_web_here"];obtain⟨f20,d20,F20,a20⟩:=dnr X G h20 ["_law_many","_law_ties"];obtain⟨f21,d21,F21,a21⟩:=dnr X G h21 ["_law_error"];obtain⟨f22,d22,F22,a22⟩:=dnr X G h22 ["_law_call"];obtain⟨f23,d23,F23,a23⟩:=dnr X G h23 ["_law_script"]
 exact⟨⟨f0,_,f1,_,f2,_,f3,_,f4,_,f5,_,f6,_,f7,_,f8,_,f9,_,f10,_,f11,_,f12,_,f13,_,f14,_,f15,_,f16,_,f17,_,f18,_,f19,_,f20,_,f21,_,f22,_,f23,_,_,_,q_FewError,q_NoWeb,q_NoPlace,q_NoWay,q_NoParting,q_TooMany,q_NoForest,q_NoPlan,q_NoOneWay,q_NoOrder,q_NoText,q_NoDeed,q_NoRow⟩,⟨F0,F1,F2,F3,F4,F5,F6,F7,F8,F9,F10,F11,F12,F13,F14,F15,F16,F17,F18,F19,F20,F21,F22,F23,zAe X G gk,⟨_,rfl⟩,zAe X G iJ,⟨_,rfl⟩,zAe X G y_FewError,(by unfold aZ;rw[zAe X G y_FewError]),iZ,zAe X G y_NoWeb,(by unfold aZ;rw[zAe X G y_NoWeb]),qF,zAe X G y_NoPlace,(by unfold aZ;rw[zAe X G y_NoPlace]),nQ,zAe X G y_NoWay,(by unfold aZ;rw[zAe X G y_NoWay]),uY,zAe X G y_NoParting,(by unfold aZ;rw[zAe X G y_NoParting]),jP,zAe X G y_TooMany,(by unfold aZ;rw[zAe X G y_TooMany]),jf,zAe X G y_NoForest,(by unfold aZ;rw[zAe X G y_NoForest]),km,zAe X G y_NoPlan,(by unfold aZ;rw[zAe X G y_NoPlan]),qH,zAe X G y_NoOneWay,(by unfold aZ;rw[zAe X G y_NoOneWay]),kj,zAe X G y_NoOrder,(by unfold aZ;rw[zAe X G y_NoOrder]),nR,zAe X G y_NoText,(by unfold aZ;rw[zAe X G y_NoText]),qG,zAe X G y_NoDeed,(by unfold aZ;rw[zAe X G y_NoDeed]),qI,zAe X G y_NoRow,(by unfold aZ;rw[zAe X G y_NoRow]),uZ,zBG X G z_ValueError,zBG X G z_all,zBG X G z_bool,zBG X G z_int,zBG X G z_isinstance,zBG X G z_len,zBG X G z_list,zBG X G z_max,zBG X G z_min,zBG X G z_range,zBG X G z_set,zBG X G z_sorted,zBG X G z_tuple,cb⟩⟩
def aNJ{l:zFl}{w:World}{K:zAA}{h:Heap}{mg:Str->Option Value}{fa Pt:Addr}(X:K.In h)(G:h.Ns zA9 mg)(hfa:mg "law"=some (.ref fa))(hB:aAR K "law" Pt=true)(ht:∃t,Txt K mg t):L2.aEj l.prog w K mg fa Pt 11 63:=by
 obtain⟨t,T⟩:=ht;have e:=hfa.symm.trans T.aLD.m;cases e;exact aJg (f:=xO) (F:=aI7) X G hB T.aLD aL8 (λ _ _ _ _ _ _ _ _=>.of_eq rfl) (λ base c s H hr Lx nd=>aOE T hr Lx nd) rfl aH2
def walk{l:zFl}{q:zA3}{loose:List Str}{XP:(Str->Option Value)->Heap->Prop}{YP:World->Heap->Prop}{d:DefRec}{K:Params->zAA}{Pt:Addr}(hn:l.most=some 63)(hdf:d.params.defaults=[])
  (hY:∀(w:World) (h:Heap),YP w h->(K w.params).In h/\h.get? Pt=some (zC7 #[]))
  (F:∀(w:World) (mg:Str->Option Value) (fa:Addr) (h:Heap),(K w.params).In h->h.Ns zA9 mg->mg d.name=some (.ref fa)->L2.aEj l.prog w (K w.params) mg fa Pt 11 63):
  zIc q loose XP YP l.row.toRowW d [] (λ f vs=>zHu f vs):=
 L2.aFz hn (by decide) hdf ⟨rfl,by decide,by decide⟩ hY F
end VL.My
open PySem PySem.W PyProof.Rows
set_option maxRecDepth 100000 in
set_option maxHeartbeats 0 in
theorem PySem.Challenge.cw_fewways_k13_ends_of_ways_through_all_holds : PySem.Challenge.rw_fewways_k13_ends_of_ways_through_all.Holds := by
 w_on; o_law; k_head; (case hw=>w_witness2)
 k_fill
 refine VL.My.walk (l:=PySem.Challenge.rw_fewways_k13_ends_of_ways_through_all) rfl rfl (fun w h Y=>⟨PySem.W.km_in_of Y,PySem.W.km_tabs_of Y _ zAF⟩) ?F
 case F =>
  intro w mg fa h KX G hmg
  refine VL.My.aNJ KX G hmg ?B ?T
  (case B=>kernel_rfl)
  case T =>
   refine' VL.My.aLP KX G (VL.enr ?a0 ?l0 ?c0 ?k0) (VL.enr ?a1 ?l1 ?c1 ?k1) (VL.enr ?a2 ?l2 ?c2 ?k2) (VL.enr ?a3 ?l3 ?c3 ?k3) (VL.enr ?a4 ?l4 ?c4 ?k4) (VL.enr ?a5 ?l5 ?c5 ?k5) (VL.enr ?a6 ?l6 ?c6 ?k6) (VL.enr ?a7 ?l7 ?c7 ?k7) (VL.enr ?a8 ?l8 ?c8 ?k8) (VL.enr ?a9 ?l9 ?c9 ?k9) (VL.enr ?a10 ?l10 ?c10 ?k10) (VL.enr ?a11 ?l11 ?c11 ?k11) (VL.enr ?a12 ?l12 ?c12 ?k12) (VL.enr ?a13 ?l13 ?c13 ?k13) (VL.enr ?a14 ?l14 ?c14 ?k14) (VL.enr ?a15 ?l15 ?c15 ?k15) (VL.enr ?a16 ?l16 ?c16 ?k16) (VL.enr ?a17 ?l17 ?c17 ?k17) (VL.enr ?a18 ?l18 ?c18 ?k18) (VL.enr ?a19 ?l19 ?c19 ?k19) (VL.enr ?a20 ?l20 ?c20 ?k20) (VL.enr ?a21 ?l21 ?c21 ?k21) (VL.enr ?a22 ?l22 ?c22 ?k22) (VL.enr ?a23 ?l23 ?c23 ?k23) ?gk ?iJ ?y_FewError ?iZ ?y_NoWeb ?qF ?y_NoPlace ?nQ ?y_NoWay ?uY ?y_NoParting ?jP ?y_TooMany ?jf ?y_NoForest ?km ?y_NoPlan ?qH ?y_NoOneWay ?kj ?y_NoOrder ?nR ?y_NoText ?qG ?y_NoDeed ?qI ?y_NoRow ?uZ ?cb ?z_ValueError ?z_all ?z_bool ?z_int ?z_isinstance ?z_len ?z_list ?z_max ?z_min ?z_range ?z_set ?z_sorted ?z_tuple
   (case y_FewError=>k_is); (case iZ=>unfold L2.bx; k_exc)
   (case y_NoWeb=>k_is); (case qF=>unfold L2.bx; k_exc)
   (case y_NoPlace=>k_is); (case nQ=>unfold L2.bx; k_exc)
   (case y_NoWay=>k_is); (case uY=>unfold L2.bx; k_exc)
   (case y_NoParting=>k_is); (case jP=>unfold L2.bx; k_exc)
   (case y_TooMany=>k_is); (case jf=>unfold L2.bx; k_exc)
   (case y_NoForest=>k_is); (case km=>unfold L2.bx; k_exc)
   (case y_NoPlan=>k_is); (case qH=>unfold L2.bx; k_exc)
   (case y_NoOneWay=>k_is); (case kj=>unfold L2.bx; k_exc)
   (case y_NoOrder=>k_is); (case nR=>unfold L2.bx; k_exc)
   (case y_NoText=>k_is); (case qG=>unfold L2.bx; k_exc)
   (case y_NoDeed=>k_is); (case qI=>unfold L2.bx; k_exc)
   (case y_NoRow=>k_is); (case uZ=>unfold L2.bx; k_exc)
   (case cb=>kernel_rfl)
   any_goals k_is
