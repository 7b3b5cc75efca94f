import PyProof.Rows.All
import KE.KDictOf
import PyProof.DictWalks
import Wide.All
import OpenK.AllK
import Wide.FinOn
import Lean
import PyProof.EqAt
import PyProof.EqKinds
import PyProof.TupleCall
import KE.LcSums
import PySem.Challenge.RW_fewways_k61_round_partings_looked_at
open And renaming intro->zFS
open Array renaming length_toList->zA0,getElem?_toList->zBE,getElem?_eq_getElem->zBe,getD_eq_getD_getElem?->zBo,getD->zCZ,getElem?_eq_some_iff->zC0,toList_push->zE6,replicate->zEz,getElem_mem_toList->zF2,getElem?_eq_none->zFl,append_assoc->zG9,toList->zHy
open Array.Perm renaming refl->zGJ
open Bool renaming and_eq_true->zAN,false_ne_true->zA2,false_eq_true->zAe,eq_iff_iff->zCW,and_assoc->zEH,and_false->zEI,and_true->zEY,not_eq_true'->zEa,or_eq_true->zFI,false_and->zF3,and_self->zFm,not_true->zFn,true_and->zFo,not_false->zHm,or_true->zIK
open False renaming elim->zAS
open ForInStep renaming yield->zBb
open Function renaming comp_def->zGM
open Int renaming toNat_natCast->zBf,toNat_of_nonneg->zBq,emod_lt_of_pos->zCq,emod_nonneg->zDS,zero_add->zGW
open LawfulBEq renaming eq_of_beq->zEU
open List renaming getElem?_eq_getElem->zAC,length_map->zAF,map_cons->zAH,getElem?_eq_some_iff->zAI,mem_cons_of_mem->zAJ,mem_cons->zAL,size_toArray->zAM,mem_cons_self->zAQ,mem_singleton->zAR,getElem?_map->zAU,length_append->zAX,getD_eq_getElem?_getD->zAY,replicate->zA1,mem_append->zA4,mem_append_right->zA5,mem_append_left->zA6,length_cons->zA8,range->zAc,flatten_cons->zAi,lookup_cons->zAj,map_append->zAl,mem_map->zAm,all_eq_true->zAp,not_mem_nil->zAu,map_map->zAw,length_nil->zAy,pairwise_cons->zAz,mem_of_getElem?->zBB,nodup_append->zBC,nodup_cons->zBD,mem_filter->zBK,length_take->zBQ,getElem?_cons_succ->zBR,getElem?_set_ne->zBU,append_nil->zBX,length_set->zBY,filterMap_cons->zBZ,getElem?_cons_zero->zB5,getElem?_set_self->zBa,append_assoc->zBc,replicate_succ->zBd,zip_cons_cons->zBi,foldl_cons->zBp,mem_reverse->zBv,drop_eq_getElem_cons->zBx,mem_range->zBy,getElem_map->zCK,length_drop->zCL,mem_filterMap->zCP,length_replicate->zCX,any_cons->zC1,getElem?_append_left->zC8,getElem?_eq_none_iff->zC9,getLastD_eq_getLast?->zCa,getElem_mem->zCb,flatten_append->zCf,find?_cons->zCn,getElem?_replicate->zCo,getElem?_inj->zCu,length_range->zCv,reverse_cons->zCw,drop_length->zDF,length_pos_iff->zDQ,map_congr_left->zDR,getElem?_append_right->zDW,pairwise_iff_getElem->zD1,length_erase_of_mem->zDb,any_eq_true->zDk,length_pos_of_mem->zDp,of_mem_zip->zDy,take_append_drop->zDz,getElem_of_mem->zEP,all_cons->zE0,lookup_append->zE1,min?->zE2,all_eq_false->zEc,map_nil->zEl,ext_getElem->zEv,filter_cons->zEw,flatten_nil->zEx,map_snd_zip->zEy,length->zFK,length_zip->zFL,range_succ->zFM,take_of_length_le->zFv,length_filter_le->zGO,min?_eq_some_iff->zGP,getElem?_zipIdx->zGX,getElem_toArray->zGY,range_eq_range'->zGZ,filter_sublist->zGa,getElem?_range->zGb,length_reverse->zGc,range'->zGd,contains_cons->zGl,filter_append->zGm,getElem?_take->zGn,getElem_range->zGo,zip_nil_right->zGp,any_eq_false->zHE,foldl->zHF,take_add_one->zHG,zip_nil_left->zHH,cons_append->zHY,getLast_mem->zHZ,map_fst_zip->zH0,map_reverse->zH1,mem_flatMap->zH2,nodup_range->zH3,range'_succ->zH4,take_length->zH5,nil_append->zHe,drop_drop->zHn,drop_zero->zHo,map_drop->zHz,map_take->zIA,all_map->zIP
open List.Nodup renaming length_le_of_subset->zEK
open List.Pairwise renaming nil->zFU
open List.Perm renaming refl->zBN,swap->zDL
open List.Sublist renaming map->zF8
open Nat renaming le_refl->zAO,ne_of_lt->zAV,lt_of_lt_of_le->zAZ,zero_le->zAb,le_trans->zAf,lt_irrefl->zBS,lt_succ_of_lt->zB0,le_of_lt->zBg,lt_succ_self->zBk,ne_of_gt->zBn,lt_trans->zCF,le_of_lt_succ->zC3,succ_pos->zD2,mod_lt->zDf,le_succ->zDl,le_of_ble_eq_true->zED,min_self->zEE,not_lt->zFs,le_of_eq->zG0,sub_self->zG1,zero_add->zG2,lt_of_le_of_lt->zHI,lt_trichotomy->zH6,le_add_right->zHf,le_max_right->zHg,le_of_not_lt->zHh,le_max_left->zHp,not_lt_zero->zHq
open Nat.succ renaming inj->zH7
open Ne renaming symm->zDD
open Option renaming map_eq_some_iff->zCM,map_some->zCT,bind_some->zEd,getD_none->zGq,map_none->zHJ,none->zIB
open Option.some renaming inj->zAr,injEq->zF9
open Or renaming inr->zBs,inl->zC5
open Prod renaming fst->zFC,ext->zGr,snd->zGs
open PyProof.Rows renaming slot_tuple_getitem->zAq,IntsAre->zBO,seqObj->zBz,callWith_type1->zCG,firstMet->zDi,step_dedup->zDu,envOfC->zEF,kindOf->zEG,AllBare->zEQ,slicePart_none->zEi,entry_tuple_getitem->zEr,args_tuple_getitem->zFD,subscriptTail->zFH,KeyOrd->zFN,lt_int->zFO,get?_update_seq->zGC,Subscript_->zGg,boot_range->zGh,sortedHeap->zGj,listUpdate_at->zGy,tupleItemsOf_->zHA,subscriptTail_builtinR->zHQ,seqEpoch_at->zHu
open PyProof.Rows.F renaming plain_set_update_loop->zCN,entry_set_update_loop->zD5
open PyProof.Rows.IntsAre renaming int_at->zGf
open PyProof.Rows.IsTup renaming new->zFu
open PyProof.Rows.KeyOrd renaming kle_refl->zCi,kle_trans->zDe,kle_of_klt->zEZ,kle_antisymm->zGN
open PySem renaming wpAny_bind->zAB,wpAny_pure->zAE,Shared->zAG,sizeLine->zAT,starEach->zAW,Program->zA7,mainGlobals->zA9,FuncData->zAa,wpAny_newObj_type->zAg,Around->zAk,bootBuiltins->zAn,compareOp->zAo,mem_of_lookup->zAv,wpAny_mono->zBH,foldedSetIterable->zBM,codeAny_builtin->zBT,wpAny_callSpecial?_slot->zBV,wpAny_call_entry->zB1,sizeLine_eq->zB9,wpAny_setState_of->zBh,wpAny_holding->zBj,wpAny_loadPart'->zBl,codeAny->zBm,behindInMarks->zCC,binaryOp->zCI,Builtin->zCO,wpAny_field->zCS,backTo->zCV,sysModules->zCY,wpAny_pyIter_tuple->zC2,wpAny_passesOwn->zC6,SetTable->zCc,assignEach->zCd,wpAny_truthy_bool->zCe,swapsWith->zCk,wpAny_askSetting->zCp,codeAny_mono->zCs,wpAny_typeOf->zCt,attributeBase->zCy,letOwnedTupleGo->zCz,wpAny_Call_Name_kw->zDA,wpAny_loadPart_at->zDK,builtinLookup_eq_fast->zDO,Keyword->zDT,NameKind->zDY,wpAny_standAt->zD0,typeLookup->zD3,wpAny_rule->zD4,cellsFrom->zD8,keywordEach->zD9,sliceBounds->zDa,getItem->zDn,wpAny_setField->zDo,Result->zDr,wpAny_comprehension_free->zDv,wpAny_pyIter_list->zDw,typeLookup_type->zEV,wpAny_execs_nil->zEW,wpAny_specialOf->zEX,call_meets->zE4,wpAny_Name->zE5,codeAny_call_builtin->zE9,assign->zEe,firstArgMember->zEf,newFunctionEnv->zEg,pyNext->zEh,wpAny_runValue->zEj,wpAny_seqItems->zEk,callerA->zEq,holding->zEs,intKind->zEt,wpAny_of_eq->zEu,backToKw->zFE,intItems->zFF,plainId_quiet->zFG,BindsTo->zFT,closureFor->zFY,newList->zFZ,relabel->zF0,wpAny_sequenceKey->zF1,IsPart->zF5,checkBuiltinCall->zFg,noFill_tuple_add->zFh,wpAny_eqBool_int->zFi,wpAny_forIn_list->zFj,wpAny_isInstance->zFk,GenState->zFr,codeAny_of_tree->zGA,excClassObj->zGB,hashByValue->zGD,rawInt->zGE,standAt->zGF,subscripted->zGG,unsupported->zGH,valueAt->zGI,isSubtype_type->zG7,recursionLimit->zG8,Paired->zGe,pyIter->zGi,call->zGt,entryFor->zGw,evalPart_none->zGx,seq_tuple_add->zGz,wpAny_attempt->zHB,wpAny_pyNext_tuple_item->zHC,richCompare_meets_room->zHP,wpAny_pyNext_tuple_end->zHR,Arguments->zHS,PassesOwn->zH9,concat_meets->zHb,lastMarks->zHc,tupleKind->zHd,boot_len->zHk,wpAny_loadName_local->zHl,collect->zHs,intItems_at->zHt,wpAny_isSubtype_exc->zHv,wpAny_loadName_cell->zHw,wpAny_loadName_free->zHx,Within->zID,compTurn->zIE,getAttr?->zIF,getattributeRaised->zIG,numAt_eq->zIH,stored->zII,tupleKind_room_in1->zIJ,builtinsNs->zIW,setsByText->zIX,slot_list_getitem->zIY,typeIs_int->zIZ,wpAny_assign_Name->zI0,wpAny_load->zI1,wpAny_pyIter_enum->zI2,wpAny_pyIter_slot->zI3
open PySem.Around renaming under_plainId->zBA
open PySem.AutoSeq1 renaming sub_tuple_tuple->zFA,list_insert_list_int_val_1->zIC
open PySem.Builtin.Dict renaming updateFrom->zEb
open PySem.Builtin.Frozenset renaming addrOf->zHT,newClass->zHU,sizeOf->zHV,slot0->zHW,updateFrom->zHX
open PySem.Builtin.List renaming listTooLong->zBu,listFitsIndex->zDB,listExtendWith->zEN,listLengthHint->zEO
open PySem.Builtin.Range renaming rangeSize->zBL,rangeFitsLong->zCD,small->zCU
open PySem.Builtin.Slice renaming slicePlaces->zBF,sliceAdjust->zB6,sliceApplied->zCJ,sliceFields->zER,slicePartIndex->zIL
open PySem.Builtin.SmallTypes renaming nextOf->zCE
open PySem.Builtin.Tuple renaming tupleExact->zAs,tupleItemsOf->zCx,tupleCompareSizes->zDq,tupleHashOf->zIM,tupleIsExact->zIN
open PySem.Calls renaming Name_function_global->zFJ,callWith_builtin->zFp,evalArgs_plain->zGK
open PySem.Code renaming quiet_builtin->zCl
open PySem.F renaming slot_tuple_iterator_next->zC7,plainAttrs_list->zCg,plain_list_iadd->zCh,called_set->zCm,args_tuple_add_2->zDZ,entry_tuple_add->zD6,slot_tuple_getattribute->zDd,slot_tuple_add->zDg,slot_list_append->zDj,typeOf_object_class->zEJ,entry_proto_collect->zEm,plain_proto_collect->zEn,slot_dict_values->zFP,slot_list_insert->zFQ,type_list_append->zFR,entry_list_iadd->zFV,args_tuple_iterator_next_1->zF4,entry_tuple_iterator_next->zF7,plain_set_new->zFa,slot_set_iter->zFb,args_object_init_2->zFq,slot_list_extend->zGL,slot_gs_get->zGV,slot_enumerate_next->zGk,sub_list_frozenset->zHD,slot_int_rmul->zIO
open PySem.Heap renaming get?_push_of_some->zAD,get?_push_size->zAK,lt_size->zAP,size_push->zBP,get?_update_ne->zDP,SameBut->zDX,get?_update_self->zDx
open PySem.Heap.IsSliceOf renaming new->zFB
open PySem.Heap.SameBut renaming update->zB4
open PySem.NameKind renaming free->zBr,cell->zDC
open PySem.Obj renaming mapSeq->zC4,data_mapFields->zE7,isFreed_of_fields->zG3,putSet->zH8,mapFields->zIQ
open PySem.Paired renaming length->zHi
open PySem.SeqAt renaming EqAt->zEB
open PySem.SeqAt.EqAt renaming of_refs->zEC,same->zE3,int_int->zFd,int_str->zFe,str_int->zFf
open PySem.SeqAt.RcAt renaming lists_lengths->zEp,tuples->zFt,lists->zFx
open PySem.SetTable renaming below->zAd,bits->zAx,leap->zBW,runEnd->zB3,insertAt->zB7,turns->zCr,has->zDh,Probe->zDs,grown->zDt,insertAt_perm->zFW,sizeAbove->zFy,layClean->zGT,advance->zG6,fresh->zGu,fill->zHM,fits->zHN,slot->zHO
open PySem.SetTable.below renaming go->zDG
open PySem.SetTable.layClean renaming free->zBw
open PySem.SetTable.probe renaming go->zBt
open PySem.Shared renaming TypeIs->zDc
open PySem.Str renaming ofString->zCj
open PySem.Value renaming ref->zBG,none->zBI,type->zCB,builtin->zDJ,int->zDN,bool->zD7,str->zFz,notImplemented->zGU,isStrOf->zHr,float->zIT,isInt->zIU
open PySem.W renaming Frag->zAA,mg_of->zA3,nsIn->zAh,mg_none_of->zAt,kia_one->zBJ,findIn->zB2,emptyDict->zB8,instObj->zCA,keepIn->zCH,fnOf->zCQ,looks_findIn->zDE,hideAll->zDH,hideAll_get->zDI,codeIn->zDU,kitOne->zDV,kas_rev->zDm,lookIn->zEA,Looks->zEL,excIn->zEM,kitx_dict->zES,methodObj->zET,plainGet->zE8,OpenLaw->zEo,cellsFrom_some->zF6,KasT->zFc,plainGet_of->zFw,callWith_K->zGQ,kitx_tuple->zGR,of_hideAll->zGS,kas_place->zG4,kitx_list->zG5,InstAt->zHK,KdlSrc->zHL,WalkO->zHa,isFn->zHj
open PySem.W.Looks renaming ld->zIR,now->zIS
open PySem.Walks renaming list->zGv,tuple->zIV
open Sum renaming inl->zCR,inr->zFX
open True renaming intro->zDM
noncomputable section
namespace PySem.W.Fast
theorem tw3867240773998590702:True:=⟨⟩
theorem tw4754243752582577646:True:=⟨⟩
theorem tw11099011928934422574:True:=⟨⟩
theorem tw10335166003471328174:True:=⟨⟩
theorem tw3628934555095949838:True:=⟨⟩
theorem tw17458774012059135790:True:=⟨⟩
theorem tw4386222727475925806:True:=⟨⟩
theorem tw15757936084715304750:True:=⟨⟩
theorem tw6516568386305303374:True:=⟨⟩
theorem tw15242997502610161934:True:=⟨⟩
theorem tw14402659520019527847:True:=⟨⟩
theorem tw15163923608479134151:True:=⟨⟩
theorem tw236562589664542471:True:=⟨⟩
theorem tw573257804090825671:True:=⟨⟩
theorem tw10908147909360566535:True:=⟨⟩
theorem tw9846160364426304327:True:=⟨⟩
theorem tw1913064002743729863:True:=⟨⟩
theorem tw12920370101666344679:True:=⟨⟩
theorem tw14629021866100879228:True:=⟨⟩
theorem tw15098710184485249340:True:=⟨⟩
theorem tw1337170493167737788:True:=⟨⟩
theorem tw1073233286926247605:True:=⟨⟩
theorem tw11565826281585237973:True:=⟨⟩
theorem tw12482461848864994133:True:=⟨⟩
theorem tw3181976036962525301:True:=⟨⟩
theorem tw2365403726975486677:True:=⟨⟩
theorem tw17275221558889792501:True:=⟨⟩
theorem tw1922643719864846101:True:=⟨⟩
theorem tw3214306020011208757:True:=⟨⟩
theorem tw14700024457939427957:True:=⟨⟩
theorem tw4901070483090804010:True:=⟨⟩
theorem tw6541232062412002058:True:=⟨⟩
theorem tw12413109029224171306:True:=⟨⟩
theorem tw10005708004070217514:True:=⟨⟩
theorem tw12665335485598177226:True:=⟨⟩
theorem tw17230570050751650026:True:=⟨⟩
theorem tw4608673599749631251:True:=⟨⟩
theorem tw16715335338369088083:True:=⟨⟩
theorem tw2378399078515174579:True:=⟨⟩
theorem tw7302020240968751027:True:=⟨⟩
theorem tw12088940855352658968:True:=⟨⟩
theorem tw5352913481605576600:True:=⟨⟩
theorem tw3722636598463269528:True:=⟨⟩
theorem tw13258244290519900984:True:=⟨⟩
theorem tw1821420481930861656:True:=⟨⟩
theorem tw11464063844454257784:True:=⟨⟩
theorem tw11103199128090502136:True:=⟨⟩
theorem tw8569793647635076088:True:=⟨⟩
theorem tw15337063333882382785:True:=⟨⟩
theorem tw7200463779739077089:True:=⟨⟩
theorem tw4922206442731853025:True:=⟨⟩
theorem tw6418153814741423649:True:=⟨⟩
theorem tw8859662880446491457:True:=⟨⟩
theorem tw2964763384482819201:True:=⟨⟩
theorem tw17070292753797524161:True:=⟨⟩
theorem tw9449667082481632993:True:=⟨⟩
theorem tw2765549662849385494:True:=⟨⟩
theorem tw12458734018827225462:True:=⟨⟩
theorem tw13496584425013961974:True:=⟨⟩
theorem tw2050551425858067446:True:=⟨⟩
theorem tw15200540389626584630:True:=⟨⟩
theorem tw17303063585453754639:True:=⟨⟩
theorem tw13310474199138365583:True:=⟨⟩
theorem tw14418754365061933487:True:=⟨⟩
theorem tw8261674259536129647:True:=⟨⟩
theorem tw993864631386770927:True:=⟨⟩
theorem tw13278177384876047887:True:=⟨⟩
theorem tw573138437434443268:True:=⟨⟩
theorem tw172424356342830052:True:=⟨⟩
theorem tw14696227300993745476:True:=⟨⟩
theorem tw14425578770318500708:True:=⟨⟩
theorem tw10507444743102579716:True:=⟨⟩
theorem tw3729264076274734116:True:=⟨⟩
theorem tw13807534028751505444:True:=⟨⟩
theorem tw12486803623513750852:True:=⟨⟩
theorem tw2614635710241261636:True:=⟨⟩
theorem tw1411670859198305821:True:=⟨⟩
theorem tw11403169698622803517:True:=⟨⟩
theorem tw17760166816720504093:True:=⟨⟩
theorem tw13430892399834676285:True:=⟨⟩
theorem tw17314580502690296765:True:=⟨⟩
theorem tw8601211613175730290:True:=⟨⟩
theorem tw17716097995292652946:True:=⟨⟩
theorem tw8135609847927098354:True:=⟨⟩
theorem tw14795469917303025650:True:=⟨⟩
theorem tw13764345947865069138:True:=⟨⟩
theorem tw14147690101073423826:True:=⟨⟩
theorem tw3174408116674210546:True:=⟨⟩
theorem tw17734252655525593266:True:=⟨⟩
theorem tw13698549797198255282:True:=⟨⟩
theorem tw5091129073237795026:True:=⟨⟩
theorem tw7506022420155275762:True:=⟨⟩
theorem tw10895844876371792411:True:=⟨⟩
theorem tw15834153475118614075:True:=⟨⟩
theorem tw16893824777840870523:True:=⟨⟩
theorem tw1616758738886646491:True:=⟨⟩
theorem tw16010852223255993536:True:=⟨⟩
theorem tw8894824735567992480:True:=⟨⟩
theorem tw11988405655401695328:True:=⟨⟩
theorem tw16477177292327191648:True:=⟨⟩
theorem tw4354930973024936512:True:=⟨⟩
theorem tw521918253984552864:True:=⟨⟩
theorem tw4356809163525660457:True:=⟨⟩
theorem tw10648611401188122921:True:=⟨⟩
theorem tw10838999043308710473:True:=⟨⟩
theorem tw4983190159764119145:True:=⟨⟩
theorem tw8858856121829739561:True:=⟨⟩
theorem tw221081791115933001:True:=⟨⟩
theorem tw4191562255868398782:True:=⟨⟩
theorem tw4234304703701901086:True:=⟨⟩
theorem tw11328135805050628478:True:=⟨⟩
theorem tw13460121080856272830:True:=⟨⟩
theorem tw10205456487351672062:True:=⟨⟩
theorem tw6740355234067224094:True:=⟨⟩
theorem tw12202851286041037630:True:=⟨⟩
theorem tw5087636088845749662:True:=⟨⟩
theorem tw11490051639190859774:True:=⟨⟩
theorem tw3144982456004826398:True:=⟨⟩
theorem tw8988576209629779518:True:=⟨⟩
theorem tw2887581665125023614:True:=⟨⟩
theorem tw327423894164346014:True:=⟨⟩
theorem tw9936564258473108222:True:=⟨⟩
theorem tw8412162415360007127:True:=⟨⟩
theorem tw4369863768525450551:True:=⟨⟩
theorem tw16520708213615599959:True:=⟨⟩
theorem tw18018887403251416279:True:=⟨⟩
theorem tw7456995302062619863:True:=⟨⟩
theorem tw4807017417498764087:True:=⟨⟩
theorem tw4739057377591663244:True:=⟨⟩
theorem tw4933141131052126117:True:=⟨⟩
theorem tw6087110080235487013:True:=⟨⟩
theorem tw12238733023268974533:True:=⟨⟩
theorem tw1423208248375095109:True:=⟨⟩
theorem tw7244894075685160357:True:=⟨⟩
theorem tw3857680405569777381:True:=⟨⟩
theorem tw4009131392163915333:True:=⟨⟩
theorem tw8630443380677637157:True:=⟨⟩
theorem tw4926522802529669626:True:=⟨⟩
theorem tw3975130728292944250:True:=⟨⟩
theorem tw12551171785506614682:True:=⟨⟩
theorem tw377953364916408730:True:=⟨⟩
theorem tw7441110104898939683:True:=⟨⟩
theorem tw8037656737733090371:True:=⟨⟩
theorem tw5606287942400942467:True:=⟨⟩
theorem tw15214167649272610787:True:=⟨⟩
theorem tw5429552553274294531:True:=⟨⟩
theorem tw2613232270206051139:True:=⟨⟩
theorem tw1550683857857167203:True:=⟨⟩
theorem tw11182556949997537123:True:=⟨⟩
theorem tw11539065552070586787:True:=⟨⟩
theorem tw12925253203382676195:True:=⟨⟩
theorem tw1592669769226022787:True:=⟨⟩
theorem tw825145931078663651:True:=⟨⟩
theorem tw2511150213220554088:True:=⟨⟩
theorem tw10618331804541488680:True:=⟨⟩
theorem tw18409893951527723848:True:=⟨⟩
theorem tw4534913062038758216:True:=⟨⟩
theorem tw1382683951650705832:True:=⟨⟩
theorem tw5311144777748793800:True:=⟨⟩
theorem tw10857383674793034760:True:=⟨⟩
theorem tw9970123744440565233:True:=⟨⟩
theorem tw8358554538531555697:True:=⟨⟩
theorem tw3699486128271347057:True:=⟨⟩
theorem tw14993137111800405265:True:=⟨⟩
theorem tw13989746050523037969:True:=⟨⟩
theorem tw4180241323474793297:True:=⟨⟩
theorem tw17338324542333592721:True:=⟨⟩
theorem tw13888958734552140657:True:=⟨⟩
theorem tw7760905703730096593:True:=⟨⟩
theorem tw6045103393303956710:True:=⟨⟩
theorem tw4956055291088318726:True:=⟨⟩
theorem tw4138949980124934278:True:=⟨⟩
theorem tw9482828719923658470:True:=⟨⟩
theorem tw8094542094643703526:True:=⟨⟩
theorem tw5870510545666783103:True:=⟨⟩
theorem tw12433495652110935999:True:=⟨⟩
theorem tw13386859626750581407:True:=⟨⟩
theorem tw1567392723031286303:True:=⟨⟩
theorem tw1668296038462931519:True:=⟨⟩
theorem tw4351052613358406676:True:=⟨⟩
theorem tw10597127348891814164:True:=⟨⟩
theorem tw14982571618387841645:True:=⟨⟩
theorem tw6001320931087747309:True:=⟨⟩
theorem tw13123807877609569293:True:=⟨⟩
theorem tw11238450055330205581:True:=⟨⟩
theorem tw13248486538303412973:True:=⟨⟩
theorem tw7145727873962471757:True:=⟨⟩
theorem tw11541214783021616610:True:=⟨⟩
theorem tw17557454093764898882:True:=⟨⟩
theorem tw13730068485764150978:True:=⟨⟩
theorem tw4138797615929561666:True:=⟨⟩
theorem tw12722102158085342818:True:=⟨⟩
theorem tw6664923329672514763:True:=⟨⟩
theorem tw8178190019639852395:True:=⟨⟩
theorem tw4128365930931160907:True:=⟨⟩
theorem tw5333293762799511243:True:=⟨⟩
theorem tw17966680149027914635:True:=⟨⟩
theorem tw2414065617092326283:True:=⟨⟩
theorem tw12953047798438030379:True:=⟨⟩
theorem tw13298418942538955632:True:=⟨⟩
theorem tw5854206676794131888:True:=⟨⟩
theorem tw407631785410291152:True:=⟨⟩
theorem tw13501059868428560400:True:=⟨⟩
theorem tw1144800611739416464:True:=⟨⟩
theorem tw18253821250513838992:True:=⟨⟩
theorem tw4303439617855190256:True:=⟨⟩
theorem tw1502044654293722224:True:=⟨⟩
theorem tw2669821598312317616:True:=⟨⟩
theorem tw16618083942477849264:True:=⟨⟩
theorem tw18056565042396261648:True:=⟨⟩
theorem tw10683304422325813273:True:=⟨⟩
theorem tw13748623430239067193:True:=⟨⟩
theorem tw18038291748239295833:True:=⟨⟩
theorem tw5938458472322202713:True:=⟨⟩
theorem tw1961875962347983833:True:=⟨⟩
theorem tw5307122679963294841:True:=⟨⟩
theorem tw5662323111531956953:True:=⟨⟩
theorem tw824073683364645881:True:=⟨⟩
theorem tw14051713950599336045:True:=⟨⟩
theorem tw13456661061711539411:True:=⟨⟩
end PySem.W.Fast
set_option bootstrap.genMatcherCode false
set_option compiler.extract_closed false
set_option Elab.async false
set_option linter.all false
set_option maxRecDepth 100000
namespace L2
open PySem PySem.Spec PyProof.Rows
abbrev Key:=Sum Int Str
def aAM:Key->Value->Bool
 | .inl k,v=>zIU k v
 | .inr x,v=>zHr x v
def aOB(w:World):Key->Int
 | .inl k=>hashInt k
 | .inr x=>hashStr w x
theorem dM:∀{k:Key} {v:Value},aAM k v=true->(∃i t,k=zCR i/\v=zDN i t)\/(∃x t,k=zFX x/\v=zFz x t)
 | .inl i,v,h=>by
  obtain⟨t,e⟩:=Value.isInt_shape (k:=i) (v:=v) h;exact .inl ⟨i,t,rfl,e⟩
 | .inr x,v,h=>by
  obtain⟨t,e⟩:=Value.isStrOf_shape (x:=x) (v:=v) h;exact .inr ⟨x,t,rfl,e⟩
theorem aF9(i:Int)(t:Tok):aAM (.inl i) (.int i t)=true:=by simp[aAM,zIU]
theorem aF8(x:Str)(t:Tok):aAM (.inr x) (.str x t)=true:=by simp[aAM,zHr]
theorem aMJ(a b:Int):decide ((zCR a:Key)=zCR b)=(a==b):=by
 by_cases e:a=b
 ·subst e;simp
 ·have h:¬(zCR a:Key)=zCR b:=λ q=>e (Sum.inl.inj q)
  rw[decide_eq_false h];exact(beq_eq_false_iff_ne.mpr e).symm
theorem aMG(a b:Str):decide ((zFX a:Key)=zFX b)=decide (a=b):=by
 by_cases e:a=b
 ·subst e;simp
 ·have h:¬(zFX a:Key)=zFX b:=λ q=>e (Sum.inr.inj q)
  rw[decide_eq_false h,decide_eq_false e]
theorem aMI(a:Int)(b:Str):decide ((zCR a:Key)=zFX b)=false:=decide_eq_false (λ q=>nomatch q)
theorem aMH(a:Str)(b:Int):decide ((zFX a:Key)=zCR b)=false:=decide_eq_false (λ q=>nomatch q)
def di(prog:zA7)(w:World):PySem.KeyKind prog w Key where
 is:=aAM
 hash:=aOB w
 inj:=λ v a b ha hb=>by
  rcases dM ha with ⟨i,t,rfl,rfl⟩|⟨x,t,rfl,rfl⟩
  ·rcases dM hb with ⟨j,u,rfl,e⟩|⟨y,u,rfl,e⟩
   ·injection e with e1 _;rw[e1]
   ·exact nomatch e
  ·rcases dM hb with ⟨j,u,rfl,e⟩|⟨y,u,rfl,e⟩
   ·exact nomatch e
   ·injection e with e1 _;rw[e1]
 byValue:=λ k v h=>by
  rcases dM h with ⟨i,t,rfl,rfl⟩|⟨x,t,rfl,rfl⟩<;>rfl
 pyHash:=λ hv h=>by
  rcases dM hv with ⟨i,t,rfl,rfl⟩|⟨x,t,rfl,rfl⟩
  ·exact wpAny_pyHash_int h
  ·exact wpAny_pyHash_str h
 eqBool:=λ hu hv h=>by
  rcases dM hu with ⟨i,t,rfl,rfl⟩|⟨x,t,rfl,rfl⟩
  ·rcases dM hv with ⟨j,u,rfl,rfl⟩|⟨y,u,rfl,rfl⟩
   ·rw[aMJ]at h;exact zFi h
   ·rw[aMI]at h;exact zFe i t y u _ _ _ _ h
  ·rcases dM hv with ⟨j,u,rfl,rfl⟩|⟨y,u,rfl,rfl⟩
   ·rw[aMH]at h;exact zFf x t j u _ _ _ _ h
   ·rw[aMG]at h;exact wpAny_eqBool_str h
 «strs»:=λ k x t v h=>by
  rcases dM h with ⟨i,u,rfl,e⟩|⟨y,u,rfl,e⟩
  ·exact nomatch e
  ·injection e with e1 _
   subst e1;cases v<;>rfl
theorem aCQ(prog:zA7)(w:World)(i:Int)(t:Tok):(di prog w).is (.inl i) (.int i t)=true:=aF9 i t
theorem aCP(prog:zA7)(w:World)(x:Str)(t:Tok):(di prog w).is (.inr x) (.str x t)=true:=aF8 x t
inductive V where
 |non|bl (b:Bool)|int (i:Int)|str (x:Str)|byt (b:Array UInt8)|flt (b:UInt64)|ref (a:Addr)|ty (n:String)
 deriving DecidableEq
def RelV:V->Value->Prop
 | .non,u=>u=zBI
 | .bl b,u=>u=zD7 b
 | .int i,u=>∃t,u=zDN i t
 | .str x,u=>∃t,u=zFz x t
 | .byt b,u=>∃t,u=Value.bytes b t
 | .flt b,u=>∃t,u=zIT b t
 | .ref a,u=>u=zBG a
 | .ty n,u=>u=zCB n
abbrev Vals:List V->List Value->Prop:=zGe RelV
theorem Vals.length{xs:List V}{us:List Value}(r:Vals xs us):xs.length=us.length:=zHi r
theorem Vals.get:∀{xs:List V} {us:List Value} {i:Nat} {x:V},Vals xs us->xs[i]? =some x->∃u,us[i]? =some u/\RelV x u
 |_,_,_,_,.nil,e=>by simp at e
 |_,_,0,_,.cons r _,e=>by simp at e;subst e;exact⟨_,rfl,r⟩
 |_,_,i+1,x,.cons _ t,e=>by
  obtain⟨u,h1,h2⟩:=Vals.get (i:=i) (x:=x) t (by simpa using e);exact⟨u,by simpa using h1,h2⟩
theorem Vals.append:∀{xs ys:List V} {us ws:List Value},Vals xs us->Vals ys ws->Vals (xs++ys) (us++ws)
 |_,_,_,_,.nil,s=>s
 |_,_,_,_,.cons r t,s=>.cons r (Vals.append t s)
theorem Vals.take:∀{xs:List V} {us:List Value} (n:Nat),Vals xs us->Vals (xs.take n) (us.take n)
 |_,_,0,_=>.nil
 |_,_,_+1,.nil=>.nil
 |_,_,n+1,.cons r t=>.cons r (Vals.take n t)
theorem Vals.drop:∀{xs:List V} {us:List Value} (n:Nat),Vals xs us->Vals (xs.drop n) (us.drop n)
 |_,_,0,r=>r
 |_,_,_+1,.nil=>.nil
 |_,_,n+1,.cons _ t=>Vals.drop n t
def uQ:Option V->Option Value->Prop
 |some v,some u=>RelV v u
 |none,none=>True
 |_,_=>False
def KV{κ:Type}:List (κ×V)->List (κ×Value)->Prop:=zGe λ(p:κ×V) (q:κ×Value)=>p.1=q.1/\RelV p.2 q.2
def kV:Key->V
 | .inl i=>.int i
 | .inr x=>.str x
inductive HO where
 |lst (xs:List V)
 |tup (xs:List V)
 |dK (kvs:List (Key×V))|dT (kvs:List (List Key×V))
 |set (S:Int->Bool) (n:Nat)
 |ins (C dx:Addr) (fs:List (Str×V))
 |own (x:Addr)
 |xd (fs:List (Str×V))
 |met (f x:Addr)
 |rng (lo hi:Int)
 |frz (o:Obj) (u:HO)
 |tbl (ps:Array Value)
 |ext (φ:Heap->Prop)
abbrev Hp:=Addr->Option HO
def upd(H:Hp)(a:Addr)(o:HO):Hp:=λ b=>if b=a then some o else H b
theorem bB{H:Hp}{a:Addr}{o:HO}:upd H a o a=some o:=by unfold upd;rw[if_pos rfl]
theorem bI{H:Hp}{a b:Addr}{o:HO}(h:b≠a):upd H a o b=H b:=by unfold upd;rw[if_neg h]
theorem dC{H:Hp}{a b:Addr}{o:HO}(h:H a=some o)(h':H b=none):a≠b:=by
 intro e;subst e;rw[h]at h';cases h'
def NoD(h:Heap)(a:Addr):Prop:=∀o,h.get? a=some o->o.dict=none
theorem NoD.push(h:Heap){o:Obj}(hl:o.isFreed=false:=by rfl)(hd:o.dict=none:=by rfl):NoD (h.push o) h.objs.size:=λ u e=>by rw[zAK _ hl]at e;cases e;exact hd
theorem NoD.keep{h h':Heap}{a:Addr}{o:Obj}(n:NoD h a)(e:h.get? a=some o)(e':h'.get? a=some o):NoD h' a:=λ u q=>by rw[e']at q;cases q;exact n o e
section
variable(P:zA7)(w:World)
def dN(H:Hp)(h:Heap)(a:Addr):HO->Prop
 | .lst xs=>xs.length<=zAT/\∃(its:List Value) (n:Nat),Vals xs its/\h.get? a=some {cls:=.type "list",data:=.seq its.toArray n}
 | .tup xs=>(xs.length<=zAT/\NoD h a)/\∃its:List Value,Vals xs its/\IsTup h a its.toArray
 | .dK kvs=>kvs.length<=zAT/\(a==zCY)=false/\∃vs,KV kvs vs/\h.DictOf (di P w) a vs
 | .dT kvs=>kvs.length<=zAT/\(a==zCY)=false/\∃xs:List (List Key×Addr×Value),
   zGe (λ(p:List Key×V) (q:List Key×Addr×Value)=>p.1=q.1/\H q.2.1=some (.tup (p.1.map kV))/\RelV p.2 q.2.2) kvs xs/\
   ∃o es ep,h.get? a=some o/\o.ExactDict/\o.data= .dict es ep/\es.toList=xs.map (entryOfKey (zHd (di P w)))/\(xs.map (·.1)).Nodup
 | .set S n=>h.SetOf (zEt P w) a S n
 | .ins C dx fs=>H dx=some (.own a)/\fs.length<=1000/\dx≠a/\h.get? a=some (zCA C dx)/\
   ∃mA,h.Ns1 dx mA/\(∀f,uQ (fs.lookup f) (mA f))/\zID mA (fs.map (·.1))
 | .own _=>∃o,h.get? a=some o
 | .xd fs=>∃mA,h.Ns1 a mA/\∀f,uQ (fs.lookup f) (mA f)
 | .rng lo hi=>∃t u v,h.get? a=some {cls:=.type "range",data:=.fields #[.int lo t,.int hi u,.int 1 v]}
 | .frz o u=>h.get? a=some o/\dN H h a u
 | .tbl ps=>h.get? a=some {cls:=.none,data:=.fields ps}
 | .met f x=>h.get? a=some (zET (.ref f) (.ref x))
 | .ext φ=>φ h/\(∃o,h.get? a=some o)/\∀h1 h2:Heap,φ h1->(∀o,h1.get? a=some o->h2.get? a=some o)->φ h2
def HOk(H:Hp)(h:Heap):Prop:=∀a o,H a=some o->dN P w H h a o
end
section
variable{P:zA7}{w:World}{H H':Hp}{h h':Heap}{a:Addr}{o:HO}
theorem dN.lt(x:dN P w H h a o):a<h.objs.size:=by
 cases o with
 |lst xs=>obtain⟨_,_,_,_,e⟩:=x;exact zAP e
 |tup xs=>obtain⟨_,_,_,p⟩:=x;exact p.lt
 |dK kvs=>obtain⟨_,_,_,_,o,_,_,e,_⟩:=x;exact zAP e
 |dT kvs=>obtain⟨_,_,_,_,o,_,_,e,_⟩:=x;exact zAP e
 |set S n=>obtain⟨o,_,_,_,e,_⟩:=x;exact zAP e
 |ins C dx fs=>obtain⟨_,_,_,e,_⟩:=x;exact zAP e
 |own y=>obtain⟨_,e⟩:=x;exact zAP e
 |xd fs=>obtain⟨_,⟨_,_,_,e,_⟩,_⟩:=x;exact zAP e
 |rng lo hi=>obtain⟨_,_,_,e⟩:=x;exact zAP e
 |frz ob u=>obtain⟨e,_⟩:=x;exact zAP e
 |tbl ps=>exact zAP (show h.get? a=some _ from x)
 |met f y=>exact zAP (show h.get? a=some _ from x)
 |ext φ=>obtain⟨_,⟨_,e⟩,_⟩:=x;exact zAP e
theorem Paired.mapP{α β:Type}{F G:α->β->Prop}:∀{l₁:List α} {l₂:List β},zGe F l₁ l₂->(∀a b,F a b->G a b)->zGe G l₁ l₂
 |_,_,.nil,_=>.nil
 |_,_,.cons r t,f=>.cons (f _ _ r) (Paired.mapP t f)
theorem dN.stay(x:dN P w H h a o)(k:∀b u,(b=a\/H b=some (.own a))->h.get? b=some u->h'.get? b=some u)
  (ho:∀b,H b=some (.own a)->H' b=some (.own a))(ht:∀b xs,H b=some (.tup xs)->H' b=some (.tup xs)):dN P w H' h' a o:=by
 induction o with
 |lst xs=>obtain⟨z,its,n,r,e⟩:=x;exact⟨z,its,n,r,k _ _ (.inl rfl) e⟩
 |tup xs=>obtain⟨z,its,r,ob,e,c⟩:=x;exact⟨⟨z.1,z.2.keep e (k _ _ (.inl rfl) e)⟩,its,r,ob,k _ _ (.inl rfl) e,c⟩
 |dK kvs=>obtain⟨z,y,vs,r,ob,es,ep,e,c⟩:=x;exact⟨z,y,vs,r,ob,es,ep,k _ _ (.inl rfl) e,c⟩
 |dT kvs=>
  obtain⟨z,y,xs,r,ob,es,ep,e,c⟩:=x;exact⟨z,y,xs,Paired.mapP r λ p q z=>⟨z.1,ht _ _ z.2.1,z.2.2⟩,ob,es,ep,k _ _ (.inl rfl) e,c⟩
 |set S n=>obtain⟨ob,es,ep,t,e,c⟩:=x;exact⟨ob,es,ep,t,k _ _ (.inl rfl) e,c⟩
 |ins C dx fs=>
  obtain⟨d,z,ne,e,mA,⟨od,es,ep,e2,c⟩,r⟩:=x;exact⟨ho _ d,z,ne,k _ _ (.inl rfl) e,mA,⟨od,es,ep,k _ _ (.inr d) e2,c⟩,r⟩
 |own y=>obtain⟨ob,e⟩:=x;exact⟨ob,k _ _ (.inl rfl) e⟩
 |xd fs=>obtain⟨mA,⟨od,es,ep,e,c⟩,r⟩:=x;exact⟨mA,⟨od,es,ep,k _ _ (.inl rfl) e,c⟩,r⟩
 |rng lo hi=>obtain⟨t,u,v,e⟩:=x;exact⟨t,u,v,k _ _ (.inl rfl) e⟩
 |frz ob u ih=>obtain⟨e,q⟩:=x;exact⟨k _ _ (.inl rfl) e,ih q⟩
 |tbl ps=>
  have e:h.get? a=some {cls:=.none,data:=.fields ps}:=x;show h'.get? a=some {cls:=.none,data:=.fields ps};exact k a _ (.inl rfl) e
 |met f y=>
  have e:h.get? a=some (zET (.ref f) (.ref y)):=x;show h'.get? a=some (zET (.ref f) (.ref y));exact k a _ (.inl rfl) e
 |ext φ=>obtain⟨p,⟨o,e⟩,st⟩:=x;exact⟨st _ _ p λ o q=>k _ _ (.inl rfl) q,⟨o,k _ _ (.inl rfl) e⟩,st⟩
theorem HOk.lt(x:HOk P w H h)(e:H a=some o):a<h.objs.size:=(x a o e).lt
theorem HOk.fresh(x:HOk P w H h)(e:h.objs.size<=a):H a=none:=by
 cases q:H a with
 |none=>rfl
 |some u=>exact absurd (zAZ (x.lt q) e) (zBS _)
theorem HOk.kept(x:HOk P w H h)(k:∀b u,h.get? b=some u->h'.get? b=some u):HOk P w H h':=λ a o e=>
 (x a o e).stay (λ b u _ q=>k b u q) (λ _ q=>q) λ _ _ q=>q
theorem HOk.laid(x:HOk P w H h)(k:∀b u,h.get? b=some u->h'.get? b=some u)(hp:h.objs.size<=a)(new:dN P w (upd H a o) h' a o):HOk P w (upd H a o) h':=λ b u e=>by
 have hn:=x.fresh hp;by_cases hb:b=a
 ·subst hb;rw[bB]at e;cases e;exact new
 ·rw[bI hb]at e
  exact(x b u e).stay (λ c v _ q=>k c v q) (λ c q=>by rw[bI (dC q hn)];exact q) λ c xs q=>by rw[bI (dC q hn)];exact q
end
def Rd(H:Hp)(a:Addr)(u:HO):Prop:=H a=some u\/∃o,H a=some (.frz o u)
theorem Rd.ok{P:zA7}{w:World}{H:Hp}{h:Heap}{a:Addr}{u:HO}(r:Rd H a u)(x:HOk P w H h):dN P w H h a u:=by
 rcases r with r|⟨o,r⟩
 ·exact x a u r
 ·obtain⟨_,q⟩:=x a _ r
  exact q
def Mut:Option HO->Prop
 |some (.lst _)=>True
 |some (.dK _)=>True
 |some (.dT _)=>True
 |some (.set _ _)=>True
 |some (.ins _ _ _)=>True
 |some (.ext _)=>True
 |_=>False
section
variable{P:zA7}{w:World}{H:Hp}{h h':Heap}{x e:Addr}{o':HO}
theorem HOk.write(ok:HOk P w H h)(mu:Mut (H x))(he:e=x\/H e=some (.own x))(k:∀b u,b≠e->h.get? b=some u->h'.get? b=some u)(heo:∃u,h'.get? e=some u)
  (new:dN P w (upd H x o') h' x o'):HOk P w (upd H x o') h':=λ b u q=>by
 have nown:∀c y,H c=some (.own y)->c≠x:=λ c y r z=>by subst z;rw[r]at mu;exact mu
 have ntup:∀c xs,H c=some (.tup xs)->c≠x:=λ c xs r z=>by subst z;rw[r]at mu;exact mu
 by_cases hb:b=x
 ·subst hb;rw[bB]at q;cases q;exact new
 ·rw[bI hb]at q
  by_cases hbe:b=e
  ·have q':H b=some (.own x):=by
    rcases he with z|z
    ·exact absurd (hbe.trans z) hb
    ·rw[hbe];exact z
   rw[q]at q';cases q';obtain⟨v,hv⟩:=heo;exact⟨v,by rw[hbe];exact hv⟩
  ·refine(ok b u q).stay (λ c v hc r=>k c v ?_ r) (λ c r=>by rw[bI (nown c b r)];exact r) λ c xs r=>by rw[bI (ntup c xs r)];exact r
   rcases hc with rfl|hc
   ·exact hbe
   ·rintro rfl
    rcases he with z|z
    ·exact nown c b hc z
    ·rw[hc]at z;cases z;exact hb rfl
end
structure Un(fs ex:List Addr)(H H':Hp)(h h':Heap):Prop where
 keep:∀b o,h.get? b=some o->H b=none->b∉fs->b∉ex->h'.get? b=some o
 slot:∀b o,h.get? b=some o->H b=none->b∈fs->b∉ex->∃sl,h'.get? b=some {o with slots:=sl}
 free:∀b o,h.get? b=some o->H b=none->b∉ex->H' b=none
 there:∀b o,h.get? b=some o->b∉ex->∃o',h'.get? b=some o'
 tups:∀b xs,H b=some (.tup xs)->H' b=some (.tup xs)
 frzs:∀b o u,H b=some (.frz o u)->H' b=some (.frz o u)
 tbls:∀b ps,H b=some (.tbl ps)->∃more,H' b=some (.tbl (ps++more))
section
variable{fs fs' ex ex':List Addr}{H H1 H2:Hp}{h h1 h2 h':Heap}{a x e:Addr}{o:HO}
theorem Un.any(u:Un fs ex H H1 h h1){b:Addr}{ob:Obj}(q:h.get? b=some ob)(n:H b=none)(hx:b∉ex):∃sl,h1.get? b=some {ob with slots:=sl}:=by
 by_cases hb:b∈fs
 ·exact u.slot b ob q n hb hx
 ·exact⟨ob.slots,u.keep b ob q n hb hx⟩
theorem Un.kept(k:∀b u,h.get? b=some u->h'.get? b=some u):Un fs ex H H h h':=
 ⟨λ b ob q _ _ _=>k b ob q,λ b ob q _ _ _=>⟨ob.slots,k b ob q⟩,λ _ _ _ n _=>n,λ b ob q _=>⟨ob,k b ob q⟩,λ _ _ q=>q,λ _ _ _ q=>q,λ _ ps q=>⟨#[],by rw[q];simp⟩⟩
theorem Un.refl:Un fs ex H H h h:=Un.kept λ _ _ q=>q
theorem Un.laid(k:∀b u,h.get? b=some u->h'.get? b=some u)(hp:h.objs.size<=a)(hn:H a=none):Un fs ex H (upd H a o) h h' where
 keep:=λ b u q _ _ _=>k b u q
 slot:=λ b u q _ _ _=>⟨u.slots,k b u q⟩
 free:=λ b u q n _=>by rw[bI (zAV (zAZ (zAP q) hp))];exact n
 there:=λ b u q _=>⟨u,k b u q⟩
 tups:=λ b xs q=>by rw[bI (dC q hn)];exact q
 frzs:=λ b u xs q=>by rw[bI (dC q hn)];exact q
 tbls:=λ b ps q=>⟨#[],by rw[bI (dC q hn),q];simp⟩
theorem Un.write(mu:Mut (H x))(he:e=x\/H e=some (.own x))(k:∀b u,b≠e->h.get? b=some u->h'.get? b=some u)(heo:∃u,h'.get? e=some u):Un fs ex H (upd H x o) h h':=by
 have hx:∀b,H b=none->b≠x:=λ b n z=>by subst z;rw[n]at mu;exact mu
 have hb:∀b,H b=none->b≠e:=λ b n z=>by
  subst z;rcases he with r|r
  ·exact hx b n r
  ·rw[n]at r;cases r
 have hm:∀b u,H b=some u->¬Mut (some u)->b≠x:=λ b u q nm z=>by subst z;rw[q]at mu;exact nm mu
 refine⟨λ b u q n _ _=>k b u (hb b n) q,λ b u q n _ _=>⟨u.slots,k b u (hb b n) q⟩,λ b u q n _=>by rw[bI (hx b n)];exact n,λ b u q _=>?_,
  λ b xs q=>by rw[bI (hm b _ q λ z=>z)];exact q,λ b u xs q=>by rw[bI (hm b _ q λ z=>z)];exact q,λ b ps q=>⟨#[],by rw[bI (hm b _ q λ z=>z),q];simp⟩⟩
 by_cases hbe:b=e
 ·subst hbe;exact heo
 ·exact⟨u,k b u hbe q⟩
end
def trk(h:Heap)(H:Hp):List Addr:=(zAc h.objs.size).filter λ a=>(H a).isSome
def aB1(h:Heap)(H:Hp):Heap:=zDH h (trk h H)
theorem aFg(h:Heap)(H:Hp):(aB1 h H).objs.size=h.objs.size:=PySem.W.hideAll_size _ _
theorem aHd{h:Heap}{H:Hp}{b:Addr}{o:Obj}(e:h.get? b=some o)(n:H b=none):(aB1 h H).get? b=some o:=
 zDI _ e λ hm=>by
  have q:(H b).isSome=true:=(zBK.mp hm).2;rw[n]at q;simp at q
theorem aJ4{h:Heap}{H:Hp}{b:Addr}{o:Obj}(e:(aB1 h H).get? b=some o):h.get? b=some o/\H b=none:=by
 have e':h.get? b=some o:=zGS (trk h H) e;refine⟨e',?_⟩;cases q:H b with
 |none=>rfl
 |some x=>
  have hm:b∈trk h H:=zBK.mpr ⟨zBy.mpr (zAP e'),by simp[q]⟩;have z:(aB1 h H).get? b=none:=PySem.W.hideAll_none (trk h H) hm;rw[z]at e;cases e
def aKK(g h:Heap)(L:Addr):List (Addr×Obj):=(zAc h.objs.size).filterMap λ a=>if a=L\/(g.get? a).isSome=true then none else(h.get? a).map λ o=>(a,o)
def rest(g h:Heap)(L d:Addr):List (Addr×Obj):=(aKK g h L).filter λ p=>decide (p.1≠d)
structure Mod(K:zAA)(mg:Str->Option Value)(base:Heap):Prop where
 kin:K.In base
 glob:base.Ns zA9 mg
 blt:∃mb,base.Ns zIW mb/\∀x:Str,x≠"__name__"->mb x=zAn x
 nolimit:base.NoLimit
structure Cx where
 prog:zA7
 w:World
 K:zAA
 mg:Str->Option Value
 base:Heap
 A:zAk
 N:List Str
 s₀:zAG
 H₀:Hp
 env:Env
 outer:List Env
 stack:List Env
 ex:List Addr
 fn:Str->Bool
 calm:Bool
 pn:List (Addr×Obj)
 xe:Value->zAG->Prop
 ta:List (Addr×Obj):=[]
 tq:Str:=""
def frs(l:List Env):List Addr:=l.filterMap (·.frame)
abbrev Cx.fs(X:Cx):List Addr:=frs X.outer
def Vis(sc:Scope)(x:Str):Prop:=sc.names.lookup x=some .local\/sc.names.lookup x=some .cell\/sc.names.lookup x=some .free
def Loc(sc:Scope)(x:Str):Prop:=sc.names.lookup x=some .local\/sc.names.lookup x=some .cell
def Look(env:Env)(h:Heap)(m:Str->Option Value)(x:Str)(u:Value):Prop:=
 (env.kindOf x=some .local/\m x=some u)\/((env.kindOf x=some .cell\/env.kindOf x=some .free)/\∃c,env.cells.lookup x=some c/\h.IsCell c (some u))
structure Cx.Ok(X:Cx):Prop where
 mod:Mod X.K X.mg X.base
 kind:X.env.scope.kind= .function
 glob:X.env.globals=zA9
 blt:X.env.builtins=zIW
 above:X.s₀.heap.objs.size<=X.env.locals
 inj:∀x y c,X.env.cells.lookup x=some c->X.env.cells.lookup y=some c->x=y
 has:∀x,(X.env.kindOf x=some .cell\/X.env.kindOf x=some .free)->∃c,X.env.cells.lookup x=some c
 cab:∀x c,X.fn x=true->X.env.cells.lookup x=some c->X.s₀.heap.objs.size<=c
 hd:X.calm=true->X.A.handled=none
 frames:X.A.frames=some X.stack
 stk:X.stack=X.outer\/(X.stack=X.env::X.outer/\X.env.frame=some X.env.locals)
 exf:∀b∈X.ex,b≠X.env.locals/\∀x c,X.env.cells.lookup x=some c->c≠b
 bs:∀b o,X.base.get? b=some o->X.s₀.heap.get? b=some o/\X.H₀ b=none
 bsz:X.base.objs.size<=X.s₀.heap.objs.size
 noex:∀b o,X.base.get? b=some o->b∉X.ex
 exfs:∀b∈X.ex,b∉X.fs
 funs:X.s₀.heap.FunFrames X.base X.outer
 frf:∀b∈X.fs,X.H₀ b=none
def aNk(q:Str)(oc:Obj):Prop:=∃vs t,oc.data= .fields vs/\vs[1]? =some (.str q t)
def TabOk(q:Str)(H:Hp)(ps:Array Value):Prop:=TriplesOk ps.toList/\∀pos cv,codeAmong pos ps.toList=some cv->∃c' oc,cv= .ref c'/\H c'=some (.frz oc (.own c'))/\aNk q oc
theorem TabOk.mono(t:TabOk q H ps)(f:∀b o u,H b=some (.frz o u)->H' b=some (.frz o u)):TabOk q H' ps:=⟨t.1,λ pos cv hc=>let⟨c',oc,z,a,b⟩:=t.2 pos cv hc;⟨c',oc,z,f _ _ _ a,b⟩⟩
structure Inv(X:Cx)(pins:List (Addr×Obj))(σ:List (Option V))(H:Hp)(s:zAG):Prop where
 ok:X.Ok
 os:s.os=X.s₀.os
 bare:zEQ s.gens
 base:Un X.fs X.ex X.H₀ H X.s₀.heap s.heap
 loc:∃m,s.heap.Ns X.env.locals m/\∀(i:Nat) (x:Str) (v:V),X.N[i]? =some x->σ[i]? =some (some v)->Vis X.env.scope x->∃u,RelV v u/\Look X.env s.heap m x u
 cell:∀x c,X.env.cells.lookup x=some c->∃v,s.heap.IsCell c v
 free:H X.env.locals=none
 freeC:∀x c,X.env.cells.lookup x=some c->H c=none
 pin:∀p∈X.pn++pins,s.heap.get? p.1=some p.2/\H p.1=none/\p.1≠X.env.locals/\p.1∉X.fs/\∀v,p.2.data≠.cell v
 hok:HOk X.prog X.w H s.heap
 len:σ.length=X.N.length
 tab:∀p∈X.ta,H p.1=none/\p.1≠X.env.locals/\p.1∉X.fs/\(∀q∈X.pn++pins,q.1≠p.1)/\∃ps,s.heap.get? p.1=some {cls:=.none,data:=.fields ps}/\TabOk X.tq H ps
section
variable{X:Cx}{pins:List (Addr×Obj)}{σ:List (Option V)}{H H':Hp}{s:zAG}{h':Heap}
theorem Cx.Ok.nofr(ok:X.Ok){b:Addr}{o:Obj}(e:X.base.get? b=some o):b∉X.fs:=λ hb=>by
 have:=(ok.funs.mem hb).1
 rw[e]at this;cases this
theorem Inv.bs(I:Inv X pins σ H s):∀b o,X.base.get? b=some o->s.heap.get? b=some o/\H b=none:=λ b o e=>
 ⟨I.base.keep b o (I.ok.bs b o e).1 (I.ok.bs b o e).2 (I.ok.nofr e) (I.ok.noex b o e),I.base.free b o (I.ok.bs b o e).1 (I.ok.bs b o e).2 (I.ok.noex b o e)⟩
theorem Inv.bk(I:Inv X pins σ H s):∀b o,X.base.get? b=some o->s.heap.get? b=some o:=λ b o e=>(I.bs b o e).1
theorem Inv.mod(I:Inv X pins σ H s):Mod X.K X.mg X.base:=I.ok.mod
theorem Inv.kIn(I:Inv X pins σ H s):X.K.In s.heap:=I.ok.mod.kin.keeps I.bk
theorem Inv.fr(I:Inv X pins σ H s):∃m,Fr X.base X.env.locals s.heap m:=
 let⟨m,hn,_⟩:=I.loc
 ⟨m,hn,I.bk,zAf I.ok.bsz I.ok.above⟩
theorem Inv.lt(I:Inv X pins σ H s):X.env.locals<s.heap.objs.size:=let⟨_,hn,_⟩:=I.loc;hn.lt
theorem Inv.sz(I:Inv X pins σ H s):X.s₀.heap.objs.size<=s.heap.objs.size:=zAf I.ok.above (zBg I.lt)
theorem Inv.nofs(I:Inv X pins σ H s){a:Addr}(h:s.heap.objs.size<=a):a∉X.fs:=λ hb=>by
 obtain⟨_,o,ho,_⟩:=I.ok.funs.mem hb;exact absurd (zAZ (zAP ho) (zAf I.sz h)) (zBS _)
theorem Inv.cne(I:Inv X pins σ H s):∀x c,X.env.cells.lookup x=some c->c≠X.env.locals:=λ x c e z=>by
 obtain⟨v,o,ho,hd⟩:=I.cell x c e;obtain⟨m,⟨o',es,ep,ho',hd',_⟩,_⟩:=I.loc;rw[z,ho']at ho;cases ho;rw[hd']at hd;cases hd
theorem Inv.funs(I:Inv X pins σ H s):s.heap.FunFrames X.base X.outer:=by
 have all:∀(l:List Env),(∀b∈frs l,b∈X.fs)->X.s₀.heap.FunFrames X.base l->s.heap.FunFrames X.base l:=by
  intro l;induction l with
  |nil=>intro _ _;trivial
  |cons env r ih=>
   intro hs hl;obtain⟨hk,⟨L,o,hf,hn,ho,hd⟩,hr⟩:=hl;have hL:L∈X.fs:=hs L (by unfold frs;rw[zBZ,hf];exact zAQ);obtain⟨sl,e⟩:=I.base.slot L o ho (I.ok.frf L hL) hL λ z=>I.ok.exfs L z hL
   exact⟨hk,⟨L,_,hf,hn,e,hd⟩,ih (λ b hb=>hs b (by unfold frs;rw[zBZ,hf];exact zAJ _ hb)) hr⟩
 exact all X.outer (λ _ hb=>hb) I.ok.funs
theorem Inv.stack(I:Inv X pins σ H s):s.heap.FunFrames X.base X.stack:=by
 rcases I.ok.stk with e|⟨e,hf⟩
 ·rw[e];exact I.funs
 ·rw[e]
  obtain⟨m,hn,_⟩:=I.loc;refine .cons (by rw[I.ok.kind];decide) hf hn ?_ I.funs;exact Heap.get?_none_of_le (zAf I.ok.bsz I.ok.above)
theorem Inv.stkSub(I:Inv X pins σ H s):∀b∈frs X.stack,b∈X.env.locals::X.fs:=λ b hb=>by
 rcases I.ok.stk with e|⟨e,hf⟩
 ·rw[e]at hb;exact zAJ _ hb
 ·rw[e]at hb
  unfold frs at hb;rw[zBZ,hf]at hb;exact hb
theorem Inv.stkFree(I:Inv X pins σ H s):∀b∈frs X.stack,H b=none:=λ b hb=>by
 rcases zAL.mp (I.stkSub b hb)with e|hb
 ·rw[e];exact I.free
 ·obtain⟨_,o,ho,_⟩:=I.ok.funs.mem hb
  exact I.base.free b o ho (I.ok.frf b hb) λ z=>I.ok.exfs b z hb
theorem Inv.step{g':Array zFr}{t':Nat}{d':Drawn}{ch:List Addr}(I:Inv X pins σ H s)
  (hch:∀b∈ch,(b∈X.ex\/X.s₀.heap.objs.size<=b)/\b≠X.env.locals/\(∀x c,X.env.cells.lookup x=some c->c≠b)/\∀p∈X.ta++(X.pn++pins),p.1≠b)
  (keep:∀b o,b≠X.env.locals->b∉X.fs->b∉ch->s.heap.get? b=some o->H b=none->h'.get? b=some o)
  (slot:∀b o,b≠X.env.locals->b∈X.fs->b∉ch->s.heap.get? b=some o->H b=none->∃sl,h'.get? b=some {o with slots:=sl})(free:∀b o,b∉ch->s.heap.get? b=some o->H b=none->H' b=none)
  (there:∀b o,b∉ch->s.heap.get? b=some o->∃o',h'.get? b=some o')
  (tups:∀b xs,H b=some (.tup xs)->H' b=some (.tup xs))(frzs:∀b o u,H b=some (.frz o u)->H' b=some (.frz o u))(tbls:∀b ps,H b=some (.tbl ps)->∃more,H' b=some (.tbl (ps++more)))
  (ns:∀m,s.heap.Ns X.env.locals m->h'.Ns X.env.locals m)(hok:HOk X.prog X.w H' h')(hg:zEQ g'):
  Inv X pins σ H' {s with heap:=h',gens:=g',drawn:=d',toks:=t'}:=by
 have neL:∀b o,X.s₀.heap.get? b=some o->b≠X.env.locals:=λ b o e=>zAV (zAZ (zAP e) I.ok.above)
 have neC:∀b o,X.s₀.heap.get? b=some o->b∉X.ex->b∉ch:=λ b o e hx hb=>by
  rcases(hch b hb).1 with z|z
  ·exact hx z
  ·exact absurd (zAZ (zAP e) z) (zBS _)
 have cellK:∀x c,X.env.cells.lookup x=some c->∀v,s.heap.IsCell c v->h'.IsCell c v:=λ x c e v ⟨o,ho,hd⟩=>by
  have nch:c∉ch:=λ z=>(hch c z).2.2.1 x c e rfl
  by_cases hc:c∈X.fs
  ·obtain⟨sl,q⟩:=slot c o (I.cne x c e) hc nch ho (I.freeC x c e)
   exact⟨_,q,hd⟩
  ·exact⟨o,keep c o (I.cne x c e) hc nch ho (I.freeC x c e),hd⟩
 refine⟨I.ok,I.os,hg,⟨λ b o e n hb hx=>?_,λ b o e n hb hx=>?_,λ b o e n hx=>?_,λ b o e hx=>?_,λ b xs e=>tups b xs (I.base.tups b xs e),λ b o xs e=>frzs b o xs (I.base.frzs b o xs e),λ b ps e=>?_⟩,?_,λ x c e=>?_,?_,λ x c e=>?_,λ p hp=>?_,hok,I.len,λ p hp=>?_⟩
 ·exact keep b o (neL b o e) hb (neC b o e hx) (I.base.keep b o e n hb hx) (I.base.free b o e n hx)
 ·obtain⟨sl,e1⟩:=I.base.slot b o e n hb hx
  obtain⟨sl',e2⟩:=slot b _ (neL b o e) hb (neC b o e hx) e1 (I.base.free b o e n hx);exact⟨sl',e2⟩
 ·obtain⟨o',e1⟩:=I.base.there b o e hx
  exact free b o' (neC b o e hx) e1 (I.base.free b o e n hx)
 ·obtain⟨o',e1⟩:=I.base.there b o e hx
  exact there b o' (neC b o e hx) e1
 ·obtain⟨m1,e1⟩:=I.base.tbls b ps e
  obtain⟨m2,e2⟩:=tbls b _ e1;exact⟨m1++m2,by rw[e2,zG9]⟩
 ·obtain⟨m,hn,hl⟩:=I.loc
  refine⟨m,ns m hn,λ i x v e1 e2 e3=>?_⟩;obtain⟨u,r,l⟩:=hl i x v e1 e2 e3;refine⟨u,r,?_⟩;rcases l with l|⟨k,c,e,z⟩
  ·exact .inl l
  ·exact .inr ⟨k,c,e,cellK x c e _ z⟩
 ·obtain⟨v,z⟩:=I.cell x c e
  exact⟨v,cellK x c e v z⟩
 ·obtain⟨m,⟨o,_,_,ho,_⟩,_⟩:=I.loc
  exact free _ o (λ z=>(hch _ z).2.1 rfl) ho I.free
 ·obtain⟨v,o,ho,hd⟩:=I.cell x c e
  exact free c o (λ z=>(hch c z).2.2.1 x c e rfl) ho (I.freeC x c e)
 ·obtain⟨e,n,ne,nf,d⟩:=I.pin p hp
  have nch:p.1∉ch:=λ z=>(hch p.1 z).2.2.2 p (zA5 _ hp) rfl
  exact⟨keep p.1 p.2 ne nf nch e n,free p.1 p.2 nch e n,ne,nf,d⟩
 ·obtain⟨n,ne,nf,np,ps,e,t⟩:=I.tab p hp
  have nch:p.1∉ch:=λ z=>(hch p.1 z).2.2.2 p (zA6 _ hp) rfl
  exact⟨free p.1 _ nch e n,ne,nf,np,ps,keep p.1 _ ne nf nch e n,t.mono frzs⟩
theorem Inv.pinL(I:Inv X pins σ H s)(hp:p∈X.ta++(X.pn++pins)):p.1<s.heap.objs.size:=by
 rcases zA4.mp hp with z|z
 ·obtain⟨_,_,_,_,_,e,_⟩:=I.tab p z
  exact zAP e
 ·exact zAP (I.pin p z).1
theorem Inv.un{t':Nat}(I:Inv X pins σ H s)(u:Un X.fs [] H H' s.heap h')(hok:HOk X.prog X.w H' h'):Inv X pins σ H' {s with heap:=h',toks:=t'}:=by
 obtain⟨m,⟨o,es,ep,ho,r⟩,_⟩:=id I.loc;obtain⟨sl,hL⟩:=u.any ho I.free (by simp);exact I.step (g':=s.gens) (d':=s.drawn) (ch:=[]) (λ _ z=>nomatch z) (λ b o _ hb _ e n=>u.keep b o e n hb (by simp)) (λ b o _ hb _ e n=>u.slot b o e n hb (by simp)) (λ b o _ e n=>u.free b o e n (by simp)) (λ b o _ e=>u.there b o e (by simp)) u.tups u.frzs u.tbls (λ m' hm=>by
  obtain⟨o',es',ep',ho',r'⟩:=hm;rw[ho]at ho';cases ho';exact⟨_,es',ep',hL,r'⟩) hok I.bare
theorem Inv.call{g':Array zFr}{t':Nat}{d':Drawn}{ch:List Addr}(I:Inv X pins σ H s)(u:Un (frs X.stack) ch H H' s.heap h')(hok:HOk X.prog X.w H' h')(hg:zEQ g')
  (hch:∀b∈ch,(b∈X.ex\/X.s₀.heap.objs.size<=b)/\b≠X.env.locals/\(∀x c,X.env.cells.lookup x=some c->c≠b)/\∀p∈X.ta++(X.pn++pins),p.1≠b):
  Inv X pins σ H' {s with heap:=h',gens:=g',drawn:=d',toks:=t'}:=by
 obtain⟨m,⟨o,es,ep,ho,r⟩,_⟩:=id I.loc;obtain⟨sl,hL⟩:=u.any ho I.free λ z=>(hch _ z).2.1 rfl
 exact I.step (ch:=ch) hch (λ b o hL hb hc e n=>u.keep b o e n (λ z=>(zAL.mp (I.stkSub b z)).elim hL hb) hc) (λ b o _ _ hc e n=>u.any e n hc) (λ b o hc e n=>u.free b o e n hc) (λ b o hc e=>u.there b o e hc) u.tups u.frzs u.tbls (λ m' hm=>by
  obtain⟨o',es',ep',ho',r'⟩:=hm;rw[ho]at ho';cases ho';exact⟨_,es',ep',hL,r'⟩) hok hg
theorem Inv.turned{t':Nat}{it:Addr}(I:Inv X pins σ H s)(k:∀b o,b≠it->s.heap.get? b=some o->h'.get? b=some o)(hn:H it=none)(hL:it≠X.env.locals)
  (h1:it∈X.ex\/X.s₀.heap.objs.size<=it)(h2:∀x c,X.env.cells.lookup x=some c->c≠it)(h3:∀p∈X.ta++(X.pn++pins),p.1≠it):Inv X pins σ H {s with heap:=h',toks:=t'}:=by
 have nit:∀b u,H b=some u->b≠it:=λ b u e z=>by rw[z,hn]at e;cases e
 refine I.step (g':=s.gens) (d':=s.drawn) (ch:=[it]) (λ b hb=>?_) (λ b o _ _ hc e _=>k b o (λ z=>hc (by simp[z])) e) (λ b o _ _ hc e _=>⟨o.slots,k b o (λ z=>hc (by simp[z])) e⟩) (λ _ _ _ _ n=>n)
  (λ b o hc e=>⟨o,k b o (λ z=>hc (by simp[z])) e⟩) (λ _ _ e=>e) (λ _ _ _ e=>e) (λ b ps e=>⟨#[],by rw[e];simp⟩) (λ m hm=>?_) (λ b u e=>?_) I.bare
 ·have e:b=it:=by simpa using hb
  subst e;exact⟨h1,hL,h2,h3⟩
 ·obtain⟨o,es,ep,ho,r⟩:=hm
  exact⟨o,es,ep,k _ o (zDD hL) ho,r⟩
 ·refine(I.hok b u e).stay (λ c v hc q=>k c v ?_ q) (λ _ q=>q) λ _ _ q=>q
  rcases hc with z|z
  ·rw[z];exact nit b u e
  ·exact nit c _ z
theorem Inv.tok(I:Inv X pins σ H s)(t:Nat):Inv X pins σ H {s with toks:=t}:=I.un (h':=s.heap) (t':=t) Un.refl I.hok
theorem Inv.kept{t':Nat}(I:Inv X pins σ H s)(k:∀b u,s.heap.get? b=some u->h'.get? b=some u):Inv X pins σ H {s with heap:=h',toks:=t'}:=I.un (Un.kept k) (I.hok.kept k)
theorem Inv.laid{a:Addr}{o:HO}{t':Nat}(I:Inv X pins σ H s)(k:∀b u,s.heap.get? b=some u->h'.get? b=some u)(hp:s.heap.objs.size<=a)(new:dN X.prog X.w (upd H a o) h' a o):
  Inv X pins σ (upd H a o) {s with heap:=h',toks:=t'}:=I.un (Un.laid k hp (I.hok.fresh hp)) (I.hok.laid k hp new)
theorem Inv.write{x e:Addr}{o:HO}{t':Nat}(I:Inv X pins σ H s)(mu:Mut (H x))(he:e=x\/H e=some (.own x))(k:∀b u,b≠e->s.heap.get? b=some u->h'.get? b=some u)(heo:∃u,h'.get? e=some u)
  (new:dN X.prog X.w (upd H x o) h' x o):Inv X pins σ (upd H x o) {s with heap:=h',toks:=t'}:=I.un (Un.write mu he k heo) (I.hok.write mu he k heo new)
theorem Inv.weak{σ':List (Option V)}(I:Inv X pins σ H s)(hl:σ'.length=σ.length)(w:∀(i:Nat) v,σ'[i]? =some (some v)->σ[i]? =some (some v)):Inv X pins σ' H s:=
 ⟨I.ok,I.os,I.bare,I.base,let⟨m,hn,hl'⟩:=I.loc;⟨m,hn,λ i x v e1 e2 e3=>hl' i x v e1 (w i v e2) e3⟩,I.cell,I.free,I.freeC,I.pin,I.hok,hl.trans I.len,I.tab⟩
theorem Inv.pins_of{pins':List (Addr×Obj)}(I:Inv X pins σ H s)(h:∀p∈pins',s.heap.get? p.1=some p.2/\H p.1=none/\p.1≠X.env.locals/\p.1∉X.fs/\∀v,p.2.data≠.cell v)(h2:∀q∈pins',∀p∈X.ta,q.1≠p.1):Inv X pins' σ H s:=
 ⟨I.ok,I.os,I.bare,I.base,I.loc,I.cell,I.free,I.freeC,λ p hp=>(zA4.mp hp).elim (λ z=>I.pin p (zA6 _ z)) (h p),I.hok,I.len,λ p hp=>let⟨a,b,c,d,e⟩:=I.tab p hp;⟨a,b,c,λ q hq=>(zA4.mp hq).elim (λ z=>d q (zA6 _ z)) (λ z=>h2 q z p hp),e⟩⟩
theorem aCM{N:List Str}(hN:N.Nodup){i j:Nat}{x:Str}(a:N[i]? =some x)(b:N[j]? =some x):i=j:=by
 obtain⟨h1,e1⟩:=zAI.mp a;obtain⟨h2,e2⟩:=zAI.mp b;exact(List.getElem_inj hN).mp (e1.trans e2.symm)
theorem zr{M:Model}{A:zAk}{E:Value->zAG->Prop}{i:Nat}{x:Str}{v:V}{u:Value}{Q:Unit->zAG->Prop}(I:Inv X pins σ H s)(hN:X.N.Nodup)(hi:X.N[i]? =some x)(hx:Loc X.env.scope x)(r:RelV v u)
  (h:∀s',Inv X pins (σ.set i (some v)) H s'->(∃a,zDX a s.heap s'.heap/\(a=X.env.locals\/X.env.cells.lookup x=some a))->Q () s')(hf:X.fn x=true\/X.env.scope.names.lookup x=some .local:=by first|exact .inl rfl|exact .inr rfl|assumption):wpAny M A (storeName X.env x u) Q E s:=by
 obtain⟨m,hn,hl⟩:=id I.loc;have hcls:(X.env.scope.kind== .class||(X.env.scope.kind== .module&&X.env.locals !=X.env.globals))=false:=by rw[I.ok.kind];rfl
 have hiσ:i<σ.length:=by rw[I.len];exact(zAI.mp hi).1
 have cne:=I.cne;have tracked:∀{a:Addr} {h':Heap},(∃o,s.heap.get? a=some o/\H a=none)->zDX a s.heap h'->HOk X.prog X.w H h':=λ{a h'} ha hs b ob e=>by
  obtain⟨_,_,hfree⟩:=ha;refine(I.hok b ob e).stay (λ c w' hc q=>(hs.2 c ?_).trans q) (λ _ q=>q) λ _ _ q=>q
  rintro rfl;rcases hc with rfl|hc
  ·rw[hfree]at e;cases e
  ·rw[hfree]at hc;cases hc
 rcases hx with hk|hk
 ·refine wpAny_storeName_local hk hn (λ h' hn' hs=>?_) hcls
  obtain⟨oL,_,_,hoL,_⟩:=id hn;refine h _ ⟨I.ok,I.os,I.bare,⟨λ b o e n hb hx=>?_,λ b o e n hb hx=>?_,I.base.free,λ b o e hx=>?_,I.base.tups,I.base.frzs,I.base.tbls⟩,⟨_,hn',λ j y v' e1 e2 e3=>?_⟩,λ y c e=>?_,I.free,I.freeC,λ p hp=>?_,tracked ⟨oL,hoL,I.free⟩ hs,by simpa using I.len,λ p hp=>?_⟩ ⟨_,hs,.inl rfl⟩
  ·exact(hs.2 b (zAV (zAZ (zAP e) I.ok.above))).trans (I.base.keep b o e n hb hx)
  ·obtain⟨sl,e1⟩:=I.base.slot b o e n hb hx
   exact⟨sl,(hs.2 b (zAV (zAZ (zAP e) I.ok.above))).trans e1⟩
  ·obtain⟨o',e1⟩:=I.base.there b o e hx
   exact⟨o',(hs.2 b (zAV (zAZ (zAP e) I.ok.above))).trans e1⟩
  ·by_cases hj:j=i
   ·subst hj
    rw[hi]at e1;cases e1;rw[zBa hiσ]at e2;cases e2;exact⟨u,r,.inl ⟨hk,by simp⟩⟩
   ·rw[zBU (zDD hj)]at e2
    obtain⟨u',r',q⟩:=hl j y v' e1 e2 e3;refine⟨u',r',?_⟩;rcases q with ⟨k,e⟩|⟨k,c,e,z⟩
    ·refine .inl ⟨k,?_⟩
     have:y≠x:=λ e=>hj (aCM hN e1 (e▸hi))
     simp[this,e]
    ·exact .inr ⟨k,c,e,z.sameBut hs (cne y c e)⟩
  ·obtain⟨w',z⟩:=I.cell y c e
   exact⟨w',z.sameBut hs (cne y c e)⟩
  ·obtain⟨e,n,ne,nf,d⟩:=I.pin p hp
   exact⟨(hs.2 p.1 ne).trans e,n,ne,nf,d⟩
  ·obtain⟨n,ne,nf,np,ps,e,t⟩:=I.tab p hp
   exact⟨n,ne,nf,np,ps,(hs.2 p.1 ne).trans e,t⟩
 ·have hfn:X.fn x=true:=by
   rcases hf with z|z
   ·exact z
   ·rw[z]at hk;cases hk
  obtain⟨c,hc⟩:=I.ok.has x (.inl hk);obtain⟨w',z⟩:=I.cell x c hc;refine wpAny_storeName_cell I.ok.kind hk hc z (λ h' hc' hs=>?_);obtain⟨oc,hoc,hocd⟩:=id z;refine h {s with heap:=h'} ⟨I.ok,I.os,I.bare,⟨λ b o e n hb hx=>?_,λ b o e n hb hx=>?_,I.base.free,λ b o e hx=>?_,I.base.tups,I.base.frzs,I.base.tbls⟩,⟨m,hn.sameBut hs (zDD (cne x c hc)),λ j y v' e1 e2 e3=>?_⟩,λ y c' e=>?_,I.free,I.freeC,λ p hp=>?_,tracked ⟨oc,hoc,I.freeC x c hc⟩ hs,by simpa using I.len,λ p hp=>?_⟩ ⟨c,hs,.inr hc⟩
  ·exact(hs.2 b (zAV (zAZ (zAP e) (I.ok.cab x c hfn hc)))).trans (I.base.keep b o e n hb hx)
  ·obtain⟨sl,e1⟩:=I.base.slot b o e n hb hx
   exact⟨sl,(hs.2 b (zAV (zAZ (zAP e) (I.ok.cab x c hfn hc)))).trans e1⟩
  ·obtain⟨o',e1⟩:=I.base.there b o e hx
   exact⟨o',(hs.2 b (zAV (zAZ (zAP e) (I.ok.cab x c hfn hc)))).trans e1⟩
  ·by_cases hj:j=i
   ·subst hj
    rw[hi]at e1;cases e1;rw[zBa hiσ]at e2;cases e2;exact⟨u,r,.inr ⟨.inl hk,c,hc,hc'⟩⟩
   ·rw[zBU (zDD hj)]at e2
    obtain⟨u',r',q⟩:=hl j y v' e1 e2 e3;refine⟨u',r',?_⟩;rcases q with q|⟨k,c',e,z'⟩
    ·exact .inl q
    ·refine .inr ⟨k,c',e,z'.sameBut hs ?_⟩
     rintro rfl;exact hj (aCM hN e1 (I.ok.inj _ _ _ e hc▸hi))
  ·by_cases hcc:c'=c
   ·subst hcc;exact⟨_,hc'⟩
   ·obtain⟨w2,z2⟩:=I.cell y c' e
    exact⟨w2,z2.sameBut hs hcc⟩
  ·obtain⟨e,n,ne,nf,d⟩:=I.pin p hp
   refine⟨(hs.2 p.1 ?_).trans e,n,ne,nf,d⟩;intro q;rw[q,hoc]at e;have q':oc=p.2:=zAr e;exact d w' (by rw[<-q'];exact hocd)
  ·obtain⟨n,ne,nf,np,ps,e,t⟩:=I.tab p hp
   refine⟨n,ne,nf,np,ps,(hs.2 p.1 ?_).trans e,t⟩;intro q;rw[q,hoc]at e;rw[zAr e]at hocd;cases hocd
theorem aBm{M:Model}{A:zAk}{E:Value->zAG->Prop}{i:Nat}{x:Str}{v:V}{u:Value}{Q:Unit->zAG->Prop}(I:Inv X pins σ H s)(hN:X.N.Nodup)(hi:X.N[i]? =some x)(hx:Loc X.env.scope x)(r:RelV v u)
  (h:∀s',Inv X pins (σ.set i (some v)) H s'->Q () s')(hf:X.fn x=true\/X.env.scope.names.lookup x=some .local:=by first|exact .inl rfl|exact .inr rfl|assumption):wpAny M A (storeName X.env x u) Q E s:=
 zr I hN hi hx r (λ s' I' _=>h s' I') hf
theorem Inv.call'{s':zAG}{ch:List Addr}(I:Inv X pins σ H s)(ho:s'.os=s.os)(u:Un (frs X.stack) ch H H' s.heap s'.heap)(hok:HOk X.prog X.w H' s'.heap)(hg:zEQ s'.gens)
  (hch:∀b∈ch,(b∈X.ex\/X.s₀.heap.objs.size<=b)/\b≠X.env.locals/\(∀x c,X.env.cells.lookup x=some c->c≠b)/\∀p∈X.ta++(X.pn++pins),p.1≠b):Inv X pins σ H' s':=by
 obtain⟨h',g',d',t',o'⟩:=s';have e:o'=s.os:=ho;subst e;exact I.call (g':=g') (t':=t') (d':=d') u hok hg hch
end
abbrev XK:=Value->Option Addr->Hp->Prop
abbrev St:=List (Option V)
abbrev VK:=V->Hp->Prop
abbrev TE:=St->Hp->VK->Prop
abbrev TT:=St->Hp->(Bool->Hp->Prop)->Prop
abbrev TA:=St->Hp->(List V->Hp->Prop)->Prop
structure Ends where
 nx:St->Hp->Prop
 rt:VK
 bk:St->Hp->Prop:=λ _ _=>False
 ct:St->Hp->Prop:=λ _ _=>False
abbrev TS:=Ends->St->Hp->Prop
def EP(X:Cx)(pins:List (Addr×Obj))(σ:St)(Q:VK)(u:Value)(s':zAG):Prop:=∃v H',Inv X pins σ H' s'/\RelV v u/\Q v H'
def TP(X:Cx)(pins:List (Addr×Obj))(σ:St)(Q:Bool->Hp->Prop)(b:Bool)(s':zAG):Prop:=∃H',Inv X pins σ H' s'/\Q b H'
def AP(X:Cx)(pins:List (Addr×Obj))(σ:St)(Q:List V->Hp->Prop)(us:List Value)(s':zAG):Prop:=∃vs H',Inv X pins σ H' s'/\Vals vs us/\Q vs H'
def SP(X:Cx)(pins:List (Addr×Obj))(D:Ends)(f:Flow)(s':zAG):Prop:=
 match f with
 | .next=>∃σ' H',Inv X pins σ' H' s'/\D.nx σ' H'
 | .brk=>∃σ' H',Inv X pins σ' H' s'/\D.bk σ' H'
 | .cont=>∃σ' H',Inv X pins σ' H' s'/\D.ct σ' H'
 | .ret u=>∃v σ' H',Inv X pins σ' H' s'/\RelV v u/\D.rt v H'
def PE(X:Cx)(e:Expr)(t:TE):Prop:=
 ∀(pins:List (Addr×Obj)) (s:zAG) (σ:St) (H:Hp) (Q:VK),Inv X pins σ H s->t σ H Q->wpAny (model X.prog X.w) X.A (eval e X.env) (EP X pins σ Q) X.xe s
def PT(X:Cx)(e:Expr)(t:TT):Prop:=
 ∀(pins:List (Addr×Obj)) (s:zAG) (σ:St) (H:Hp) (Q:Bool->Hp->Prop),Inv X pins σ H s->t σ H Q->wpAny (model X.prog X.w) X.A (isTrue e X.env (eval e X.env)) (TP X pins σ Q) X.xe s
def PW(X:Cx)(e:Expr)(t:TT):Prop:=
 ∀(whole:Sem Value) (pins:List (Addr×Obj)) (s:zAG) (σ:St) (H:Hp) (Q:Bool->Hp->Prop),Inv X pins σ H s->t σ H Q->wpAny (model X.prog X.w) X.A (isTrue e X.env whole) (TP X pins σ Q) X.xe s
theorem PW.pt{X:Cx}{e:Expr}{t:TT}(h:PW X e t):PT X e t:=h _
def PA(X:Cx)(es:List Expr)(t:TA):Prop:=
 ∀(pos:Pos) (pins:List (Addr×Obj)) (s:zAG) (σ:St) (H:Hp) (Q:List V->Hp->Prop),Inv X pins σ H s->t σ H Q->wpAny (model X.prog X.w) X.A (spliced (zCV pos (zAW es X.env))) (AP X pins σ Q) X.xe s
def PS(X:Cx)(st:Stmt)(t:TS):Prop:=
 ∀(pins:List (Addr×Obj)) (s:zAG) (σ:St) (H:Hp) (D:Ends),Inv X pins σ H s->t D σ H->wpAny (model X.prog X.w) X.A (exec st X.env) (SP X pins D) X.xe s
def PSs(X:Cx)(st:List Stmt)(t:TS):Prop:=
 ∀(pins:List (Addr×Obj)) (s:zAG) (σ:St) (H:Hp) (D:Ends),Inv X pins σ H s->t D σ H->wpAny (model X.prog X.w) X.A (execs st X.env) (SP X pins D) X.xe s
theorem thn{α:Type}{t:Sem α}{Q Q':α->zAG->Prop}{M:Model}{A:zAk}{E:Value->zAG->Prop}{s:zAG}(h:wpAny M A t Q E s)(hQ:∀a s,Q a s->Q' a s):wpAny M A t Q' E s:=zBH h hQ λ _ _ x=>x
section
variable{X:Cx}
def zK(i:Nat):TE:=λ σ H Q=>∃v,σ[i]? =some (some v)/\Q v H
def tC(v:V):TE:=λ _ H Q=>Q v H
theorem nW{i:Nat}{x:Str}{pos:Pos}(hN:X.N[i]? =some x)(hv:Vis X.env.scope x)(hd:(x==("__debug__":Str))=false:=by decide)(hcd:(x==("__classdict__":Str))=false:=by decide):PE X (.Name x pos) (zK i):=by
 intro pins s σ H Q I h;obtain⟨v,e,h⟩:=h;obtain⟨m,hn,hl⟩:=I.loc;obtain⟨u,r,l⟩:=hl i x v hN e hv;have fin:EP X pins σ Q u s:=⟨v,H,I,r,h⟩;rcases l with ⟨hk,hm⟩|⟨hk,c,hc,hcell⟩
 ·exact zE5 (zHl I.ok.kind hk hn hm fin) hd
 ·rcases hk with hk|hk
  ·exact zE5 (zHw I.ok.kind hk hc hcell fin) hd
  ·exact zE5 (zHx I.ok.kind hk hc hcell fin hcd) hd
theorem aGu{i j pos}:PE X (.Constant (.int i) j pos) (tC (.int i)):=λ _ _ _ H _ I h=>wpAny_Constant_int ⟨.int i,H,I.tok _,⟨_,rfl⟩,h⟩
theorem aNO{b j pos}:PE X (.Constant (.bool b) j pos) (tC (.bl b)):=λ _ _ _ H _ I h=>Constant_bool ⟨.bl b,H,I,rfl,h⟩
theorem aL8{j pos}:PE X (.Constant .none j pos) (tC .non):=λ _ _ _ H _ I h=>Constant_none ⟨.non,H,I,rfl,h⟩
theorem aL5{x j pos}:PE X (.Constant (.str x) j pos) (tC (.str x)):=λ _ _ _ H _ I h=>Calls.Constant_str ⟨.str x,H,I.tok _,⟨_,rfl⟩,h⟩
def Gl(X:Cx)(x:Str):Prop:=X.env.kindOf x=some .globalImplicit
theorem aBQ{E:Value->zAG->Prop}{pins:List (Addr×Obj)}{s:zAG}{σ:St}{H:Hp}{x:Str}{u:Value}{pos:Pos}{Q:Value->zAG->Prop}(I:Inv X pins σ H s)(hg:Gl X x)(hm:X.mg x=some u)(h:Q u s)
  (hd:(x==("__debug__":Str))=false:=by decide):wpAny (model X.prog X.w) X.A (eval (.Name x pos) X.env) Q E s:=
 zFJ I.ok.kind hg (Calls.loadGlobal_global (by rw[I.ok.glob];exact I.mod.glob.keeps I.bk) hm h) hd
theorem ut{E:Value->zAG->Prop}{pins:List (Addr×Obj)}{s:zAG}{σ:St}{H:Hp}{x:Str}{u:Value}{pos:Pos}{Q:Value->zAG->Prop}(I:Inv X pins σ H s)(hg:Gl X x)(hm:X.mg x=none)(hv:zAn x=some u)(h:Q u s)
  (hn:x≠"__name__":=by decide)(hd:(x==("__debug__":Str))=false:=by decide):wpAny (model X.prog X.w) X.A (eval (.Name x pos) X.env) Q E s:=by
 obtain⟨mb,h1,h2⟩:=I.mod.blt;exact zFJ I.ok.kind hg (Calls.loadGlobal_builtin (by rw[I.ok.glob];exact I.mod.glob.keeps I.bk) hm (by rw[I.ok.blt];exact h1.keeps I.bk) ((h2 x hn).trans hv) h) hd
theorem aJJ{x:Str}{v:V}{u:Value}{pos:Pos}(hg:Gl X x)(hm:X.mg x=some u)(r:RelV v u)(hd:(x==("__debug__":Str))=false:=by decide):PE X (.Name x pos) (tC v):=
 λ _ _ _ H _ I h=>aBQ I hg hm ⟨v,H,I,r,h⟩ hd
theorem aJO{x:Str}{v:V}{u:Value}{pos:Pos}(hg:Gl X x)(hm:X.mg x=none)(hv:zAn x=some u)(r:RelV v u)(hn:x≠"__name__":=by decide)(hd:(x==("__debug__":Str))=false:=by decide):PE X (.Name x pos) (tC v):=
 λ _ _ _ H _ I h=>ut I hg hm hv ⟨v,H,I,r,h⟩ hn hd
variable{a b:Expr}{ta tb:TE}{pos:Pos}
variable{tA tB':TT}{rest:List Expr}
def aNv(t u:TT):TT:=λ σ H Q=>t σ H λ c H1=>if c=true then u σ H1 Q else Q false H1
def tOr(t u:TT):TT:=λ σ H Q=>t σ H λ c H1=>if c=true then Q true H1 else u σ H1 Q
def aNq(t:TT):TT:=λ σ H Q=>t σ H λ c H1=>Q (!c) H1
theorem aIx(ha:PT X a tA):PW X (.BoolOp .And [a] pos) tA:=by
 intro wh pins s σ H Q I h;refine isTrue_and (thn (ha pins s σ H Q I h) λ c s1 e=>?_);cases c with
 |true=>exact isTrue_and_nil e
 |false=>exact e
theorem aLQ(ha:PT X a tA):PW X (.BoolOp .Or [a] pos) tA:=by
 intro wh pins s σ H Q I h;refine isTrue_or (thn (ha pins s σ H Q I h) λ c s1 e=>?_);cases c with
 |false=>exact isTrue_or_nil e
 |true=>exact e
theorem aLR(ha:PT X a tA)(hb:PW X (.BoolOp .And (b::rest) pos) tB'):PW X (.BoolOp .And (a::b::rest) pos) (aNv tA tB'):=by
 intro wh pins s σ H Q I h;refine isTrue_and (thn (ha pins s σ H _ I h) λ c s1 ⟨H1,I1,q1⟩=>?_);cases c with
 |true=>exact hb wh pins s1 σ H1 Q I1 q1
 |false=>exact⟨H1,I1,q1⟩
theorem aNK(ha:PT X a tA)(hb:PW X (.BoolOp .Or (b::rest) pos) tB'):PW X (.BoolOp .Or (a::b::rest) pos) (tOr tA tB'):=by
 intro wh pins s σ H Q I h;refine isTrue_or (thn (ha pins s σ H _ I h) λ c s1 ⟨H1,I1,q1⟩=>?_);cases c with
 |true=>exact⟨H1,I1,q1⟩
 |false=>exact hb wh pins s1 σ H1 Q I1 q1
theorem aLU(ha:PT X a tA):PT X (.UnaryOp .Not a pos) (aNq tA):=by
 intro pins s σ H Q I h;exact isTrue_not (ha pins s σ H (λ c H1=>Q (!c) H1) I h)
def aMu(ta tb:TE):TE:=λ σ H Q=>ta σ H λ x H1=>∃c,x= .bl c/\if c=true then tb σ H1 Q else Q (.bl false) H1
def aMp(ta:TE):TE:=λ σ H Q=>ta σ H λ x H1=>∃c,x= .bl c/\Q (.bl (!c)) H1
theorem aL6{op}{t:TE}(h:PE X a t):PE X (.BoolOp op [a] pos) t:=λ pins s σ H Q I hw=>BoolOp_one (h pins s σ H Q I hw)
theorem aLb(ha:PE X a ta)(hb:PE X (.BoolOp .And (b::rest) pos) tb):PE X (.BoolOp .And (a::b::rest) pos) (aMu ta tb):=by
 intro pins s σ H Q I h;refine BoolOp_and (thn (ha pins s σ H _ I h) λ v s1 ⟨x,H1,I1,r1,q1⟩=>?_);obtain⟨c,rfl,q1⟩:=q1;cases r1;refine zCe ?_;cases c with
 |true=>exact hb pins s1 σ H1 Q I1 q1
 |false=>exact⟨.bl false,H1,I1,rfl,q1⟩
theorem aL7(ha:PE X a ta):PE X (.UnaryOp .Not a pos) (aMp ta):=by
 intro pins s σ H Q I h;refine UnaryOp_ (thn (ha pins s σ H _ I h) λ v s1 ⟨x,H1,I1,r1,q1⟩=>?_);obtain⟨c,rfl,q1⟩:=q1;cases r1;exact not_of (zCe ⟨.bl (!c),H1,I1,rfl,q1⟩)
end
def SqL(K:zAA)(H:Hp)(a:Addr)(xs:List V):Prop:=
 Rd H a (.lst xs)\/
  ∃(o:Obj) (its:Array Value) (n:Nat),K.lookup a=some o/\o.cls= .type "list"/\o.dict=none/\o.data= .seq its n/\its.size<=zAT/\Vals xs its.toList
def SqT(K:zAA)(H:Hp)(a:Addr)(xs:List V):Prop:=
 Rd H a (.tup xs)\/
  ∃(o:Obj) (its:Array Value) (n:Nat),K.lookup a=some o/\o.cls= .type "tuple"/\o.dict=none/\o.data= .seq its n/\its.size<=zAT/\Vals xs its.toList
def aOI:Value->Option V
 | .none=>some .non
 | .bool b=>some (.bl b)
 | .int i _=>some (.int i)
 | .str x _=>some (.str x)
 | .bytes b _=>some (.byt b)
 | .float b _=>some (.flt b)
 | .ref a=>some (.ref a)
 | .type n=>some (.ty n)
 |_=>none
theorem RelV.abs{x:V}{u:Value}(r:RelV x u):aOI u=some x:=by
 cases x with
 |non=>cases r;rfl
 |bl _=>cases r;rfl
 |int _=>obtain⟨t,rfl⟩:=r;rfl
 |str _=>obtain⟨t,rfl⟩:=r;rfl
 |byt _=>obtain⟨t,rfl⟩:=r;rfl
 |flt _=>obtain⟨t,rfl⟩:=r;rfl
 |ref _=>cases r;rfl
 |ty _=>cases r;rfl
theorem RelV.inj{x y:V}{u:Value}(r:RelV x u)(q:RelV y u):x=y:=zAr (r.abs.symm.trans q.abs)
theorem Vals.inj:∀{xs ys:List V} {us:List Value},Vals xs us->Vals ys us->xs=ys
 |_,_,_,.nil,.nil=>rfl
 |_,_,_,.cons r t,.cons r' t'=>by rw[r.inj r',Vals.inj t t']
section
variable{X:Cx}{pins:List (Addr×Obj)}{σ:St}{H:Hp}{s:zAG}{a:Addr}{xs ys:List V}
theorem SqL.of{K:zAA}(h:H a=some (.lst xs)):SqL K H a xs:=.inl (.inl h)
theorem SqT.of{K:zAA}(h:H a=some (.tup xs)):SqT K H a xs:=.inl (.inl h)
theorem Inv.list(I:Inv X pins σ H s)(h:SqL X.K H a xs):∃its:List Value,Vals xs its/\PlainL s.heap a its.toArray/\xs.length<=zAT:=by
 rcases h with h|⟨o,its,n,hk,hc,hd,hs,hz,r⟩
 ·obtain⟨z,its,n,r,e⟩:=h.ok I.hok
  exact⟨its,r,⟨_,n,e,rfl,rfl,rfl⟩,z⟩
 ·refine⟨its.toList,r,⟨o,n,I.kIn a o hk,hc,hd,by simpa using hs⟩,?_⟩
  have e:=r.length;simp only[zA0]at e;omega
theorem Inv.tuple(I:Inv X pins σ H s)(h:SqT X.K H a xs):∃its:List Value,Vals xs its/\IsTup s.heap a its.toArray/\xs.length<=zAT:=by
 rcases h with h|⟨o,its,n,hk,hc,hd,hs,hz,r⟩
 ·obtain⟨z,its,r,p⟩:=h.ok I.hok
  exact⟨its,r,p,z.1⟩
 ·refine⟨its.toList,r,⟨o,I.kIn a o hk,hc,n,by simpa using hs⟩,?_⟩
  have e:=r.length;simp only[zA0]at e;omega
theorem Inv.noD(I:Inv X pins σ H s)(h:SqT X.K H a xs):NoD s.heap a:=by
 rcases h with h|⟨o,its,n,hk,hc,hd,hs,hz,r⟩
 ·obtain⟨z,its,r,p⟩:=h.ok I.hok
  exact z.2
 ·intro u e
  rw[I.kIn a o hk]at e;cases e;exact hd
theorem Inv.list_inj(I:Inv X pins σ H s)(h:SqL X.K H a xs)(h':SqL X.K H a ys):xs=ys:=by
 obtain⟨its,r,⟨o,n,e,_,_,d⟩,_⟩:=I.list h;obtain⟨its',r',⟨o',n',e',_,_,d'⟩,_⟩:=I.list h';rw[e]at e';cases e';rw[d]at d';injection d' with d1 _
 have:its=its':=by simpa using congrArg zHy d1
 subst this;exact r.inj r'
theorem Inv.tuple_inj(I:Inv X pins σ H s)(h:SqT X.K H a xs)(h':SqT X.K H a ys):xs=ys:=by
 obtain⟨its,r,⟨o,e,_,n,d⟩,_⟩:=I.tuple h;obtain⟨its',r',⟨o',e',_,n',d'⟩,_⟩:=I.tuple h';rw[e]at e';cases e';rw[d]at d';injection d' with d1 _
 have:its=its':=by simpa using congrArg zHy d1
 subst this;exact r.inj r'
end
section
variable{X:Cx}{pins:List (Addr×Obj)}{σ:St}{H:Hp}{s:zAG}{E:Value->zAG->Prop}
end
section
variable{X:Cx}{st:Stmt}{rest:List Stmt}{t u:TS}{e:Expr}{te:TE}{pos:Pos}
def aMq:TS:=λ D σ H=>D.nx σ H
def aNo(t u:TS):TS:=λ D σ H=>t {D with nx:=u D} σ H
theorem aIz:PSs X [] aMq:=λ _ _ σ H _ I h=>zEW ⟨σ,H,I,h⟩
theorem aGm(h1:PS X st t)(h2:PSs X rest u):PSs X (st::rest) (aNo t u):=by
 intro pins s σ H D I h;refine wpAny_execs_cons (thn (h1 pins s σ H {D with nx:=u D} I h) λ f s1 q=>?_);cases f with
 |next=>
  obtain⟨σ',H',I',q⟩:=q;exact h2 pins s1 σ' H' D I' q
 |ret v=>exact q
 |brk=>exact q
 |cont=>exact q
theorem aIy(h1:PS X st t):PSs X [st] t:=by
 intro pins s σ H D I h;refine wpAny_execs_cons (thn (h1 pins s σ H D I h) λ f s1 q=>?_);cases f with
 |next=>exact zEW q
 |ret v=>exact q
 |brk=>exact q
 |cont=>exact q
theorem Inv.quiet{pins:List (Addr×Obj)}{σ:St}{H:Hp}{s:zAG}(I:Inv X pins σ H s):interactive X.env=false:=by simp[interactive,I.ok.kind]
def aBl(te:TE):TS:=λ D σ H=>te σ H λ _ H1=>D.nx σ H1
theorem tD(he:PE X e te)(hs:zCk e none pos.line X.env=pure false:=by rfl):PS X (.Expr e pos) (aBl te):=by
 intro pins s σ H D I h;exact wpAny_Expr_any (thn (he pins s σ H _ I h) λ v s1 ⟨x,H1,I1,r1,q1⟩=>⟨σ,H1,I1,q1⟩) I.quiet hs
def aNp(te:TE):TS:=λ D σ H=>te σ H D.rt
theorem aLV(he:PE X e te):PS X (.Return (some e) pos) (aNp te):=by
 intro pins s σ H D I h;exact wpAny_Return_some (thn (he pins s σ H _ I h) λ v s1 ⟨x,H1,I1,r1,q1⟩=>⟨x,σ,H1,I1,r1,q1⟩)
def aNt(c:TT)(t u:TS):TS:=λ D σ H=>c σ H λ b H1=>if b=true then t D σ H1 else u D σ H1
theorem aNL{c:Expr}{a b:List Stmt}{tc:TT}(hc:PT X c tc)(ha:PSs X a t)(hb:PSs X b u):PS X (.If c a b pos) (aNt tc t u):=by
 intro pins s σ H D I h;refine wpAny_If (thn (hc pins s σ H _ I h) λ d s1 ⟨H1,I1,q1⟩=>?_);cases d with
 |true=>exact ha pins s1 σ H1 D I1 q1
 |false=>exact hb pins s1 σ H1 D I1 q1
end
abbrev TG:=V->St->Hp->(St->Hp->Prop)->Prop
abbrev TGs:=List V->St->Hp->(St->Hp->Prop)->Prop
def PG(X:Cx)(target:Expr)(t:TG):Prop:=
 ∀(pins:List (Addr×Obj)) (s:zAG) (σ:St) (H:Hp) (v:V) (u:Value) (Q:St->Hp->Prop),Inv X pins σ H s->RelV v u->t v σ H Q->
  wpAny (model X.prog X.w) X.A (zEe target X.env u) (λ _ s'=>∃σ' H',Inv X pins σ' H' s'/\Q σ' H') X.xe s
def PGs(X:Cx)(ts:List Expr)(t:TGs):Prop:=
 ∀(pins:List (Addr×Obj)) (s:zAG) (σ:St) (H:Hp) (vs:List V) (us:List Value) (Q:St->Hp->Prop),Inv X pins σ H s->Vals vs us->t vs σ H Q->
  wpAny (model X.prog X.w) X.A (assignInOrder ((zCd ts X.env).map (·.2)) us) (λ _ s'=>∃σ' H',Inv X pins σ' H' s'/\Q σ' H') X.xe s
section
variable{X:Cx}{pos:Pos}
def vQ(i:Nat):TG:=λ v σ H Q=>Q (σ.set i (some v)) H
theorem aJG{i:Nat}{x:Str}(hN:X.N.Nodup)(hi:X.N[i]? =some x)(hx:Loc X.env.scope x)(hf:X.fn x=true\/X.env.scope.names.lookup x=some .local:=by first|exact .inl rfl|exact .inr rfl|assumption):PG X (.Name x pos) (vQ i):=by
 intro pins s σ H v u Q I r h;exact zI0 (aBm I hN hi hx r (λ s' I'=>⟨_,H,I',h⟩) hf)
def aMW:TGs:=λ vs σ H Q=>vs=[]/\Q σ H
def aHm(t:TG)(u:TGs):TGs:=λ vs σ H Q=>∃v r,vs=v::r/\t v σ H λ σ' H'=>u r σ' H' Q
theorem aJF:PGs X [] aMW:=by
 intro pins s σ H vs us Q I r h;obtain⟨e,h⟩:=h;subst e;cases r;exact assignInOrder_nil ⟨σ,H,I,h⟩
theorem aGs{e:Expr}{es:List Expr}{t:TG}{u:TGs}(h1:PG X e t)(h2:PGs X es u)
  (hs:(zCd (e::es) X.env).map (·.2)=zEe e X.env::(zCd es X.env).map (·.2):=by rfl):PGs X (e::es) (aHm t u):=by
 intro pins s σ H vs us Q I r h;obtain⟨v,vr,e1,h⟩:=h;subst e1;cases r with
 |cons r rr=>
  rw[hs];refine assignInOrder_cons (thn (h1 pins s σ H _ _ _ I r h) λ _ s1 ⟨σ1,H1,I1,q1⟩=>?_);exact h2 pins s1 σ1 H1 _ _ Q I1 rr q1
def aJv(K:zAA)(n:Nat)(t:TGs):TG:=λ v σ H Q=>∃a xs,v= .ref a/\SqT K H a xs/\xs.length=n/\t xs σ H Q
theorem aL1{es:List Expr}{k:Nat}{t:TGs}{n:Nat}(hc:X.calm=true)(h:PGs X es t)
  (hn:(zCd es X.env).length=n:=by rfl)(hst:(zCd es X.env).findIdx? (·.1)=none:=by rfl):PG X (.Tuple es k pos) (aJv X.K n t):=by
 intro pins s σ H v u Q I r hw;obtain⟨a,xs,e1,hq,hl,hw⟩:=hw;subst e1;cases r;obtain⟨its,rv,ht,hz⟩:=I.tuple hq;refine assign_Tuple_tuple (I.ok.hd hc) ht (by simp[hn,<-hl,rv.length]) hst λ h' hx=>?_
 have I1:Inv X pins σ H {s with heap:=h'}:=I.kept (t':=s.toks) λ b o e=>hx b o (zAV (zAP e)) e
 exact h pins _ σ H xs _ Q I1 (by simpa using rv) hw
def aGN(te:TE)(g:TG):TS:=λ D σ H=>te σ H λ x H1=>g x σ H1 D.nx
theorem aLX{tg e:Expr}{te:TE}{g:TG}(he:PE X e te)(hg:PG X tg g)(hs:swapsWithSole [tg] e pos.line X.env=pure false:=by rfl)(hw:swappedStores [tg] e X.env=pure none:=by rfl)
  (h1:(zCd [tg] X.env).map (·.2)=[zEe tg X.env]:=by rfl):PS X (.Assign [tg] e pos) (aGN te g):=by
 intro pins s σ H D I h;refine wpAny_Assign_stores (thn (he pins s σ H _ I h) λ v s1 ⟨x,H1,I1,r1,q1⟩=>?_) hs hw;rw[h1];exact thn (hg pins s1 σ H1 x v _ I1 r1 q1) λ _ s2 q=>q
theorem aGo{i:Nat}{x:Str}{e:Expr}{te:TE}{pos':Pos}(hN:X.N.Nodup)(hi:X.N[i]? =some x)(hx:Loc X.env.scope x)(he:PE X e te)(hs:zCk e (some (.Name x pos')) pos.line X.env=pure false:=by rfl)(hf:X.fn x=true\/X.env.scope.names.lookup x=some .local:=by first|exact .inl rfl|exact .inr rfl|assumption):
  PS X (.Assign [.Name x pos'] e pos) (aGN te (vQ i)):=by
 intro pins s σ H D I h;refine wpAny_Assign_Name (thn (he pins s σ H _ I h) λ v s1 ⟨y,H1,I1,r1,q1⟩=>?_) hs;exact aBm I1 hN hi hx r1 (λ s2 I2=>⟨_,H1,I2,q1⟩) hf
end
section
variable{X:Cx}{pos:Pos}
def aKr(c:TT)(tb:TS):TS:=λ D σ H=>∃W:Nat->St->Hp->Prop,(∃m,W m σ H)/\∀m σ H,W m σ H->
 c σ H λ b H1=>if b=true then∃N:St->Hp->Prop,(∀σ' H',N σ' H'->∃m',m'<m/\W m' σ' H')/\tb {D with nx:=N,ct:=N,bk:=D.nx} σ H1 else D.nx σ H1
theorem aGn{c:Expr}{body:List Stmt}{tc:TT}{tb:TS}(hp:zH9 (model X.prog X.w) X.A X.env X.xe)(hc:PT X c tc)(hb:PSs X body tb):PS X (.While c body [] pos) (aKr tc tb):=by
 intro pins s σ H D I h;obtain⟨W,⟨m0,w0⟩,turn⟩:=h;refine wpAny_While (codeAny_whileLoop (λ n s'=>∃σ' H',Inv X pins σ' H' s'/\W n σ' H') ?_ m0 ⟨σ,H,I,w0⟩);rintro n s1 ⟨σ1,H1,I1,w1⟩;refine zC6 hp (thn (hc pins s1 σ1 H1 _ I1 (turn n σ1 H1 w1)) λ b s2 ⟨H2,I2,q2⟩=>?_);cases b with
 |true=>
  obtain⟨N,hN,q2⟩:=q2;rw[if_pos rfl];refine zC6 hp (thn (hb pins s2 σ1 H2 _ I2 q2) λ f s3 q3=>?_);cases f with
  |next=>
   obtain⟨σ3,H3,I3,n3⟩:=q3;obtain⟨m',hm,w3⟩:=hN σ3 H3 n3;exact⟨m',hm,σ3,H3,I3,w3⟩
  |cont=>
   obtain⟨σ3,H3,I3,n3⟩:=q3;obtain⟨m',hm,w3⟩:=hN σ3 H3 n3;exact⟨m',hm,σ3,H3,I3,w3⟩
  |brk=>exact q3
  |ret v=>exact q3
 |false=>
  rw[if_neg zA2];exact zEW ⟨σ1,H2,I2,q2⟩
end
structure It where
 go:Nat->Hp->Prop
 yld:Nat->Hp->V->Hp->Prop
 stop:Nat->Hp->Prop
def sV(X:Cx)(pins:List (Addr×Obj))(H:Hp)(b:Addr):Prop:=
 H b=none/\b≠X.env.locals/\b∉X.fs/\(b∈X.ex\/X.s₀.heap.objs.size<=b)/\(∀x c,X.env.cells.lookup x=some c->c≠b)/\∀p∈X.ta++(X.pn++pins),p.1≠b
theorem Inv.fpOk{X:Cx}{pins:List (Addr×Obj)}{σ:St}{H H':Hp}{s:zAG}{b:Addr}(I:Inv X pins σ H s)(hb:s.heap.objs.size<=b)(hn:H' b=none):sV X pins H' b:=by
 refine⟨hn,zBn (zAZ I.lt hb),I.nofs hb,.inr (zAf I.sz hb),λ x c e z=>?_,λ p hp z=>?_⟩
 ·obtain⟨v,q⟩:=I.cell x c e
  exact absurd (zAZ q.lt (by rw[z];exact hb)) (zBS _)
 ·exact absurd (zAZ (I.pinL hp) (by rw[z];exact hb)) (zBS _)
structure Turn(P:zA7)(w:World)(K:zAA)(tg:Expr)(J:It)(fp:List Addr)(it:Addr)(tn:Nat->Heap->Prop):Prop where
 mem:it∈fp
 obj:∀i h,tn i h->∀b∈fp,∃o,h.get? b=some o/\∀v,o.data≠.cell v
 keep:∀i h h',tn i h->(∀b∈fp,∀o,h.get? b=some o->h'.get? b=some o)->tn i h'
 item:∀(X:Cx),X.prog=P->X.w=w->X.K=K->X.calm=true->∀(i:Nat) (pins:List (Addr×Obj)) (s:zAG) (σ:St) (H:Hp) (E:Value->zAG->Prop),Inv X pins σ H s->(∀b∈fp,sV X pins H b)->tn i s.heap->J.go i H->
  wpAny (model P w) X.A (zEh (.ref it)) (λ r s1=>∃u,r=some u/\
   wpAny (model P w) X.A (zCz tg (.ref it) u) (λ _ s2=>∃x H',Inv X pins σ H' s2/\RelV x u/\J.yld i H x H'/\tn (i+1) s2.heap/\∀b∈fp,H' b=none) E s1) E s
 done:∀(X:Cx),X.prog=P->X.w=w->X.K=K->X.calm=true->∀(i:Nat) (pins:List (Addr×Obj)) (s:zAG) (σ:St) (H:Hp) (E:Value->zAG->Prop),Inv X pins σ H s->(∀b∈fp,sV X pins H b)->tn i s.heap->J.stop i H->
  wpAny (model P w) X.A (zEh (.ref it)) (λ r s1=>r=none/\Inv X pins σ H s1) E s
 self:∀(A:zAk) (i:Nat) (s:zAG) (Q:Value->zAG->Prop) (E:Value->zAG->Prop),tn i s.heap->Q (.ref it) s->wpAny (model P w) A (zGi (.ref it)) Q E s
abbrev TI:=St->Hp->(It->Hp->Prop)->Prop
def PIE(X:Cx)(pins:List (Addr×Obj))(σ:St)(tg:Expr)(R:It->Hp->Prop)(itv:Value)(s2:zAG):Prop:=
 ∃(it:Addr) (fp:List Addr) (tn:Nat->Heap->Prop) (J:It) (H':Hp),itv= .ref it/\Inv X pins σ H' s2/\Turn X.prog X.w X.K tg J fp it tn/\tn 0 s2.heap/\(∀b∈fp,sV X pins H' b)/\R J H'
def PI(X:Cx)(tg iter:Expr)(wi:TI):Prop:=
 ∀(pins:List (Addr×Obj)) (s:zAG) (σ:St) (H:Hp) (R:It->Hp->Prop),Inv X pins σ H s->wi σ H R->
  wpAny (model X.prog X.w) X.A (eval iter X.env) (λ v s1=>wpAny (model X.prog X.w) X.A (zGi v) (PIE X pins σ tg R) X.xe s1) X.xe s
theorem aHi{M:Model}{A:zAk}{E:Value->zAG->Prop}{s:zAG}{tg:Expr}{it:Addr}{u:Value}{o:Obj}{n:String}{vs:Array Value}{Q:Unit->zAG->Prop}(ho:s.heap.get? it=some o)(hc:o.cls= .type n)(hd:o.data= .fields vs)
    (hn:["enumerate","zip","dict_itemiterator","dict_reverseitemiterator","odict_iterator","itertools.zip_longest","itertools.pairwise"].contains n=false)(hQ:Q () s):wpAny M A (zCz tg (.ref it) u) Q E s:=by
  unfold zCz;cases tg<;>first
    |exact zAE hQ
    | (cases u <;> first
        |exact zAE hQ
        | (refine zAB (zI1 ho ?_)
           rw[hc,hd];show wpAny M A (if (["enumerate","zip","dict_itemiterator","dict_reverseitemiterator","odict_iterator","itertools.zip_longest","itertools.pairwise"].contains n&&vs[0]? ==some (zGE _))=true then _ else _) Q E s;rw[if_neg (by intro h;rw[hn,zF3]at h;cases h)];exact zAE hQ))
def Itl(K:zAA)(a:Addr):It:=
 ⟨λ i H=>∃xs x,SqL K H a xs/\xs[i]? =some x,λ i H x H'=>H'=H/\∀xs,SqL K H a xs->xs[i]? =some x,λ i H=>∃xs,SqL K H a xs/\xs.length<=i⟩
def Itt(K:zAA)(a:Addr):It:=
 ⟨λ i H=>∃xs x,SqT K H a xs/\xs[i]? =some x,λ i H x H'=>H'=H/\∀xs,SqT K H a xs->xs[i]? =some x,λ i H=>∃xs,SqT K H a xs/\xs.length<=i⟩
def Itr(lo:Int)(n:Nat):It:=⟨λ i _=>i<n,λ i H x H'=>H'=H/\x= .int (lo+i),λ i _=>n<=i⟩
theorem aFJ{P:zA7}{w:World}{K:zAA}{tg:Expr}(a it:Addr):Turn P w K tg (Itl K a) [it] it (λ i h=>h.IsListIter it a i) where
 mem:=by simp
 obj:=λ i h st b hb=>by
  have e:b=it:=by simpa using hb
  subst e;obtain⟨o,e,c,d⟩:=st;exact⟨o,e,λ v z=>by rw[d]at z;cases z⟩
 keep:=λ i h h' st k=>st.at λ o e=>k it (by simp) o e
 item:=by
  intro X hP hw hK hc i pins s σ H E I hf st hg;subst hP hw hK;obtain⟨xs,x,hq,hx⟩:=hg;obtain⟨its,rv,p,hz⟩:=I.list hq;obtain⟨u,hu,ru⟩:=rv.get hx;obtain⟨f0,f1,f2,f3,f4,f5⟩:=hf it (by simp);refine wpAny_pyNext_list_item st p.isList (x:=u) (by simpa using hu) λ h' st' sb=>?_
  have I1:Inv X pins σ H {s with heap:=h'}:=I.turned (t':=s.toks) (λ b o hb e=>(sb.2 b hb).trans e) f0 f1 f3 f4 f5;obtain⟨o,e,c,d⟩:=id st';exact⟨u,rfl,aHi (s:={s with heap:=h'}) e c d (by decide) ⟨x,H,I1,ru,⟨rfl,λ ys hy=>by rw[I.list_inj hy hq];exact hx⟩,st',λ b hb=>(hf b hb).1⟩⟩
 done:=by
  intro X hP hw hK hc i pins s σ H E I hf st hg;subst hP hw hK;obtain⟨xs,hq,hx⟩:=hg;obtain⟨its,rv,p,hz⟩:=I.list hq;obtain⟨f0,f1,f2,f3,f4,f5⟩:=hf it (by simp);have hl:=rv.length;exact wpAny_pyNext_list_end (I.ok.hd hc) st p.isList (by simp;omega) λ h' eb=>⟨rfl,I.turned (t':=s.toks) (λ b o hb e=>eb b o hb e) f0 f1 f3 f4 f5⟩
 self:=λ _ _ _ _ _ st h=>wpAny_pyIter_listiter st h
theorem aDB{P:zA7}{w:World}{K:zAA}{tg:Expr}(a it:Addr):Turn P w K tg (Itt K a) [it] it (λ i h=>h.IsTupleIter it a i) where
 mem:=by simp
 obj:=λ i h st b hb=>by
  have e:b=it:=by simpa using hb
  subst e;obtain⟨o,e,c,d⟩:=st;exact⟨o,e,λ v z=>by rw[d]at z;cases z⟩
 keep:=λ i h h' st k=>st.at λ o e=>k it (by simp) o e
 item:=by
  intro X hP hw hK hc i pins s σ H E I hf st hg;subst hP hw hK;obtain⟨xs,x,hq,hx⟩:=hg;obtain⟨its,rv,p,hz⟩:=I.tuple hq;obtain⟨u,hu,ru⟩:=rv.get hx;obtain⟨f0,f1,f2,f3,f4,f5⟩:=hf it (by simp);refine zHC st (show s.heap.IsTuple a its.toArray from p) (x:=u) (by simpa using hu) λ h' st' sb=>?_
  have I1:Inv X pins σ H {s with heap:=h'}:=I.turned (t':=s.toks) (λ b o hb e=>(sb.2 b hb).trans e) f0 f1 f3 f4 f5;obtain⟨o,e,c,d⟩:=id st';exact⟨u,rfl,aHi (s:={s with heap:=h'}) e c d (by decide) ⟨x,H,I1,ru,⟨rfl,λ ys hy=>by rw[I.tuple_inj hy hq];exact hx⟩,st',λ b hb=>(hf b hb).1⟩⟩
 done:=by
  intro X hP hw hK hc i pins s σ H E I hf st hg;subst hP hw hK;obtain⟨xs,hq,hx⟩:=hg;obtain⟨its,rv,p,hz⟩:=I.tuple hq;obtain⟨f0,f1,f2,f3,f4,f5⟩:=hf it (by simp);have hl:=rv.length;exact zHR (I.ok.hd hc) st (show s.heap.IsTuple a its.toArray from p) (by simp;omega) λ h' eb=>⟨rfl,I.turned (t':=s.toks) (λ b o hb e=>eb b o hb e) f0 f1 f3 f4 f5⟩
 self:=λ _ _ _ _ _ st h=>wpAny_pyIter_tupleiter st h
theorem aDC{P:zA7}{w:World}{K:zAA}{tg:Expr}(it:Addr)(lo:Int)(n:Nat):Turn P w K tg (Itr lo n) [it] it (λ i h=>IsRangeIter h it (lo+(i:Nat)*1) ((n:Int)-(i:Nat)) 1) where
 mem:=by simp
 obj:=λ i h st b hb=>by
  have e:b=it:=by simpa using hb
  subst e;exact⟨_,st,λ v z=>by
   have z':Data.fields _=Data.cell v:=z;cases z'⟩
 keep:=λ i h h' st k=>k it (by simp) _ st
 item:=by
  intro X hP hw hK hc i pins s σ H E I hf st hg;subst hP hw hK;obtain⟨f0,f1,f2,f3,f4,f5⟩:=hf it (by simp);have W:=Walks.range (prog:=X.prog) (w:=X.w) (I.ok.hd hc) it lo 1 n;refine W.item i s _ _ hg st λ v h' tk hv st' kk=>?_
  obtain⟨t,rfl⟩:=hv;have I1:Inv X pins σ H {s with heap:=h',toks:=tk}:=I.turned (λ b o hb e=>kk b o (by simpa using hb) e) f0 f1 f3 f4 f5;refine⟨_,rfl,aHi (s:={s with heap:=h',toks:=tk}) (n:="range_iterator") st' rfl rfl (by decide) ⟨.int (lo+i),H,I1,⟨t,?_⟩,⟨rfl,rfl⟩,st',λ b hb=>(hf b hb).1⟩⟩;rw[Int.mul_one]
 done:=by
  intro X hP hw hK hc i pins s σ H E I hf st hg;subst hP hw hK;obtain⟨f0,f1,f2,f3,f4,f5⟩:=hf it (by simp);exact wpAny_pyNext_range_end (I.ok.hd hc) st (by have:n<=i:=hg;omega) λ h' eb=>⟨rfl,I.turned (t':=s.toks) (λ b o hb e=>eb b o hb e) f0 f1 f3 f4 f5⟩
 self:=λ _ _ _ _ _ st h=>wpAny_pyIter_rangeiter st h
section
variable{X:Cx}{tg:Expr}
theorem aCE{pins:List (Addr×Obj)}{σ:St}{H:Hp}{s:zAG}{R:It->Hp->Prop}{E:Value->zAG->Prop}{lo hi:Int}{t u v:Tok}{tk:Nat}(I:Inv X pins σ H s)(h1: -(2^62)<=lo)(h2:lo<2^62)(h3: -(2^62)<=hi)(h4:hi<2^62)
  (q:R (Itr lo (hi-lo).toNat) H):wpAny (model X.prog X.w) X.A (zGi (.ref s.heap.objs.size)) (PIE X pins σ tg R) E {s with heap:=s.heap.push {cls:=.type "range",data:=.fields #[.int lo t,.int hi u,.int 1 v]},toks:=tk}:=by
 refine wpAny_pyIter_range (IsRange.new ..) (small_one h1 h2 h3 h4) ?_;have I1:Inv X pins σ H {s with heap:=s.heap.push {cls:=.type "range",data:=.fields #[.int lo t,.int hi u,.int 1 v]},toks:=tk}:=I.kept λ b o e=>zAD _ e
 refine⟨(s.heap.push {cls:=.type "range",data:=.fields #[.int lo t,.int hi u,.int 1 v]}).objs.size,[(s.heap.push {cls:=.type "range",data:=.fields #[.int lo t,.int hi u,.int 1 v]}).objs.size],_,_,H,rfl,
  I1.kept (t':=tk) λ b o e=>zAD _ e,aDC _ lo (hi-lo).toNat,?_,λ b hb=>?_,q⟩
 ·have e1:lo+((0:Nat):Int)*1=lo:=by simp
  have e2:(((hi-lo).toNat:Nat):Int)-((0:Nat):Int)=zBL lo hi 1:=by rw[rangeSize_one];split<;>omega
  show IsRangeIter _ _ (lo+((0:Nat):Int)*1) ((((hi-lo).toNat:Nat):Int)-((0:Nat):Int)) 1;rw[e1,e2];exact zAK _ rfl
 ·have e:b=(s.heap.push {cls:=.type "range",data:=.fields #[.int lo t,.int hi u,.int 1 v]}).objs.size:=by simpa using hb
  subst e;exact I1.fpOk (zAO _) (I1.hok.fresh (zAO _))
def aN5(ta:TA):TI:=λ σ H R=>ta σ H λ vs H1=>∃j:Int,vs=[.int j]/\-(2^62)<=j/\j<2^62/\R (Itr 0 j.toNat) H1
def aN4(ta:TA):TI:=λ σ H R=>ta σ H λ vs H1=>∃i j:Int,vs=[.int i,.int j]/\(-(2^62)<=i/\i<2^62/\-(2^62)<=j/\j<2^62)/\R (Itr i (j-i).toNat) H1
theorem aFZ{a:Expr}{ta:TA}{p pos:Pos}(hg:Gl X "range")(hm:X.mg "range"=none)(ha:PA X [a] ta)(hs:zAW [a] X.env=[(false,eval a X.env)]:=by rfl):PI X tg (.Call (.Name "range" p) [a] [] pos) (aN5 ta):=by
 intro pins s σ H R I h;refine Call_ (ut I hg hm zGh (zCG (thn (ha pos pins s σ H _ I h) λ us s1 ⟨vs,H1,I1,r1,q1⟩=>?_) hs rfl));obtain⟨j,e,q1,q2,q⟩:=q1;subst e;cases r1 with
 |cons r rr=>
  cases rr;obtain⟨t,rfl⟩:=r;exact call_range_1 (aCE I1 (by omega) (by omega) q1 q2 (by simpa using q))
theorem aFY{a b:Expr}{ta:TA}{p pos:Pos}(hg:Gl X "range")(hm:X.mg "range"=none)(ha:PA X [a,b] ta)(hs:zAW [a,b] X.env=[(false,eval a X.env),(false,eval b X.env)]:=by rfl)(hs2:zAW [b] X.env=[(false,eval b X.env)]:=by rfl):
  PI X tg (.Call (.Name "range" p) [a,b] [] pos) (aN4 ta):=by
 intro pins s σ H R I h;refine Call_ (ut I hg hm zGh (zCG (thn (ha pos pins s σ H _ I h) λ us s1 ⟨vs,H1,I1,r1,q1⟩=>?_) (by rw[hs,hs2]) (by rw[hs2];rfl)));obtain⟨i,j,e,⟨q1,q2,q3,q4⟩,q⟩:=q1;subst e;cases r1 with
 |cons r rr=>
  cases rr with
  |cons r' rr=>
   cases rr;obtain⟨t,rfl⟩:=r;obtain⟨t',rfl⟩:=r';exact call_range_2 (aCE I1 q1 q2 q3 q4 q)
def aNu(wi:TI)(g:TG)(tb:TS):TS:=λ D σ H=>wi σ H λ J H1=>∃W:Nat->Nat->St->Hp->Prop,(∃m,W 0 m σ H1)/\∀i m σ H,W i m σ H->
 (J.stop i H/\D.nx σ H)\/(J.go i H/\∃N:St->Hp->Prop,(∀σ' H',N σ' H'->∃m',m'<m/\W (i+1) m' σ' H')/\∀x H',J.yld i H x H'->g x σ H' λ σ2 H2=>tb {D with nx:=N,ct:=N,bk:=D.nx} σ2 H2)
def rQ(fp:List Addr)(h:Heap):List (Addr×Obj):=fp.filterMap λ b=>(h.get? b).map λ o=>(b,o)
theorem lA{fp:List Addr}{h:Heap}{b:Addr}{o:Obj}(hb:b∈fp)(e:h.get? b=some o):(b,o)∈rQ fp h:=zCP.mpr ⟨b,hb,by rw[e];rfl⟩
theorem aAH{fp:List Addr}{h:Heap}{p:Addr×Obj}(hp:p∈rQ fp h):p.1∈fp/\h.get? p.1=some p.2:=by
 obtain⟨b,hb,e⟩:=zCP.mp hp;cases q:h.get? b with
 |none=>rw[q]at e;cases e
 |some o=>
  rw[q]at e;have e':(b,o)=p:=zAr e;subst e';exact⟨hb,q⟩
theorem Inv.pinned{pins:List (Addr×Obj)}{σ:St}{H:Hp}{s:zAG}{fp:List Addr}(I:Inv X pins σ H s)(hf:∀b∈fp,sV X pins H b)(ho:∀b∈fp,∃o,s.heap.get? b=some o/\∀v,o.data≠.cell v):Inv X (pins++rQ fp s.heap) σ H s:=
 I.pins_of (λ p hp=>(zA4.mp hp).elim (λ z=>I.pin p (zA5 _ z)) λ z=>by
  obtain⟨hb,e⟩:=aAH z;obtain⟨f0,f1,f2,_⟩:=hf p.1 hb;obtain⟨o,e',d⟩:=ho p.1 hb;rw[e]at e';cases e';exact⟨e,f0,f1,f2,d⟩) λ q hq p hp=>(zA4.mp hq).elim (λ z=>(I.tab p hp).2.2.2.1 q (zA5 _ z)) λ z=>((hf q.1 (aAH z).1).2.2.2.2.2 p (zA6 _ hp)).symm
theorem Inv.unpinned{pins pl:List (Addr×Obj)}{σ:St}{H:Hp}{s:zAG}(I:Inv X (pins++pl) σ H s):Inv X pins σ H s:=I.pins_of (λ p hp=>I.pin p (zA5 _ (zA6 _ hp))) λ q hq p hp=>(I.tab p hp).2.2.2.1 q (zA5 _ (zA6 _ hq))
theorem aLW{iter:Expr}{body:List Stmt}{wi:TI}{g:TG}{tb:TS}{pos:Pos}(hp:zH9 (model X.prog X.w) X.A X.env X.xe)(hc:X.calm=true)(hi:PI X tg iter wi)(hg:PG X tg g)(hb:PSs X body tb)
  (hs:∀x,zBM iter X.env x=pure x:=by intro _;rfl):PS X (.For tg iter body [] pos) (aNu wi g tb):=by
 intro pins s σ H D I h;refine wpAny_For (thn (hi pins s σ H _ I h) λ v s1 h1=>thn h1 λ itv s2 h2=>?_) hs;obtain⟨it,fp,tn,J,H2,e,I2,T,st2,f2,W,⟨m0,w0⟩,turn⟩:=h2;subst e;have stat:∀{H':Hp},(∀b∈fp,H' b=none)->∀b∈fp,sV X pins H' b:=λ hn b hb=>⟨hn b hb,(f2 b hb).2⟩
 refine codeAny_forLoop_any (λ n s'=>∃i σ' H',Inv X pins σ' H' s'/\tn i s'.heap/\(∀b∈fp,H' b=none)/\W i n σ' H') ?_ m0 ⟨0,σ,H2,I2,st2,λ b hb=>(f2 b hb).1,w0⟩;rintro n s3 ⟨i,σ3,H3,I3,st3,fr3,w3⟩;rcases turn i n σ3 H3 w3 with ⟨stop,qn⟩|⟨go,N,hN,step⟩
 ·refine zC6 hp (thn (T.done X rfl rfl rfl hc i pins s3 σ3 H3 X.xe I3 (stat fr3) st3 stop) λ r s4 ⟨hr,I4⟩=>?_)
  subst hr;exact zEW ⟨σ3,H3,I4,qn⟩
 ·refine zC6 hp (thn (T.item X rfl rfl rfl hc i pins s3 σ3 H3 X.xe I3 (stat fr3) st3 go) λ r s4 ⟨u,hr,h4⟩=>?_)
  subst hr;refine zC6 hp (thn h4 λ _ s5 ⟨x,H5,I5,r5,y5,st5,fr5⟩=>?_);have I5':=I5.pinned (stat fr5) (T.obj _ _ st5);refine zC6 hp (thn (hg _ s5 σ3 H5 x u _ I5' r5 (step x H5 y5)) λ _ s6 ⟨σ6,H6,I6,q6⟩=>?_);refine zC6 hp (thn (hb _ s6 σ6 H6 _ I6 q6) λ f s7 q7=>?_);have again:∀{σ7:St} {H7:Hp},Inv X (pins++rQ fp s5.heap) σ7 H7 s7->N σ7 H7->∃m,m<n/\∃i σ' H',Inv X pins σ' H' s7/\tn i s7.heap/\(∀b∈fp,H' b=none)/\W i m σ' H':=λ{σ7 H7} I7 n7=>by
   obtain⟨m',hm,w7⟩:=hN σ7 H7 n7;refine⟨m',hm,i+1,σ7,H7,I7.unpinned,T.keep _ _ _ st5 λ b hb o e=>(I7.pin (b,o) (zA5 _ (zA5 _ (lA hb e)))).1,λ b hb=>?_,w7⟩;obtain⟨o,e,d⟩:=T.obj _ _ st5 b hb;exact(I7.pin (b,o) (zA5 _ (zA5 _ (lA hb e)))).2.1
  cases f with
  |next=>obtain⟨σ7,H7,I7,n7⟩:=q7;exact again I7 n7
  |cont=>obtain⟨σ7,H7,I7,n7⟩:=q7;exact again I7 n7
  |brk=>obtain⟨σ7,H7,I7,q7⟩:=q7;exact⟨σ7,H7,I7.unpinned,q7⟩
  |ret v=>obtain⟨x7,σ7,H7,I7,r7,q7⟩:=q7;exact⟨x7,σ7,H7,I7.unpinned,r7,q7⟩
end
abbrev R2:=V->V->Hp->VK->Prop
def OpR(X:Cx)(f:Value->Value->Sem Value)(r:R2):Prop:=
 ∀(pins:List (Addr×Obj)) (s:zAG) (σ:St) (H:Hp) (x y:V) (v u:Value) (Q:VK),Inv X pins σ H s->RelV x v->RelV y u->r x y H Q->
  wpAny (model X.prog X.w) X.A (f v u) (EP X pins σ Q) X.xe s
def UnR(X:Cx)(f:Value->Sem Value)(r:V->Hp->VK->Prop):Prop:=
 ∀(pins:List (Addr×Obj)) (s:zAG) (σ:St) (H:Hp) (x:V) (v:Value) (Q:VK),Inv X pins σ H s->RelV x v->r x H Q->
  wpAny (model X.prog X.w) X.A (f v) (EP X pins σ Q) X.xe s
def cX(X:Cx)(f:Value)(r:List V->Hp->VK->Prop):Prop:=
 ∀(pins:List (Addr×Obj)) (s:zAG) (σ:St) (H:Hp) (xs:List V) (us:List Value) (Q:VK),Inv X pins σ H s->Vals xs us->r xs H Q->
  wpAny (model X.prog X.w) X.A (call f us) (EP X pins σ Q) X.xe s
def aOJ(X:Cx)(r:V->Hp->(Bool->Hp->Prop)->Prop):Prop:=
 ∀(pins:List (Addr×Obj)) (s:zAG) (σ:St) (H:Hp) (x:V) (v:Value) (Q:Bool->Hp->Prop),Inv X pins σ H s->RelV x v->r x H Q->
  wpAny (model X.prog X.w) X.A (truthy v) (TP X pins σ Q) X.xe s
def tOp(r:R2)(ta tb:TE):TE:=λ σ H Q=>ta σ H λ x H1=>tb σ H1 λ y H2=>r x y H2 Q
def tUn(r:V->Hp->VK->Prop)(ta:TE):TE:=λ σ H Q=>ta σ H λ x H1=>r x H1 Q
def rI(C:Int->Int->Prop)(g:Int->Int->V):R2:=λ x y H Q=>∃i j,x= .int i/\y= .int j/\C i j/\Q (g i j) H
def rI0(g:Int->Int->V):R2:=λ x y H Q=>∃i j,x= .int i/\y= .int j/\Q (g i j) H
def rU(g:Int->V):V->Hp->VK->Prop:=λ x H Q=>∃i,x= .int i/\Q (g i) H
section
variable{X:Cx}{a b c:Expr}{ta tb tc:TE}{pos:Pos}
theorem aM9(ha:PE X a ta)(hb:PE X b tb){pins:List (Addr×Obj)}{s:zAG}{σ:St}{H:Hp}{R:V->V->Hp->Prop}(I:Inv X pins σ H s)
  (h:ta σ H λ x H1=>tb σ H1 λ y H2=>R x y H2){Q:Value->zAG->Prop}{f:Value->Value->Sem Value}
  (hf:∀v u s2 x y H2,Inv X pins σ H2 s2->RelV x v->RelV y u->R x y H2->wpAny (model X.prog X.w) X.A (f v u) Q X.xe s2):
  wpAny (model X.prog X.w) X.A (eval a X.env) (λ v s₁=>wpAny (model X.prog X.w) X.A (eval b X.env) (λ u s₂=>wpAny (model X.prog X.w) X.A (f v u) Q X.xe s₂) X.xe s₁) X.xe s:=by
 refine thn (ha pins s σ H _ I h) λ v s1 ⟨x,H1,I1,r1,q1⟩=>?_
 refine thn (hb pins s1 σ H1 _ I1 q1) λ u s2 ⟨y,H2,I2,r2,q2⟩=>?_
 exact hf v u s2 x y H2 I2 r1 r2 q2
theorem aK8{op:Operator}{r:R2}(ho:OpR X (zCI op) r)(ha:PE X a ta)(hb:PE X b tb):PE X (.BinOp a op b pos) (tOp r ta tb):=by
 intro pins s σ H Q I h;exact wpAny_BinOp (aM9 ha hb I h λ v u s2 x y H2 I2 rx ry q=>ho pins s2 σ H2 x y v u Q I2 rx ry q)
theorem aK7{op:UnaryOp}{r:V->Hp->VK->Prop}(ho:UnR X (unaryOp op) r)(ha:PE X a ta):PE X (.UnaryOp op a pos) (tUn r ta):=by
 intro pins s σ H Q I h;exact UnaryOp_ (thn (ha pins s σ H _ I h) λ v s1 ⟨x,H1,I1,r1,q1⟩=>ho pins s1 σ H1 x v Q I1 r1 q1)
theorem opI{f:Value->Value->Sem Value}{C:Int->Int->Prop}{g:Int->Int->Int}
  (rule:∀(i j:Int) (t u:Tok) (s:zAG) (Q:Value->zAG->Prop) (E:Value->zAG->Prop),C i j->Q (.int (g i j) s.toks) {s with toks:=s.toks+1}->wpAny (model X.prog X.w) X.A (f (.int i t) (.int j u)) Q E s):
  OpR X f (rI C λ i j=>.int (g i j)):=by
 intro pins s σ H x y v u Q I rx ry h;obtain⟨i,j,rfl,rfl,hc,q⟩:=h;obtain⟨t,rfl⟩:=rx;obtain⟨t',rfl⟩:=ry;exact rule i j t t' s _ _ hc ⟨.int (g i j),H,I.tok _,⟨_,rfl⟩,q⟩
theorem aNU{f:Value->Value->Sem Value}{g:Int->Int->Int}
  (rule:∀(i j:Int) (t u:Tok) (s:zAG) (Q:Value->zAG->Prop) (E:Value->zAG->Prop),Q (.int (g i j) s.toks) {s with toks:=s.toks+1}->wpAny (model X.prog X.w) X.A (f (.int i t) (.int j u)) Q E s):
  OpR X f (rI0 λ i j=>.int (g i j)):=by
 intro pins s σ H x y v u Q I rx ry h;obtain⟨i,j,rfl,rfl,q⟩:=h;obtain⟨t,rfl⟩:=rx;obtain⟨t',rfl⟩:=ry;exact rule i j t t' s _ _ ⟨.int (g i j),H,I.tok _,⟨_,rfl⟩,q⟩
theorem aJ3{f:Value->Value->Sem Value}{g:Int->Int->Bool}
  (rule:∀(i j:Int) (t u:Tok) (s:zAG) (Q:Value->zAG->Prop) (E:Value->zAG->Prop),Q (.bool (g i j)) s->wpAny (model X.prog X.w) X.A (f (.int i t) (.int j u)) Q E s):
  OpR X f (rI0 λ i j=>.bl (g i j)):=by
 intro pins s σ H x y v u Q I rx ry h;obtain⟨i,j,rfl,rfl,q⟩:=h;obtain⟨t,rfl⟩:=rx;obtain⟨t',rfl⟩:=ry;exact rule i j t t' s _ _ ⟨.bl (g i j),H,I,rfl,q⟩
def aNl(i j:Int):Prop:=0<j/\j<1073741824
def aOM(i j:Int):Prop:=0<=j/\j<=1000000/\i.natAbs<2^64
def aKR(i j:Int):Prop:=(-(2^64)<i/\i<2^64)\/(-(2^64)<j/\j<2^64)
theorem aKR.ok{i j:Int}(h:aKR i j):IntMulOk i j:=by
 rcases h with ⟨h1,h2⟩|⟨h1,h2⟩
 ·exact .of_left (intBits_le_64 h1 h2)
 ·exact .of_right (intBits_le_64 h1 h2)
theorem aLw:OpR X (zCI .Add) (rI0 λ i j=>.int (i+j)):=aNU λ _ _ _ _ _ _ _ q=>add_int q
theorem aLg:OpR X (zCI .Sub) (rI0 λ i j=>.int (i-j)):=aNU λ _ _ _ _ _ _ _ q=>sub_int q
theorem aLk:OpR X (zCI .Mult) (rI aKR λ i j=>.int (i*j)):=opI λ _ _ _ _ _ _ _ hc q=>mul_int q hc.ok
theorem aJY:OpR X (zCI .FloorDiv) (rI aNl λ i j=>.int (i / j)):=opI λ i j _ _ _ _ _ hc q=>by
 have h1:(0:Int)<j:=hc.1;have h2:j<1073741824:=hc.2;exact floordiv_int (by omega) (by rw[Int.fdiv_eq_ediv_of_nonneg i (by omega)];exact q) (.inl (PyProof.noPylong_small (by omega)))
theorem aLl:OpR X (zCI .Mod) (rI (λ _ j=>0<j) λ i j=>.int (i%j)):=opI λ i j _ _ _ _ _ hc q=>by
 have h1:(0:Int)<j:=hc;exact mod_int' (by omega) (by rw[Int.fmod_eq_emod_of_nonneg i (by omega)];exact q)
theorem aLi:OpR X (zCI .Pow) (rI aOM λ i j=>.int (i^j.toNat)):=opI λ _ _ _ _ _ _ _ hc q=>pow_int_small hc.1 hc.2.1 hc.2.2 q
theorem unI{f:Value->Sem Value}{g:Int->Int}
  (rule:∀(i:Int) (t:Tok) (s:zAG) (Q:Value->zAG->Prop) (E:Value->zAG->Prop),Q (.int (g i) s.toks) {s with toks:=s.toks+1}->wpAny (model X.prog X.w) X.A (f (.int i t)) Q E s):
  UnR X f (rU λ i=>.int (g i)):=by
 intro pins s σ H x v Q I rx h;obtain⟨i,rfl,q⟩:=h;obtain⟨t,rfl⟩:=rx;exact rule i t s _ _ ⟨.int (g i),H,I.tok _,⟨_,rfl⟩,q⟩
theorem aGC:UnR X (unaryOp .USub) (rU λ i=>.int (-i)):=unI λ _ _ _ _ _ q=>neg_int q
end
section
variable{X:Cx}{a b c:Expr}{ta tb tc:TE}{pos:Pos}
theorem aHq{pins:List (Addr×Obj)}{σ:St}{H:Hp}{s:zAG}{Q:VK}{k k':Bool}(I:Inv X pins σ H s)(q:Q (.bl k) H)(e:k=k'):EP X pins σ Q (.bool k') s:=by
 subst e;exact⟨.bl k,H,I,rfl,q⟩
theorem aNR:OpR X (zAo .Lt) (rI0 λ i j=>.bl (decide (i<j))):=aJ3 λ _ _ _ _ _ _ _ q=>lt_int q
theorem aNS:OpR X (zAo .LtE) (rI0 λ i j=>.bl (decide (i<=j))):=aJ3 λ _ _ _ _ _ _ _ q=>le_int q
theorem aKc:OpR X (zAo .Gt) (rI0 λ i j=>.bl (decide (j<i))):=aJ3 λ _ _ _ _ _ _ _ q=>gt_int q
theorem aNT:OpR X (zAo .GtE) (rI0 λ i j=>.bl (decide (j<=i))):=aJ3 λ _ _ _ _ _ _ _ q=>ge_int q
theorem aLr:OpR X (zAo .Is) (λ x y H Q=>y= .non/\Q (.bl (decide (x= .non))) H):=by
 intro pins s σ H x y v u Q I rx ry h;obtain⟨rfl,q⟩:=h;cases ry;refine is_none_gen (aHq I q ?_);cases x<;>first
  |(cases rx;rfl)
  |(obtain⟨t,rfl⟩:=rx;rfl)
def isObj:HO->Bool
 | .lst _=>true
 | .ins _ _ _=>true
 |_=>false
theorem OpR.or{f:Value->Value->Sem Value}{r r':R2}(h:OpR X f r)(h':OpR X f r'):OpR X f (λ x y H Q=>r x y H Q\/r' x y H Q):=by
 intro pins s σ H x y v u Q I rx ry q;rcases q with q|q
 ·exact h pins s σ H x y v u Q I rx ry q
 ·exact h' pins s σ H x y v u Q I rx ry q
theorem aHJ(b:Expr){op:CmpOp}(h:op≠.In:=by decide)(h2:op≠.NotIn:=by decide):zCC op b=false:=by
 have e1:(op==CmpOp.In)=false:=by cases op<;>first|rfl|exact absurd rfl h
 have e2:(op==CmpOp.NotIn)=false:=by cases op<;>first|rfl|exact absurd rfl h2
 cases b<;>simp[zCC,e1,e2]
theorem aJM{op:CmpOp}{r:R2}(ho:OpR X (zAo op) r)(ha:PE X a ta)(hb:PE X b tb)(hm:zCC op b=false):PE X (.Compare a [op] [b] pos) (tOp r ta tb):=by
 intro pins s σ H Q I h;exact wpAny_Compare1 (aM9 ha hb I h λ v u s2 x y H2 I2 rx ry q=>ho pins s2 σ H2 x y v u Q I2 rx ry q) hm
def aGK(t:TE):TT:=λ σ H Q=>t σ H λ x H'=>∃k,x= .bl k/\Q k H'
theorem aE8{op:CmpOp}{r:R2}(ho:OpR X (zAo op) r)(ha:PE X a ta)(hb:PE X b tb)(hm:zCC op b=false):PT X (.Compare a [op] [b] pos) (aGK (tOp r ta tb)):=by
 intro pins s σ H Q I h;refine wpAny_isTrue_Compare1 (thn (ha pins s σ H _ I h) λ v s1 ⟨x,H1,I1,r1,q1⟩=>thn (hb pins s1 σ H1 _ I1 q1) λ u s2 ⟨y,H2,I2,r2,q2⟩=>
  thn (ho pins s2 σ H2 x y v u _ I2 r1 r2 q2) λ c s3 ⟨z,H3,I3,r3,k,e,q3⟩=>?_) hm
 subst e;cases r3;exact zCe ⟨H3,I3,q3⟩
def aGL(r r':R2)(ta tb tc:TE):TE:=λ σ H Q=>ta σ H λ x H1=>tb σ H1 λ y H2=>r x y H2 λ z H3=>∃k,z= .bl k/\
 (if k=true then tc σ H3 λ w' H4=>r' y w' H4 Q else Q (.bl false) H3)
theorem aGw{op op':CmpOp}{r r':R2}(ho:OpR X (zAo op) r)(ho':OpR X (zAo op') r')(ha:PE X a ta)(hb:PE X b tb)(hc:PE X c tc)
  (hm:zHc [op,op'] [b,c]=false:=by with_unfolding_all rfl):PE X (.Compare a [op,op'] [b,c] pos) (aGL r r' ta tb tc):=by
 intro pins s σ H Q I h;refine Compare_chain (thn (ha pins s σ H _ I h) λ v s1 ⟨x,H1,I1,r1,q1⟩=>chain_link (thn (hb pins s1 σ H1 _ I1 q1) λ u s2 ⟨y,H2,I2,r2,q2⟩=>
  thn (ho pins s2 σ H2 x y v u _ I2 r1 r2 q2) λ d s3 ⟨z,H3,I3,r3,k,e,q3⟩=>?_)) hm
 subst e;cases r3;refine zCe ?_;cases k with
 |false=>exact ite_ff ⟨.bl false,H3,I3,rfl,q3⟩
 |true=>exact ite_tt (chain_last (thn (hc pins s3 σ H3 _ I3 q3) λ w' s4 ⟨z',H4,I4,r4,q4⟩=>ho' pins s4 σ H4 y z' u w' Q I4 r2 r4 q4))
def aMc(K:zAA)(x:V)(H:Hp)(k:Bool):Prop:=
 match x with
 | .non=>k=false
 | .bl b=>k=b
 | .int i=>k=(i !=0)
 | .str y=>y.length<=zAT/\k=((y.length:Int)!=0)
 | .byt y=>y.size<=zAT/\k=((y.size:Int)!=0)
 | .ref p=>(∃xs,SqL K H p xs/\k= !xs.isEmpty)\/(∃xs,SqT K H p xs/\k= !xs.isEmpty)\/∃kvs,H p=some (.dK kvs)/\k= !kvs.isEmpty
 |_=>False
theorem aDw{κ:Type}{kvs:List (κ×V)}{vs:List (κ×Value)}(r:KV kvs vs):(!vs.isEmpty)= !kvs.isEmpty:=by
 cases r<;>rfl
theorem yS{xs:List V}{its:List Value}(r:Vals xs its):(!its.toArray.isEmpty)= !xs.isEmpty:=by
 cases r<;>simp
theorem yH:(zAT:Nat)<2^63:=by rw[zB9];decide
theorem aKp:aOJ X (λ x H Q=>∃k,aMc X.K x H k/\Q k H):=by
 intro pins s σ H x v Q I rx h;obtain⟨k,e,q⟩:=h;have hl:=yH;have hs:zAT=16777216:=zB9;cases x with
 |non=>
  cases rx;have e':k=false:=e;subst e';exact truthy_none ⟨H,I,q⟩
 |bl b=>
  cases rx;have e':k=b:=e;subst e';exact zCe ⟨H,I,q⟩
 |int i=>
  obtain⟨t,rfl⟩:=rx;have e':k=(i !=0):=e;subst e';exact PySem.P.truthy_int ⟨H,I,q⟩
 |str y=>
  obtain⟨t,rfl⟩:=rx;obtain⟨hy,e'⟩:y.length<=zAT/\k=((y.length:Int)!=0):=e;subst e';exact PySem.P.truthy_str (by omega) ⟨H,I.tok _,q⟩
 |byt y=>
  obtain⟨t,rfl⟩:=rx;obtain⟨hy,e'⟩:y.size<=zAT/\k=((y.size:Int)!=0):=e;subst e';exact PySem.W.truthy_bytes (by omega) ⟨H,I.tok _,q⟩
 |ref p=>
  cases rx;have e':(∃xs,SqL X.K H p xs/\k= !xs.isEmpty)\/(∃xs,SqT X.K H p xs/\k= !xs.isEmpty)\/∃kvs,H p=some (.dK kvs)/\k= !kvs.isEmpty:=e
  rcases e' with ⟨xs,hx,e'⟩|⟨xs,hx,e'⟩|⟨kvs,hx,e'⟩
  ·subst e'
   obtain⟨its,r,pl,hz⟩:=I.list hx;have hlen:=r.length;exact wpAny_truthy_list pl.isList (by simp only[zAM];omega) ⟨H,I.tok _,by rw[yS r];exact q⟩
  ·subst e'
   obtain⟨its,r,pl,hz⟩:=I.tuple hx;have hlen:=r.length;exact truthy_tuple pl (by simp only[zAM];omega) ⟨H,I.tok _,by rw[yS r];exact q⟩
  ·subst e'
   obtain⟨hz,hS,vs,r,m⟩:kvs.length<=zAT/\(p==zCY)=false/\∃vs,KV kvs vs/\s.heap.DictOf (di X.prog X.w) p vs:=I.hok p _ hx
   have hlen:kvs.length=vs.length:=zHi r;exact wpAny_truthy_dict hS m (by omega) ⟨H,I.tok _,by rw[aDw r];exact q⟩
 |_=>exact(show False from e).elim
theorem aGl(ha:PE X a ta)(he:∀whole,isTrue a X.env whole=(do let v <-whole;zGF a.pos;zEs [v] (truthy v))):
  PT X a (λ σ H Q=>ta σ H λ x H'=>∃k,aMc X.K x H' k/\Q k H'):=by
 intro pins s σ H Q I h;exact isTrue_plain (thn (ha pins s σ H _ I h) λ v s1 ⟨x,H1,I1,r1,q1⟩=>aKp pins s1 σ H1 x v Q I1 r1 q1) (he _)
theorem vals1{x:V}{us:List Value}(r:Vals [x] us):∃u,us=[u]/\RelV x u:=by
 cases r with
 |cons r1 r2=>cases r2;exact⟨_,rfl,r1⟩
theorem vals2{x y:V}{us:List Value}(r:Vals [x,y] us):∃u w',us=[u,w']/\RelV x u/\RelV y w':=by
 cases r with
 |cons r1 r2=>
  cases r2 with
  |cons r3 r4=>cases r4;exact⟨_,_,rfl,r1,r3⟩
theorem aFq(hc:X.calm=true):cX X (.builtin "max") (λ xs H Q=>∃i j,xs=[.int i,.int j]/\Q (.int (if j>i then j else i)) H):=by
 intro pins s σ H xs us Q I r h;obtain⟨i,j,rfl,q⟩:=h;obtain⟨u,w',rfl,⟨t,rfl⟩,⟨t',rfl⟩⟩:=vals2 r;refine max_two_ints (I.ok.hd hc) λ h' tk k=>⟨_,H,I.kept k,?_,q⟩
 by_cases hj:j>i
 ·rw[if_pos hj,if_pos hj];exact⟨_,rfl⟩
 ·rw[if_neg hj,if_neg hj];exact⟨_,rfl⟩
theorem aFp(hc:X.calm=true):cX X (.builtin "min") (λ xs H Q=>∃i j,xs=[.int i,.int j]/\Q (.int (if j<i then j else i)) H):=by
 intro pins s σ H xs us Q I r h;obtain⟨i,j,rfl,q⟩:=h;obtain⟨u,w',rfl,⟨t,rfl⟩,⟨t',rfl⟩⟩:=vals2 r;refine min_two_ints (I.ok.hd hc) λ h' tk k=>⟨_,H,I.kept k,?_,q⟩
 by_cases hj:j<i
 ·rw[if_pos hj,if_pos hj];exact⟨_,rfl⟩
 ·rw[if_neg hj,if_neg hj];exact⟨_,rfl⟩
end
structure aKO(h:Heap)(x dx C:Addr)(mA:Str->Option Value):Prop where
 obj:h.get? x=some (zCA C dx)
 ns:h.Ns1 dx mA
 ne:dx≠x
theorem aF4{h:Heap}{dx:Addr}{mA:Str->Option Value}(n:h.Ns1 dx mA):∃od,h.get? dx=some od/\∀name,zEA name od=some (mA name):=by
 obtain⟨o,es,ep,ho,hd,hk,_,hm⟩:=n;refine⟨o,ho,λ name=>?_⟩;have e:=hm name;unfold nsFind findBy at e;rw[<-Array.find?_toList]at e;unfold zEA;rw[hd];dsimp only;split
 ·rename_i y q
  rw[q]at e;exact congrArg some e
 ·rename_i q
  rw[q]at e;have a:es.toList.any (·.refKey)=false:=by
   rw[zHE];intro y hy;obtain⟨z,t,hkey⟩:=hk y (Array.mem_toList_iff.mp hy);simp[DictEntry.refKey,hkey]
  have a':¬es.toList.any (·.refKey)=true:=by rw[a];exact zA2
  rw[if_neg a'];exact congrArg some e
theorem aKO.look{h:Heap}{x dx C:Addr}{mA:Str->Option Value}(I:aKO h x dx C mA):∃od,zHK h x (zCA C dx) C (some od)/\∀name,zEA name od=some (mA name):=
 let⟨od,ho,hl⟩:=aF4 I.ns
 ⟨od,⟨I.obj,rfl,rfl,ho⟩,hl⟩
section
variable{prog:zA7}{w:World}{A:zAk}{E:Value->zAG->Prop}{s:zAG}{K:zAA}{x dx C f:Addr}{mA:Str->Option Value}{name:Str}{v:Value}
theorem aHl{pl:Sem Bool}{Q:Value×List Value->zAG->Prop}(X:K.In s.heap)(I:aKO s.heap x dx C mA)(hg:zE8 K C name=true)
  (hf:zB2 K (.ref C) name=some (some (.ref f)))(ht:zHj K (.ref f)=true)(hv:mA name=none)(h:Q (.ref f,[.ref x]) s):
  wpAny (model prog w) A (getMethod (.ref x) name pl) Q E s:=by
 obtain⟨od,J,hl⟩:=I.look;exact PySem.W.method_fn X J (zFw hg).1 (zFw hg).2 hf (beq_iff_eq.mp ht) (by show(zEA name od).map (·.isSome)=some false;rw[hl,hv];rfl) h
theorem make_map{R:zDr->zAG->Prop}{vs:List Value}{kw:List (Str×Value)}(X:K.In s.heap)(hm:PySem.W.makesIn K C=true)
  (hi:zB2 K (.ref C) "__init__"=some (some (.ref f)))(hf:PySem.W.typeIn K (.ref f)=some (.type "function"))
  (h:zBm (model prog w) (A.under (.builtin "type.__call__" ⟨.ref C::vs,kw⟩)) (.call (.ref f) ⟨.ref (s.heap.objs.size+1)::vs,kw⟩) (PySem.W.InitBack (s.heap.objs.size+1) R)
   {s with heap:=(s.heap.push zB8).push (zCA C s.heap.objs.size)}):
  zBm (model prog w) A (.call (.ref C) ⟨vs,kw⟩) R s:=by
 obtain⟨hh,g,d,t,os⟩:=s;exact PySem.W.make_core (PySem.W.makes_of X hm) (zDE X hi) (λ self=>PySem.W.bind_fn X self hf) (.inl rfl) h
end
theorem uQ.some_of{v:V}{o:Option Value}(r:uQ (some v) o):∃u,o=some u/\RelV v u:=by
 cases o with
 |none=>exact(show False from r).elim
 |some u=>exact⟨u,rfl,r⟩
theorem uQ.none_of{o:Option Value}(r:uQ none o):o=none:=by
 cases o with
 |none=>rfl
 |some u=>exact(show False from r).elim
section
variable{P:zA7}{w:World}{H H':Hp}{h h':Heap}{a C dx:Addr}{fs fs':List (Str×V)}
theorem wU(hok:HOk P w H h)(e:H a=some (.ins C dx fs)):∃mA,aKO h a dx C mA/\(∀f,uQ (fs.lookup f) (mA f))/\zID mA (fs.map (·.1))/\fs.length<=1000/\H dx=some (.own a):=by
 obtain⟨d,z,ne,ob,mA,n,r,q⟩:=(show dN P w H h a (.ins C dx fs)from hok a _ e);exact⟨mA,⟨ob,n,ne⟩,r,q,z,d⟩
end
structure Cls(K:zAA)(C:Addr):Prop where
 pg:zE8 K C Str.empty=true
 hd:PySem.W.hasDictIn K C=true
 po:PySem.W.plainOver K C=true
 sa:zB2 K (.ref C) "__setattr__"=some (some (.builtin "object.__setattr__"))
theorem Cls.get{K:zAA}{C:Addr}(c:Cls K C)(f:Str):zE8 K C f=true:=c.pg
def aMe(K:zAA)(C:Addr)(f:Str):Prop:=zB2 K (.ref C) f=some none
structure Meth(K:zAA)(C:Addr)(m:Str)(f:Addr):Prop where
 at_:zB2 K (.ref C) m=some (some (.ref f))
 fn:zHj K (.ref f)=true
 kp:zCH K (.ref f)=true
section
variable{X:Cx}{pins:List (Addr×Obj)}{σ:St}{H:Hp}{s:zAG}{a C dx:Addr}{fs:List (Str×V)}{f:Str}{v:V}{A:zAk}{E:Value->zAG->Prop}
theorem aDz{m:Str}{g:Addr}{pl:Sem Bool}{Q:Value×List Value->zAG->Prop}(I:Inv X pins σ H s)(e:H a=some (.ins C dx fs))(c:Cls X.K C)(k:Meth X.K C m g)(l:fs.lookup m=none)
  (h:Q (.ref g,[.ref a]) s):wpAny (model X.prog X.w) A (getMethod (.ref a) m pl) Q E s:=by
 obtain⟨mA,O,r,_,_,_⟩:=wU I.hok e;have hn:mA m=none:=uQ.none_of (by rw[<-l];exact r m);exact aHl I.kIn O (c.get m) k.at_ k.fn hn h
theorem Inv.made(I:Inv X pins σ H s):Inv X pins σ (upd (upd H s.heap.objs.size (.own (s.heap.objs.size+1))) (s.heap.objs.size+1) (.ins C s.heap.objs.size []))
  {s with heap:=(s.heap.push zB8).push (zCA C s.heap.objs.size)}:=by
 have e1:(s.heap.push zB8).get? s.heap.objs.size=some zB8:=zAK s.heap rfl;have e2:((s.heap.push zB8).push (zCA C s.heap.objs.size)).get? (s.heap.objs.size+1)=some (zCA C s.heap.objs.size):=by
  have:=zAK (s.heap.push zB8) (o:=zCA C s.heap.objs.size) rfl
  rwa [zBP]at this
 have e3:(s.heap.push zB8).Ns s.heap.objs.size (λ _=>none):=⟨zB8,#[],_,e1,rfl,(λ e he=>absurd he (by simp)),λ _=>rfl⟩;have I1:=I.laid (a:=s.heap.objs.size) (o:=.own (s.heap.objs.size+1)) (h':=s.heap.push zB8) (t':=s.toks) (λ b u q=>zAD _ q) (zAO _) ⟨_,e1⟩;refine I1.laid (a:=s.heap.objs.size+1) (o:=.ins C s.heap.objs.size []) (t':=s.toks) (λ b u q=>zAD _ q) (zG0 (zBP _ _)) ?_;have ne:s.heap.objs.size≠s.heap.objs.size+1:=zAV (zBk _);refine⟨by rw[bI ne,bB],zAb _,ne,e2,λ _=>none,(Heap.Ns1.of_empty e3).at λ o q=>zAD _ q,λ _=>zDM,λ y hy=>absurd rfl hy⟩
end
def tFld(K:zAA)(ta:TE)(f:Str):TE:=λ σ H Q=>ta σ H λ x H1=>∃a C dx fs v,x= .ref a/\H1 a=some (.ins C dx fs)/\Cls K C/\aMe K C f/\fs.lookup f=some v/\Q v H1
section
variable{X:Cx}{o e value:Expr}{f:Str}{pos pos' tpos:Pos}{ta tv:TE}
theorem methcall_of{pl:Sem Bool}{m:Str}{apos:Pos}{args:List Expr}{pins:List (Addr×Obj)}{s:zAG}{σ:St}{H:Hp}{Q:Value->zAG->Prop}{te:TE}(he:PE X e te)(I:Inv X pins σ H s)
  (h:te σ H λ x H1=>∃a C dx fs g,x= .ref a/\H1 a=some (.ins C dx fs)/\Cls X.K C/\Meth X.K C m g/\fs.lookup m=none/\
   ∀s1,Inv X pins σ H1 s1->wpAny (model X.prog X.w) X.A (callWith pos (.ref g) [.ref a] (zCV pos (zAW args X.env)) (zFE pos (zD9 [] X.env))) Q X.xe s1)
  (ht:eval (.Call (.Attribute e m apos) args [] pos) X.env=(do
   let ov <-eval e X.env
   zGF apos.atName
   let(f,first) <-zEs [ov] (getMethod ov m pl)
   callWith pos f first (zCV pos (zAW args X.env)) (zFE pos (zD9 [] X.env)))):
  wpAny (model X.prog X.w) X.A (eval (.Call (.Attribute e m apos) args [] pos) X.env) Q X.xe s:=by
 refine PySem.W.methodCall_KW (pl:=pl) (thn (he pins s σ H _ I h) λ u s1 ⟨x,H1,I1,rx,a,C,dx,fs,g,ex,ea,c,k,l,q⟩=>?_) ht;subst ex;obtain rfl:u=zBG a:=rx;exact aDz I1 ea c k l (q s1 I1)
end
section
variable{X:Cx}{pins:List (Addr×Obj)}{σ:St}{H:Hp}{s:zAG}{A:zAk}{E:Value->zAG->Prop}{Q:Value->zAG->Prop}{c:Value}{b:Bool}
inductive vI(K:zAA)(H:Hp):V->Value->Prop where
 |non:vI K H .non (.type "NoneType")
 |bl (x:Bool):vI K H (.bl x) (.type "bool")
 |int (i:Int):vI K H (.int i) (.type "int")
 |str (x:Str):vI K H (.str x) (.type "str")
 |flt (x:UInt64):vI K H (.flt x) (.type "float")
 |lst {a:Addr} {xs:List V} (e:H a=some (.lst xs)):vI K H (.ref a) (.type "list")
 |frz {a:Addr} {o:Obj} {xs:List V} (e:H a=some (.frz o (.lst xs))):vI K H (.ref a) (.type "list")
 |tup {a:Addr} {xs:List V} (e:H a=some (.tup xs)):vI K H (.ref a) (.type "tuple")
 |dK {a:Addr} {kvs:List (Key×V)} (e:H a=some (.dK kvs)):vI K H (.ref a) (.type "dict")
 |dT {a:Addr} {kvs:List (List Key×V)} (e:H a=some (.dT kvs)):vI K H (.ref a) (.type "dict")
 |ins {a C dx:Addr} {fs:List (Str×V)} (e:H a=some (.ins C dx fs)) (cl:Cls K C) (ha:zB2 K (.ref C) "__class__"=some (some (.builtin "object.__class__")))
   (hn:PySem.W.specialIn K (.builtin "object.__class__") "__get__"=some (some (.builtin "getset_descriptor.__get__"))) (htk:PySem.W.takesIn K (.builtin "object.__class__")=some true)
   (hm:PySem.W.mroIn K C (.type "object")=some true):vI K H (.ref a) (.ref C)
theorem aFb{x:V}{u t:Value}(I:Inv X pins σ H s)(rx:RelV x u)(ty:vI X.K H x t)(e:zDV X.K t c=some b)(h:∀tk,Q (.bool b) {s with toks:=tk}):
  wpAny (model X.prog X.w) A (call (.builtin "isinstance") [u,c]) Q E s:=by
 cases ty with
 |non=>cases (show u=zBI from rx);exact zBJ PySem.W.kitx_none I.kIn zDM e (λ z=>nomatch z) h
 |bl y=>cases (show u=zD7 y from rx);exact zBJ PySem.W.kitx_bool I.kIn zDM e (λ z=>nomatch z) h
 |int i=>obtain⟨t,q⟩:=(show∃t,u=zDN i t from rx);cases q;exact zBJ PySem.W.kitx_int I.kIn zDM e (λ z=>nomatch z) h
 |str y=>obtain⟨t,q⟩:=(show∃t,u=zFz y t from rx);cases q;exact zBJ PySem.W.kitx_str I.kIn zDM e (λ z=>nomatch z) h
 |flt y=>obtain⟨t,q⟩:=(show∃t,u=zIT y t from rx);cases q;exact zBJ PySem.W.kitx_float I.kIn zDM e (λ z=>nomatch z) h
 |@lst a xs ea=>
  cases (show u=zBG a from rx);obtain⟨_,_,n,_,h1⟩:=(show dN X.prog X.w H s.heap a (.lst xs)from I.hok a _ ea);exact zBJ zG5 I.kIn ⟨_,h1,rfl⟩ e (λ z=>nomatch z) h
 |@frz a ob xs ea=>
  cases (show u=zBG a from rx);obtain⟨_,_,_,n,_,h1⟩:=(show dN X.prog X.w H s.heap a (.frz ob (.lst xs))from I.hok a _ ea);exact zBJ zG5 I.kIn ⟨_,h1,rfl⟩ e (λ z=>nomatch z) h
 |@tup a xs ea=>
  cases (show u=zBG a from rx);obtain⟨_,_,_,p⟩:=(show dN X.prog X.w H s.heap a (.tup xs)from I.hok a _ ea);obtain⟨o,h1,h2,_⟩:=p;exact zBJ zGR I.kIn ⟨o,h1,h2⟩ e (λ z=>nomatch z) h
 |@dK a kvs ea=>
  cases (show u=zBG a from rx);obtain⟨_,_,vs,_,p⟩:=(show dN X.prog X.w H s.heap a (.dK kvs)from I.hok a _ ea);obtain⟨o,es,ep,h1,h2,_⟩:=p;exact zBJ zES I.kIn ⟨o,h1,h2.1⟩ e (λ z=>nomatch z) h
 |@dT a kvs ea=>
  cases (show u=zBG a from rx);obtain⟨_,_,xs,_,o,es,ep,h1,h2,_⟩:=(show dN X.prog X.w H s.heap a (.dT kvs)from I.hok a _ ea);exact zBJ zES I.kIn ⟨o,h1,h2.1⟩ e (λ z=>nomatch z) h
 |@ins a C dx fs ea cl ha hn htk hm=>
  cases (show u=zBG a from rx);obtain⟨mA,O,_⟩:=wU I.hok ea;obtain⟨od,J,_⟩:=O.look;exact zBJ (PySem.W.kitx_own (cl.get _) cl.hd ha hn htk hm) I.kIn J e (λ z=>nomatch z) h
end
structure lU(k:Nat)(A:zAk):Prop where
 hd:A.handled=none
 dp:A.depth+3*k+5<zG8
 un:A.units+16*k+200<cLine
theorem lU.mono{j k:Nat}{A:zAk}(r:lU k A)(h:j<=k):lU j A:=⟨r.hd,by have:=r.dp;omega,by have:=r.un;omega⟩
theorem lU.deeper{k:Nat}{A:zAk}(r:lU (k+1) A)(env:Env):lU k (A.deeper env):=
 ⟨r.hd,by have:=r.dp;show A.depth+1+3*k+5<_;omega,by have:=r.un;show A.units+3+16*k+200<_;omega⟩
theorem lU.depth{k:Nat}{A:zAk}(r:lU k A):A.depth<zG8:=by have:=r.dp;omega
theorem lU.units{k:Nat}{A:zAk}(r:lU k A):A.units+64<cLine:=by have:=r.un;omega
theorem lU.units0{k:Nat}{A:zAk}(r:lU k A):A.units<cLine:=by have:=r.un;omega
def uR:TA:=λ _ H Q=>Q [] H
def kI(ta:TE)(tr:TA):TA:=λ σ H Q=>ta σ H λ x H1=>tr σ H1 λ xs H2=>Q (x::xs) H2
section
variable{X:Cx}{e:Expr}{es:List Expr}{te:TE}{t:TA}{pos:Pos}
theorem jE:PA X [] uR:=λ _ _ _ _ H Q I h=>Calls.spliced_nil ⟨[],H,I,.nil,h⟩
theorem eX(ha:PE X e te)(hr:PA X es t)(hs:zAW (e::es) X.env=(false,eval e X.env)::zAW es X.env:=by rfl):PA X (e::es) (kI te t):=by
 intro pos pins s σ H Q I h;rw[hs];show wpAny _ _ (spliced ((false,eval e X.env)::zCV pos (zAW es X.env))) _ _ s;refine Calls.spliced_cons (thn (ha pins s σ H _ I h) λ u s1 ⟨x,H1,I1,r1,q1⟩=>?_);exact thn (hr pos pins s1 σ H1 _ I1 q1) λ us s2 ⟨xs,H2,I2,r2,q2⟩=>⟨x::xs,H2,I2,.cons r1 r2,q2⟩
def aNn(t:TA):TE:=λ σ H Q=>t σ H λ xs H1=>xs.length<=zAT/\∀p,H1 p=none->Q (.ref p) (upd H1 p (.tup xs))
def aNr(t:TA):TE:=λ σ H Q=>t σ H λ xs H1=>xs.length<=zAT/\∀p,H1 p=none->Q (.ref p) (upd H1 p (.lst xs))
theorem aL4{x1}(h:PA X es t):PE X (.Tuple es x1 pos) (aNn t):=by
 intro pins s σ H Q I hq;refine wpAny_Tuple_spliced (thn (h pos pins s σ H _ I hq) λ us s1 ⟨xs,H1,I1,r,z,q⟩=>⟨by rw[<-r.length];exact z,?_⟩);have hf:H1 s1.heap.objs.size=none:=I1.hok.fresh (zAO _);refine⟨.ref s1.heap.objs.size,upd H1 s1.heap.objs.size (.tup xs),I1.laid (t':=s1.toks) (λ b u e=>zAD _ e) (zAO _) ?_,rfl,q _ hf⟩;exact⟨⟨z,NoD.push _⟩,us,r,⟨_,zAK _ rfl,rfl,_,rfl⟩⟩
theorem aL9(h:PA X es t):PE X (.List es pos) (aNr t):=by
 intro pins s σ H Q I hq;refine wpAny_List_spliced (thn (h pos pins s σ H _ I hq) λ us s1 ⟨xs,H1,I1,r,z,q⟩=>⟨by rw[<-r.length];exact z,?_⟩);have hf:H1 s1.heap.objs.size=none:=I1.hok.fresh (zAO _);refine⟨.ref s1.heap.objs.size,upd H1 s1.heap.objs.size (.lst xs),I1.laid (t':=s1.toks) (λ b u e=>zAD _ e) (zAO _) ?_,rfl,q _ hf⟩;exact⟨z,us,0,r,zAK _ rfl⟩
end
abbrev Sp:=List V->Hp->VK->XK->Prop
abbrev CXT:=List Env->Hp->zAG->XK->Value->zAG->Prop
structure aIV(P:zA7)(w:World)(K:zAA)(mg:Str->Option Value)(base:Heap)(A:zAk)(outer:List Env)(s:zAG)(H:Hp):Prop where
 frames:A.frames=some outer
 mod:Mod K mg base
 bs:∀b o,base.get? b=some o->s.heap.get? b=some o/\H b=none
 bsz:base.objs.size<=s.heap.objs.size
 funs:s.heap.FunFrames base outer
 frf:∀b∈frs outer,H b=none
 hok:HOk P w H s.heap
 bare:zEQ s.gens
def CE(outer:List Env)(P:zA7)(w:World)(H:Hp)(s:zAG)(Q:VK)(u:Value)(s':zAG):Prop:=
 ∃v H',s'.os=s.os/\zEQ s'.gens/\Un (frs outer) [] H H' s.heap s'.heap/\HOk P w H' s'.heap/\RelV v u/\Q v H'
def CR(CX:CXT)(outer:List Env)(P:zA7)(w:World)(H:Hp)(s:zAG)(Q:VK)(E:XK)(r:zDr)(s':zAG):Prop:=
 match r with
 | .ok (.ret u)=>CE outer P w H s Q u s'
 | .ok _=>False
 | .error e=>CX outer H s E e s'
structure cj(P:zA7)(w:World)(K:zAA)(mg:Str->Option Value)(base:Heap)(CX:CXT)(k:Nat)(f:Addr)(fd:zAa)(ps:List Str)(sp:Sp):Prop where
 len:∀vs H Q E,sp vs H Q E->vs.length=ps.length
 run:∀(A:zAk) (outer:List Env) (s:zAG) (H:Hp) (args:Args) (us:List Value) (vs:List V) (Q:VK) (E:XK),lU k A->aIV P w K mg base A outer s H->zFT s fd args (ps.zip us)->Vals vs us->sp vs H Q E->
  zBm (model P w) A (.call (.ref f) args) (CR CX outer P w H s Q E) s
theorem cj.imp{P:zA7}{w:World}{K:zAA}{mg:Str->Option Value}{base:Heap}{CX:CXT}{k:Nat}{f:Addr}{fd:zAa}{ps:List Str}{sp sp':Sp}(F:cj P w K mg base CX k f fd ps sp)
  (h:∀vs H Q E,sp' vs H Q E->sp vs H Q E):cj P w K mg base CX k f fd ps sp':=
 ⟨λ vs H Q E q=>F.len vs H Q E (h _ _ _ _ q),λ A outer s H args us vs Q E hr he hb hv hs=>F.run A outer s H args us vs Q E hr he hb hv (h _ _ _ _ hs)⟩
section
variable{X:Cx}{pins:List (Addr×Obj)}{σ:St}{H:Hp}{s s':zAG}
theorem Inv.env0(I:Inv X pins σ H s):aIV X.prog X.w X.K X.mg X.base X.A X.stack s H:=
 ⟨I.ok.frames,I.ok.mod,I.bs,zAf I.ok.bsz I.sz,I.stack,I.stkFree,I.hok,I.bare⟩
theorem Inv.after{Q:VK}{u:Value}(I:Inv X pins σ H s)(h:CE X.stack X.prog X.w H s Q u s'):EP X pins σ Q u s':=by
 obtain⟨v,H',os,bare,un,hok,r,q⟩:=h;obtain⟨hh,g,d,t,os'⟩:=s';obtain rfl:os'=s.os:=os;exact⟨v,H',I.call (h':=hh) (g':=g) (d':=d) (t':=t) (ch:=[]) un hok bare (λ b z=>absurd z (by simp)),r,q⟩
end
def aGM(sp:Sp)(dvs:List V)(E:XK)(t:TA):TE:=λ σ H Q=>t σ H λ vs H1=>sp (vs++dvs) H1 Q E
def tMeth(C:Addr)(m:Str)(sp:Sp)(dvs:List V)(E:XK)(ta:TE)(t:TA):TE:=λ σ H Q=>ta σ H λ x H1=>∃a dx fs,x= .ref a/\H1 a=some (.ins C dx fs)/\fs.lookup m=none/\
 t σ H1 λ vs H2=>sp (x::(vs++dvs)) H2 Q E
def tMake(C:Addr)(sp:Sp)(dvs:List V)(E:XK)(t:TA):TE:=λ σ H Q=>t σ H λ vs H1=>∀x dx,H1 x=none->H1 dx=none->dx≠x->
 sp (.ref x::(vs++dvs)) (upd (upd H1 dx (.own x)) x (.ins C dx [])) (λ v H2=>v= .non/\Q (.ref x) H2) E
def Binds(K:zAA)(fd:zAa)(ps:List Str)(ds:List Value):Prop:=
 ∀(s:zAG) (us:List Value),K.In s.heap->(us++ds).length=ps.length->zFT s fd ⟨us,[]⟩ (ps.zip (us++ds))
theorem Binds.all{K:zAA}{fd:zAa}{ps:List Str}(h:∀us:List Value,us.length=ps.length->bindArgs fd ⟨us,[]⟩=pure (ps.zip us)):Binds K fd ps []:=λ s us _ hl=>by
 rw[zBX]at hl ⊢;exact .of_eq (h us hl)
def aBh(CX:CXT)(X:Cx)(E:XK):Prop:=∀(pins:List (Addr×Obj)) (σ:St) (H:Hp) (s:zAG) (e:Value) (s':zAG),Inv X pins σ H s->CX X.stack H s E e s'->X.xe e s'
section
variable{X:Cx}{CX:CXT}{k:Nat}{f C:Addr}{fd:zAa}{ps:List Str}{sp:Sp}{dvs:List V}{ds:List Value}{E:XK}{x m:Str}{p pos apos:Pos}{e o:Expr}{es:List Expr}{ta:TE}{t:TA}
theorem aG5{pins:List (Addr×Obj)}{σ:St}{H:Hp}{s:zAG}{Q:VK}{us:List Value}{vs:List V}(F:cj X.prog X.w X.K X.mg X.base CX k f fd ps sp)(hr:lU k X.A)(hb:Binds X.K fd ps ds)(hd:Vals dvs ds)(hx:aBh CX X E)
  (I:Inv X pins σ H s)(r:Vals vs us)(h:sp (vs++dvs) H Q E):wpAny (model X.prog X.w) X.A (call (.ref f) us) (EP X pins σ Q) X.xe s:=by
 have r2:Vals (vs++dvs) (us++ds):=r.append hd;have hl:(us++ds).length=ps.length:=by rw[<-r2.length];exact F.len _ _ _ _ h
 refine wpAny_call (zCs (F.run X.A X.stack s H ⟨us,[]⟩ (us++ds) (vs++dvs) Q E hr I.env0 (hb s us I.kIn hl) r2 h) λ r s' hq=>?_);cases r with
 |error e=>exact hx pins σ H s e s' I hq
 |ok fl=>
  cases fl with
  |ret u=>exact I.after hq
  |next=>exact zAS hq
  |brk=>exact zAS hq
  |cont=>exact zAS hq
theorem aJN(F:cj X.prog X.w X.K X.mg X.base CX k f fd ps sp)(hr:lU k X.A)(hg:Gl X x)(hm:X.mg x=some (.ref f))(hk:zCH X.K (.ref f)=true)(hb:Binds X.K fd ps ds)(hd:Vals dvs ds)(hx:aBh CX X E)
  (ha:PA X (e::es) t)(hdb:(x==("__debug__":Str))=false:=by decide)(he:zAW (e::es) X.env=(false,eval e X.env)::zAW es X.env:=by rfl)(hpl:(zCV pos (zAW es X.env)).any (·.1)=false:=by rfl):
  PE X (.Call (.Name x p) (e::es) [] pos) (aGM sp dvs E t):=by
 intro pins s σ H Q I h;refine zDA (aBQ I hg hm ?_ hdb);refine zGQ (h₀:=X.base) I.ok.mod.kin hk (thn (ha pos pins s σ H _ I h) λ us s1 ⟨vs,H1,I1,r,q⟩=>⟨I1.kIn,?_⟩) he hpl;exact aG5 F hr hb hd hx I1 r q
end
section
variable{X:Cx}{CX:CXT}{k:Nat}{f C:Addr}{fd:zAa}{ps ks:List Str}{sp:Sp}{E:XK}{x m:Str}{p pos apos kpos:Pos}{e o:Expr}{es:List Expr}{kws:List zDT}{te ta:TE}{t tk:TA}{nm:Option Str}
variable{g:List Value->List Value->List Value}{gV:List V->List V->List V}
end
structure bA(N P:List Str)(sc:Scope):Prop where
 kind:sc.kind= .function
 co:sc.isCoroutine=false
 gen:sc.isGenerator=false
 nd:N.Nodup
 pre:N.take P.length=P
 par:∀x∈P,sc.names.lookup x=some .local\/sc.names.lookup x=some .cell
 nofree:∀y∈sc.names,y.2≠.free
theorem aAa{zEG:Str->Option zDY}{x:Str}:∀{binds:List (Str×Value)} {m:Str->Option Value},(∀v,(x,v)∉binds)->bindL zEG binds m x=m x
 |[],_,_=>rfl
 |(n,v)::r,m,h=>by
  unfold bindL;rw[aAa λ w hw=>h w (zAJ _ hw)];split
  ·have:x≠n:=by rintro rfl;exact h v zAQ
   simp[this]
  ·rfl
theorem aAc{zEG:Str->Option zDY}{x:Str}:∀{binds:List (Str×Value)} {m:Str->Option Value},(∀v,(x,v)∉binds)->bindC zEG binds m x=m x
 |[],_,_=>rfl
 |(n,v)::r,m,h=>by
  unfold bindC;rw[aAc λ w hw=>h w (zAJ _ hw)];split
  ·rfl
  ·have:x≠n:=by rintro rfl;exact h v zAQ
   simp[this]
theorem aAb{zEG:Str->Option zDY}{x:Str}{v:Value}:∀{P:List Str} {vs:List Value} {i:Nat} {m:Str->Option Value},P.Nodup->P[i]? =some x->vs[i]? =some v->zEG x=some .local->
  bindL zEG (P.zip vs) m x=some v
 |[],_,_,_,_,h,_,_=>by simp at h
 |_::_,[],_,_,_,_,h,_=>by simp at h
 |p::P,w::vs,0,m,nd,h1,h2,hk=>by
  simp at h1 h2;subst h1;subst h2;show bindL zEG ((p,w)::P.zip vs) m p=_;unfold bindL;rw[aAa λ v hv=>(zBD.mp nd).1 (zDy hv).1,if_pos hk];simp
 |p::P,w::vs,i+1,m,nd,h1,h2,hk=>by
  show bindL zEG ((p,w)::P.zip vs) m x=_;unfold bindL;exact aAb (i:=i) (zBD.mp nd).2 (by simpa using h1) (by simpa using h2) hk
theorem aAd{zEG:Str->Option zDY}{x:Str}{v:Value}:∀{P:List Str} {vs:List Value} {i:Nat} {m:Str->Option Value},P.Nodup->P[i]? =some x->vs[i]? =some v->zEG x≠some .local->
  bindC zEG (P.zip vs) m x=some v
 |[],_,_,_,_,h,_,_=>by simp at h
 |_::_,[],_,_,_,_,h,_=>by simp at h
 |p::P,w::vs,0,m,nd,h1,h2,hk=>by
  simp at h1 h2;subst h1;subst h2;show bindC zEG ((p,w)::P.zip vs) m p=_;unfold bindC;rw[aAc λ v hv=>(zBD.mp nd).1 (zDy hv).1,if_neg hk];simp
 |p::P,w::vs,i+1,m,nd,h1,h2,hk=>by
  show bindC zEG ((p,w)::P.zip vs) m x=_;unfold bindC;exact aAd (i:=i) (zBD.mp nd).2 (by simpa using h1) (by simpa using h2) hk
def start(N:List Str)(vs:List V):St:=vs.map some++zA1 (N.length-vs.length) none
def aCl(CX:CXT)(P:zA7)(w:World)(K:zAA)(mg:Str->Option Value)(base:Heap)(N:List Str)(qual:Str)(scope:Scope)(f:Addr)(cd:Value)(A:zAk)(outer:List Env)(s:zAG)(H:Hp)(E:XK):Cx where
 prog:=P
 w:=w
 K:=K
 mg:=mg
 base:=base
 A:=A.deeper (zEF qual scope s.heap.objs.size f cd)
 N:=N
 s₀:=s
 H₀:=H
 env:=zEF qual scope s.heap.objs.size f cd
 outer:=outer
 stack:=zEF qual scope s.heap.objs.size f cd::outer
 ex:=[]
 calm:=true
 fn:=λ _=>true
 pn:=[]
 xe:=λ e s'=>wpAny (model P w) (A.deeper (zEF qual scope s.heap.objs.size f cd)) (leaving (zEF qual scope s.heap.objs.size f cd) e) (λ _ s''=>CX outer H s E e s'') (λ e' s''=>CX outer H s E e' s'') s'
theorem uH{sc:Scope}{n:Nat}{x:Str}(h:sc.names.lookup x=some .cell):∃c,(zD8 n sc.names []).lookup x=some c:=by
 have q:=zF6 sc.names n [] (.inl h);exact Option.isSome_iff_exists.mp q
theorem aFc{CX:CXT}{P:zA7}{w:World}{K:zAA}{mg:Str->Option Value}{base:Heap}{N ps:List Str}{qual:Str}{scope:Scope}{f:Addr}{cd:Value}{A:zAk}{outer:List Env}{s s1:zAG}{H:Hp}{E:XK}{us:List Value}{vs:List V}
  (S:bA N ps scope)(hd:A.handled=none)(e0:aIV P w K mg base A outer s H)(hl:vs.length=ps.length)(r:Vals vs us)
  (x:InCallC s s.heap.objs.size (bindL (zEF qual scope s.heap.objs.size f cd).kindOf (ps.zip us) λ _=>none) (zD8 (s.heap.objs.size+1) scope.names []) (bindC (zEF qual scope s.heap.objs.size f cd).kindOf (ps.zip us) λ _=>none) s1):
  Inv (aCl CX P w K mg base N qual scope f cd A outer s H E) [] (start N vs) H s1:=by
 have hpl:ps.length<=N.length:=by have:=congrArg zFK S.pre;rw[zBQ]at this;omega
 obtain⟨h1,tk,rfl,hk⟩:=x.done;have noA:∀b:Addr,b∉(aCl CX P w K mg base N qual scope f cd A outer s H E).ex:=λ b z=>absurd (show b∈([]:List Addr)from z) (by simp)
 refine⟨⟨e0.mod,S.kind,rfl,rfl,zAO _,λ y z c h1 h2=>?_,λ y hy=>?_,λ y c _ h=>?_,λ _=>hd,Around.frames_deeper e0.frames,.inr ⟨rfl,rfl⟩,λ b z=>absurd z (noA b),e0.bs,e0.bsz,λ b _ _=>noA b,λ b z=>absurd z (noA b),e0.funs,e0.frf⟩,
  rfl,e0.bare,Un.kept hk,⟨_,x.toInCall.ns,λ i y v h1 h2 h3=>?_⟩,λ y c h=>⟨_,x.cell y c h⟩,e0.hok.fresh (zAO _),λ y c h=>?_,λ p hp=>absurd (show p∈([]:List (Addr×Obj))from hp) (by simp),e0.hok.kept hk,?_,λ p hp=>absurd (show p∈([]:List (Addr×Obj))from hp) (by simp)⟩
 ·exact name_of_addr x.apart (zAv h1) (zAv h2)
 ·have hy:scope.names.lookup y=some .cell\/scope.names.lookup y=some .free:=hy
  rcases hy with hy|hy
  ·exact uH hy
  ·exact absurd rfl (S.nofree _ (zAv hy))
 ·exact zBg (x.above y c (zAv h))
 ·have hi:i<vs.length:=by
   unfold start at h2;by_cases hi:i<vs.length
   ·exact hi
   ·rw[zDW (by simpa using hi)]at h2
    rw[zCo]at h2;split at h2<;>cases h2
  have ha:vs[i]? =some v:=by
   unfold start at h2;rw[zC8 (by simpa using hi),zAU]at h2;cases e:vs[i]? with
   |none=>rw[e]at h2;cases h2
   |some a=>rw[e]at h2;cases h2;rfl
  obtain⟨u,hu,rv⟩:=r.get ha;have hp:ps[i]? =some y:=by
   rw[<-S.pre,List.getElem?_take_of_lt (by omega)];exact h1
  have ndP:ps.Nodup:=by rw[<-S.pre];exact S.nd.sublist (List.take_sublist _ _)
  refine⟨u,rv,?_⟩;rcases S.par y (zBB hp)with k|k
  ·exact .inl ⟨k,aAb ndP hp hu k⟩
  ·obtain⟨c,e⟩:=uH (n:=s.heap.objs.size+1) k
   refine .inr ⟨.inl k,c,e,?_⟩;have q:=x.cell y c e;rw[aAd ndP hp hu (by show scope.names.lookup y≠_;rw[k];decide)]at q;exact q
 ·exact e0.hok.fresh (zBg (x.above y c (zAv h)))
 ·unfold start
  show _=N.length;rw[zAX,zAF,zCX];omega
theorem aN6{CX:CXT}{P:zA7}{w:World}{K:zAA}{mg:Str->Option Value}{base:Heap}{k:Nat}{f:Addr}{name qual:Str}{params:zHS}{body:List Stmt}{scope:Scope}{dV kV doc pm cdv ct oc:Value}{an od:Option Addr}
  {osl:Array (Option Value)}{N ps:List Str}{sp:Sp}(lk:K.lookup f=some ⟨oc,od,.func (zCQ name qual params body scope dV kV doc pm an cdv ct),osl⟩)(hcd:zDU K cdv qual=true)(S:bA N ps scope)
  (len:∀vs H Q E,sp vs H Q E->vs.length=ps.length)
  (hbody:∀(A:zAk) (outer:List Env) (s:zAG) (H:Hp) (vs:List V) (Q:VK) (E:XK),lU k (A.deeper (zEF qual scope s.heap.objs.size f cdv))->sp vs H Q E->
   ∃t,PSs (aCl CX P w K mg base N qual scope f cdv A outer s H E) body t/\t {nx:=λ _ H'=>Q .non H',rt:=Q} (start N vs) H):
  cj P w K mg base CX (k+1) f (zCQ name qual params body scope dV kV doc pm an cdv ct) ps sp:=by
 refine⟨len,λ A outer s H args us vs Q E hr e0 hb r hsp=>?_⟩;have hl:=len _ _ _ _ hsp;have KX:K.In s.heap:=e0.mod.kin.keeps λ b o e=>(e0.bs b o e).1
 have lim:s.heap.NoLimit:=e0.mod.nolimit.keeps λ b o e=>(e0.bs b o e).1
 have hkind:∀y∈ps.zip us,scope.names.lookup y.1=some .local\/(scope.names.lookup y.1=some .cell/\((zD8 (s.heap.objs.size+1) scope.names []).lookup y.1).isSome=true):=λ⟨n,v⟩ hy=>by
  rcases S.par n (zDy hy).1 with q|q
  ·exact .inl q
  ·exact .inr ⟨q,zF6 _ _ _ (.inl q)⟩
 refine codeAny_call_function hr.depth (KX _ _ lk) rfl S.co S.gen rfl (PySem.W.codeRec_of KX hcd) (hb _ _ _ _ ?_);refine wpAny_newFunctionEnv_cells S.kind hkind λ env he s1 x=>?_
 subst he;refine⟨lim.keeps x.toInCall.keep,codeAny_func ?_⟩;obtain⟨t,ht,hq⟩:=hbody A outer s H vs Q E (hr.deeper _) hsp;have I:Inv (aCl CX P w K mg base N qual scope f cdv A outer s H E) [] (start N vs) H s1:=aFc S hr.hd e0 hl r x;refine zBH (ht [] s1 (start N vs) H _ I hq) (λ fl s' hs=>?_) λ e s' hs=>hs
 have fin:∀{σ':St} {H':Hp} {v:V} {u:Value},Inv (aCl CX P w K mg base N qual scope f cdv A outer s H E) [] σ' H' s'->RelV v u->Q v H'->CE outer P w H s Q u s':=
  λ{σ' H' v u} J rv q=>⟨v,H',J.os,J.bare,J.base,J.hok,rv,q⟩
 cases fl with
 |ret u=>
  obtain⟨v,σ',H',J,rv,q⟩:=hs;exact fin J rv q
 |next=>
  obtain⟨σ',H',J,q⟩:=hs;exact fin (v:=V.non) (u:=zBI) J rfl q
 |brk=>
  obtain⟨_,_,_,q⟩:=hs;exact zAS q
 |cont=>
  obtain⟨_,_,_,q⟩:=hs;exact zAS q
section
variable{X:Cx}{x:Str}{p pos:Pos}{e:Expr}{es:List Expr}{t:TA}{id T:String}{r:List V->Hp->VK->Prop}
def tCB(r:List V->Hp->VK->Prop)(t:TA):TE:=λ σ H Q=>t σ H λ vs H1=>r vs H1 Q
theorem oZ(hc:cX X (.builtin id) r)(hg:Gl X x)(hm:X.mg x=none)(hv:zAn x=some (.builtin id))(ha:PA X (e::es) t)(hn:x≠"__name__":=by decide)(hdb:(x==("__debug__":Str))=false:=by decide)
  (he:zAW (e::es) X.env=(false,eval e X.env)::zAW es X.env:=by rfl)(hpl:(zCV pos (zAW es X.env)).any (·.1)=false:=by rfl):PE X (.Call (.Name x p) (e::es) [] pos) (tCB r t):=by
 intro pins s σ H Q I h;refine zDA (ut I hg hm hv ?_ hn hdb);exact PyProof.Rows.callWith_builtin1 (thn (ha pos pins s σ H _ I h) λ us s1 ⟨vs,H1,I1,r1,q1⟩=>hc pins s1 σ H1 vs us Q I1 r1 q1) he hpl
theorem iU(hc:cX X (.type T) r)(hg:Gl X x)(hm:X.mg x=none)(hv:zAn x=some (.type T))(ha:PA X (e::es) t)(hn:x≠"__name__":=by decide)(hdb:(x==("__debug__":Str))=false:=by decide)
  (he:zAW (e::es) X.env=(false,eval e X.env)::zAW es X.env:=by rfl)(hpl:(zCV pos (zAW es X.env)).any (·.1)=false:=by rfl):PE X (.Call (.Name x p) (e::es) [] pos) (tCB r t):=by
 intro pins s σ H Q I h;refine zDA (ut I hg hm hv ?_ hn hdb);exact zCG (thn (ha pos pins s σ H _ I h) λ us s1 ⟨vs,H1,I1,r1,q1⟩=>hc pins s1 σ H1 vs us Q I1 r1 q1) he hpl
end
end L2
namespace HT
open PySem PyProof.Rows
def lexLt:List Int->List Int->Bool
 |[],[]=>false
 |[],_::_=>true
 |_::_,[]=>false
 |x::xs,y::ys=>if x=y then lexLt xs ys else decide (x<y)
theorem lB(x y:Int)(xs ys:List Int):lexLt (x::xs) (y::ys)=if x=y then lexLt xs ys else decide (x<y):=rfl
theorem zX:lexLt [] []=false:=rfl
theorem yI(y:Int)(ys:List Int):lexLt [] (y::ys)=true:=rfl
theorem yJ(x:Int)(xs:List Int):lexLt (x::xs) []=false:=rfl
theorem aCh(A:zAk)(s:zAG)(a:Int)(t:Tok)(c:Int)(u:Tok):∃e,zEB A s (.int a t) (.int c u) e/\(e=true↔a=c):=
 ⟨(a==c),zFd a t c u,by simp⟩
theorem aGc(A:zAk)(s:zAG)(a:Int)(t:Tok)(c:Int)(u:Tok)(prog:zA7)(w:World)(E:Value->zAG->Prop)(Q:Value->zAG->Prop)(h:Q (.bool (decide (a<c))) s):
  wpAny (model prog w) A (richCompare .Lt (.int a t) (.int c u)) Q E s:=
 (zFO h:wpAny (model prog w) A (zAo .Lt (.int a t) (.int c u)) Q E s)
section
open PySem.SeqAt
open PySem.AutoSeq1(wpAny_loadPart')
open PySem.MeetsSeq PySem.MeetsSeq2 PySem.MeetsSeq3
theorem zH(l b:Addr)(items items2:Array Value)(n n2:Nat)(dd dd2:Option Addr)(sl sl2:Array (Option Value))(ns ms:List Int)(hi:zBO items.toList ns)(hj:zBO items2.toList ms):
  Meets (zCO.«tuple.__lt__» ⟨[.ref l,.ref b],[]⟩)
   (λ _ R s=>s.heap.get? l=some {cls:=.type "tuple",dict:=dd,data:=.seq items n,slots:=sl}/\s.heap.get? b=some {cls:=.type "tuple",dict:=dd2,data:=.seq items2 n2,slots:=sl2}/\
    R (.ok (.ret (.bool (lexLt ns ms)))) s):=
 .of_wp λ prog w A R s h=>by
  obtain⟨hp,g,d,tk,os⟩:=s;obtain⟨hl,hb,h⟩:=h;have f2:=zFA;have z1:items.size=ns.length:=by rw[<-hi.length];simp
  have z2:items2.size=ms.length:=by rw[<-hj.length];simp
  wp_walk using zBl hl,zBl hb,zFj _ (λ rest b s'=>b.1=none/\s'=⟨hp,g,d,tk,os⟩/\∃(vs ws:List Value) (ns' ms':List Int),rest=vs.zip ws/\
   zBO vs ns'/\zBO ws ms'/\ns'.length+items2.size=ms'.length+items.size/\R (.ok (.ret (.bool (lexLt ns' ms')))) ⟨hp,g,d,tk,os⟩) _
  case turn=>
   rintro⟨y,x⟩ rest b s' ⟨hb',rfl,vs,ws,ns',ms',hz,hvi,hwi,hlen,hR⟩;cases hvi with
   |nil=>rw[zHH]at hz;cases hz
   |cons a t hvi'=>
    cases hwi with
    |nil=>rw[zGp]at hz;cases hz
    |cons c u hwi'=>
     rw[zBi]at hz;injection hz with hyx hrest
     injection hyx with hy hx
     subst hy hx;rw[lB]at hR;simp only[zA8]at hlen;obtain⟨e,he,hiff⟩:=aCh A.in1 ⟨hp,g,d,tk,os⟩ a t c u;refine zAB (he prog w _ _ ?_);cases e with
     |true=>
      rw[if_pos (hiff.mp rfl)]at hR;wp_walk;exact⟨rfl,rfl,_,_,_,_,hrest,hvi',hwi',by omega,hR⟩
     |false=>
      rw[if_neg (λ q=>absurd (hiff.mpr q) zA2)]at hR;have hri:=aGc A.in1 ⟨hp,g,d,tk,os⟩ a t c u prog w;wp_walk using hri;exact⟨_,rfl,by simpa using hR⟩
  case fin=>
   rintro⟨b1,b2⟩ s' ⟨hb',rfl,vs,ws,ns',ms',hz,hvi,hwi,hlen,hR⟩;simp only at hb';subst hb';have hv:lexLt ns' ms'=decide (items.size<items2.size):=by
    cases hvi with
    |nil=>
     cases hwi with
     |nil=>
      simp only[zAy]at hlen;rw[zX];exact(decide_eq_false (by omega)).symm
     |cons c u hw=>
      simp only[zAy,zA8]at hlen;rw[yI];exact(decide_eq_true (by omega)).symm
    |cons a t hv=>
     cases hwi with
     |nil=>
      simp only[zAy,zA8]at hlen;rw[yJ];exact(decide_eq_false (by omega)).symm
     |cons c u hw=>
      rw[zBi]at hz;cases hz
   rw[hv]at hR;wp_walk;exact⟨_,rfl,by simpa[zDq]using hR⟩
  case h=>
   exact⟨rfl,rfl,items.toList,items2.toList,ns,ms,rfl,hi,hj,by omega,h⟩
end
section
variable{prog:zA7}{w:World}{A:zAk}{E:Value->zAG->Prop}{s:zAG}
theorem aDi{l b:Addr}{items items2:Array Value}{ns ms:List Int}{Q:Value->zAG->Prop}(hl:IsTup s.heap l items)(hb:IsTup s.heap b items2)(hi:zBO items.toList ns)(hj:zBO items2.toList ms)
  (hu:A.units<cLine)(h:Q (.bool (lexLt ns ms)) s):wpAny (model prog w) A (zAo .Lt (.ref l) (.ref b)) Q E s:=by
 obtain⟨⟨cls,dd,data,sl⟩,ho,hc,n,hd⟩:=id hl;obtain⟨⟨cls2,dd2,data2,sl2⟩,ho2,hc2,n2,hd2⟩:=id hb;simp only at hc hd hc2 hd2;subst hc hd hc2 hd2;exact zHP (op:=.Lt) ⟨_,ho,rfl⟩ ⟨_,ho2,rfl⟩ PySem.F.slot_tuple_lt PySem.F.entry_tuple_lt (PySem.F.args_tuple_lt_2 _ _) (zH l b items items2 n n2 dd dd2 sl sl2 ns ms hi hj)
  ⟨ho,ho2,show zD7 (lexLt ns ms)≠zGU/\Q (.bool (lexLt ns ms)) s from⟨(λ x=>nomatch x),h⟩⟩ hu
theorem aKG{t b:Addr}{vs ws:List Value}{Q:Value->zAG->Prop}(ht:IsTup s.heap t vs.toArray)(hb:IsTup s.heap b ws.toArray)(hv:vs≠[])
  (h1:ws=[]->Q (.ref t) s)(h2:ws≠[]->Q (.ref s.heap.objs.size) {s with heap:=s.heap.push {cls:=.type "tuple",data:=.seq (vs++ws).toArray}})
  (hsz:vs.length+ws.length<=zAT):wpAny (model prog w) A (zCI .Add (.ref t) (.ref b)) Q E s:=by
 obtain⟨⟨cls,dd,data,sl⟩,ho,hc,n,hd⟩:=id ht;obtain⟨⟨cls2,dd2,data2,sl2⟩,ho2,hc2,n2,hd2⟩:=id hb;simp only at hc hd hc2 hd2;subst hc hd hc2 hd2;have e:vs.toArray++ws.toArray=(vs++ws).toArray:=by simp
 by_cases hw:ws=[]
 ·exact zHb ⟨_,ho,rfl⟩ ⟨_,ho2,rfl⟩ zFh zGz zDg zD6 (zDZ _ _)
   (tuple_addW1 t b vs.toArray ws.toArray n n2 dd dd2 sl sl2 (by simpa using hv) (by simp[hw])) ⟨ho,ho2,h1 hw⟩
 ·refine zHb ⟨_,ho,rfl⟩ ⟨_,ho2,rfl⟩ zFh zGz zDg zD6 (zDZ _ _)
   (tuple_addW2 t b vs.toArray ws.toArray n n2 dd dd2 sl sl2 (by simpa using hv) (by simpa using hw) (by rw[zAM,zAM];exact hsz)) ⟨ho,ho2,?_⟩
  rw[e];exact h2 hw
def sIx(n d:Nat):Option Int->Nat
 |none=>d
 |some v=>if v<0 then(v+(n:Int)).toNat else min v.toNat n
theorem aLH(n d:Nat)(hd:d<=n)(o:Option Int):sIx n d o<=n:=by
 cases o with
 |none=>exact hd
 |some v=>
  show(if v<0 then(v+(n:Int)).toNat else min v.toNat n)<=n
  by_cases hv:v<0
  ·rw[if_pos hv];omega
  ·rw[if_neg hv];exact Nat.min_le_right _ _
theorem aFE(v:Int)(n d:Nat):(if v<0 then max (v+(n:Int)) 0 else min v (n:Int))=((sIx n d (some v):Nat):Int):=by
 show(if v<0 then max (v+(n:Int)) 0 else min v (n:Int))=(((if v<0 then(v+(n:Int)).toNat else min v.toNat n):Nat):Int)
 by_cases hv:v<0
 ·simp only[if_pos hv];omega
 ·simp only[if_neg hv];omega
theorem aEL(lo hi:Option Int)(n:Nat):zB6 lo hi 1 (n:Int)=(((sIx n 0 lo:Nat):Int),((sIx n n hi:Nat):Int)):=by
 have h1:¬((1:Int)<0):=by omega
 unfold zB6;simp only[h1,if_false];refine zGr ?_ ?_
 ·cases lo with
  |none=>rfl
  |some v=>exact aFE v n 0
 ·cases hi with
  |none=>rfl
  |some v=>exact aFE v n n
theorem aD5(i j:Nat):zBF (i:Int) (j:Int) 1=j-i:=by
 unfold zBF;have h1:(1:Int)>0:=by omega
 simp only[h1,if_true,Int.ediv_one];split<;>omega
theorem xR{v:Value}{o:Option Int}{Q:Option Int->zAG->Prop}(p:zF5 v o)(h:Q o s):wpAny (model prog w) A (zIL v) Q E s:=by
 cases p with
 |none=>exact zEi h
 |int i t=>exact slicePart_int h
theorem mU{sl:Addr}{vl vu:Value}{lo hi:Option Int}{n:Nat}{Q:Int×Int×Nat->zAG->Prop}(hs:s.heap.IsSliceOf sl vl vu .none)(pl:zF5 vl lo)(pu:zF5 vu hi)
  (h:Q (((sIx n 0 lo:Nat):Int),1,sIx n n hi-sIx n 0 lo) s):wpAny (model prog w) A (zCJ (.ref sl) (pure (n:Int))) Q E s:=by
 obtain⟨os,hos,hcs,hds⟩:=id hs;unfold zCJ zER;refine zAB (zAB (zCS hos hds (x:=vl) rfl (zAB (zCS hos hds (x:=vu) rfl (zAB (zCS hos hds (x:=.none) rfl (zAE ?_)))))));refine zAB (zEi ?_);show wpAny _ _ (if ((1:Int)==0)=true then _ else _) _ _ s;rw[if_neg (by decide)];refine zAB (xR pl (zAB (xR pu (zAB (zAE ?_)))));show wpAny _ _ (match zB6 lo hi 1 (n:Int)with|(lo,hi)=>pure (lo,(1:Int),zBF lo hi 1)) _ _ s;rw[aEL lo hi n];show wpAny _ _ (pure (((sIx n 0 lo:Nat):Int),(1:Int),zBF ((sIx n 0 lo:Nat):Int) ((sIx n n hi:Nat):Int) 1)) _ _ s;rw[aD5];exact zAE h
theorem aGr(xs:Array Value)(i k:Nat):((zAc k).filterMap λ(m:Nat)=>xs[((i:Int)+(m:Int)*1).toNat]?).toArray=((xs.toList.drop i).take k).toArray:=by
 have e:(λ(m:Nat)=>xs[((i:Int)+(m:Int)*1).toNat]?)=λ m=>xs[i+m]?:=by
  funext m
  have:((i:Int)+(m:Int)*1).toNat=i+m:=by omega
  rw[this]
 rw[e]
 have:=pick_run xs i k
 rw[List.filterMap_map]at this;have e2:((λ x=>xs[x]?)∘λ x=>i+x)=λ m=>xs[i+m]?:=rfl
 rw[e2]at this;rw[this]
theorem tV{t sl:Addr}{items:Array Value}{vl vu:Value}{lo hi:Option Int}{Q:Value->zAG->Prop}(ht:IsTup s.heap t items)(hs:s.heap.IsSliceOf sl vl vu .none)(pl:zF5 vl lo)(pu:zF5 vu hi)
  (hw:¬(sIx items.size 0 lo=0/\sIx items.size items.size hi=items.size))
  (h:Q (.ref s.heap.objs.size) {s with heap:=s.heap.push {cls:=.type "tuple",data:=.seq ((items.toList.drop (sIx items.size 0 lo)).take (sIx items.size items.size hi-sIx items.size 0 lo)).toArray}})
  (hsz:items.size<=zAT):wpAny (model prog w) A (zDn (.ref t) (.ref sl)) Q E s:=by
 have htake:sizeOk (.seq ((items.toList.drop (sIx items.size 0 lo)).take (sIx items.size items.size hi-sIx items.size 0 lo)).toArray):=by
  show((items.toList.drop (sIx items.size 0 lo)).take (sIx items.size items.size hi-sIx items.size 0 lo)).toArray.size<=zAT
  rw[zAM,zBQ,zCL,zA0];omega
 have hj:sIx items.size items.size hi<=items.size:=aLH _ _ (zAO _) hi;obtain⟨os,hos,hcs,hds⟩:=id hs;have hTs:s.TypeIs (.ref sl) "slice":=⟨os,hos,hcs⟩;unfold zDn
 try with_reducible refine zBj ?_
 first|refine zAB (zAE ?_)|skip
 refine zAB (zF1 ht.typeIs (by decide) ?_);refine zAB (zBV (name:=zCj "__getitem__") ht.typeIs zAq
  (zB1 zAq ht.typeIs zEr ?_ (zFD _ _)))
 show wpAny _ _ (zCx (.ref t)>>=_) _ _ s;refine zAB (zHA ht ?_);refine zAB (zCt hTs ?_);rw[if_pos (by decide)];refine zAB (mU hs pl pu ?_);have hno:¬((((sIx items.size 0 lo:Nat):Int)==0&&(1:Int)==1&&(sIx items.size items.size hi-sIx items.size 0 lo)==items.size)=true):=by
  intro q;rw[zAN,zAN]at q;have q1:((sIx items.size 0 lo:Nat):Int)=0:=zEU q.1.1;have q2:sIx items.size items.size hi-sIx items.size 0 lo=items.size:=zEU q.2;exact hw ⟨by omega,by omega⟩
 show wpAny _ _ (if (((sIx items.size 0 lo:Nat):Int)==0&&(1:Int)==1&&(sIx items.size items.size hi-sIx items.size 0 lo)==items.size)=true then _ else _) _ _ s;rw[if_neg hno,aGr]
 first
  |exact zAB (m:=zAs _) (zAg (zAE ⟨_,rfl,zAE h⟩) htake)
  |exact zAB (m:=zAs _) (zAg (zAB (zAE (zAE ⟨_,rfl,zAE h⟩))) htake)
  |exact zAB (zAB (m:=zAs _) (zAg (zAE (zAE ⟨_,rfl,zAE h⟩)) htake))
  |exact zAB (zAB (m:=zAs _) (zAg (zAE ⟨_,rfl,zAE h⟩) htake))
end
end HT
namespace L2
open PySem PySem.Spec PyProof.Rows
abbrev TO:=St->Hp->(Option Int->Hp->Prop)->Prop
def PO(X:Cx)(e:Option Expr)(t:TO):Prop:=
 ∀(pins:List (Addr×Obj)) (s:zAG) (σ:St) (H:Hp) (Q:Option Int->Hp->Prop),Inv X pins σ H s->t σ H Q->
  wpAny (model X.prog X.w) X.A (evalPart e X.env) (λ u s'=>∃o H',Inv X pins σ H' s'/\zF5 u o/\Q o H') X.xe s
def aI4:TO:=λ _ H Q=>Q none H
def aMo(t:TE):TO:=λ σ H Q=>t σ H λ x H1=>∃i,x= .int i/\Q (some i) H1
theorem intsAre_of{ns:List Int}:∀{us:List Value},Vals (ns.map V.int) us->zBO us ns:=by
 induction ns with
 |nil=>intro us r;rw[zEl]at r;cases r;exact .nil
 |cons n ns ih=>
  intro us r;rw[zAH]at r;cases r with
  |cons r1 r2=>
   obtain⟨t,e⟩:=r1;subst e;exact .cons n t (ih r2)
section
variable{X:Cx}{e:Expr}{te:TE}{lo hi:Option Expr}{tl th:TO}{pos p2:Pos}
theorem aJD:PO X none aI4:=by
 intro pins s σ H Q I h;rw[zGx];exact zAE ⟨none,H,I,.none,h⟩
theorem aJC(h:PE X e te):PO X (some e) (aMo te):=by
 intro pins s σ H Q I hw;rw[evalPart_some];refine thn (h pins s σ H _ I hw) λ u s1 ⟨x,H1,I1,r1,q1⟩=>?_
 obtain⟨i,rfl,q⟩:=q1;obtain⟨t,rfl⟩:=r1;exact⟨some i,H1,I1,.int i t,q⟩
def SlR(X:Cx)(r:V->Option Int->Option Int->Hp->VK->Prop):Prop:=
 ∀(pins:List (Addr×Obj)) (s:zAG) (σ:St) (H:Hp) (x:V) (v vl vu:Value) (lo hi:Option Int) (sl:Addr) (Q:VK),Inv X pins σ H s->RelV x v->s.heap.IsSliceOf sl vl vu .none->zF5 vl lo->zF5 vu hi->r x lo hi H Q->
  ∃T id,zD3 (.type T) "__getitem__"=pure (some (.builtin id))/\s.TypeIs v T/\wpAny (model X.prog X.w) X.A (zDn v (.ref sl)) (EP X pins σ Q) X.xe s
theorem SlR.or{r r':V->Option Int->Option Int->Hp->VK->Prop}(h:SlR X r)(h':SlR X r'):SlR X (λ x lo hi H Q=>r x lo hi H Q\/r' x lo hi H Q):=by
 intro pins s σ H x v vl vu lo hi sl Q I rx hs pl pu q;rcases q with q|q
 ·exact h pins s σ H x v vl vu lo hi sl Q I rx hs pl pu q
 ·exact h' pins s σ H x v vl vu lo hi sl Q I rx hs pl pu q
def tSl(r:V->Option Int->Option Int->Hp->VK->Prop)(te:TE)(tl th:TO):TE:=λ σ H Q=>te σ H λ x H1=>tl σ H1 λ l H2=>th σ H2 λ u H3=>r x l u H3 Q
theorem aGt{r:V->Option Int->Option Int->Hp->VK->Prop}(hr:SlR X r)(he:PE X e te)(hl:PO X lo tl)(hu:PO X hi th):PE X (.Subscript e (.Slice lo hi none p2) pos) (tSl r te tl th):=by
 intro pins s σ H Q I h;refine zGg (thn (he pins s σ H _ I h) λ v s1 ⟨x,H1,I1,r1,q1⟩=>?_);refine wpAny_Slice (thn (hl pins s1 σ H1 _ I1 q1) λ vl s2 ⟨l,H2,I2,pl,q2⟩=>thn (hu pins s2 σ H2 _ I2 q2) λ vu s3 ⟨u,H3,I3,pu,q3⟩=>?_);rw[zGx];refine zAE ?_;have I4:Inv X pins σ H3 {s3 with heap:=s3.heap.push {cls:=.type "slice",data:=.fields #[vl,vu,.none]}}:=I3.kept (t':=s3.toks) λ b ob q=>zAD _ q
 obtain⟨T,id,hT,ht,hg⟩:=hr pins {s3 with heap:=s3.heap.push {cls:=.type "slice",data:=.fields #[vl,vu,.none]}} σ H3 x v vl vu l u s3.heap.objs.size Q I4 r1 (zFB ..) pl pu q3;show wpAny (model X.prog X.w) X.A (zFH e (.Slice lo hi none p2) v (.ref s3.heap.objs.size)) (EP X pins σ Q) X.xe {s3 with heap:=s3.heap.push {cls:=.type "slice",data:=.fields #[vl,vu,.none]}};exact tail_any (ops:=[.ref s3.heap.objs.size,v]) ht hT hg (by with_unfolding_all rfl)
def yx(xs:List V)(lo hi:Option Int):List V:=(xs.drop (HT.sIx xs.length 0 lo)).take (HT.sIx xs.length xs.length hi-HT.sIx xs.length 0 lo)
theorem v8(xs:List V)(lo hi:Option Int):(yx xs lo hi).length<=xs.length:=by
 unfold yx;rw[zBQ,zCL];omega
def aIu(K:zAA):R2:=λ x y H Q=>∃a b ns ms,x= .ref a/\y= .ref b/\SqT K H a (ns.map V.int)/\SqT K H b (ms.map V.int)/\Q (.bl (HT.lexLt ns ms)) H
theorem aLn(hu:X.A.units<cLine):OpR X (zAo .Lt) (aIu X.K):=by
 intro pins s σ H x y v u Q I rx ry h;obtain⟨a,b,ns,ms,rfl,rfl,ha,hb,q⟩:=h;cases rx;cases ry;obtain⟨its,r1,p1,_⟩:=I.tuple ha;obtain⟨its2,r2,p2,_⟩:=I.tuple hb;have i1:zBO its.toArray.toList ns:=intsAre_of r1;have i2:zBO its2.toArray.toList ms:=intsAre_of r2;exact HT.aDi p1 p2 i1 i2 hu ⟨.bl (HT.lexLt ns ms),H,I,rfl,q⟩
def aNJ(K:zAA):R2:=λ x y H Q=>∃a b xs ys,x= .ref a/\y= .ref b/\SqT K H a xs/\SqT K H b ys/\xs≠[]/\xs.length+ys.length<=zAT/\
 (ys=[]->Q (.ref a) H)/\(ys≠[]->∀p,H p=none->Q (.ref p) (upd H p (.tup (xs++ys))))
theorem Vals.nil_iff{xs:List V}{us:List Value}(r:Vals xs us):us=[]↔xs=[]:=by
 cases r with
 |nil=>simp
 |cons _ _=>simp
theorem aJ0:OpR X (zCI .Add) (aNJ X.K):=by
 intro pins s σ H x y v u Q I rx ry h;obtain⟨a,b,xs,ys,rfl,rfl,ha,hb,hx,hz,q1,q2⟩:=h;cases rx;cases ry;obtain⟨its,r1,p1,_⟩:=I.tuple ha;obtain⟨its2,r2,p2,_⟩:=I.tuple hb;refine HT.aKG p1 p2 (λ z=>hx (r1.nil_iff.mp z)) (λ z=>⟨.ref a,H,I,rfl,q1 (r2.nil_iff.mp z)⟩) (λ z=>?_) (by rw[<-r1.length,<-r2.length];exact hz);refine⟨.ref s.heap.objs.size,_,I.laid (t':=s.toks) (o:=.tup (xs++ys)) (λ b ob q=>zAD _ q) (zAO _) ?_,rfl,q2 (λ w=>z (r2.nil_iff.mpr w)) _ (I.hok.fresh (zAO _))⟩;exact⟨⟨by rw[zAX];exact hz,NoD.push _⟩,_,r1.append r2,zFu _ _⟩
end
def ixN(n:Nat)(i:Int):Option Nat:=if 0<=i then(if i<n then some i.toNat else none)else if -(n:Int)<=i then some (i+n).toNat else none
def atI{α:Type}(xs:List α)(i:Int):Option α:=(ixN xs.length i).bind λ j=>xs[j]?
theorem aJf{n:Nat}{i:Int}{j:Nat}(h:ixN n i=some j):seqIndex? i n=some j/\j<n/\-(n:Int)<=i/\i<n:=by
 unfold ixN at h;by_cases h0:0<=i
 ·rw[if_pos h0]at h
  by_cases h1:i<n
  ·rw[if_pos h1]at h
   have e:i.toNat=j:=zAr h;exact⟨by rw[seqIndex_of h0 h1,e],by omega,by omega,h1⟩
  ·rw[if_neg h1]at h;cases h
 ·rw[if_neg h0]at h
  by_cases h1: -(n:Int)<=i
  ·rw[if_pos h1]at h
   have e:(i+n).toNat=j:=zAr h;exact⟨by rw[seqIndex_neg (by omega) h1,e],by omega,h1,by omega⟩
  ·rw[if_neg h1]at h;cases h
theorem aBf{α:Type}{xs:List α}{i:Int}{v:α}(h:atI xs i=some v):∃j,seqIndex? i xs.length=some j/\xs[j]? =some v/\j<xs.length/\-(xs.length:Int)<=i/\i<xs.length:=by
 unfold atI at h;cases e:ixN xs.length i with
 |none=>rw[e]at h;cases h
 |some j=>
  rw[e]at h;obtain⟨h1,h2,h3,h4⟩:=aJf e;exact⟨j,h1,h,h2,h3,h4⟩
def wg(b:Expr):Prop:=∀o i,zGG b false o i=operate [o,i] (zDn o i)
def IxR(X:Cx)(r:R2):Prop:=
 ∀(value slice:Expr) (pins:List (Addr×Obj)) (s:zAG) (σ:St) (H:Hp) (x y:V) (v u:Value) (Q:VK),Inv X pins σ H s->RelV x v->RelV y u->r x y H Q->
  zGG slice false v u=operate [v,u] (zDn v u)->wpAny (model X.prog X.w) X.A (zFH value slice v u) (EP X pins σ Q) X.xe s
def MtR(X:Cx)(id:String)(r:V->List V->Hp->VK->Prop):Prop:=
 ∀(pins:List (Addr×Obj)) (s:zAG) (σ:St) (H:Hp) (x:V) (xs:List V) (v:Value) (us:List Value) (Q:VK),Inv X pins σ H s->RelV x v->Vals xs us->r x xs H Q->
  wpAny (model X.prog X.w) X.A (call (.builtin id) (v::us)) (EP X pins σ Q) X.xe s
section
variable{X:Cx}{a b:Expr}{ta tb:TE}{pos:Pos}
theorem IxR.or{r r':R2}(h:IxR X r)(h':IxR X r'):IxR X (λ x y H Q=>r x y H Q\/r' x y H Q):=by
 intro value slice pins s σ H x y v u Q I rx ry q hs;rcases q with q|q
 ·exact h value slice pins s σ H x y v u Q I rx ry q hs
 ·exact h' value slice pins s σ H x y v u Q I rx ry q hs
theorem aK9{r:R2}(hr:IxR X r)(ha:PE X a ta)(hb:PE X b tb)(hs:wg b):PE X (.Subscript a b pos) (tOp r ta tb):=by
 intro pins s σ H Q I h;exact zGg (aM9 ha hb I h λ v u s2 x y H2 I2 rx ry q=>hr a b pins s2 σ H2 x y v u Q I2 rx ry q (hs _ _))
def aLO(K:zAA):R2:=λ x y H Q=>∃p xs i v,x= .ref p/\y= .int i/\SqL K H p xs/\atI xs i=some v/\Q v H
def aNH(K:zAA):R2:=λ x y H Q=>∃p xs i v,x= .ref p/\y= .int i/\SqT K H p xs/\atI xs i=some v/\Q v H
def aNI:R2:=λ x y H Q=>∃z i c,x= .str z/\y= .int i/\z.length<=zAT/\atI z.cps.toList i=some c/\Q (.str ⟨#[c]⟩) H
theorem aEs:IxR X (aLO X.K):=by
 intro value slice pins s σ H x y v u Q I rx ry h hs;obtain⟨p,xs,i,z,rfl,rfl,hq,he,q⟩:=h;cases rx;obtain⟨t,rfl⟩:=ry;obtain⟨its,r,pl,hz⟩:=I.list hq;obtain⟨j,h1,h2,h3,h4,h5⟩:=aBf he;obtain⟨w,ew,rw'⟩:=r.get h2;have hl:=r.length;have hn:=yH;have fin:EP X pins σ Q w s:=⟨z,H,I,rw',q⟩;by_cases h0:0<=i
 ·have hj:i.toNat=j:=by
   rw[seqIndex_of h0 h5]at h1;exact zAr h1
  exact item_listR pl.isList h0 (by omega) (by rw[hj];simpa using ew) fin hs
 ·have hj:(i+(its.toArray.size:Int)).toNat=j:=by
   rw[seqIndex_neg (by omega) h4]at h1;rw[zAM,<-hl];exact zAr h1
  exact zHQ (x:=w) pl.isList.typeIs zIY.lookup
   (wpAny_getItem_list_neg (Q:=λ r s'=>r=w/\EP X pins σ Q r s') pl.isList (by omega) (by rw[zAM]<;>omega) (by omega) (by rw[hj];simpa using ew) ⟨rfl,fin⟩) hs
theorem aML:IxR X (aNH X.K):=by
 intro value slice pins s σ H x y v u Q I rx ry h hs;obtain⟨p,xs,i,z,rfl,rfl,hq,he,q⟩:=h;cases rx;obtain⟨t,rfl⟩:=ry;obtain⟨its,r,pl,hz⟩:=I.tuple hq;obtain⟨j,h1,h2,h3,h4,h5⟩:=aBf he;obtain⟨w,ew,rw'⟩:=r.get h2;have hl:=r.length;have hn:=yH;have fin:EP X pins σ Q w s:=⟨z,H,I,rw',q⟩;exact zHQ (x:=w) pl.typeIs slot_tuple_getitem.lookup
  (getItem_tuple (j:=j) (Q:=λ r s'=>r=w/\EP X pins σ Q r s') pl (by omega) (by omega) (by rw[zAM,<-hl];exact h1) (by simpa using ew) ⟨rfl,fin⟩) hs
theorem aMM:IxR X aNI:=by
 intro value slice pins s σ H x y v u Q I rx ry h hs;obtain⟨z,i,c,rfl,rfl,hz,he,q⟩:=h;obtain⟨t,rfl⟩:=rx;obtain⟨t',rfl⟩:=ry;obtain⟨j,h1,h2,h3,h4,h5⟩:=aBf he;have hl:z.cps.toList.length=z.length:=by simp[Str.length]
 rw[hl]at h1 h4 h5;have hn:=yH;exact tail_any (typeIs_str s z t) slot_str_getitem.lookup (getItem_str (c:=c) (by
  have e1:decide (i < -(2^63:Int))=false:=decide_eq_false (by omega);have e2:decide (i ≥ 2^63)=false:=decide_eq_false (by omega);rw[e1,e2,Bool.or_false]) (by rw[h1];simpa using h2) ⟨.str ⟨#[c]⟩,H,I.tok _,⟨_,rfl⟩,q⟩) hs
def rIx(K:zAA):R2:=λ x y H Q=>aLO K x y H Q\/aNH K x y H Q\/aNI x y H Q
theorem aMN:IxR X (rIx X.K):=aEs.or (aML.or aMM)
theorem aAj(lo hi:Option Int)(n:Nat):(zDa lo hi none n).1=((HT.sIx n 0 lo:Nat):Int)/\(zDa lo hi none n).2.1=((HT.sIx n n hi:Nat):Int)/\(zDa lo hi none n).2.2=1:=by
 refine⟨?_,?_,rfl⟩
 ·cases lo with
  |none=>simp[zDa,HT.sIx]
  |some i=>
   simp only[zDa,HT.sIx,zGq,show(1:Int)>0 by decide,if_true];by_cases h:i<0
   ·simp only[h,if_true]<;>omega
   ·simp only[h,if_false]<;>omega
 ·cases hi with
  |none=>simp[zDa,HT.sIx]
  |some i=>
   simp only[zDa,HT.sIx,zGq,show(1:Int)>0 by decide,if_true];by_cases h:i<0
   ·simp only[h,if_true]<;>omega
   ·simp only[h,if_false]<;>omega
theorem zM(its:List Value)(lo hi:Option Int):slicePick its.toArray lo hi none=((its.drop (HT.sIx its.length 0 lo)).take (HT.sIx its.length its.length hi-HT.sIx its.length 0 lo)).toArray:=by
 obtain⟨h1,h2,h3⟩:=aAj lo hi its.toArray.size;unfold slicePick;rw[h1,h2,h3];simp only[sliceRange_one,pick_run,zAM]<;>rfl
def aNF(K:zAA):V->Option Int->Option Int->Hp->VK->Prop:=λ x lo hi H Q=>∃a xs,x= .ref a/\SqL K H a xs/\∀p,H p=none->Q (.ref p) (upd H p (.lst (yx xs lo hi)))
theorem aIe:SlR X (aNF X.K):=by
 intro pins s σ H x v vl vu lo hi sl Q I rx hs pl pu h;obtain⟨a,xs,rfl,hx,q⟩:=h;cases rx;obtain⟨its,r,ht,hz⟩:=I.list hx;have hlen:=r.length;refine⟨"list",_,zIY.lookup,ht.isList.typeIs,?_⟩;refine wpAny_getItem_list_slice ht.isList hs pl pu .none (by simp) ?_ (by rw[zAM]<;>omega);rw[zM,<-hlen];refine⟨.ref s.heap.objs.size,_,I.laid (t':=s.toks) (o:=.lst (yx xs lo hi)) (λ b ob q=>zAD _ q) (zAO _) ?_,rfl,q _ (I.hok.fresh (zAO _))⟩;exact⟨zAf (v8 xs lo hi) hz,_,0,(r.drop (HT.sIx xs.length 0 lo)).take (HT.sIx xs.length xs.length hi-HT.sIx xs.length 0 lo),zAK _ rfl⟩
theorem uI:cX X (.builtin "len") (λ xs H Q=>∃p ys,xs=[.ref p]/\(SqL X.K H p ys\/SqT X.K H p ys)/\Q (.int ys.length) H):=by
 intro pins s σ H xs us Q I r h;obtain⟨p,ys,rfl,hq,q⟩:=h;obtain⟨u,rfl,rx⟩:=vals1 r;cases rx;have hn:=yH;rcases hq with hq|hq
 ·obtain⟨its,r',pl,hz⟩:=I.list hq
  have hlen:=r'.length;exact Calls.call_len_list pl.isList (by simp only[zAM]<;>omega) ⟨.int ys.length,H,I.tok _,⟨s.toks+1,by rw[zAM,hlen]⟩,q⟩
 ·obtain⟨its,r',pl,hz⟩:=I.tuple hq
  have hlen:=r'.length;exact len_tuple pl (by simp only[zAM]<;>omega) ⟨.int ys.length,H,I.tok _,⟨s.toks+1,by rw[zAM,hlen]⟩,q⟩
theorem cX.or{f:Value}{r r':List V->Hp->VK->Prop}(h:cX X f r)(h':cX X f r'):cX X f (λ xs H Q=>r xs H Q\/r' xs H Q):=by
 intro pins s σ H xs us Q I rs q;rcases q with q|q
 ·exact h pins s σ H xs us Q I rs q
 ·exact h' pins s σ H xs us Q I rs q
theorem aB8:cX X (.type "list") (λ xs H Q=>∃p ys,xs=[.ref p]/\(SqL X.K H p ys\/SqT X.K H p ys)/\∀l,H l=none->Q (.ref l) (upd H l (.lst ys))):=by
 intro pins s σ H xs us Q I r h;obtain⟨p,ys,rfl,hq,q⟩:=h;obtain⟨u,rfl,rx⟩:=vals1 r;cases rx;have fin:∀(its:List Value),Vals ys its->ys.length<=zAT->∀(h':Heap) (c':Nat),(∀b o',s.heap.get? b=some o'->h'.get? b=some o')->
   h'.get? s.heap.objs.size=some {cls:=.type "list",dict:=none,data:=.seq its.toArray c',slots:=#[]}->EP X pins σ Q (.ref s.heap.objs.size) {s with heap:=h'}:=λ its r' hz h' c' kp e=>
  ⟨.ref s.heap.objs.size,_,I.laid (t':=s.toks) kp (zAO _) (show dN X.prog X.w _ h' _ (.lst ys)from⟨hz,its,c',r',e⟩),rfl,q _ (I.hok.fresh (zAO _))⟩
 rcases hq with hq|hq
 ·obtain⟨its,r',pl,hz⟩:=I.list hq
  have hlen:=r'.length;obtain⟨o,ho,hc,n,hd⟩:=pl.isList;exact call_list_seq p (.inl rfl) ho hc hd (λ h' c' kp e=>fin its r' hz h' c' kp e) (by simp only[zAM]<;>omega)
 ·obtain⟨its,r',pl,hz⟩:=I.tuple hq
  have hlen:=r'.length;obtain⟨o,ho,hc,n,hd⟩:=pl;exact call_list_seq p (.inr rfl) ho hc hd (λ h' c' kp e=>fin its r' hz h' c' kp e) (by simp only[zAM]<;>omega)
theorem zf:cX X (.type "tuple") (λ xs H Q=>∃p ys,xs=[.ref p]/\((SqL X.K H p ys/\∀l,H l=none->Q (.ref l) (upd H l (.tup ys)))\/(SqT X.K H p ys/\Q (.ref p) H))):=by
 intro pins s σ H xs us Q I r h;obtain⟨p,ys,rfl,h⟩:=h;obtain⟨u,rfl,rx⟩:=vals1 r;cases rx;rcases h with ⟨hq,q⟩|⟨hq,q⟩
 ·obtain⟨its,r',pl,hz⟩:=I.list hq
  have hlen:=r'.length;refine call_tuple_list pl.isList (λ h' kp=>?_) (by simp only[zAM]<;>omega);have I1:Inv X pins σ H {s with heap:=h'}:=I.kept (t':=s.toks) kp;have I2:Inv X pins σ (upd H h'.objs.size (.tup ys)) {s with heap:=h'.push {cls:=.type "tuple",data:=.seq its.toArray}}:=
   I1.laid (t':=s.toks) (λ b o e=>zAD _ e) (zAO _) (show dN X.prog X.w _ _ _ (.tup ys)from⟨⟨hz,NoD.push _⟩,its,r',zFu _ _⟩)
  exact⟨.ref h'.objs.size,_,I2,rfl,q _ (I1.hok.fresh (zAO _))⟩
 ·obtain⟨its,r',pl,hz⟩:=I.tuple hq
  exact call_tuple_same pl ⟨.ref p,H,I,rfl,q⟩
def tyV(K:zAA)(T:String)(x:V)(H:Hp):Prop:=match x with
 | .str _=>T="str"
 | .int _=>T="int"
 | .ref p=>(T="list"/\∃xs,SqL K H p xs)\/(T="tuple"/\∃o,K.lookup p=some o/\o.cls= .type "tuple"/\o.dict=none)\/
   (T="dict"/\((∃kvs,H p=some (.dK kvs))\/∃kvs,H p=some (.dT kvs)))\/(T="set"/\∃S n,H p=some (.set S n))
 |_=>False
theorem aGD{pins:List (Addr×Obj)}{σ:St}{H:Hp}{s:zAG}{T:String}{x:V}{v:Value}(I:Inv X pins σ H s)(r:RelV x v)(ty:tyV X.K T x H):
  s.TypeIs v T/\∀a,v= .ref a->∃ob,s.heap.get? a=some ob/\ob.dict=none:=by
 cases x with
 |str z=>
  obtain⟨t,rfl⟩:=r;cases (show T="str" from ty);exact⟨typeIs_str s z t,λ _ e=>nomatch e⟩
 |int i=>
  obtain⟨t,rfl⟩:=r;cases (show T="int" from ty);exact⟨zIZ s i t,λ _ e=>nomatch e⟩
 |ref p=>
  cases r;rcases ty with ⟨rfl,xs,hq⟩|⟨rfl,o,hk,hc,hd⟩|⟨rfl,hk⟩|⟨rfl,S,n,hk⟩
  ·obtain⟨its,_,pl,_⟩:=I.list hq
   refine⟨pl.isList.typeIs,λ a e=>?_⟩;cases e;obtain⟨o,n,e,c,hd,_⟩:=pl;exact⟨o,e,hd⟩
  ·refine⟨⟨o,I.kIn p o hk,hc⟩,λ a e=>?_⟩
   cases e;exact⟨o,I.kIn _ o hk,hd⟩
  ·have z:∃o,s.heap.get? p=some o/\o.ExactDict:=by
    rcases hk with ⟨kvs,hk⟩|⟨kvs,hk⟩
    ·obtain⟨_,_,_,_,o,_,_,e,ex,_⟩:=I.hok p _ hk
     exact⟨o,e,ex⟩
    ·obtain⟨_,_,_,_,o,_,_,e,ex,_⟩:=I.hok p _ hk
     exact⟨o,e,ex⟩
   obtain⟨o,e,ex⟩:=z;refine⟨⟨o,e,ex.1⟩,λ a e2=>?_⟩;cases e2;exact⟨o,e,ex.2.1⟩
  ·obtain⟨o,_,_,_,e,ex,_⟩:=I.hok p _ hk
   refine⟨⟨o,e,ex.1⟩,λ a e2=>?_⟩;cases e2;exact⟨o,e,ex.2.1⟩
 |_=>exact zAS ty
def aKv(K:zAA)(T:String)(r:V->List V->Hp->VK->Prop)(to:TE):TE:=λ σ H Q=>to σ H λ x H1=>tyV K T x H1/\r x [] H1 Q
def tBM(K:zAA)(T:String)(r:V->List V->Hp->VK->Prop)(to:TE)(t:TA):TE:=λ σ H Q=>to σ H λ x H1=>tyV K T x H1/\t σ H1 λ xs H2=>r x xs H2 Q
variable{o e:Expr}{es:List Expr}{to:TE}{t:TA}{name:Str}{apos cpos:Pos}{T id:String}{r:V->List V->Hp->VK->Prop}
theorem aLa(pa:PlainAttrs T)(slot:Slot T name id)(hty:typeOf (.builtin id)=pure (.type "method_descriptor"))(hm:MtR X id r)(ho:PE X o to)
  (hbase:zCy o name X.env (eval o X.env)=eval o X.env:=by rfl)(hline:(apos.endLine==cpos.line)=true:=by rfl):PE X (.Call (.Attribute o name apos) [] [] cpos) (aKv X.K T r to):=by
 intro pins s σ H Q I h;refine wpAny_Call_method0_late hbase hline (thn (ho pins s σ H _ I h) λ v s1 ⟨x,H1,I1,r1,ty,q1⟩=>?_);obtain⟨h1,h2⟩:=aGD I1 r1 ty;exact⟨T,id,pa,slot,hty,h1,h2,zFp rfl (PySem.evalArgs_none (hm pins s1 σ H1 x [] v [] Q I1 r1 .nil q1))⟩
theorem aEb(pa:PlainAttrs T)(slot:Slot T name id)(hty:typeOf (.builtin id)=pure (.type "method_descriptor"))(hm:MtR X id r)(ho:PE X o to)(ha:PA X (e::es) t)
  (hbase:zCy o name X.env (eval o X.env)=eval o X.env:=by rfl)
  (hfew:((zCV cpos (zAW (e::es) X.env)).all (λ x=>!x.1)&&(zFE cpos (zD9 [] X.env)).all (λ x=>x.1.isSome)
   &&decide ((e::es).length+([]:List zDT).length+(if ([]:List zDT).isEmpty then 0 else 1)<30))=true:=by rfl)
  (hline:(apos.endLine==cpos.line)=true:=by rfl)(hs:zAW (e::es) X.env=(false,eval e X.env)::zAW es X.env:=by rfl)(hplain:(zCV cpos (zAW es X.env)).any (·.1)=false:=by rfl):
  PE X (.Call (.Attribute o name apos) (e::es) [] cpos) (tBM X.K T r to t):=by
 intro pins s σ H Q I h;refine wpAny_Call_method_late hbase hfew hline rfl (thn (ho pins s σ H _ I h) λ v s1 ⟨x,H1,I1,r1,ty,q1⟩=>?_);obtain⟨h1,h2⟩:=aGD I1 r1 ty;refine⟨T,id,pa,slot,hty,h1,h2,?_⟩;have hA:=ha cpos pins s1 σ H1 _ I1 q1;rw[hs]at hA ⊢;refine zFp (by show(false||(zCV cpos (zAW es X.env)).any (·.1))=false;rw[hplain]<;>rfl) (zGK ?_);exact thn hA λ us s2 ⟨vs,H2,I2,r2,q2⟩=>hm pins s2 σ H2 x vs v us Q I2 r1 r2 q2
end
def MtM(X:Cx)(id:String)(r:V->List V->Hp->VK->Prop):Prop:=
 ∀(pins:List (Addr×Obj)) (s:zAG) (σ:St) (H:Hp) (x:V) (xs:List V) (v:Value) (us:List Value) (Q:VK),Inv X pins σ H s->RelV x v->Vals xs us->r x xs H Q->
  wpAny (model X.prog X.w) X.A (call (.builtin id) (v::us)) (EP X pins σ Q) X.xe s
theorem Vals.one:∀{x:V} {us:List Value},Vals [x] us->∃u,us=[u]/\RelV x u
 |_,_,.cons r .nil=>⟨_,rfl,r⟩
theorem Vals.reverse{xs:List V}{us:List Value}(h:Vals xs us):Vals xs.reverse us.reverse:=by
 induction h with
 |nil=>exact .nil
 |cons r t ih=>rw[zCw,zCw];exact Vals.append ih (.cons r .nil)
theorem Vals.rep{xs:List V}{us:List Value}(h:Vals xs us):∀k:Nat,Vals (zA1 k xs).flatten (zA1 k us).flatten
 |0=>.nil
 |k+1=>by
  rw[zBd,zBd,zAi,zAi];exact Vals.append h (Vals.rep h k)
theorem foldl_rep(its:List Value):∀(k:Nat) (acc:List Value),
  zHF (λ x1 x2=>x1++x2) acc.toArray (zA1 k its.toArray)=(acc++(zA1 k its).flatten).toArray
 |0,acc=>by simp
 |k+1,acc=>by
  have e:acc.toArray++its.toArray=(acc++its).toArray:=by simp
  have e2:(acc++its)++(zA1 k its).flatten=acc++(zA1 (k+1) its).flatten:=by
   rw[zBd,zAi,zBc]
  rw[<-e2,<-foldl_rep its k (acc++its),<-e,zBd,zBp]
section
variable{X:Cx}{pins:List (Addr×Obj)}{σ:St}{H:Hp}{s:zAG}{l b:Addr}{xs ys zs:List V}
theorem Inv.lset{its its':List Value}{n:Nat}{f:Array Value->Array Value}{t':Nat}(I:Inv X pins σ H s)(hH:H l=some (.lst xs))
  (e:s.heap.get? l=some {cls:=.type "list",data:=.seq its.toArray n})(hf:f its.toArray=its'.toArray)(hv:Vals ys its')(hz:ys.length<=zAT):
  Inv X pins σ (upd H l (.lst ys)) {s with heap:=s.heap.update l (zC4 f),toks:=t'}:=by
 have q:=PySem.IsL.update e f;rw[hf]at q;refine I.write (x:=l) (e:=l) (by rw[hH];exact trivial) (.inl rfl) (λ b' u hb hu=>(Heap.get?_update_other s.heap (zC4 f) (zDD hb)).trans hu) ⟨_,q⟩ ?_;exact⟨hz,its',_,hv,q⟩
theorem Inv.lnew{its:List Value}{t':Nat}(I:Inv X pins σ H s)(hv:Vals ys its)(hz:ys.length<=zAT):
  Inv X pins σ (upd H s.heap.objs.size (.lst ys)) {s with heap:=s.heap.push {cls:=.type "list",data:=.seq its.toArray},toks:=t'}:=
 I.laid (λ _ _ q=>zAD _ q) (zAO _) ⟨hz,its,0,hv,zAK _ rfl⟩
theorem Inv.fresh(I:Inv X pins σ H s):H s.heap.objs.size=none:=I.hok.fresh (zAO _)
theorem Inv.lstM(I:Inv X pins σ H s)(hH:H l=some (.lst xs)):xs.length<=zAT/\∃(its:List Value) (n:Nat),Vals xs its/\xs.length=its.length/\s.heap.get? l=some {cls:=.type "list",data:=.seq its.toArray n}:=by
 obtain⟨z,its,n,r,e⟩:=I.hok l _ hH;exact⟨z,its,n,r,r.length,e⟩
theorem aCL{n:Nat}(h:n<=zAT):zBu n=false:=by
 unfold zBu;exact decide_eq_false (by omega)
end
section
variable{X:Cx}
def aIw:V->List V->Hp->VK->Prop:=λ x vs H Q=>∃l xs y,x= .ref l/\vs=[y]/\H l=some (.lst xs)/\xs.length<zAT/\Q .non (upd H l (.lst (xs++[y])))
theorem uq:MtM X "list.append" aIw:=by
 intro pins s σ H x vs v us Q I rx rv h;obtain⟨l,xs,y,rfl,rfl,hH,hz,q⟩:=h;cases rx;obtain⟨u,rfl,ru⟩:=rv.one;obtain⟨z,its,n,r,hl,e⟩:=I.lstM hH;refine zE4 zDj ⟨_,e,rfl⟩ F.entry_list_append (F.args_list_append_2 _ _) (PySem.list_append l its.toArray n u (by rw[zAM];omega)) ⟨e,?_⟩;refine⟨.non,_,I.lset (its':=its++[u]) hH e (by simp) (r.append (.cons ru .nil)) ?_,rfl,q⟩;rw[zAX,List.length_singleton];omega
def aNz:R2:=λ x y H Q=>∃l b xs zs,x= .ref l/\y= .ref b/\H l=some (.lst xs)/\H b=some (.lst zs)/\xs.length+zs.length<=zAT/\∀p,H p=none->Q (.ref p) (upd H p (.lst (xs++zs)))
theorem aLv:OpR X (zCI .Add) aNz:=by
 intro pins s σ H x y v u Q I rx ry h;obtain⟨l,b,xs,zs,rfl,rfl,hH,hB,hz,q⟩:=h;cases rx;cases ry;obtain⟨z,its,n,r,hl,e⟩:=I.lstM hH;obtain⟨z2,its2,n2,r2,hl2,e2⟩:=I.lstM hB;refine PySem.P.add_list e e2 ?_ (by rw[zAM,zAM];omega);have ea:its.toArray++its2.toArray=(its++its2).toArray:=by simp
 rw[ea];exact⟨.ref _,_,I.lnew (t':=s.toks) (r.append r2) (by rw[zAX];omega),rfl,q _ I.fresh⟩
def aNG:R2:=λ x y H Q=>∃l k xs,x= .ref l/\y= .int k/\H l=some (.lst xs)/\-(2^63)<=k/\k<2^63/\xs.length*k.toNat<=zAT/\
 ∀p,H p=none->Q (.ref p) (upd H p (.lst (zA1 k.toNat xs).flatten))
theorem len_rep{α:Type}(xs:List α)(k:Nat):(zA1 k xs).flatten.length=k*xs.length:=by
 induction k with
 |zero=>simp
 |succ k ih=>rw[zBd,zAi,zAX,ih,Nat.succ_mul,Nat.add_comm]
theorem aLh:OpR X (zCI .Mult) aNG:=by
 intro pins s σ H x y v u Q I rx ry h;obtain⟨l,k,xs,rfl,rfl,hH,h1,h2,hz,q⟩:=h;cases rx;obtain⟨t,rfl⟩:=ry;obtain⟨z,its,n,r,hl,e⟩:=I.lstM hH;have hlen:its.toArray.size*k.toNat<=zAT:=by rw[zAM,<-hl];exact hz
 have hcap:¬its.toArray.size*k.toNat>(2^63-1) / 8:=by
  have:(zAT:Nat)<=(2^63-1) / 8:=by decide
  omega
 have hfit:¬(!zDB k)=true:=by
  rw[fitsIndex_both h1 h2];exact zA2
 have hlong:¬zBu (its.toArray.size*k.toNat)=true:=by
  rw[aCL hlen];exact zA2
 have hnew:zHF (λ x1 x2=>x1++x2) #[] (zA1 (if its.toArray.isEmpty=true then 0 else k.toNat) its.toArray)=(zA1 k.toNat its).flatten.toArray:=by
  have f0:∀m:Nat,zHF (λ x1 x2=>x1++x2) #[] (zA1 m its.toArray)=(zA1 m its).flatten.toArray:=λ m=>by
   have:=foldl_rep its m []
   rw[zHe]at this;exact this
  rw[f0];cases its with
  |nil=>simp
  |cons a r'=>rw[if_neg (by simp)]
 refine wpAny_binaryOp_repeat_ref (T:="list") (U:="int") (by decide) ⟨_,e,rfl⟩ (λ s'=>zIZ s' k t) noFill_list_mul F.fills_int_mul zIO repeat_list F.slot_int_index.lookup
  (zE4 zIO (zIZ s k t) F.entry_int_rmul (F.args_int_rmul_2 _ _) (int___rmul___int_list k t l its.toArray n)
   ⟨e,rfl,⟨_,e,rfl⟩,zE4 F.slot_list_mul ⟨_,e,rfl⟩ F.entry_list_mul (F.args_list_mul_2 _ _) (AutoListH.list___mul___list_int_3 l its.toArray n k t hfit hcap hlong) ⟨e,?_⟩⟩)
 rw[hnew];exact⟨.ref _,_,I.lnew (t':=s.toks) (r.rep k.toNat) (by rw[len_rep,Nat.mul_comm];exact hz),rfl,q _ I.fresh⟩
end
section
variable{prog:zA7}{w:World}{A:zAk}{E:Value->zAG->Prop}{s:zAG}
end
section
variable{X:Cx}
end
end L2
namespace Att
open PySem PySem.W PySem.Calls PyProof.Rows
theorem wF{P:Params}{h:Heap}:∀(ns:List Int) (vs:List Value),WellAll P h vs (ns.map WData.int)->zBO vs ns:=by
 intro ns;induction ns with
 |nil=>
  intro vs w;rw[zEl]at w;cases w;exact .nil
 |cons n ns ih=>
  intro vs w;rw[zAH]at w;cases w with
  |cons a b=>
   cases a;exact .cons _ _ (ih _ b)
theorem aFT{l:OpenLaw}{n:Nat}(hn:l.most=some n){P:Params}{h:Heap}{args:List WData}{vals:List Value}
  (hpre:l.row.toRowW.claim.pre args=true)(hwl:WellAll P h vals args):
  ∃a vs ns,vals=[zBG a]/\args=[WData.list (ns.map WData.int)]/\h.get? a=some {cls:=.type "list",data:=.seq vs.toArray}/\zBO vs ns/\ns.length<=n:=by
 have hsh:WShape.hasAll [] args [.list .int]=true:=(pre_splitW hpre).1;have hc:l.pre.holds [] {args:=args}=true:=(pre_splitW hpre).2;obtain⟨d,r,rfl,h1,h2⟩:=hasAllW_cons hsh;obtain rfl:=hasAllW_nil h2;obtain⟨xs,rfl,h3⟩:=hasW_list h1;obtain⟨ns,rfl⟩:=items_int h3;have hlen:ns.length<=n:=by
  unfold OpenLaw.pre at hc;have h4:(WTm.not (.lt (.lit (.int (n:Int))) (.len (.arg 0)))).holds [] {args:=[.list (ns.map .int)]}=true:=by
   have h4:=(holds_andW hc).1;rw[hn]at h4;exact h4
  have h5:=condW_of h4 (w_not (w_lt w_lit (w_len_list (w_arg rfl))));rw[zAF]at h5;refine zHh λ q=>?_
  have q':(n:Int)<((ns.length:Nat):Int):=by omega
  first
   |(rw[decide_eq_true q']at h5;exact absurd h5 (by decide))
   |(simp at h5;omega)
 cases hwl with
 |cons w1 w2=>
  cases w2;cases w1 with
  |list ho hall=>exact⟨_,_,ns,rfl,rfl,ho,wF ns _ hall,hlen⟩
theorem aFV(l:OpenLaw)(args:List WData):l.row.toRowW.claim.post args (.bool true) args=true:=
 postW_of (r:=l.row.toRowW) (X:=(true==true))
  (show WShape.has [] (.bool true) .bool=true by first|rfl|decide|simp[WShape.has,WShape.arms,WShape.armsAll])
  (show(WTm.eq .res (.lit (.bool true))).value [] {args:=args,res:=some (.bool true),after:=args}=some (.bool (true==true))from w_eq_bool (w_res rfl) w_lit) rfl
theorem aCt{l:OpenLaw}{n:Nat}{q:zA7}{loose:List Str}{XP:(Str->Option Value)->Heap->Prop}{YP:World->Heap->Prop}{d:DefRec}
  (hn:l.most=some n)(hdf:d.params.defaults=[])
  (call:∀(w:World) (s₀ s₁:zAG) (mg mb:Str->Option Value) (fa:Addr) (o:Obj) (pm cd doc:Value) (a:Addr) (vs:List Value) (ns:List Int),
   Ground q loose [] XP w s₀ mg mb s₁.heap->YP w s₁.heap->
   s₁.heap.get? fa=some o->o.data= .func (docDef d.name d.params d.body d.scope pm cd doc)->s₁.heap.CodeRec cd d.name->mg d.name=some (.ref fa)->
   s₁.heap.get? a=some {cls:=.type "list",data:=.seq vs.toArray}->zBO vs ns->ns.length<=n->s₁.gens=#[]->
   zBm (model l.prog w) zEq (.call (.ref fa) ⟨[.ref a],[]⟩) (λ r s'=>r= .ok (.ret (.bool true))/\OldK s₁.heap s'.heap/\s'.os=s₁.os/\zEQ s'.gens) s₁):
  WalkO q loose XP YP l.row.toRowW d [] (λ f vs=>zGt f vs):=by
 intro w s₀ s₁ mg mb G Y fa o pm cd doc dV kV ho hd hcd hD hmg hg args vals as hpre hlay hrd hwl hlo;obtain rfl:dV= .none:=Dflts.none hD hdf;obtain rfl:kV= .none:=Dflts.noKw hD;obtain⟨a,vs,ns,rfl,rfl,hobj,hints,hlen⟩:=aFT hn hpre hwl;refine enter_call (zCs (call w s₀ s₁ mg mb fa o pm cd doc a vs ns G Y ho (fd_plain hd) hcd hmg hobj hints hlen hg) λ r s' hq=>?_);obtain⟨rfl,h2,h3,h4⟩:=hq;exact⟨.inl ⟨.bool true,.bool true,[],rfl,λ _=>rfl,.bool true,aFV l _,λ _=>⟨zFU,λ _ hm=>(nomatch hm)⟩⟩,h2,h3,h4⟩
section
variable{prog:zA7}{w:World}{A:zAk}{E:Value->zAG->Prop}{s:zAG}{K:Frag}
theorem make_obj{R:zDr->zAG->Prop}{C fI:Addr}{rest:List Value}{kw:List (Str×Value)}
  (X:K.In s.heap)(hm:makesIn K C=true)(hi:findIn K (.ref C) "__init__"=some (some (.ref fI)))(hf:isFn K (.ref fI)=true)
  (h:zBm (model prog w) (A.under (.builtin "type.__call__" ⟨.ref C::rest,kw⟩)) (.call (.ref fI) ⟨.ref (s.heap.objs.size+1)::rest,kw⟩) (InitBack (s.heap.objs.size+1) R)
   {s with heap:=(s.heap.push emptyDict).push (instObj C s.heap.objs.size)}):zBm (model prog w) A (.call (.ref C) ⟨rest,kw⟩) R s:=by
 obtain⟨hh,g,d,t,os⟩:=s;exact make_core (makes_of X hm) (looks_findIn X hi) (λ self=>bind_fn X self (beq_iff_eq.mp hf)) (.inl rfl) h
theorem get_field{x C:Addr}{ox:Obj}{es:List DictEntry}{n:Nat}{name:Str}{expr:Bool}{v:Value}{Q:Value->zAG->Prop}
  (X:K.In s.heap)(I:zHK s.heap x ox C (some (dictOf es n)))(hg:plainGet K C name=true)(hh:hasDictIn K C=true)(ha:findIn K (.ref C) name=some none)
  (hl:getL name es=some (some v))(hv:handedIn v=true)(h:Q v {s with toks:=s.toks+1}):wpAny (model prog w) A (getAttr (.ref x) name expr) Q E s:=
 get_value X I (plainGet_of hg).1 (findObj_own hh ha rfl hl) hv h
def ledger(h:Heap)(L d:Addr):List (Addr×Obj):=(zAc h.objs.size).filterMap λ a=>if a=L\/a=d then none else(h.get? a).map λ o=>(a,o)
end
end Att
namespace L2
open PySem PySem.Spec PyProof.Rows
theorem zp:∀{vs:List Value} {ns:List Int},zBO vs ns->Vals (ns.map V.int) vs
 |_,_,.nil=>.nil
 |_,_,.cons n t h=>.cons ⟨t,rfl⟩ (zp h)
def Only(H:Hp):Prop:=∀b,H b=none\/∃o xs,H b=some (.frz o (.lst xs))
theorem aHW{P:zA7}{w:World}{K:zAA}{mg mb:Str->Option Value}{CX:CXT}{k:Nat}{fa a:Addr}{fd:zAa}{x:Str}{sp:Sp}{s₁:zAG}{vs:List Value}{ns:List Int}
  (KX:K.In s₁.heap)(hns:s₁.heap.Ns zA9 mg)(hb:s₁.heap.Ns zIW mb)(hbb:∀x:Str,x≠"__name__"->mb x=zAn x)(hlim:s₁.heap.NoLimit)(hg:s₁.gens=#[])
  (ha:s₁.heap.get? a=some {cls:=.type "list",data:=.seq vs.toArray})(hi:zBO vs ns)(hl:ns.length<=zAT)(hr:lU k zEq)
  (F:∀base:Heap,K.In base->base.Ns zA9 mg->cj P w K mg base CX k fa fd [x] sp)(hbind:∀(s:zAG) (u:Value),zFT s fd ⟨[u],[]⟩ [(x,u)])
  (hsp:∀H:Hp,Only H->SqL K H a (ns.map V.int)->sp [.ref a] H (λ v _=>v= .bl true) λ _ _ _=>False)
  (hCX:∀H e s',CX [] H s₁ (λ _ _ _=>False) e s'->False):
  zBm (model P w) zEq (.call (.ref fa) ⟨[.ref a],[]⟩) (λ r s'=>r= .ok (.ret (.bool true))/\OldK s₁.heap s'.heap/\s'.os=s₁.os/\zEQ s'.gens) s₁:=by
 have rv:=zp hi;have lenV:=hi.length;have core:∀H:Hp,Only H->SqL K H a (ns.map V.int)->HOk P w H s₁.heap->(∀b,H b≠none->b=a)->(H a≠none->K.lookup a=none)->
   zBm (model P w) zEq (.call (.ref fa) ⟨[.ref a],[]⟩) (λ r s'=>r= .ok (.ret (.bool true))/\OldK s₁.heap s'.heap/\s'.os=s₁.os/\zEQ s'.gens) s₁:=by
  intro H hO hS hok hA hK;have base_of:∀{b:Addr} {o:Obj},s₁.heap.get? b=some o->H b=none->(aB1 s₁.heap H).get? b=some o:=λ e n=>aHd e n
  have noA:∀{b:Addr} {o:Obj} {es:Array DictEntry} {ep:Nat},s₁.heap.get? b=some o->o.data= .dict es ep->H b=none:=λ{b o es ep} e d=>by
   cases q:H b with
   |none=>rfl
   |some u=>
    have e':b=a:=hA b (by rw[q];simp);subst e';rw[ha]at e;cases e;have d':Data.seq vs.toArray _=Data.dict es ep:=d;cases d'
  have nsK:∀{b:Addr} {m:Str->Option Value},s₁.heap.Ns b m->(aB1 s₁.heap H).Ns b m:=λ{b m} ⟨o,es,ep,e,d,r⟩=>⟨o,es,ep,base_of e (noA e d),d,r⟩
  have hKb:K.In (aB1 s₁.heap H):=λ b o e=>base_of (KX b o e) (by
   cases q:H b with
   |none=>rfl
   |some u=>
    have e':b=a:=hA b (by rw[q];simp);subst e';rw[hK (by rw[q];simp)]at e;cases e)
  have hM:Mod K mg (aB1 s₁.heap H):=⟨hKb,nsK hns,⟨mb,nsK hb,hbb⟩,let⟨mc,h1,h2⟩:=hlim;⟨mc,nsK h1,h2⟩⟩;have e0:aIV P w K mg (aB1 s₁.heap H) zEq [] s₁ H:=⟨rfl,hM,λ b o e=>aJ4 e,zG0 (aFg _ _),trivial,λ b hb=>absurd (show b∈([]:List Addr)from hb) (by simp),hok,.of_eq hg⟩;refine zCs ((F _ hKb (nsK hns)).run zEq [] s₁ H ⟨[.ref a],[]⟩ [.ref a] [.ref a] _ _ hr e0 (hbind s₁ (.ref a)) (.cons rfl .nil) (hsp H hO hS)) λ r s' h=>?_
  cases r with
  |error e=>exact(hCX H e s' h).elim
  |ok fl=>
   cases fl with
   |next=>exact zAS h
   |brk=>exact zAS h
   |cont=>exact zAS h
   |ret u=>
    obtain⟨v,H',os,bare,un,hok',r',q⟩:=h;have q':v= .bl true:=q;subst q';obtain rfl:u=zD7 true:=r';refine⟨rfl,OldK.of_keep λ b o e=>?_,os,bare⟩;cases q:H b with
    |none=>exact un.keep b o e q (by intro z;exact absurd (show b∈([]:List Addr)from z) (by simp)) (by simp)
    |some u=>
     rcases hO b with z|⟨ob,xs,z⟩
     ·rw[q]at z;cases z
     ·have z2:=un.frzs b ob _ z
      obtain⟨e1,_⟩:=hok b _ z;obtain⟨e2,_⟩:=hok' b _ z2;rw[e]at e1;cases e1;exact e2
 cases hk:K.lookup a with
 |some o=>
  have e:=KX a o hk;rw[ha]at e;cases e;refine core (λ _=>none) (λ _=>.inl rfl) (.inr ⟨_,vs.toArray,_,hk,rfl,rfl,rfl,by rw[zAM,lenV];exact hl,by simpa using rv⟩) (λ b u z=>by have z':(none:Option HO)=some u:=z;cases z') (λ b z=>absurd rfl z) λ z=>absurd rfl z
 |none=>
  refine core (λ b=>if b=a then some (.frz {cls:=.type "list",data:=.seq vs.toArray} (.lst (ns.map V.int)))else none) (λ b=>?_) (.inl (.inr ⟨{cls:=.type "list",data:=.seq vs.toArray},if_pos rfl⟩)) (λ b u z=>?_) (λ b z=>?_) λ _=>hk
  ·by_cases hb:b=a
   ·exact .inr ⟨_,_,if_pos hb⟩
   ·exact .inl (if_neg hb)
  ·by_cases hb:b=a
   ·have z':=(if_pos hb).symm.trans z
    cases z';subst hb;exact⟨ha,by rw[zAF];exact hl,vs,_,rv,ha⟩
   ·have z':=(if_neg hb).symm.trans z
    cases z'
  ·by_cases hb:b=a
   ·exact hb
   ·exact absurd (if_neg hb) z
theorem aI0{l:zEo}{n k:Nat}{q:zA7}{loose:List Str}{XP:(Str->Option Value)->Heap->Prop}{YP:World->Heap->Prop}{d:DefRec}{K:Params->zAA}{CX:World->CXT}{sp:World->Sp}{x:Str}
  (hn:l.most=some n)(hn2:n<=zAT)(hdf:d.params.defaults=[])(hr:lU k zEq)
  (hY:∀(w:World) (h:Heap),YP w h->(K w.params).In h)
  (F:∀(w:World) (mg:Str->Option Value) (fa:Addr) (h:Heap),(K w.params).In h->h.Ns zA9 mg->mg d.name=some (.ref fa)->
   ∃fd:zAa,(∀(s:zAG) (u:Value),zFT s fd ⟨[u],[]⟩ [(x,u)])/\
    ∀base:Heap,(K w.params).In base->base.Ns zA9 mg->cj l.prog w (K w.params) mg base (CX w) k fa fd [x] (sp w))
  (hsp:∀(w:World) (H:Hp) (a:Addr) (ns:List Int),ns.length<=n->Only H->SqL (K w.params) H a (ns.map V.int)->sp w [.ref a] H (λ v _=>v= .bl true) λ _ _ _=>False)
  (hCX:∀(w:World) (H:Hp) (s:zAG) (e:Value) (s':zAG),CX w [] H s (λ _ _ _=>False) e s'->False):
  zHa q loose XP YP l.row.toRowW d [] (λ f vs=>zGt f vs):=by
 refine Att.aCt hn hdf λ w s₀ s₁ mg mb fa o pm cd doc a vs ns G Y ho hd hcd hmg hobj hints hlen hg=>?_
 have KX:=hY w _ Y;obtain⟨fd,hb,hF⟩:=F w mg fa _ KX G.T.g hmg;exact aHW KX G.T.g G.T.b G.T.builtins G.T.nolimit hg hobj hints (zAf hlen hn2) hr hF hb (λ H hO hS=>hsp w H a ns hlen hO hS) λ H e s'=>hCX w H s₁ e s'
def uE(s:Stmt):zHS:=match s with
 | .FunctionDef _ a _ _ _ _ _ _ _ _=>a
 |_=>{posonlyargs:=[],args:=[],vararg:=none,kwonlyargs:=[],kw_defaults:=[],kwarg:=none,defaults:=[]}
def jf(s:Stmt):List Stmt:=match s with
 | .FunctionDef _ _ b _ _ _ _ _ _ _=>b
 |_=>[]
def aV(s:Stmt):Scope:=match s with
 | .FunctionDef _ _ _ _ _ _ sc _ _ _=>sc
 |_=>{kind:=.function,names:=[],isGenerator:=false,isCoroutine:=false}
abbrev CX0:CXT:=λ _ _ _ _ _ _=>False
abbrev E0:XK:=λ _ _ _=>False
structure Fun(K:zAA)(x qual:Str)(st:Stmt)(f:Addr)(fd:zAa):Prop where
 ex:∃(oc:Value) (od:Option Addr) (kV doc pm:Value) (an:Option Addr) (cdv ct:Value) (osl:Array (Option Value)),
  fd=zCQ x qual (uE st) (jf st) (aV st) .none kV doc pm an cdv ct/\K.lookup f=some ⟨oc,od,.func fd,osl⟩/\zDU K cdv qual=true
 kp:zCH K (.ref f)=true
section
variable{P:zA7}{w:World}{K:zAA}{mg:Str->Option Value}{base:Heap}
theorem Fun.binds{x qual:Str}{st:Stmt}{f:Addr}{fd:zAa}{ps:List Str}(F:Fun K x qual st f fd)
  (h:∀(kV doc pm:Value) (an:Option Addr) (cdv ct:Value) (us:List Value),us.length=ps.length->bindArgs (zCQ x qual (uE st) (jf st) (aV st) .none kV doc pm an cdv ct) ⟨us,[]⟩=pure (ps.zip us)):Binds K fd ps []:=by
 obtain⟨oc,od,kV,doc,pm,an,cdv,ct,osl,rfl,lk,hcd⟩:=F.ex;exact .all (h kV doc pm an cdv ct)
theorem aMX{x qual:Str}{st:Stmt}{f:Addr}{oc:Value}{od an:Option Addr}{osl:Array (Option Value)}{kV doc pm cdv ct:Value}(l:K.lookup f=some ⟨oc,od,.func (zCQ x qual (uE st) (jf st) (aV st) .none kV doc pm an cdv ct),osl⟩)
  (c:zDU K cdv qual=true)(k:zCH K (.ref f)=true):Fun K x qual st f (zCQ x qual (uE st) (jf st) (aV st) .none kV doc pm an cdv ct):=⟨⟨oc,od,kV,doc,pm,an,cdv,ct,osl,rfl,l,c⟩,k⟩
end
section
variable{X:Cx}
end
def aa(H H':Hp):Prop:=∀b o,H b=some o->H' b=some o
theorem aa.refl(H:Hp):aa H H:=λ _ _ h=>h
theorem aa.trans{H H1 H2:Hp}(a:aa H H1)(b:aa H1 H2):aa H H2:=λ c o h=>b c o (a c o h)
theorem aa.free{H H':Hp}(e:aa H H'){l:Addr}(h:H' l=zIB):H l=zIB:=by
 cases q:H l with
 |none=>rfl
 |some o=>
  rw[e l o q]at h;cases h
end L2
set_option maxHeartbeats 4000000
namespace HT
open PySem PyProof.Rows
def lexLe:List Int->List Int->Bool
 |[],_=>true
 |_::_,[]=>false
 |x::xs,y::ys=>if x=y then lexLe xs ys else decide (x<=y)
theorem aDn(x y:Int)(xs ys:List Int):lexLe (x::xs) (y::ys)=if x=y then lexLe xs ys else decide (x<=y):=rfl
theorem aGd(A:zAk)(s:zAG)(a:Int)(t:Tok)(c:Int)(u:Tok)(prog:zA7)(w:World)(E:Value->zAG->Prop)(Q:Value->zAG->Prop)(h:Q (.bool (decide (a<=c))) s):
  wpAny (model prog w) A (richCompare .LtE (.int a t) (.int c u)) Q E s:=
 (PyProof.Rows.le_int h:wpAny (model prog w) A (zAo .LtE (.int a t) (.int c u)) Q E s)
section
open PySem.SeqAt
open PySem.AutoSeq1(wpAny_loadPart')
open PySem.MeetsSeq PySem.MeetsSeq2 PySem.MeetsSeq3
theorem zJ(l b:Addr)(items items2:Array Value)(n n2:Nat)(dd dd2:Option Addr)(sl sl2:Array (Option Value))(ns ms:List Int)(hi:zBO items.toList ns)(hj:zBO items2.toList ms):
  Meets (zCO.«tuple.__le__» ⟨[.ref l,.ref b],[]⟩)
   (λ _ R s=>s.heap.get? l=some {cls:=.type "tuple",dict:=dd,data:=.seq items n,slots:=sl}/\s.heap.get? b=some {cls:=.type "tuple",dict:=dd2,data:=.seq items2 n2,slots:=sl2}/\
    R (.ok (.ret (.bool (lexLe ns ms)))) s):=
 .of_wp λ prog w A R s h=>by
  obtain⟨hp,g,d,tk,os⟩:=s;obtain⟨hl,hb,h⟩:=h;have f2:=zFA;have z1:items.size=ns.length:=by rw[<-hi.length];simp
  have z2:items2.size=ms.length:=by rw[<-hj.length];simp
  wp_walk using zBl hl,zBl hb,zFj _ (λ rest b s'=>b.1=none/\s'=⟨hp,g,d,tk,os⟩/\∃(vs ws:List Value) (ns' ms':List Int),rest=vs.zip ws/\
   zBO vs ns'/\zBO ws ms'/\ns'.length+items2.size=ms'.length+items.size/\R (.ok (.ret (.bool (lexLe ns' ms')))) ⟨hp,g,d,tk,os⟩) _
  case turn=>
   rintro⟨y,x⟩ rest b s' ⟨hb',rfl,vs,ws,ns',ms',hz,hvi,hwi,hlen,hR⟩;cases hvi with
   |nil=>rw[zHH]at hz;cases hz
   |cons a t hvi'=>
    cases hwi with
    |nil=>rw[zGp]at hz;cases hz
    |cons c u hwi'=>
     rw[zBi]at hz;injection hz with hyx hrest
     injection hyx with hy hx
     subst hy hx;rw[aDn]at hR;simp only[zA8]at hlen;obtain⟨e,he,hiff⟩:=aCh A.in1 ⟨hp,g,d,tk,os⟩ a t c u;refine zAB (he prog w _ _ ?_);cases e with
     |true=>
      rw[if_pos (hiff.mp rfl)]at hR;wp_walk;exact⟨rfl,rfl,_,_,_,_,hrest,hvi',hwi',by lia,hR⟩
     |false=>
      rw[if_neg (λ q=>absurd (hiff.mpr q) zA2)]at hR;have hri:=aGd A.in1 ⟨hp,g,d,tk,os⟩ a t c u prog w;wp_walk using hri;exact⟨_,rfl,by simpa using hR⟩
  case fin=>
   rintro⟨b1,b2⟩ s' ⟨hb',rfl,vs,ws,ns',ms',hz,hvi,hwi,hlen,hR⟩;simp only at hb';subst hb';have hv:lexLe ns' ms'=decide (items.size<=items2.size):=by
    cases hvi with
    |nil=>
     simp only[zAy]at hlen;have e:lexLe [] ms'=true:=by cases ms'<;>rfl
     rw[e];exact(decide_eq_true (by lia)).symm
    |cons a t hv=>
     cases hwi with
     |nil=>
      simp only[zAy,zA8]at hlen;show false=_;exact(decide_eq_false (by lia)).symm
     |cons c u hw=>
      rw[zBi]at hz;cases hz
   rw[hv]at hR;wp_walk;exact⟨_,rfl,by simpa[zDq]using hR⟩
  case h=>
   exact⟨rfl,rfl,items.toList,items2.toList,ns,ms,rfl,hi,hj,by lia,h⟩
end
section
variable{prog:zA7}{w:World}{A:zAk}{E:Value->zAG->Prop}{s:zAG}
theorem aDo(hl:IsTup s.heap l items)(hb:IsTup s.heap b items2)(hi:zBO items.toList ns)(hj:zBO items2.toList ms)
  (hu:A.units<cLine)(h:Q (.bool (lexLe ns ms)) s):wpAny (model prog w) A (zAo .LtE (.ref l) (.ref b)) Q E s:=by
 obtain⟨⟨cls,dd,data,sl⟩,ho,hc,n,hd⟩:=id hl;obtain⟨⟨cls2,dd2,data2,sl2⟩,ho2,hc2,n2,hd2⟩:=id hb;simp only at hc hd hc2 hd2;subst hc hd hc2 hd2;exact zHP (op:=.LtE) ⟨_,ho,rfl⟩ ⟨_,ho2,rfl⟩ PySem.F.slot_tuple_le PySem.F.entry_tuple_le (PySem.F.args_tuple_le_2 _ _) (zJ l b items items2 n n2 dd dd2 sl sl2 ns ms hi hj)
  ⟨ho,ho2,show zD7 (lexLe ns ms)≠zGU/\Q (.bool (lexLe ns ms)) s from⟨(λ x=>nomatch x),h⟩⟩ hu
theorem aIF{ws:List Value}(ht:IsTup s.heap t #[])(hb:IsTup s.heap b ws.toArray)(h1:Q (.ref b) s):wpAny (model prog w) A (zCI .Add (.ref t) (.ref b)) Q E s:=by
 obtain⟨⟨cls,dd,data,sl⟩,ho,hc,n,hd⟩:=id ht;obtain⟨⟨cls2,dd2,data2,sl2⟩,ho2,hc2,n2,hd2⟩:=id hb;simp only at hc hd hc2 hd2;subst hc hd hc2 hd2;exact zHb ⟨_,ho,rfl⟩ ⟨_,ho2,rfl⟩ zFh zGz zDg zD6 (zDZ _ _)
   (tuple_addW0 t b #[] ws.toArray n n2 dd dd2 sl sl2 (by simp)) ⟨ho,ho2,h1⟩
theorem tW{lo hi:Option Int}(ht:IsTup s.heap t items)(hs:s.heap.IsSliceOf sl vl vu .none)(pl:zF5 vl lo)(pu:zF5 vu hi)
  (h1:sIx items.size 0 lo=0)(h2:sIx items.size items.size hi=items.size)
  (h:Q (.ref t) s):wpAny (model prog w) A (zDn (.ref t) (.ref sl)) Q E s:=by
 obtain⟨os,hos,hcs,hds⟩:=id hs;have hTs:s.TypeIs (.ref sl) "slice":=⟨os,hos,hcs⟩;obtain⟨ot,hot,hct,hdt⟩:=id ht;unfold zDn
 try with_reducible refine zBj ?_
 first|refine zAB (zAE ?_)|skip
 refine zAB (zF1 ht.typeIs (by decide) ?_);refine zAB (zBV (name:=zCj "__getitem__") ht.typeIs zAq
  (zB1 zAq ht.typeIs zEr ?_ (zFD _ _)))
 show wpAny _ _ (zCx (.ref t)>>=_) _ _ s;refine zAB (zHA ht ?_);refine zAB (zCt hTs ?_);rw[if_pos (by decide)];refine zAB (mU hs pl pu ?_);have hyes:(((sIx items.size 0 lo:Nat):Int)==0&&(1:Int)==1&&(sIx items.size items.size hi-sIx items.size 0 lo)==items.size)=true:=by
  rw[h1,h2];simp
 show wpAny _ _ (if (((sIx items.size 0 lo:Nat):Int)==0&&(1:Int)==1&&(sIx items.size items.size hi-sIx items.size 0 lo)==items.size)=true then _ else _) _ _ s;rw[if_pos hyes];unfold zIN;refine zAB (zAB (zCt ht.typeIs (zAE ?_)));rw[if_pos (by decide)];exact zAB (zD4 (zAE ⟨_,rfl,zAE h⟩))
theorem aDV(n:Nat):zB6 none none (-1) (n:Int)=((n:Int)-1,-1):=by
 unfold zB6;rfl
theorem aDU(n:Nat):zBF ((n:Int)-1) (-1) (-1)=n:=by
 unfold zBF;rw[if_neg (by decide)];by_cases h:n=0
 ·subst h;rfl
 ·rw[if_pos (by lia)]
  have e:((n:Int)-1 - -1-1) / (- -1)+1=n:=by
   rw[show(- -1:Int)=1 by decide,Int.ediv_one];lia
  rw[e];simp
theorem aG9(xs:Array Value):((zAc xs.size).filterMap λ(m:Nat)=>xs[(((xs.size:Int)-1)+(m:Int)*(-1)).toNat]?)=xs.toList.reverse:=by
 apply List.ext_getElem?;intro i;have key:∀n,n<=xs.size->((zAc n).filterMap λ(m:Nat)=>xs[(((xs.size:Int)-1)+(m:Int)*(-1)).toNat]?)=xs.toList.reverse.take n:=by
  intro n;induction n with
  |zero=>intro _;simp
  |succ n ih=>
   intro hn;rw[zFM,List.filterMap_append,ih (by lia),zHG];congr 1;have e:(((xs.size:Int)-1)+(n:Int)*(-1)).toNat=xs.size-1-n:=by lia
   simp only[zBZ,List.filterMap_nil,e];rw[List.getElem?_reverse (by rw[zA0];lia)];have e2:xs.toList.length-1-n=xs.size-1-n:=by simp
   rw[e2,zBE];have hlt:xs.size-1-n<xs.size:=by lia
   rw[zBe hlt];rfl
 rw[key xs.size (zAO _),zFv (by simp)]
theorem uU{n:Nat}(hs:s.heap.IsSliceOf sl .none .none (.int (-1) u))
  (h:Q ((n:Int)-1,-1,n) s):wpAny (model prog w) A (zCJ (.ref sl) (pure (n:Int))) Q E s:=by
 obtain⟨os,hos,hcs,hds⟩:=id hs;unfold zCJ zER;refine zAB (zAB (zCS hos hds (x:=.none) rfl (zAB (zCS hos hds (x:=.none) rfl (zAB (zCS hos hds (x:=.int (-1) u) rfl (zAE ?_)))))));refine zAB (slicePart_int ?_);show wpAny _ _ (if ((-1:Int)==0)=true then _ else _) _ _ s;rw[if_neg (by decide)];refine zAB (zEi (zAB (zEi (zAB (zAE ?_)))));show wpAny _ _ (match zB6 none none (-1) (n:Int)with|(lo,hi)=>pure (lo,(-1:Int),zBF lo hi (-1))) _ _ s;rw[aDV n];show wpAny _ _ (pure ((n:Int)-1,(-1:Int),zBF ((n:Int)-1) (-1) (-1))) _ _ s;rw[aDU];exact zAE h
theorem tU(ht:IsTup s.heap t items)(hs:s.heap.IsSliceOf sl .none .none (.int (-1) u))
  (h:Q (.ref s.heap.objs.size) {s with heap:=s.heap.push {cls:=.type "tuple",data:=.seq items.toList.reverse.toArray}})
  (hsz:items.size<=zAT):wpAny (model prog w) A (zDn (.ref t) (.ref sl)) Q E s:=by
 have htake:sizeOk (.seq items.toList.reverse.toArray):=by
  show items.toList.reverse.toArray.size<=zAT;rw[zAM,zGc,zA0];lia
 obtain⟨os,hos,hcs,hds⟩:=id hs;have hTs:s.TypeIs (.ref sl) "slice":=⟨os,hos,hcs⟩;unfold zDn
 try with_reducible refine zBj ?_
 first|refine zAB (zAE ?_)|skip
 refine zAB (zF1 ht.typeIs (by decide) ?_);refine zAB (zBV (name:=zCj "__getitem__") ht.typeIs zAq
  (zB1 zAq ht.typeIs zEr ?_ (zFD _ _)))
 show wpAny _ _ (zCx (.ref t)>>=_) _ _ s;refine zAB (zHA ht ?_);refine zAB (zCt hTs ?_);rw[if_pos (by decide)];refine zAB (uU hs ?_);show wpAny _ _ (if (((items.size:Int)-1==0&&(-1:Int)==1&&items.size==items.size))=true then _ else _) _ _ s;rw[if_neg (by simp)];rw[show((zAc items.size).filterMap λ(k:Nat)=>items[(((items.size:Int)-1)+(k:Int)*(-1)).toNat]?)=items.toList.reverse from aG9 items]
 first
  |exact zAB (m:=zAs _) (zAg (zAE ⟨_,rfl,zAE h⟩) htake)
  |exact zAB (m:=zAs _) (zAg (zAB (zAE (zAE ⟨_,rfl,zAE h⟩))) htake)
  |exact zAB (zAB (m:=zAs _) (zAg (zAE (zAE ⟨_,rfl,zAE h⟩)) htake))
  |exact zAB (zAB (m:=zAs _) (zAg (zAE ⟨_,rfl,zAE h⟩) htake))
end
end HT
namespace L2
open PySem PySem.Spec PyProof.Rows
def aJg(t T:String):Bool:=decide (t=T)||(decide (t="bool")&&decide (T="int"))
theorem aJd{K:zAA}(ht:t∈["NoneType","bool","int","str","list","tuple","dict"])(hT:T∈["bool","int","str","list","tuple","dict"]):
  zDV K (.type t) (.type T)=some (aJg t T):=by
 simp only[zAL,zAu,or_false]at ht hT;rcases ht with rfl|rfl|rfl|rfl|rfl|rfl|rfl<;>rcases hT with rfl|rfl|rfl|rfl|rfl|rfl<;>kernel_rfl
def qi(t T:String)(b:Bool):Bool:=decide (t∈["NoneType","bool","int","str","list","tuple","dict"])&&decide (T∈["bool","int","str","list","tuple","dict"])&&(aJg t T==b)
theorem aDr{K:zAA}(h:qi t T b=true):zDV K (.type t) (.type T)=some b:=by
 unfold qi at h;rw[zAN,zAN]at h;rw[aJd (of_decide_eq_true h.1.1) (of_decide_eq_true h.1.2),zEU h.2]
theorem bC(h:H p=none)(o:HO):aa H (upd H p o):=λ b u q=>by rw[bI (dC q h)];exact q
section
variable{X:Cx}
def aNx(K:zAA):List V->Hp->VK->Prop:=λ xs H Q=>∃x T t b,xs=[x,.ty T]/\vI K H x (.type t)/\qi t T b=true/\Q (.bl b) H
theorem nC:cX X (.builtin "isinstance") (aNx X.K):=by
 intro pins s σ H xs us Q I r h;obtain⟨x,T,t,b,rfl,ty,ok,q⟩:=h;obtain⟨u,w',rfl,r1,r2⟩:=vals2 r;obtain rfl:w'=zCB T:=r2;exact aFb I r1 ty (aDr ok) λ tk=>⟨.bl b,H,I.tok tk,rfl,q⟩
def aIv(K:zAA):R2:=λ x y H Q=>∃a b ns ms,x= .ref a/\y= .ref b/\SqT K H a (ns.map V.int)/\SqT K H b (ms.map V.int)/\Q (.bl (HT.lexLe ns ms)) H
theorem aLp(hu:X.A.units<cLine):OpR X (zAo .LtE) (aIv X.K):=by
 intro pins s σ H x y v u Q I rx ry h;obtain⟨a,b,ns,ms,rfl,rfl,ha,hb,q⟩:=h;cases rx;cases ry;obtain⟨its,r1,p1,_⟩:=I.tuple ha;obtain⟨its2,r2,p2,_⟩:=I.tuple hb;have i1:zBO its.toArray.toList ns:=intsAre_of r1;have i2:zBO its2.toArray.toList ms:=intsAre_of r2;exact HT.aDo p1 p2 i1 i2 hu ⟨.bl (HT.lexLe ns ms),H,I,rfl,q⟩
theorem aHF:OpR X (zAo .Is) (λ x y H Q=>∃b c,x= .bl b/\y= .bl c/\Q (.bl (b==c)) H):=by
 intro pins s σ H x y v u Q I rx ry h;obtain⟨b,c,rfl,rfl,q⟩:=h;cases rx;cases ry;exact is_bool (aHq I q rfl)
theorem Inv.big'(I:Inv X pins σ H s):zCY<s.heap.objs.size:=by
 have h:zA9<s.heap.objs.size:=(I.mod.glob.keeps I.bk).lt;exact zCF (by decide) h
def aMr:TE:=λ _ H Q=>∀p,H p=none->Q (.ref p) (upd H p (.dK []))
theorem aJK:PE X (.Dict [] [] pos) aMr:=λ pins s σ H Q I h=>
 wpAny_Dict_empty ⟨.ref s.heap.objs.size,_,I.laid (a:=s.heap.objs.size) (o:=.dK []) (t':=s.toks) (λ _ _ q=>zAD _ q) (zAO _)
  ⟨zAb _,beq_eq_false_iff_ne.mpr (zDD (zAV I.big')),[],.nil,Heap.DictOf.new s.heap⟩,rfl,h _ (I.hok.fresh (zAO _))⟩
end
def nG(l:Addr)(H H':Hp):Prop:=∀b o,b≠l->H b=some o->H' b=some o
theorem aa.sqt{K:zAA}(e:aa H H')(h:SqT K H a xs):SqT K H' a xs:=by
 rcases h with (h|⟨o,h⟩)|h
 ·exact .inl (.inl (e _ _ h))
 ·exact .inl (.inr ⟨o,e _ _ h⟩)
 ·exact .inr h
inductive D where
 |non|bl (b:Bool)|int (i:Int)|str (x:Str)|tup (l:List D)|lst (l:List D)|dct
mutual
inductive Rep(H:Hp):V->D->Prop where
 |non:Rep H .non .non
 |bl (b:Bool):Rep H (.bl b) (.bl b)
 |int (i:Int):Rep H (.int i) (.int i)
 |str (x:Str):Rep H (.str x) (.str x)
 |tup {a:Addr} {xs:List V} {ds:List D} (h:H a=some (.tup xs)) (r:aIQ H xs ds):Rep H (.ref a) (.tup ds)
 |lst {a:Addr} {xs:List V} {ds:List D} (h:H a=some (.lst xs)) (r:aIQ H xs ds):Rep H (.ref a) (.lst ds)
 |dct {a:Addr} (h:H a=some (.dK [])):Rep H (.ref a) .dct
inductive aIQ(H:Hp):List V->List D->Prop where
 |nil:aIQ H [] []
 |cons {x:V} {d:D} {xs:List V} {ds:List D} (h:Rep H x d) (r:aIQ H xs ds):aIQ H (x::xs) (d::ds)
end
def tyD:D->String
 | .non=>"NoneType"| .bl _=>"bool"| .int _=>"int"| .str _=>"str"| .tup _=>"tuple"| .lst _=>"list"| .dct=>"dict"
theorem PE.weaken(h:PE X e t)(imp:∀σ H Q,t' σ H Q->t σ H Q):PE X e t':=λ pins s σ H Q I q=>h pins s σ H Q I (imp σ H Q q)
theorem OpR.weaken(h:OpR X f r)(imp:∀x y H Q,r' x y H Q->r x y H Q):OpR X f r':=λ pins s σ H x y v u Q I rx ry q=>h pins s σ H x y v u Q I rx ry (imp x y H Q q)
def New(H:Hp)(o:HO)(Q:VK):Prop:=∀p H',aa H H'->H' p=some o->H p=none->Q (.ref p) H'
theorem New.at(n:New H o Q)(hp:H p=none):Q (.ref p) (upd H p o):=n p _ (bC hp o) bB hp
section
variable{X:Cx}{e:Expr}{es:List Expr}{te:TE}{t:TA}{pos:Pos}
def aMn(t:TA):TE:=λ σ H Q=>t σ H λ xs H1=>xs.length<=zAT/\New H1 (.tup xs) Q
def aKU(t:TA):TE:=λ σ H Q=>t σ H λ xs H1=>xs.length<=zAT/\New H1 (.lst xs) Q
theorem aJH{x1}(h:PA X es t):PE X (.Tuple es x1 pos) (aMn t):=by
 have h':PA X es (λ σ H Q=>∃R:List V->Hp->Prop,t σ H R/\∀xs H',R xs H'->Q xs H'):=by
  intro pos pins s σ H Q I ⟨R,q,imp⟩;exact thn (h pos pins s σ H R I q) λ us s' ⟨vs,H',I',r,q'⟩=>⟨vs,H',I',r,imp _ _ q'⟩
 exact(aL4 h').weaken λ σ H Q q=>⟨_,q,λ xs H' ⟨z,n⟩=>⟨z,λ p hp=>n.at hp⟩⟩
theorem aBE(h:PA X es t):PE X (.List es pos) (aKU t):=by
 have h':PA X es (λ σ H Q=>∃R:List V->Hp->Prop,t σ H R/\∀xs H',R xs H'->Q xs H'):=by
  intro pos pins s σ H Q I ⟨R,q,imp⟩;exact thn (h pos pins s σ H R I q) λ us s' ⟨vs,H',I',r,q'⟩=>⟨vs,H',I',r,imp _ _ q'⟩
 exact(aL9 h').weaken λ σ H Q q=>⟨_,q,λ xs H' ⟨z,n⟩=>⟨z,λ p hp=>n.at hp⟩⟩
def aKt:TE:=λ _ H Q=>New H (.dK []) Q
theorem aGv:PE X (.Dict [] [] pos) aKt:=aJK.weaken λ σ H Q n p hp=>n.at hp
def aK5:R2:=λ x y H Q=>∃l b xs zs,x= .ref l/\y= .ref b/\H l=some (.lst xs)/\H b=some (.lst zs)/\xs.length+zs.length<=zAT/\New H (.lst (xs++zs)) Q
theorem aJ1:OpR X (zCI .Add) aK5:=aLv.weaken λ x y H Q ⟨l,b,xs,zs,e1,e2,h1,h2,z,n⟩=>⟨l,b,xs,zs,e1,e2,h1,h2,z,λ p hp=>n.at hp⟩
def xg:V->List V->Hp->VK->Prop:=λ x vs H Q=>∃l xs y,x= .ref l/\vs=[y]/\H l=some (.lst xs)/\xs.length<zAT/\∀H',nG l H H'->H' l=some (.lst (xs++[y]))->Q .non H'
theorem yE:MtM X "list.append" xg:=λ pins s σ H x xs v us Q I rx rv ⟨l,ys,y,e1,e2,h,z,n⟩=>
 uq pins s σ H x xs v us Q I rx rv ⟨l,ys,y,e1,e2,h,z,n _ (λ b o ne hb=>by rw[bI ne];exact hb) bB⟩
end
section
variable{X:Cx}{a b c:Expr}{ta tb:TE}{tt:TT}{pos:Pos}
end
def cA(scope:Scope)(env:Env):List (Str×Addr):=(scope.names.filterMap λ y=>if y.2== .free then(env.cells.lookup y.1).map λ c=>(y.1,c)else none).reverse
theorem zA(env:Env):∀(names:List (Str×zDY)) (acc:List (Str×Addr)),(∀y∈names,y.2= .free->∃c,env.cells.lookup y.1=some c)->
  (forIn names acc λ(x:Str×zDY) r=>if (x.2== .free)=true then do let c <-cellOf env x.1;pure (zBb ((x.1,c)::r))else pure (zBb r):Sem (List (Str×Addr)))=
   pure ((names.filterMap λ y=>if y.2== .free then(env.cells.lookup y.1).map λ c=>(y.1,c)else none).reverse++acc)
 |[],acc,_=>rfl
 |(n,k)::r,acc,h=>by
  rw[List.forIn_cons];have ih:=λ acc'=>zA env r acc' λ y hy=>h y (zAJ _ hy)
  by_cases hk:k= .free
  ·subst hk
   obtain⟨c,hc⟩:=h (n,.free) zAQ rfl;have hc':env.cells.lookup n=some c:=hc;simp only[beq_self_eq_true,if_true,cellOf,hc',zBZ,zCT,zCw,zBc,List.singleton_append];exact ih _
  ·have hb:(k==zBr)=false:=by simpa using hk
   simp only[hb,zAe,if_false,zBZ];exact ih _
theorem mO(h:∀y∈scope.names,y.2= .free->∃c,env.cells.lookup y.1=some c):zFY scope env=pure (cA scope env):=by
 have e:=zA env scope.names [] h;rw[zBX]at e;have e2:zFY scope env=((forIn scope.names ([]:List (Str×Addr)) λ(x:Str×zDY) r=>if (x.2== .free)=true then do let c <-cellOf env x.1;pure (zBb ((x.1,c)::r))else pure (zBb r):Sem (List (Str×Addr)))>>=λ r=>pure r):=rfl;rw[e2,e];rfl
theorem v9(h:(cA scope env).lookup x=some c):env.cells.lookup x=some c:=by
 have hm:=zAv h;unfold cA at hm;rw[zBv,zCP]at hm;obtain⟨y,hy,e⟩:=hm;split at e
 ·cases q:env.cells.lookup y.1 with
  |none=>rw[q]at e;cases e
  |some c'=>
   rw[q]at e;have e':=zAr e;injection e' with e1 e2
   subst e1 e2;exact q
 ·cases e
theorem aCp(hx:scope.names.lookup x=some .free)(h:env.cells.lookup x=some c):(cA scope env).lookup x=some c:=by
 have hm:(x,zBr)∈scope.names:=zAv hx
 have:(x,c)∈cA scope env:=by
  unfold cA;rw[zBv,zCP];exact⟨_,hm,by simp[h]⟩
 cases q:(cA scope env).lookup x with
 |none=>
  exact absurd this (by
   intro hm'
   have:=List.lookup_eq_none_iff.mp q _ hm'
   simp at this)
 |some c'=>
  have:=v9 q
  rw[h]at this;exact this.symm▸rfl
def vo(scope:Scope)(C:Addr):List (Str×Addr):=zD8 (C+1) scope.names []
theorem nA:∀(names:List (Str×zDY)) (n:Nat) (acc:List (Str×Addr)),zD8 n names acc=zD8 n names []++acc
 |[],_,_=>rfl
 |(x,k)::r,n,acc=>by
  unfold zD8;split
  ·rw[nA r (n+1) ((x,n)::acc),nA r (n+1) [(x,n)],zBc];rfl
  ·exact nA r n acc
theorem sJ:∀{names:List (Str×zDY)} {n:Nat} {x:Str} {c:Addr},(x,c)∈zD8 n names []->(x,zDC)∈names
 |(y,k)::r,n,x,c,h=>by
  unfold zD8 at h;split at h
  ·rename_i hk
   rw[nA,zA4]at h;rcases h with h|h
   ·exact zAJ _ (sJ h)
   ·have e:=zAR.mp h
    cases e;rw[zEU hk];exact zAQ
  ·exact zAJ _ (sJ h)
 |[],_,_,_,h=>by cases h
theorem m6{l m:List (Str×Addr)}(h:(l++m).lookup x=some c):l.lookup x=some c\/(l.lookup x=none/\m.lookup x=some c):=by
 rw[zE1]at h;cases e:l.lookup x with
 |some c'=>rw[e]at h;exact .inl h
 |none=>rw[e]at h;exact .inr ⟨rfl,h⟩
theorem aEi{M:Model}{A:zAk}{E:Value->zAG->Prop}{s:zAG}{scope:Scope}{globals:Addr}{cl:List (Str×Addr)}{qual:Str}{env:Env}{Q:Env->zAG->Prop}
  (h:∀h':Heap,h'.Ns s.heap.objs.size (λ _=>none)->(∀b o,s.heap.get? b=some o->h'.get? b=some o)->CellsOk h' (s.heap.objs.size+1) (vo scope s.heap.objs.size)->
   Q {scope:=scope,locals:=s.heap.objs.size,globals:=globals,cells:=vo scope s.heap.objs.size++cl,qual:=qual,func:=none,code:=env.code,frame:=env.frame,builtins:=env.builtins} {s with heap:=h'}):
  wpAny M A (zEg scope globals cl [] qual none .none (some env)) Q E s:=by
 simp only[zEg,Option.isSome_some,if_true];refine zAB (wpAny_alloc ?_);refine zAB (wpAny_layCells _ (λ name kind cells=>by cases hkc:kind==zDC<;>simp[hkc]) _ _ _ _ ?_);have ok:=cellsFrom_ok scope.names (s.heap.push {cls:=.type "dict",data:=.dict #[]}) (s.heap.objs.size+1) [] ⟨λ _ _ hm=>(nomatch hm),zFU⟩ (by rw[zBP];exact zAO _);rw[zBP]at ok;rw[show({s with heap:=s.heap.push {cls:=.type "dict",data:=.dict #[]}}:zAG).heap.objs.size=s.heap.objs.size+1 from zBP ..,nA];refine zAE ?_;exact h _ ((Heap.Ns.new s.heap (.type "dict")).keeps (pushCells_keeps _ _)) (λ b o e=>pushCells_keeps _ _ b o (zAD _ e)) ok
def Cx.block(X:Cx)(scope:Scope)(C:Addr)(N:List Str)(fp:List Addr)(s₀:zAG)(H₀:Hp):Cx:=
  {prog:=X.prog,w:=X.w,K:=X.K,mg:=X.mg,base:=X.base,A:=X.A,N:=N,s₀:=s₀,H₀:=H₀,env:=compEnvC scope (vo scope C++cA scope X.env) C X.env,outer:=X.stack,stack:=X.stack,ex:=fp,
    fn:=λ x=>scope.names.lookup x==some .cell,calm:=X.calm,pn:=[],xe:=λ _ _=>False}
structure gD(X:Cx)(scope:Scope)(N:List Str)(st:St->St)(ks:List Nat):Prop where
 kind:scope.kind= .function
 sep:∀y∈scope.names,y.2= .cell->scope.names.lookup y.1=some .cell
 loc:∀y∈scope.names,y.2= .local->scope.names.lookup y.1=some .local
 free:∀y∈scope.names,y.2= .free->X.env.kindOf y.1=some .cell\/X.env.kindOf y.1=some .free
 len:∀σ,(st σ).length=N.length
 val:∀σ (i:Nat) x v,N[i]? =some x->(st σ)[i]? =some (some v)->scope.names.lookup x=some .free/\i∉ks/\∃j:Nat,X.N[j]? =some x/\σ[j]? =some (some v)
theorem aBB(h:(zF0 scope env).names.lookup x=some .cell\/(zF0 scope env).names.lookup x=some .free):scope.names.lookup x=some .free\/scope.names.lookup x=some .cell:=by
 have go:∀names:List (Str×zDY),((names.map λ(n,k)=>if (k==zBr&&env.scope.kind== .function&&env.kindOf n==some .cell)then(n,zDC)else(n,k)).lookup x=some .cell\/
   (names.map λ(n,k)=>if (k==zBr&&env.scope.kind== .function&&env.kindOf n==some .cell)then(n,zDC)else(n,k)).lookup x=some .free)->names.lookup x=some .free\/names.lookup x=some .cell:=by
  intro names;induction names with
  |nil=>intro h;simp at h
  |cons y r ih=>
   obtain⟨n,k⟩:=y;intro h;rw[zAH]at h;by_cases hx:x==n
   ·rw[zAj,hx]
    show some k=some .free\/some k=some .cell;by_cases hcc:(k==zBr&&env.scope.kind== .function&&env.kindOf n==some .cell)=true
    ·rw[zAN,zAN]at hcc
     rw[zEU hcc.1.1];exact .inl rfl
    ·simp only[if_neg hcc,zAj,hx]at h
     exact h.elim .inr .inl
   ·have hx':(x==n)=false:=by simpa using hx
    rw[zAj,hx'];refine ih ?_;by_cases hcc:(k==zBr&&env.scope.kind== .function&&env.kindOf n==some .cell)=true
    ·simp only[if_pos hcc,zAj,hx']at h
     exact h
    ·simp only[if_neg hcc,zAj,hx']at h
     exact h
 exact go scope.names h
theorem aBC(h:scope.names.lookup x=some .free):(zF0 scope env).names.lookup x=some .cell\/(zF0 scope env).names.lookup x=some .free:=by
 have go:∀names:List (Str×zDY),names.lookup x=some .free->((names.map λ(n,k)=>if (k==zBr&&env.scope.kind== .function&&env.kindOf n==some .cell)then(n,zDC)else(n,k)).lookup x=some .cell\/
   (names.map λ(n,k)=>if (k==zBr&&env.scope.kind== .function&&env.kindOf n==some .cell)then(n,zDC)else(n,k)).lookup x=some .free):=by
  intro names;induction names with
  |nil=>intro h;simp at h
  |cons y r ih=>
   obtain⟨n,k⟩:=y;intro h;rw[zAH];by_cases hx:x==n
   ·rw[zAj,hx]at h
    have hk:k= .free:=zAr h;by_cases hcc:(k==zBr&&env.scope.kind== .function&&env.kindOf n==some .cell)=true
    ·simp only[if_pos hcc,zAj,hx]
     exact .inl trivial
    ·simp only[if_neg hcc,zAj,hx]
     exact .inr (by rw[hk])
   ·have hx':(x==n)=false:=by simpa using hx
    rw[zAj,hx']at h;by_cases hcc:(k==zBr&&env.scope.kind== .function&&env.kindOf n==some .cell)=true
    ·simp only[if_pos hcc,zAj,hx']
     exact ih h
    ·simp only[if_neg hcc,zAj,hx']
     exact ih h
 exact go scope.names h
section
variable{X:Cx}{pins:List (Addr×Obj)}{σ:St}{H H':Hp}{s:zAG}
theorem Inv.block{st:St->St}{D C:Addr}(I:Inv X pins σ H s)(B:gD X scope N st ks)
  (hfp:∀b∈fp,sV X pins H b)(hob:∀b∈fp,∃ob,s.heap.get? b=some ob)
  (hD:s.heap.objs.size<=D)(hC:s.heap.objs.size<=C)(hDC:D≠C)(keep:∀b u,s.heap.get? b=some u->h'.get? b=some u)(hns:h'.Ns C λ _=>none)(hcs:CellsOk h' (C+1) (vo scope C))(hDo:∀c,C<c->D≠c)(hacc:dN X.prog X.w (upd H D o) h' D o):
  Inv (X.block scope C N fp s H) [] (st σ) (upd H D o) {s with heap:=h',toks:=tk}:=by
 have hHD:H D=none:=I.hok.fresh hD;have hcl:∀x c,(cA scope X.env).lookup x=some c->X.env.cells.lookup x=some c:=λ x c e=>v9 e
 have hol:∀x c,(vo scope C).lookup x=some c->C<c/\h'.IsCell c none:=λ x c e=>let⟨q1,q2⟩:=hcs.empty x c (zAv e);⟨q2,q1⟩
 have hlt:∀x c,(cA scope X.env).lookup x=some c->c<s.heap.objs.size:=λ x c e=>let⟨v,ic⟩:=I.cell x c (hcl x c e);ic.lt
 have hfresh:∀b∈fp,b<s.heap.objs.size:=λ b hb=>by
  obtain⟨ob,e⟩:=hob b hb;exact zAP e
 refine⟨⟨I.mod,?_,I.ok.glob,I.ok.blt,hC,λ x y c e1 e2=>?_,λ x hx=>?_,λ x c hf e=>?_,I.ok.hd,I.ok.frames,.inl rfl,λ b hb=>⟨?_,λ x c e z=>?_⟩,
  I.bs,?_,λ b ob e hb=>?_,λ b hb hs=>?_,I.stack,I.stkFree⟩,rfl,I.bare,Un.laid keep hD hHD,⟨_,hns,λ i x v e1 e2 hv=>?_⟩,λ x c e=>?_,?_,λ x c e=>?_,λ p hp=>absurd (show p∈([]:List (Addr×Obj))from hp) (by simp),I.hok.laid keep hD hacc,B.len σ,λ p hp=>absurd (show p∈([]:List (Addr×Obj))from hp) (by simp)⟩
 ·show(zF0 scope X.env).kind= .function
  exact B.kind
 ·rcases m6 e1 with a1|⟨_,a1⟩<;>rcases m6 e2 with a2|⟨_,a2⟩
  ·exact PySem.name_of_addr hcs.apart (zAv a1) (zAv a2)
  ·exact absurd (hlt y c a2) (zFs.mpr (zAf hC (zBg (hol x c a1).1)))
  ·exact absurd (hlt x c a1) (zFs.mpr (zAf hC (zBg (hol y c a2).1)))
  ·exact I.ok.inj x y c (hcl x c a1) (hcl y c a2)
 ·show∃c,(vo scope C++cA scope X.env).lookup x=some c
  rw[zE1];cases e:(vo scope C).lookup x with
  |some c=>exact⟨c,rfl⟩
  |none=>
   rcases aBB hx with hfree|hcell
   ·obtain⟨c,hc⟩:=I.ok.has x (B.free (x,.free) (zAv hfree) rfl)
    exact⟨c,aCp hfree hc⟩
   ·obtain⟨c,hc⟩:=uH (n:=C+1) hcell
    rw[show(vo scope C).lookup x=some c from hc]at e;cases e
 ·rcases m6 e with a1|⟨a0,_⟩
  ·exact zAf hC (zBg (hol x c a1).1)
  ·obtain⟨c',hc'⟩:=uH (n:=C+1) (zEU hf)
   rw[show(vo scope C).lookup x=some c' from hc']at a0;cases a0
 ·exact zAV (zAZ (hfresh b hb) hC)
 ·rcases m6 e with a1|⟨_,a1⟩
  ·exact absurd (hfresh b hb) (zFs.mpr (by rw[<-z];exact zAf hC (zBg (hol x c a1).1)))
  ·exact(hfp b hb).2.2.2.2.1 x c (hcl x c a1) z
 ·exact zAf I.ok.bsz I.sz
 ·rcases(hfp b hb).2.2.2.1 with z|z
  ·exact I.ok.noex b ob e z
  ·exact absurd (zAZ (zAP (I.ok.bs b ob e).1) z) (zBS _)
 ·rcases zAL.mp (I.stkSub b hs)with z|z
  ·exact(hfp b hb).2.1 z
  ·exact(hfp b hb).2.2.1 z
 ·obtain⟨hfree,_,j,f1,f2⟩:=B.val σ i x v e1 e2
  obtain⟨m,hn,hl⟩:=I.loc;have hk:=B.free (x,.free) (zAv hfree) rfl;obtain⟨u,ru,hu⟩:=hl j x v f1 f2 (hk.elim (λ z=>.inr (.inl z)) λ z=>.inr (.inr z));rcases hu with ⟨k,_⟩|⟨_,c,ec,ic⟩
  ·rcases hk with z|z
   ·exact absurd (k.symm.trans z) (by decide)
   ·exact absurd (k.symm.trans z) (by decide)
  ·have hno:(vo scope C).lookup x=none:=by
    cases e:(vo scope C).lookup x with
    |none=>rfl
    |some c'=>
     have:=B.sep _ (sJ (zAv e)) rfl
     rw[hfree]at this;cases this
   refine⟨u,ru,.inr ⟨?_,c,by show(vo scope C++cA scope X.env).lookup x=some c;rw[zE1,hno];exact aCp hfree ec,ic.keeps keep⟩⟩;rcases hv with z|z|z
   ·have z':(zF0 scope X.env).names.lookup x=some .local:=z
    rcases aBC (env:=X.env) hfree with y|y
    ·exact absurd (z'.symm.trans y) (by decide)
    ·exact absurd (z'.symm.trans y) (by decide)
   ·exact .inl z
   ·exact .inr z
 ·rcases m6 e with a1|⟨_,a1⟩
  ·exact⟨_,(hol x c a1).2⟩
  ·obtain⟨v,ic⟩:=I.cell x c (hcl x c a1)
   exact⟨v,ic.keeps keep⟩
 ·show upd H D o C=none
  rw[bI (zDD hDC)];exact I.hok.fresh hC
 ·show upd H D o c=none
  rcases m6 e with a1|⟨_,a1⟩
  ·rw[bI (zDD (hDo c (hol x c a1).1))]
   exact I.hok.fresh (zAf hC (zBg (hol x c a1).1))
  ·obtain⟨v,ic⟩:=I.cell x c (hcl x c a1)
   rw[bI (zAV (zAZ ic.lt hD))];exact I.freeC x c (hcl x c a1)
end
section
variable{prog:zA7}{w:World}{A:zAk}{R:zDr->zAG->Prop}{s:zAG}
theorem aB4(I:Nat->zAG->Prop)
  (turn:∀n s,I n s->wpAny (model prog w) A (zEh it) (λ r s₁=>match r with
   |none=>R (.ok .next) s₁
   |some v=>wpAny (model prog w) A (zCz target it v) (λ _ s₁=>wpAny (model prog w) A (zEe target env v) (λ _ s₂=>
     wpAny (model prog w) A (forIn ifs true λ c r=>if r=true then do let ok <-isTrue c env (eval c env);pure (zBb ok)else pure (zBb r)) (λ ok s₃=>
      if ok=true then wpAny (model prog w) A (eval elt env) (λ x s₄=>
       wpAny (model prog w) A (call (.builtin "list.append") [acc,x]) (λ _ s₅=>∃m,m<n/\I m s₅) (λ _ _=>False) s₄) (λ _ _=>False) s₃
      else∃m,m<n/\I m s₃) (λ _ _=>False) s₂) (λ _ _=>False) s₁) (λ _ _=>False) s₁) (λ _ _=>False) s)
  (n:Nat)(h:I n s):zBm (model prog w) A (.compLoop (.ListComp elt [⟨target,iter,ifs,0⟩] scope pos) 0 it acc env) R s:=by
 refine codeAny_loop rfl I (λ n s hI=>?_) n h;show wpAny _ A ((zIE (.ListComp elt [⟨target,iter,ifs,0⟩] scope pos) 0 it acc env).onRaise (λ x=>do noteFrame x env;theTreesLotGoes x)) _ _ s;refine wpAny_noted ?_;rw[compTurn_list];refine zAB (zD0 (zAB (zBH (turn n s hI) (λ r s₁ h₁=>?_) λ _ _ h'=>h'.elim)));cases r with
 |none=>exact zAE h₁
 |some v=>
  refine zAB (zBH h₁ (λ _ s₁ h₁=>?_) λ _ _ h'=>h'.elim);refine zAB (zBH h₁ (λ _ s₂ h₂=>zAB (zBH h₂ (λ ok s₃ h₃=>?_) λ _ _ h'=>h'.elim)) λ _ _ h'=>h'.elim);cases ok with
  |false=>exact zAE ⟨rfl,h₃⟩
  |true=>
   exact zAB (zAB (zBH h₃ (λ x s₄ h₄=>zAB (zBH h₄ (λ _ s₅ h₅=>zAE (zAE ⟨rfl,h₅⟩)) λ _ _ h'=>h'.elim)) λ _ _ h'=>h'.elim))
end
def oG(g:TG)(ks:List Nat):Prop:=∀v σ H (Q:St->Hp->Prop),g v σ H Q->g v σ H (λ σ' H'=>Q σ' H'/\σ'.length=σ.length/\∀k,k∉ks->σ'[k]? =σ[k]?)
def zE(g:TGs)(ks:List Nat):Prop:=∀vs σ H (Q:St->Hp->Prop),g vs σ H Q->g vs σ H (λ σ' H'=>Q σ' H'/\σ'.length=σ.length/\∀k,k∉ks->σ'[k]? =σ[k]?)
theorem aJs(h:i∈ks):oG (vQ i) ks:=λ v σ H Q q=>⟨q,zBY,λ k hk=>zBU (λ(e:i=k)=>hk (e▸h))⟩
theorem aJr:zE aMW ks:=λ vs σ H Q ⟨e,q⟩=>⟨e,q,rfl,λ _ _=>rfl⟩
def aAg(g:TG):Prop:=∀v σ H (Q Q':St->Hp->Prop),(∀σ' H',Q σ' H'->Q' σ' H')->g v σ H Q->g v σ H Q'
def vK(g:TGs):Prop:=∀v σ H (Q Q':St->Hp->Prop),(∀σ' H',Q σ' H'->Q' σ' H')->g v σ H Q->g v σ H Q'
theorem aJu:aAg (vQ i):=λ v σ H Q Q' imp q=>imp _ _ q
theorem aJt:vK aMW:=λ v σ H Q Q' imp ⟨e,q⟩=>⟨e,imp _ _ q⟩
theorem aHk(h1:aAg t)(h2:vK u):vK (aHm t u):=λ vs σ H Q Q' imp ⟨v,r,e,q⟩=>⟨v,r,e,h1 _ _ _ _ _ (λ σ' H' q'=>h2 _ _ _ _ _ imp q') q⟩
theorem aHf(h1:oG t ks)(m1:aAg t)(h2:zE u ks)(m2:vK u):zE (aHm t u) ks:=λ vs σ H Q ⟨v,r,e,q⟩=>
 ⟨v,r,e,m1 _ _ _ _ _ (λ σ' H' ⟨q',l',k'⟩=>m2 _ _ _ _ _ (λ σ2 H2 ⟨q2,l2,k2⟩=>⟨q2,l2.trans l',λ k hk=>(k2 k hk).trans (k' k hk)⟩) (h2 _ _ _ _ q')) (h1 _ _ _ _ q)⟩
theorem uy{K:zAA}(h:zE t ks):oG (aJv K n t) ks:=λ v σ H Q ⟨a,xs,e1,e2,e3,q⟩=>⟨a,xs,e1,e2,e3,h _ _ _ _ q⟩
theorem aMV{K:zAA}(h:vK t):aAg (aJv K n t):=λ v σ H Q Q' imp ⟨a,xs,e1,e2,e3,q⟩=>⟨a,xs,e1,e2,e3,h _ _ _ _ _ imp q⟩
def aBi(X:Cx)(ifs:List Expr)(t:TT):Prop:=
 ∀(pins:List (Addr×Obj)) (s:zAG) (σ:St) (H:Hp) (Q:Bool->Hp->Prop),Inv X pins σ H s->t σ H Q->
  wpAny (model X.prog X.w) X.A (forIn ifs true λ c r=>if r=true then do let ok <-isTrue c X.env (eval c X.env);pure (zBb ok)else pure (zBb r)) (TP X pins σ Q) X.xe s
def aNm:TT:=λ _ H Q=>Q true H
theorem aL3:aBi X [] aNm:=λ _ _ _ H _ I h=>wpAny_tests_nil ⟨H,I,h⟩
theorem aL2(h:PT X c t):aBi X [c] t:=λ pins s σ H Q I q=>wpAny_tests_one (h pins s σ H Q I q)
def tLC(wi:TI)(st:St->St)(g:TG)(tt:TT)(te:TE):TE:=λ σ H Q=>wi σ H λ J H1=>∀l,H1 l=none->∃W:Nat->Nat->List V->Hp->Prop,(∃m,W 0 m [] (upd H1 l (.lst [])))/\
 ∀i m acc H2,W i m acc H2->H2 l=some (.lst acc)/\acc.length<zAT/\((J.stop i H2/\Q (.ref l) H2)\/(J.go i H2/\∀x H3,J.yld i H2 x H3->g x (st σ) H3 λ σ4 H4=>tt σ4 H4 λ ok H5=>
  if ok=true then te σ4 H5 λ y H6=>H6 l=some (.lst acc)/\∃m',m'<m/\W (i+1) m' (acc++[y]) (upd H6 l (.lst (acc++[y])))else∃m',m'<m/\W (i+1) m' acc H5))
section
variable{X:Cx}{elt tg iter:Expr}{ifs:List Expr}{scope:Scope}{pos:Pos}{N:List Str}{st:St->St}{ks:List Nat}{wi:TI}{g:TG}{tt:TT}{te:TE}
theorem aC2(B:gD X scope N st ks)(hc:X.calm=true)(hg:∀C fp s₀ H₀,PG (X.block scope C N fp s₀ H₀) tg g)(hgo:oG g ks)(ht:∀C fp s₀ H₀,aBi (X.block scope C N fp s₀ H₀) ifs tt)
  (he:∀C fp s₀ H₀,PE (X.block scope C N fp s₀ H₀) elt te){H1:Hp}{Q:VK}{RR:Value->Addr->zDr->zAG->Prop}
  (I:Inv X pins σ H1 s₂)(T:Turn X.prog X.w X.K tg J fp it tn)(h0:tn 0 s₂.heap)(hfp:∀b∈fp,sV X pins H1 b)
  (h:∀l,H1 l=none->∃W:Nat->Nat->List V->Hp->Prop,(∃m,W 0 m [] (upd H1 l (.lst [])))/\
   ∀i m acc H2,W i m acc H2->H2 l=some (.lst acc)/\acc.length<zAT/\((J.stop i H2/\Q (.ref l) H2)\/(J.go i H2/\∀x H3,J.yld i H2 x H3->g x (st σ) H3 λ σ4 H4=>tt σ4 H4 λ ok H5=>
    if ok=true then te σ4 H5 λ y H6=>H6 l=some (.lst acc)/\∃m',m'<m/\W (i+1) m' (acc++[y]) (upd H6 l (.lst (acc++[y])))else∃m',m'<m/\W (i+1) m' acc H5)))
  (hRR:∀D C H' s',(∃σ',Inv (X.block scope C N fp s₂ H1) [] σ' H' s')->s₂.heap.objs.size<=C->Q (.ref D) H'->RR (.ref D) C (.ok .next) s'):
  wpAny (model X.prog X.w) X.A (zFZ []) (λ acc s₃=>wpAny (model X.prog X.w) X.A (zEg scope X.env.globals (cA scope X.env) [] X.env.qual none .none (some X.env)) (λ cenv s₄=>
   zBm (model X.prog X.w) X.A (.compStart (.ListComp elt [⟨tg,iter,ifs,0⟩] scope pos) 0 (.ref it) acc {cenv with scope:=zF0 scope X.env}) (RR acc cenv.locals) s₄) E s₃) E s₂:=by
 refine zAg (aEi λ h₁ hns₁ hold₁ hcs₁=>?_);dsimp only at hns₁ hold₁ hcs₁ ⊢;generalize hH2:s₂.heap.push {cls:=.type "list",dict:=none,data:=.seq ([]:List Value).toArray}=P2 at hns₁ hold₁ hcs₁ ⊢;have hC:P2.objs.size=s₂.heap.objs.size+1:=by rw[<-hH2,zBP]
 have hDC:s₂.heap.objs.size≠P2.objs.size:=by rw[hC];exact zAV (zBk _)
 have hCle:s₂.heap.objs.size<=P2.objs.size:=by rw[hC];exact zDl _
 have old:∀b o,s₂.heap.get? b=some o->h₁.get? b=some o:=λ b o e=>hold₁ b o (hH2▸zAD _ e)
 have hacc:h₁.get? s₂.heap.objs.size=some {cls:=.type "list",dict:=none,data:=.seq ([]:List Value).toArray}:=hold₁ _ _ (hH2▸zAK _ rfl);generalize hCe:P2.objs.size=C at hns₁ hold₁ hcs₁ hDC hCle hC ⊢;have hHD:H1 s₂.heap.objs.size=none:=I.hok.fresh (zAO _);have I0:Inv (X.block scope C N fp s₂ H1) [] (st σ) (upd H1 s₂.heap.objs.size (.lst [])) {s₂ with heap:=h₁,toks:=s₂.toks}:=
  I.block B hfp (λ b hb=>by obtain⟨o,e,_⟩:=T.obj 0 _ h0 b hb;exact⟨o,e⟩) (zAO _) hCle hDC old hns₁ hcs₁ (λ c hc=>zAV (zHI hCle hc)) ⟨zAb _,[],0,.nil,hacc⟩
 obtain⟨W,⟨m0,w0⟩,step⟩:=h _ hHD;have h01:tn 0 h₁:=T.keep 0 _ _ h0 λ b _ o e=>old b o e
 have stat:∀{H':Hp},(∀b∈fp,H' b=none)->∀b∈fp,sV (X.block scope C N fp s₂ H1) [] H' b:=λ{H'} hn b hb=>
  ⟨hn b hb,(I0.ok.exf b hb).1,I0.ok.exfs b hb,.inl hb,λ x c e=>(I0.ok.exf b hb).2 x c e,λ p hp=>absurd (show p∈([]:List (Addr×Obj))from hp) (by simp)⟩
 have fr0:∀b∈fp,upd H1 s₂.heap.objs.size (.lst []) b=none:=λ b hb=>by
  obtain⟨o,e,_⟩:=T.obj 0 _ h0 b hb;rw[bI (zAV (zAP e))];exact(hfp b hb).1
 have loop:∀s₃:zAG,s₃={s₂ with heap:=h₁,toks:=s₂.toks}->
   zBm (model X.prog X.w) X.A (.compLoop (.ListComp elt [⟨tg,iter,ifs,0⟩] scope pos) 0 (.ref it) (.ref s₂.heap.objs.size) (X.block scope C N fp s₂ H1).env) (RR (.ref s₂.heap.objs.size) C) s₃:=by
  rintro s₃ rfl;refine aB4 (λ n s'=>∃i acc H2,Inv (X.block scope C N fp s₂ H1) [] (st σ) H2 s'/\tn i s'.heap/\(∀b∈fp,H2 b=none)/\W i n acc H2) ?_ m0 ⟨0,[],_,I0,h01,fr0,w0⟩;rintro n s3 ⟨i,acc,H2,I2,st2,fr2,w2⟩;obtain⟨hl,hz,alt⟩:=step i n acc H2 w2;rcases alt with ⟨stop,q⟩|⟨go,nxt⟩
  ·refine thn (T.done (X.block scope C N fp s₂ H1) rfl rfl rfl hc i [] s3 (st σ) H2 _ I2 (stat fr2) st2 stop) λ r s4 ⟨hr,I4⟩=>?_
   subst hr;exact hRR _ C H2 s4 ⟨_,I4⟩ hCle q
  ·refine thn (T.item (X.block scope C N fp s₂ H1) rfl rfl rfl hc i [] s3 (st σ) H2 _ I2 (stat fr2) st2 go) λ r s4 ⟨u,hr,h4⟩=>?_
   subst hr;refine thn h4 λ _ s5 ⟨x,H5,I5,r5,y5,st5,fr5⟩=>?_
   have I5':=I5.pinned (stat fr5) (T.obj _ _ st5);refine thn (hg C fp s₂ H1 _ s5 (st σ) H5 x u _ I5' r5 (hgo _ _ _ _ (nxt x H5 y5))) λ _ s6 ⟨σ6,H6,I6,q6,aF6,ag6⟩=>?_
   refine thn (ht C fp s₂ H1 _ s6 σ6 H6 _ I6 q6) λ ok s7 ⟨H7,I7,q7⟩=>?_
   have again:∀{H9:Hp} {s9:zAG} {acc':List V},Inv (X.block scope C N fp s₂ H1) ([]++rQ fp s5.heap) σ6 H9 s9->(∃m',m'<n/\W (i+1) m' acc' H9)->
     ∃m,m<n/\∃i acc H2,Inv (X.block scope C N fp s₂ H1) [] (st σ) H2 s9/\tn i s9.heap/\(∀b∈fp,H2 b=none)/\W i m acc H2:=λ{H9 s9 acc'} I9 ⟨m',hm,w9⟩=>by
    have pin9:∀b∈fp,∀o,s5.heap.get? b=some o->s9.heap.get? b=some o/\H9 b=none:=λ b hb o e=>by
     have z:=I9.pin (b,o) (zA5 _ (zA5 _ (lA hb e)));exact⟨z.1,z.2.1⟩
    refine⟨m',hm,i+1,acc',H9,I9.unpinned.weak (by rw[aF6]) (λ k v e=>?_),T.keep _ _ _ st5 λ b hb o e=>(pin9 b hb o e).1,λ b hb=>?_,w9⟩
    ·have hk:k<(st σ).length:=(zAI.mp e).1
     have hkN:k<N.length:=by rw[<-B.len σ];exact hk
     obtain⟨_,hks,_⟩:=B.val σ k _ v (zAC hkN) e;rw[ag6 k hks];exact e
    ·obtain⟨o,e,_⟩:=T.obj _ _ st5 b hb
     exact(pin9 b hb o e).2
   cases ok with
   |false=>
    rw[if_neg zA2]at q7 ⊢;exact again I7 q7
   |true=>
    rw[if_pos rfl]at q7 ⊢;refine thn (he C fp s₂ H1 _ s7 σ6 H7 _ I7 q7) λ u8 s8 ⟨y,H8,I8,r8,hl8,q8⟩=>?_
    refine thn (uq _ s8 σ6 H8 (.ref s₂.heap.objs.size) [y] (.ref s₂.heap.objs.size) [u8] (λ _ H9=>H9=upd H8 s₂.heap.objs.size (.lst (acc++[y]))) I8 rfl (.cons r8 .nil) ⟨_,acc,y,rfl,rfl,hl8,hz,rfl⟩) λ _ s9 ⟨_,H9,I9,_,e9⟩=>?_
    subst e9;exact again I9 q8
 exact codeAny_compStart_list (loop _ rfl) (T.self X.A 0 _ _ _ h01 (loop _ rfl))
theorem aBd(I:Inv X pins σ H1 s₂)(hfp:∀b∈fp,sV X pins H1 b)(h:∃σ',Inv (X.block scope C N fp s₂ H1) [] σ' H' s'):Inv X pins σ H' s':=by
 obtain⟨σ',J⟩:=h;exact I.call' (ch:=fp) J.os J.base J.hok J.bare λ b hb=>⟨(hfp b hb).2.2.2.1,(hfp b hb).2.1,(hfp b hb).2.2.2.2.1,(hfp b hb).2.2.2.2.2⟩
theorem aNM(B:gD X scope N st ks)(hc:X.calm=true)(hi:PI X tg iter wi)(hg:∀C fp s₀ H₀,PG (X.block scope C N fp s₀ H₀) tg g)(hgo:oG g ks)(ht:∀C fp s₀ H₀,aBi (X.block scope C N fp s₀ H₀) ifs tt)
  (he:∀C fp s₀ H₀,PE (X.block scope C N fp s₀ H₀) elt te)(hs:∀x,zBM iter X.env x=pure x:=by intro _;rfl):PE X (.ListComp elt [⟨tg,iter,ifs,0⟩] scope pos) (tLC wi st g tt te):=by
 intro pins s σ H Q I h;have hcl:zFY scope X.env=pure (cA scope X.env):=mO λ y hy hk=>I.ok.has _ (B.free y hy hk)
 rw[eval_ListComp];refine zDv (use:=none) rfl hs hcl B.kind B.loc (thn (hi pins s σ H _ I h) λ v s1 h1=>thn h1 λ itv s2 h2=>?_);obtain⟨it,fp,tn,J,H2,e,I2,T,st2,f2,hq⟩:=h2;subst e;refine aC2 (RR:=λ acc C=>compPost (model X.prog X.w) X.A X.xe none (EP X pins σ Q) acc C) B hc hg hgo ht he I2 T st2 f2 hq ?_;intro D C H' s' hJ hCle q;have I3:=aBd I2 f2 hJ;obtain⟨σ',J'⟩:=hJ;obtain⟨m,hn,_⟩:=id J'.loc;have hHC:H' C=none:=J'.free;refine⟨m,hn,λ h'' hs''=>⟨.ref D,H',?_,rfl,q⟩⟩;exact I3.turned (t':=s'.toks) (λ b o ne e=>(hs''.2 b ne).trans e) hHC (zBn (zAZ I2.lt hCle)) (.inr (zAf I2.sz hCle))
  (λ x c e z=>by obtain⟨v,ic⟩:=I2.cell x c e;exact absurd (zAZ ic.lt (by rw[z];exact hCle)) (zBS _))
  (λ p hp z=>absurd (zAZ (I2.pinL hp) (by rw[z];exact hCle)) (zBS _))
theorem aCG(hN:X.N.Nodup)(hx1:X.N[i]? =some x)(hx2:Loc X.env.scope x)(B:gD X scope N st ks)(hc:X.calm=true)(hi:PI X tg iter wi)(hg:∀C fp s₀ H₀,PG (X.block scope C N fp s₀ H₀) tg g)(hgo:oG g ks)
  (ht:∀C fp s₀ H₀,aBi (X.block scope C N fp s₀ H₀) ifs tt)(he:∀C fp s₀ H₀,PE (X.block scope C N fp s₀ H₀) elt te)(hsw:zCk (.ListComp elt [⟨tg,iter,ifs,0⟩] scope pos) (some (.Name x pos')) spos.line X.env=pure true)
  (hs:∀x,zBM iter X.env x=pure x:=by intro _;rfl)(hf:X.fn x=true\/X.env.scope.names.lookup x=some .local:=by first|exact .inl rfl|exact .inr rfl|assumption):
  PS X (.Assign [.Name x pos'] (.ListComp elt [⟨tg,iter,ifs,0⟩] scope pos) spos) (aGN (tLC wi st g tt te) (vQ i)):=by
 intro pins s σ H D I h;have hcl:zFY scope X.env=pure (cA scope X.env):=mO λ y hy hk=>I.ok.has _ (B.free y hy hk)
 rw[exec_Assign_Name_used _ _ _ _ hsw];refine zAB (zD0 (zAB ?_));show wpAny _ _ (do let _ <-comprehension (.ListComp elt [⟨tg,iter,ifs,0⟩] scope pos) scope X.env _ (zFZ []) false (eval iter X.env) (some (zEe (.Name x pos') X.env))) _ _ s;refine zAB (zBH (zDv (use:=some (zEe (.Name x pos') X.env)) (Q:=λ _ s'=>SP X pins D .next s') rfl hs hcl B.kind B.loc (thn (hi pins s σ H _ I h) λ v s1 h1=>thn h1 λ itv s2 h2=>?_)) (λ _ s' hq=>zAE (zAE hq)) λ _ _ e=>e);obtain⟨it,fp,tn,J,H2,e,I2,T,st2,f2,hq⟩:=h2;subst e;refine aC2 (Q:=λ x H1=>vQ i x σ H1 D.nx) (RR:=λ acc C=>compPost (model X.prog X.w) X.A X.xe (some (zEe (.Name x pos') X.env)) (λ _ s'=>SP X pins D .next s') acc C) B hc hg hgo ht he I2 T st2 f2 hq ?_;intro DD C H' s' hJ hCle q;have I3:=aBd I2 f2 hJ;obtain⟨σ',J'⟩:=hJ;obtain⟨m,hn,_⟩:=id J'.loc;have hHC:H' C=none:=J'.free;have neL:C≠X.env.locals:=zBn (zAZ I2.lt hCle);have neC:∀x c,X.env.cells.lookup x=some c->c≠C:=λ x c e z=>by obtain⟨v,ic⟩:=I2.cell x c e;exact absurd (zAZ ic.lt (by rw[z];exact hCle)) (zBS _)
 show wpAny _ _ (zEe (.Name x pos') X.env (.ref DD)) _ _ _;refine zI0 ?_;refine zr I3 hN hx1 hx2 (show RelV (.ref DD) (.ref DD)from rfl) (λ s4 I4 ⟨a,hsa,ha⟩=>?_) hf;have nea:C≠a:=by
  rcases ha with z|z
  ·rw[z];exact neL
  ·exact zDD (neC _ _ z)
 refine⟨m,hn.sameBut hsa nea,λ h'' hs''=>⟨_,H',?_,q⟩⟩;exact I4.turned (t':=s4.toks) (λ b o ne e=>(hs''.2 b ne).trans e) hHC neL (.inr (zAf I2.sz hCle)) neC
  (λ p hp z=>absurd (zAZ (I2.pinL hp) (by rw[z];exact hCle)) (zBS _))
end
def CX1(P:zA7)(w:World):CXT:=λ outer H s E e s'=>∃(ea:Addr) (cls a0:Value) (B:Heap) (H':Hp),e= .ref ea/\s'.os=s.os/\zEQ s'.gens/\Un (frs outer) [] H H' s.heap s'.heap/\HOk P w H' B/\Heap.FlyingW B outer ea cls a0 s'.heap/\
 (∀b o,s.heap.get? b=some o->H b=none->b∉frs outer->B.get? b=some o)/\(∀b o,s.heap.get? b=some o->b∉frs outer->∃o',B.get? b=some o')/\E cls none H'
structure lN(X:Cx)(E:XK):Prop where
 stk:X.stack=X.env::X.outer
 fr:X.env.frame=some X.env.locals
 ex:X.ex=[]
 xe:X.xe=λ e s'=>wpAny (model X.prog X.w) X.A (leaving X.env e) (λ _ s''=>CX1 X.prog X.w X.outer X.H₀ X.s₀ E e s'') (λ e' s''=>CX1 X.prog X.w X.outer X.H₀ X.s₀ E e' s'') s'
theorem lN.of{K:zAA}:
  lN (aCl (CX1 P w) P w K mg base N qual scope f cd A outer s₀ H₀ E) E:=⟨rfl,rfl,rfl,rfl⟩
section
variable{X:Cx}{E:XK}
theorem aHp{B h':Heap}(hX:X.ex=[])(I:Inv X pins σ H s)
  (a1:∀b o,s.heap.get? b=some o->H b=none->b∉frs X.stack->B.get? b=some o)(a2:∀b o,s.heap.get? b=some o->b∉frs X.stack->∃o',B.get? b=some o')
  (a3:B.StaysIn h')(a4:∀b o,b∈frs X.outer->s.heap.get? b=some o->H b=none->(∀vs,o.data≠.fields vs)->∃sl,h'.get? b=some {o with slots:=sl})
  (a5:∀b o,s.heap.get? b=some o->H b=none->H' b=none)(a6:∀b xs,H b=some (.tup xs)->H' b=some (.tup xs))(a7:∀b o u,H b=some (.frz o u)->H' b=some (.frz o u))(a8:∀b ps,H b=some (.tbl ps)->∃more,H' b=some (.tbl (ps++more))):
  Un (frs X.outer) [] X.H₀ H' X.s₀.heap h'/\(∀b o,X.s₀.heap.get? b=some o->X.H₀ b=none->b∉frs X.outer->B.get? b=some o)/\(∀b o,X.s₀.heap.get? b=some o->b∉frs X.outer->∃o',B.get? b=some o'):=by
 have nx:∀b,b∉X.ex:=λ b z=>by rw[hX]at z;cases z
 have noS:∀b o,X.s₀.heap.get? b=some o->b∉frs X.outer->b∉frs X.stack:=λ b o e nf hb=>by
  rcases zAL.mp (I.stkSub b hb)with z|z
  ·exact absurd z (zAV (zAZ (zAP e) I.ok.above))
  ·exact nf z
 have bk:∀b o,X.s₀.heap.get? b=some o->X.H₀ b=none->b∉frs X.outer->B.get? b=some o:=λ b o e n nf=>
  a1 b o (I.base.keep b o e n nf (nx b)) (I.base.free b o e n (nx b)) (noS b o e nf)
 have ba:∀b o,X.s₀.heap.get? b=some o->b∉frs X.outer->∃o',B.get? b=some o':=λ b o e nf=>by
  obtain⟨o1,e1⟩:=I.base.there b o e (nx b);exact a2 b o1 e1 (noS b o e nf)
 have sl:∀b o,X.s₀.heap.get? b=some o->X.H₀ b=none->b∈frs X.outer->∃sl,h'.get? b=some {o with slots:=sl}:=λ b o e n hb=>by
  obtain⟨sl1,e1⟩:=I.base.slot b o e n hb (nx b);obtain⟨_,o2,ho2,hnf⟩:=I.ok.funs.mem hb;rw[e]at ho2;cases ho2;obtain⟨sl2,e2⟩:=a4 b _ hb e1 (I.base.free b o e n (nx b)) hnf;exact⟨sl2,e2⟩
 refine⟨⟨λ b o e n nf _=>a3 b o (bk b o e n nf),λ b o e n hb _=>sl b o e n hb,λ b o e n _=>?_,λ b o e _=>?_,λ b xs e=>a6 b xs (I.base.tups b xs e),λ b o u e=>a7 b o u (I.base.frzs b o u e),λ b ps e=>?_⟩,bk,ba⟩
 ·obtain⟨o1,e1⟩:=I.base.there b o e (nx b)
  exact a5 b o1 e1 (I.base.free b o e n (nx b))
 ·by_cases hb:b∈frs X.outer
  ·obtain⟨s2,e2⟩:=sl b o e (I.ok.frf b hb) hb
   exact⟨_,e2⟩
  ·obtain⟨o',e'⟩:=ba b o e hb
   exact⟨o',a3 b o' e'⟩
 ·obtain⟨m1,e1⟩:=I.base.tbls b ps e
  obtain⟨m2,e2⟩:=a8 b _ e1;exact⟨m1++m2,by rw[e2,zG9]⟩
theorem lN.pass(D:lN X E):aBh (CX1 X.prog X.w) X E:=by
 intro pins σ H s e s' I h;obtain⟨ea,cls,a0,B,H',rfl,os,bare,un,hok,fly,bk,ba,hE⟩:=h;rw[D.xe];have fly':=fly;rw[D.stk]at fly';have hfr:=I.ok.frames;rw[D.stk]at hfr;refine wpAny_leaves_onW (L:=X.env.locals) hfr D.fr fly' λ h' fl up=>?_
 have a4:∀b o,b∈frs X.outer->s.heap.get? b=some o->H b=none->(∀vs,o.data≠.fields vs)->∃sl,h'.get? b=some {o with slots:=sl}:=λ b o hb e n nf=>by
  have hb':b∈frs X.stack:=by
   rw[D.stk];unfold frs;rw[zBZ,D.fr];exact zAJ _ hb
  obtain⟨s1,e1⟩:=un.slot b o e n hb' (λ z=>nomatch z);obtain⟨s2,e2⟩:=up b _ e1 nf;exact⟨s2,e2⟩
 obtain⟨u1,u2,u3⟩:=aHp (B:=B) (h':=h') (H':=H') D.ex I bk ba fl.1 a4 (λ b o e n=>un.free b o e n (λ z=>nomatch z)) un.tups un.frzs un.tbls;exact⟨ea,cls,a0,B,H',rfl,os.trans I.os,bare,u1,hok,fl,u2,u3,hE⟩
theorem lN.raise(D:lN X E){ea:Addr}(I:Inv X pins σ H s)
  (hx:Heap.MadeExcOf s.heap h1 ea cls vs)(hE:E cls none H):X.xe (.ref ea) {s with heap:=h1}:=by
 rw[D.xe];have stk:s.heap.FunFrames X.base X.stack:=I.stack;have hin:∀env∈X.stack,∀a,env.frame=some a->a∈frs X.stack:=λ env he a ha=>zCP.mpr ⟨env,he,ha⟩
 have stk2:=PySem.W.funFrames_hide stk hin;have hfr:=I.ok.frames;rw[D.stk]at hfr;have stk3:s.heap.FunFrames (zDH s.heap (frs X.stack)) (X.env::X.outer):=by rw[<-D.stk];exact stk2
 refine wpAny_leaves_madeW (L:=X.env.locals) (base:=zDH s.heap (frs X.stack)) hfr D.fr (λ b o q=>zGS _ q) stk3 hx λ h' t fl tup bn up=>?_
 have hok:HOk X.prog X.w H (zDH s.heap (frs X.stack)):=λ a o e=>by
  refine(I.hok a o e).stay (λ b u hb q=>zDI _ q λ hm=>?_) (λ _ z=>z) λ _ _ z=>z
  have hn:=I.stkFree b hm;rcases hb with z|z
  ·rw[z,e]at hn;cases hn
  ·rw[z]at hn;cases hn
 obtain⟨u1,u2,u3⟩:=aHp (B:=zDH s.heap (frs X.stack)) (h':=h') (H':=H) D.ex I (λ b o e n nf=>zDI _ e nf) (λ b o e nf=>⟨o,zDI _ e nf⟩) fl.1
  (λ b o hb e n nf=>up b o (hx.keeps b o e) nf) (λ b o e n=>n) (λ _ _ e=>e) (λ _ _ _ e=>e) (λ b ps e=>⟨#[],by rw[e];simp⟩)
 exact⟨ea,cls,.ref t,_,H,rfl,I.os,I.bare,u1,hok,fl,u2,u3,hE⟩
theorem lN.own(D:lN X E):zH9 (model X.prog X.w) X.A X.env X.xe:=λ e s' h=>by
 rw[D.xe]at h ⊢;exact wpAny_leaving_again (SameStack.refl _) h
end
section
variable{P:zA7}{w:World}{K:zAA}{mg:Str->Option Value}{base:Heap}
theorem Fun.okX{st:Stmt}(F:Fun K x q st f fd)(S:bA N ps (aV st))(len:∀vs H Q E,sp vs H Q E->vs.length=ps.length)
  (hbody:∀(cdv:Value) (A:zAk) (outer:List Env) (s:zAG) (H:Hp) (vs:List V) (Q:VK) (E:XK),lU k (A.deeper (zEF q (aV st) s.heap.objs.size f cdv))->sp vs H Q E->
   ∃t,PSs (aCl (CX1 P w) P w K mg base N q (aV st) f cdv A outer s H E) (jf st) t/\t {nx:=λ _ H'=>Q .non H',rt:=Q} (start N vs) H):cj P w K mg base (CX1 P w) (k+1) f fd ps sp:=by
 obtain⟨oc,od,kV,doc,pm,an,cdv,ct,osl,rfl,lk,hcd⟩:=F.ex;exact aN6 lk hcd S len λ A outer s H vs Q E hr hsp=>hbody cdv A outer s H vs Q E hr hsp
end
def aCy(K:zAA)(C:Addr):Prop:=zEM K C [.type "ValueError",.type "Exception",.type "BaseException",.type "object"] "ValueError.__new__"=true
theorem aBF{K:zAA}(X:K.In h)(hm:mg x=some (.ref C))(q:aCy K C):OwnCls x C [.type "ValueError",.type "Exception",.type "BaseException",.type "object"] "ValueError.__new__" mg h:=by
 refine⟨hm,?_⟩;unfold aCy zEM at q;split at q
 ·rename_i dd cd sl ho
  split at q
  ·rename_i C' bm k0 k1 k2 k3 n k5 hm' hs
   simp only[zAN,beq_iff_eq,zEa]at q;obtain⟨⟨⟨⟨⟨rfl,rfl⟩,hdel⟩,ht⟩,hok⟩,hni⟩:=q;obtain⟨nm,bs,mro,ns,qn,hd,sn,sub,ab,col,del⟩:=cd;dsimp only at hm' hdel hok hni;subst hm' hdel;have hsl:sl=#[k0,k1,k2,k3,some (.builtin "ValueError.__new__"),k5]:=by
    obtain⟨l⟩:=sl;simp only at hs;rw[hs]
   subst hsl;exact⟨bm,ns,nm,qn,bs,hd,sn,sub,ab,col,dd,k0,k1,k2,k3,k5,_,X _ _ ho,.of_isNs (PySem.W.isNs_of_in X hok),PySem.W.nsMap_none_of_in X hok hni,PySem.W.tail_of_in X ht⟩
  ·cases q
 ·cases q
def aKs(C:Addr)(E:XK)(ta:TA):TS:=λ _ σ H=>ta σ H λ vs H1=>vs.length<=zAT/\E (.ref C) none H1
section
variable{X:Cx}{E:XK}
theorem aGp(D:lN X E)(hc:X.calm=true){rest:List Expr}(hm:X.mg x=some (.ref C))(hC:aCy X.K C)(hg:Gl X x)
  (ha:PA X (e₀::rest) ta)(he:zAW (e₀::rest) X.env=(false,eval e₀ X.env)::zAW rest X.env:=by rfl)
  (hplain:(zCV cpos (zAW rest X.env)).any (·.1)=false:=by rfl)(hd:(x==("__debug__":Str))=false:=by decide):
  PS X (.Raise (some (.Call (.Name x np) (e₀::rest) [] cpos)) none pos) (aKs C E ta):=by
 intro pins s σ H DD I h;obtain⟨tl,NN,nm,q,bs,hdct,sn,sub,ab,col,dd,k0,k1,k2,k3,k5,mN,hCo,hN,hni,T⟩:=(aBF (h:=X.base) I.mod.kin hm hC).obj;have FB:=PySem.F.excBase_ValueError;refine wpAny_Raise_call_subU (C:=C) (nm:=nm) (q:=q) (N:=NN) (bs:=bs) (bm:=tl) (hdct:=hdct) (sn:=sn) (sub:=sub) (ab:=ab) (col:=col) (dd:=dd) (k0:=k0) (k1:=k1) (k2:=k2) (k3:=k3) (k5:=k5)
  FB FB.hasB FB (mN:=mN) (T.hasType FB.hasBase) (I.ok.hd hc) (by rw[he];show(false||(zCV cpos (zAW rest X.env)).any (·.1))=false;rw[hplain];rfl) hni
  (aBQ I hg hm ⟨rfl,?_⟩ hd)
 have harg:=ha cpos pins s σ H _ I h;rw[he]at harg ⊢;refine zGK (zBH harg (λ vs s₂ h₂=>?_) λ _ _ y=>y);obtain⟨xs,H2,I2,rv,hz,hE⟩:=h₂;refine⟨rfl,by show vs.length<=zAT;rw[<-rv.length];exact hz,I2.bk _ _ hCo,hN.keeps I2.bk,T.keeps I2.bk,λ h' ea hx=>D.raise I2 hx hE⟩
end
section
variable(P:zA7)(w:World)
end
section
variable{P:zA7}{w:World}{H H':Hp}{h h':Heap}{a:Addr}{o:HO}
end
section
variable{P:zA7}{w:World}{H:Hp}{h h':Heap}{x e:Addr}{o':HO}
end
section
variable{fs fs' ex ex':List Addr}{H H1 H2:Hp}{h h1 h2 h':Heap}{a x e:Addr}{o:HO}
end
section
variable{X:Cx}{pins:List (Addr×Obj)}{σ:List (Option V)}{H H':Hp}{s:zAG}{h':Heap}
end
section
variable{X:Cx}
variable{a b:Expr}{ta tb:TE}{pos:Pos}
variable{tA tB':TT}{rest:List Expr}
end
section
variable{X:Cx}{pins:List (Addr×Obj)}{σ:St}{H:Hp}{s:zAG}{a:Addr}{xs ys:List V}
end
section
variable{X:Cx}{pins:List (Addr×Obj)}{σ:St}{H:Hp}{s:zAG}{E:Value->zAG->Prop}
end
section
variable{X:Cx}{st:Stmt}{rest:List Stmt}{t u:TS}{e:Expr}{te:TE}{pos:Pos}
end
section
variable{X:Cx}{pos:Pos}
end
section
variable{X:Cx}{pos:Pos}
end
section
variable{X:Cx}{tg:Expr}
end
section
variable{X:Cx}{a b c:Expr}{ta tb tc:TE}{pos:Pos}
end
section
variable{X:Cx}{a b c:Expr}{ta tb tc:TE}{pos:Pos}
end
section
variable{prog:zA7}{w:World}{A:zAk}{E:Value->zAG->Prop}{s:zAG}{K:zAA}{x dx C f:Addr}{mA:Str->Option Value}{name:Str}{v:Value}
end
section
variable{P:zA7}{w:World}{H H':Hp}{h h':Heap}{a C dx:Addr}{fs fs':List (Str×V)}
end
section
variable{X:Cx}{pins:List (Addr×Obj)}{σ:St}{H:Hp}{s:zAG}{a C dx:Addr}{fs:List (Str×V)}{f:Str}{v:V}{A:zAk}{E:Value->zAG->Prop}
end
section
variable{X:Cx}{o e value:Expr}{f:Str}{pos pos' tpos:Pos}{ta tv:TE}
end
section
variable{X:Cx}{pins:List (Addr×Obj)}{σ:St}{H:Hp}{s:zAG}{A:zAk}{E:Value->zAG->Prop}{Q:Value->zAG->Prop}{c:Value}{b:Bool}
end
section
variable{X:Cx}{e:Expr}{es:List Expr}{te:TE}{t:TA}{pos:Pos}
end
section
variable{X:Cx}{pins:List (Addr×Obj)}{σ:St}{H:Hp}{s s':zAG}
end
section
variable{X:Cx}{CX:CXT}{k:Nat}{f C:Addr}{fd:zAa}{ps:List Str}{sp:Sp}{dvs:List V}{ds:List Value}{E:XK}{x m:Str}{p pos apos:Pos}{e o:Expr}{es:List Expr}{ta:TE}{t:TA}
end
section
variable{X:Cx}{CX:CXT}{k:Nat}{f C:Addr}{fd:zAa}{ps ks:List Str}{sp:Sp}{E:XK}{x m:Str}{p pos apos kpos:Pos}{e o:Expr}{es:List Expr}{kws:List zDT}{te ta:TE}{t tk:TA}{nm:Option Str}
variable{g:List Value->List Value->List Value}{gV:List V->List V->List V}
end
section
variable{X:Cx}{x:Str}{p pos:Pos}{e:Expr}{es:List Expr}{t:TA}{id T:String}{r:List V->Hp->VK->Prop}
end
section
variable{κ:Type}[DecidableEq κ]
def vf(kvs:List (κ×V))(k:κ):Option V:=(kvs.find? λ kv=>decide (kv.1=k)).map (·.2)
def putK(kvs:List (κ×V))(k:κ)(v:V):List (κ×V):=
 if (kvs.any λ kv=>decide (kv.1=k))=true then kvs.map (λ kv=>if kv.1=k then(kv.1,v)else kv)else kvs++[(k,v)]
theorem wy{p:κ×V}{r:List (κ×V)}{k:κ}(e:p.1=k):vf (p::r) k=some p.2:=by simp[vf,zCn,e]
theorem xF{p:κ×V}{r:List (κ×V)}{k:κ}(e:¬p.1=k):vf (p::r) k=vf r k:=by simp[vf,zCn,e]
theorem aCV(kvs:List (κ×V))(k:κ)(v:V):(putK kvs k v).length<=kvs.length+1:=by
 unfold putK;split
 ·rw[zAF];omega
 ·rw[zAX,zA8,zAy];omega
theorem uQ.isSome_eq{o:Option V}{u:Option Value}(r:uQ o u):o.isSome=u.isSome:=by
 cases o with
 |none=>cases u with
  |none=>rfl
  |some _=>exact(show False from r).elim
 |some _=>cases u with
  |none=>exact(show False from r).elim
  |some _=>rfl
theorem KV.val{kvs:List (κ×V)}{vs:List (κ×Value)}(r:KV kvs vs)(k:κ):uQ (vf kvs k) (zGI vs k):=by
 unfold KV at r;induction r with
 |nil=>exact zDM
 |@cons p q ps qs h t ih=>
  obtain⟨h1,h2⟩:=h;by_cases e:p.1=k
  ·have e':q.1=k:=h1.symm.trans e
   have b:zGI (q::qs) k=some q.2:=by simp[zGI,zCn,e']
   rw[wy e,b];exact h2
  ·have e':¬q.1=k:=λ z=>e (h1.trans z)
   have b:zGI (q::qs) k=zGI qs k:=by simp[zGI,zCn,e']
   rw[xF e,b];exact ih
theorem KV.any{kvs:List (κ×V)}{vs:List (κ×Value)}(r:KV kvs vs)(k:κ):(kvs.any λ kv=>decide (kv.1=k))=vs.any λ kv=>decide (kv.1=k):=by
 unfold KV at r;induction r with
 |nil=>rfl
 |cons h t ih=>rw[zC1,zC1,ih,h.1]
theorem KV.repl{kvs:List (κ×V)}{vs:List (κ×Value)}(r:KV kvs vs)(k:κ){y:V}{u:Value}(ry:RelV y u):
  KV (kvs.map λ kv=>if kv.1=k then(kv.1,y)else kv) (vs.map λ kv=>if kv.1=k then(kv.1,u)else kv):=by
 unfold KV at r ⊢;induction r with
 |nil=>exact .nil
 |@cons p q ps qs h t ih=>
  rw[zAH,zAH];refine .cons ?_ ih;obtain⟨h1,h2⟩:=h;by_cases e:p.1=k
  ·rw[if_pos e,if_pos (h1.symm.trans e)];exact⟨h1,ry⟩
  ·rw[if_neg e,if_neg (λ z=>e (h1.trans z))];exact⟨h1,h2⟩
theorem KV.put{kvs:List (κ×V)}{vs:List (κ×Value)}(r:KV kvs vs)(k:κ){y:V}{u:Value}(ry:RelV y u):KV (putK kvs k y) (zII vs k u):=by
 unfold putK zII;rw[r.any k];by_cases e:(vs.any λ kv=>decide (kv.1=k))=true
 ·rw[if_pos e,if_pos e];exact r.repl k ry
 ·rw[if_neg e,if_neg e];exact Paired.snoc r ⟨rfl,ry⟩
end
theorem aEq{P:zA7}{w:World}{k:Key}{u:Value}(r:RelV (kV k) u):(di P w).is k u=true:=by
 cases k with
 |inl i=>obtain⟨t,e⟩:=(show∃t,u=zDN i t from r);subst e;exact aCQ P w i t
 |inr x=>obtain⟨t,e⟩:=(show∃t,u=zFz x t from r);subst e;exact aCP P w x t
theorem aAN{P:zA7}{w:World}:∀{ks:List Key} {us:List Value},Vals (ks.map kV) us->ItemsAre (di P w) ks us
 |[],_,r=>by rw[zEl]at r;cases r;exact .nil
 |k::ks,_,r=>by
  rw[zAH]at r;cases r with
  |cons h t=>exact .cons (aEq h) (aAN t)
abbrev KT(H:Hp):List (List Key×V)->List (List Key×Addr×Value)->Prop:=zGe λ p q=>p.1=q.1/\H q.2.1=some (.tup (p.1.map kV))/\RelV p.2 q.2.2
theorem KT.val{H:Hp}{kvs:List (List Key×V)}{xs:List (List Key×Addr×Value)}(r:KT H kvs xs)(k:List Key):uQ (vf kvs k) ((atKey xs k).map (·.2)):=by
 induction r with
 |nil=>exact zDM
 |@cons p q ps qs h t ih=>
  obtain⟨h1,_,h2⟩:=h;by_cases e:p.1=k
  ·have e':q.1=k:=h1.symm.trans e
   have b:atKey (q::qs) k=some q.2:=by simp[atKey,zCn,e']
   rw[wy e,b];exact h2
  ·have e':¬q.1=k:=λ z=>e (h1.trans z)
   have b:atKey (q::qs) k=atKey qs k:=by simp[atKey,zCn,e']
   rw[xF e,b];exact ih
section
variable{P:zA7}{w:World}{H:Hp}{h:Heap}{a:Addr}
theorem aKX{u:HO}(ok:HOk P w H h)(e:Rd H a u):dN P w H h a u:=e.ok ok
theorem aFD{kvs:List (Key×V)}(ok:HOk P w H h)(e:Rd H a (.dK kvs)):kvs.length<=zAT/\(a==zCY)=false/\∃vs,KV kvs vs/\h.DictOf (di P w) a vs:=
 show dN P w H h a (.dK kvs)from aKX ok e
theorem aKh{kvs:List (Key×V)}(ok:HOk P w H h)(e:H a=some (.dK kvs)):kvs.length<=zAT/\(a==zCY)=false/\∃vs,KV kvs vs/\h.DictOf (di P w) a vs:=aFD ok (.inl e)
theorem aDs{ks:List Key}(ok:HOk P w H h)(e:H a=some (.tup (ks.map kV))):(zHd (di P w)).is h ks a:=by
 obtain⟨_,its,r,o,h1,h2,n,h3⟩:=(show dN P w H h a (.tup (ks.map kV))from ok a _ e);exact⟨o,its.toArray,n,h1,h2,h3,by simpa using aAN r⟩
theorem aHw{kvs:List (List Key×V)}(ok:HOk P w H h)(e:Rd H a (.dT kvs)):kvs.length<=zAT/\(a==zCY)=false/\
  ∃xs,KT H kvs xs/\h.DictOfH (zHd (di P w)) a xs:=by
 obtain⟨z,y,xs,r,o,es,ep,h1,h2,h3,h4,h5⟩:=(show dN P w H h a (.dT kvs)from aKX ok e);refine⟨z,y,xs,r,o,es,ep,h1,h2,h3,h4,λ x hx=>?_,h5⟩;have all:∀{l:List (List Key×V)} {m:List (List Key×Addr×Value)},KT H l m->∀x∈m,(zHd (di P w)).is h x.1 x.2.1:=by
  intro l m q;induction q with
  |nil=>intro x hx;exact nomatch hx
  |@cons p q ps qs hq t ih=>
   intro x hx;rcases zAL.mp hx with e|hx
   ·subst e
    exact aDs ok (by rw[<-hq.1];exact hq.2.1)
   ·exact ih x hx
 exact all r x hx
end
def zF(H:Hp)(a:Addr)(y:V)(r:Option V):Prop:=
 (∃kvs k,Rd H a (.dK kvs)/\y=kV k/\r=vf kvs k)\/∃kvs k b,Rd H a (.dT kvs)/\y= .ref b/\H b=some (.tup (k.map kV))/\r=vf kvs k
theorem zF.k{H:Hp}{a:Addr}{kvs:List (Key×V)}{k:Key}(e:H a=some (.dK kvs)):zF H a (kV k) (vf kvs k):=.inl ⟨kvs,k,.inl e,rfl,rfl⟩
section
variable{X:Cx}{pins:List (Addr×Obj)}{σ:St}{H:Hp}{s:zAG}{a:Addr}{y v:V}{u r:Value}{o:Option V}{A:zAk}{E:Value->zAG->Prop}
theorem Inv.big(I:Inv X pins σ H s):zCY<s.heap.objs.size:=by
 have h:zA9<s.heap.objs.size:=(I.mod.glob.keeps I.bk).lt;exact zCF (by decide) h
theorem aFj{Q:Value->zAG->Prop}(hu:A.units+1<cLine)(I:Inv X pins σ H s)(g:zF H a y (some v))(ry:RelV y u)(h:∀w' s',Inv X pins σ H s'->RelV v w'->Q w' s'):
  wpAny (model X.prog X.w) A (zDn (.ref a) u) Q E s:=by
 rcases g with ⟨kvs,k,e,ey,l⟩|⟨kvs,k,b,e,ey,eb,l⟩
 ·subst ey
  obtain⟨z,hd,vs,rel,dd⟩:=aFD I.hok e;obtain⟨w',hw,rw'⟩:=uQ.some_of (v:=v) (o:=zGI vs k) (by rw[l];exact rel.val k);exact wpAny_getItem_of (aEq ry) dd.mapOf hw (h w' _ (I.tok _) rw')
 ·subst ey
  cases (show u=zBG b from ry);obtain⟨z,hd,xs,rel,dd⟩:=aHw I.hok e;obtain⟨w',hw,rw'⟩:=uQ.some_of (v:=v) (o:=(atKey xs k).map (·.2)) (by rw[l];exact rel.val k);obtain⟨p,hp,hp2⟩:=zCM.mp hw;refine wpAny_getItem_heap (zIJ hu) (aDs I.hok eb) dd hp ?_;rw[hp2];exact h w' _ (I.tok _) rw'
theorem aOC{Q:Value->zAG->Prop}(hu:A.units+1<cLine)(I:Inv X pins σ H s)(g:zF H a y o)(ry:RelV y u)(h:∀s',Inv X pins σ H s'->Q (.bool o.isSome) s'):
  wpAny (model X.prog X.w) A (zAo .In u (.ref a)) Q E s:=by
 rcases g with ⟨kvs,k,e,ey,l⟩|⟨kvs,k,b,e,ey,eb,l⟩
 ·subst ey
  obtain⟨z,hd,vs,rel,dd⟩:=aFD I.hok e;refine wpAny_in_of (aEq ry) hd dd.mapOf ?_;rw[<-(rel.val k).isSome_eq,<-l];exact h _ (I.tok _)
 ·subst ey
  cases (show u=zBG b from ry);obtain⟨z,hd,xs,rel,dd⟩:=aHw I.hok e;refine wpAny_in_heap (zIJ hu) (aDs I.hok eb) hd dd ?_;have q:=(rel.val k).isSome_eq;rw[Option.isSome_map]at q;rw[<-q,<-l];exact h _ (I.tok _)
theorem aM4{P:zA7}{w:World}{H':Hp}{h':Heap}{kvs:List (Key×V)}{vs:List (Key×Value)}(z:kvs.length<=zAT)(hd:(a==zCY)=false)(rel:KV kvs vs)(dd:h'.DictOf (di P w) a vs):
  dN P w H' h' a (.dK kvs):=⟨z,hd,vs,rel,dd⟩
end
section
variable{X:Cx}{pins:List (Addr×Obj)}{σ:St}{H:Hp}{s:zAG}{a:Addr}{kvs:List (Key×V)}{k:Key}{u:Value}{A:zAk}{E:Value->zAG->Prop}
end
def aNh(i:Expr):Prop:=∀ov iv,zGG i false ov iv=operate [ov,iv] (zDn ov iv)
theorem aI7{prog:zA7}{w:World}{A:zAk}{E:Value->zAG->Prop}{s:zAG}{env:Env}{value slice:Expr}{pos:Pos}{T id:String}{Q:Value->zAG->Prop}
  (hl:zD3 (.type T) "__getitem__"=pure (some (.builtin id)))(hs:aNh slice)
  (h:wpAny (model prog w) A (eval value env) (λ o s₁=>wpAny (model prog w) A (eval slice env) (λ i s₂=>s₂.TypeIs o T/\wpAny (model prog w) A (zDn o i) Q E s₂) E s₁) E s):
  wpAny (model prog w) A (eval (.Subscript value slice pos) env) Q E s:=by
 refine zGg (zBH h (λ o s₁ h₁=>zBH h₁ (λ i s₂ h₂=>?_) λ _ _ x=>x) λ _ _ x=>x);obtain⟨hT,h₂⟩:=h₂;unfold zFH;refine zAB ?_;rw[getitemInPython_of_ne hT.not_modules];refine zAB (zEX hT hl ?_);have fin:wpAny (model prog w) A (zGG slice false o i) (λ r s₃=>wpAny (model prog w) A (letTemporaryGo value o r>>=λ _=>pure r) Q E s₃) E s₂:=by
  rw[hs o i];exact wpAny_operating (zBH h₂ (λ r s₃ h₃=>zAB (wpAny_letTemporaryGo (zAE h₃))) λ _ _ x=>x)
 first
  |exact zAE (zAB fin)
  |exact zAB (zAE (zAB fin))
  |exact zAB fin
theorem aCj{X:Cx}{pins:List (Addr×Obj)}{σ:St}{H:Hp}{s:zAG}{a:Addr}{y:V}{o:Option V}(I:Inv X pins σ H s)(g:zF H a y o):s.TypeIs (.ref a) "dict":=by
 rcases g with ⟨kvs,k,e,_,_⟩|⟨kvs,k,b,e,_,_,_⟩
 ·obtain⟨_,_,vs,_,dd⟩:=aFD I.hok e
  exact dd.typeIs
 ·obtain⟨_,_,xs,_,dd⟩:=aHw I.hok e
  exact dd.typeIs
def aMs(td ty:TE):TE:=λ σ H Q=>td σ H λ x H1=>ty σ H1 λ y H2=>∃a v,x= .ref a/\zF H2 a y (some v)/\Q v H2
section
variable{X:Cx}{o i e value:Expr}{pos pos' tpos:Pos}{td ty tv:TE}
theorem aJL(hu:X.A.units+1<cLine)(ho:PE X o td)(hi:PE X i ty)(hs:aNh i):PE X (.Subscript o i pos) (aMs td ty):=by
 intro pins s σ H Q I h;refine aI7 PySem.F.slot_dict_getitem.lookup hs (thn (ho pins s σ H _ I h) λ u s1 ⟨x,H1,I1,rx,q1⟩=>thn (hi pins s1 σ H1 _ I1 q1) λ iv s2 ⟨y,H2,I2,ry,a,v,ex,g,q2⟩=>?_);subst ex;obtain rfl:u=zBG a:=rx;exact⟨aCj I2 g,aFj hu I2 g ry λ w' s3 I3 rw'=>⟨v,H2,I3,rw',q2⟩⟩
end
section
variable{X:Cx}{pos:Pos}
end
section
variable{X:Cx}{pins:List (Addr×Obj)}{σ:St}{H:Hp}{s:zAG}{a:Addr}{y d:V}{u r:Value}{o:Option V}{A:zAk}{E:Value->zAG->Prop}
end
section
variable{X:Cx}{o e f:Expr}{apos cpos:Pos}{td ty tx:TE}
end
section
variable{X:Cx}{pins:List (Addr×Obj)}{σ:St}{H:Hp}{s:zAG}{a:Addr}{kvs:List (Key×V)}{A:zAk}{E:Value->zAG->Prop}
end
section
variable{X:Cx}{pins:List (Addr×Obj)}{σ:St}{H:Hp}{s:zAG}{a:Addr}{y:V}{u:Value}{A:zAk}{E:Value->zAG->Prop}
end
end L2
namespace Att
open PySem PySem.W PySem.Calls PyProof.Rows
section
variable{prog:zA7}{w:World}{A:zAk}{E:Value->zAG->Prop}{s:zAG}{K:Frag}
end
end Att
namespace L2
open PySem PySem.Spec PyProof.Rows
section
variable{P:zA7}{w:World}{K:zAA}{mg:Str->Option Value}{base:Heap}
end
section
variable{X:Cx}
end
section
variable{κ:Type}[DecidableEq κ]
end
section
variable{X:Cx}{pins:List (Addr×Obj)}{σ:St}{H:Hp}{s:zAG}
structure aNi(X:Cx)(P:Addr):Prop where
 ta:∃o,X.ta=[(P,o)]
 ex:P∈X.ex
 tq:X.tq=X.env.qual++"<lambda>"
 code:∃c,X.env.code= .ref c/\PySem.W.CodeHd X.base c P
 blt:X.base.BuiltinsAt X.mg P
 gne:zA9≠P
end
section
variable{X:Cx}{pins:List (Addr×Obj)}{σ:St}{H:Hp}{s:zAG}
end
abbrev bmV:List Value:=[.type "ValueError",.type "Exception",.type "BaseException",.type "object"]
section
variable{prog:zA7}{w:World}{A:zAk}{E:Value->zAG->Prop}{h:Heap}{g:Array zFr}{d:Drawn}{t:Nat}{os:OsState}{a:Addr}{o:Obj}
 {nm q:Str}{C N:Addr}{bs bm:List Value}{hdct:Bool}{sn:List Str}{sub:List Value}{ab:Bool}{col:Option Bool}{dd:Option Addr}{k0 k1 k2 k3 k5:Option Value}{newId:String}{K:zAA}
theorem aCo{R:zDr->zAG->Prop}(hC:h.get? C=some (zGB nm q C N bs bm hdct sn sub ab col dd k0 k1 k2 k3 k5 newId))(T:OwnTail h bmV bm)
  (hx:h.get? a=some o)(hc:o.cls= .ref C)(hq:R (.ok (.ret (.ref C))) ⟨h,g,d,t,os⟩):
  zBm (model prog w) A (.call (.builtin "getset_descriptor.__get__") ⟨[.builtin "object.__class__",.ref a,.ref C],[]⟩) R ⟨h,g,d,t,os⟩:=by
 have hT5:(⟨h,g,d,t,os⟩:zAG).TypeIs (.builtin "object.__class__") "getset_descriptor":=zEJ;have hcB:(zBG C::bm).contains (.type (".".intercalate ("object.__class__".cutAt '.').dropLast))=true:=by
  rw[F.owner_object_class,zGl,T.hasType (X:="object") (b:=true) (by decide+kernel)];rfl
 refine zE9 zGV.plain F.entry_gs_get (zGV.check _ _ _ _ _ _ _ _ hT5 (F.args_gs_get _ _ _) ?_)
 repeat (any_goals (first|assumption|(with_reducible refine zDK hx ?_;rw[hc])|(with_reducible refine zHv hC ?_;rw[hcB])|wp_step))
 refine⟨zCl _ (by decide+kernel),zBT F.entry_object_class ?_⟩
 repeat (any_goals (first|assumption|(with_reducible refine zDK hx ?_;rw[hc])|wp_step))
theorem aB6{M:Model}{nameV:Value}{Q:Unit->zAG->Prop}(hC:h.get? C=some (zGB nm q C N bs bm hdct sn sub ab col dd k0 k1 k2 k3 k5 newId))(T:OwnTail h bmV bm)
  (hx:h.get? a=some o)(hc:o.cls= .ref C)(hq:Q () ⟨h,g,d,t,os⟩):wpAny M A (zFg "BaseException.__getattribute__" ⟨[.ref a,nameV],[]⟩) Q E ⟨h,g,d,t,os⟩:=by
 have hk:builtinKind "BaseException.__getattribute__"=some .slot:=by decide+kernel
 have hsplit:splitId "BaseException.__getattribute__"=some ("BaseException","__getattribute__"):=by decide+kernel
 have hcB:(zBG C::bm).contains (.type "BaseException")=true:=by rw[zGl,T.hasType (X:="BaseException") (b:=true) (by decide+kernel)];rfl
 have ha:=F.args_bexc_ga (.ref a) nameV;simp only[zFg,hk,hsplit];refine zAB ?_
 ·unfold isInstance
  repeat (first|(with_reducible refine zDK hx ?_;rw[hc])|(with_reducible refine zHv hC ?_;rw[hcB])|wp_step)
  exact hq
theorem zc{tk:Tok}{Q:Fin->zAG->Prop}(hC:h.get? C=some (zGB nm q C N bs bm hdct sn sub ab col dd k0 k1 k2 k3 k5 newId))(T:OwnTail h bmV bm)(lk:∀M:Model,zEL M h (zD3 (.ref C) "__class__") (some (.builtin "object.__class__")))
  (hx:h.get? a=some o)(hc:o.cls= .ref C)(hq:Q (.done (.ret (.ref C))) ⟨h,g,d,t,os⟩):
  wpAny (model prog w) A (zCO.«object.__getattribute__» ⟨[.ref a,.str "__class__" tk],[]⟩) Q E ⟨h,g,d,t,os⟩:=by
 have hT5:(⟨h,g,d,t,os⟩:zAG).TypeIs (.builtin "object.__class__") "getset_descriptor":=zEJ;have f5:=zEJ;have f6:=zGV.lookup;have f7:=F.slot_gs_set.lookup
 repeat (any_goals (first|assumption|(with_reducible refine zDK hx ?_;rw[hc])|with_reducible refine(lk _).here ?_|wp_step))
 refine aCo hC T hx hc ?_
 repeat (any_goals (first|assumption|wp_step))
theorem aB5{Q:Option Value->zAG->Prop}(hC:h.get? C=some (zGB nm q C N bs bm hdct sn sub ab col dd k0 k1 k2 k3 k5 newId))(T:OwnTail h bmV bm)(lk:∀M:Model,zEL M h (zD3 (.ref C) "__class__") (some (.builtin "object.__class__")))
  (lg:∀M:Model,zEL M h (zD3 (.ref C) "__getattribute__") (some (.builtin "BaseException.__getattribute__")))(ln:∀M:Model,zEL M h (zD3 (.ref C) "__getattr__") none)
  (hx:h.get? a=some o)(hc:o.cls= .ref C)(hq:Q (some (.ref C)) ⟨h,g,d,t+1,os⟩):wpAny (model prog w) A (zIF (.ref a) "__class__") Q E ⟨h,g,d,t,os⟩:=by
 have by_exc:∀{E:Value->zAG->Prop} {t:Nat} {tk:Tok} {Q:Value->zAG->Prop},Q (.ref C) ⟨h,g,d,t,os⟩->wpAny (model prog w) A (getAttrBy (.ref a) (.str "__class__" tk) false) Q E ⟨h,g,d,t,os⟩:=by
  intro E t tk Q hq;have FB:=PySem.F.excAttr_ValueError;have f3:=FB.ga.bind (.ref a);have hx0:(false&&onTheHeap (zDJ "BaseException.__getattribute__"))=false:=rfl;have hx2:(zDJ "BaseException.__getattribute__"==zDJ "object.__getattribute__")=false:=by decide+kernel
  have hx1:(onTheHeap (zBG C)&&zDJ "BaseException.__getattribute__"==zDJ "object.__getattribute__")=false:=by rw[hx2];rfl
  repeat (any_goals (first|assumption|(with_reducible refine zDK hx ?_;rw[hc])|with_reducible refine(lg _).here ?_|with_reducible refine(ln _).here ?_|wp_step))
  refine zE9 FB.ga.plain F.entry_bexc_ga (aB6 hC T hx hc (zc hC T lk hx hc ?_))
  repeat (any_goals (first|assumption|wp_step))
 unfold zIF getAttrBy?
 repeat (any_goals (first|assumption|with_reducible apply by_exc|wp_step))
theorem aHY(hE:aCy K C)(ha:zB2 K (.ref C) "__class__"=some (some (.builtin "object.__class__")))(hgt:zB2 K (.ref C) "__getattribute__"=some (some (.builtin "BaseException.__getattribute__")))
  (hga:zB2 K (.ref C) "__getattr__"=some none):PySem.W.KitX K (.ref a) (.ref C) (λ h=>∃o,h.get? a=some o/\o.cls= .ref C) where
 ty:=λ M h _ ⟨o,h1,h2⟩=>h2▸(zIR h1).andThen .now
 it:=λ M h X _=>by
  obtain⟨bm,NN,nm,q,bs,hdct,sn,sub,ab,col,dd,k0,k1,k2,k3,k5,mN,hC,_⟩:=(aBF (h:=h) (mg:=λ _=>some (.ref C)) (x:="x") X rfl hE).obj;intro A' Q' E' s' k q;unfold isType loadHead;exact zAB (wpAny_loadPart (k _ _ hC) (zAE q))
 ne:=λ h tp dd its n sl X htp=>by
  obtain⟨bm,NN,nm,q,bs,hdct,sn,sub,ab,col,dd,k0,k1,k2,k3,k5,mN,hC,_⟩:=(aBF (h:=h) (mg:=λ _=>some (.ref C)) (x:="x") X rfl hE).obj;refine Bool.eq_false_iff.mpr λ z=>?_
  have e:C=tp:=Value.ref.inj (beq_iff_eq.mp z);subst e;rw[hC]at htp;exact absurd (congrArg Obj.cls (zAr htp)) (by show zCB "type"≠zCB "tuple";decide+kernel)
 ca:=λ{prog w A E Q s} X ⟨o,h1,h2⟩ k=>by
  obtain⟨h,g,d,t,os⟩:=s;obtain⟨bm,NN,nm,q,bs,hdct,sn,sub,ab,col,dd,k0,k1,k2,k3,k5,mN,hC,hN,hni,T⟩:=(aBF (h:=h) (mg:=λ _=>some (.ref C)) (x:="x") X rfl hE).obj;exact aB5 hC T (λ M=>zDE X ha) (λ M=>zDE X hgt) (λ M=>zDE X hga) h1 h2 k
end
def excφ(a C:Addr):Heap->Prop:=λ h=>∃o,h.get? a=some o/\o.cls= .ref C
structure aOL(K:zAA)(C:Addr):Prop where
 ex:aCy K C
 ca:zB2 K (.ref C) "__class__"=some (some (.builtin "object.__class__"))
 gt:zB2 K (.ref C) "__getattribute__"=some (some (.builtin "BaseException.__getattribute__"))
 ga:zB2 K (.ref C) "__getattr__"=some none
section
variable{X:Cx}
def aK1(K:zAA):List V->Hp->VK->Prop:=λ xs H Q=>∃a C y c b,xs=[.ref a,y]/\RelV y c/\H a=some (.ext (excφ a C))/\aOL K C/\zDV K (.ref C) c=some b/\Q (.bl b) H
theorem aFt:cX X (.builtin "isinstance") (aK1 X.K):=by
 intro pins s σ H xs us Q I r h;obtain⟨a,C,y,c,b,rfl,ry,ha,kc,e,q⟩:=h;obtain⟨u,w',rfl,r1,r2⟩:=vals2 r;cases r1;have hc:w'=c:=by
  cases y<;>first
   |(cases r2;cases ry;rfl)
   |(obtain⟨t1,rfl⟩:=r2;obtain⟨t2,rfl⟩:=ry;exact absurd e (by simp[zDV,PySem.W.kitCls]))
 subst hc;obtain⟨p,_⟩:excφ a C s.heap/\_:=I.hok a _ ha;exact zBJ (aHY kc.ex kc.ca kc.gt kc.ga) I.kIn p e (λ z=>nomatch z) λ tk=>⟨.bl b,H,I.tok tk,rfl,q⟩
end
section
variable{X:Cx}{pins:List (Addr×Obj)}{σ:St}{H:Hp}{s:zAG}
end
section
variable{M:Model}{A:zAk}{E:Value->zAG->Prop}{h:Heap}{g:Array zFr}{d:Drawn}{t:Nat}{os:OsState}
variable{nm q:Str}{C N:Addr}{bs bm:List Value}{hdct:Bool}{sn:List Str}{sub:List Value}{ab:Bool}{col:Option Bool}{dd:Option Addr}{k0 k1 k2 k3 k5:Option Value}{newId:String}
variable{nm' q':Str}{C' N':Addr}{bs' bm':List Value}{hdct':Bool}{sn':List Str}{sub':List Value}{ab':Bool}{col':Option Bool}{dd':Option Addr}{k0' k1' k2' k3' k5':Option Value}{newId':String}
end
section
variable{X:Cx}{E E':XK}
end
structure aNg(k:Nat)(A:zAk):Prop where
 dp:A.depth+3*k+5<zG8
 un:A.units+16*k+200<cLine
structure FnH(P:zA7)(w:World)(K:zAA)(mg:Str->Option Value)(base:Heap)(k:Nat)(f:Addr)(fd:zAa)(ps:List Str)(sp:Sp):Prop where
 len:∀vs H Q E,sp vs H Q E->vs.length=ps.length
 run:∀(A:zAk) (outer:List Env) (s:zAG) (H:Hp) (args:Args) (us:List Value) (vs:List V) (Q:VK) (E:XK),aNg k A->aIV P w K mg base A outer s H->zFT s fd args (ps.zip us)->Vals vs us->sp vs H Q E->
  zBm (model P w) A (.call (.ref f) args) (CR CX0 outer P w H s Q E) s
section
variable{P:zA7}{w:World}{K:zAA}{mg:Str->Option Value}{base:Heap}
end
section
variable{X:Cx}{k:Nat}{f:Addr}{fd:zAa}{ps:List Str}{sp:Sp}{dvs:List V}{ds:List Value}{E:XK}{x:Str}{p pos:Pos}{e:Expr}{es:List Expr}{t:TA}
end
section
variable{X:Cx}{E:XK}{n0 n1 n2 few cn pe told:Str}{C' fc:Addr}{fdc:zAa}{kc k0:Nat}{wd:Addr->Option Str}
end
def aNs(K:zAA)(c:V):TE:=tCB (aK1 K) (kI (zK 0) (kI (tC c) uR))
section
variable{K:zAA}{σ:St}{H:Hp}{ea C:Addr}
end
section
variable{X:Cx}{n0 n1 n2 odd:Str}{c1 c2:V}{k1 k2 k3 k4:List V}{l1 l2:List Str}{a1 a2:Expr}{as1 as2 e1 e2 e3 e4 w1 w2:List Expr}{kw1 kw2:List zDT}{Q:VK}{H:Hp}{vs:List V}
 {p1 p2 p3 p4 p5 p6 p7 p8 p9 p10 p11 p12 p13 p14 p15 p16 p17 p18 p19 p20 p21 p22 p23 p24 p25 p26 p27 p28 p29 p30 p31 p32 p33 p34 p35 p36 p37 p38 p39 p40:Pos}{q1 q2 q3 q4 q5 q6 q7:Pos}{j1 j2 j3 j4 j5:Nat}{E0:XK}{wd:Addr->Option Str}
end
structure vJ(d:Nat)(e tg iter:Expr)(ifs:List Expr)(body:Env->Addr->Sem Unit):Prop where
 under:∀(A:zAk) (it:Value) (D:Addr) (env:Env),A.under (.compLoop e d it (.ref D) env)=A
 den:∀(prog:zA7) (w:World) (it:Value) (D:Addr) (env:Env),(model prog w).den (.compLoop e d it (.ref D) env)=(zIE e d it (.ref D) env).onRaise (λ x=>do noteFrame x env;theTreesLotGoes x)
 turn:∀(it:Value) (D:Addr) (env:Env),zIE e d it (.ref D) env=(do
   zGF iter.pos
   match <-zEh it with
   |none=>pure (.done .next)
   |some v=>
    zCz tg it v
    zEe tg env v
    let mut ok:=true
    for c in ifs do if ok then ok <-isTrue c env (eval c env)
    if ok then
     body env D
    again (.compLoop e d it (.ref D) env))
section
variable{s:zAG}{A:zAk}{prog:zA7}{w:World}{R:zDr->zAG->Prop}
theorem uG{D:Addr}(hb:vJ d e tg iter ifs body)(I:Nat->zAG->Prop)
  (one:∀n s,I n s->wpAny (model prog w) A (zEh it) (λ r s₁=>match r with
   |none=>R (.ok .next) s₁
   |some v=>wpAny (model prog w) A (zCz tg it v) (λ _ s₁=>wpAny (model prog w) A (zEe tg env v) (λ _ s₂=>
     wpAny (model prog w) A (forIn ifs true λ c r=>if r=true then do let ok <-isTrue c env (eval c env);pure (zBb ok)else pure (zBb r)) (λ ok s₃=>if ok=true then wpAny (model prog w) A (body env D) (λ _ s₅=>∃m,m<n/\I m s₅) (λ _ _=>False) s₃
      else∃m,m<n/\I m s₃) (λ _ _=>False) s₂) (λ _ _=>False) s₁) (λ _ _=>False) s₁) (λ _ _=>False) s)
  (n:Nat)(h:I n s):zBm (model prog w) A (.compLoop e d it (.ref D) env) R s:=by
 refine codeAny_loop rfl I (λ n s hJ=>?_) n h;rw[hb.under,hb.den];refine wpAny_noted ?_;rw[hb.turn];refine zAB (zD0 (zAB (zBH (one n s hJ) (λ r s₁ h₁=>?_) λ _ _ h'=>h'.elim)));cases r with
 |none=>exact zAE h₁
 |some v=>
  refine zAB (zBH h₁ (λ _ s₁ h₁=>?_) λ _ _ h'=>h'.elim);refine zAB (zBH h₁ (λ _ s₂ h₂=>zAB (zBH h₂ (λ ok s₃ h₃=>?_) λ _ _ h'=>h'.elim)) λ _ _ h'=>h'.elim);cases ok with
  |false=>exact zAE (zFS rfl h₃)
  |true=>exact zAB (zBH h₃ (λ _ s₄ h₄=>zAE ⟨rfl,h₄⟩) λ _ _ h'=>h'.elim)
end
def w6(d:Nat)(e:Expr):Prop:=∀{prog:zA7} {w:World} {A:zAk} {R:zDr->zAG->Prop} {s:zAG} {it acc:Value} {env:Env},
  zBm (model prog w) A (.compLoop e d it acc env) R s->
  wpAny (model prog w) A (zGi it) (λ it' s'=>zBm (model prog w) A (.compLoop e d it' acc env) R s') (notedBy (model prog w) A env λ x s'=>R (.error x) s') s->
  zBm (model prog w) A (.compStart e d it acc env) R s
structure aIW(mk:Sem Value)(obs:Obj->Prop)(o:Addr->HO):Prop where
 make:∀{prog:zA7} {w:World} {A:zAk} {Q:Value->zAG->Prop} {E:Value->zAG->Prop} {s:zAG},(∀ob,obs ob->Q (.ref s.heap.objs.size) {s with heap:=s.heap.push ob})->wpAny (model prog w) A mk Q E s
 live:∀ob,obs ob->ob.isFreed=false
 ok:∀{P:zA7} {w:World} {H:Hp} {h:Heap} {a:Addr} {ob:Obj},obs ob->h.get? a=some ob->zCY<a->dN P w H h a (o a)
def PB(X:Cx)(body:Env->Addr->Sem Unit)(tb:Addr->St->Hp->(Hp->Prop)->Prop):Prop:=
 ∀(D:Addr) (pins:List (Addr×Obj)) (s:zAG) (σ:St) (H:Hp) (Q:Hp->Prop),Inv X pins σ H s->tb D σ H Q->wpAny (model X.prog X.w) X.A (body X.env D) (λ _ s'=>∃H',Inv X pins σ H' s'/\Q H') X.xe s
theorem aOE(I:Inv X pins σ H s):zCY<s.heap.objs.size:=
 zCF (by decide) (I.mod.glob.keeps I.bk).lt
def aMt(o:Addr->HO)(wi:TI)(st:St->St)(g:TG)(tt:TT)(tb:Addr->St->Hp->(Hp->Prop)->Prop):TE:=λ σ H Q=>wi σ H λ J H1=>∀l,H1 l=none->∃W:Nat->Nat->Hp->Prop,(∃m,W 0 m (upd H1 l (o l)))/\
 ∀i m H2,W i m H2->((J.stop i H2/\Q (.ref l) H2)\/(J.go i H2/\∀x H3,J.yld i H2 x H3->g x (st σ) H3 λ σ4 H4=>tt σ4 H4 λ ok H5=>
  if ok=true then tb l σ4 H5 λ H6=>∃m',m'<m/\W (i+1) m' H6 else∃m',m'<m/\W (i+1) m' H5))
section
variable{X:Cx}{e tg iter:Expr}{ifs:List Expr}{scope:Scope}{N:List Str}{st:St->St}{ks:List Nat}{wi:TI}{g:TG}{tt:TT}{body:Env->Addr->Sem Unit}{tb:Addr->St->Hp->(Hp->Prop)->Prop}{pos:Pos}{mk:Sem Value}{obs:Obj->Prop}{o:Addr->HO}
theorem aIE(B:gD X scope N st ks)(hc:X.calm=true)(hT:vJ 0 e tg iter ifs body)(hS:w6 0 e)(hA:aIW mk obs o)(hg:∀C fp s₀ H₀,PG (X.block scope C N fp s₀ H₀) tg g)(hgo:oG g ks)(ht:∀C fp s₀ H₀,aBi (X.block scope C N fp s₀ H₀) ifs tt)
  (he:∀C fp s₀ H₀,PB (X.block scope C N fp s₀ H₀) body tb){Q:VK}{RR:Value->Addr->zDr->zAG->Prop}
  (I:Inv X pins σ H1 s₂)(T:Turn X.prog X.w X.K tg J fp it tn)(h0:tn 0 s₂.heap)(hfp:∀b∈fp,sV X pins H1 b)
  (h:∀l,H1 l=none->∃W:Nat->Nat->Hp->Prop,(∃m,W 0 m (upd H1 l (o l)))/\
   ∀i m H2,W i m H2->((J.stop i H2/\Q (.ref l) H2)\/(J.go i H2/\∀x H3,J.yld i H2 x H3->g x (st σ) H3 λ σ4 H4=>tt σ4 H4 λ ok H5=>
    if ok=true then tb l σ4 H5 λ H6=>∃m',m'<m/\W (i+1) m' H6 else∃m',m'<m/\W (i+1) m' H5)))
  (hRR:∀D C H' s',(∃σ',Inv (X.block scope C N fp s₂ H1) [] σ' H' s')->s₂.heap.objs.size<=C->Q (.ref D) H'->RR (.ref D) C (.ok .next) s'):
  wpAny (model X.prog X.w) X.A mk (λ acc s₃=>wpAny (model X.prog X.w) X.A (zEg scope X.env.globals (cA scope X.env) [] X.env.qual none .none (some X.env)) (λ cenv s₄=>
   zBm (model X.prog X.w) X.A (.compStart e 0 (.ref it) acc {cenv with scope:=zF0 scope X.env}) (RR acc cenv.locals) s₄) E s₃) E s₂:=by
 refine hA.make λ ob hob=>aEi λ h₁ hns₁ hold₁ hcs₁=>?_
 dsimp only at hns₁ hold₁ hcs₁ ⊢;generalize hH2:s₂.heap.push ob=P2 at hns₁ hold₁ hcs₁ ⊢;have hC:P2.objs.size=s₂.heap.objs.size+1:=by rw[<-hH2,zBP]
 have hDC:s₂.heap.objs.size≠P2.objs.size:=by rw[hC];exact zAV (zBk _)
 have hCle:s₂.heap.objs.size<=P2.objs.size:=by rw[hC];exact zDl _
 have old:∀b o,s₂.heap.get? b=some o->h₁.get? b=some o:=λ b o e=>hold₁ b o (hH2▸zAD _ e)
 have hacc:h₁.get? s₂.heap.objs.size=some ob:=hold₁ _ _ (hH2▸zAK _ (hA.live ob hob));generalize hCe:P2.objs.size=C at hns₁ hold₁ hcs₁ hDC hCle hC ⊢;have hHD:H1 s₂.heap.objs.size=none:=I.hok.fresh (zAO _);have I0:Inv (X.block scope C N fp s₂ H1) [] (st σ) (upd H1 s₂.heap.objs.size (o s₂.heap.objs.size)) {s₂ with heap:=h₁,toks:=s₂.toks}:=
  I.block B hfp (λ b hb=>by obtain⟨o,e,_⟩:=T.obj 0 _ h0 b hb;exact⟨o,e⟩) (zAO _) hCle hDC old hns₁ hcs₁ (λ c hc=>zAV (zHI hCle hc)) (hA.ok hob hacc (aOE I))
 obtain⟨W,⟨m0,w0⟩,step⟩:=h _ hHD;have h01:tn 0 h₁:=T.keep 0 _ _ h0 λ b _ o e=>old b o e
 have stat:∀{H':Hp},(∀b∈fp,H' b=none)->∀b∈fp,sV (X.block scope C N fp s₂ H1) [] H' b:=λ{H'} hn b hb=>
  ⟨hn b hb,(I0.ok.exf b hb).1,I0.ok.exfs b hb,.inl hb,λ x c e=>(I0.ok.exf b hb).2 x c e,λ p hp=>absurd (show p∈([]:List (Addr×Obj))from hp) (by simp)⟩
 have fr0:∀b∈fp,upd H1 s₂.heap.objs.size (o s₂.heap.objs.size) b=none:=λ b hb=>by
  obtain⟨o,e,_⟩:=T.obj 0 _ h0 b hb;rw[bI (zAV (zAP e))];exact(hfp b hb).1
 have loop:∀sx:zAG,sx={s₂ with heap:=h₁,toks:=s₂.toks}->
   zBm (model X.prog X.w) X.A (.compLoop e 0 (.ref it) (.ref s₂.heap.objs.size) (X.block scope C N fp s₂ H1).env) (RR (.ref s₂.heap.objs.size) C) sx:=by
  rintro sx rfl;refine uG hT (λ n s'=>∃i H2,Inv (X.block scope C N fp s₂ H1) [] (st σ) H2 s'/\tn i s'.heap/\(∀b∈fp,H2 b=none)/\W i n H2) ?_ m0 ⟨0,_,I0,h01,fr0,w0⟩;rintro n s3 ⟨i,H2,I2,st2,fr2,w2⟩;rcases step i n H2 w2 with ⟨stop,q⟩|⟨go,nxt⟩
  ·refine thn (T.done (X.block scope C N fp s₂ H1) rfl rfl rfl hc i [] s3 (st σ) H2 _ I2 (stat fr2) st2 stop) λ r s4 ⟨hr,I4⟩=>?_
   subst hr;exact hRR _ C H2 s4 ⟨_,I4⟩ hCle q
  ·refine thn (T.item (X.block scope C N fp s₂ H1) rfl rfl rfl hc i [] s3 (st σ) H2 _ I2 (stat fr2) st2 go) λ r s4 ⟨u,hr,h4⟩=>?_
   subst hr;refine thn h4 λ _ s5 ⟨x,H5,I5,r5,y5,st5,fr5⟩=>?_
   have I5p:=I5.pinned (stat fr5) (T.obj _ _ st5);refine thn (hg C fp s₂ H1 _ s5 (st σ) H5 x u _ I5p r5 (hgo _ _ _ _ (nxt x H5 y5))) λ _ s6 ⟨σ6,H6,I6,q6,aF6,ag6⟩=>?_
   refine thn (ht C fp s₂ H1 _ s6 σ6 H6 _ I6 q6) λ ok s7 ⟨H7,I7,q7⟩=>?_
   have again:∀{H9:Hp} {s9:zAG},Inv (X.block scope C N fp s₂ H1) ([]++rQ fp s5.heap) σ6 H9 s9->(∃m',m'<n/\W (i+1) m' H9)->
     ∃m,m<n/\∃i H2,Inv (X.block scope C N fp s₂ H1) [] (st σ) H2 s9/\tn i s9.heap/\(∀b∈fp,H2 b=none)/\W i m H2:=λ{H9 s9} I9 ⟨m',hm,w9⟩=>by
    have pin9:∀b∈fp,∀o,s5.heap.get? b=some o->s9.heap.get? b=some o/\H9 b=none:=λ b hb o e=>by
     have z:=I9.pin (b,o) (zA5 _ (zA5 _ (lA hb e)));exact⟨z.1,z.2.1⟩
    refine⟨m',hm,i+1,H9,I9.unpinned.weak (by rw[aF6]) (λ k v e=>?_),T.keep _ _ _ st5 λ b hb o e=>(pin9 b hb o e).1,λ b hb=>?_,w9⟩
    ·have hk:k<(st σ).length:=(zAI.mp e).1
     have hkN:k<N.length:=by rw[<-B.len σ];exact hk
     obtain⟨_,hks,_⟩:=B.val σ k _ v (zAC hkN) e;rw[ag6 k hks];exact e
    ·obtain⟨o,e,_⟩:=T.obj _ _ st5 b hb
     exact(pin9 b hb o e).2
   cases ok with
   |false=>
    rw[if_neg zA2]at q7 ⊢;exact again I7 q7
   |true=>
    rw[if_pos rfl]at q7 ⊢;exact thn (he C fp s₂ H1 _ _ s7 σ6 H7 _ I7 q7) λ _ s8 ⟨H8,I8,q8⟩=>again I8 q8
 exact hS (loop _ rfl) (T.self X.A 0 _ _ _ h01 (loop _ rfl))
theorem aNN(B:gD X scope N st ks)(hc:X.calm=true)(hi:PI X tg iter wi)(hg:∀C fp s₀ H₀,PG (X.block scope C N fp s₀ H₀) tg g)(hgo:oG g ks)(ht:∀C fp s₀ H₀,aBi (X.block scope C N fp s₀ H₀) ifs tt)
  (hT:vJ 0 e tg iter ifs body)(hS:w6 0 e)(hA:aIW mk obs o)(he:∀C fp s₀ H₀,PB (X.block scope C N fp s₀ H₀) body tb)(hcs:clausesOf e=⟨tg,iter,ifs,0⟩::gs)(hev:eval e X.env=comprehension e scope X.env (firstIterPos (⟨tg,iter,ifs,0⟩::gs) pos) mk false (eval iter X.env))(hs:∀x,zBM iter X.env x=pure x:=by intro _;rfl):PE X e (aMt o wi st g tt tb):=by
 intro pins s σ H Q I h;have hcl:zFY scope X.env=pure (cA scope X.env):=mO λ y hy hk=>I.ok.has _ (B.free y hy hk)
 rw[hev];refine zDv (use:=none) hcs hs hcl B.kind B.loc (thn (hi pins s σ H _ I h) λ v s1 h1=>thn h1 λ itv s2 h2=>?_);obtain⟨it,fp,tn,J,H2,e,I2,T,st2,f2,hq⟩:=h2;subst e;refine aIE (RR:=λ acc C=>compPost (model X.prog X.w) X.A X.xe none (EP X pins σ Q) acc C) B hc hT hS hA hg hgo ht he I2 T st2 f2 hq ?_;intro D C H' s' hJ hCle q;have I3:=aBd I2 f2 hJ;obtain⟨σ',J'⟩:=hJ;obtain⟨m,hn,_⟩:=id J'.loc;have hHC:H' C=none:=J'.free;refine⟨m,hn,λ h'' hs''=>⟨.ref D,H',?_,rfl,q⟩⟩;exact I3.turned (t':=s'.toks) (λ b o ne e=>(hs''.2 b ne).trans e) hHC (zBn (zAZ I2.lt hCle)) (.inr (zAf I2.sz hCle))
  (λ x c e z=>by obtain⟨v,ic⟩:=I2.cell x c e;exact absurd (zAZ ic.lt (by rw[z];exact hCle)) (zBS _))
  (λ p hp z=>absurd (zAZ (I2.pinL hp) (by rw[z];exact hCle)) (zBS _))
end
section
variable{X:Cx}{elt tg iter:Expr}{ifs:List Expr}{scope:Scope}{pos:Pos}{N:List Str}{st:St->St}{ks:List Nat}{wi:TI}{g:TG}{tt:TT}{te:TE}
end
def aBO(elt:Expr)(env:Env)(D:Addr):Sem Unit:=do let _ <-call (.builtin "list.append") [.ref D,<-eval elt env]
def aKS(te:TE):Addr->St->Hp->(Hp->Prop)->Prop:=λ D σ H Q=>te σ H λ y H1=>∃acc,H1 D=some (.lst acc)/\acc.length<zAT/\Q (upd H1 D (.lst (acc++[y])))
theorem aLd(he:PE X elt te):PB X (aBO elt) (aKS te):=by
 intro D pins s σ H Q I h;unfold aBO;refine zAB (thn (he pins s σ H _ I h) λ u s1 ⟨y,H1,I1,r1,acc,hD,hz,q⟩=>zAB ?_);refine thn (uq _ s1 σ H1 (.ref D) [y] (.ref D) [u] (λ _ H9=>H9=upd H1 D (.lst (acc++[y]))) I1 rfl (.cons r1 .nil) ⟨_,acc,y,rfl,rfl,hD,hz,rfl⟩) λ _ s2 ⟨_,H2,I2,_,e⟩=>?_
 subst e;exact zAE ⟨_,I2,q⟩
theorem aKL:aIW (zFZ []) (λ ob=>ob={cls:=.type "list",data:=.seq #[]}) (λ _=>.lst []) where
 make:=λ h=>zAg (h _ rfl)
 live:=by rintro ob rfl;rfl
 ok:=by
  rintro P w H h a ob rfl hg hb;exact⟨zAb _,[],_,.nil,hg⟩
def tK(e iter2:Expr)(env:Env)(D:Addr):Sem Unit:=do
 let x <-eval iter2 env
 zGF iter2.pos
 let x <-zBM iter2 env x;let _ <-runOwn (.compStart e 1 (<-zEs [x] (zGi x)) (.ref D) env) env
theorem aGF(elt tg iter tg2 iter2:Expr)(ifs ifs2:List Expr)(scope:Scope)(pos:Pos):vJ 0 (.ListComp elt [⟨tg,iter,ifs,0⟩,⟨tg2,iter2,ifs2,0⟩] scope pos) tg iter ifs (tK (.ListComp elt [⟨tg,iter,ifs,0⟩,⟨tg2,iter2,ifs2,0⟩] scope pos) iter2):=
 ⟨λ _ _ _ _=>rfl,λ _ _ _ _ _=>rfl,λ _ _ _=>by unfold tK zIE;simp only[bind_assoc];rfl⟩
theorem aGE(elt tg iter tg2 iter2:Expr)(ifs ifs2:List Expr)(scope:Scope)(pos:Pos):vJ 1 (.ListComp elt [⟨tg,iter,ifs,0⟩,⟨tg2,iter2,ifs2,0⟩] scope pos) tg2 iter2 ifs2 (aBO elt):=
 ⟨λ _ _ _ _=>rfl,λ _ _ _ _ _=>rfl,λ _ _ _=>rfl⟩
theorem aBn(hcl:(clausesOf e)[d]? =some ⟨tg,iter,ifs,0⟩)(hu:∀(A:zAk) (it acc:Value) (env:Env),A.under (.compStart e d it acc env)=A)
  (hd:∀(prog:zA7) (w:World) (it acc:Value) (env:Env),(model prog w).den (.compStart e d it acc env)=(compStart e d it acc env).onRaise (λ x=>do noteFrame x env;zGF theWindowsPlace)):w6 d e:=by
 intro prog w A R s it acc env h0 h;refine zGA ?_;rw[hu,hd];refine wpAny_notedAt ?_;unfold compStart;rw[hcl];show wpAny _ A (ask>>=_) _ _ s;refine zAB (zCp (wpAny_ite ?_));split
 ·first|exact zAB (zAE (zAE (zFS rfl h0)))|exact zAE (zFS rfl h0)
 ·first
   |exact zAB (zD4 (zAB (zD0 (zAB (zBH h (λ it2 s2 h2=>zAE (zFS rfl h2)) λ _ _ x=>x)))))
   |(refine zAB (zD4 ?_);(show wpAny _ _ (zGF iter.pos>>=_) _ _ s);exact zAB (zD0 (zAB (zBH h (λ it2 s2 h2=>zAE (zFS rfl h2)) λ _ _ x=>x))))
def aGJ(ks:List Nat)(wi:TI)(g:TG)(tt:TT)(tb:Addr->St->Hp->(Hp->Prop)->Prop):Addr->St->Hp->(Hp->Prop)->Prop:=λ D σ H Q=>(∀k∈ks,∀v,σ[k]?≠some (some v))/\wi σ H λ J H1=>∃W:Nat->Nat->Hp->Prop,(∃m,W 0 m H1)/\
 ∀i m H2,W i m H2->((J.stop i H2/\Q H2)\/(J.go i H2/\∀x H3,J.yld i H2 x H3->g x σ H3 λ σ4 H4=>tt σ4 H4 λ ok H5=>
  if ok=true then tb D σ4 H5 λ H6=>∃m',m'<m/\W (i+1) m' H6 else∃m',m'<m/\W (i+1) m' H5))
theorem aJP(hc:X.calm=true)(hx:∀v s,X.xe v s->False)(hT:vJ 1 e tg iter ifs body)(hS:w6 1 e)
  (hi:PI X tg iter wi)(hg:PG X tg g)(hgo:oG g ks)(ht:aBi X ifs tt)(he:PB X body tb)(hs:∀x,zBM iter X.env x=pure x:=by intro _;rfl):PB X (tK e iter) (aGJ ks wi g tt tb):=by
 have nf:∀{α:Type} {m:Sem α} {Q:α->zAG->Prop} {s:zAG},wpAny (model X.prog X.w) X.A m Q X.xe s->wpAny (model X.prog X.w) X.A m Q (λ _ _=>False) s:=λ h=>zBH h (λ _ _ q=>q) hx
 intro D pins s σ H Q I h;obtain⟨hno,h⟩:=h;unfold tK;refine zAB (thn (hi pins s σ H _ I h) λ v s1 h1=>zAB (zD0 (zAB (zEu (hs v) (zAB (zBj (thn h1 λ itv s2 h2=>zAB ?_)))))));obtain⟨it,fp,tn,J,H1,e1,I1,T,st1,f1,W,⟨m0,w0⟩,step⟩:=h2;subst e1;have stat:∀{H':Hp},(∀b∈fp,H' b=none)->∀b∈fp,sV X pins H' b:=λ{H'} hn b hb=>⟨hn b hb,(f1 b hb).2⟩
 have loop:zBm (model X.prog X.w) X.A (.compLoop e 1 (.ref it) (.ref D) X.env) (λ r s'=>match r with| .ok _=>(∃H',Inv X pins σ H' s'/\Q H')| .error _=>False) s2:=by
  refine uG hT (λ n s'=>∃i H2,Inv X pins σ H2 s'/\tn i s'.heap/\(∀b∈fp,H2 b=none)/\W i n H2) ?_ m0 ⟨0,H1,I1,st1,λ b hb=>(f1 b hb).1,w0⟩;rintro n s3 ⟨i,H2,I2,st2,fr2,w2⟩;rcases step i n H2 w2 with ⟨stop,q⟩|⟨go,nxt⟩
  ·refine thn (T.done X rfl rfl rfl hc i pins s3 σ H2 _ I2 (stat fr2) st2 stop) λ r s4 ⟨hr,I4⟩=>?_
   subst hr;exact⟨H2,I4,q⟩
  ·refine thn (T.item X rfl rfl rfl hc i pins s3 σ H2 _ I2 (stat fr2) st2 go) λ r s4 ⟨u,hr,h4⟩=>?_
   subst hr;refine thn h4 λ _ s5 ⟨x,H5,I5,r5,y5,st5,fr5⟩=>?_
   have I5p:=I5.pinned (stat fr5) (T.obj _ _ st5);refine thn (nf (hg _ s5 σ H5 x u _ I5p r5 (hgo _ _ _ _ (nxt x H5 y5)))) λ _ s6 ⟨σ6,H6,I6,q6,aF6,ag6⟩=>?_
   refine thn (nf (ht _ s6 σ6 H6 _ I6 q6)) λ ok s7 ⟨H7,I7,q7⟩=>?_
   have again:∀{H9:Hp} {s9:zAG},Inv X (pins++rQ fp s5.heap) σ6 H9 s9->(∃m',m'<n/\W (i+1) m' H9)->∃m,m<n/\∃i H2,Inv X pins σ H2 s9/\tn i s9.heap/\(∀b∈fp,H2 b=none)/\W i m H2:=λ{H9 s9} I9 ⟨m',hm,w9⟩=>by
    have pin9:∀b∈fp,∀o,s5.heap.get? b=some o->s9.heap.get? b=some o/\H9 b=none:=λ b hb o e=>by
     have z:=I9.pin (b,o) (zA5 _ (zA5 _ (lA hb e)));exact⟨z.1,z.2.1⟩
    refine⟨m',hm,i+1,H9,I9.unpinned.weak (by rw[aF6]) (λ k v e=>?_),T.keep _ _ _ st5 λ b hb o e=>(pin9 b hb o e).1,λ b hb=>?_,w9⟩
    ·by_cases hk:k∈ks
     ·exact absurd e (hno k hk v)
     ·rw[ag6 k hk];exact e
    ·obtain⟨o,e,_⟩:=T.obj _ _ st5 b hb
     exact(pin9 b hb o e).2
   cases ok with
   |false=>
    rw[if_neg zA2]at q7 ⊢;exact again I7 q7
   |true=>
    rw[if_pos rfl]at q7 ⊢;exact thn (nf (he D _ s7 σ6 H7 _ I7 q7)) λ _ s8 ⟨H8,I8,q8⟩=>again I8 q8
 refine wpAny_runOwn (h:=none) (zCs (hS loop (T.self X.A 0 _ _ _ st1 loop)) λ r s' hr=>?_);cases r with
 |ok f=>exact zAE hr
 |error x=>exact hr.elim
end L2
namespace VL
open PySem PySem.Spec PyProof.Rows L2
inductive D where
 |non|bl (b:Bool)|int (i:Int)|str (x:Str)|tup (l:List D)|lst (l:List D)|dct (ks vs:List D)|set (l:List Int)|scr (l:List Int)|fn (x:Str)
instance:Inhabited D:=⟨.non⟩
def kD:Key->D
 | .inl i=>.int i
 | .inr x=>.str x
variable{K:zAA}
def pP(K:zAA)(H:Hp)(a:Addr)(ns:List Int):Prop:=(∃o,H a=some (.frz o (.lst (ns.map V.int))))\/
 ∃(o:Obj) (its:Array Value) (n:Nat),K.lookup a=some o/\o.cls= .type "list"/\o.dict=none/\o.data= .seq its n/\its.size<=zAT/\Vals (ns.map V.int) its.toList
theorem pP.sq(h:pP K H a ns):SqL K H a (ns.map V.int):=by
 rcases h with h|h
 ·exact .inl (.inr h)
 ·exact .inr h
def hsh(ns:List Int):Int:=reduceHash (zIM (ns.map hashInt))
def dxO(a:Addr)(es:List (List Int×Addr×V)):HO:=.ext λ h=>es.length<=zAT/\(a==zCY)=false/\∃(xs:List (List Int×Addr×Value)) (o:Obj) (ts:Array DictEntry) (ep:Nat),zGe (λ e x=>e.1=x.1/\e.2.1=x.2.1/\RelV e.2.2 x.2.2) es xs/\
 h.get? a=some o/\o.ExactDict/\o.data= .dict ts ep/\ts.toList=xs.map λ x=>⟨hsh x.1,.ref x.2.1,x.2.2⟩
structure DxK(K:zAA)(H:Hp)(a:Addr)(es:List (List Int×Addr×V)):Prop where
 at_:H a=some (dxO a es)
 ks:∀e∈es,SqT K H e.2.1 (e.1.map V.int)
 nd:(es.map (·.1)).Nodup
mutual
inductive Rp(K:zAA):(Addr->Prop)->Hp->V->D->Prop where
 |non {A:Addr->Prop} {H:Hp}:Rp K A H .non .non
 |bl {A:Addr->Prop} {H:Hp} (b:Bool):Rp K A H (.bl b) (.bl b)
 |int {A:Addr->Prop} {H:Hp} (i:Int):Rp K A H (.int i) (.int i)
 |str {A:Addr->Prop} {H:Hp} (x:Str):Rp K A H (.str x) (.str x)
 |tup {A:Addr->Prop} {H:Hp} {a:Addr} {xs:List V} {ds:List D} (h:SqT K H a xs) (r:Rps K A H xs ds):Rp K A H (.ref a) (.tup ds)
 |lst {A:Addr->Prop} {H:Hp} {a:Addr} {xs:List V} {ds:List D} (h:H a=some (.lst xs)) (m:A a) (r:Rps K (λ p=>A p/\p≠a) H xs ds):Rp K A H (.ref a) (.lst ds)
 |dK {A:Addr->Prop} {H:Hp} {a:Addr} {kvs:List (Key×V)} {ds:List D} (h:H a=some (.dK kvs)) (m:A a) (r:Rps K (λ p=>A p/\p≠a) H (kvs.map (·.2)) ds):Rp K A H (.ref a) (.dct (kvs.map λ p=>kD p.1) ds)
 |dT {A:Addr->Prop} {H:Hp} {a:Addr} {es:List (List Int×Addr×V)} {ds:List D} (h:DxK K H a es) (m:A a) (r:Rps K (λ p=>A p/\p≠a) H (es.map (·.2.2)) ds):Rp K A H (.ref a) (.dct (.non::es.map λ e=>.tup (e.1.map .int)) ds)
 |set {A:Addr->Prop} {H:Hp} {a:Addr} {S:Int->Bool} {l:List Int} (h:H a=some (.set S l.length)) (m:A a) (hS:∀i,S i=decide (i∈l)) (nd:l.Nodup):Rp K A H (.ref a) (.set l)
 |scr {A:Addr->Prop} {H:Hp} {a:Addr} {ns:List Int} (h:pP K H a ns):Rp K A H (.ref a) (.scr ns)
 |fn {A:Addr->Prop} {H:Hp} {a:Addr} {x:Str} (h:zAh K zA9 x=some (some (.ref a))):Rp K A H (.ref a) (.fn x)
inductive Rps(K:zAA):(Addr->Prop)->Hp->List V->List D->Prop where
 |nil {A:Addr->Prop} {H:Hp}:Rps K A H [] []
 |cons {A:Addr->Prop} {H:Hp} {x:V} {d:D} {xs:List V} {ds:List D} (h:Rp K A H x d) (r:Rps K A H xs ds):Rps K A H (x::xs) (d::ds)
end
theorem pP.mono(s:aa H H')(h:pP K H a ns):pP K H' a ns:=by
 rcases h with ⟨o,h⟩|h
 ·exact .inl ⟨o,s _ _ h⟩
 ·exact .inr h
theorem DxK.mono(h:DxK K H a es)(s:aa H H'):DxK K H' a es:=⟨s _ _ h.at_,λ e he=>s.sqt (h.ks e he),h.nd⟩
theorem Rp.mono'(s:aa H H')(r:Rp K A H x d)(hA:∀p o,H p=some o->A p->A' p):Rp K A' H' x d:=
 Rp.rec (motive_1:=λ A H x d _=>∀H',aa H H'->∀A':Addr->Prop,(∀p o,H p=some o->A p->A' p)->Rp K A' H' x d) (motive_2:=λ A H xs ds _=>∀H',aa H H'->∀A':Addr->Prop,(∀p o,H p=some o->A p->A' p)->Rps K A' H' xs ds)
  (λ _ _ _ _=>.non) (λ b _ _ _ _=>.bl b) (λ i _ _ _ _=>.int i) (λ x _ _ _ _=>.str x) (λ h _ ih _ s _ hA=>.tup (s.sqt h) (ih _ s _ hA))
  (λ h m _ ih _ s _ hA=>.lst (s _ _ h) (hA _ _ h m) (ih _ s _ λ p o e z=>⟨hA p o e z.1,z.2⟩)) (λ h m _ ih _ s _ hA=>.dK (s _ _ h) (hA _ _ h m) (ih _ s _ λ p o e z=>⟨hA p o e z.1,z.2⟩))
  (λ h m _ ih _ s _ hA=>.dT (h.mono s) (hA _ _ h.at_ m) (ih _ s _ λ p o e z=>⟨hA p o e z.1,z.2⟩)) (λ h m hS nd _ s _ hA=>.set (s _ _ h) (hA _ _ h m) hS nd) (λ h _ s _ _=>.scr (h.mono s)) (λ h _ _ _ _=>.fn h) (λ _ _ _ _=>.nil) (λ _ _ ih ir _ s _ hA=>.cons (ih _ s _ hA) (ir _ s _ hA)) r H' s A' hA
theorem Rps.mono'(s:aa H H')(r:Rps K A H xs ds)(hA:∀p o,H p=some o->A p->A' p):Rps K A' H' xs ds:=
 Rps.rec (motive_1:=λ A H x d _=>∀H',aa H H'->∀A':Addr->Prop,(∀p o,H p=some o->A p->A' p)->Rp K A' H' x d) (motive_2:=λ A H xs ds _=>∀H',aa H H'->∀A':Addr->Prop,(∀p o,H p=some o->A p->A' p)->Rps K A' H' xs ds)
  (λ _ _ _ _=>.non) (λ b _ _ _ _=>.bl b) (λ i _ _ _ _=>.int i) (λ x _ _ _ _=>.str x) (λ h _ ih _ s _ hA=>.tup (s.sqt h) (ih _ s _ hA))
  (λ h m _ ih _ s _ hA=>.lst (s _ _ h) (hA _ _ h m) (ih _ s _ λ p o e z=>⟨hA p o e z.1,z.2⟩)) (λ h m _ ih _ s _ hA=>.dK (s _ _ h) (hA _ _ h m) (ih _ s _ λ p o e z=>⟨hA p o e z.1,z.2⟩))
  (λ h m _ ih _ s _ hA=>.dT (h.mono s) (hA _ _ h.at_ m) (ih _ s _ λ p o e z=>⟨hA p o e z.1,z.2⟩)) (λ h m hS nd _ s _ hA=>.set (s _ _ h) (hA _ _ h m) hS nd) (λ h _ s _ _=>.scr (h.mono s)) (λ h _ _ _ _=>.fn h) (λ _ _ _ _=>.nil) (λ _ _ ih ir _ s _ hA=>.cons (ih _ s _ hA) (ir _ s _ hA)) r H' s A' hA
theorem Rp.mono(s:aa H H')(hA:∀p o,H p=some o->A p->A' p)(r:Rp K A H x d):Rp K A' H' x d:=r.mono' s hA
theorem Rps.mono(s:aa H H')(hA:∀p o,H p=some o->A p->A' p)(r:Rps K A H x d):Rps K A' H' x d:=r.mono' s hA
theorem Rp.up(s:aa H H')(r:Rp K A H x d):Rp K A H' x d:=r.mono s λ _ _ _ h=>h
theorem Rp.wk(hA:∀p o,H p=some o->A p->A' p)(r:Rp K A H x d):Rp K A' H x d:=r.mono (aa.refl H) hA
theorem Rps.up(s:aa H H')(r:Rps K A H x d):Rps K A H' x d:=r.mono s λ _ _ _ h=>h
theorem Rps.wk(hA:∀p o,H p=some o->A p->A' p)(r:Rps K A H x d):Rps K A' H x d:=r.mono (aa.refl H) hA
def lC:HO->Bool
 | .lst _=>true| .dK _=>true| .dT _=>true| .set _ _=>true| .ext _=>true|_=>false
theorem aAh(s:nG l H H')(hl:H l=some o)(ho:lC o=true)(h:SqT K H a xs):SqT K H' a xs:=by
 rcases h with (h|⟨u,h⟩)|h
 ·refine .inl (.inl (s _ _ (λ e=>?_) h))
  subst e;rw[hl]at h;cases h;cases ho
 ·refine .inl (.inr ⟨u,s _ _ (λ e=>?_) h⟩)
  subst e;rw[hl]at h;cases h;cases ho
 ·exact .inr h
theorem aE2(s:nG l H H')(hl:H l=some o)(ho:lC o=true)(h:pP K H a ns):pP K H' a ns:=by
 rcases h with ⟨u,h⟩|h
 ·exact .inl ⟨u,s _ _ (λ e=>by subst e;rw[hl]at h;cases h;cases ho) h⟩
 ·exact .inr h
theorem DxK.but(h:DxK K H a es)(s:nG l H H')(hl:H l=some o)(ho:lC o=true)(ne:a≠l):DxK K H' a es:=
 ⟨s _ _ ne h.at_,λ e he=>aAh s hl ho (h.ks e he),h.nd⟩
theorem Rp.but'(s:nG l H H')(hl:H l=some o)(ho:lC o=true)(r:Rp K A H x d)(hA:¬A l):Rp K A H' x d:=
 Rp.rec (motive_1:=λ A H x d _=>∀H',nG l H H'->∀o:HO,H l=some o->lC o=true->¬A l->Rp K A H' x d) (motive_2:=λ A H xs ds _=>∀H',nG l H H'->∀o:HO,H l=some o->lC o=true->¬A l->Rps K A H' xs ds)
  (λ _ _ _ _ _ _=>.non) (λ b _ _ _ _ _ _=>.bl b) (λ i _ _ _ _ _ _=>.int i) (λ x _ _ _ _ _ _=>.str x) (λ h _ ih _ s o hl ho hA=>.tup (aAh s hl ho h) (ih _ s o hl ho hA))
  (λ h m _ ih _ s o hl ho hA=>.lst (s _ _ (λ e=>hA (e▸m)) h) m (ih _ s o hl ho λ z=>hA z.1)) (λ h m _ ih _ s o hl ho hA=>.dK (s _ _ (λ e=>hA (e▸m)) h) m (ih _ s o hl ho λ z=>hA z.1))
  (λ h m _ ih _ s o hl ho hA=>.dT (h.but s hl ho λ e=>hA (e▸m)) m (ih _ s o hl ho λ z=>hA z.1)) (λ h m hS nd _ s o hl ho hA=>.set (s _ _ (λ e=>hA (e▸m)) h) m hS nd) (λ h _ s o hl ho _=>.scr (aE2 s hl ho h)) (λ h _ _ _ _ _ _=>.fn h) (λ _ _ _ _ _ _=>.nil) (λ _ _ ih ir _ s o hl ho hA=>.cons (ih _ s o hl ho hA) (ir _ s o hl ho hA)) r H' s o hl ho hA
theorem Rps.but'(s:nG l H H')(hl:H l=some o)(ho:lC o=true)(r:Rps K A H xs ds)(hA:¬A l):Rps K A H' xs ds:=
 Rps.rec (motive_1:=λ A H x d _=>∀H',nG l H H'->∀o:HO,H l=some o->lC o=true->¬A l->Rp K A H' x d) (motive_2:=λ A H xs ds _=>∀H',nG l H H'->∀o:HO,H l=some o->lC o=true->¬A l->Rps K A H' xs ds)
  (λ _ _ _ _ _ _=>.non) (λ b _ _ _ _ _ _=>.bl b) (λ i _ _ _ _ _ _=>.int i) (λ x _ _ _ _ _ _=>.str x) (λ h _ ih _ s o hl ho hA=>.tup (aAh s hl ho h) (ih _ s o hl ho hA))
  (λ h m _ ih _ s o hl ho hA=>.lst (s _ _ (λ e=>hA (e▸m)) h) m (ih _ s o hl ho λ z=>hA z.1)) (λ h m _ ih _ s o hl ho hA=>.dK (s _ _ (λ e=>hA (e▸m)) h) m (ih _ s o hl ho λ z=>hA z.1))
  (λ h m _ ih _ s o hl ho hA=>.dT (h.but s hl ho λ e=>hA (e▸m)) m (ih _ s o hl ho λ z=>hA z.1)) (λ h m hS nd _ s o hl ho hA=>.set (s _ _ (λ e=>hA (e▸m)) h) m hS nd) (λ h _ s o hl ho _=>.scr (aE2 s hl ho h)) (λ h _ _ _ _ _ _=>.fn h) (λ _ _ _ _ _ _=>.nil) (λ _ _ ih ir _ s o hl ho hA=>.cons (ih _ s o hl ho hA) (ir _ s o hl ho hA)) r H' s o hl ho hA
theorem Rp.but(s:nG l H H')(hl:H l=some o)(ho:lC o=true)(hA:¬A l)(r:Rp K A H x d):Rp K A H' x d:=r.but' s hl ho hA
theorem Rps.but(s:nG l H H')(hl:H l=some o)(ho:lC o=true)(hA:¬A l)(r:Rps K A H x d):Rps K A H' x d:=r.but' s hl ho hA
mutual
def imm:D->Bool
 | .tup l=>jb l
 | .lst _=>false
 | .dct _ _=>false
 | .set _=>false
 |_=>true
def jb:List D->Bool
 |[]=>true
 |d::r=>imm d&&jb r
end
theorem aAQ(e:jb (d::r)=true):imm d=true/\jb r=true:=by
 simp only[jb,zAN]at e;exact e
theorem aJl(e:imm (.tup l)=true):jb l=true:=by simpa[imm]using e
theorem aJp(e:imm (.lst l)=true):False:=by simp[imm]at e
theorem aEy(e:imm (.dct l k)=true):False:=by simp[imm]at e
theorem aJm(e:imm (.set l)=true):False:=by simp[imm]at e
theorem Rp.imm'(r:Rp K A H x d)(e:VL.imm d=true):Rp K A' H x d:=
 Rp.rec (motive_1:=λ _ H x d _=>VL.imm d=true->Rp K A' H x d) (motive_2:=λ _ H xs ds _=>jb ds=true->Rps K A' H xs ds)
  (λ _=>.non) (λ b _=>.bl b) (λ i _=>.int i) (λ x _=>.str x) (λ h _ ih e=>.tup h (ih (aJl e)))
  (λ _ _ _ _ e=>(aJp e).elim) (λ _ _ _ _ e=>(aEy e).elim) (λ _ _ _ _ e=>(aEy e).elim) (λ _ _ _ _ e=>(aJm e).elim) (λ h _=>.scr h) (λ h _=>.fn h) (λ _=>.nil) (λ _ _ ih ir e=>.cons (ih (aAQ e).1) (ir (aAQ e).2)) r e
theorem Rp.imm(r:Rp K A H x d)(h:VL.imm d=true):Rp K A' H x d:=r.imm' h
theorem Rp.int_inv(r:Rp K A H v (.int i)):v= .int i:=by cases r;rfl
theorem Rp.tup_inv(r:Rp K A H v (.tup ds)):∃a xs,v= .ref a/\SqT K H a xs/\Rps K A H xs ds:=by cases r with|tup h r=>exact⟨_,_,rfl,h,r⟩
theorem Rp.lst_inv(r:Rp K A H v (.lst ds)):∃a xs,v= .ref a/\H a=some (.lst xs)/\A a/\Rps K (λ p=>A p/\p≠a) H xs ds:=by cases r with|lst h m r=>exact⟨_,_,rfl,h,m,r⟩
theorem Rp.scr_inv(r:Rp K A H v (.scr ns)):∃a,v= .ref a/\pP K H a ns:=by cases r with|scr h=>exact⟨_,rfl,h⟩
theorem Rps.one_inv(r:Rps K A H vs [d]):∃v,vs=[v]/\Rp K A H v d:=by cases r with|cons h r=>cases r;exact⟨_,rfl,h⟩
section
variable{A:Addr->Prop}{H:Hp}
theorem Rps.length:∀{xs:List V} {ds:List D},Rps K A H xs ds->xs.length=ds.length:=by
 intro xs ds h;induction xs generalizing ds with
 |nil=>cases h;rfl
 |cons x xs ih=>cases h with|cons _ r=>exact congrArg (·+1) (ih r)
theorem Rps.get:∀{xs:List V} {ds:List D} {i:Nat} {x:V},Rps K A H xs ds->xs[i]? =some x->∃d,ds[i]? =some d/\Rp K A H x d
 |_,_,_,_,.nil,e=>by simp at e
 |_,_,0,_,.cons h _,e=>by simp at e;subst e;exact⟨_,rfl,h⟩
 |_,_,i+1,x,.cons _ r,e=>by
  obtain⟨d,h1,h2⟩:=Rps.get (i:=i) (x:=x) r (by simpa using e);exact⟨d,by simpa using h1,h2⟩
theorem Rps.getD:∀{xs:List V} {ds:List D} {i:Nat} {d:D},Rps K A H xs ds->ds[i]? =some d->∃x,xs[i]? =some x/\Rp K A H x d
 |_,_,_,_,.nil,e=>by simp at e
 |_,_,0,_,.cons h _,e=>by simp at e;subst e;exact⟨_,rfl,h⟩
 |_,_,i+1,d,.cons _ r,e=>by
  obtain⟨x,h1,h2⟩:=Rps.getD (i:=i) (d:=d) r (by simpa using e);exact⟨x,by simpa using h1,h2⟩
theorem Rps.append:∀{xs ys:List V} {ds es:List D},Rps K A H xs ds->Rps K A H ys es->Rps K A H (xs++ys) (ds++es):=by
 intro xs ys ds es h s;induction xs generalizing ds with
 |nil=>cases h;exact s
 |cons x xs ih=>cases h with|cons h r=>exact .cons h (ih r)
theorem Rps.take:∀{xs:List V} {ds:List D} (n:Nat),Rps K A H xs ds->Rps K A H (xs.take n) (ds.take n)
 |_,_,0,_=>.nil
 |_,_,_+1,.nil=>.nil
 |_,_,n+1,.cons h r=>.cons h (Rps.take n r)
theorem Rps.drop:∀{xs:List V} {ds:List D} (n:Nat),Rps K A H xs ds->Rps K A H (xs.drop n) (ds.drop n)
 |_,_,0,r=>r
 |_,_,_+1,.nil=>.nil
 |_,_,n+1,.cons _ r=>Rps.drop n r
theorem Rps.reverse:∀{xs:List V} {ds:List D},Rps K A H xs ds->Rps K A H xs.reverse ds.reverse:=by
 intro xs ds h;induction xs generalizing ds with
 |nil=>cases h;exact .nil
 |cons x xs ih=>
  cases h with
  |cons h r=>
   rw[zCw,zCw];exact Rps.append (ih r) (.cons h .nil)
theorem Rps.ints:∀{ns:List Int},Rps K A H (ns.map V.int) (ns.map D.int)
 |[]=>.nil
 |n::ns=>.cons (.int n) Rps.ints
theorem Rps.ints_of:∀{xs:List V} {ns:List Int},Rps K A H xs (ns.map D.int)->xs=ns.map V.int
 |_,[],.nil=>rfl
 |_,n::ns,.cons h r=>by
  cases h;rw[zAH,Rps.ints_of r]
end
theorem aR(h:a=b):a=b:=h
inductive Rs(α:Type) where
 |ok (a:α)|ex (c:Str)|st
def Rs.bd{α β:Type}:Rs α->(α->Rs β)->Rs β
 | .ok a,f=>f a
 | .ex c,_=>.ex c
 | .st,_=>.st
@[simp] theorem aL(a:α)(f:α->Rs β):(Rs.ok a).bd f=f a:=aR rfl
theorem cW{r:Rs α}(h:r.bd f= .ok b):∃a,r= .ok a/\f a= .ok b:=by
 cases r with
 |ok a=>exact⟨a,rfl,h⟩
 |ex c=>cases h
 |st=>cases h
inductive Slot where
 |no|sh (d:D)|nw (d:D)|ow (d:D)|oz (d:D)|o2 (l:List (List D))
abbrev En:=List Slot
abbrev Lab:=Addr->Nat×Nat
abbrev Mode:=Option (List Nat)
def inM(m:Mode)(n:Nat):Prop:=match m with
 |none=>True
 |some L=>n∈L
def jn:Mode->Mode->Mode
 |some a,some b=>some (a++b)
 |_,_=>none
theorem aN2(h:inM a n):inM (jn a b) n:=by
 cases a with
 |none=>cases b<;>exact trivial
 |some L=>
  cases b with
  |none=>exact trivial
  |some M=>exact zA6 _ h
theorem aN1(h:inM b n):inM (jn a b) n:=by
 cases a with
 |none=>cases b<;>exact trivial
 |some L=>
  cases b with
  |none=>exact trivial
  |some M=>exact zA5 _ h
def fpM(m:Mode)(lab:Lab)(H:Hp):Addr->Prop:=λ p=>H p=none\/inM m (lab p).1
theorem aHo(h:fpM a lab H p):fpM (jn a b) lab H p:=h.imp id aN2
theorem aHn(h:fpM b lab H p):fpM (jn a b) lab H p:=h.imp id aN1
theorem tX(s:aa H H')(h:fpM m lab H' p):fpM m lab H p:=h.imp (λ z=>s.free z) id
structure Gx where
 H0:Hp
 E:XK
 cl:Str->Addr
def aHM:D->Bool
 | .lst _=>true
 | .dct _ _=>true
 | .set _=>true
 |_=>false
def iQ(K:zAA)(H:Hp)(lab:Lab)(i:Nat)(v:V):Slot->Prop
 | .no=>True
 | .sh d=>Rp K (λ p=>(lab p).1<=1) H v d
 | .nw d=>Rp K (λ p=>(lab p).1=1) H v d
 | .ow d=>Rp K (λ p=>(lab p).1=1\/(lab p).1=i+2) H v d/\(aHM d=true->∃a,v= .ref a/\(lab a).1=i+2)
 | .oz d=>∃a xs ds,v= .ref a/\d= .lst ds/\H a=some (.lst xs)/\(lab a).1=i+2/\Rps K (λ p=>(lab p).1<=1) H xs ds
 | .o2 l=>∃a xs,v= .ref a/\H a=some (.lst xs)/\lab a=(i+2,0)/\xs.length=l.length/\∀(j:Nat) x ds,xs[j]? =some x->l[j]? =some ds->Rp K (λ p=>lab p=(i+2,j+1)) H x (.lst ds)
structure RR(K:zAA)(G:Gx)(τ:List (V×D))(ρ:En)(σ:L2.St)(H:Hp)(lab:Lab):Prop where
 len:σ.length=ρ.length
 sl:∀(i:Nat) (s:Slot),ρ[i]? =some s->s= .no\/∃v,σ[i]? =some (some v)/\iQ K H lab i v s
 old:aa G.H0 H
 new:∀p,(lab p).1≠0->G.H0 p=none
 tm:∀q∈τ,Rp K (λ p=>(lab p).1<=1) H q.1 q.2
theorem iQ.up(s:aa H H')(h:iQ K H lab i v x):iQ K H' lab i v x:=by
 cases x with
 |no=>exact trivial
 |sh d=>exact Rp.up s h
 |nw d=>exact Rp.up s h
 |ow d=>exact⟨Rp.up s h.1,h.2⟩
 |oz d=>
  obtain⟨a,xs,ds,e1,e2,e3,e4,e5⟩:=h;exact⟨a,xs,ds,e1,e2,s _ _ e3,e4,e5.up s⟩
 |o2 l=>
  obtain⟨a,xs,e1,e2,e3,e4,e5⟩:=h;exact⟨a,xs,e1,s _ _ e2,e3,e4,λ j x ds f1 f2=>(e5 j x ds f1 f2).up s⟩
theorem aLI(r:Rp K A H (.ref a) d)(hm:aHM d=true):∃o,H a=some o/\lC o=true/\A a:=by
 cases r with
 |lst h m _=>exact⟨_,h,rfl,m⟩
 |dK h m _=>exact⟨_,h,rfl,m⟩
 |dT h m _=>exact⟨_,h.at_,rfl,m⟩
 |set h m _ _=>exact⟨_,h,rfl,m⟩
 |tup _ _=>cases hm
 |scr _=>cases hm
 |fn _=>cases hm
theorem iQ.lab{lab lab':Lab}(hl:∀p o,H p=some o->lab' p=lab p)(h:iQ K H lab i v x):iQ K H lab' i v x:=by
 cases x with
 |no=>exact trivial
 |sh d=>exact Rp.wk (λ p o e q=>(hl p o e).symm▸q) h
 |nw d=>exact Rp.wk (λ p o e q=>(hl p o e).symm▸q) h
 |ow d=>
  obtain⟨h,t⟩:=h;refine⟨Rp.wk (λ p o e q=>(hl p o e).symm▸q) h,λ m=>?_⟩;obtain⟨a,rfl,ea⟩:=t m;obtain⟨o,ho,_⟩:=aLI h m;exact⟨a,rfl,(congrArg (·.1) (hl a o ho)).trans ea⟩
 |oz d=>
  obtain⟨a,xs,ds,e1,e2,e3,e4,e5⟩:=h;exact⟨a,xs,ds,e1,e2,e3,(congrArg (·.1) (hl _ _ e3)).trans e4,Rps.wk (λ p o e q=>(hl p o e).symm▸q) e5⟩
 |o2 l=>
  obtain⟨a,xs,e1,e2,e3,e4,e5⟩:=h;exact⟨a,xs,e1,e2,(hl _ _ e2).trans e3,e4,λ j x ds f1 f2=>Rp.wk (λ p o e q=>(hl p o e).symm▸q) (e5 j x ds f1 f2)⟩
section
variable{G:Gx}{τ:List (V×D)}{ρ:En}{σ:L2.St}{H H':Hp}{lab lab':Lab}
theorem RR.up(R:RR K G τ ρ σ H lab)(s:aa H H'):RR K G τ ρ σ H' lab:=
 ⟨R.len,λ i x e=>(R.sl i x e).imp id λ⟨v,e1,e2⟩=>⟨v,e1,e2.up s⟩,R.old.trans s,R.new,λ q hq=>(R.tm q hq).up s⟩
theorem RR.relab(R:RR K G τ ρ σ H lab)(hl:∀p o,H p=some o->lab' p=lab p)(hn:∀p,(lab' p).1≠0->G.H0 p=none):RR K G τ ρ σ H lab':=
 ⟨R.len,λ i x e=>(R.sl i x e).imp id λ⟨v,e1,e2⟩=>⟨v,e1,e2.lab hl⟩,R.old,hn,λ q hq=>Rp.wk (λ p o e z=>by rw[hl p o e];exact z) (R.tm q hq)⟩
theorem RR.drop(R:RR K G (τ'++τ) ρ σ H lab):RR K G τ ρ σ H lab:=⟨R.len,R.sl,R.old,R.new,λ z hz=>R.tm z (zA5 _ hz)⟩
theorem RR.put(R:RR K G τ ρ σ H lab)(h:iQ K H lab i v s):RR K G τ (ρ.set i s) (σ.set i (some v)) H lab:=by
 refine⟨by rw[zBY,zBY,R.len],λ j x e=>?_,R.old,R.new,R.tm⟩;by_cases hj:i=j
 ·subst hj
  have hi:i<ρ.length:=by
   have:=(zAI.mp e).1
   rwa [zBY]at this
  rw[zBa hi]at e;cases e;exact .inr ⟨v,by rw[zBa (by rw[R.len];exact hi)],h⟩
 ·rw[zBU hj]at e
  rcases R.sl j x e with z|⟨u,e1,e2⟩
  ·exact .inl z
  ·exact .inr ⟨u,by rw[zBU hj];exact e1,e2⟩
def cZ(H:Hp)(n:Nat)(lab:Lab):Lab:=λ p=>match H p with
 |none=>(n,0)
 |some _=>lab p
theorem bY(h:H p=some o):cZ H n lab p=lab p:=by unfold cZ;rw[h]
theorem yC(h:H p=none):cZ H n lab p=(n,0):=by unfold cZ;rw[h]
theorem RR.fresh{P:Nat->Prop}(h1:P 1)(hm:∀k,inM m k->P k)(R:RR K G τ ρ σ H lab)(s:aa H H')(r:Rp K (fpM m lab H) H' v d):
  RR K G τ ρ σ H' (cZ H 1 lab)/\Rp K (λ p=>P (cZ H 1 lab p).1) H' v d:=by
 refine⟨(R.relab (λ p o e=>bY e) λ p hp=>?_).up s,Rp.wk (λ p o e z=>?_) r⟩
 ·cases e:H p with
  |none=>exact R.old.free e
  |some o=>rw[bY e]at hp;exact R.new p hp
 ·rcases z with z|z
  ·rw[yC z];exact h1
  ·cases e:H p with
   |none=>rw[yC e];exact h1
   |some o=>rw[bY e];exact hm _ z
theorem RR.freshO(i:Nat)(hm:∀k,inM m k->k=1\/k=i+2)(R:RR K G τ ρ σ H lab)(s:aa H H')(r:Rp K (fpM m lab H) H' v d)(ht:aHM d=true->∃a,v= .ref a/\H a=none):
  ∃lab',RR K G τ ρ σ H' lab'/\iQ K H' lab' i v (.ow d):=by
 obtain⟨R',r'⟩:=R.fresh (P:=λ k=>k=1\/k=i+2) (.inl rfl) hm s r;cases hd:aHM d with
 |false=>exact⟨_,R',r',λ z=>absurd z (by simp[hd])⟩
 |true=>
  obtain⟨a,rfl,ha⟩:=ht hd;refine⟨λ p=>if p=a then(i+2,0)else cZ H 1 lab p,?_,Rp.wk (λ p o e z=>?_) r',λ _=>⟨a,rfl,by show(if a=a then((i+2,0):Nat×Nat)else cZ H 1 lab a).1=i+2;rw[if_pos rfl]⟩⟩
  ·refine(R.relab (lab':=λ p=>if p=a then(i+2,0)else cZ H 1 lab p) (λ p o e=>?_) λ p hp=>?_).up s
   ·rw[if_neg (λ z=>by subst z;rw[ha]at e;cases e),bY e]
   ·by_cases z:p=a
    ·subst z;exact R.old.free ha
    ·rw[if_neg z]at hp;exact R'.new p hp
  ·dsimp only
   by_cases q:p=a
   ·rw[if_pos q];exact .inr rfl
   ·rw[if_neg q];exact z
theorem aKa(h:iQ K H lab i v (.oz d)):Rp K (λ p=>(lab p).1<=1\/(lab p).1=i+2) H v d:=by
 obtain⟨a,xs,ds,rfl,rfl,h1,h2,h3⟩:=h;exact .lst h1 (.inr h2) (h3.wk λ p o e z=>⟨.inl z,λ q=>by subst q;lia⟩)
end
structure Ct where
 ι:Type
 X:ι->Cx
 prog:zA7
 w:World
 K:zAA
 mg:Str->Option Value
 base:Heap
 k:Nat
 G:Gx
 cx:∀i,(X i).prog=prog/\(X i).w=w/\(X i).K=K/\(X i).mg=mg/\(X i).base=base
 calm:∀i,(X i).calm=true
 room:∀i,lU k (X i).A
 own:∀i,zH9 (model (X i).prog (X i).w) (X i).A (X i).env (X i).xe
 pass:∀i,aBh (CX1 (X i).prog (X i).w) (X i) G.E
 dOk:Bool
 dcx:dOk=true->∀i,lN (X i) G.E
theorem Ct.hK(C:Ct)(i:C.ι):(C.X i).K=C.K:=(C.cx i).2.2.1
def WR{α:Type}(G:Gx)(r:Rs α)(P:α->Prop):Prop:=match r with
 | .ok a=>P a
 | .ex c=>∀H',aa G.H0 H'->G.E (.ref (G.cl c)) none H'
 | .st=>False
theorem WR.bd(h:WR G (r.bd k) P):WR G r (λ a=>WR G (k a) P):=by
 cases r with
 |ok a=>exact h
 |ex c=>exact h
 |st=>exact h
theorem WR.imp(h:WR G r P)(f:∀a,r= .ok a->P a->P' a):WR G r P':=by
 cases r with
 |ok a=>exact f a rfl h
 |ex c=>exact h
 |st=>exact h
abbrev QE(K:zAA)(m:Mode)(lab:Lab)(H:Hp)(Q:VK):D->Prop:=λ d=>∀v H',aa H H'->Rp K (fpM m lab H) H' v d->Q v H'
abbrev QA(K:zAA)(m:Mode)(lab:Lab)(H:Hp)(Q:List V->Hp->Prop):List D->Prop:=λ ds=>∀vs H',aa H H'->Rps K (fpM m lab H) H' vs ds->Q vs H'
abbrev QT(H:Hp)(Q:Bool->Hp->Prop):Bool->Prop:=λ b=>∀H',aa H H'->Q b H'
def jR(K:zAA)(G:Gx)(m:Mode)(t:TE)(f:En->Rs D):Prop:=∀τ σ H ρ lab (Q:VK),RR K G τ ρ σ H lab->WR G (f ρ) (QE K m lab H Q)->t σ H Q
def aKM(K:zAA)(G:Gx)(m:Mode)(t:TA)(f:En->Rs (List D)):Prop:=∀τ σ H ρ lab (Q:List V->Hp->Prop),RR K G τ ρ σ H lab->WR G (f ρ) (QA K m lab H Q)->t σ H Q
def aCw(K:zAA)(G:Gx)(t:TT)(f:En->Rs Bool):Prop:=∀τ σ H ρ lab (Q:Bool->Hp->Prop),RR K G τ ρ σ H lab->WR G (f ρ) (QT H Q)->t σ H Q
def SE(C:Ct)(m:Mode)(e:Expr)(f:En->Rs D):Prop:=∃t,(∀i,PE (C.X i) e t)/\jR C.K C.G m t f
def SA(C:Ct)(m:Mode)(es:List Expr)(f:En->Rs (List D)):Prop:=∃t,(∀i,PA (C.X i) es t)/\aKM C.K C.G m t f
def ST(C:Ct)(e:Expr)(f:En->Rs Bool):Prop:=∃t,(∀i,PT (C.X i) e t)/\aCw C.K C.G t f
def SW(C:Ct)(e:Expr)(f:En->Rs Bool):Prop:=∃t,(∀i,PW (C.X i) e t)/\aCw C.K C.G t f
theorem SW.st(h:SW C e f):ST C e f:=let⟨t,h1,h2⟩:=h;⟨t,λ i=>(h1 i).pt,h2⟩
def jC(i:Nat):En->Rs D:=λ ρ=>match ρ[i]? with
 |some (.sh d)=>.ok d
 |some (.nw d)=>.ok d
 |some (.ow d)=>.ok d
 |some (.oz d)=>.ok d
 |some (.o2 l)=>.ok (.lst (l.map .lst))
 |_=>.st
def aC(i:Nat):En->Rs D:=λ ρ=>match ρ[i]? with
 |some (.sh d)=>.ok d
 |some (.nw d)=>.ok d
 |_=>.st
def dU(i:Nat):En->Rs D:=λ ρ=>match ρ[i]? with
 |some (.nw d)=>.ok d
 |_=>.st
def jz(i:Nat):En->Rs D:=λ ρ=>match ρ[i]? with
 |some (.ow d)=>.ok d
 |some (.o2 l)=>.ok (.lst (l.map .lst))
 |_=>.st
def cD(d:D):En->Rs D:=λ _=>.ok d
theorem aEh{K:zAA}{H:Hp}{lab:Lab}{i:Nat}{v:V}{l:List (List D)}(h:iQ K H lab i v (.o2 l)):Rp K (λ p=>(lab p).1=i+2) H v (.lst (l.map .lst)):=by
 obtain⟨a,xs,rfl,ha,hla,hlen,hin⟩:=h;refine .lst ha (by rw[hla]) ?_;have go:∀(xs:List V) (l:List (List D)) (n:Nat),xs.length=l.length->0<n->(∀(j:Nat) x ds,xs[j]? =some x->l[j]? =some ds->Rp K (λ p=>lab p=(i+2,n+j)) H x (.lst ds))->Rps K (λ p=>(lab p).1=i+2/\p≠a) H xs (l.map .lst):=by
  intro xs;induction xs with
  |nil=>intro l n hl _ _;cases l with|nil=>exact .nil|cons _ _=>simp at hl
  |cons x xs ih=>
   intro l n hl hn h;cases l with
   |nil=>simp at hl
   |cons ds l=>
    refine .cons (Rp.wk (λ p o e z=>⟨by rw[z],λ e=>by rw[e,hla]at z;have z2:(0:Nat)=n+0:=congrArg zGs z;lia⟩) (h 0 x ds rfl rfl)) (ih l (n+1) (by simpa using hl) (by lia) λ j y es e1 e2=>?_);have z:=h (j+1) y es (by simpa using e1) (by simpa using e2);rw[show n+1+j=n+(j+1)by lia];exact z
 exact go xs l 1 hlen (by lia) λ j x ds e1 e2=>by have z:=hin j x ds e1 e2;rw[show 1+j=j+1 by lia];exact z
section
variable{C:Ct}{pos:Pos}
theorem aIh(K:zAA)(G:Gx)(i:Nat):jR K G (some [0,1,i+2]) (zK i) (jC i):=by
 intro τ σ H ρ lab Q R W;unfold jC at W;cases e:ρ[i]? with
 |none=>rw[e]at W;exact W.elim
 |some s=>
  rw[e]at W;rcases R.sl i s e with rfl|⟨v,ev,hv⟩
  ·exact zAS W
  ·cases s with
   |no=>exact zAS W
   |sh d=>exact⟨v,ev,W v H (aa.refl H) (Rp.wk (λ p o e z=>.inr (by show(lab p).1∈[0,1,i+2];rcases(show(lab p).1=0\/(lab p).1=1 by lia)with q|q<;>rw[q]<;>simp)) hv)⟩
   |nw d=>exact⟨v,ev,W v H (aa.refl H) (Rp.wk (λ p o e z=>.inr (by show(lab p).1∈[0,1,i+2];rw[z];simp)) hv)⟩
   |ow d=>exact⟨v,ev,W v H (aa.refl H) (Rp.wk (λ p o e z=>.inr (by show(lab p).1∈[0,1,i+2];rcases z with q|q<;>rw[q]<;>simp)) hv.1)⟩
   |oz d=>exact⟨v,ev,W v H (aa.refl H) (Rp.wk (λ p o e z=>.inr (by show(lab p).1∈[0,1,i+2];rcases(show(lab p).1=0\/(lab p).1=1\/(lab p).1=i+2 by lia)with q|q|q<;>rw[q]<;>simp)) (aKa hv))⟩
   |o2 l=>exact⟨v,ev,W v H (aa.refl H) (Rp.wk (λ p o e z=>.inr (by show(lab p).1∈[0,1,i+2];rw[z];simp)) (aEh hv))⟩
theorem aGT(K:zAA)(G:Gx)(i:Nat):jR K G (some [0,1]) (zK i) (aC i):=by
 intro τ σ H ρ lab Q R W;unfold aC at W;cases e:ρ[i]? with
 |none=>rw[e]at W;exact W.elim
 |some s=>
  rw[e]at W;rcases R.sl i s e with rfl|⟨v,ev,hv⟩
  ·exact zAS W
  ·cases s with
   |sh d=>exact⟨v,ev,W v H (aa.refl H) (Rp.wk (λ p o e z=>.inr (by show(lab p).1∈[0,1];rcases(show(lab p).1=0\/(lab p).1=1 by lia)with q|q<;>rw[q]<;>simp)) hv)⟩
   |nw d=>exact⟨v,ev,W v H (aa.refl H) (Rp.wk (λ p o e z=>.inr (by show(lab p).1∈[0,1];rw[z];simp)) hv)⟩
   |_=>exact zAS W
theorem aGV(K:zAA)(G:Gx)(i:Nat):jR K G (some [1]) (zK i) (dU i):=by
 intro τ σ H ρ lab Q R W;unfold dU at W;cases e:ρ[i]? with
 |none=>rw[e]at W;exact W.elim
 |some s=>
  rw[e]at W;rcases R.sl i s e with rfl|⟨v,ev,hv⟩
  ·exact zAS W
  ·cases s with
   |nw d=>exact⟨v,ev,W v H (aa.refl H) (Rp.wk (λ p o e z=>.inr (by show(lab p).1∈[1];rw[z];simp)) hv)⟩
   |_=>exact zAS W
theorem aGU(K:zAA)(G:Gx)(i:Nat):jR K G (some [1,i+2]) (zK i) (jz i):=by
 intro τ σ H ρ lab Q R W;unfold jz at W;cases e:ρ[i]? with
 |none=>rw[e]at W;exact W.elim
 |some s=>
  rw[e]at W;rcases R.sl i s e with rfl|⟨v,ev,hv⟩
  ·exact zAS W
  ·cases s with
   |ow d=>exact⟨v,ev,W v H (aa.refl H) (Rp.wk (λ p o e z=>.inr (by show(lab p).1∈[1,i+2];rcases z with q|q<;>rw[q]<;>simp)) hv.1)⟩
   |o2 l=>exact⟨v,ev,W v H (aa.refl H) (Rp.wk (λ p o e z=>.inr (by show(lab p).1∈[1,i+2];rw[z];simp)) (aEh hv))⟩
   |_=>exact zAS W
theorem nJ(i:Nat)(hN:∀j,(C.X j).N[i]? =some x:=by intro _;rfl)(hv:∀j,Vis (C.X j).env.scope x:=by intro _;first|exact zC5 rfl|exact zBs (zC5 rfl)|exact zBs (zBs rfl))(hd:(x==("__debug__":Str))=false:=by decide)
  (hcd:(x==("__classdict__":Str))=false:=by decide):SE C (some [0,1,i+2]) (.Name x pos) (jC i):=⟨_,λ j=>nW (hN j) (hv j) hd hcd,aIh _ _ i⟩
theorem aD(i:Nat)(hN:∀j,(C.X j).N[i]? =some x:=by intro _;rfl)(hv:∀j,Vis (C.X j).env.scope x:=by intro _;first|exact zC5 rfl|exact zBs (zC5 rfl)|exact zBs (zBs rfl))(hd:(x==("__debug__":Str))=false:=by decide)
  (hcd:(x==("__classdict__":Str))=false:=by decide):SE C (some [0,1]) (.Name x pos) (aC i):=⟨_,λ j=>nW (hN j) (hv j) hd hcd,aGT _ _ i⟩
theorem dF(i:Nat)(hN:∀j,(C.X j).N[i]? =some x:=by intro _;rfl)(hv:∀j,Vis (C.X j).env.scope x:=by intro _;first|exact zC5 rfl|exact zBs (zC5 rfl)|exact zBs (zBs rfl))(hd:(x==("__debug__":Str))=false:=by decide)
  (hcd:(x==("__classdict__":Str))=false:=by decide):SE C (some [1]) (.Name x pos) (dU i):=⟨_,λ j=>nW (hN j) (hv j) hd hcd,aGV _ _ i⟩
theorem j9(i:Nat)(hN:∀j,(C.X j).N[i]? =some x:=by intro _;rfl)(hv:∀j,Vis (C.X j).env.scope x:=by intro _;first|exact zC5 rfl|exact zBs (zC5 rfl)|exact zBs (zBs rfl))(hd:(x==("__debug__":Str))=false:=by decide)
  (hcd:(x==("__classdict__":Str))=false:=by decide):SE C (some [1,i+2]) (.Name x pos) (jz i):=⟨_,λ j=>nW (hN j) (hv j) hd hcd,aGU _ _ i⟩
theorem aH:SE C (some []) (.Constant (.int i) j pos) (cD (.int i)):=⟨_,λ _=>aGu,λ τ σ H ρ lab Q R W=>W _ H (aa.refl H) (.int i)⟩
theorem fO:SE C (some []) (.Constant (.bool b) j pos) (cD (.bl b)):=⟨_,λ _=>aNO,λ τ σ H ρ lab Q R W=>W _ H (aa.refl H) (.bl b)⟩
theorem rF:SE C (some []) (.Constant .none j pos) (cD .non):=⟨_,λ _=>aL8,λ τ σ H ρ lab Q R W=>W _ H (aa.refl H) .non⟩
theorem uV:SE C (some []) (.Constant (.str x) j pos) (cD (.str x)):=⟨_,λ _=>aL5,λ τ σ H ρ lab Q R W=>W _ H (aa.refl H) (.str x)⟩
theorem aAt(hm:C.mg x=some u)(r:RelV v u)(hd:∀A H,Rp C.K A H v d)(hdb:(x==("__debug__":Str))=false:=by decide)(hg:∀i,Gl (C.X i) x:=by intro _;rfl):SE C (some []) (.Name x pos) (cD d):=
 ⟨_,λ i=>aJJ (hg i) (by rw[(C.cx i).2.2.2.1];exact hm) r hdb,λ τ σ H ρ lab Q R W=>W _ H (aa.refl H) (hd _ _)⟩
def lR(d:D):Rs D:=if imm d=true then .ok d else .st
def aP(f:En->Rs D):En->Rs D:=λ ρ=>(f ρ).bd lR
theorem aX(h:SE C m e f):SE C (some []) e (aP f):=by
 obtain⟨t,h1,h2⟩:=h;refine⟨t,h1,λ τ σ H ρ lab Q R W=>h2 τ σ H ρ lab Q R (W.bd.imp λ d _ w v H' s r=>?_)⟩;unfold lR at w;by_cases hd:imm d=true
 ·rw[if_pos hd]at w
  exact w v H' s (r.imm hd)
 ·rw[if_neg hd]at w
  exact zAS w
def aF:En->Rs (List D):=λ _=>.ok []
def aA(f:En->Rs D)(g:En->Rs (List D)):En->Rs (List D):=λ ρ=>(f ρ).bd λ d=>(g ρ).bd λ ds=>.ok (d::ds)
variable{m m1 m2:Mode}{e a b:Expr}{es:List Expr}{f fa fb:En->Rs D}{g:En->Rs (List D)}
theorem aG:SA C (some []) [] aF:=⟨_,λ _=>jE,λ τ σ H ρ lab Q R W=>W _ H (aa.refl H) .nil⟩
theorem aB(h:SE C m1 e f)(hr:SA C m2 es g)(hs:∀i,zAW (e::es) (C.X i).env=(false,eval e (C.X i).env)::zAW es (C.X i).env:=by intro _;rfl):SA C (jn m1 m2) (e::es) (aA f g):=by
 obtain⟨t,h1,h2⟩:=h;obtain⟨u,k1,k2⟩:=hr;refine⟨_,λ i=>eX (h1 i) (k1 i) (hs i),λ τ σ H ρ lab Q R W=>?_⟩;refine h2 τ σ H ρ lab _ R (W.bd.imp λ d _ w x H1 s1 r1=>?_);refine k2 τ σ H1 ρ lab _ (R.up s1) (w.bd.imp λ ds _ w xs H2 s2 r2=>?_);exact w (x::xs) H2 (s1.trans s2) (.cons (r1.mono s2 λ p o _ z=>aHo z) (r2.wk λ p o _ z=>aHn (tX s1 z)))
def aZ(g:En->Rs (List D)):En->Rs D:=λ ρ=>(g ρ).bd λ ds=>if ds.length<=zAT then .ok (.tup ds)else .st
def cB(g:En->Rs (List D)):En->Rs D:=λ ρ=>(g ρ).bd λ ds=>if ds.length<=zAT then .ok (.lst ds)else .st
theorem aj{x1}(h:SA C m es g):SE C m (.Tuple es x1 pos) (aZ g):=by
 obtain⟨t,h1,h2⟩:=h;refine⟨_,λ i=>aJH (h1 i),λ τ σ H ρ lab Q R W=>h2 τ σ H ρ lab _ R (W.bd.imp λ ds _ w xs H1 s1 r1=>?_)⟩;by_cases hz:ds.length<=zAT
 ·rw[if_pos hz]at w
  exact⟨by rw[r1.length];exact hz,λ p H' s hp _=>w _ H' (s1.trans s) (.tup (SqT.of hp) (r1.up s))⟩
 ·rw[if_neg hz]at w
  exact zAS w
theorem iH(h:SA C m es g):SE C m (.List es pos) (cB g):=by
 obtain⟨t,h1,h2⟩:=h;refine⟨_,λ i=>aBE (h1 i),λ τ σ H ρ lab Q R W=>h2 τ σ H ρ lab _ R (W.bd.imp λ ds _ w xs H1 s1 r1=>?_)⟩;by_cases hz:ds.length<=zAT
 ·rw[if_pos hz]at w
  exact⟨by rw[r1.length];exact hz,λ p H' s hp hn=>w _ H' (s1.trans s) (.lst hp (.inl (s1.free hn)) ((r1.wk λ q o e z=>⟨z,λ e'=>by subst e';rw[hn]at e;cases e⟩).up s))⟩
 ·rw[if_neg hz]at w
  exact zAS w
theorem aIo:SE C (some []) (.Dict [] [] pos) (cD (.dct [] [])):=
 ⟨_,λ _=>aGv,λ τ σ H ρ lab Q R W p H' s hp hn=>W _ H' s (.dK (kvs:=[]) hp (.inl hn) .nil)⟩
def aMm(H:Hp)(v:V)(d:D):Prop:=aHM d=true->∃a,v= .ref a/\H a=none
def aNf(K:zAA)(G:Gx)(m:Mode)(t:TE)(f:En->Rs D):Prop:=∀τ σ H ρ lab (Q:VK),RR K G τ ρ σ H lab->WR G (f ρ) (λ d=>∀v H',aa H H'->Rp K (fpM m lab H) H' v d->aMm H v d->Q v H')->t σ H Q
def SF(C:Ct)(m:Mode)(e:Expr)(f:En->Rs D):Prop:=∃t,(∀i,PE (C.X i) e t)/\aNf C.K C.G m t f
theorem mG(h:SA C m es g):SF C m (.List es pos) (cB g):=by
 obtain⟨t,h1,h2⟩:=h;refine⟨_,λ i=>aBE (h1 i),λ τ σ H ρ lab Q R W=>h2 τ σ H ρ lab _ R (W.bd.imp λ ds _ w xs H1 s1 r1=>?_)⟩;by_cases hz:ds.length<=zAT
 ·rw[if_pos hz]at w
  exact⟨by rw[r1.length];exact hz,λ p H' s hp hn=>w _ H' (s1.trans s) (.lst hp (.inl (s1.free hn)) ((r1.wk λ q o e z=>⟨z,λ e'=>by subst e';rw[hn]at e;cases e⟩).up s)) λ _=>⟨p,rfl,s1.free hn⟩⟩
 ·rw[if_neg hz]at w
  exact zAS w
def OpS(K:zAA)(r:R2)(fd:D->D->Rs D):Prop:=∀(A:Addr->Prop) x y d e H (Q:VK) z,Rp K A H x d->Rp K A H y e->fd d e= .ok z->(∀v H',aa H H'->Rp K (λ p=>H p=none\/A p) H' v z->Q v H')->r x y H Q
def UnS(K:zAA)(r:V->Hp->VK->Prop)(fd:D->Rs D):Prop:=∀(A:Addr->Prop) x d H (Q:VK) z,Rp K A H x d->fd d= .ok z->(∀v H',aa H H'->Rp K (λ p=>H p=none\/A p) H' v z->Q v H')->r x H Q
def pQ(K:zAA)(r:List V->Hp->VK->Prop)(fd:List D->Rs D):Prop:=∀(A:Addr->Prop) xs ds H (Q:VK) z,Rps K A H xs ds->fd ds= .ok z->(∀v H',aa H H'->Rp K (λ p=>H p=none\/A p) H' v z->Q v H')->r xs H Q
def okD(r:Rs D):Rs D:=match r with
 | .ok d=>.ok d
 |_=>.st
def op2(fd:D->D->Rs D)(fa fb:En->Rs D):En->Rs D:=λ ρ=>(fa ρ).bd λ x=>(fb ρ).bd λ y=>okD (fd x y)
def op1(fd:D->Rs D)(fa:En->Rs D):En->Rs D:=λ ρ=>(fa ρ).bd λ x=>okD (fd x)
def opA(fd:List D->Rs D)(fa:En->Rs (List D)):En->Rs D:=λ ρ=>(fa ρ).bd λ x=>okD (fd x)
theorem WR.okD(h:WR G (okD r) P):∃z,r= .ok z/\P z:=by
 cases r with
 |ok z=>exact⟨z,rfl,h⟩
 |ex c=>exact zAS h
 |st=>exact zAS h
theorem aAl{K:zAA}{G:Gx}{r:R2}{ta tb:TE}{fd:D->D->Rs D}(hs:OpS K r fd)(h1:jR K G m1 ta fa)(h2:jR K G m2 tb fb):jR K G (jn m1 m2) (tOp r ta tb) (op2 fd fa fb):=by
 intro τ σ H ρ lab Q R W;refine h1 τ σ H ρ lab _ R (W.bd.imp λ d _ w x H1 s1 r1=>?_);refine h2 τ σ H1 ρ lab _ (R.up s1) (w.bd.imp λ e _ w y H2 s2 r2=>?_);obtain⟨z,ez,w⟩:=w.okD;refine hs (fpM (jn m1 m2) lab H) x y d e H2 Q z (r1.mono s2 λ p o _ q=>aHo q) (r2.wk λ p o _ q=>aHn (tX s1 q)) ez λ v H' s r=>w v H' ((s1.trans s2).trans s) (r.wk λ p o _ q=>?_)
 rcases q with q|q
 ·exact .inl ((s1.trans s2).free q)
 ·exact q
theorem aIi{K:zAA}{G:Gx}{r:V->Hp->VK->Prop}{ta:TE}{fd:D->Rs D}(hs:UnS K r fd)(h1:jR K G m ta fa):jR K G m (tUn r ta) (op1 fd fa):=by
 intro τ σ H ρ lab Q R W;refine h1 τ σ H ρ lab _ R (W.bd.imp λ d _ w x H1 s1 r1=>?_);obtain⟨z,ez,w⟩:=w.okD;refine hs (fpM m lab H) x d H1 Q z r1 ez λ v H' s r=>w v H' (s1.trans s) (r.wk λ p o _ q=>?_)
 rcases q with q|q
 ·exact .inl (s1.free q)
 ·exact q
theorem aEV{K:zAA}{G:Gx}{r:List V->Hp->VK->Prop}{ta:TA}{fd:List D->Rs D}(hs:pQ K r fd)(h1:aKM K G m ta g):jR K G m (tCB r ta) (opA fd g):=by
 intro τ σ H ρ lab Q R W;refine h1 τ σ H ρ lab _ R (W.bd.imp λ d _ w x H1 s1 r1=>?_);obtain⟨z,ez,w⟩:=w.okD;refine hs (fpM m lab H) x d H1 Q z r1 ez λ v H' s r=>w v H' (s1.trans s) (r.wk λ p o _ q=>?_)
 rcases q with q|q
 ·exact .inl (s1.free q)
 ·exact q
theorem fY(h:SE C m e f)(hi:∀ρ d,f ρ= .ok d->imm d=true):SE C (some []) e f:=by
 obtain⟨t,h1,h2⟩:=h;exact⟨t,h1,λ τ σ H ρ lab Q R W=>h2 τ σ H ρ lab Q R (W.imp λ d ed w v H' s r=>w v H' s (r.imm (hi ρ d ed)))⟩
theorem jM(h:∀x y z,fd x y= .ok z->imm z=true)(e:op2 fd fa fb ρ= .ok d):imm d=true:=by
 obtain⟨x,_,e⟩:=cW e;obtain⟨y,_,e⟩:=cW e;unfold okD at e;split at e
 ·rename_i z hz
  cases e;exact h x y _ hz
 ·cases e
theorem aJn(h:∀x z,fd x= .ok z->imm z=true)(e:op1 fd fa ρ= .ok d):imm d=true:=by
 obtain⟨x,_,e⟩:=cW e;unfold okD at e;split at e
 ·rename_i z hz
  cases e;exact h x _ hz
 ·cases e
theorem qD(h:∀x z,fd x= .ok z->imm z=true)(e:opA fd g ρ= .ok d):imm d=true:=by
 obtain⟨x,_,e⟩:=cW e;unfold okD at e;split at e
 ·rename_i z hz
  cases e;exact h x _ hz
 ·cases e
theorem aAA(ro:∀i,OpR (C.X i) (zCI op) r)(hs:OpS C.K r fd)(ha:SE C m1 a fa)(hb:SE C m2 b fb):SE C (jn m1 m2) (.BinOp a op b pos) (op2 fd fa fb):=by
 obtain⟨t,h1,h2⟩:=ha;obtain⟨u,k1,k2⟩:=hb;exact⟨_,λ i=>aK8 (ro i) (h1 i) (k1 i),aAl hs h2 k2⟩
theorem aMx(ro:∀i,UnR (C.X i) (unaryOp op) r)(hs:UnS C.K r fd)(ha:SE C m a fa):SE C m (.UnaryOp op a pos) (op1 fd fa):=by
 obtain⟨t,h1,h2⟩:=ha;exact⟨_,λ i=>aK7 (ro i) (h1 i),aIi hs h2⟩
theorem uX(ro:∀i,OpR (C.X i) (zAo op) r)(hs:OpS C.K r fd)(ha:SE C m1 a fa)(hb:SE C m2 b fb)(hm:zCC op b=false:=by first|exact aHJ _|(with_unfolding_all rfl)):
  SE C (jn m1 m2) (.Compare a [op] [b] pos) (op2 fd fa fb):=by
 obtain⟨t,h1,h2⟩:=ha;obtain⟨u,k1,k2⟩:=hb;exact⟨_,λ i=>aJM (ro i) (h1 i) (k1 i) hm,aAl hs h2 k2⟩
variable{p:Pos}{x:Str}{id T:String}
theorem mW(ro:∀i,cX (C.X i) (.builtin id) r)(hs:pQ C.K r fd)(hg:∀i,Gl (C.X i) x)(hm:C.mg x=none)(hv:zAn x=some (.builtin id))(ha:SA C m (e::es) g)
  (hn:x≠"__name__":=by decide)(hdb:(x==("__debug__":Str))=false:=by decide)(he:∀i,zAW (e::es) (C.X i).env=(false,eval e (C.X i).env)::zAW es (C.X i).env:=by intro _;rfl)
  (hpl:∀i,(zCV pos (zAW es (C.X i).env)).any (·.1)=false:=by intro _;rfl):SE C m (.Call (.Name x p) (e::es) [] pos) (opA fd g):=by
 obtain⟨t,h1,h2⟩:=ha;exact⟨_,λ i=>oZ (ro i) (hg i) (by rw[(C.cx i).2.2.2.1];exact hm) hv (h1 i) hn hdb (he i) (hpl i),aEV hs h2⟩
theorem aBw(ro:∀i,cX (C.X i) (.type T) r)(hs:pQ C.K r fd)(hg:∀i,Gl (C.X i) x)(hm:C.mg x=none)(hv:zAn x=some (.type T))(ha:SA C m (e::es) g)
  (hn:x≠"__name__":=by decide)(hdb:(x==("__debug__":Str))=false:=by decide)(he:∀i,zAW (e::es) (C.X i).env=(false,eval e (C.X i).env)::zAW es (C.X i).env:=by intro _;rfl)
  (hpl:∀i,(zCV pos (zAW es (C.X i).env)).any (·.1)=false:=by intro _;rfl):SE C m (.Call (.Name x p) (e::es) [] pos) (opA fd g):=by
 obtain⟨t,h1,h2⟩:=ha;exact⟨_,λ i=>iU (ro i) (hg i) (by rw[(C.cx i).2.2.2.1];exact hm) hv (h1 i) hn hdb (he i) (hpl i),aEV hs h2⟩
def jD(f g:En->Rs D):En->Rs D:=λ ρ=>(f ρ).bd λ d=>match d with
 | .bl true=>g ρ
 | .bl false=>.ok (.bl false)
 |_=>.st
def aJ5:D->Rs D
 | .bl b=>.ok (.bl (!b))
 |_=>.st
variable{rest:List Expr}
theorem jY{op}(h:SE C m a fa):SE C m (.BoolOp op [a] pos) fa:=by
 obtain⟨t,h1,h2⟩:=h;exact⟨_,λ i=>aL6 (h1 i),h2⟩
theorem fK(ha:SE C m1 a fa)(hb:SE C m2 (.BoolOp .And (b::rest) pos) fb):SE C m2 (.BoolOp .And (a::b::rest) pos) (jD fa fb):=by
 obtain⟨t,h1,h2⟩:=ha;obtain⟨u,k1,k2⟩:=hb;refine⟨_,λ i=>aLb (h1 i) (k1 i),λ τ σ H ρ lab Q R W=>h2 τ σ H ρ lab _ R (W.bd.imp λ d _ w x H1 s1 r1=>?_)⟩;cases r1 with
 |bl c=>
  refine⟨c,rfl,?_⟩;cases c with
  |true=>
   rw[if_pos rfl];exact k2 τ σ H1 ρ lab Q (R.up s1) (w.imp λ z _ w v H' s r=>w v H' (s1.trans s) (r.wk λ p o _ q=>tX s1 q))
  |false=>
   rw[if_neg zA2];exact w _ H1 s1 (.bl false)
 |_=>exact zAS w
theorem aG0(ha:SE C m a fa):SE C (some []) (.UnaryOp .Not a pos) (op1 aJ5 fa):=by
 obtain⟨t,h1,h2⟩:=ha;refine⟨_,λ i=>aL7 (h1 i),λ τ σ H ρ lab Q R W=>h2 τ σ H ρ lab _ R (W.bd.imp λ d _ w x H1 s1 r1=>?_)⟩;obtain⟨z,ez,w⟩:=w.okD;cases r1 with
 |bl c=>cases ez;exact⟨c,rfl,w _ H1 s1 (.bl _)⟩
 |_=>cases ez
def chD(fd fd':D->D->Rs D)(fa fb fc:En->Rs D):En->Rs D:=λ ρ=>(fa ρ).bd λ x=>(fb ρ).bd λ y=>(okD (fd x y)).bd λ z=>match z with
 | .bl true=>(fc ρ).bd λ w=>okD (fd' y w)
 | .bl false=>.ok (.bl false)
 |_=>.st
theorem aFP{K:zAA}{G:Gx}{r r':R2}{ta tb tc:TE}{fd fd':D->D->Rs D}{fc:En->Rs D}{m3:Mode}(hs:OpS K r fd)(hs':OpS K r' fd')(hi:∀x y z,fd' x y= .ok z->imm z=true)(h1:jR K G m1 ta fa)(h2:jR K G m2 tb fb)(h3:jR K G m3 tc fc):
  jR K G (some []) (aGL r r' ta tb tc) (chD fd fd' fa fb fc):=by
 intro τ σ H ρ lab Q R W;refine h1 τ σ H ρ lab _ R (W.bd.imp λ d _ w x H1 s1 r1=>?_);refine h2 τ σ H1 ρ lab _ (R.up s1) (w.bd.imp λ e _ w y H2 s2 r2=>?_);obtain⟨z,ez,w⟩:=w.bd.okD;refine hs (λ _=>True) x y d e H2 _ z (r1.mono s2 λ p o _ q=>trivial) (r2.wk λ p o _ q=>trivial) ez λ v H3 s3 r3=>?_
 cases r3 with
 |bl c=>
  refine⟨c,rfl,?_⟩;cases c with
  |false=>
   rw[if_neg zA2];exact w _ H3 ((s1.trans s2).trans s3) (.bl false)
  |true=>
   rw[if_pos rfl];refine h3 τ σ H3 ρ lab _ ((R.up s1).up (s2.trans s3)) (w.bd.imp λ e' _ w y' H4 s4 r4=>?_);obtain⟨z',ez',w⟩:=w.okD;exact hs' (λ _=>True) y y' e e' H4 Q z' (r2.mono (s3.trans s4) λ p o _ q=>trivial) (r4.wk λ p o _ q=>trivial) ez' λ v H5 s5 r5=>w v H5 ((((s1.trans s2).trans s3).trans s4).trans s5) (r5.imm (hi _ _ _ ez'))
 |_=>exact zAS w
theorem aBv(ro:∀i,OpR (C.X i) (zAo op) r)(hs:OpS C.K r fd)(ro':∀i,OpR (C.X i) (zAo op') r')(hs':OpS C.K r' fd')(hi:∀x y z,fd' x y= .ok z->imm z=true)
  (ha:SE C m1 a fa)(hb:SE C m2 b fb)(hc:SE C m3 c fc)(hm:zHc [op,op'] [b,c]=false:=by with_unfolding_all rfl):SE C (some []) (.Compare a [op,op'] [b,c] pos) (chD fd fd' fa fb fc):=by
 obtain⟨t,h1,h2⟩:=ha;obtain⟨u,k1,k2⟩:=hb;obtain⟨v,l1,l2⟩:=hc;exact⟨_,λ i=>aGw (ro i) (ro' i) (h1 i) (k1 i) (l1 i) hm,aFP hs hs' hi h2 k2 l2⟩
def aKq:D->Rs Bool
 | .non=>.ok false
 | .bl b=>.ok b
 | .int i=>.ok (i !=0)
 | .tup l=>.ok (!l.isEmpty)
 | .lst l=>.ok (!l.isEmpty)
 |_=>.st
def blD:D->Rs Bool
 | .bl b=>.ok b
 |_=>.st
def tst(f:En->Rs D):En->Rs Bool:=λ ρ=>(f ρ).bd aKq
def tsb(f:En->Rs D):En->Rs Bool:=λ ρ=>(f ρ).bd blD
theorem yR{K:zAA}{A:Addr->Prop}{H:Hp}{xs:List V}{ds:List D}(r:Rps K A H xs ds):(!ds.isEmpty)= !xs.isEmpty:=by cases r<;>rfl
theorem fH(ha:SE C m a fa)(he:∀i whole,isTrue a (C.X i).env whole=(do let v <-whole;zGF a.pos;zEs [v] (truthy v)):=by intro _ _;rfl):ST C a (tst fa):=by
 obtain⟨t,h1,h2⟩:=ha;refine⟨λ σ H Q=>t σ H λ x H'=>∃k,aMc C.K x H' k/\Q k H',λ i=>by rw[<-C.hK i];exact aGl (h1 i) (he i),λ τ σ H ρ lab Q R W=>h2 τ σ H ρ lab _ R (W.bd.imp λ d _ w x H1 s1 r1=>?_)⟩;cases r1 with
 |non=>exact⟨false,rfl,w H1 s1⟩
 |bl b=>exact⟨b,rfl,w H1 s1⟩
 |int i=>exact⟨i !=0,rfl,w H1 s1⟩
 |tup h r=>exact⟨_,.inr (.inl ⟨_,h,rfl⟩),by rw[<-yR r];exact w H1 s1⟩
 |lst h m r=>exact⟨_,.inl ⟨_,SqL.of h,rfl⟩,by rw[<-yR r];exact w H1 s1⟩
 |_=>exact zAS w
theorem aEU{K:zAA}{G:Gx}{t:TE}{f:En->Rs D}(h:jR K G m t f):aCw K G (aGK t) (tsb f):=λ τ σ H ρ lab Q R W=>h τ σ H ρ lab _ R (W.bd.imp λ d _ w x H1 s1 r1=>by
 cases r1 with
 |bl b=>exact⟨b,rfl,w H1 s1⟩
 |_=>exact zAS w)
theorem rC(ro:∀i,OpR (C.X i) (zAo op) r)(hs:OpS C.K r fd)(ha:SE C m1 a fa)(hb:SE C m2 b fb)(hm:zCC op b=false:=by first|exact aHJ _|(with_unfolding_all rfl)):
  ST C (.Compare a [op] [b] pos) (tsb (op2 fd fa fb)):=by
 obtain⟨t,h1,h2⟩:=ha;obtain⟨u,k1,k2⟩:=hb;exact⟨_,λ i=>aE8 (ro i) (h1 i) (k1 i) hm,aEU (aAl hs h2 k2)⟩
variable{ga gb:En->Rs Bool}
def pO(f g:En->Rs Bool):En->Rs Bool:=λ ρ=>(f ρ).bd λ k=>if k=true then g ρ else .ok false
def orT(f g:En->Rs Bool):En->Rs Bool:=λ ρ=>(f ρ).bd λ k=>if k=true then .ok true else g ρ
def dW(f:En->Rs Bool):En->Rs Bool:=λ ρ=>(f ρ).bd λ k=>.ok (!k)
theorem wM(ha:ST C a ga):SW C (.BoolOp .And [a] pos) ga:=let⟨t,h1,h2⟩:=ha;⟨t,λ i=>aIx (h1 i),h2⟩
theorem jW(ha:ST C a ga):SW C (.BoolOp .Or [a] pos) ga:=let⟨t,h1,h2⟩:=ha;⟨t,λ i=>aLQ (h1 i),h2⟩
theorem xM(ha:ST C a ga)(hb:SW C (.BoolOp .And (b::rest) pos) gb):SW C (.BoolOp .And (a::b::rest) pos) (pO ga gb):=by
 obtain⟨t,h1,h2⟩:=ha;obtain⟨u,k1,k2⟩:=hb;refine⟨_,λ i=>aLR (h1 i) (k1 i),λ τ σ H ρ lab Q R W=>h2 τ σ H ρ lab _ R (W.bd.imp λ k _ w H1 s1=>?_)⟩;cases k with
 |true=>
  rw[if_pos rfl]at w ⊢;exact k2 τ σ H1 ρ lab Q (R.up s1) (w.imp λ z _ w H' s=>w H' (s1.trans s))
 |false=>
  rw[if_neg zA2]at w ⊢;exact w H1 s1
theorem mQ(ha:ST C a ga)(hb:SW C (.BoolOp .Or (b::rest) pos) gb):SW C (.BoolOp .Or (a::b::rest) pos) (orT ga gb):=by
 obtain⟨t,h1,h2⟩:=ha;obtain⟨u,k1,k2⟩:=hb;refine⟨_,λ i=>aNK (h1 i) (k1 i),λ τ σ H ρ lab Q R W=>h2 τ σ H ρ lab _ R (W.bd.imp λ k _ w H1 s1=>?_)⟩;cases k with
 |false=>
  rw[if_neg zA2]at w ⊢;exact k2 τ σ H1 ρ lab Q (R.up s1) (w.imp λ z _ w H' s=>w H' (s1.trans s))
 |true=>
  rw[if_pos rfl]at w ⊢;exact w H1 s1
theorem fJ(ha:ST C a ga):ST C (.UnaryOp .Not a pos) (dW ga):=by
 obtain⟨t,h1,h2⟩:=ha;exact⟨_,λ i=>aLU (h1 i),λ τ σ H ρ lab Q R W=>h2 τ σ H ρ lab _ R (W.bd.imp λ k _ w H1 s1=>w H1 s1)⟩
end
inductive Ou where
 |nx (ρ:En)|rt (d:D)|bk (ρ:En)|ct (ρ:En)|ex (c:Str)|st
def Rs.bo{α:Type}:Rs α->(α->Ou)->Ou
 | .ok a,f=>f a
 | .ex c,_=>.ex c
 | .st,_=>.st
@[simp] theorem bu(a:α)(f:α->Ou):(Rs.ok a).bo f=f a:=aR rfl
def Ou.sq:Ou->(En->Ou)->Ou
 | .nx ρ,f=>f ρ
 |o,_=>o
@[simp] theorem aq(ρ:En)(f:En->Ou):(Ou.nx ρ).sq f=f ρ:=aR rfl
@[simp] theorem sq_rt(d:D)(f:En->Ou):(Ou.rt d).sq f= .rt d:=aR rfl
def WS(K:zAA)(G:Gx)(τ:List (V×D))(o:Ou)(De:Ends):Prop:=match o with
 | .nx ρ=>∀σ H lab,RR K G τ ρ σ H lab->De.nx σ H
 | .bk ρ=>∀σ H lab,RR K G τ ρ σ H lab->De.bk σ H
 | .ct ρ=>∀σ H lab,RR K G τ ρ σ H lab->De.ct σ H
 | .rt d=>∀v H,aa G.H0 H->Rp K (λ p=>G.H0 p=none) H v d->De.rt v H
 | .ex c=>∀H',aa G.H0 H'->G.E (.ref (G.cl c)) none H'
 | .st=>False
theorem WS.bo{K:zAA}(h:WS K G τ (r.bo k) De):WR G r (λ a=>WS K G τ (k a) De):=by
 cases r with
 |ok a=>exact h
 |ex c=>exact h
 |st=>exact h
def aNd(K:zAA)(G:Gx)(t:TS)(f:En->Ou):Prop:=∀τ σ H ρ lab (De:Ends),RR K G τ ρ σ H lab->WS K G τ (f ρ) De->t De σ H
def SS(C:Ct)(s:Stmt)(f:En->Ou):Prop:=∃t,(∀i,PS (C.X i) s t)/\aNd C.K C.G t f
def SSs(C:Ct)(s:List Stmt)(f:En->Ou):Prop:=∃t,(∀i,PSs (C.X i) s t)/\aNd C.K C.G t f
section
variable{C:Ct}{pos:Pos}{s:Stmt}{ss:List Stmt}{f g:En->Ou}{e:Expr}{m:Mode}{fe:En->Rs D}
theorem bU:SSs C [] .nx:=⟨_,λ _=>aIz,λ τ σ H ρ lab De R W=>W σ H lab R⟩
def aU(f g:En->Ou):En->Ou:=λ ρ=>(f ρ).sq g
theorem aM(h:SS C s f):SSs C [s] f:=let⟨t,h1,h2⟩:=h;⟨t,λ i=>aIy (h1 i),h2⟩
theorem aK(h:SS C s f)(k:SSs C ss g):SSs C (s::ss) (aU f g):=by
 obtain⟨t,h1,h2⟩:=h;obtain⟨u,k1,k2⟩:=k;refine⟨_,λ i=>aGm (h1 i) (k1 i),λ τ σ H ρ lab De R W=>h2 τ σ H ρ lab _ R ?_⟩;unfold aU at W;cases h:f ρ with
 |nx ρ'=>rw[h]at W;exact λ σ' H' lab' R'=>k2 τ σ' H' ρ' lab' De R' W
 |rt d=>rw[h]at W;exact W
 |bk ρ'=>rw[h]at W;exact W
 |ct ρ'=>rw[h]at W;exact W
 |ex c=>rw[h]at W;exact W
 |st=>rw[h]at W;exact W
def frz(i:Nat)(ρ:En):En:=match ρ[i]? with
 |some (.ow d)=>ρ.set i (.nw d)
 |some (.o2 l)=>ρ.set i (.nw (.lst (l.map .lst)))
 |_=>ρ
theorem RR.frz{K:zAA}(R:RR K G τ ρ σ H lab)(i:Nat):∃lab',RR K G τ (frz i ρ) σ H lab':=by
 have go:∀d,(∃s,ρ[i]? =some s/\∀v,iQ K H lab i v s->Rp K (λ p=>(lab p).1=1\/(lab p).1=i+2) H v d)->(∃v s,ρ[i]? =some s/\σ[i]? =some (some v)/\iQ K H lab i v s)->∃lab',RR K G τ (ρ.set i (.nw d)) σ H lab':=by
  rintro d ⟨s0,es0,hrp⟩ ⟨v,s,es,ev,hs⟩;rw[es]at es0;cases es0;have hv:=hrp v hs;let lab':Lab:=λ p=>if (lab p).1=i+2 then(1,0)else lab p
  have lo:∀{p},(lab p).1≠i+2->lab' p=lab p:=λ{p} h=>by show(if (lab p).1=i+2 then((1,0):Nat×Nat)else lab p)=_;rw[if_neg h]
  have ln:∀{p},(lab p).1=i+2->lab' p=(1,0):=λ{p} h=>by show(if (lab p).1=i+2 then((1,0):Nat×Nat)else lab p)=_;rw[if_pos h]
  refine⟨lab',by rw[zBY];exact R.len,λ j x e=>?_,R.old,λ p hp=>?_,λ q hq=>Rp.wk (λ p o e z=>by rw[lo (by lia)];exact z) (R.tm q hq)⟩
  ·by_cases hj:i=j
   ·subst hj
    have hi:i<ρ.length:=(zAI.mp es).1;rw[zBa hi]at e;cases e;refine .inr ⟨v,ev,Rp.wk (λ p o e z=>?_) hv⟩;rcases z with z|z
    ·rw[lo (by lia)];exact z
    ·rw[ln z]
   ·rw[zBU hj]at e
    rcases R.sl j x e with z|⟨u,e1,e2⟩
    ·exact .inl z
    ·refine .inr ⟨u,e1,?_⟩
     cases x with
     |no=>trivial
     |sh d'=>exact Rp.wk (λ p o e z=>by rw[lo (by lia)];exact z) e2
     |nw d'=>exact Rp.wk (λ p o e z=>by rw[lo (by lia)];exact z) e2
     |ow d'=>
      refine⟨Rp.wk (λ p o e z=>by rw[lo (by lia)];exact z) e2.1,λ hm=>?_⟩;obtain⟨a,rfl,ha⟩:=e2.2 hm;exact⟨a,rfl,by rw[lo (by lia)];exact ha⟩
     |oz d'=>
      obtain⟨a,xs,ds,q1,q2,q3,q4,q5⟩:=e2;exact⟨a,xs,ds,q1,q2,q3,by rw[lo (by lia)];exact q4,Rps.wk (λ p o e z=>by rw[lo (by lia)];exact z) q5⟩
     |o2 l=>
      obtain⟨a,xs,q1,q2,q3,q4,q5⟩:=e2;refine⟨a,xs,q1,q2,?_,q4,λ jj y ds f1 f2=>Rp.wk (λ p o e z=>?_) (q5 jj y ds f1 f2)⟩
      ·rw[lo (by rw[q3];show j+2≠i+2;lia)];exact q3
      ·rw[lo (by rw[z];show j+2≠i+2;lia)];exact z
  ·by_cases h:(lab p).1=i+2
   ·exact R.new p (by lia)
   ·rw[lo h]at hp;exact R.new p hp
 unfold VL.frz;cases e:ρ[i]? with
 |none=>exact⟨lab,R⟩
 |some s=>
  rcases R.sl i s e with rfl|⟨v,ev,hv⟩
  ·exact⟨lab,R⟩
  ·cases s with
   |no=>exact⟨lab,R⟩
   |sh d=>exact⟨lab,R⟩
   |nw d=>exact⟨lab,R⟩
   |oz d=>exact⟨lab,R⟩
   |ow d=>exact go d ⟨_,e,λ _ h=>h.1⟩ ⟨v,_,e,ev,hv⟩
   |o2 l=>exact go _ ⟨_,e,λ _ h=>(aEh h).wk λ _ _ _ z=>.inr z⟩ ⟨v,_,e,ev,hv⟩
def aJx(i:Nat)(f:En->Ou):En->Ou:=λ ρ=>f (frz i ρ)
theorem aI9(i:Nat)(h:SSs C ss f):SSs C ss (aJx i f):=by
 obtain⟨t,h1,h2⟩:=h;refine⟨t,h1,λ τ σ H ρ lab De R W=>?_⟩;obtain⟨lab',R'⟩:=R.frz i;exact h2 τ σ H _ lab' De R' W
def aNV:Mode->Bool
 |some L=>L.all (·!=0)
 |none=>false
def retS(fe:En->Rs D):En->Ou:=λ ρ=>(fe ρ).bo .rt
theorem az(he:SE C m e fe)(hm:aNV m=true:=by rfl):SS C (.Return (some e) pos) (retS fe):=by
 obtain⟨t,h1,h2⟩:=he;refine⟨_,λ i=>aLV (h1 i),λ τ σ H ρ lab De R W=>h2 τ σ H ρ lab _ R (W.bo.imp λ d _ w v H' s r=>w v H' (R.old.trans s) (r.wk λ p o _ z=>?_))⟩;rcases z with z|z
 ·exact R.old.free z
 ·cases m with
  |none=>cases hm
  |some L=>
   refine R.new p λ e0=>?_
   have:=zAp.mp hm _ z
   rw[e0]at this;simp at this
def aCi(fe:En->Rs D):En->Ou:=λ ρ=>(fe ρ).bo λ _=>.nx ρ
theorem aIa(he:SE C m e fe)(hs:∀i,zCk e none pos.line (C.X i).env=pure false:=by intro _;rfl):SS C (.Expr e pos) (aCi fe):=by
 obtain⟨t,h1,h2⟩:=he;exact⟨_,λ i=>tD (h1 i) (hs i),λ τ σ H ρ lab De R W=>h2 τ σ H ρ lab _ R (W.bo.imp λ d _ w v H' s r=>w σ H' lab (R.up s))⟩
def ifS(c:En->Rs Bool)(f g:En->Ou):En->Ou:=λ ρ=>(c ρ).bo λ k=>if k=true then f ρ else g ρ
theorem dm{a b:List Stmt}(hc:ST C c fc)(ha:SSs C a f)(hb:SSs C b g):SS C (.If c a b pos) (ifS fc f g):=by
 obtain⟨tc,c1,c2⟩:=hc;obtain⟨t,h1,h2⟩:=ha;obtain⟨u,k1,k2⟩:=hb;refine⟨_,λ i=>aNL (c1 i) (h1 i) (k1 i),λ τ σ H ρ lab De R W=>c2 τ σ H ρ lab _ R (W.bo.imp λ k _ w H1 s1=>?_)⟩;cases k with
 |true=>rw[if_pos rfl]at w ⊢;exact h2 τ σ H1 ρ lab De (R.up s1) w
 |false=>rw[if_neg zA2]at w ⊢;exact k2 τ σ H1 ρ lab De (R.up s1) w
def SV(C:Ct)(i:Nat)(s:Stmt)(m:Mode)(f:En->Rs D):Prop:=∃t,(∀j,PS (C.X j) s (aGN t (vQ i)))/\jR C.K C.G m t f
theorem iG(he:SE C m e fe)(hN:∀j,(C.X j).N[i]? =some x:=by intro _;rfl)(hx:∀j,Loc (C.X j).env.scope x:=by intro _;first|exact zC5 rfl|exact zBs rfl)(hs:∀j,zCk e (some (.Name x pos')) pos.line (C.X j).env=pure false:=by intro _;rfl)(hf:∀j,(C.X j).fn x=true\/(C.X j).env.scope.names.lookup x=some .local:=by intro _;first|exact .inl rfl|exact .inr rfl)(nd:∀j,(C.X j).N.Nodup:=by intro _;assumption):
  SV C i (.Assign [.Name x pos'] e pos) m fe:=by
 obtain⟨t,h1,h2⟩:=he;exact⟨t,λ j=>aGo (nd j) (hN j) (hx j) (h1 j) (hs j) (hf j),h2⟩
def SVF(C:Ct)(i:Nat)(s:Stmt)(m:Mode)(f:En->Rs D):Prop:=∃t,(∀j,PS (C.X j) s (aGN t (vQ i)))/\aNf C.K C.G m t f
theorem mR(he:SF C m e fe)(hN:∀j,(C.X j).N[i]? =some x:=by intro _;rfl)(hx:∀j,Loc (C.X j).env.scope x:=by intro _;first|exact zC5 rfl|exact zBs rfl)(hs:∀j,zCk e (some (.Name x pos')) pos.line (C.X j).env=pure false:=by intro _;rfl)(hf:∀j,(C.X j).fn x=true\/(C.X j).env.scope.names.lookup x=some .local:=by intro _;first|exact .inl rfl|exact .inr rfl)(nd:∀j,(C.X j).N.Nodup:=by intro _;assumption):
  SVF C i (.Assign [.Name x pos'] e pos) m fe:=by
 obtain⟨t,h1,h2⟩:=he;exact⟨t,λ j=>aGo (nd j) (hN j) (hx j) (h1 j) (hs j) (hf j),h2⟩
def aEf(P:Nat->Bool):Mode->Bool
 |some L=>L.all P
 |none=>false
theorem pZ(h:aEf P m=true):∀k,inM m k->P k=true:=by
 intro k hk;cases m with
 |none=>cases h
 |some L=>exact zAp.mp h k hk
abbrev okS:Mode->Bool:=aEf λ k=>decide (k<=1)
abbrev okN:Mode->Bool:=aEf λ k=>k==1
abbrev okO(i:Nat):Mode->Bool:=aEf λ k=>k==1||k==i+2
def cP(i:Nat)(fe:En->Rs D):En->Ou:=λ ρ=>(fe ρ).bo λ d=>.nx (ρ.set i (.sh d))
def ig(i:Nat)(fe:En->Rs D):En->Ou:=λ ρ=>(fe ρ).bo λ d=>.nx (ρ.set i (.nw d))
def fX(i:Nat)(fe:En->Rs D):En->Ou:=λ ρ=>(fe ρ).bo λ d=>.nx (ρ.set i (.ow d))
theorem RR.shared{K:zAA}(hm:okS m=true)(R:RR K G τ ρ σ H lab)(s:aa H H')(r:Rp K (fpM m lab H) H' v d):
  RR K G τ ρ σ H' (cZ H 1 lab)/\Rp K (λ p=>(cZ H 1 lab p).1<=1) H' v d:=R.fresh (P:=λ k=>k<=1) (by decide) (λ k hk=>of_decide_eq_true (pZ hm k hk)) s r
theorem cQ{i:Nat}(h:SV C i s m fe)(hm:okS m=true:=by rfl):SS C s (cP i fe):=by
 obtain⟨t,h1,h2⟩:=h;refine⟨_,h1,λ τ σ H ρ lab De R W=>h2 τ σ H ρ lab _ R (W.bo.imp λ d _ w v H' s r=>?_)⟩;obtain⟨R',r'⟩:=R.shared hm s r;exact w _ _ _ (R'.put (s:=.sh d) r')
theorem gG(h:SV C i s m fe)(hm:okN m=true:=by rfl):SS C s (ig i fe):=by
 obtain⟨t,h1,h2⟩:=h;refine⟨_,h1,λ τ σ H ρ lab De R W=>h2 τ σ H ρ lab _ R (W.bo.imp λ d _ w v H' s r=>?_)⟩;obtain⟨R',r'⟩:=R.fresh (P:=λ k=>k=1) rfl (λ k hk=>beq_iff_eq.mp (pZ hm k hk)) s r;exact w _ _ _ (R'.put (s:=.nw d) r')
theorem gF(h:SVF C i s m fe)(hm:okO i m=true:=by rfl):SS C s (fX i fe):=by
 obtain⟨t,h1,h2⟩:=h;refine⟨_,h1,λ τ σ H ρ lab De R W=>h2 τ σ H ρ lab _ R (W.bo.imp λ d _ w v H' s r ht=>?_)⟩;obtain⟨lab',R',r'⟩:=R.freshO i (λ k hk=>by have:=pZ hm k hk;simpa using this) s r ht;exact w _ _ _ (R'.put (s:=.ow d) r')
def aIP(K:zAA)(G:Gx)(g:TG)(fg:D->En->Rs En):Prop:=∀τ v d σ H ρ lab (Q:L2.St->Hp->Prop) ρ',RR K G τ ρ σ H lab->Rp K (λ p=>(lab p).1<=1) H v d->fg d ρ= .ok ρ'->(∀σ',RR K G τ ρ' σ' H lab->Q σ' H)->g v σ H Q
def aNe(K:zAA)(G:Gx)(g:TGs)(fg:List D->En->Rs En):Prop:=∀τ vs ds σ H ρ lab (Q:L2.St->Hp->Prop) ρ',RR K G τ ρ σ H lab->Rps K (λ p=>(lab p).1<=1) H vs ds->fg ds ρ= .ok ρ'->(∀σ',RR K G τ ρ' σ' H lab->Q σ' H)->g vs σ H Q
def SG(C:Ct)(tg:Expr)(ks:List Nat)(fg:D->En->Rs En):Prop:=∃g,(∀i,PG (C.X i) tg g)/\aIP C.K C.G g fg/\oG g ks/\aAg g
def SGs(C:Ct)(tg:List Expr)(ks:List Nat)(fg:List D->En->Rs En):Prop:=∃g,(∀i,PGs (C.X i) tg g)/\aNe C.K C.G g fg/\zE g ks/\vK g
def gnm(i:Nat):D->En->Rs En:=λ d ρ=>.ok (ρ.set i (.sh d))
def sE:List D->En->Rs En:=λ ds ρ=>match ds with
 |[]=>.ok ρ
 |_=>.st
def dg(f:D->En->Rs En)(g:List D->En->Rs En):List D->En->Rs En:=λ ds ρ=>match ds with
 |d::r=>(f d ρ).bd (g r)
 |_=>.st
def qQ(n:Nat)(g:List D->En->Rs En):D->En->Rs En:=λ d ρ=>match d with
 | .tup ds=>if ds.length=n then g ds ρ else .st
 |_=>.st
variable{ks:List Nat}{fg:D->En->Rs En}{fgs:List D->En->Rs En}{tg:Expr}{tgs:List Expr}
theorem cI(hN:∀j,(C.X j).N[i]? =some x:=by intro _;rfl)(hx:∀j,Loc (C.X j).env.scope x:=by intro _;first|exact zC5 rfl|exact zBs rfl)(hf:∀j,(C.X j).fn x=true\/(C.X j).env.scope.names.lookup x=some .local:=by intro _;first|exact .inl rfl|exact .inr rfl)(nd:∀j,(C.X j).N.Nodup:=by intro _;assumption)(hk:i∈ks:=by decide):SG C (.Name x pos) ks (gnm i):=
 ⟨_,λ j=>aJG (nd j) (hN j) (hx j) (hf j),λ τ v d σ H ρ lab Q ρ' R r e q=>by cases e;exact q _ (R.put (s:=.sh d) r),aJs hk,aJu⟩
theorem aAp:SGs C [] ks sE:=by
 refine⟨_,λ _=>aJF,λ τ vs ds σ H ρ lab Q ρ' R r e q=>?_,aJr,aJt⟩;cases r with
 |nil=>cases e;exact⟨rfl,q _ R⟩
 |cons _ _=>cases e
theorem mV(h:SG C tg ks fg)(k:SGs C tgs ks fgs)(hs:∀i,(zCd (tg::tgs) (C.X i).env).map (·.2)=zEe tg (C.X i).env::(zCd tgs (C.X i).env).map (·.2):=by intro _;rfl):SGs C (tg::tgs) ks (dg fg fgs):=by
 obtain⟨g,h1,h2,h3,h4⟩:=h;obtain⟨u,k1,k2,k3,k4⟩:=k;refine⟨_,λ i=>aGs (h1 i) (k1 i) (hs i),λ τ vs ds σ H ρ lab Q ρ' R r e q=>?_,aHf h3 h4 k3 k4,aHk h4 k4⟩;cases r with
 |nil=>cases e
 |cons h r=>
  obtain⟨ρ1,e1,e2⟩:=cW e;exact⟨_,_,rfl,h2 τ _ _ σ H ρ lab _ ρ1 R h e1 λ σ1 R1=>k2 τ _ _ σ1 H ρ1 lab Q ρ' R1 r e2 q⟩
theorem aDH(h:SGs C tgs ks fgs)(hn:∀i,(zCd tgs (C.X i).env).length=n:=by intro _;rfl)(hst:∀i,(zCd tgs (C.X i).env).findIdx? (·.1)=none:=by intro _;rfl):SG C (.Tuple tgs k pos) ks (qQ n fgs):=by
 obtain⟨u,k1,k2,k3,k4⟩:=h;refine⟨aJv C.K n u,λ i=>by rw[<-C.hK i];exact aL1 (C.calm i) (k1 i) (hn i) (hst i),λ τ v d σ H ρ lab Q ρ' R r e q=>?_,uy k3,aMV k4⟩;cases r with
 |tup h r=>
  unfold qQ at e;dsimp only at e;split at e
  ·rename_i hl
   exact⟨_,_,rfl,h,by rw[r.length];exact hl,k2 τ _ _ σ H ρ lab Q ρ' R r e q⟩
  ·cases e
 |_=>cases e
def aII(fe:En->Rs D)(fg:D->En->Rs En):En->Ou:=λ ρ=>(fe ρ).bo λ d=>match fg d ρ with
 | .ok ρ'=>.nx ρ'
 |_=>.st
theorem aLB(he:SE C m e fe)(hg:SG C tg ks fg)(hm:okS m=true:=by rfl)(hs:∀i,swapsWithSole [tg] e pos.line (C.X i).env=pure false:=by intro _;rfl)(hw:∀i,swappedStores [tg] e (C.X i).env=pure none:=by intro _;rfl)
  (h1:∀i,(zCd [tg] (C.X i).env).map (·.2)=[zEe tg (C.X i).env]:=by intro _;rfl):SS C (.Assign [tg] e pos) (aII fe fg):=by
 obtain⟨t,p1,p2⟩:=he;obtain⟨g,q1,q2,_,_⟩:=hg;refine⟨_,λ i=>aLX (p1 i) (q1 i) (hs i) (hw i) (h1 i),λ τ σ H ρ lab De R W=>p2 τ σ H ρ lab _ R (W.bo.imp λ d _ w v H' s r=>?_)⟩;obtain⟨R',r'⟩:=R.shared hm s r;cases hgd:fg d ρ with
 |ok ρ'=>rw[hgd]at w;exact q2 τ v d σ H' ρ _ _ ρ' R' r' hgd λ σ' R2=>w σ' H' _ R2
 |ex c=>rw[hgd]at w;exact zAS w
 |st=>rw[hgd]at w;exact zAS w
def JL(K:zAA)(lab:Lab)(J:It)(H:Hp)(ds:List D):Prop:=∀i,(ds.length<=i->J.stop i H)/\(i<ds.length->J.go i H/\∀x H',J.yld i H x H'->aa H H'/\∃d,ds[i]? =some d/\Rp K (λ p=>(lab p).1<=1) H' x d)
def aIO(K:zAA)(G:Gx)(wi:TI)(f:En->Rs (List D)):Prop:=∀τ σ H ρ lab (Rr:It->Hp->Prop),RR K G τ ρ σ H lab->
 WR G (f ρ) (λ ds=>∀J H1 lab1 τ1,aa H H1->(∀p o,H p=some o->lab1 p=lab p)->RR K G (τ1++τ) ρ σ H1 lab1->(∀lab' H',(∀q∈τ1,Rp K (λ p=>(lab' p).1<=1) H' q.1 q.2)->JL K lab' J H' ds)->Rr J H1)->wi σ H Rr
def SI(C:Ct)(tg iter:Expr)(f:En->Rs (List D)):Prop:=∃wi,(∀i,PI (C.X i) tg iter wi)/\aIO C.K C.G wi f
def aN3(K:zAA)(tl:TE):TI:=λ σ H R=>tl σ H λ x H1=>∃a,x= .ref a/\(((∃xs,SqL K H1 a xs)/\R (Itl K a) H1)\/((∃xs,SqT K H1 a xs)/\R (Itt K a) H1))
theorem aL0(hl:PE X l tl):PI X tg l (aN3 X.K tl):=by
 intro pins s σ H R I h;refine thn (hl pins s σ H _ I h) λ v s1 ⟨x,H1,I1,r1,a,e,q1⟩=>?_
 subst e;cases r1;have hp:∀b∈[s1.heap.objs.size],sV X pins H1 b:=λ b hb=>by
  have e:b=s1.heap.objs.size:=by simpa using hb
  rw[e];exact I1.fpOk (zAO _) (I1.hok.fresh (zAO _))
 rcases q1 with ⟨⟨xs,hq⟩,q⟩|⟨⟨xs,hq⟩,q⟩
 ·obtain⟨its,rv,p,hz⟩:=I1.list hq
  refine zDw p.isList ?_;exact⟨_,_,_,_,H1,rfl,I1.kept (t':=s1.toks) λ b o e=>zAD _ e,aFJ a _,⟨_,zAK _ rfl,rfl,rfl⟩,hp,q⟩
 ·obtain⟨its,rv,p,hz⟩:=I1.tuple hq
  refine zC2 (show s1.heap.IsTuple a its.toArray from p) ?_;exact⟨_,_,_,_,H1,rfl,I1.kept (t':=s1.toks) λ b o e=>zAD _ e,aDB a _,⟨_,zAK _ rfl,rfl,rfl⟩,hp,q⟩
def itD:D->Rs (List D)
 | .tup l=>.ok l
 | .lst l=>.ok l
 | .scr l=>.ok (l.map .int)
 |_=>.st
def cC(fe:En->Rs D):En->Rs (List D):=λ ρ=>(fe ρ).bd itD
theorem aEr{K:zAA}(h:SqL K H a xs)(r:Rps K (λ p=>(lab p).1<=1) H xs ds):JL K lab (Itl K a) H ds:=by
 have hl:=r.length;refine λ i=>⟨λ hi=>⟨xs,h,by lia⟩,λ hi=>⟨⟨xs,xs[i]'(by lia),h,by simp[hl,hi]⟩,λ x H' y=>?_⟩⟩
 obtain⟨e,y⟩:=y;subst e;obtain⟨d,h1,h2⟩:=r.get (y xs h);exact⟨aa.refl _,d,h1,h2⟩
theorem aMK{K:zAA}(h:SqT K H a xs)(r:Rps K (λ p=>(lab p).1<=1) H xs ds):JL K lab (Itt K a) H ds:=by
 have hl:=r.length;refine λ i=>⟨λ hi=>⟨xs,h,by lia⟩,λ hi=>⟨⟨xs,xs[i]'(by lia),h,by simp[hl,hi]⟩,λ x H' y=>?_⟩⟩
 obtain⟨e,y⟩:=y;subst e;obtain⟨d,h1,h2⟩:=r.get (y xs h);exact⟨aa.refl _,d,h1,h2⟩
theorem gZ(he:SE C m e fe)(hm:okS m=true:=by rfl):SI C tg e (cC fe):=by
 obtain⟨t,p1,p2⟩:=he;refine⟨aN3 C.K t,λ i=>by rw[<-C.hK i];exact aL0 (p1 i),λ τ σ H ρ lab Rr R W=>p2 τ σ H ρ lab _ R (W.bd.imp λ d _ w v H1 s r=>?_)⟩;obtain⟨R',r'⟩:=R.shared hm s r;cases d with
 |tup l=>
  cases r' with
  |tup h q=>
   rename_i a xs;refine⟨_,rfl,.inr ⟨⟨_,h⟩,w _ H1 _ [(.ref a,.tup l)] s (λ p o e=>bY e) ⟨R'.len,R'.sl,R'.old,R'.new,λ z hz=>?_⟩ λ lab' H' hq=>?_⟩⟩
   ·rcases zAL.mp hz with rfl|hz
    ·exact .tup h q
    ·exact R'.tm z hz
   ·have z:=hq _ (zAQ ..)
    cases z with
    |tup h' q'=>exact aMK h' q'
 |lst l=>
  cases r' with
  |lst h mm q=>
   rename_i a xs;refine⟨_,rfl,.inl ⟨⟨_,SqL.of h⟩,w _ H1 _ [(.ref a,.lst l)] s (λ p o e=>bY e) ⟨R'.len,R'.sl,R'.old,R'.new,λ z hz=>?_⟩ λ lab' H' hq=>?_⟩⟩
   ·rcases zAL.mp hz with rfl|hz
    ·exact .lst h mm q
    ·exact R'.tm z hz
   ·have z:=hq _ (zAQ ..)
    cases z with
    |lst h' _ q'=>exact aEr (SqL.of h') (q'.wk λ _ _ _ z=>z.1)
 |scr l=>
  cases r' with
  |scr h=>
   rename_i a;refine⟨_,rfl,.inl ⟨⟨_,h.sq⟩,w _ H1 _ [(.ref a,.scr l)] s (λ p o e=>bY e) ⟨R'.len,R'.sl,R'.old,R'.new,λ z hz=>?_⟩ λ lab' H' hq=>?_⟩⟩
   ·rcases zAL.mp hz with rfl|hz
    ·exact .scr h
    ·exact R'.tm z hz
   ·have z:=hq _ (zAQ ..)
    cases z with
    |scr h'=>exact aEr h'.sq Rps.ints
 |_=>exact zAS w
end
section
variable{C:Ct}{pos:Pos}{s:Stmt}{ss:List Stmt}{f g:En->Ou}{e a b:Expr}{es:List Expr}{m m1 m2:Mode}{fe fa fb:En->Rs D}{ks:List Nat}{fg:D->En->Rs En}{tg:Expr}{fi:En->Rs (List D)}{ga:En->Rs (List D)}
def bj(lo hi:Int):List D:=(zAc (hi-lo).toNat).map λ(k:Nat)=>.int (lo+(k:Int))
def fU:List D->Rs (List D)
 |[.int j]=>if -(2^62)<=j/\j<2^62 then .ok (bj 0 j)else .st
 |_=>.st
def tB:List D->Rs (List D)
 |[.int i,.int j]=>if (-(2^62)<=i/\i<2^62)/\(-(2^62)<=j/\j<2^62)then .ok (bj i j)else .st
 |_=>.st
def cY(r:List D->Rs (List D))(ga:En->Rs (List D)):En->Rs (List D):=λ ρ=>(ga ρ).bd r
theorem aHZ{K:zAA}{lo hi:Int}:JL K lab (Itr lo (hi-lo).toNat) H (bj lo hi):=by
 have hl:(bj lo hi).length=(hi-lo).toNat:=by unfold bj;simp
 refine λ i=>⟨λ h=>by show(hi-lo).toNat<=i;lia,λ h=>⟨by show i<(hi-lo).toNat;lia,λ x H' y=>?_⟩⟩
 obtain⟨e,rfl⟩:=y;subst e;refine⟨aa.refl _,.int (lo+i),?_,.int _⟩;unfold bj;rw[zAU,zGb (by lia)];rfl
theorem ie(ha:SA C m [a] ga)(hm:C.mg "range"=none)(hs:∀i,zAW [a] (C.X i).env=[(false,eval a (C.X i).env)]:=by intro _;rfl)(hg:∀i,Gl (C.X i) "range":=by intro _;rfl):SI C tg (.Call (.Name "range" p) [a] [] pos) (cY fU ga):=by
 obtain⟨t,h1,h2⟩:=ha;refine⟨_,λ i=>aFZ (hg i) (by rw[(C.cx i).2.2.2.1];exact hm) (h1 i) (hs i),λ τ σ H ρ lab Rr R W=>h2 τ σ H ρ lab _ R (W.bd.imp λ ds _ w vs H1 s r=>?_)⟩;unfold fU at w;split at w
 ·rename_i j _
  split at w
  ·rename_i hj
   cases r with
   |cons h r=>
    cases h;cases r;refine⟨j,rfl,hj.1,hj.2,?_⟩;have z:=w (Itr 0 (j-0).toNat) H1 lab [] s (λ _ _ _=>rfl) (R.up s) λ lab' H' _=>aHZ
    rwa [Int.sub_zero]at z
  ·exact zAS w
 ·exact zAS w
theorem aAm(ha:SA C m [a,b] ga)(hm:C.mg "range"=none)(hs:∀i,zAW [a,b] (C.X i).env=[(false,eval a (C.X i).env),(false,eval b (C.X i).env)]:=by intro _;rfl)(hs2:∀i,zAW [b] (C.X i).env=[(false,eval b (C.X i).env)]:=by intro _;rfl)(hg:∀i,Gl (C.X i) "range":=by intro _;rfl):SI C tg (.Call (.Name "range" p) [a,b] [] pos) (cY tB ga):=by
 obtain⟨t,h1,h2⟩:=ha;refine⟨_,λ i=>aFY (hg i) (by rw[(C.cx i).2.2.2.1];exact hm) (h1 i) (hs i) (hs2 i),λ τ σ H ρ lab Rr R W=>h2 τ σ H ρ lab _ R (W.bd.imp λ ds _ w vs H1 s r=>?_)⟩;unfold tB at w;split at w
 ·rename_i i j _
  split at w
  ·rename_i hj
   cases r with
   |cons h r=>
    cases h;cases r with
    |cons h r=>
     cases h;cases r;exact⟨i,j,rfl,⟨hj.1.1,hj.1.2,hj.2.1,hj.2.2⟩,w (Itr i (j-i).toNat) H1 lab [] s (λ _ _ _=>rfl) (R.up s) λ lab' H' _=>aHZ⟩
  ·exact zAS w
 ·exact zAS w
def forL(fg:D->En->Rs En)(b:En->Ou):List D->En->Ou
 |[],ρ=>.nx ρ
 |d::ds,ρ=>match fg d ρ with
  | .ok ρ1=>match b ρ1 with
   | .nx ρ2=>forL fg b ds ρ2
   | .ct ρ2=>forL fg b ds ρ2
   | .bk ρ2=>.nx ρ2
   |o=>o
  |_=>.st
def fL(fi:En->Rs (List D))(fg:D->En->Rs En)(b:En->Ou):En->Ou:=λ ρ=>(fi ρ).bo λ ds=>forL fg b ds ρ
theorem gY(hi:SI C tg e fi)(hg:SG C tg ks fg)(hb:SSs C ss f)(hs:∀i,∀x,zBM e (C.X i).env x=pure x:=by intro _ _;rfl):SS C (.For tg e ss [] pos) (fL fi fg f):=by
 obtain⟨wi,i1,i2⟩:=hi;obtain⟨gg,g1,g2,_,g4⟩:=hg;obtain⟨tb,b1,b2⟩:=hb;refine⟨_,λ i=>aLW (C.own i) (C.calm i) (i1 i) (g1 i) (b1 i) (hs i),λ τ σ H ρ lab De R W=>i2 τ σ H ρ lab _ R (W.bo.imp λ ds _ w J H1 lab1 τ1 s1 _ R1 jl=>?_)⟩;refine⟨λ i n σ' H'=>∃ρ' lab',RR C.K C.G (τ1++τ) ρ' σ' H' lab'/\n=ds.length-i/\i<=ds.length/\WS C.K C.G τ (forL fg f (ds.drop i) ρ') De,⟨ds.length,ρ,lab1,R1,by lia,by lia,w⟩,?_⟩;rintro i n σ' H' ⟨ρ',lab',R',rfl,hi,w'⟩;have jj:=jl lab' H' λ q hq=>R'.tm q (zA6 _ hq)
 by_cases hlt:i<ds.length
 ·obtain⟨go,yl⟩:=(jj i).2 hlt
  refine .inr ⟨go,λ σ2 H2=>∃ρ2 lab2,RR C.K C.G (τ1++τ) ρ2 σ2 H2 lab2/\WS C.K C.G τ (forL fg f (ds.drop (i+1)) ρ2) De,λ σ2 H2 ⟨ρ2,lab2,R2,w2⟩=>⟨ds.length-(i+1),by lia,ρ2,lab2,R2,rfl,hlt,w2⟩,λ x H2 hy=>?_⟩;obtain⟨s2,d,ed,rx⟩:=yl x H2 hy;replace R':=R'.up s2;have ed2:ds.drop i=d::ds.drop (i+1):=by
   rw[zBx hlt]
   have:=zAC hlt
   rw[ed]at this;cases this;rfl
  rw[ed2]at w';unfold forL at w';cases eg:fg d ρ' with
  |ex c=>rw[eg]at w';exact zAS w'
  |st=>rw[eg]at w';exact zAS w'
  |ok ρ1=>
   rw[eg]at w';refine g2 (τ1++τ) x d σ' H2 ρ' lab' _ ρ1 R' rx eg λ σ1 R1'=>b2 (τ1++τ) σ1 H2 ρ1 lab' _ R1' ?_
   dsimp only at w';cases eb:f ρ1 with
   |nx ρ2=>rw[eb]at w';exact λ σ2 H3 lab2 R2=>⟨ρ2,lab2,R2,w'⟩
   |ct ρ2=>rw[eb]at w';exact λ σ2 H3 lab2 R2=>⟨ρ2,lab2,R2,w'⟩
   |bk ρ2=>rw[eb]at w';exact λ σ2 H3 lab2 R2=>w' σ2 H3 lab2 R2.drop
   |rt d=>rw[eb]at w';exact w'
   |ex c=>rw[eb]at w';exact w'
   |st=>rw[eb]at w';exact w'
 ·have e:i=ds.length:=by lia
  subst e;rw[zDF]at w';exact .inl ⟨(jj _).1 (zAO _),w' σ' H' lab' R'.drop⟩
def itW(c:En->Rs Bool)(b:En->Ou):Nat->En->Ou
 |0,_=>.st
 |n+1,ρ=>(c ρ).bo λ k=>if k=true then(match b ρ with
   | .nx ρ2=>itW c b n ρ2
   | .ct ρ2=>itW c b n ρ2
   | .bk ρ2=>.nx ρ2
   |o=>o)else .nx ρ
def fuel:Nat:=1000000
def mF(c:En->Rs Bool)(b:En->Ou):En->Ou:=itW c b fuel
theorem xN(hc:ST C c fc)(hb:SSs C ss f):SS C (.While c ss [] pos) (mF fc f):=by
 obtain⟨tc,c1,c2⟩:=hc;obtain⟨tb,b1,b2⟩:=hb;refine⟨_,λ i=>aGn (C.own i) (c1 i) (b1 i),λ τ σ H ρ lab De R W=>?_⟩;refine⟨λ n σ' H'=>∃ρ' lab',RR C.K C.G τ ρ' σ' H' lab'/\WS C.K C.G τ (itW fc f n ρ') De,⟨fuel,ρ,lab,R,W⟩,?_⟩;rintro n σ' H' ⟨ρ',lab',R',w'⟩;cases n with
 |zero=>exact zAS w'
 |succ n=>
  refine c2 τ σ' H' ρ' lab' _ R' (WS.bo (show WS C.K C.G τ ((fc ρ').bo _) De from w') |>.imp λ k _ w H1 s1=>?_);cases k with
  |false=>
   rw[if_neg zA2]at w ⊢;exact w σ' H1 lab' (R'.up s1)
  |true=>
   rw[if_pos rfl]at w ⊢;refine⟨λ σ2 H2=>∃ρ2 lab2,RR C.K C.G τ ρ2 σ2 H2 lab2/\WS C.K C.G τ (itW fc f n ρ2) De,λ σ2 H2 ⟨ρ2,lab2,R2,w2⟩=>⟨n,zBk n,ρ2,lab2,R2,w2⟩,?_⟩;refine b2 τ σ' H1 ρ' lab' _ (R'.up s1) ?_;cases eb:f ρ' with
   |nx ρ2=>rw[eb]at w;exact λ σ2 H3 lab2 R2=>⟨ρ2,lab2,R2,w⟩
   |ct ρ2=>rw[eb]at w;exact λ σ2 H3 lab2 R2=>⟨ρ2,lab2,R2,w⟩
   |bk ρ2=>rw[eb]at w;exact w
   |rt d=>rw[eb]at w;exact w
   |ex c=>rw[eb]at w;exact w
   |st=>rw[eb]at w;exact w
def aBD(x:Str)(ga:En->Rs (List D)):En->Ou:=λ ρ=>(ga ρ).bo λ ds=>if ds.length<=zAT then .ex x else .st
theorem aGR{rest:List Expr}(hd:C.dOk=true)(hm:C.mg x=some (.ref Ca))(hcl:C.G.cl x=Ca)(hC:aCy C.K Ca)(ha:SA C m (e₀::rest) ga)(he:∀i,zAW (e₀::rest) (C.X i).env=(false,eval e₀ (C.X i).env)::zAW rest (C.X i).env:=by intro _;rfl)(hplain:∀i,(zCV cpos (zAW rest (C.X i).env)).any (·.1)=false:=by intro _;rfl)(hdb:(x==("__debug__":Str))=false:=by decide)(hg:∀i,Gl (C.X i) x:=by intro _;rfl):SS C (.Raise (some (.Call (.Name x np) (e₀::rest) [] cpos)) none pos) (aBD x ga):=by
 obtain⟨t,h1,h2⟩:=ha;refine⟨_,λ i=>aGp (C.dcx hd i) (C.calm i) (by rw[(C.cx i).2.2.2.1];exact hm) (by rw[C.hK i];exact hC) (hg i) (h1 i) (he i) (hplain i) hdb,λ τ σ H ρ lab De R W=>h2 τ σ H ρ lab _ R (W.bo.imp λ ds _ w vs H1 s r=>?_)⟩;by_cases hz:ds.length<=zAT
 ·rw[if_pos hz]at w
  refine⟨by rw[r.length];exact hz,?_⟩
  have:=w H1 (R.old.trans s)
  rwa [hcl]at this
 ·rw[if_neg hz]at w
  exact zAS w
def spF(K:zAA)(cl:Str->Addr)(n:Nat)(F:List D->Rs D):Sp:=λ vs H Q E=>∃ds,vs.length=n/\Rps K (λ _=>True) H vs ds/\WR ⟨H,E,cl⟩ (F ds) (λ d=>∀v H',aa H H'->Rp K (λ p=>H p=none) H' v d->Q v H')
def aN(F:List D->Rs D)(ga:En->Rs (List D)):En->Rs D:=λ ρ=>(ga ρ).bd F
theorem aBq{K:zAA}(hn:∀ρ ds,ga ρ= .ok ds->ds.length=n)(h:aKM K G m t ga):jR K G (some []) (aGM (spF K G.cl n F) [] G.E t) (aN F ga):=by
 intro τ σ H ρ lab Q R W;refine h τ σ H ρ lab _ R (W.bd.imp λ ds eds w vs H1 s r=>⟨ds,by rw[zBX,r.length];exact hn ρ ds eds,by rw[zBX];exact r.wk λ _ _ _ _=>trivial,?_⟩);cases hF:F ds with
 |ok d=>
  rw[hF]at w;exact λ v H' s' r'=>w v H' (s.trans s') (r'.wk λ p o _ z=>.inl (s.free z))
 |ex c=>rw[hF]at w;exact λ H' s'=>w H' ((R.old.trans s).trans s')
 |st=>rw[hF]at w;exact w
variable{k:Nat}{fn:Addr}{fd:zAa}{ps:List Str}{x:Str}{p:Pos}{F:List D->Rs D}{n:Nat}
theorem aIp(hF:cj C.prog C.w C.K C.mg C.base (CX1 C.prog C.w) k fn fd ps (spF C.K C.G.cl n F))(hr:k<=C.k)(hm:C.mg x=some (.ref fn))(hk:zCH C.K (.ref fn)=true)(hb:Binds C.K fd ps [])(ha:SA C m (e::es) ga)(hn:∀ρ ds,ga ρ= .ok ds->ds.length=n)(hdb:(x==("__debug__":Str))=false:=by decide)(he:∀i,zAW (e::es) (C.X i).env=(false,eval e (C.X i).env)::zAW es (C.X i).env:=by intro _;rfl)(hpl:∀i,(zCV pos (zAW es (C.X i).env)).any (·.1)=false:=by intro _;rfl)(hg:∀i,Gl (C.X i) x:=by intro _;rfl):SE C (some []) (.Call (.Name x p) (e::es) [] pos) (aN F ga):=by
 obtain⟨t,h1,h2⟩:=ha;refine⟨_,λ i=>?_,aBq hn h2⟩;obtain⟨e1,e2,e3,e4,e5⟩:=C.cx i;refine aJN (CX:=CX1 (C.X i).prog (C.X i).w) (by rw[e1,e2,e3,e4,e5];exact hF) ((C.room i).mono hr) (hg i) (by rw[e4];exact hm) (by rw[e3];exact hk) (by rw[e3];exact hb) .nil (C.pass i) (h1 i) hdb (he i) (hpl i)
theorem aEn(h:aF ρ= .ok ds):ds.length=0:=by cases h;rfl
theorem yK(h:∀ρ ds,ga ρ= .ok ds->ds.length=n):∀ρ ds,aA fa ga ρ= .ok ds->ds.length=n+1:=λ ρ ds e=>by
 obtain⟨d,_,e⟩:=cW e;obtain⟨r,er,e⟩:=cW e;cases e;rw[zA8,h ρ r er]
end
def cA(mg:Str->Option Value):Str->Addr:=λ x=>match mg x with
 |some (.ref a)=>a
 |_=>0
abbrev ctD(P:zA7)(w:World)(K:zAA)(mg:Str->Option Value)(base:Heap)(N:List Str)(q:Str)(sc:Scope)(f:Addr)(cdv:Value)(A:zAk)(outer:List Env)(s:zAG)(H:Hp)(E:XK)(k:Nat)(hr:lU k (A.deeper (zEF q sc s.heap.objs.size f cdv))):Ct where
 ι:=Unit
 X:=λ _=>aCl (CX1 P w) P w K mg base N q sc f cdv A outer s H E
 prog:=P
 w:=w
 K:=K
 mg:=mg
 base:=base
 k:=k
 G:=⟨H,E,cA mg⟩
 cx:=λ _=>⟨rfl,rfl,rfl,rfl,rfl⟩
 calm:=λ _=>rfl
 room:=λ _=>hr
 own:=λ _=>lN.own lN.of
 pass:=λ _=>lN.pass lN.of
 dOk:=true
 dcx:=λ _ _=>lN.of
def bF(n:Nat)(ds:List D):En:=ds.map .sh++zA1 (n-ds.length) .no
def fQ(n:Nat)(f:En->Ou):List D->Rs D:=λ ds=>match f (bF n ds)with
 | .nx _=>.ok .non
 | .rt d=>.ok d
 | .ex c=>.ex c
 |_=>.st
theorem RR.start{K:zAA}(r:Rps K (λ _=>True) H vs ds):RR K ⟨H,E,cl⟩ [] (bF N.length ds) (start N vs) H (λ _=>(0,0)):=by
 have hl:=r.length;refine⟨by unfold bF L2.start;simp[hl],λ i s e=>?_,aa.refl H,λ p hp=>absurd rfl hp,λ q hq=>by cases hq⟩;unfold bF at e;by_cases hi:i<ds.length
 ·rw[zC8 (by simpa using hi),zAU]at e
  cases ed:ds[i]? with
  |none=>rw[ed]at e;cases e
  |some d=>
   rw[ed]at e;cases e;obtain⟨x,ex,rx⟩:=r.getD ed;refine .inr ⟨x,?_,rx.wk λ _ _ _ _=>zAb _⟩;unfold L2.start;rw[zC8 (by simpa[hl]using hi),zAU,ex];rfl
 ·rw[zDW (by simpa using hi),zCo]at e
  split at e
  ·cases e;exact .inl rfl
  ·cases e
section
variable{P:zA7}{w:World}{K:zAA}{mg:Str->Option Value}{base:Heap}
theorem aMY{x q:Str}{st:Stmt}(F:L2.Fun K x q st fn fd)(S:bA N ps (aV st))
  (hb:∀cdv A outer s H E hr,SSs (ctD P w K mg base N q (aV st) fn cdv A outer s H E k hr) (jf st) f):
  cj P w K mg base (CX1 P w) (k+1) fn fd ps (spF K (cA mg) ps.length (fQ N.length f)):=by
 refine F.okX S (λ vs H Q E ⟨ds,hl,_⟩=>hl) λ cdv A outer s H vs Q E hr ⟨ds,hl,r,W⟩=>?_
 obtain⟨t,h1,h2⟩:=hb cdv A outer s H E hr;refine⟨t,h1 (),h2 [] _ H _ _ _ (RR.start r) ?_⟩;unfold fQ at W;cases e:f (bF N.length ds)with
 |nx ρ=>rw[e]at W;exact λ σ' H' lab R=>W .non H' R.old .non
 |rt d=>rw[e]at W;exact λ v H' s r=>W v H' s r
 |ex c=>rw[e]at W;exact W
 |bk ρ=>rw[e]at W;exact zAS W
 |ct ρ=>rw[e]at W;exact zAS W
 |st=>rw[e]at W;exact zAS W
theorem aJy{st:Stmt}(F:L2.Fun K x q st fn fd)(S:bA N ps (aV st))
  (hb:∀cdv A outer s H E hr,SSs (ctD P w K mg base N q (aV st) fn cdv A outer s H E k hr) (jf st) f)(hn:ps.length=n)(hF:fQ N.length f=FF):
  cj P w K mg base (CX1 P w) (k+1) fn fd ps (spF K (cA mg) n FF):=by
 subst hn hF;exact aMY F S hb
end
theorem OpR.or(h:OpR X f r)(h':OpR X f r'):OpR X f (λ x y H Q=>r x y H Q\/r' x y H Q):=by
 intro pins s σ H x y v u Q I rx ry q;rcases q with q|q
 ·exact h pins s σ H x y v u Q I rx ry q
 ·exact h' pins s σ H x y v u Q I rx ry q
theorem OpS.or{K:zAA}(h:OpS K r fd)(h':OpS K r' fd'):OpS K (λ x y H Q=>r x y H Q\/r' x y H Q) (λ d e=>match fd d e with
  | .ok z=>.ok z
  |_=>fd' d e):=by
 intro A x y d e H Q z rx ry ez q;dsimp only at ez;cases hd:fd d e with
 |ok w=>rw[hd]at ez;cases ez;exact .inl (h A x y d e H Q _ rx ry hd q)
 |ex c=>rw[hd]at ez;exact .inr (h' A x y d e H Q z rx ry ez q)
 |st=>rw[hd]at ez;exact .inr (h' A x y d e H Q z rx ry ez q)
section
variable{K:zAA}
def i2(p:Int->Int->Bool)(g:Int->Int->D):D->D->Rs D
 | .int i,.int j=>if p i j=true then .ok (g i j)else .st
 |_,_=>.st
theorem aD9{g:Int->Int->Int}(hp:∀i j,p i j=true->c i j):OpS K (rI c λ i j=>.int (g i j)) (i2 p λ i j=>.int (g i j)):=by
 intro A x y d e H Q z rx ry ez q;unfold i2 at ez;split at ez
 ·rename_i i j
  split at ez
  ·rename_i h
   cases ez;obtain rfl:=rx.int_inv;obtain rfl:=ry.int_inv;exact⟨i,j,rfl,rfl,hp i j h,q _ H (aa.refl H) (.int _)⟩
  ·cases ez
 ·cases ez
theorem aJU{g:Int->Int->Int}:OpS K (rI0 λ i j=>.int (g i j)) (i2 (λ _ _=>true) λ i j=>.int (g i j)):=by
 intro A x y d e H Q z rx ry ez q;unfold i2 at ez;split at ez
 ·rename_i i j
  cases ez;obtain rfl:=rx.int_inv;obtain rfl:=ry.int_inv;exact⟨i,j,rfl,rfl,q _ H (aa.refl H) (.int _)⟩
 ·cases ez
theorem xq{g:Int->Int->Bool}:OpS K (rI0 λ i j=>.bl (g i j)) (i2 (λ _ _=>true) λ i j=>.bl (g i j)):=by
 intro A x y d e H Q z rx ry ez q;unfold i2 at ez;split at ez
 ·rename_i i j
  cases ez;obtain rfl:=rx.int_inv;obtain rfl:=ry.int_inv;exact⟨i,j,rfl,rfl,q _ H (aa.refl H) (.bl _)⟩
 ·cases ez
theorem aBZ{g:Int->Int->Int}:∀x y z,i2 p (λ i j=>.int (g i j)) x y= .ok z->imm z=true:=by
 intro x y z e;unfold i2 at e;split at e
 ·split at e
  ·cases e;rfl
  ·cases e
 ·cases e
theorem aDx{g:Int->Int->Bool}:∀x y z,i2 p (λ i j=>.bl (g i j)) x y= .ok z->imm z=true:=by
 intro x y z e;unfold i2 at e;split at e
 ·split at e
  ·cases e;rfl
  ·cases e
 ·cases e
def aW:D->D->Rs D
 | .int i,.int j=>.ok (.int (i+j))
 | .lst l,.lst m=>if l.length+m.length<=zAT then .ok (.lst (l++m))else .st
 | .tup l,.tup m=>if l.length+m.length<=zAT then .ok (.tup (l++m))else .st
 |_,_=>.st
def aK4(K:zAA):R2:=λ x y H Q=>∃a b xs ys,x= .ref a/\y= .ref b/\SqT K H a xs/\SqT K H b ys/\xs.length+ys.length<=zAT/\
 (xs=[]->Q (.ref b) H)/\(ys=[]->Q (.ref a) H)/\New H (.tup (xs++ys)) Q
theorem aJZ:OpR X (zCI .Add) (aK4 X.K):=by
 intro pins s σ H x y v u Q I rx ry h;obtain⟨a,b,xs,ys,rfl,rfl,ha,hb,hz,q0,q1,q2⟩:=h;by_cases hx:xs=[]
 ·subst hx
  cases rx;cases ry;obtain⟨its,r1,p1,_⟩:=I.tuple ha;obtain⟨its2,r2,p2,_⟩:=I.tuple hb;cases r1;exact HT.aIF p1 p2 ⟨.ref b,H,I,rfl,q0 rfl⟩
 ·exact aJ0 pins s σ H _ _ v u Q I rx ry ⟨a,b,xs,ys,rfl,rfl,ha,hb,hx,hz,q1,λ _ p hp=>q2.at hp⟩
def aE7(K:zAA):R2:=λ x y H Q=>rI0 (λ i j=>.int (i+j)) x y H Q\/(aK5 x y H Q\/aK4 K x y H Q)
theorem aJ2:OpR X (zCI .Add) (aE7 X.K):=OpR.or aLw (OpR.or aJ1 aJZ)
theorem aHE:OpS K (aE7 K) aW:=by
 intro A x y d e H Q z rx ry ez q;unfold aW at ez;split at ez
 ·cases ez;obtain rfl:=rx.int_inv;obtain rfl:=ry.int_inv;exact .inl ⟨_,_,rfl,rfl,q _ H (aa.refl H) (.int _)⟩
 ·split at ez
  ·rename_i hl
   cases ez;obtain⟨_,_,rfl,h1,m1,r1⟩:=rx.lst_inv;obtain⟨_,_,rfl,h2,m2,r2⟩:=ry.lst_inv;refine .inr (.inl ⟨_,_,_,_,rfl,rfl,h1,h2,by rw[r1.length,r2.length];exact hl,λ p H' s hp hn=>q _ H' s (.lst hp (.inl hn) ?_)⟩);exact(((r1.wk λ _ _ _ z=>z.1).append (r2.wk λ _ _ _ z=>z.1)).wk (A':=λ q=>(H q=none\/A q)/\q≠p) λ q o e z=>⟨.inr z,λ e'=>by subst e';rw[hn]at e;cases e⟩).up s
  ·cases ez
 ·split at ez
  ·rename_i hl
   cases ez;obtain⟨_,_,rfl,h1,r1⟩:=rx.tup_inv;obtain⟨_,_,rfl,h2,r2⟩:=ry.tup_inv;have r1':=r1.wk (A':=λ p=>H p=none\/A p) λ _ _ _ z=>.inr z
   have r2':=r2.wk (A':=λ p=>H p=none\/A p) λ _ _ _ z=>.inr z
   refine .inr (.inr ⟨_,_,_,_,rfl,rfl,h1,h2,by rw[r1.length,r2.length];exact hl,λ e=>?_,λ e=>?_,λ p H' s hp hn=>q _ H' s (.tup (SqT.of hp) ((r1'.append r2').up s))⟩)
   ·subst e
    cases r1';exact q _ H (aa.refl H) (.tup h2 r2')
   ·subst e
    cases r2';rw[zBX]at q;exact q _ H (aa.refl H) (.tup h1 r1')
  ·cases ez
 ·cases ez
def lQ:D->D->Rs D
 | .int i,.int j=>if (decide (-(2^64)<i)&&decide (i<2^64))||(decide (-(2^64)<j)&&decide (j<2^64))then .ok (.int (i*j))else .st
 | .lst l,.int k=>if decide (-(2^63)<=k)&&decide (k<2^63)&&decide (l.length*k.toNat<=zAT)&&jb l then .ok (.lst (zA1 k.toNat l).flatten)else .st
 |_,_=>.st
theorem Rps.rep(r:Rps K A H xs ds):∀k:Nat,Rps K A H (zA1 k xs).flatten (zA1 k ds).flatten
 |0=>.nil
 |k+1=>by
  rw[zBd,zBd,zAi,zAi];exact r.append (Rps.rep r k)
def aKZ:R2:=λ x y H Q=>rI aKR (λ i j=>.int (i*j)) x y H Q\/aNG x y H Q
theorem aJX:OpR X (zCI .Mult) aKZ:=OpR.or aLk aLh
theorem aLe:OpS K aKZ lQ:=by
 intro A x y d e H Q z rx ry ez q;unfold lQ at ez;split at ez
 ·split at ez
  ·rename_i hc
   cases ez;obtain rfl:=rx.int_inv;obtain rfl:=ry.int_inv;refine .inl ⟨_,_,rfl,rfl,?_,q _ H (aa.refl H) (.int _)⟩;simp only[zFI,zAN,decide_eq_true_eq]at hc;exact hc
  ·cases ez
 ·split at ez
  ·rename_i hc
   simp only[zAN,decide_eq_true_eq]at hc;cases ez;obtain⟨_,_,rfl,h1,m1,r1⟩:=rx.lst_inv;obtain rfl:=ry.int_inv;refine .inr ⟨_,_,_,rfl,rfl,h1,hc.1.1.1,hc.1.1.2,by rw[r1.length];exact hc.1.2,λ p hp=>q _ _ (bC hp _) (.lst bB (.inl hp) ?_)⟩;exact((r1.rep _).wk (A':=λ q=>(H q=none\/A q)/\q≠p) λ q o e z=>⟨.inr z.1,λ e'=>by subst e';rw[hp]at e;cases e⟩).up (bC hp _)
  ·cases ez
 ·cases ez
def intsOf:List D->Option (List Int)
 |[]=>some []
 | .int i::r=>(intsOf r).map (i::·)
 |_=>none
theorem cu:∀{l:List D} {ns:List Int},intsOf l=some ns->l=ns.map .int
 |[],ns,h=>by cases h;rfl
 | .int i::r,ns,h=>by
  simp only[intsOf,zCM]at h;obtain⟨ms,h1,rfl⟩:=h;rw[cu h1];rfl
 | .non::_,_,h=>by cases h
 | .bl _::_,_,h=>by cases h
 | .str _::_,_,h=>by cases h
 | .tup _::_,_,h=>by cases h
 | .lst _::_,_,h=>by cases h
 | .dct _ _::_,_,h=>by cases h
 | .set _::_,_,h=>by cases h
 | .scr _::_,_,h=>by cases h
theorem fZ:∀ns:List Int,intsOf (ns.map .int)=some ns
 |[]=>rfl
 |n::ns=>by simp only[zAH,intsOf,fZ ns,zCT]
def ltT(p:List Int->List Int->Bool):D->D->Rs D
 | .tup l,.tup m=>match intsOf l,intsOf m with
  |some ns,some ms=>.ok (.bl (p ns ms))
  |_,_=>.st
 |_,_=>.st
theorem aE4(r:Rp K A H x (.tup l))(e:intsOf l=some ns):∃a,x= .ref a/\SqT K H a (ns.map V.int):=by
 have:=cu e
 subst this;cases r with
 |tup h r=>
  have:=r.ints_of
  subst this;exact⟨_,rfl,h⟩
theorem aEe(hr:∀x y H Q,(∃a b ns ms,x= .ref a/\y= .ref b/\SqT K H a (ns.map V.int)/\SqT K H b (ms.map V.int)/\Q (.bl (p ns ms)) H)->r x y H Q):OpS K r (ltT p):=by
 intro A x y d e H Q z rx ry ez q;unfold ltT at ez;split at ez
 ·split at ez
  ·rename_i ns ms e1 e2
   cases ez;obtain⟨a,rfl,ha⟩:=aE4 rx e1;obtain⟨b,rfl,hb⟩:=aE4 ry e2;exact hr _ _ _ _ ⟨a,b,ns,ms,rfl,rfl,ha,hb,q _ H (aa.refl H) (.bl _)⟩
  ·cases ez
 ·cases ez
def ltD:D->D->Rs D:=λ d e=>match i2 (λ _ _=>true) (λ i j=>.bl (decide (i<j))) d e with
 | .ok z=>.ok z
 |_=>ltT HT.lexLt d e
def leD:D->D->Rs D:=λ d e=>match i2 (λ _ _=>true) (λ i j=>.bl (decide (i<=j))) d e with
 | .ok z=>.ok z
 |_=>ltT HT.lexLe d e
def gtD:D->D->Rs D:=i2 (λ _ _=>true) (λ i j=>.bl (decide (j<i)))
def geD:D->D->Rs D:=i2 (λ _ _=>true) (λ i j=>.bl (decide (j<=i)))
theorem aLm(hu:X.A.units<cLine):OpR X (zAo .Lt) (λ x y H Q=>rI0 (λ i j=>.bl (decide (i<j))) x y H Q\/aIu X.K x y H Q):=OpR.or aNR (aLn hu)
theorem aLo(hu:X.A.units<cLine):OpR X (zAo .LtE) (λ x y H Q=>rI0 (λ i j=>.bl (decide (i<=j))) x y H Q\/aIv X.K x y H Q):=OpR.or aNS (aLp hu)
theorem aHB:OpS K (λ x y H Q=>rI0 (λ i j=>.bl (decide (i<j))) x y H Q\/aIu K x y H Q) ltD:=OpS.or xq (aEe λ _ _ _ _ h=>h)
theorem aHC:OpS K (λ x y H Q=>rI0 (λ i j=>.bl (decide (i<=j))) x y H Q\/aIv K x y H Q) leD:=OpS.or xq (aEe λ _ _ _ _ h=>h)
theorem aEw(e:ltT p x y= .ok z):imm z=true:=by
 unfold ltT at e;split at e
 ·split at e
  ·cases e;rfl
  ·cases e
 ·cases e
theorem aH9:∀x y z,ltD x y= .ok z->imm z=true:=by
 intro x y z e;unfold ltD at e;split at e
 ·rename_i w hw;cases e;exact aDx _ _ _ hw
 ·exact aEw e
theorem aMR:∀x y z,leD x y= .ok z->imm z=true:=by
 intro x y z e;unfold leD at e;split at e
 ·rename_i w hw;cases e;exact aDx _ _ _ hw
 ·exact aEw e
def isD(neg:Bool):D->D->Rs D
 | .bl a,.bl b=>if neg then .st else .ok (.bl (a==b))
 |d,.non=>match d with
  | .non=>.ok (.bl (!neg))
  |_=>.ok (.bl neg)
 |_,_=>.st
theorem aLq:OpR X (zAo .Is) (λ x y H Q=>(∃b c,x= .bl b/\y= .bl c/\Q (.bl (b==c)) H)\/(y= .non/\Q (.bl (decide (x= .non))) H)):=OpR.or aHF aLr
theorem aLJ(r:Rp K A H x d)(h:d≠.non):x≠.non:=by
 cases r with
 |non=>exact absurd rfl h
 |_=>exact λ e=>by cases e
theorem aNQ:OpS K (λ x y H Q=>(∃b c,x= .bl b/\y= .bl c/\Q (.bl (b==c)) H)\/(y= .non/\Q (.bl (decide (x= .non))) H)) (isD false):=by
 intro A x y d e H Q z rx ry ez q;unfold isD at ez;split at ez
 ·cases ez;cases rx;cases ry;exact .inl ⟨_,_,rfl,rfl,q _ H (aa.refl H) (.bl _)⟩
 ·cases ry
  split at ez
  ·cases ez;cases rx;exact .inr ⟨rfl,by rw[decide_eq_true rfl];exact q _ H (aa.refl H) (.bl _)⟩
  ·rename_i hn
   cases ez;exact .inr ⟨rfl,by rw[decide_eq_false (aLJ rx hn)];exact q _ H (aa.refl H) (.bl _)⟩
 ·cases ez
theorem aMS:∀x y z,isD n x y= .ok z->imm z=true:=by
 intro x y z e;unfold isD at e;split at e
 ·split at e
  ·cases e
  ·cases e;rfl
 ·split at e<;>(cases e;rfl)
 ·cases e
def mY:D->Rs D
 | .int i=>.ok (.int (-i))
 |_=>.st
theorem aKm:UnS K (rU λ i=>.int (-i)) mY:=by
 intro A x d H Q z rx ez q;cases rx with
 |int i=>cases ez;exact⟨i,rfl,q _ H (aa.refl H) (.int _)⟩
 |_=>cases ez
theorem aJo:∀x z,mY x= .ok z->imm z=true:=by
 intro x z e;cases x with
 |int i=>cases e;rfl
 |_=>cases e
def atD(l:List D)(i:Int):Rs D:=match atI l i with
 |some d=>.ok d
 |none=>.st
def ixD:D->D->Rs D
 | .tup l,.int i=>atD l i
 | .lst l,.int i=>atD l i
 | .scr l,.int i=>atD (l.map .int) i
 |_,_=>.st
theorem Rps.at(r:Rps K A H xs ds)(e:atI ds i=some d):∃x,atI xs i=some x/\Rp K A H x d:=by
 unfold atI at e ⊢;rw[r.length];cases h:ixN ds.length i with
 |none=>rw[h]at e;cases e
 |some j=>
  rw[h]at e;obtain⟨x,e1,e2⟩:=r.getD (i:=j) (d:=d) e;exact⟨x,e1,e2⟩
theorem aNP:OpS K (rIx K) ixD:=by
 intro A x y d e H Q z rx ry ez q;unfold ixD at ez;split at ez
 ·unfold atD at ez
  split at ez
  ·rename_i w hw
   cases ez;obtain⟨_,_,rfl,h,r⟩:=rx.tup_inv;obtain rfl:=ry.int_inv;obtain⟨v,e1,e2⟩:=r.at hw;exact .inr (.inl ⟨_,_,_,v,rfl,rfl,h,e1,q v H (aa.refl H) (e2.wk λ _ _ _ z=>.inr z)⟩)
  ·cases ez
 ·unfold atD at ez
  split at ez
  ·rename_i w hw
   cases ez;obtain⟨_,_,rfl,h,m,r⟩:=rx.lst_inv;obtain rfl:=ry.int_inv;obtain⟨v,e1,e2⟩:=r.at hw;exact .inl ⟨_,_,_,v,rfl,rfl,SqL.of h,e1,q v H (aa.refl H) (e2.wk λ _ _ _ z=>.inr z.1)⟩
  ·cases ez
 ·unfold atD at ez
  split at ez
  ·rename_i w hw
   cases ez;obtain⟨_,rfl,h⟩:=rx.scr_inv;obtain rfl:=ry.int_inv;obtain⟨v,e1,e2⟩:=(Rps.ints (K:=K) (A:=A) (H:=H)).at hw;exact .inl ⟨_,_,_,v,rfl,rfl,h.sq,e1,q v H (aa.refl H) (e2.wk λ _ _ _ z=>.inr z)⟩
  ·cases ez
 ·cases ez
def bZ:List D->Rs D
 |[.tup l]=>.ok (.int l.length)
 |[.lst l]=>.ok (.int l.length)
 |[.scr l]=>.ok (.int l.length)
 |_=>.st
theorem aIB:pQ K (λ xs H Q=>∃p ys,xs=[.ref p]/\(SqL K H p ys\/SqT K H p ys)/\Q (.int ys.length) H) bZ:=by
 intro A xs ds H Q z r ez q;unfold bZ at ez;split at ez
 ·cases ez
  obtain⟨_,rfl,h0⟩:=r.one_inv;obtain⟨_,_,rfl,h,r⟩:=h0.tup_inv;exact⟨_,_,rfl,.inr h,by rw[r.length];exact q _ H (aa.refl H) (.int _)⟩
 ·cases ez
  obtain⟨_,rfl,h0⟩:=r.one_inv;obtain⟨_,_,rfl,h,m,r⟩:=h0.lst_inv;exact⟨_,_,rfl,.inl (SqL.of h),by rw[r.length];exact q _ H (aa.refl H) (.int _)⟩
 ·cases ez
  obtain⟨_,rfl,h0⟩:=r.one_inv;obtain⟨_,rfl,h⟩:=h0.scr_inv;exact⟨_,_,rfl,.inl h.sq,by rw[zAF];exact q _ H (aa.refl H) (.int _)⟩
 ·cases ez
theorem aEx:∀x z,bZ x= .ok z->imm z=true:=by
 intro x z e;unfold bZ at e;split at e<;>first|(cases e;rfl)|cases e
def tyD:D->String
 | .non=>"NoneType"| .bl _=>"bool"| .int _=>"int"| .str _=>"str"| .tup _=>"tuple"| .lst _=>"list"| .dct _ _=>"dict"| .set _=>"set"| .scr _=>"script"| .fn _=>"function"
def eU(T:String):D->Rs D:=λ d=>if qi (tyD d) T true=true then .ok (.bl true)else if qi (tyD d) T false=true then .ok (.bl false)else .st
def aK0(K:zAA)(T:String):List V->Hp->VK->Prop:=λ xs H Q=>∃x d A b,xs=[x,.ty T]/\Rp K A H x d/\qi (tyD d) T b=true/\Q (.bl b) H
theorem aFs:cX X (.builtin "isinstance") (aK0 X.K T):=by
 intro pins s σ H xs us Q I rv h;obtain⟨x,d,A,b,rfl,rd,ok,q⟩:=h;cases rd with
 |tup h r=>
  obtain⟨u,w',rfl,ru,rw'⟩:=vals2 rv;cases ru;cases rw';obtain⟨its,_,⟨o,h1,h2,_⟩,_⟩:=I.tuple h;exact zBJ zGR I.kIn ⟨o,h1,h2⟩ (aDr ok) (λ z=>nomatch z) λ tk=>⟨.bl b,H,I.tok _,rfl,q⟩
 |set h m hS nd=>cases b<;>simp[qi,tyD]at ok
 |scr h=>cases b<;>simp[qi,tyD]at ok
 |fn h=>cases b<;>simp[qi,tyD]at ok
 |non=>exact nC pins s σ H _ us Q I rv ⟨_,T,_,b,rfl,.non,ok,q⟩
 |bl c=>exact nC pins s σ H _ us Q I rv ⟨_,T,_,b,rfl,.bl c,ok,q⟩
 |int c=>exact nC pins s σ H _ us Q I rv ⟨_,T,_,b,rfl,.int c,ok,q⟩
 |str c=>exact nC pins s σ H _ us Q I rv ⟨_,T,_,b,rfl,.str c,ok,q⟩
 |lst h m r=>exact nC pins s σ H _ us Q I rv ⟨_,T,_,b,rfl,.lst h,ok,q⟩
 |dK h m r=>exact nC pins s σ H _ us Q I rv ⟨_,T,_,b,rfl,.dK h,ok,q⟩
 |dT h m r=>
  obtain⟨u,w',rfl,ru,rw'⟩:=vals2 rv;cases ru;cases rw';obtain⟨⟨_,_,_,o,_,_,_,h1,h2,_⟩,_⟩:=(show dN X.prog X.w H s.heap _ (dxO _ _)from I.hok _ _ h.at_);exact zBJ zES I.kIn ⟨o,h1,h2.1⟩ (aDr ok) (λ z=>nomatch z) λ tk=>⟨.bl b,H,I.tok _,rfl,q⟩
end
section
variable{C:Ct}{pos p p2:Pos}{m:Mode}{a:Expr}{fa:En->Rs D}
theorem iI(ha:SE C m a fa)(hm:C.mg "isinstance"=none)(hmT:C.mg x=none)(hn:x≠"__name__":=by decide)(hd:(x==("__debug__":Str))=false:=by decide)(he:∀i,zAW [a,.Name x p2] (C.X i).env=(false,eval a (C.X i).env)::zAW [.Name x p2] (C.X i).env:=by intro _;rfl)(hpl:∀i,(zCV pos (zAW [.Name x p2] (C.X i).env)).any (·.1)=false:=by intro _;rfl)(hg:∀i,Gl (C.X i) "isinstance":=by intro _;rfl)(hv:zAn "isinstance"=some (.builtin "isinstance"):=by decide+kernel)(hgT:∀i,Gl (C.X i) x:=by intro _;rfl)(hvT:zAn x=some (.type T):=by decide+kernel):
  SE C (some []) (.Call (.Name "isinstance" p) [a,.Name x p2] [] pos) (op1 (eU T) fa):=by
 obtain⟨t,h1,h2⟩:=ha;refine⟨tCB (aK0 C.K T) (kI t (kI (tC (.ty T)) uR)),λ i=>?_,λ τ σ H ρ lab Q R W=>?_⟩
 ·rw[<-C.hK i]
  exact oZ aFs (hg i) (by rw[(C.cx i).2.2.2.1];exact hm) hv (eX (h1 i) (eX (aJO (v:=.ty T) (hgT i) (by rw[(C.cx i).2.2.2.1];exact hmT) hvT rfl hn hd) jE) (he i)) (by decide) (by decide) (he i) (hpl i)
 ·refine h2 τ σ H ρ lab _ R (W.bd.imp λ d _ w x H1 s1 r1=>?_)
  obtain⟨z,ez,w⟩:=w.okD;unfold eU at ez;split at ez
  ·rename_i h;cases ez;exact⟨x,d,_,true,rfl,r1,h,w _ H1 s1 (.bl _)⟩
  ·split at ez
   ·rename_i h;cases ez;exact⟨x,d,_,false,rfl,r1,h,w _ H1 s1 (.bl _)⟩
   ·cases ez
end
def sY:Slot->Slot
 | .ow d=>.sh d
 | .nw d=>.sh d
 | .oz d=>.sh d
 | .o2 l=>.sh (.lst (l.map .lst))
 |s=>s
def shE(ρ:En):En:=ρ.map sY
def stV(js:List (Option Nat))(σ:L2.St):L2.St:=js.map λ o=>o.bind λ j=>(σ[j]?).join
def stE(js:List (Option Nat))(ρ:En):En:=js.map λ o=>match o with
 |none=>.no
 |some j=>(ρ[j]?).getD .no
theorem aIq{K:zAA}(h:iQ K H lab i v s):∃d,(s= .no\/sY s= .sh d)/\(s= .no\/Rp K (λ _=>True) H v d):=by
 cases s with
 |no=>exact⟨.non,.inl rfl,.inl rfl⟩
 |sh d=>exact⟨d,.inr rfl,.inr (Rp.wk (λ _ _ _ _=>trivial) h)⟩
 |nw d=>exact⟨d,.inr rfl,.inr (Rp.wk (λ _ _ _ _=>trivial) h)⟩
 |ow d=>exact⟨d,.inr rfl,.inr (Rp.wk (λ _ _ _ _=>trivial) h.1)⟩
 |oz d=>exact⟨d,.inr rfl,.inr (Rp.wk (λ _ _ _ _=>trivial) (aKa h))⟩
 |o2 l=>exact⟨_,.inr rfl,.inr (Rp.wk (λ _ _ _ _=>trivial) (aEh h))⟩
theorem RR.shE{K:zAA}(R:RR K G τ ρ σ H lab):RR K G τ (shE ρ) σ H (λ _=>(0,0)):=by
 refine⟨by unfold VL.shE;rw[zAF];exact R.len,λ i s e=>?_,R.old,λ p hp=>absurd rfl hp,λ q hq=>(R.tm q hq).wk λ _ _ _ _=>zAb _⟩;unfold VL.shE at e;rw[zAU]at e;cases e0:ρ[i]? with
 |none=>rw[e0]at e;cases e
 |some s0=>
  rw[e0]at e;cases e;rcases R.sl i s0 e0 with rfl|⟨v,ev,hv⟩
  ·exact .inl rfl
  ·obtain⟨d,h1,h2⟩:=aIq hv
   rcases h1 with rfl|h1
   ·exact .inl rfl
   ·rcases h2 with rfl|h2
    ·exact .inl rfl
    ·exact .inr ⟨v,ev,by rw[h1];exact h2.wk λ _ _ _ _=>zAb _⟩
theorem aGQ{i:Nat}(e:(stE js ρ)[i]? =some s):s= .no\/∃j,js[i]? =some (some j)/\ρ[j]? =some s:=by
 unfold stE at e;rw[zAU]at e;cases ej:js[i]? with
 |none=>rw[ej]at e;cases e
 |some o=>
  rw[ej]at e;cases o with
  |none=>cases e;exact .inl rfl
  |some j=>
   cases er:ρ[j]? with
   |none=>simp[er]at e;exact .inl e.symm
   |some s'=>simp[er]at e;subst e;exact .inr ⟨j,rfl,er⟩
theorem RR.block{K:zAA}{τ:List (V×D)}(R:RR K G τ (VL.shE ρ) σ H lab)(hz:∀p,(lab p).1<=1)(hl:H l=none):
  RR K G τ (stE js (VL.shE ρ)) (stV js σ) H (λ p=>if p=l then(2,0)else(0,0)):=by
 have nl:∀p o,H p=some o->p≠l:=λ p o e z=>by subst z;rw[hl]at e;cases e
 refine⟨by unfold stE stV;rw[zAF,zAF],λ i s e=>?_,R.old,λ p hp=>?_,λ q hq=>(R.tm q hq).wk λ p o e _=>by rw[if_neg (nl p o e)];exact zAb _⟩
 ·rcases aGQ e with rfl|⟨j,ej,es⟩
  ·exact .inl rfl
  ·rcases R.sl j s es with rfl|⟨v,ev,hv⟩
   ·exact .inl rfl
   ·refine .inr ⟨v,?_,?_⟩
    ·unfold stV
     rw[zAU,ej];simp[ev]
    ·unfold VL.shE at es
     rw[zAU]at es;cases e0:ρ[j]? with
     |none=>rw[e0]at es;cases es
     |some s0=>
      rw[e0]at es;cases es;cases s0 with
      |no=>trivial
      |oz d=>exact Rp.wk (λ p o e _=>by show(if p=l then((2,0):Nat×Nat)else(0,0)).1<=1;rw[if_neg (nl p o e)];exact zAb _) hv
      |nw d=>exact Rp.wk (λ p o e _=>by show(if p=l then((2,0):Nat×Nat)else(0,0)).1<=1;rw[if_neg (nl p o e)];exact zAb _) hv
      |sh d=>exact Rp.wk (λ p o e _=>by show(if p=l then((2,0):Nat×Nat)else(0,0)).1<=1;rw[if_neg (nl p o e)];exact zAb _) hv
      |ow d=>exact Rp.wk (λ p o e _=>by show(if p=l then((2,0):Nat×Nat)else(0,0)).1<=1;rw[if_neg (nl p o e)];exact zAb _) hv
      |o2 d=>exact Rp.wk (λ p o e _=>by show(if p=l then((2,0):Nat×Nat)else(0,0)).1<=1;rw[if_neg (nl p o e)];exact zAb _) hv
 ·by_cases hp':p=l
  ·subst hp';exact R.old.free hl
  ·exact absurd (show(if p=l then((2,0):Nat×Nat)else(0,0)).1=0 by rw[if_neg hp']) hp
def aOD(XN N:List Str)(js:List (Option Nat))(ks:List Nat)(sc:Scope):Bool:=(zAc js.length).all λ i=>match js[i]? with
 |some (some j)=>match N[i]?,XN[j]? with
  |some x,some y=>x==y&&sc.names.lookup x==some .free&& !ks.contains i
  |_,_=>false
 |_=>true
theorem aBb(h1:sc.kind= .function)(h2:(sc.names.all λ y=>y.2 != .cell||sc.names.lookup y.1==some .cell)=true)(h3:(sc.names.all λ y=>y.2 != .local||sc.names.lookup y.1==some .local)=true)
  (h4:(sc.names.all λ y=>y.2 != .free||(X.env.kindOf y.1==some .cell||X.env.kindOf y.1==some .free))=true)(h5:js.length=N.length)(h6:aOD X.N N js ks sc=true):gD X sc N (stV js) ks:=by
 refine⟨h1,λ y hy e=>?_,λ y hy e=>?_,λ y hy e=>?_,λ σ=>by unfold stV;rw[zAF];exact h5,λ σ i x v e1 e2=>?_⟩
 ·have:=zAp.mp h2 y hy
  rw[e]at this;simpa using this
 ·have:=zAp.mp h3 y hy
  rw[e]at this;simpa using this
 ·have:=zAp.mp h4 y hy
  rw[e]at this;simpa using this
 ·unfold stV at e2
  rw[zAU]at e2;cases ej:js[i]? with
  |none=>rw[ej]at e2;cases e2
  |some o=>
   rw[ej]at e2;cases o with
   |none=>cases e2
   |some j=>
    have hi:i<js.length:=(zAI.mp ej).1
    have:=zAp.mp h6 i (zBy.mpr hi)
    rw[ej,e1]at this;dsimp only at this;cases ey:X.N[j]? with
    |none=>rw[ey]at this;cases this
    |some y=>
     rw[ey]at this;simp only[zAN,beq_iff_eq,zEa]at this;obtain⟨⟨h,h'⟩,h''⟩:=this;subst h;refine⟨h',λ hk=>?_,j,ey,?_⟩
     ·rw[List.contains_iff_mem.mpr hk]at h'';cases h''
     ·simp only[zCT,zEd,zF9]at e2
      cases es:σ[j]? with
      |none=>rw[es]at e2;cases e2
      |some w=>rw[es]at e2;simp at e2;subst e2;rfl
abbrev Ct.blk(C:Ct)(sc:Scope)(N:List Str):Ct where
 ι:=C.ι×Addr×List Addr×zAG×Hp
 X:=λ i=>(C.X i.1).block sc i.2.1 N i.2.2.1 i.2.2.2.1 i.2.2.2.2
 prog:=C.prog
 w:=C.w
 K:=C.K
 mg:=C.mg
 base:=C.base
 k:=C.k
 G:={C.G with E:=λ _ _ _=>False}
 cx:=λ i=>C.cx i.1
 calm:=λ i=>C.calm i.1
 room:=λ i=>C.room i.1
 own:=λ i=>PassesOwn.never
 pass:=λ i pins σ H s e s' I h=>by obtain⟨_,_,_,_,_,_,_,_,_,_,_,_,_,hE⟩:=h;exact hE
 dOk:=false
 dcx:=λ h=>absurd h zA2
def lcL(ρ:En)(fg:D->En->Rs En)(ft:En->Rs Bool)(fe:En->Rs D):List D->Rs (List D)
 |[]=>.ok []
 |d::ds=>(fg d ρ).bd λ ρ1=>(ft ρ1).bd λ k=>if k=true then(fe ρ1).bd λ y=>(lcL ρ fg ft fe ds).bd λ ys=>.ok (y::ys)else lcL ρ fg ft fe ds
def lcD(fi:En->Rs (List D))(js:List (Option Nat))(fg:D->En->Rs En)(ft:En->Rs Bool)(fe:En->Rs D):En->Rs D:=λ ρ=>(fi (shE ρ)).bd λ ds=>
 if ds.length<zAT then(match lcL (stE js (shE ρ)) fg ft fe ds with
  | .ok l=>.ok (.lst l)
  |_=>.st)else .st
def aFw(C:Ct)(ifs:List Expr)(f:En->Rs Bool):Prop:=∃t,(∀i,aBi (C.X i) ifs t)/\aCw C.K C.G t f
def cJ:En->Rs Bool:=λ _=>.ok true
theorem jX:aFw C [] cJ:=⟨_,λ _=>aL3,λ τ σ H ρ lab Q R W=>W H (aa.refl H)⟩
theorem aDI(h:ST C c f):aFw C [c] f:=let⟨t,h1,h2⟩:=h;⟨t,λ i=>aL2 (h1 i),h2⟩
theorem aC3(h:lcL ρ fg ft fe (d::ds)= .ok l):
  ∃ρ1 k,fg d ρ= .ok ρ1/\ft ρ1= .ok k/\((k=true/\∃y ys,fe ρ1= .ok y/\lcL ρ fg ft fe ds= .ok ys/\l=y::ys)\/(k=false/\lcL ρ fg ft fe ds= .ok l)):=by
 unfold lcL at h;obtain⟨ρ1,e1,h⟩:=cW h;obtain⟨k,e2,h⟩:=cW h;refine⟨ρ1,k,e1,e2,?_⟩;cases k with
 |true=>
  rw[if_pos rfl]at h;obtain⟨y,e3,h⟩:=cW h;obtain⟨ys,e4,h⟩:=cW h;cases h;exact .inl ⟨rfl,y,ys,e3,e4,rfl⟩
 |false=>
  rw[if_neg zA2]at h;exact .inr ⟨rfl,h⟩
theorem RR.but_blk{K:zAA}{τ:List (V×D)}(R:RR K G τ (stE js (VL.shE ρ)) σ H (λ p=>if p=l then(2,0)else(0,0)))(B:nG l H H')(hl:H l=some o)(ho:lC o=true)(h0:G.H0 l=none):
  RR K G τ (stE js (VL.shE ρ)) σ H' (λ p=>if p=l then(2,0)else(0,0)):=by
 have lab1l:¬((λ p=>if p=l then((2,0):Nat×Nat)else(0,0)) l).1<=1:=by simp
 refine⟨R.len,λ j s e=>?_,λ b o hb=>?_,R.new,λ q hq=>(R.tm q hq).but B hl ho lab1l⟩
 ·rcases R.sl j s e with z|⟨u,e1,e2⟩
  ·exact .inl z
  ·refine .inr ⟨u,e1,?_⟩
   rcases aGQ e with rfl|⟨jx,ej,es⟩
   ·trivial
   ·unfold VL.shE at es
    rw[zAU]at es;cases e0:ρ[jx]? with
    |none=>rw[e0]at es;cases es
    |some s0=>rw[e0]at es;cases es;cases s0<;>first|trivial|exact Rp.but B hl ho lab1l e2
 ·exact B b o (λ z=>by subst z;rw[h0]at hb;cases hb) (R.old b o hb)
theorem RR.blk0{K:zAA}(R:RR K G τ (VL.shE ρ) σ H lab)(hG:G'.H0=G.H0):RR K G' τ (VL.shE ρ) σ H (λ _=>(0,0)):=by
 refine⟨R.len,λ i s e=>?_,by rw[hG];exact R.old,λ p hp=>absurd rfl hp,λ q hq=>(R.tm q hq).wk λ _ _ _ _=>zAb _⟩;rcases R.sl i s e with rfl|⟨v,ev,hv⟩
 ·exact .inl rfl
 ·unfold VL.shE at e
  rw[zAU]at e;cases e0:ρ[i]? with
  |none=>rw[e0]at e;cases e
  |some s0=>rw[e0]at e;cases e;cases s0<;>first|exact .inl rfl|exact .inr ⟨v,ev,Rp.wk (λ _ _ _ _=>zAb _) hv⟩
section
variable{K:zAA}{G:Gx}{wi:TI}{fi:En->Rs (List D)}{js:List (Option Nat)}{g:TG}{fg:D->En->Rs En}{tt:TT}{ft:En->Rs Bool}{te:TE}{fe:En->Rs D}
theorem aGW(hi:aIO K G wi fi)(hg:aIP K {G with E:=λ _ _ _=>False} g fg)(ht:aCw K {G with E:=λ _ _ _=>False} tt ft)(he:jR K {G with E:=λ _ _ _=>False} (some []) te fe):
  jR K G (some []) (tLC wi (stV js) g tt te) (lcD fi js fg ft fe):=by
 intro τ σ H ρ lab Q R W;refine hi τ σ H _ _ _ R.shE (W.bd.imp λ ds _ w J H1 lab1 τ1 s1 _ R1 jl=>?_);intro l hl;obtain⟨hlen,out,hout,w⟩:ds.length<zAT/\∃out,lcL (stE js (VL.shE ρ)) fg ft fe ds= .ok out/\QE K (some []) lab H Q (.lst out):=by
  by_cases hlen:ds.length<zAT
  ·rw[if_pos hlen]at w
   cases hout:lcL (stE js (VL.shE ρ)) fg ft fe ds with
   |ok out=>rw[hout]at w;exact⟨hlen,out,rfl,w⟩
   |ex c=>rw[hout]at w;exact zAS w
   |st=>rw[hout]at w;exact zAS w
  ·rw[if_neg hlen]at w
   exact zAS w
 have R0:RR K {G with E:=λ _ _ _=>False} (τ1++τ) (VL.shE ρ) σ H1 (λ _=>(0,0)):=R1.blk0 rfl;have RB:=R0.block (js:=js) (λ _=>zAb _) hl;have hHl:H l=none:=s1.free hl;have lab1l:¬((λ p=>if p=l then((2,0):Nat×Nat)else(0,0)) l).1<=1:=by simp
 refine⟨λ i n acc H2=>∃pre,n=ds.length-i/\i<=ds.length/\H2 l=some (.lst acc)/\RR K {G with E:=λ _ _ _=>False} (τ1++τ) (stE js (VL.shE ρ)) (stV js σ) H2 (λ p=>if p=l then(2,0)else(0,0))/\aa H H2/\acc.length<=i/\
  Rps K (λ p=>H p=none/\p≠l) H2 acc pre/\∃post,lcL (stE js (VL.shE ρ)) fg ft fe (ds.drop i)= .ok post/\out=pre++post,⟨ds.length,[],by lia,by lia,bB,RB.up (bC hl _),s1.trans (bC hl _),zAO _,.nil,out,hout,rfl⟩,?_⟩
 rintro i n acc H2 ⟨pre,rfl,hi,hH2,R2,s2,hacc,rpre,post,hpost,eout⟩;refine⟨hH2,by lia,?_⟩;have jj:=jl _ H2 λ q hq=>R2.tm q (zA6 _ hq)
 by_cases hlt:i<ds.length
 ·obtain⟨go,yl⟩:=(jj i).2 hlt
  refine .inr ⟨go,λ x H3 hy=>?_⟩;obtain⟨s3,d,ed,rx⟩:=yl x H3 hy;replace R2:=R2.up s3;replace hH2:=s3 _ _ hH2;replace s2:=s2.trans s3;replace rpre:=rpre.up s3;have ed2:ds.drop i=d::ds.drop (i+1):=by
   rw[zBx hlt]
   have:=zAC hlt
   rw[ed]at this;cases this;rfl
  rw[ed2]at hpost;obtain⟨ρ1,k,e1,e2,e3⟩:=aC3 hpost;refine hg (τ1++τ) x d _ H3 _ _ _ ρ1 R2 rx e1 λ σ4 R4=>?_
  refine ht (τ1++τ) σ4 H3 ρ1 _ _ R4 ?_;rw[e2];intro H5 s5;rcases e3 with ⟨rfl,y,ys,e3,e4,rfl⟩|⟨rfl,e4⟩
  ·rw[if_pos rfl]
   refine he (τ1++τ) σ4 H5 ρ1 _ _ (R4.up s5) ?_;rw[e3];intro v H6 s6 r6;have hl6:H6 l=some (.lst acc):=s6 _ _ (s5 _ _ hH2);have B:nG l H6 (upd H6 l (.lst (acc++[v]))):=λ b o ne hb=>by rw[bI ne];exact hb
   refine⟨hl6,ds.length-(i+1),by lia,pre++[y],rfl,hlt,bB,?_,?_,by rw[zAX];simp;lia,?_,ys,e4,by rw[eout];simp⟩
   ·exact(R2.up (s5.trans s6)).but_blk B hl6 rfl (R1.old.free hl)
   ·exact λ b o hb=>B b o (λ z=>by subst z;rw[hHl]at hb;cases hb) (((s2.trans s5).trans s6) b o hb)
   ·refine((rpre.up (s5.trans s6)).append (.cons (r6.wk λ p o _ z=>?_) .nil)).but B hl6 rfl λ z=>z.2 rfl
    rcases z with z|z
    ·exact⟨(s2.trans s5).free z,λ e=>by subst e;rw[s5 _ _ hH2]at z;cases z⟩
    ·cases z
  ·rw[if_neg zA2]
   exact⟨ds.length-(i+1),by lia,pre,rfl,hlt,s5 _ _ hH2,R2.up s5,s2.trans s5,by lia,rpre.up s5,post,e4,eout⟩
 ·have ei:i=ds.length:=by lia
  subst ei;rw[zDF]at hpost;cases hpost;rw[zBX]at eout;subst eout;exact .inl ⟨(jj _).1 (zAO _),w _ H2 s2 (.lst hH2 (.inl hHl) (rpre.wk λ p o _ z=>⟨.inl z.1,z.2⟩))⟩
end
section
variable{C:Ct}{pos:Pos}{elt tg iter:Expr}{ifs:List Expr}{sc:Scope}{N:List Str}{js:List (Option Nat)}{ks:List Nat}{fi:En->Rs (List D)}{fg:D->En->Rs En}{ft:En->Rs Bool}{fe:En->Rs D}
theorem cz{C:Ct}(nd:N.Nodup:=by decide+kernel)(hk:i∈ks:=by decide)(hN:∀j,((C.blk sc N).X j).N[i]? =some x:=by intro _;rfl)(hx:∀j,Loc ((C.blk sc N).X j).env.scope x:=by intro _;first|exact zC5 rfl|exact zBs rfl)
  (hf:∀j,((C.blk sc N).X j).fn x=true\/((C.blk sc N).X j).env.scope.names.lookup x=some .local:=by intro _;first|exact .inl rfl|exact .inr rfl):SG (C.blk sc N) (.Name x pos) ks (gnm i):=
 cI hN hx hf (λ _=>nd) hk
theorem qY(hi:SI C tg iter fi)(hg:SG (C.blk sc N) tg ks fg)(ht:aFw (C.blk sc N) ifs ft)(he:SE (C.blk sc N) (some []) elt fe)(hs:∀i x,zBM iter (C.X i).env x=pure x:=by intro _ _;rfl)(hB:∀i,gD (C.X i) sc N (stV js) ks:=by intro _;exact aBb rfl rfl rfl rfl rfl rfl):SE C (some []) (.ListComp elt [⟨tg,iter,ifs,0⟩] sc pos) (lcD fi js fg ft fe):=by
 obtain⟨wi,i1,i2⟩:=hi;obtain⟨g,g1,g2,g3,g4⟩:=hg;obtain⟨tt,t1,t2⟩:=ht;obtain⟨te,e1,e2⟩:=he;exact⟨_,λ i=>aNM (hB i) (C.calm i) (i1 i) (λ c fp s₀ H₀=>g1 (i,c,fp,s₀,H₀)) g3 (λ c fp s₀ H₀=>t1 (i,c,fp,s₀,H₀)) (λ c fp s₀ H₀=>e1 (i,c,fp,s₀,H₀)) (hs i),aGW i2 g2 t2 e2⟩
theorem aKV(hi:SI C tg iter fi)(hg:SG (C.blk sc N) tg ks fg)(ht:aFw (C.blk sc N) ifs ft)(he:SE (C.blk sc N) (some []) elt fe)(hN:∀j,(C.X j).N[i]? =some x:=by intro _;rfl)(hx:∀j,Loc (C.X j).env.scope x:=by intro _;first|exact zC5 rfl|exact zBs rfl)(hsw:∀j,zCk (.ListComp elt [⟨tg,iter,ifs,0⟩] sc pos) (some (.Name x pos')) spos.line (C.X j).env=pure true:=by intro _;rfl)(hs:∀i x,zBM iter (C.X i).env x=pure x:=by intro _ _;rfl)(hf:∀j,(C.X j).fn x=true\/(C.X j).env.scope.names.lookup x=some .local:=by intro _;first|exact .inl rfl|exact .inr rfl)(nd:∀j,(C.X j).N.Nodup:=by intro _;assumption)(hB:∀i,gD (C.X i) sc N (stV js) ks:=by intro _;exact aBb rfl rfl rfl rfl rfl rfl):
  SV C i (.Assign [.Name x pos'] (.ListComp elt [⟨tg,iter,ifs,0⟩] sc pos) spos) (some []) (lcD fi js fg ft fe):=by
 obtain⟨wi,i1,i2⟩:=hi;obtain⟨g,g1,g2,g3,g4⟩:=hg;obtain⟨tt,t1,t2⟩:=ht;obtain⟨te,e1,e2⟩:=he;exact⟨_,λ j=>aCG (nd j) (hN j) (hx j) (hB j) (C.calm j) (i1 j) (λ c fp s₀ H₀=>g1 (j,c,fp,s₀,H₀)) g3 (λ c fp s₀ H₀=>t1 (j,c,fp,s₀,H₀)) (λ c fp s₀ H₀=>e1 (j,c,fp,s₀,H₀)) (hsw j) (hs j) (hf j),aGW i2 g2 t2 e2⟩
end
section
variable{K:zAA}{G:Gx}{wi:TI}{fi:En->Rs (List D)}{js:List (Option Nat)}{g:TG}{fg:D->En->Rs En}{tt:TT}{ft:En->Rs Bool}{te:TE}{fe:En->Rs D}{m:Mode}
end
section
variable{C:Ct}{pos:Pos}{elt tg iter:Expr}{ifs:List Expr}{sc:Scope}{N:List Str}{js:List (Option Nat)}{ks:List Nat}{fi:En->Rs (List D)}{fg:D->En->Rs En}{ft:En->Rs Bool}{fe:En->Rs D}{m:Mode}
end
theorem RR.mut{K:zAA}(R:RR K G τ ρ σ H lab)(ev:σ[i]? =some (some v))(hl:H l=some o)(ho:lC o=true)(hlab:(lab l).1=i+2)
  (B:nG l H H')(h':iQ K H' lab i v s'):RR K G τ (ρ.set i s') σ H' lab:=by
 refine⟨by rw[zBY];exact R.len,λ j x e=>?_,λ b u hb=>B b u (λ z=>?_) (R.old b u hb),R.new,λ q hq=>(R.tm q hq).but B hl ho λ z=>by lia⟩
 ·by_cases hj:i=j
  ·subst hj
   have hi:i<ρ.length:=by
    have:=(zAI.mp e).1
    rwa [zBY]at this
   rw[zBa hi]at e;cases e;exact .inr ⟨v,ev,h'⟩
  ·rw[zBU hj]at e
   rcases R.sl j x e with z|⟨u,e1,e2⟩
   ·exact .inl z
   ·refine .inr ⟨u,e1,?_⟩
    cases x with
    |no=>trivial
    |sh d=>exact Rp.but B hl ho (λ z=>by lia) e2
    |nw d=>exact Rp.but B hl ho (λ z=>by lia) e2
    |ow d=>exact⟨Rp.but B hl ho (λ z=>by lia) e2.1,e2.2⟩
    |oz d=>
     obtain⟨a,xs,ds,q1,q2,q3,q4,q5⟩:=e2;exact⟨a,xs,ds,q1,q2,B a _ (λ z=>by subst z;exact hj (by lia)) q3,q4,Rps.but B hl ho (λ z=>by lia) q5⟩
    |o2 ll=>
     obtain⟨a,xs,q1,q2,q3,q4,q5⟩:=e2;refine⟨a,xs,q1,B a _ (λ z=>?_) q2,q3,q4,λ jj y ds f1 f2=>(q5 jj y ds f1 f2).but B hl ho λ z=>?_⟩
     ·rw[z]at q3;rw[q3]at hlab;exact hj (by simpa using hlab.symm)
     ·rw[z]at hlab;exact hj (by simpa using hlab.symm)
 ·subst z
  have:=R.new b (by rw[hlab];lia)
  rw[this]at hb;cases hb
section
variable{C:Ct}{pos apos cpos p:Pos}{e a:Expr}{fe fa:En->Rs D}{i:Nat}{x:Str}{m:Mode}
def gQ(i:Nat)(fe:En->Rs D):En->Ou:=λ ρ=>match ρ[i]? with
 |some (.ow (.lst ds))=>(fe ρ).bo λ d=>if ds.length<zAT then .nx (ρ.set i (.ow (.lst (ds++[d]))))else .st
 |_=>.st
theorem fB(i:Nat)(he:SE C m e fe)(hm:okN m=true:=by rfl)(hN:∀j,(C.X j).N[i]? =some x:=by intro _;rfl)(hv:∀j,Vis (C.X j).env.scope x:=by intro _;first|exact zC5 rfl|exact zBs (zC5 rfl)|exact zBs (zBs rfl))(hd:(x==("__debug__":Str))=false:=by decide)
  (hcd:(x==("__classdict__":Str))=false:=by decide)(hs1:∀j,zAW [e] (C.X j).env=[(false,eval e (C.X j).env)]:=by intro _;rfl)
  (hbase:∀j,zCy (.Name x p) "append" (C.X j).env (eval (.Name x p) (C.X j).env)=eval (.Name x p) (C.X j).env:=by intro _;rfl)
  (hfew:∀j,((zCV cpos (zAW [e] (C.X j).env)).all (λ x=>!x.1)&&(zFE cpos (zD9 [] (C.X j).env)).all (λ x=>x.1.isSome)&&decide ([e].length+([]:List zDT).length+(if ([]:List zDT).isEmpty then 0 else 1)<30))=true:=by intro _;rfl)
  (hline:(apos.endLine==cpos.line)=true:=by rfl)
  (hsw:∀j,zCk (.Call (.Attribute (.Name x p) "append" apos) [e] [] cpos) none pos.line (C.X j).env=pure false:=by intro _;rfl):
  SS C (.Expr (.Call (.Attribute (.Name x p) "append" apos) [e] [] cpos) pos) (gQ i fe):=by
 obtain⟨t,h1,h2⟩:=he;refine⟨aBl (tBM C.K "list" xg (zK i) (kI t uR)),λ j=>tD (by rw[<-C.hK j];exact aEb zCg zDj zFR yE (nW (hN j) (hv j) hd hcd) (eX (h1 j) jE (hs1 j)) (hbase j) (hfew j) hline (hs1 j) rfl) (hsw j),λ τ σ H ρ lab De R W=>?_⟩;unfold gQ at W;cases es:ρ[i]? with
 |none=>rw[es]at W;exact zAS W
 |some s=>
  rw[es]at W;split at W
  ·rename_i ds hs
   cases hs;rcases R.sl i _ es with z|⟨v,ev,hv'⟩
   ·cases z
   ·obtain⟨hv1,htop⟩:=hv'
    obtain⟨a0,ea0,la0⟩:=htop rfl;subst ea0;cases hv1 with
    |lst h mm r=>
     rename_i xs;refine⟨.ref a0,ev,.inl ⟨rfl,xs,SqL.of h⟩,h2 τ σ H ρ lab _ R (W.bo.imp λ d _ w y H2 s2 r2=>?_)⟩;by_cases hz:ds.length<zAT
     ·rw[if_pos hz]at w
      refine⟨a0,xs,y,rfl,rfl,s2 _ _ h,by rw[r.length];exact hz,λ H3 B h3=>?_⟩;obtain⟨R',r'⟩:=R.fresh (P:=λ k=>k=1) rfl (λ k hk=>beq_iff_eq.mp (pZ hm k hk)) s2 r2;have la:(cZ H 1 lab a0).1=i+2:=by rw[bY h];exact la0
      refine w σ H3 _ (R'.mut ev (s2 _ _ h) rfl la B ⟨.lst h3 (.inr la) ?_,λ _=>⟨a0,rfl,la⟩⟩);have ra:Rps C.K (λ p=>((cZ H 1 lab p).1=1\/(cZ H 1 lab p).1=i+2)/\p≠a0) H2 (xs++[y]) (ds++[d]):=by
       refine(r.mono s2 λ p o e z=>⟨by rw[bY e];exact z.1,z.2⟩).append (.cons (r'.wk λ p o e z=>⟨.inl z,λ q=>?_⟩) .nil);subst q;rw[la]at z;lia
      exact ra.but B (s2 _ _ h) rfl λ z=>z.2 rfl
     ·rw[if_neg hz]at w
      exact zAS w
  ·exact zAS W
def at2(ll:List (List D)):D->Option (Nat×List D)
 | .int n=>(ixN ll.length n).bind λ j=>(ll[j]?).map λ ds=>(j,ds)
 |_=>none
def pN(i:Nat)(fa fe:En->Rs D):En->Ou:=λ ρ=>match ρ[i]? with
 |some (.o2 ll)=>(fa ρ).bo λ k=>match at2 ll k with
  |some (j,ds)=>(fe ρ).bo λ d=>if ds.length<zAT then .nx (ρ.set i (.o2 (ll.set j (ds++[d]))))else .st
  |none=>.st
 |_=>.st
theorem aIH(h:at2 ll k=some (j,ds)):∃n,k= .int n/\ixN ll.length n=some j/\ll[j]? =some ds:=by
 cases k with
 |int n=>
  simp only[at2,Option.bind_eq_some_iff,zCM]at h;obtain⟨j',h1,ds',h2,h3⟩:=h;cases h3;exact⟨n,rfl,h1,h2⟩
 |_=>cases h
theorem aDF(i:Nat){p2:Pos}(ha:SE C m a fa)(he:SE C (some []) e fe)(hN:∀j,(C.X j).N[i]? =some x:=by intro _;rfl)(hv:∀j,Vis (C.X j).env.scope x:=by intro _;first|exact zC5 rfl|exact zBs (zC5 rfl)|exact zBs (zBs rfl))(hd:(x==("__debug__":Str))=false:=by decide)
  (hcd:(x==("__classdict__":Str))=false:=by decide)(hs1:∀j,zAW [e] (C.X j).env=[(false,eval e (C.X j).env)]:=by intro _;rfl)(hp:wg a:=by exact λ _ _=>rfl)
  (hbase:∀j,zCy (.Subscript (.Name x p) a p2) "append" (C.X j).env (eval (.Subscript (.Name x p) a p2) (C.X j).env)=eval (.Subscript (.Name x p) a p2) (C.X j).env:=by intro _;rfl)
  (hfew:∀j,((zCV cpos (zAW [e] (C.X j).env)).all (λ x=>!x.1)&&(zFE cpos (zD9 [] (C.X j).env)).all (λ x=>x.1.isSome)&&decide ([e].length+([]:List zDT).length+(if ([]:List zDT).isEmpty then 0 else 1)<30))=true:=by intro _;rfl)
  (hline:(apos.endLine==cpos.line)=true:=by rfl)
  (hsw:∀j,zCk (.Call (.Attribute (.Subscript (.Name x p) a p2) "append" apos) [e] [] cpos) none pos.line (C.X j).env=pure false:=by intro _;rfl):
  SS C (.Expr (.Call (.Attribute (.Subscript (.Name x p) a p2) "append" apos) [e] [] cpos) pos) (pN i fa fe):=by
 obtain⟨t,h1,h2⟩:=he;obtain⟨ta,a1,a2⟩:=ha;refine⟨aBl (tBM C.K "list" xg (tOp (aLO C.K) (zK i) ta) (kI t uR)),λ j=>tD (by rw[<-C.hK j];exact aEb zCg zDj zFR yE (aK9 aEs (nW (hN j) (hv j) hd hcd) (a1 j) hp) (eX (h1 j) jE (hs1 j)) (hbase j) (hfew j) hline (hs1 j) rfl) (hsw j),λ τ σ H ρ lab De R W=>?_⟩;unfold pN at W;cases es:ρ[i]? with
 |none=>rw[es]at W;exact zAS W
 |some s=>
  rw[es]at W;cases s with
  |o2 ll=>
   dsimp only at W;rcases R.sl i _ es with z|⟨v,ev,top,xs,rfl,ht,hlt,hlen,hin⟩
   ·cases z
   ·refine⟨.ref top,ev,a2 τ σ H ρ lab _ R (W.bo.imp λ k _ w kv H1 s1 r1=>?_)⟩
    cases hk:at2 ll k with
    |none=>rw[hk]at w;exact zAS w
    |some q=>
     obtain⟨j,ds⟩:=q;rw[hk]at w;dsimp only at w;obtain⟨n,rfl,hj,hds⟩:=aIH hk;cases r1;have hjx:∃xj,xs[j]? =some xj:=by
      have:j<xs.length:=by rw[hlen];exact(zAI.mp hds).1
      exact⟨_,zAC this⟩
     obtain⟨xj,hxj⟩:=hjx;have hr:=hin j xj ds hxj hds;cases hr with
     |lst hl ml rl=>
      rename_i l ys;refine⟨top,xs,n,.ref l,rfl,rfl,SqL.of (s1 _ _ ht),by unfold atI;rw[hlen,hj];exact hxj,.inl ⟨rfl,ys,SqL.of (s1 _ _ hl)⟩,h2 τ σ H1 ρ lab _ (R.up s1) (w.bo.imp λ d _ w y H2 s2 r2=>?_)⟩;by_cases hz:ds.length<zAT
      ·rw[if_pos hz]at w
       have s12:=s1.trans s2;refine⟨l,ys,y,rfl,rfl,s12 _ _ hl,by rw[rl.length];exact hz,λ H3 B h3=>?_⟩;have ltop:l≠top:=λ e=>by rw[e,hlt]at ml;cases ml
       let lab':Lab:=λ p=>match H1 p with
        |none=>(i+2,j+1)
        |some _=>lab p
       have lo:∀{p o},H1 p=some o->lab' p=lab p:=λ{p o} e=>by show(match H1 p with|none=>_|some _=>_)=_;rw[e]
       have ln:∀{p},H1 p=none->lab' p=(i+2,j+1):=λ{p} e=>by show(match H1 p with|none=>_|some _=>_)=_;rw[e]
       have R':RR C.K C.G τ ρ σ H2 lab':=((R.up s1).relab (λ p o e=>lo e) λ p hp=>by
        cases e:H1 p with
        |none=>exact(R.old.trans s1).free e
        |some o=>rw[lo e]at hp;exact R.new p hp).up s2
       have labl:lab' l=(i+2,j+1):=by rw[lo (s1 _ _ hl)];exact ml
       refine w σ H3 lab' (R'.mut ev (s12 _ _ hl) rfl (by rw[labl]) B ⟨top,xs,rfl,B _ _ (zDD ltop) (s12 _ _ ht),by rw[lo (s1 _ _ ht)];exact hlt,by rw[zBY];exact hlen,λ jj z dz f1 f2=>?_⟩);by_cases hjj:j=jj
       ·subst hjj
        rw[hxj]at f1;cases f1;rw[zBa (zAI.mp hds).1]at f2;cases f2;refine .lst h3 labl ?_;have ra:Rps C.K (λ p=>lab' p=(i+2,j+1)/\p≠l) H2 (ys++[y]) (ds++[d]):=by
         refine(rl.mono s12 λ p o e z=>⟨by rw[lo (s1 _ _ e)];exact z.1,z.2⟩).append (.cons (r2.wk λ p o e z=>?_) .nil);rcases z with z|z
         ·exact⟨ln z,λ q=>by subst q;rw[s1 _ _ hl]at z;cases z⟩
         ·cases z
        exact ra.but B (s12 _ _ hl) rfl λ z=>z.2 rfl
       ·rw[zBU hjj]at f2
        refine((hin jj z dz f1 f2).mono s12 (A':=λ p=>lab' p=(i+2,jj+1)) λ p o e q=>by rw[lo (s1 _ _ e)];exact q).but B (s12 _ _ hl) rfl λ q=>?_
        rw[labl]at q;simp only[Prod.mk.injEq]at q;lia
      ·rw[if_neg hz]at w
       exact zAS w
  |_=>exact zAS W
end
mutual
def eqD:D->D->Bool
 | .non,.non=>true
 | .bl a,.bl b=>a==b
 | .bl a,.int b=>(if a then 1 else 0)==b
 | .int a,.bl b=>a==(if b then 1 else 0)
 | .int a,.int b=>a==b
 | .str a,.str b=>a==b
 | .tup l,.tup m=>qT l m
 | .lst l,.lst m=>qT l m
 |_,_=>false
def qT:List D->List D->Bool
 |[],[]=>true
 |x::xs,y::ys=>eqD x y&&qT xs ys
 |_,_=>false
end
mutual
def qU:D->Nat
 | .tup l=>iV l+1
 | .lst l=>iV l+1
 |_=>0
def iV:List D->Nat
 |[]=>0
 |d::r=>max (qU d) (iV r)
end
mutual
def bM:D->Bool
 | .tup l=>bV l
 | .lst l=>bV l
 | .dct _ _=>false
 | .set _=>false
 | .scr _=>false
 | .fn _=>false
 |_=>true
def bV:List D->Bool
 |[]=>true
 |d::r=>bM d&&bV r
end
mutual
theorem yq:∀d:D,bM d=true->eqD d d=true
 | .non,_=>by simp[eqD]
 | .bl b,_=>by simp[eqD]
 | .int i,_=>by simp[eqD]
 | .str x,_=>by simp[eqD]
 | .tup l,h=>by simp only[eqD];exact vB l (by simpa[bM]using h)
 | .lst l,h=>by simp only[eqD];exact vB l (by simpa[bM]using h)
 | .dct _ _,h=>by simp[bM]at h
 | .set _,h=>by simp[bM]at h
 | .scr _,h=>by simp[bM]at h
theorem vB:∀l:List D,bV l=true->qT l l=true
 |[],_=>by simp[qT]
 |d::r,h=>by
  simp only[bV,zAN]at h;simp only[qT,zAN];exact⟨yq d h.1,vB r h.2⟩
end
structure nD(K:zAA)(H:Hp)(s:zAG):Prop where
 tup:∀{a:Addr} {xs:List V},SqT K H a xs->∃its:List Value,Vals xs its/\s.heap.IsTuple a its.toArray
 lst:∀{a:Addr} {xs:List V},H a=some (.lst xs)->∃its:List Value,Vals xs its/\s.heap.IsList a its.toArray
 inj:∀{a:Addr} {xs ys:List V},SqT K H a xs->SqT K H a ys->xs=ys
 ne:∀{a:Addr} {xs ys:List V},SqT K H a xs->H a=some (.lst ys)->False
theorem Inv.seqOk(I:L2.Inv X pins σ H s):nD X.K H s where
 tup:=λ h=>let⟨its,r,p,_⟩:=I.tuple h;⟨its,r,p⟩
 lst:=λ h=>let⟨its,r,p,_⟩:=I.list (SqL.of h);⟨its,r,p.isList⟩
 inj:=λ h h'=>I.tuple_inj h h'
 ne:=λ h h'=>by
  obtain⟨its,_,⟨o,e,c,_⟩,_⟩:=I.tuple h;obtain⟨its2,_,⟨o2,n2,e2,c2,_⟩,_⟩:=I.list (SqL.of h');rw[e]at e2;cases e2;rw[c]at c2;injection c2 with c3
  exact absurd c3 (by decide)
section
variable{K:zAA}{H:Hp}{s:zAG}
theorem aY(h:bM (.dct a b)=true):False:=by simp[bM]at h
theorem b8(h:bM (.set a)=true):False:=by simp[bM]at h
theorem bc(h:bM (.scr a)=true):False:=by simp[bM]at h
theorem cO(h:bM (.fn a)=true):False:=by simp[bM]at h
theorem jh(h:bM (.tup a)=true):bV a=true:=by simpa[bM]using h
theorem ji(h:bM (.lst a)=true):bV a=true:=by simpa[bM]using h
theorem lq(h:bV (d::a)=true):bM d=true/\bV a=true:=by
 simp only[bV,zAN]at h;exact h
def aKQ(K:zAA)(s:zAG)(H:Hp)(x:V)(d:D):Prop:=nD K H s->∀(A':Addr->Prop) (e:D),Rp K A' H x e->bM d=true->bM e=true->d=e
def aCx(K:zAA)(s:zAG)(H:Hp)(xs:List V)(ds:List D):Prop:=nD K H s->∀(A':Addr->Prop) (es:List D),Rps K A' H xs es->bV ds=true->bV es=true->ds=es
theorem aJj(ha:SqT K H a xs)(ih:aCx K s H xs ds):aKQ K s H (.ref a) (.tup ds):=λ ok A' e h n1 n2=>by
 cases h with
 |tup hb r'=>
  have e:=ok.inj ha hb;subst e;rw[ih ok _ _ r' (jh n1) (jh n2)]
 |lst hb _ _=>exact(ok.ne ha hb).elim
 |dK _ _ _=>exact(aY n2).elim
 |dT _ _ _=>exact(aY n2).elim
 |set _ _ _ _=>exact(b8 n2).elim
 |scr _=>exact(bc n2).elim
 |fn _=>exact(cO n2).elim
theorem aJk(ha:H a=some (.lst xs))(ih:aCx K s H xs ds):aKQ K s H (.ref a) (.lst ds):=λ ok A' e h n1 n2=>by
 cases h with
 |tup hb r'=>exact(ok.ne hb ha).elim
 |lst hb _ r'=>
  rw[ha]at hb;cases hb;rw[ih ok _ _ r' (ji n1) (ji n2)]
 |dK _ _ _=>exact(aY n2).elim
 |dT _ _ _=>exact(aY n2).elim
 |set _ _ _ _=>exact(b8 n2).elim
 |scr _=>exact(bc n2).elim
 |fn _=>exact(cO n2).elim
theorem aH5(h1:aKQ K s H x d)(h2:aCx K s H xs ds):aCx K s H (x::xs) (d::ds):=λ ok A' es h n1 n2=>by
 cases h with
 |cons k r'=>rw[h1 ok _ _ k (lq n1).1 (lq n2).1,h2 ok _ _ r' (lq n1).2 (lq n2).2]
theorem Rp.inj(ok:nD K H s)(r:Rp K A H x d)(h:Rp K A' H x e)(n1:bM d=true)(n2:bM e=true):d=e:=
 Rp.rec (motive_1:=λ _ H x d _=>aKQ K s H x d) (motive_2:=λ _ H xs ds _=>aCx K s H xs ds)
  (λ _ _ _ h _ _=>by cases h;rfl) (λ _ _ _ _ h _ _=>by cases h;rfl) (λ _ _ _ _ h _ _=>by cases h;rfl) (λ _ _ _ _ h _ _=>by cases h;rfl) (λ ha _ ih=>aJj ha ih) (λ ha _ _ ih=>aJk ha ih)
  (λ _ _ _ _ _ _ _ _ n1 _=>(aY n1).elim) (λ _ _ _ _ _ _ _ _ n1 _=>(aY n1).elim) (λ _ _ _ _ _ _ _ _ n1 _=>(b8 n1).elim) (λ _ _ _ _ _ n1 _=>(bc n1).elim) (λ _ _ _ _ _ n1 _=>(cO n1).elim)
  (λ _ _ _ h _ _=>by cases h;rfl) (λ _ _ h1 h2=>aH5 h1 h2) r ok A' e h n1 n2
end
theorem aCg:∀(l m:List D),qT l m=((zAc (min l.length m.length)).all (λ j=>match l[j]?,m[j]? with|some a,some b=>eqD a b|_,_=>true)&&l.length==m.length)
 |[],[]=>by simp[qT]
 |[],y::ys=>by simp[qT]
 |x::xs,[]=>by simp[qT]
 |x::xs,y::ys=>by
  have ih:=aCg xs ys;simp only[qT,ih,zA8,Nat.succ_min_succ,List.range_succ_eq_map,zE0,zIP,zB5,zGM,zBR,Nat.succ_eq_add_one,Nat.add_one_inj,zEH];congr 1;congr 1;simp
theorem aA8:∀{l:List D} {d:D},d∈l->qU d<=iV l
 |x::r,d,h=>by
  simp only[iV];rcases zAL.mp h with rfl|h
  ·exact zHp _ _
  ·exact zAf (aA8 h) (zHg _ _)
theorem rY:∀{l:List D} {d:D},d∈l->bV l=true->bM d=true
 |x::r,d,h,n=>by
  simp only[bV,zAN]at n;rcases zAL.mp h with rfl|h
  ·exact n.1
  ·exact rY h n.2
theorem lH(hn:n=ds.length)(hm:m=es.length):((zAc (min n m)).all (λ j=>match ds[j]?,es[j]? with|some a,some b=>eqD a b|_,_=>true)&&n==m)=qT ds es:=by
 subst hn hm;exact(aCg ds es).symm
section
variable{K:zAA}{H:Hp}{s:zAG}
def aIT(K:zAA)(H:Hp)(s:zAG)(n:Nat):Prop:=∀(A1 A2:Addr->Prop) (x y:V) (d e:D) (A:zAk) (u v:Value),Rp K A1 H x d->Rp K A2 H y e->RelV x u->RelV y v->qU d<=n->bM d=true->bM e=true->A.units+n<cLine->zEB A s u v (eqD d e)
def aIU(K:zAA)(H:Hp)(s:zAG)(n:Nat):Prop:=∀(A1 A2:Addr->Prop) (xs ys:List V) (ds es:List D) (A:zAk) (us vs:List Value),Rps K A1 H xs ds->Rps K A2 H ys es->Vals xs us->Vals ys vs->iV ds<=n->bV ds=true->bV es=true->A.units+n<cLine->
  ∀(j:Nat) (h1:j<us.toArray.size) (h2:j<vs.toArray.size),zEB A s us.toArray[j] vs.toArray[j] (match ds[j]?,es[j]? with|some a,some b=>eqD a b|_,_=>true)
theorem yp(ok:nD K H s)(n:Nat)(IH:∀k,n=k+1->aIU K H s k):aIT K H s n:=by
 intro A1 A2 x y d e A u v r1 r2 ru rv hd nd ne hu;have hu0:A.units<cLine:=by lia
 cases r1 with
 |tup h1 q1=>
  rename_i a xs ds;cases ru;obtain⟨its,w1,t1⟩:=ok.tup h1;cases r2 with
  |tup h2 q2=>
   rename_i b ys es;cases rv;obtain⟨its2,w2,t2⟩:=ok.tup h2;by_cases hab:a=b
   ·subst hab
    have e:=Rp.inj ok (Rp.tup h1 q1) (Rp.tup h2 q2) nd ne;rw[<-e,yq _ nd];exact zE3 _
   ·simp only[qU]at hd
    obtain⟨k,rfl⟩:∃k,n=k+1:=⟨n-1,by lia⟩
    have z:=zFt t1 t2 hu0 (IH k rfl _ _ _ _ _ _ _ _ _ q1 q2 w1 w2 (by lia) (jh nd) (jh ne) (by show A.units+1+k<cLine;lia));rw[lH (by rw[zAM,<-w1.length,q1.length]) (by rw[zAM,<-w2.length,q2.length])]at z;simp only[eqD];exact zEC hab z
  |lst h2 mm2 q2=>
   cases rv;obtain⟨its2,w2,t2⟩:=ok.lst h2;simp only[eqD];exact SeqAt.EqAt.tuple_list t1 t2 hu0
  |dK _ _ _=>exact(aY ne).elim
  |dT _ _ _=>exact(aY ne).elim
  |set _ _ _ _=>exact(b8 ne).elim
  |scr _=>exact(bc ne).elim
  |fn _=>exact(cO ne).elim
  |non=>cases rv;simp only[eqD];exact SeqAt.EqAt.tuple_none t1 hu0
  |bl b=>cases rv;simp only[eqD];exact SeqAt.EqAt.tuple_bool b t1 hu0
  |int i=>obtain⟨tk,rfl⟩:=rv;simp only[eqD];exact SeqAt.EqAt.tuple_int i tk t1 hu0
  |str i=>obtain⟨tk,rfl⟩:=rv;simp only[eqD];exact SeqAt.EqAt.tuple_str i tk t1 hu0
 |lst h1 mm1 q1=>
  rename_i a xs ds;cases ru;obtain⟨its,w1,t1⟩:=ok.lst h1;cases r2 with
  |lst h2 mm2 q2=>
   rename_i b ys es;cases rv;obtain⟨its2,w2,t2⟩:=ok.lst h2;by_cases hab:a=b
   ·subst hab
    have e:=Rp.inj ok (Rp.lst h1 mm1 q1) (Rp.lst h2 mm2 q2) nd ne;rw[<-e,yq _ nd];exact zE3 _
   ·simp only[qU]at hd
    obtain⟨k,rfl⟩:∃k,n=k+1:=⟨n-1,by lia⟩
    have l1:its.toArray.size=ds.length:=by rw[zAM,<-w1.length,q1.length]
    have l2:its2.toArray.size=es.length:=by rw[zAM,<-w2.length,q2.length]
    by_cases hl:its.toArray.size=its2.toArray.size
    ·have z:=zFx t1 t2 hl hu0 (IH k rfl _ _ _ _ _ _ _ _ _ q1 q2 w1 w2 (by lia) (ji nd) (ji ne) (by show A.units+1+k<cLine;lia))
     have z':=lH (ds:=ds) (es:=es) l1 l2;rw[<-hl,zEE,beq_self_eq_true,zEY]at z';rw[z']at z;simp only[eqD];exact zEC hab z
    ·have z:=zEp t1 t2 (by simpa using hl) hu0
     have z':=lH (ds:=ds) (es:=es) l1 l2;rw[beq_eq_false_iff_ne.mpr hl,zEI]at z';simp only[eqD];rw[<-z'];exact zEC hab z
  |tup h2 q2=>
   cases rv;obtain⟨its2,w2,t2⟩:=ok.tup h2;simp only[eqD];exact SeqAt.EqAt.list_tuple t1 t2 hu0
  |dK _ _ _=>exact(aY ne).elim
  |dT _ _ _=>exact(aY ne).elim
  |set _ _ _ _=>exact(b8 ne).elim
  |scr _=>exact(bc ne).elim
  |fn _=>exact(cO ne).elim
  |non=>cases rv;simp only[eqD];exact SeqAt.EqAt.list_none t1 hu0
  |bl b=>cases rv;simp only[eqD];exact SeqAt.EqAt.list_bool b t1 hu0
  |int i=>obtain⟨tk,rfl⟩:=rv;simp only[eqD];exact SeqAt.EqAt.list_int i tk t1 hu0
  |str i=>obtain⟨tk,rfl⟩:=rv;simp only[eqD];exact SeqAt.EqAt.list_str i tk t1 hu0
 |dK _ _ _=>exact(aY nd).elim
 |dT _ _ _=>exact(aY nd).elim
 |set _ _ _ _=>exact(b8 nd).elim
 |scr _=>exact(bc nd).elim
 |fn _=>exact(cO nd).elim
 |non=>
  cases ru;cases r2 with
  |tup h2 q2=>cases rv;obtain⟨_,_,t2⟩:=ok.tup h2;simp only[eqD];exact SeqAt.EqAt.none_tuple t2 hu0
  |lst h2 mm2 q2=>cases rv;obtain⟨_,_,t2⟩:=ok.lst h2;simp only[eqD];exact SeqAt.EqAt.none_list t2 hu0
  |dK _ _ _=>exact(aY ne).elim
  |dT _ _ _=>exact(aY ne).elim
  |set _ _ _ _=>exact(b8 ne).elim
  |scr _=>exact(bc ne).elim
  |fn _=>exact(cO ne).elim
  |non=>cases rv;simp only[eqD];exact zE3 _
  |bl b=>cases rv;simp only[eqD];exact SeqAt.EqAt.none_bool b
  |int i=>obtain⟨tk,rfl⟩:=rv;simp only[eqD];exact SeqAt.EqAt.none_int i tk
  |str i=>obtain⟨tk,rfl⟩:=rv;simp only[eqD];exact SeqAt.EqAt.none_str i tk
 |bl a=>
  cases ru;cases r2 with
  |tup h2 q2=>cases rv;obtain⟨_,_,t2⟩:=ok.tup h2;simp only[eqD];exact SeqAt.EqAt.bool_tuple a t2 hu0
  |lst h2 mm2 q2=>cases rv;obtain⟨_,_,t2⟩:=ok.lst h2;simp only[eqD];exact SeqAt.EqAt.bool_list a t2 hu0
  |dK _ _ _=>exact(aY ne).elim
  |dT _ _ _=>exact(aY ne).elim
  |set _ _ _ _=>exact(b8 ne).elim
  |scr _=>exact(bc ne).elim
  |fn _=>exact(cO ne).elim
  |non=>cases rv;simp only[eqD];exact SeqAt.EqAt.bool_none a
  |bl b=>cases rv;simp only[eqD];exact SeqAt.EqAt.bool_bool a b
  |int i=>obtain⟨tk,rfl⟩:=rv;simp only[eqD];exact SeqAt.EqAt.bool_int a i tk
  |str i=>obtain⟨tk,rfl⟩:=rv;simp only[eqD];exact SeqAt.EqAt.bool_str a i tk
 |int a=>
  obtain⟨tu,rfl⟩:=ru;cases r2 with
  |tup h2 q2=>cases rv;obtain⟨_,_,t2⟩:=ok.tup h2;simp only[eqD];exact SeqAt.EqAt.int_tuple a tu t2 hu0
  |lst h2 mm2 q2=>cases rv;obtain⟨_,_,t2⟩:=ok.lst h2;simp only[eqD];exact SeqAt.EqAt.int_list a tu t2 hu0
  |dK _ _ _=>exact(aY ne).elim
  |dT _ _ _=>exact(aY ne).elim
  |set _ _ _ _=>exact(b8 ne).elim
  |scr _=>exact(bc ne).elim
  |fn _=>exact(cO ne).elim
  |non=>cases rv;simp only[eqD];exact SeqAt.EqAt.int_none a tu
  |bl b=>cases rv;simp only[eqD];exact SeqAt.EqAt.int_bool a tu b
  |int i=>obtain⟨tk,rfl⟩:=rv;simp only[eqD];exact zFd a tu i tk
  |str i=>obtain⟨tk,rfl⟩:=rv;simp only[eqD];exact zFe a tu i tk
 |str a=>
  obtain⟨tu,rfl⟩:=ru;cases r2 with
  |tup h2 q2=>cases rv;obtain⟨_,_,t2⟩:=ok.tup h2;simp only[eqD];exact SeqAt.EqAt.str_tuple a tu t2 hu0
  |lst h2 mm2 q2=>cases rv;obtain⟨_,_,t2⟩:=ok.lst h2;simp only[eqD];exact SeqAt.EqAt.str_list a tu t2 hu0
  |dK _ _ _=>exact(aY ne).elim
  |dT _ _ _=>exact(aY ne).elim
  |set _ _ _ _=>exact(b8 ne).elim
  |scr _=>exact(bc ne).elim
  |fn _=>exact(cO ne).elim
  |non=>cases rv;simp only[eqD];exact SeqAt.EqAt.str_none a tu
  |bl b=>cases rv;simp only[eqD];exact SeqAt.EqAt.str_bool a tu b
  |int i=>obtain⟨tk,rfl⟩:=rv;simp only[eqD];exact zFf a tu i tk
  |str i=>obtain⟨tk,rfl⟩:=rv;simp only[eqD];exact SeqAt.EqAt.str_str a tu i tk
theorem aA2(ok:nD K H s)(n:Nat)(IH:aIT K H s n):aIU K H s n:=by
 intro A1 A2 xs ys ds es A us vs q1 q2 w1 w2 hd nd ne hu j h1 h2;have hj1:j<us.length:=by simpa using h1
 have hj2:j<vs.length:=by simpa using h2
 have hx:j<xs.length:=by rw[w1.length];exact hj1
 have hy:j<ys.length:=by rw[w2.length];exact hj2
 have ex:=zAC hx;have ey:=zAC hy;obtain⟨d,ed,rd⟩:=q1.get ex;obtain⟨e,ee,re⟩:=q2.get ey;obtain⟨u,eu,ru⟩:=w1.get ex;obtain⟨v,ev,rv⟩:=w2.get ey;have e1:us.toArray[j]=u:=by
  rw[zGY];exact zAr ((zAC hj1).symm.trans eu)
 have e2:vs.toArray[j]=v:=by
  rw[zGY];exact zAr ((zAC hj2).symm.trans ev)
 rw[e1,e2,ed,ee];exact IH _ _ _ _ _ _ _ _ _ rd re ru rv (zAf (aA8 (zBB ed)) hd) (rY (zBB ed) nd) (rY (zBB ee) ne) hu
theorem aHt(ok:nD K H s):∀n,aIT K H s n
 |0=>yp ok 0 λ k h=>absurd h (by simp)
 |n+1=>yp ok (n+1) λ k h=>by
  have h':=zH7 h;subst h';exact aA2 ok n (aHt ok n)
theorem aM0(ok:nD K H s):∀{A1 A2:Addr->Prop} {x y:V} {d e:D} (n:Nat) {A:zAk} {u v:Value},Rp K A1 H x d->Rp K A2 H y e->RelV x u->RelV y v->qU d<=n->bM d=true->bM e=true->A.units+n<cLine->zEB A s u v (eqD d e)
 |_,_,_,_,_,_,n,A,u,v,r1,r2,ru,rv,hd,nd,ne,hu=>aHt ok n _ _ _ _ _ _ _ _ _ r1 r2 ru rv hd nd ne hu
theorem aKg(ok:nD K H s):∀{A1 A2:Addr->Prop} {xs ys:List V} {ds es:List D} (n:Nat) {A:zAk} {us vs:List Value},Rps K A1 H xs ds->Rps K A2 H ys es->Vals xs us->Vals ys vs->iV ds<=n->bV ds=true->bV es=true->A.units+n<cLine->
  ∀(j:Nat) (h1:j<us.toArray.size) (h2:j<vs.toArray.size),zEB A s us.toArray[j] vs.toArray[j] (match ds[j]?,es[j]? with|some a,some b=>eqD a b|_,_=>true)
 |_,_,xs,ys,ds,es,n,A,us,vs,q1,q2,w1,w2,hd,nd,ne,hu,j,h1,h2=>aA2 ok n (aHt ok n) _ _ _ _ _ _ _ _ _ q1 q2 w1 w2 hd nd ne hu j h1 h2
theorem aGe(ok:nD K H s)(n:Nat)(r1:Rp K A1 H x d)(r2:Rp K A2 H y e)(ru:RelV x u)(rv:RelV y v)(hd:qU d<=n)(nd:bM d=true)(ne:bM e=true)(hu:A.units+n<cLine):
  SeqAt.RcAt A s u v (eqD d e)/\SeqAt.RcNeAt A s u v (!eqD d e):=by
 have hu0:A.units<cLine:=by lia
 cases r1 with
 |tup h1 q1=>
  rename_i a xs ds;cases ru;obtain⟨its,w1,t1⟩:=ok.tup h1;cases r2 with
  |tup h2 q2=>
   rename_i b ys es;cases rv;obtain⟨its2,w2,t2⟩:=ok.tup h2;simp only[qU]at hd;obtain⟨k,rfl⟩:∃k,n=k+1:=⟨n-1,by lia⟩
   have he:=aKg ok (A:=A.in1) k q1 q2 w1 w2 (by lia) (jh nd) (jh ne) (by show A.units+1+k<cLine;lia);have z:=zFt t1 t2 hu0 he;have z2:=SeqAt.RcNeAt.tuples t1 t2 hu0 he;rw[lH (by rw[zAM,<-w1.length,q1.length]) (by rw[zAM,<-w2.length,q2.length])]at z z2;simp only[eqD];exact⟨z,z2⟩
  |lst h2 mm2 q2=>
   cases rv;obtain⟨its2,w2,t2⟩:=ok.lst h2;simp only[eqD];exact⟨SeqAt.RcAt.tuple_list t1 t2 hu0,SeqAt.RcNeAt.tuple_list t1 t2 hu0⟩
  |dK _ _ _=>exact(aY ne).elim
  |dT _ _ _=>exact(aY ne).elim
  |set _ _ _ _=>exact(b8 ne).elim
  |scr _=>exact(bc ne).elim
  |fn _=>exact(cO ne).elim
  |non=>cases rv;simp only[eqD];exact⟨SeqAt.RcAt.tuple_none t1 hu0,SeqAt.RcNeAt.tuple_none t1 hu0⟩
  |bl b=>cases rv;simp only[eqD];exact⟨SeqAt.RcAt.tuple_bool b t1 hu0,SeqAt.RcNeAt.tuple_bool b t1 hu0⟩
  |int i=>obtain⟨tk,rfl⟩:=rv;simp only[eqD];exact⟨SeqAt.RcAt.tuple_int i tk t1 hu0,SeqAt.RcNeAt.tuple_int i tk t1 hu0⟩
  |str i=>obtain⟨tk,rfl⟩:=rv;simp only[eqD];exact⟨SeqAt.RcAt.tuple_str i tk t1 hu0,SeqAt.RcNeAt.tuple_str i tk t1 hu0⟩
 |lst h1 mm1 q1=>
  rename_i a xs ds;cases ru;obtain⟨its,w1,t1⟩:=ok.lst h1;cases r2 with
  |lst h2 mm2 q2=>
   rename_i b ys es;cases rv;obtain⟨its2,w2,t2⟩:=ok.lst h2;simp only[qU]at hd;obtain⟨k,rfl⟩:∃k,n=k+1:=⟨n-1,by lia⟩
   have l1:its.toArray.size=ds.length:=by rw[zAM,<-w1.length,q1.length]
   have l2:its2.toArray.size=es.length:=by rw[zAM,<-w2.length,q2.length]
   have z':=lH (ds:=ds) (es:=es) l1 l2;by_cases hl:its.toArray.size=its2.toArray.size
   ·have he:=aKg ok (A:=A.in1) k q1 q2 w1 w2 (by lia) (ji nd) (ji ne) (by show A.units+1+k<cLine;lia)
    have z:=zFx t1 t2 hl hu0 he;have z2:=SeqAt.RcNeAt.lists t1 t2 hl hu0 he;rw[<-hl,zEE,beq_self_eq_true,zEY]at z';rw[z']at z z2;simp only[eqD];exact⟨z,z2⟩
   ·rw[beq_eq_false_iff_ne.mpr hl,zEI]at z'
    simp only[eqD];rw[<-z'];exact⟨zEp t1 t2 (by simpa using hl) hu0,SeqAt.RcNeAt.lists_lengths t1 t2 (by simpa using hl) hu0⟩
  |tup h2 q2=>
   cases rv;obtain⟨its2,w2,t2⟩:=ok.tup h2;simp only[eqD];exact⟨SeqAt.RcAt.list_tuple t1 t2 hu0,SeqAt.RcNeAt.list_tuple t1 t2 hu0⟩
  |dK _ _ _=>exact(aY ne).elim
  |dT _ _ _=>exact(aY ne).elim
  |set _ _ _ _=>exact(b8 ne).elim
  |scr _=>exact(bc ne).elim
  |fn _=>exact(cO ne).elim
  |non=>cases rv;simp only[eqD];exact⟨SeqAt.RcAt.list_none t1 hu0,SeqAt.RcNeAt.list_none t1 hu0⟩
  |bl b=>cases rv;simp only[eqD];exact⟨SeqAt.RcAt.list_bool b t1 hu0,SeqAt.RcNeAt.list_bool b t1 hu0⟩
  |int i=>obtain⟨tk,rfl⟩:=rv;simp only[eqD];exact⟨SeqAt.RcAt.list_int i tk t1 hu0,SeqAt.RcNeAt.list_int i tk t1 hu0⟩
  |str i=>obtain⟨tk,rfl⟩:=rv;simp only[eqD];exact⟨SeqAt.RcAt.list_str i tk t1 hu0,SeqAt.RcNeAt.list_str i tk t1 hu0⟩
 |dK _ _ _=>exact(aY nd).elim
 |dT _ _ _=>exact(aY nd).elim
 |set _ _ _ _=>exact(b8 nd).elim
 |scr _=>exact(bc nd).elim
 |fn _=>exact(cO nd).elim
 |non=>
  cases ru;cases r2 with
  |tup h2 q2=>cases rv;obtain⟨_,_,t2⟩:=ok.tup h2;simp only[eqD];exact⟨SeqAt.RcAt.none_tuple t2 hu0,SeqAt.RcNeAt.none_tuple t2 hu0⟩
  |lst h2 mm2 q2=>cases rv;obtain⟨_,_,t2⟩:=ok.lst h2;simp only[eqD];exact⟨SeqAt.RcAt.none_list t2 hu0,SeqAt.RcNeAt.none_list t2 hu0⟩
  |dK _ _ _=>exact(aY ne).elim
  |dT _ _ _=>exact(aY ne).elim
  |set _ _ _ _=>exact(b8 ne).elim
  |scr _=>exact(bc ne).elim
  |fn _=>exact(cO ne).elim
  |non=>cases rv;simp only[eqD];exact⟨SeqAt.RcAt.none_none,SeqAt.RcNeAt.none_none⟩
  |bl b=>cases rv;simp only[eqD];exact⟨SeqAt.RcAt.none_bool b,SeqAt.RcNeAt.none_bool b⟩
  |int i=>obtain⟨tk,rfl⟩:=rv;simp only[eqD];exact⟨SeqAt.RcAt.none_int i tk,SeqAt.RcNeAt.none_int i tk⟩
  |str i=>obtain⟨tk,rfl⟩:=rv;simp only[eqD];exact⟨SeqAt.RcAt.none_str i tk,SeqAt.RcNeAt.none_str i tk⟩
 |bl a=>
  cases ru;cases r2 with
  |tup h2 q2=>cases rv;obtain⟨_,_,t2⟩:=ok.tup h2;simp only[eqD];exact⟨SeqAt.RcAt.bool_tuple a t2 hu0,SeqAt.RcNeAt.bool_tuple a t2 hu0⟩
  |lst h2 mm2 q2=>cases rv;obtain⟨_,_,t2⟩:=ok.lst h2;simp only[eqD];exact⟨SeqAt.RcAt.bool_list a t2 hu0,SeqAt.RcNeAt.bool_list a t2 hu0⟩
  |dK _ _ _=>exact(aY ne).elim
  |dT _ _ _=>exact(aY ne).elim
  |set _ _ _ _=>exact(b8 ne).elim
  |scr _=>exact(bc ne).elim
  |fn _=>exact(cO ne).elim
  |non=>cases rv;simp only[eqD];exact⟨SeqAt.RcAt.bool_none a,SeqAt.RcNeAt.bool_none a⟩
  |bl b=>cases rv;simp only[eqD];exact⟨SeqAt.RcAt.bool_bool a b,SeqAt.RcNeAt.bool_bool a b⟩
  |int i=>obtain⟨tk,rfl⟩:=rv;simp only[eqD];exact⟨SeqAt.RcAt.bool_int a i tk,SeqAt.RcNeAt.bool_int a i tk⟩
  |str i=>obtain⟨tk,rfl⟩:=rv;simp only[eqD];exact⟨SeqAt.RcAt.bool_str a i tk,SeqAt.RcNeAt.bool_str a i tk⟩
 |int a=>
  obtain⟨tu,rfl⟩:=ru;cases r2 with
  |tup h2 q2=>cases rv;obtain⟨_,_,t2⟩:=ok.tup h2;simp only[eqD];exact⟨SeqAt.RcAt.int_tuple a tu t2 hu0,SeqAt.RcNeAt.int_tuple a tu t2 hu0⟩
  |lst h2 mm2 q2=>cases rv;obtain⟨_,_,t2⟩:=ok.lst h2;simp only[eqD];exact⟨SeqAt.RcAt.int_list a tu t2 hu0,SeqAt.RcNeAt.int_list a tu t2 hu0⟩
  |dK _ _ _=>exact(aY ne).elim
  |dT _ _ _=>exact(aY ne).elim
  |set _ _ _ _=>exact(b8 ne).elim
  |scr _=>exact(bc ne).elim
  |fn _=>exact(cO ne).elim
  |non=>cases rv;simp only[eqD];exact⟨SeqAt.RcAt.int_none a tu,SeqAt.RcNeAt.int_none a tu⟩
  |bl b=>cases rv;simp only[eqD];exact⟨SeqAt.RcAt.int_bool a tu b,SeqAt.RcNeAt.int_bool a tu b⟩
  |int i=>obtain⟨tk,rfl⟩:=rv;simp only[eqD];exact⟨SeqAt.RcAt.int_int a tu i tk,SeqAt.RcNeAt.int_int a tu i tk⟩
  |str i=>obtain⟨tk,rfl⟩:=rv;simp only[eqD];exact⟨SeqAt.RcAt.int_str a tu i tk,SeqAt.RcNeAt.int_str a tu i tk⟩
 |str a=>
  obtain⟨tu,rfl⟩:=ru;cases r2 with
  |tup h2 q2=>cases rv;obtain⟨_,_,t2⟩:=ok.tup h2;simp only[eqD];exact⟨SeqAt.RcAt.str_tuple a tu t2 hu0,SeqAt.RcNeAt.str_tuple a tu t2 hu0⟩
  |lst h2 mm2 q2=>cases rv;obtain⟨_,_,t2⟩:=ok.lst h2;simp only[eqD];exact⟨SeqAt.RcAt.str_list a tu t2 hu0,SeqAt.RcNeAt.str_list a tu t2 hu0⟩
  |dK _ _ _=>exact(aY ne).elim
  |dT _ _ _=>exact(aY ne).elim
  |set _ _ _ _=>exact(b8 ne).elim
  |scr _=>exact(bc ne).elim
  |fn _=>exact(cO ne).elim
  |non=>cases rv;simp only[eqD];exact⟨SeqAt.RcAt.str_none a tu,SeqAt.RcNeAt.str_none a tu⟩
  |bl b=>cases rv;simp only[eqD];exact⟨SeqAt.RcAt.str_bool a tu b,SeqAt.RcNeAt.str_bool a tu b⟩
  |int i=>obtain⟨tk,rfl⟩:=rv;simp only[eqD];exact⟨SeqAt.RcAt.str_int a tu i tk,SeqAt.RcNeAt.str_int a tu i tk⟩
  |str i=>obtain⟨tk,rfl⟩:=rv;simp only[eqD];exact⟨SeqAt.RcAt.str_str a tu i tk,SeqAt.RcNeAt.str_str a tu i tk⟩
end
section
variable{K:zAA}{H:Hp}{s:zAG}
open Classical in
def qR(K:zAA)(H:Hp)(d:D)(u:Value):Bool:=if h:∃e,bM e=true/\∃y,RelV y u/\Rp K (λ _=>True) H y e then eqD (choose h) d else false
theorem aFC(ok:nD K H s)(r:RelV y u)(h:Rp K A H y e)(ne:bM e=true):qR K H d u=eqD e d:=by
 have hx:∃e,bM e=true/\∃y,RelV y u/\Rp K (λ _=>True) H y e:=⟨e,ne,y,r,h.wk λ _ _ _ _=>trivial⟩
 unfold qR;rw[dif_pos hx];obtain⟨n',y',r',h'⟩:=Classical.choose_spec hx;have e1:=RelV.inj r r';subst e1;rw[Rp.inj ok h' h n' ne]
def inD(d:D)(es:List D):Bool:=es.any λ e=>eqD e d
theorem uN(ok:nD K H s):∀{A:Addr->Prop} {xs:List V} {es:List D} {us:List Value},Rps K A H xs es->Vals xs us->bV es=true->us.any (qR K H d)=inD d es:=by
 intro A xs es us h v n;induction v generalizing es with
 |nil=>cases h;rfl
 |cons k t ih=>
  cases h with
  |cons h r=>
   simp only[bV,zAN]at n;unfold inD;rw[zC1,zC1,aFC ok k h n.1,ih r n.2];rfl
theorem wZ(ok:nD K H s)(rx:Rp K A0 H x d)(rv:RelV x v)(hu:A.units+n<cLine)(nd:bM d=true):∀{A1:Addr->Prop} {xs:List V} {es:List D} {us:List Value},Rps K A1 H xs es->Vals xs us->iV es<=n->bV es=true->∀u∈us,zEB A s u v (qR K H d u):=by
 intro A1 xs es us h v' hd ne u hm;induction v' generalizing es with
 |nil=>cases hm
 |cons k t ih=>
  cases h with
  |cons h r=>
   simp only[iV]at hd;simp only[bV,zAN]at ne;rcases zAL.mp hm with z|z
   ·subst z
    rw[aFC ok k h ne.1];exact aM0 ok n h rx k rv (zAf (zHp _ _) hd) ne.1 nd hu
   ·exact ih r (zAf (zHg _ _) hd) ne.2 z
end
section
variable{X:Cx}
def aGj(K:zAA)(neg:Bool):R2:=λ x y H Q=>∃A B d e,Rp K A H x d/\Rp K B H y e/\qU d<=60/\bM d=true/\bM e=true/\Q (.bl (if neg then !eqD d e else eqD d e)) H
theorem aLt(hu:X.A.units+64<cLine):OpR X (zAo .Eq) (aGj X.K false):=by
 intro pins s σ H x y v u Q I rx ry h;obtain⟨A,B,d,e,r1,r2,hd,nd,ne,q⟩:=h;exact(aGe (Inv.seqOk I) 60 r1 r2 rx ry hd nd ne (by lia)).1 X.prog X.w X.xe _ ⟨.bl (eqD d e),H,I,rfl,q⟩
theorem aLj(hu:X.A.units+64<cLine):OpR X (zAo .NotEq) (aGj X.K true):=by
 intro pins s σ H x y v u Q I rx ry h;obtain⟨A,B,d,e,r1,r2,hd,nd,ne,q⟩:=h;exact(aGe (Inv.seqOk I) 60 r1 r2 rx ry hd nd ne (by lia)).2 X.prog X.w X.xe _ ⟨.bl (!eqD d e),H,I,rfl,q⟩
def aGi(K:zAA)(neg:Bool):R2:=λ x y H Q=>∃A B d a es,Rp K A H x d/\y= .ref a/\(Rp K B H (.ref a) (.lst es)\/Rp K B H (.ref a) (.tup es))/\iV es<=60/\bM d=true/\bV es=true/\Q (.bl (if neg then !inD d es else inD d es)) H
theorem aLs(hu:X.A.units+64<cLine):OpR X (zAo .In) (aGi X.K false):=by
 intro pins s σ H x y v u Q I rx ry h;obtain⟨A,B,d,a,es,rd,rfl,ra,hd,nd,ne,q⟩:=h;cases ry;have ok:=Inv.seqOk I;have hu1:X.A.in1.units+60<cLine:=by show X.A.units+1+60<cLine;lia
 rcases ra with ra|ra
 ·cases ra with
  |lst ha _ r=>
   obtain⟨its,rv,tl⟩:=ok.lst ha;refine SeqAt.in_listAt (qR X.K H d) tl (λ w hw=>wZ ok rd rx hu1 nd r rv hd ne w (by simpa using hw)) ⟨.bl _,H,I,rfl,?_⟩;rw[show its.toArray.any (qR X.K H d)=its.any (qR X.K H d)by simp,uN ok r rv ne];exact q
 ·cases ra with
  |tup ha r=>
   obtain⟨its,rv,tl⟩:=ok.tup ha;refine SeqAt.in_tupleAt (qR X.K H d) tl (λ w hw=>wZ ok rd rx hu1 nd r rv hd ne w (by simpa using hw)) ⟨.bl _,H,I,rfl,?_⟩;rw[show its.toArray.any (qR X.K H d)=its.any (qR X.K H d)by simp,uN ok r rv ne];exact q
theorem aF2(hu:X.A.units+64<cLine):OpR X (zAo .NotIn) (aGi X.K true):=by
 intro pins s σ H x y v u Q I rx ry h;obtain⟨A,B,d,a,es,rd,rfl,ra,hd,nd,ne,q⟩:=h;cases ry;have ok:=Inv.seqOk I;have hu1:X.A.in1.units+60<cLine:=by show X.A.units+1+60<cLine;lia
 rcases ra with ra|ra
 ·cases ra with
  |lst ha _ r=>
   obtain⟨its,rv,tl⟩:=ok.lst ha;refine SeqAt.notIn_listAt (qR X.K H d) tl (λ w hw=>wZ ok rd rx hu1 nd r rv hd ne w (by simpa using hw)) ⟨.bl _,H,I,rfl,?_⟩;rw[show its.toArray.any (qR X.K H d)=its.any (qR X.K H d)by simp,uN ok r rv ne];exact q
 ·cases ra with
  |tup ha r=>
   obtain⟨its,rv,tl⟩:=ok.tup ha;refine SeqAt.notIn_tupleAt (qR X.K H d) tl (λ w hw=>wZ ok rd rx hu1 nd r rv hd ne w (by simpa using hw)) ⟨.bl _,H,I,rfl,?_⟩;rw[show its.toArray.any (qR X.K H d)=its.any (qR X.K H d)by simp,uN ok r rv ne];exact q
end
section
variable{K:zAA}
def eqR(neg:Bool):D->D->Rs D:=λ d e=>if decide (qU d<=60)&&bM d&&bM e then .ok (.bl (if neg then !eqD d e else eqD d e))else .st
def inR(neg:Bool):D->D->Rs D:=λ d e=>match e with
 | .lst es=>if decide (iV es<=60)&&bM d&&bV es then .ok (.bl (if neg then !inD d es else inD d es))else .st
 | .tup es=>if decide (iV es<=60)&&bM d&&bV es then .ok (.bl (if neg then !inD d es else inD d es))else .st
 |_=>.st
theorem os_eq:OpS K (aGj K n) (eqR n):=by
 intro A x y d e H Q z rx ry ez q;unfold eqR at ez;split at ez
 ·rename_i h
  simp only[zAN,decide_eq_true_eq]at h;cases ez;exact⟨A,A,d,e,rx,ry,h.1.1,h.1.2,h.2,q _ H (aa.refl H) (.bl _)⟩
 ·cases ez
theorem aKb:OpS K (aGi K n) (inR n):=by
 intro A x y d e H Q z rx ry ez q;unfold inR at ez;split at ez
 ·split at ez
  ·rename_i h
   simp only[zAN,decide_eq_true_eq]at h;cases ez;cases ry with
   |lst ha mm r=>exact⟨A,A,d,_,_,rx,rfl,.inl (.lst ha mm r),h.1.1,h.1.2,h.2,q _ H (aa.refl H) (.bl _)⟩
  ·cases ez
 ·split at ez
  ·rename_i h
   simp only[zAN,decide_eq_true_eq]at h;cases ez;cases ry with
   |tup ha r=>exact⟨A,A,d,_,_,rx,rfl,.inr (.tup ha r),h.1.1,h.1.2,h.2,q _ H (aa.refl H) (.bl _)⟩
  ·cases ez
 ·cases ez
theorem aHb:∀x y z,eqR n x y= .ok z->imm z=true:=by
 intro x y z e;unfold eqR at e;split at e
 ·cases e;rfl
 ·cases e
theorem aMT:∀x y z,inR n x y= .ok z->imm z=true:=by
 intro x y z e;unfold inR at e;split at e
 ·split at e
  ·cases e;rfl
  ·cases e
 ·split at e
  ·cases e;rfl
  ·cases e
 ·cases e
end
section
variable{K:zAA}
def boolsOf:List D->Option (List Bool)
 |[]=>some []
 | .bl i::r=>(boolsOf r).map (i::·)
 |_=>none
theorem uK:∀{l:List D} {ns:List Bool},boolsOf l=some ns->l=ns.map .bl
 |[],ns,h=>by cases h;rfl
 | .bl i::r,ns,h=>by
  simp only[boolsOf,zCM]at h;obtain⟨ms,h1,rfl⟩:=h;rw[uK h1];rfl
 | .non::_,_,h=>by cases h
 | .int _::_,_,h=>by cases h
 | .str _::_,_,h=>by cases h
 | .tup _::_,_,h=>by cases h
 | .lst _::_,_,h=>by cases h
 | .dct _ _::_,_,h=>by cases h
 | .set _::_,_,h=>by cases h
 | .scr _::_,_,h=>by cases h
theorem vd:∀ns:List Bool,boolsOf (ns.map .bl)=some ns
 |[]=>rfl
 |n::ns=>by simp only[zAH,boolsOf,vd ns,zCT]
theorem aA9{X:Cx}:∀{bs:List Bool} {us:List Value},Vals (bs.map V.bl) us->LSm.BoolsAre us bs
 |[],_,.nil=>.nil
 |b::bs,_,.cons r t=>by
  have e:_=zD7 b:=r;subst e;exact .cons b (aA9 (X:=X) t)
theorem Rps.bools_of:∀{xs:List V} {bs:List Bool},Rps K A H xs (bs.map D.bl)->xs=bs.map V.bl
 |_,[],.nil=>rfl
 |_,n::ns,.cons h r=>by
  cases h;rw[zAH,Rps.bools_of r]
def j6(f:List Bool->Bool):List D->Rs D
 |[.lst l]=>match boolsOf l with
  |some bs=>.ok (.bl (f bs))
  |none=>.st
 |_=>.st
theorem aIG{X:Cx}(hc:X.calm=true):cX X (.builtin "all") (λ xs H Q=>∃(p:Addr) (bs:List Bool),xs=[.ref p]/\H p=some (.lst (bs.map V.bl))/\Q (.bl (bs.all id)) H):=by
 intro pins s σ H xs us Q I r h;obtain⟨p,bs,rfl,hp,q⟩:=h;obtain⟨u,rfl,ru⟩:=vals1 r;cases ru;obtain⟨its,rv,pl,hz⟩:=I.list (SqL.of hp);have hb:=aA9 (X:=X) rv;have hl:=pl.isList;have hlt:p<s.heap.objs.size:=by obtain⟨_,e,_⟩:=hl;exact zAP e
 refine call_all_walk (zDw hl ?_);refine⟨s.heap.objs.size,[s.heap.objs.size,p],[s.heap.objs.size],its.toArray.size,_,_,λ i=>(bs[i]?).getD true,rfl,zGv (A:=X.A.in1) (I.ok.hd hc) _ p (zAV hlt) its.toArray,
  ⟨⟨_,zAK _ rfl,rfl,rfl⟩,hl.push _⟩,λ i v s' Q' E' hP hQ=>?_,λ h' tk hk=>?_⟩
 ·obtain⟨b,e,rfl⟩:=hb.get i v (by simpa using hP)
  simp only[e,Option.getD_some]at hQ;exact zCe hQ
 ·have e:((zAc its.toArray.size).all λ i=>(bs[i]?).getD true)=bs.all id:=by
   rw[zAM,hb.length];exact LSm.range_all bs
  rw[e];exact⟨.bl _,H,I.kept (LSm.kept_iter hk),rfl,q⟩
theorem aM6:pQ K (λ xs H Q=>∃(p:Addr) (bs:List Bool),xs=[.ref p]/\H p=some (.lst (bs.map V.bl))/\Q (.bl (f bs)) H) (j6 f):=by
 intro A xs ds H Q z r ez q;unfold j6 at ez;split at ez
 ·split at ez
  ·rename_i l bs e
   cases ez
   have:=uK e
   subst this;cases r with
   |cons h r=>
    cases r;cases h with
    |lst h m r=>
     have:=r.bools_of
     subst this;exact⟨_,bs,rfl,h,q _ H (aa.refl H) (.bl _)⟩
  ·cases ez
 ·cases ez
theorem aJq:∀x z,j6 f x= .ok z->imm z=true:=by
 intro x z e;unfold j6 at e;split at e
 ·split at e
  ·cases e;rfl
  ·cases e
 ·cases e
def mmD(f:Int->Int->Int):List D->Rs D
 |[.int i,.int j]=>.ok (.int (f i j))
 |_=>.st
theorem aKj:pQ K (λ xs H Q=>∃i j,xs=[.int i,.int j]/\Q (.int (f i j)) H) (mmD f):=by
 intro A xs ds H Q z r ez q;unfold mmD at ez;split at ez
 ·cases ez
  cases r with
  |cons h r=>
   cases h;cases r with
   |cons h r=>
    cases h;cases r;exact⟨_,_,rfl,q _ H (aa.refl H) (.int _)⟩
 ·cases ez
theorem aH8:∀x z,mmD f x= .ok z->imm z=true:=by
 intro x z e;unfold mmD at e;split at e
 ·cases e;rfl
 ·cases e
def bz:List D->Rs D
 |[.lst l]=>.ok (.tup l)
 |[.tup l]=>.ok (.tup l)
 |_=>.st
def qe:List D->Rs D
 |[.lst l]=>.ok (.lst l)
 |[.tup l]=>.ok (.lst l)
 |_=>.st
theorem aHz:pQ K (λ xs H Q=>∃p ys,xs=[.ref p]/\((SqL K H p ys/\∀l,H l=none->Q (.ref l) (upd H l (.tup ys)))\/(SqT K H p ys/\Q (.ref p) H))) bz:=by
 intro A xs ds H Q z r ez q;unfold bz at ez;split at ez
 ·cases ez
  cases r with
  |cons h r=>
   cases r;cases h with
   |lst h m r=>exact⟨_,_,rfl,.inl ⟨SqL.of h,λ l hl=>q _ _ (bC hl _) (.tup (SqT.of bB) ((r.wk λ _ _ _ z=>.inr z.1).up (bC hl _)))⟩⟩
 ·cases ez
  cases r with
  |cons h r=>
   cases r;cases h with
   |tup h r=>exact⟨_,_,rfl,.inr ⟨h,q _ H (aa.refl H) (.tup h (r.wk λ _ _ _ z=>.inr z))⟩⟩
 ·cases ez
theorem aKD:pQ K (λ xs H Q=>∃p ys,xs=[.ref p]/\(SqL K H p ys\/SqT K H p ys)/\∀l,H l=none->Q (.ref l) (upd H l (.lst ys))) qe:=by
 intro A xs ds H Q z r ez q;unfold qe at ez;split at ez
 ·cases ez
  cases r with
  |cons h r=>
   cases r;cases h with
   |lst h m r=>exact⟨_,_,rfl,.inl (SqL.of h),λ l hl=>q _ _ (bC hl _) (.lst bB (.inl hl) ((r.wk λ p o e z=>⟨.inr z.1,λ e'=>by subst e';rw[hl]at e;cases e⟩).up (bC hl _)))⟩
 ·cases ez
  cases r with
  |cons h r=>
   cases r;cases h with
   |tup h r=>exact⟨_,_,rfl,.inr h,λ l hl=>q _ _ (bC hl _) (.lst bB (.inl hl) ((r.wk λ p o e z=>⟨.inr z,λ e'=>by subst e';rw[hl]at e;cases e⟩).up (bC hl _)))⟩
 ·cases ez
end
def cutD(l:List D)(lo hi:Option Int):List D:=(l.drop (HT.sIx l.length 0 lo)).take (HT.sIx l.length l.length hi-HT.sIx l.length 0 lo)
theorem Rps.cut{K:zAA}(r:Rps K A H xs ds)(lo hi:Option Int):Rps K A H (yx xs lo hi) (cutD ds lo hi):=by
 unfold yx cutD;rw[r.length];exact(r.drop _).take _
def slD(d:D)(lo hi:Option Int):Rs D:=match d with
 | .tup l=>.ok (.tup (cutD l lo hi))
 | .lst l=>.ok (.lst (cutD l lo hi))
 |_=>.st
def aNE(K:zAA):V->Option Int->Option Int->Hp->VK->Prop:=λ x lo hi H Q=>(∃a xs,x= .ref a/\SqT K H a xs/\∀c H',aa H H'->SqT K H' c (yx xs lo hi)->Q (.ref c) H')\/aNF K x lo hi H Q
theorem aIc:SlR X (λ x lo hi H Q=>∃a xs,x= .ref a/\SqT X.K H a xs/\∀c H',aa H H'->SqT X.K H' c (yx xs lo hi)->Q (.ref c) H'):=by
 intro pins s σ H x v vl vu lo hi sl Q I rx hs pl pu h;obtain⟨a,xs,rfl,hx,q⟩:=h;cases rx;obtain⟨its,r,ht,hz⟩:=I.tuple hx;have hlen:its.toArray.size=xs.length:=by rw[zAM];exact r.length.symm
 refine⟨"tuple",_,zAq.lookup,ht.typeIs,?_⟩;by_cases hw:HT.sIx xs.length 0 lo=0/\HT.sIx xs.length xs.length hi=xs.length
 ·refine HT.tW ht hs pl pu (by rw[hlen];exact hw.1) (by rw[hlen];exact hw.2) ⟨.ref a,H,I,rfl,q a H (aa.refl H) ?_⟩
  have:yx xs lo hi=xs:=by
   unfold yx;rw[hw.1,hw.2,zHo,Nat.sub_zero,zH5]
  rw[this];exact hx
 ·refine HT.tV ht hs pl pu (by rw[hlen];exact hw) ?_ (by rw[hlen];exact hz)
  rw[hlen];refine⟨.ref s.heap.objs.size,_,I.laid (t':=s.toks) (o:=.tup (yx xs lo hi)) (λ b ob q=>zAD _ q) (zAO _) ?_,rfl,q _ _ (bC (I.hok.fresh (zAO _)) _) (SqT.of bB)⟩;exact⟨⟨zAf (v8 xs lo hi) hz,NoD.push _⟩,_,(r.drop (HT.sIx xs.length 0 lo)).take (HT.sIx xs.length xs.length hi-HT.sIx xs.length 0 lo),zFu _ _⟩
theorem aNw:SlR X (aNE X.K):=aIc.or aIe
section
variable{C:Ct}{pos p2:Pos}{m m1 m2:Mode}{a e:Expr}{fa fe:En->Rs D}{lo hi:Option Expr}
def aOK(K:zAA)(G:Gx)(t:TO)(f:En->Rs (Option Int)):Prop:=∀τ σ H ρ lab (Q:Option Int->Hp->Prop),RR K G τ ρ σ H lab->WR G (f ρ) (λ o=>∀H',aa H H'->Q o H')->t σ H Q
def SO(C:Ct)(e:Option Expr)(f:En->Rs (Option Int)):Prop:=∃t,(∀i,PO (C.X i) e t)/\aOK C.K C.G t f
def bK:En->Rs (Option Int):=λ _=>.ok none
def bJ(fe:En->Rs D):En->Rs (Option Int):=λ ρ=>(fe ρ).bd λ d=>match d with
 | .int i=>.ok (some i)
 |_=>.st
theorem bh:SO C none bK:=⟨_,λ _=>aJD,λ τ σ H ρ lab Q R W=>W H (aa.refl H)⟩
theorem bf(h:SE C m e fe):SO C (some e) (bJ fe):=by
 obtain⟨t,h1,h2⟩:=h;refine⟨_,λ i=>aJC (h1 i),λ τ σ H ρ lab Q R W=>h2 τ σ H ρ lab _ R (W.bd.imp λ d _ w x H1 s r=>?_)⟩;cases r with
 |int i=>exact⟨i,rfl,w H1 s⟩
 |_=>exact zAS w
def ao(fa:En->Rs D)(fl fh:En->Rs (Option Int)):En->Rs D:=λ ρ=>(fa ρ).bd λ d=>(fl ρ).bd λ l=>(fh ρ).bd λ h=>okD (slD d l h)
theorem bN{fl fh:En->Rs (Option Int)}(ha:SE C m a fa)(hl:SO C lo fl)(hh:SO C hi fh):SE C m (.Subscript a (.Slice lo hi none p2) pos) (ao fa fl fh):=by
 obtain⟨t,h1,h2⟩:=ha;obtain⟨tl,l1,l2⟩:=hl;obtain⟨th,k1,k2⟩:=hh;refine⟨tSl (aNE C.K) t tl th,λ i=>by rw[<-C.hK i];exact aGt aNw (h1 i) (l1 i) (k1 i),λ τ σ H ρ lab Q R W=>h2 τ σ H ρ lab _ R (W.bd.imp λ d _ w x H1 s1 r1=>?_)⟩;refine l2 τ σ H1 ρ lab _ (R.up s1) (w.bd.imp λ ol _ w H2 s2=>?_);refine k2 τ σ H2 ρ lab _ ((R.up s1).up s2) (w.bd.imp λ oh _ w H3 s3=>?_);obtain⟨z,ez,w⟩:=w.okD;have s:=s1.trans (s2.trans s3);have r3:=r1.up (s2.trans s3);cases d with
 |tup l=>
  cases ez;cases r3 with
  |tup h r=>exact .inl ⟨_,_,rfl,h,λ c H' s' hc=>w _ H' (s.trans s') (.tup hc ((r.cut ol oh).up s'))⟩
 |lst l=>
  cases ez;cases r3 with
  |lst h mm r=>
   exact .inr ⟨_,_,rfl,SqL.of h,λ p hp=>w _ _ (s.trans (bC hp _)) (.lst bB (.inl (s.free hp)) (((r.cut ol oh).wk λ q o e z=>⟨z.1,λ e'=>by subst e';rw[hp]at e;cases e⟩).up (bC hp _)))⟩
 |_=>cases ez
def aCD:D->Rs D
 | .tup l=>.ok (.tup l.reverse)
 |_=>.st
def aKT(K:zAA)(te:TE):TE:=λ σ H Q=>te σ H λ x H1=>∃a xs,x= .ref a/\SqT K H1 a xs/\∀c H',aa H1 H'->H' c=some (.tup xs.reverse)->Q (.ref c) H'
theorem aJI(he:PE X e te):PE X (.Subscript e (.Slice none none (some (.UnaryOp .USub (.Constant (.int 1) j p3) p4)) p2) pos) (aKT X.K te):=by
 intro pins s σ H Q I h;refine zGg (thn (he pins s σ H _ I h) λ v s1 ⟨x,H1,I1,r1,q1⟩=>?_);obtain⟨a,xs,rfl,hx,q⟩:=q1;cases r1;have hm:PE X (.UnaryOp .USub (.Constant (.int 1) j p3) p4) (tUn (rU λ i=>.int (-i)) (tC (.int 1))):=aK7 aGC aGu;refine wpAny_Slice ?_;rw[zGx];refine zAE (zAE ?_);rw[evalPart_some];refine thn (hm pins s1 σ H1 (λ z H2=>z= .int (-1)/\H2=H1) I1 ⟨1,rfl,rfl,rfl⟩) λ u s2 ⟨z,H2,I2,r2,ez,eH⟩=>?_
 subst ez eH;obtain⟨tk,rfl⟩:=r2;have I4:Inv X pins σ H2 {s2 with heap:=s2.heap.push {cls:=.type "slice",data:=.fields #[.none,.none,.int (-1) tk]}}:=I2.kept (t':=s2.toks) λ b ob q=>zAD _ q
 obtain⟨its,r,ht,hz⟩:=I4.tuple hx;have hlen:its.toArray.size=xs.length:=by rw[zAM];exact r.length.symm
 show wpAny (model X.prog X.w) X.A (zFH e _ (.ref a) (.ref s2.heap.objs.size)) (EP X pins σ Q) X.xe _;refine tail_any (ops:=[.ref a,.ref s2.heap.objs.size]) ht.typeIs zAq.lookup ?_ (by with_unfolding_all rfl);refine HT.tU ht (zFB ..) ?_ (by rw[hlen];exact hz);refine⟨.ref _,_,I4.laid (t':=s2.toks) (o:=.tup xs.reverse) (λ b ob q=>zAD _ q) (zAO _) ?_,rfl,q _ _ (bC (I4.hok.fresh (zAO _)) _) bB⟩;exact⟨⟨by rw[zGc];exact hz,NoD.push _⟩,_,r.reverse,zFu _ _⟩
theorem aDM(h:SE C m e fe):SE C m (.Subscript e (.Slice none none (some (.UnaryOp .USub (.Constant (.int 1) j p3) p4)) p2) pos) (op1 aCD fe):=by
 obtain⟨t,h1,h2⟩:=h;refine⟨aKT C.K t,λ i=>by rw[<-C.hK i];exact aJI (h1 i),λ τ σ H ρ lab Q R W=>h2 τ σ H ρ lab _ R (W.bd.imp λ d _ w x H1 s1 r1=>?_)⟩;obtain⟨z,ez,w⟩:=w.okD;cases d with
 |tup l=>
  cases ez;cases r1 with
  |tup h r=>exact⟨_,_,rfl,h,λ c H' s hc=>w _ H' (s1.trans s) (.tup (SqT.of hc) (r.reverse.up s))⟩
 |_=>cases ez
end
section
variable{C:Ct}{pos p:Pos}{m m1 m2 m3:Mode}{a b c e:Expr}{fa fb fc fe:En->Rs D}{ga:En->Rs (List D)}{es:List Expr}
theorem Ct.u0(C:Ct)(i:C.ι):(C.X i).A.units<cLine:=(C.room i).units0
theorem Ct.u64(C:Ct)(i:C.ι):(C.X i).A.units+64<cLine:=(C.room i).units
theorem Ct.ltR(C:Ct)(i:C.ι):OpR (C.X i) (zAo .Lt) (λ x y H Q=>rI0 (λ i j=>.bl (decide (i<j))) x y H Q\/aIu C.K x y H Q):=by have h:=aLm (X:=C.X i) (C.u0 i);rw[C.hK i]at h;exact h
theorem Ct.leR(C:Ct)(i:C.ι):OpR (C.X i) (zAo .LtE) (λ x y H Q=>rI0 (λ i j=>.bl (decide (i<=j))) x y H Q\/aIv C.K x y H Q):=by have h:=aLo (X:=C.X i) (C.u0 i);rw[C.hK i]at h;exact h
theorem Ct.eqRl(C:Ct)(i:C.ι):OpR (C.X i) (zAo .Eq) (aGj C.K false):=by have h:=aLt (X:=C.X i) (C.u64 i);rw[C.hK i]at h;exact h
theorem Ct.neRl(C:Ct)(i:C.ι):OpR (C.X i) (zAo .NotEq) (aGj C.K true):=by have h:=aLj (X:=C.X i) (C.u64 i);rw[C.hK i]at h;exact h
theorem Ct.inRl(C:Ct)(i:C.ι):OpR (C.X i) (zAo .In) (aGi C.K false):=by have h:=aLs (X:=C.X i) (C.u64 i);rw[C.hK i]at h;exact h
theorem Ct.ninRl(C:Ct)(i:C.ι):OpR (C.X i) (zAo .NotIn) (aGi C.K true):=by have h:=aF2 (X:=C.X i) (C.u64 i);rw[C.hK i]at h;exact h
theorem Ct.aMb(C:Ct)(i:C.ι):OpR (C.X i) (zCI .Add) (aE7 C.K):=by have h:=aJ2 (X:=C.X i);rw[C.hK i]at h;exact h
def lO:D->D->Rs D:=i2 (λ _ _=>true) λ i j=>.int (i-j)
def yf:D->D->Rs D:=i2 (λ _ j=>decide (0<j)&&decide (j<1073741824)) λ i j=>.int (i / j)
def qO:D->D->Rs D:=i2 (λ _ j=>decide (0<j)) λ i j=>.int (i%j)
def aGq:D->D->Rs D:=i2 (λ i j=>decide (0<=j)&&decide (j<=1000000)&&decide (i.natAbs<2^64)) λ i j=>.int (i^j.toNat)
theorem au(ha:SE C m1 a fa)(hb:SE C m2 b fb):SE C (jn m1 m2) (.BinOp a .Add b pos) (op2 aW fa fb):=aAA C.aMb aHE ha hb
theorem uW(ha:SE C m1 a fa)(hb:SE C m2 b fb):SE C (jn m1 m2) (.BinOp a .Mult b pos) (op2 lQ fa fb):=aAA (λ _=>aJX) aLe ha hb
theorem rE(ha:SE C m1 a fa)(hb:SE C m2 b fb):SE C (some []) (.BinOp a .Sub b pos) (op2 lO fa fb):=fY (aAA (λ _=>aLg) aJU ha hb) λ _ _ h=>jM aBZ h
theorem aE0(ha:SE C m1 a fa)(hb:SE C m2 b fb):SE C (some []) (.BinOp a .FloorDiv b pos) (op2 yf fa fb):=fY (aAA (λ _=>aJY) (aD9 λ i j h=>by simpa[aNl]using h) ha hb) λ _ _ h=>jM aBZ h
theorem rG(ha:SE C m1 a fa)(hb:SE C m2 b fb):SE C (some []) (.BinOp a .Mod b pos) (op2 qO fa fb):=fY (aAA (λ _=>aLl) (aD9 λ i j h=>by simpa using h) ha hb) λ _ _ h=>jM aBZ h
theorem aGZ(ha:SE C m1 a fa)(hb:SE C m2 b fb):SE C (some []) (.BinOp a .Pow b pos) (op2 aGq fa fb):=fY (aAA (λ _=>aLi) (aD9 λ i j h=>by simp only[zAN,decide_eq_true_eq]at h;exact⟨h.1.1,h.1.2,h.2⟩) ha hb) λ _ _ h=>jM aBZ h
theorem nM(ha:SE C m a fa):SE C (some []) (.UnaryOp .USub a pos) (op1 mY fa):=fY (aMx (λ _=>aGC) aKm ha) λ _ _ h=>aJn aJo h
theorem aMz(ha:SE C m1 a fa)(hb:SE C m2 b fb):SE C (some []) (.Compare a [.Lt] [b] pos) (op2 ltD fa fb):=fY (uX C.ltR aHB ha hb) λ _ _ h=>jM aH9 h
theorem aNB(ha:SE C m1 a fa)(hb:SE C m2 b fb):SE C (some []) (.Compare a [.Gt] [b] pos) (op2 gtD fa fb):=fY (uX (λ _=>aKc) xq ha hb) λ _ _ h=>jM aDx h
theorem aE1(ha:SE C m1 a fa)(hb:SE C m2 b fb):SE C (some []) (.Compare a [.Eq] [b] pos) (op2 (eqR false) fa fb):=fY (uX C.eqRl os_eq ha hb) λ _ _ h=>jM aHb h
theorem aMy(ha:SE C m1 a fa)(hb:SE C m2 b fb):SE C (some []) (.Compare a [.NotEq] [b] pos) (op2 (eqR true) fa fb):=fY (uX C.neRl os_eq ha hb) λ _ _ h=>jM aHb h
theorem aG1(ha:SE C m1 a fa)(hb:SE C m2 b fb)(hm:zCC .In b=false:=by with_unfolding_all rfl):SE C (some []) (.Compare a [.In] [b] pos) (op2 (inR false) fa fb):=fY (uX C.inRl aKb ha hb hm) λ _ _ h=>jM aMT h
theorem aKW(ha:SE C m1 a fa)(hb:SE C m2 b fb):SE C (some []) (.Compare a [.Is] [b] pos) (op2 (isD false) fa fb):=fY (uX (λ _=>aLq) aNQ ha hb) λ _ _ h=>jM aMS h
theorem zu(ha:SE C m1 a fa)(hb:SE C m2 b fb):ST C (.Compare a [.Lt] [b] pos) (tsb (op2 ltD fa fb)):=rC C.ltR aHB ha hb
theorem aGP(ha:SE C m1 a fa)(hb:SE C m2 b fb):ST C (.Compare a [.Gt] [b] pos) (tsb (op2 gtD fa fb)):=rC (λ _=>aKc) xq ha hb
theorem aMv(ha:SE C m1 a fa)(hb:SE C m2 b fb):ST C (.Compare a [.GtE] [b] pos) (tsb (op2 geD fa fb)):=rC (λ _=>aNT) xq ha hb
theorem sr(ha:SE C m1 a fa)(hb:SE C m2 b fb):ST C (.Compare a [.Eq] [b] pos) (tsb (op2 (eqR false) fa fb)):=rC C.eqRl os_eq ha hb
theorem sZ(ha:SE C m1 a fa)(hb:SE C m2 b fb):ST C (.Compare a [.NotEq] [b] pos) (tsb (op2 (eqR true) fa fb)):=rC C.neRl os_eq ha hb
theorem aDD(ha:SE C m1 a fa)(hb:SE C m2 b fb)(hm:zCC .NotIn b=false:=by with_unfolding_all rfl):ST C (.Compare a [.NotIn] [b] pos) (tsb (op2 (inR true) fa fb)):=rC C.ninRl aKb ha hb hm
theorem aIn(ha:SE C m1 a fa)(hb:SE C m2 b fb)(hc:SE C m3 c fc)(hm:zHc [.LtE,.LtE] [b,c]=false:=by with_unfolding_all rfl):SE C (some []) (.Compare a [.LtE,.LtE] [b,c] pos) (chD leD leD fa fb fc):=aBv C.leR aHC C.leR aHC aMR ha hb hc hm
theorem aEZ(ha:SE C m1 a fa)(hb:SE C m2 b fb)(hc:SE C m3 c fc)(hm:zHc [.LtE,.Lt] [b,c]=false:=by with_unfolding_all rfl):SE C (some []) (.Compare a [.LtE,.Lt] [b,c] pos) (chD leD ltD fa fb fc):=aBv C.leR aHC C.ltR aHB aH9 ha hb hc hm
theorem aJ(ha:SE C m1 a fa)(hb:SE C m2 b fb)(hp:wg b:=by exact λ _ _=>rfl):SE C m1 (.Subscript a b pos) (op2 ixD fa fb):=by
 obtain⟨t,h1,h2⟩:=ha;obtain⟨u,k1,k2⟩:=hb;refine⟨tOp (rIx C.K) t u,λ i=>by rw[<-C.hK i];exact aK9 aMN (h1 i) (k1 i) hp,λ τ σ H ρ lab Q R W=>?_⟩;refine h2 τ σ H ρ lab _ R (W.bd.imp λ d _ w x H1 s1 r1=>?_);refine k2 τ σ H1 ρ lab _ (R.up s1) (w.bd.imp λ e _ w y H2 s2 r2=>?_);obtain⟨z,ez,w⟩:=w.okD;have hi:imm e=true:=by
  unfold ixD at ez;split at ez<;>first|rfl|cases ez
 refine aNP (fpM m1 lab H) x y d e H2 Q z (r1.up s2) (r2.imm hi) ez λ v H' s r=>w v H' ((s1.trans s2).trans s) (r.wk λ p o _ q=>?_)
 rcases q with q|q
 ·exact .inl ((s1.trans s2).free q)
 ·exact q
theorem eV(hm:C.mg "len"=none)(ha:SA C m [a] ga)(he:∀i,zAW [a] (C.X i).env=[(false,eval a (C.X i).env)]:=by intro _;rfl)(hg:∀i,Gl (C.X i) "len":=by intro _;rfl):SE C (some []) (.Call (.Name "len" p) [a] [] pos) (opA bZ ga):=
 fY (mW (λ i=>by have h:=uI (X:=C.X i);rw[C.hK i]at h;exact h) aIB hg hm zHk ha (by decide) (by decide) he) λ _ _ h=>qD aEx h
theorem uY(hm:C.mg "all"=none)(ha:SA C m [a] ga)(he:∀i,zAW [a] (C.X i).env=[(false,eval a (C.X i).env)]:=by intro _;rfl)(hg:∀i,Gl (C.X i) "all":=by intro _;rfl)(hv:zAn "all"=some (.builtin "all"):=by decide+kernel):SE C (some []) (.Call (.Name "all" p) [a] [] pos) (opA (j6 λ bs=>bs.all id) ga):=
 fY (mW (λ i=>aIG (C.calm i)) aM6 hg hm hv ha (by decide) (by decide) he) λ _ _ h=>qD aJq h
theorem aIl(hm:C.mg "min"=none)(ha:SA C m [a,b] ga)(he:∀i,zAW [a,b] (C.X i).env=(false,eval a (C.X i).env)::zAW [b] (C.X i).env:=by intro _;rfl)(hpl:∀i,(zCV pos (zAW [b] (C.X i).env)).any (·.1)=false:=by intro _;rfl)(hg:∀i,Gl (C.X i) "min":=by intro _;rfl)(hv:zAn "min"=some (.builtin "min"):=by decide+kernel):SE C (some []) (.Call (.Name "min" p) [a,b] [] pos) (opA (mmD λ i j=>if j<i then j else i) ga):=
 fY (mW (λ i=>aFp (C.calm i)) aKj hg hm hv ha (by decide) (by decide) he hpl) λ _ _ h=>qD aH8 h
theorem aIm(hm:C.mg "max"=none)(ha:SA C m [a,b] ga)(he:∀i,zAW [a,b] (C.X i).env=(false,eval a (C.X i).env)::zAW [b] (C.X i).env:=by intro _;rfl)(hpl:∀i,(zCV pos (zAW [b] (C.X i).env)).any (·.1)=false:=by intro _;rfl)(hg:∀i,Gl (C.X i) "max":=by intro _;rfl)(hv:zAn "max"=some (.builtin "max"):=by decide+kernel):SE C (some []) (.Call (.Name "max" p) [a,b] [] pos) (opA (mmD λ i j=>if j>i then j else i) ga):=
 fY (mW (λ i=>aFq (C.calm i)) aKj hg hm hv ha (by decide) (by decide) he hpl) λ _ _ h=>qD aH8 h
theorem jO(hm:C.mg "tuple"=none)(ha:SA C m [a] ga)(he:∀i,zAW [a] (C.X i).env=[(false,eval a (C.X i).env)]:=by intro _;rfl)(hg:∀i,Gl (C.X i) "tuple":=by intro _;rfl)(hv:zAn "tuple"=some (.type "tuple"):=by decide+kernel):SE C m (.Call (.Name "tuple" p) [a] [] pos) (opA bz ga):=
 aBw (λ i=>by have h:=zf (X:=C.X i);rw[C.hK i]at h;exact h) aHz hg hm hv ha (by decide) (by decide) he
theorem aAs(hm:C.mg "list"=none)(ha:SA C m [a] ga)(he:∀i,zAW [a] (C.X i).env=[(false,eval a (C.X i).env)]:=by intro _;rfl)(hg:∀i,Gl (C.X i) "list":=by intro _;rfl)(hv:zAn "list"=some (.type "list"):=by decide+kernel):SE C m (.Call (.Name "list" p) [a] [] pos) (opA qe ga):=
 aBw (λ i=>by have h:=aB8 (X:=C.X i);rw[C.hK i]at h;exact h) aKD hg hm hv ha (by decide) (by decide) he
def OpF(K:zAA)(r:R2)(fd:D->D->Rs D):Prop:=∀(A:Addr->Prop) x y d e H (Q:VK) z,Rp K A H x d->Rp K A H y e->fd d e= .ok z->(∀v H',aa H H'->Rp K (λ p=>H p=none\/A p) H' v z->aMm H v z->Q v H')->r x y H Q
theorem aLy{K:zAA}:OpF K (aE7 K) aW:=by
 intro A x y d e H Q z rx ry ez q;cases z with
 |lst l=>
  unfold aW at ez;split at ez
  ·cases ez
  ·split at ez
   ·rename_i hl
    cases ez;cases rx with
    |lst h1 m1 r1=>
     cases ry with
     |lst h2 m2 r2=>
      refine .inr (.inl ⟨_,_,_,_,rfl,rfl,h1,h2,by rw[r1.length,r2.length];exact hl,λ p H' s hp hn=>q _ H' s (.lst hp (.inl hn) ?_) λ _=>⟨p,rfl,hn⟩⟩);exact(((r1.wk λ _ _ _ z=>z.1).append (r2.wk λ _ _ _ z=>z.1)).wk (A':=λ q=>(H q=none\/A q)/\q≠p) λ q o e z=>⟨.inr z,λ e'=>by subst e';rw[hn]at e;cases e⟩).up s
   ·cases ez
  ·split at ez<;>cases ez
  ·cases ez
 |dct ks vs=>
  unfold aW at ez;split at ez
  ·cases ez
  ·split at ez<;>cases ez
  ·split at ez<;>cases ez
  ·cases ez
 |set l=>
  unfold aW at ez;split at ez
  ·cases ez
  ·split at ez<;>cases ez
  ·split at ez<;>cases ez
  ·cases ez
 |_=>exact aHE A x y d e H Q _ rx ry ez λ v H' s r=>q v H' s r λ hm=>by cases hm
theorem aDJ(ha:SE C m1 a fa)(hb:SE C m2 b fb):SF C (jn m1 m2) (.BinOp a .Add b pos) (op2 aW fa fb):=by
 obtain⟨t,h1,h2⟩:=ha;obtain⟨u,k1,k2⟩:=hb;refine⟨_,λ i=>aK8 (C.aMb i) (h1 i) (k1 i),?_⟩;intro τ σ H ρ lab Q R W;refine h2 τ σ H ρ lab _ R (W.bd.imp λ d _ w x H1 s1 r1=>?_);refine k2 τ σ H1 ρ lab _ (R.up s1) (w.bd.imp λ e _ w y H2 s2 r2=>?_);obtain⟨z,ez,w⟩:=w.okD;refine aLy (fpM (jn m1 m2) lab H) x y d e H2 Q z (r1.mono s2 λ p o _ q=>aHo q) (r2.wk λ p o _ q=>aHn (tX s1 q)) ez λ v H' s r ht=>w v H' ((s1.trans s2).trans s) (r.wk λ p o _ q=>?_) λ hm=>?_
 ·rcases q with q|q
  ·exact .inl ((s1.trans s2).free q)
  ·exact q
 ·obtain⟨a,e1,e2⟩:=ht hm
  exact⟨a,e1,(s1.trans s2).free e2⟩
def aES(K:zAA):Sp:=λ vs H Q E=>∃a ns,vs=[.ref a]/\pP K H a ns/\ns.length<=63/\∀H',Q (.bl true) H'
theorem aJa{K:zAA}(h:∀ns:List Int,ns.length<=63->F [.scr ns]= .ok (.bl true)):∀vs H Q E,aES K vs H Q E->spF K cl 1 F vs H Q E:=by
 rintro vs H Q E ⟨a,ns,rfl,hs,hl,q⟩;refine⟨[.scr ns],rfl,.cons (.scr hs) .nil,?_⟩;rw[h ns hl];intro v H' s r;cases r;exact q H'
theorem aLF{K:zAA}{a:Addr}(hO:Only H)(h:SqL K H a (ns.map V.int)):pP K H a ns:=by
 rcases h with (h|⟨o,h⟩)|h
 ·rcases hO a with z|⟨o,xs,z⟩
  ·rw[h]at z;cases z
  ·rw[h]at z;cases z
 ·exact .inl ⟨o,h⟩
 ·exact .inr h
end
section
variable{C:Ct}{pos apos cpos p:Pos}{e tg:Expr}{fe:En->Rs D}{fg:D->En->Rs En}{i:Nat}{x:Str}{m:Mode}{ks:List Nat}
end
section
variable{K:zAA}
theorem uw:∀{ns:List Int} {us:List Value},Vals (ns.map V.int) us->∃ts:List (Int×Tok),us=ts.map (λ q=>zDN q.1 q.2)/\ts.map zFC=ns
 |[],_,.nil=>⟨[],rfl,rfl⟩
 |n::ns,_,.cons r t=>by
  obtain⟨tk,e⟩:∃tk,_=zDN n tk:=r
  obtain⟨ts,e1,e2⟩:=uw t;subst e;exact⟨(n,tk)::ts,by rw[e1];rfl,by rw[<-e2];rfl⟩
theorem aFo(hc:X.calm=true):cX X (.builtin "min") (λ xs H Q=>∃(p:Addr) (ns:List Int) (m:Int),xs=[.ref p]/\H p=some (.lst (ns.map V.int))/\ns.min?=some m/\Q (.int m) H):=by
 intro pins s σ H xs us Q I r h;obtain⟨p,ns,m,rfl,hp,hm,q⟩:=h;obtain⟨u,rfl,ru⟩:=vals1 r;cases ru;obtain⟨its,rv,pl,hz⟩:=I.list (SqL.of hp);obtain⟨ts,rfl,rfl⟩:=uw rv;have hsz:0<ts.toArray.size:=by
  cases ts with
  |nil=>cases hm
  |cons a b=>simp
 refine min_intList (xs:=ts.toArray) (I.ok.hd hc) (by have:=pl.isList;simpa[zFF]using this) hsz λ v h' tk hv hk=>?_
 obtain⟨t,rfl⟩:=zHt hv;obtain⟨h1,h2⟩:=argBest_lt (numAt ts.toArray) (ts.toArray.size-1);have hM:(ts.map zFC).min?=some (numAt ts.toArray (argBest (λ i j=>decide (numAt ts.toArray i<numAt ts.toArray j)) (ts.toArray.size-1))):=by
  rw[zGP];refine⟨?_,λ a ha=>?_⟩
  ·rw[zIH];exact getD_mem (by rw[zAF];simp at h1 hsz ⊢;omega)
  ·obtain⟨j,hj,rfl⟩:=mem_getD ha
   have:=h2 j (by rw[zAF]at hj;simp;omega)
   rw[zIH _ j]at this;exact this
 rw[hm]at hM;injection hM with hM
 exact⟨.int m,H,I.kept hk,⟨t,by rw[hM]⟩,q⟩
def aCJ(f:List Int->Option Int):List D->Rs D
 |[.lst l]=>match intsOf l with
  |some ns=>match f ns with
   |some m=>.ok (.int m)
   |none=>.st
  |none=>.st
 |_=>.st
theorem aKC:pQ K (λ xs H Q=>∃(p:Addr) (ns:List Int) (m:Int),xs=[.ref p]/\H p=some (.lst (ns.map V.int))/\f ns=some m/\Q (.int m) H) (aCJ f):=by
 intro A xs ds H Q z r ez q;unfold aCJ at ez;split at ez
 ·split at ez
  ·rename_i l ns e
   split at ez
   ·rename_i m em
    cases ez
    have:=cu e
    subst this;cases r with
    |cons h r=>
     cases r;cases h with
     |lst h _ r=>
      have:=r.ints_of
      subst this;exact⟨_,ns,m,rfl,h,em,q _ H (aa.refl H) (.int _)⟩
   ·cases ez
  ·cases ez
 ·cases ez
theorem aH7:∀x z,aCJ f x= .ok z->imm z=true:=by
 intro x z e;unfold aCJ at e;split at e
 ·split at e
  ·split at e
   ·cases e;rfl
   ·cases e
  ·cases e
 ·cases e
end
section
variable{C:Ct}{pos p:Pos}{a:Expr}{ga:En->Rs (List D)}{m:Mode}
end
section
variable{C:Ct}{pos:Pos}{a b:Expr}{fa fb:En->Rs D}{m1 m2:Mode}
end
section
variable{C:Ct}{m:Mode}{x pc told q:Str}{p pos lpos:Pos}{k k0 kb:Nat}{fn:Addr}{fd:zAa}{wd:Addr->Option Str}{wn:Str->Option Str}{params:zHS}{body:Expr}{scope:Scope}{N:List Str}{fe:En->Rs D}
end
end VL
namespace L2
open PySem PySem.Spec PyProof.Rows
def cxW(P:zA7)(w:World)(K:zAA)(mg:Str->Option Value)(base:Heap)(N:List Str)(qual:Str)(scope:Scope)(f:Addr)(cd:Value)(A:zAk)(s:zAG)(H:Hp)(Pt:Addr):Cx where
 prog:=P
 w:=w
 K:=K
 mg:=mg
 base:=base
 A:=A.deeper (zEF qual scope s.heap.objs.size f cd)
 N:=N
 s₀:=s
 H₀:=H
 env:=zEF qual scope s.heap.objs.size f cd
 outer:=[]
 stack:=[zEF qual scope s.heap.objs.size f cd]
 ex:=[Pt]
 calm:=true
 fn:=λ _=>true
 pn:=[]
 xe:=λ _ _=>False
 ta:=[(Pt,PySem.W.tabObj #[])]
 tq:=qual++".<locals>."++"<lambda>"
section
variable{P:zA7}{w:World}{K:zAA}{mg:Str->Option Value}{base:Heap}{N ps:List Str}{qual:Str}{scope:Scope}{f Pt:Addr}{cd:Value}{A:zAk}{s s1:zAG}{H:Hp}{vs:List V}{us:List Value}
end
end L2
namespace VL
open PySem PySem.Spec PyProof.Rows L2
end VL
namespace L2
open PySem PySem.Spec PyProof.Rows
theorem pe_isi{X:Cx}{n0:Str}{e:Expr}{c:V}{p p' pos:Pos}(hN:X.N[0]? =some n0)(hv:X.env.scope.names.lookup n0=some .local)(hg:Gl X "isinstance")(hm:X.mg "isinstance"=none)(hc:PE X e (tC c))(hse:zAW [e] X.env=(false,eval e X.env)::zAW [] X.env:=by rfl)
  (hpl:(zCV pos (zAW [e] X.env)).any (·.1)=false:=by rfl)(d:(n0==("__debug__":Str))=false:=by decide)(d':(n0==("__classdict__":Str))=false:=by decide):PE X (.Call (.Name "isinstance" p) [.Name n0 p',e] [] pos) (aNs X.K c):=
 oZ aFt hg hm rfl (eX (nW hN (.inl hv) d d') (eX hc jE hse)) (hpl:=hpl)
section
variable{P:zA7}{w:World}{K:zAA}{mg:Str->Option Value}{base:Heap}{x q n0 n1 n2 odd:Str}{st:Stmt}{f:Addr}{fd:zAa}{k:Nat}{wd:Addr->Option Str}{c1 c2:V}{k1 k2 k3 k4:List V}{l1 l2:List Str}{a1 a2:Expr}{as1 as2 e1 e2 e3 e4 w1 w2:List Expr}{kw1 kw2:List zDT}
 {p1 p2 p3 p4 p5 p6 p7 p8 p9 p10 p11 p12 p13 p14 p15 p16 p17 p18 p19 p20 p21 p22 p23 p24 p25 p26 p27 p28 p29 p30 p31 p32 p33 p34 p35 p36 p37 p38 p39 p40:Pos}{q1 q2 q3 q4 q5 q6 q7:Pos}{j1 j2 j3 j4 j5:Nat}
end
structure LawOk(P:zA7)(w:World)(K:zAA)(mg:Str->Option Value)(fa Pt:Addr)(k n:Nat):Prop where
 ex:∃(x name qual:Str) (params:zHS) (body:List Stmt) (scope:Scope) (dV kV doc pm ct oc:Value) (an od:Option Addr) (c:Addr) (osl:Array (Option Value)) (N:List Str),
  K.lookup Pt=none/\PySem.W.codeHdIn K c Pt=true/\K.lookup fa=some ⟨oc,od,.func (zCQ name qual params body scope dV kV doc pm an (.ref c) ct),osl⟩/\zDU K (.ref c) qual=true/\bA N [x] scope/\
  (∀(s:zAG) (u:Value),zFT s (zCQ name qual params body scope dV kV doc pm an (.ref c) ct) ⟨[u],[]⟩ [(x,u)])/\
  ∀(a:Addr) (ns:List Int),ns.length<=n->∀(base:Heap) (s:zAG) (H:Hp),lU k (callerA.deeper (zEF qual scope s.heap.objs.size fa (.ref c)))->aNi (cxW P w K mg base N qual scope fa (.ref c) zEq s H Pt) Pt->Only H->SqL K H a (ns.map V.int)->
   ∃t,PSs (cxW P w K mg base N qual scope fa (.ref c) zEq s H Pt) body t/\t {nx:=λ _ _=>False,rt:=λ v _=>v= .bl true} (start N [.ref a]) H
end L2
namespace VL
open PySem PySem.Spec PyProof.Rows L2
section
variable{O:zFN}{kz:Nat->O.α}{n:Nat}
def Wr{α:Type}(kz:Nat->O.α)(n:Nat):zFc α->(α->Prop)->Prop
 | .ret a,Q=>Q a
 | .ask i j k,Q=>i<n/\j<n/\Wr kz n (k (O.blt (kz i) (kz j))) Q
theorem Wr.bindI:∀{t:zFc α},Wr kz n t (λ a=>Wr kz n (g a) Q)->Wr kz n (t.bind g) Q
 | .ret _,h=>h
 | .ask _ _ _,⟨h1,h2,h3⟩=>⟨h1,h2,Wr.bindI h3⟩
abbrev Pm(n:Nat)(p:Array Nat):Prop:=p.Perm (zAc n).toArray
theorem Pm.sz(h:Pm n p):p.size=n:=by
 have:=h.size_eq
 simpa using this
theorem Pm.in(h:Pm n p)(hi:i<n):p.getD i 0<n:=by
 have hs:i<p.size:=by rw[h.sz];exact hi
 have e:p.getD i 0=p[i]:=by simp[zCZ,hs]
 rw[e];have hm:p[i]∈(zAc n).toArray:=h.mem_iff.mp (Array.getElem_mem hs);simpa using hm
def Kp(kz:Nat->O.α)(p:Array Nat)(i:Nat):O.α:=kz (p.getD i 0)
theorem aC7(h:p[i]? =q[j]?):Kp kz p i=Kp kz q j:=by
 unfold Kp;congr 1;rw[zBo,zBo,h]
theorem aHX(hs:c<p.size)(hd:d<=c)(k:Nat):
  Kp kz (bubble p c d) k=if k=c-d then Kp kz p c else if c-d<k/\k<=c then Kp kz p (k-1)else Kp kz p k:=by
 have e:=getElem?_bubble hs d hd k;by_cases u1:k=c-d
 ·rw[if_pos u1]at e ⊢
  exact aC7 e
 ·rw[if_neg u1]at e ⊢
  by_cases u2:c-d<k/\k<=c
  ·rw[if_pos u2]at e ⊢
   exact aC7 e
  ·rw[if_neg u2]at e ⊢
   exact aC7 e
theorem aDq(hj:j<=p.size)(k:Nat):Kp kz (zDm p i j) k=if i<=k/\k<j then Kp kz p (i+j-1-k)else Kp kz p k:=by
 unfold zDm;have e:=getElem?_mirror_all (i:=i) hj k;by_cases u1:i<=k/\k<j
 ·rw[if_pos u1]at e ⊢
  exact aC7 e
 ·rw[if_neg u1]at e ⊢
  exact aC7 e
theorem qC(hj:j<=p.size)(he:∀k,i<=k->k<j->Kp kz p k=Kp kz p (j-1))(k:Nat):Kp kz (zDm p i j) k=Kp kz p k:=by
 rw[aDq hj];split
 ·rw[he _ (by lia) (by lia),he k (by lia) (by lia)]
 ·rfl
def Up(kz:Nat->O.α)(p:Array Nat)(k:Nat):Prop:=∀i j,i<=j->j<k->O.kle (Kp kz p i) (Kp kz p j)
def Dn(kz:Nat->O.α)(p:Array Nat)(k:Nat):Prop:=∀i j,i<=j->j<k->O.kle (Kp kz p j) (Kp kz p i)
theorem xf(h:Pm n p)(i j:Nat):Pm n (zDm p i j):=(mirror_perm _ _ _ _).trans h
theorem Up.succ(h:Up kz p m)(hm:1<=m)(hl:O.kle (Kp kz p (m-1)) (Kp kz p m)):Up kz p (m+1):=by
 intro i j hij hj;by_cases q:j<m
 ·exact h i j hij q
 ·have q':j=m:=by lia
  subst q';by_cases q2:i=j
  ·rw[q2];exact zCi _
  ·exact zDe (h i (j-1) (by lia) (by lia)) hl
theorem Dn.succ(h:Dn kz p m)(hm:1<=m)(hl:O.kle (Kp kz p m) (Kp kz p (m-1))):Dn kz p (m+1):=by
 intro i j hij hj;by_cases q:j<m
 ·exact h i j hij q
 ·have q':j=m:=by lia
  subst q';by_cases q2:i=j
  ·rw[q2];exact zCi _
  ·exact zDe hl (h i (j-1) (by lia) (by lia))
theorem aCz(hp:Pm n p)(hr:r<=n):∀(f m:Nat),1<=m->m+f=r->Up kz p m->
  (∀m',1<=m'->m'<=r->Up kz p m'->(m'=r\/O.klt (Kp kz p m') (Kp kz p (m'-1)))->Q m')->Wr kz n (PySem.W.kas_asc p f m) Q
 |0,m,h1,hm,hu,k=>k m h1 (by lia) hu (.inl (by lia))
 |f+1,m,h1,hm,hu,k=>by
  refine⟨hp.in (by lia),hp.in (by lia),?_⟩;have hd:O.blt (kz (p.getD m 0)) (kz (p.getD (m-1) 0))=O.blt (Kp kz p m) (Kp kz p (m-1)):=rfl;rw[hd];cases hb:O.blt (Kp kz p m) (Kp kz p (m-1))with
  |true=>exact k m h1 (by lia) hu (.inr hb)
  |false=>exact aCz hp hr f (m+1) (by lia) (by lia) (hu.succ h1 hb) k
theorem wJ(hr:r<=n):∀(f:Nat) (p:Array Nat) (m e:Nat),Pm n p->1<=m->m+f=r->Dn kz p m->e+1<=m->(∀i,m-(e+1)<=i->i<m->Kp kz p i=Kp kz p (m-1))->
  (∀p' m' e',Pm n p'->1<=m'->m'<=r->Dn kz p' m'->e'+1<=m'->(∀i,m'-(e'+1)<=i->i<m'->Kp kz p' i=Kp kz p' (m'-1))->Q (p',m',e'))->Wr kz n (PySem.W.kas_desc f p m e) Q
 |0,p,m,e,hp,h1,hm,hd,he,hq,k=>k p m e hp h1 (by lia) hd he hq
 |f+1,p,m,e,hp,h1,hm,hd,he,hq,k=>by
  have hsz:m<=p.size:=by rw[hp.sz];lia
  refine⟨hp.in (by lia),hp.in (by lia),?_⟩;have hx:O.blt (kz (p.getD m 0)) (kz (p.getD (m-1) 0))=O.blt (Kp kz p m) (Kp kz p (m-1)):=rfl;rw[hx];cases hb:O.blt (Kp kz p m) (Kp kz p (m-1))with
  |true=>
   have hd':Dn kz p (m+1):=hd.succ h1 (zEZ hb);dsimp only;rw[if_pos rfl];by_cases hz:e>0
   ·rw[if_pos hz]
    refine wJ hr f _ (m+1) 0 (xf hp _ _) (by lia) (by lia) (λ i j hij hj=>?_) (by lia) (λ i u v=>by congr 1;lia) k;rw[qC hsz hq,qC hsz hq];exact hd' i j hij hj
   ·rw[if_neg hz]
    exact wJ hr f p (m+1) 0 hp (by lia) (by lia) hd' (by lia) (λ i u v=>by congr 1;lia) k
  |false=>
   dsimp only;rw[if_neg (by simp)];refine⟨hp.in (by lia),hp.in (by lia),?_⟩;have hy:O.blt (kz (p.getD (m-1) 0)) (kz (p.getD m 0))=O.blt (Kp kz p (m-1)) (Kp kz p m):=rfl;rw[hy];cases hc:O.blt (Kp kz p (m-1)) (Kp kz p m)with
   |true=>exact k p m e hp h1 (by lia) hd he hq
   |false=>
    dsimp only;rw[if_neg (by simp)];have hee:Kp kz p m=Kp kz p (m-1):=zGN hc hb;refine wJ hr f p (m+1) (e+1) hp (by lia) (by lia) (hd.succ h1 hc) (by lia) (λ i u v=>?_) k;rw[show m+1-1=m by lia];by_cases hi:i=m
    ·rw[hi]
    ·rw[hee]
     exact hq i (by lia) (by lia)
theorem aEN(hr:r<=n)(hp:Pm n p)(h1:1<=m)(hm:m<=r)(hd:Dn kz p m)(k:∀m' p',Pm n p'->1<=m'->m'<=r->Up kz p' m'->Q (m',p')):Wr kz n (PySem.W.kas_tail3 m r p) Q:=by
 have hsz:m<=p.size:=by rw[hp.sz];lia
 refine Wr.bindI (aCz (xf hp 0 m) hr (r-m) m h1 (by lia) (λ i j hij hj=>?_) λ m' a1 a2 a3 _=>k m' _ (xf hp 0 m) a1 a2 a3);rw[aDq hsz,aDq hsz,if_pos (by lia),if_pos (by lia)];exact hd _ _ (by lia) (by lia)
theorem vL(hr:r<=n)(hp:Pm n p)(hm:m+1<=r)(hd:Dn kz p (m+1))(k:∀m' p',Pm n p'->1<=m'->m'<=r->Up kz p' m'->Q (m',p')):Wr kz n (PySem.W.kas_descPart m r p) Q:=by
 refine Wr.bindI (wJ hr (r-(m+1)) p (m+1) 0 hp (by lia) (by lia) hd (by lia) (λ i u v=>by congr 1;lia) λ p' m' e' a1 a2 a3 a4 a5 a6=>?_);have hsz:m'<=p'.size:=by rw[a1.sz];lia
 dsimp only;by_cases hz:e'>0
 ·rw[if_pos hz]
  refine aEN hr (xf a1 _ _) a2 a3 (λ i j hij hj=>?_) k;rw[qC hsz a6,qC hsz a6];exact a4 i j hij hj
 ·rw[if_neg hz]
  exact aEN hr a1 a2 a3 a4 k
theorem aFz(hr:r<=n)(hp:Pm n p)(h1:1<=r)(k:∀m' p',Pm n p'->1<=m'->m'<=r->Up kz p' m'->Q (m',p')):Wr kz n (PySem.W.kas_count r p) Q:=by
 refine Wr.bindI (aCz hp hr (r-1) 1 (zAO 1) (by lia) (λ i j hij hj=>by rw[show i=j by lia];exact zCi _) λ m a1 a2 a3 a4=>?_);by_cases hm:m=r
 ·rw[if_pos (by simpa using hm)]
  exact k m p hp a1 a2 a3
 ·rw[if_neg (by simpa using hm)]
  have hl:O.klt (Kp kz p m) (Kp kz p (m-1)):=a4.resolve_left hm;by_cases hg:m>1
  ·rw[if_pos hg]
   refine⟨hp.in (by lia),hp.in (by lia),?_⟩;have hx:O.blt (kz (p.getD 0 0)) (kz (p.getD (m-1) 0))=O.blt (Kp kz p 0) (Kp kz p (m-1)):=rfl;rw[hx];cases hb:O.blt (Kp kz p 0) (Kp kz p (m-1))with
   |true=>exact k m p hp a1 a2 a3
   |false=>
    dsimp only;rw[if_neg (by simp)];have hsz:m<=p.size:=by rw[hp.sz];lia
    have hall:∀i,0<=i->i<m->Kp kz p i=Kp kz p (m-1):=λ i _ hi=>zGN (a3 i (m-1) (by lia) (by lia)) (zDe hb (a3 0 i (by lia) hi))
    refine vL hr (xf hp 0 m) (by lia) (λ i j hij hj=>?_) k;rw[qC hsz hall,qC hsz hall];by_cases hjm:j<m
    ·rw[hall i (by lia) (by lia),hall j (by lia) hjm];exact zCi _
    ·have hj':j=m:=by lia
     subst hj';by_cases hi:i=j
     ·rw[hi];exact zCi _
     ·rw[hall i (by lia) (by lia)];exact zEZ hl
  ·rw[if_neg hg]
   have hm1:m=1:=by lia
   subst hm1;refine vL hr hp (by lia) (λ i j hij hj=>?_) k;by_cases hi:i=j
   ·rw[hi];exact zCi _
   ·have e1:i=0:=by lia
    have e2:j=1:=by lia
    subst e1 e2;exact zEZ hl
theorem wj(hp:Pm n p)(hc:c<n)(hu:Up kz p c):∀(f l r:Nat),l<=r->r<=c->r-l<=f->(∀i,i<l->O.kle (Kp kz p i) (Kp kz p c))->(∀i,r<=i->i<c->O.klt (Kp kz p c) (Kp kz p i))->
  (∀l',l'<=c->(∀i,i<l'->O.kle (Kp kz p i) (Kp kz p c))->(∀i,l'<=i->i<c->O.klt (Kp kz p c) (Kp kz p i))->Q l')->Wr kz n (zG4 p c f l r) Q
 |0,l,r,a1,a2,a3,a4,a5,k=>by
  have e:l=r:=by lia
  subst e;exact k l a2 a4 a5
 |f+1,l,r,a1,a2,a3,a4,a5,k=>by
  unfold zG4;by_cases hg:l ≥ r
  ·rw[if_pos hg]
   have e:l=r:=by lia
   subst e;exact k l a2 a4 a5
  ·rw[if_neg hg]
   refine⟨hp.in hc,hp.in (by lia),?_⟩;have hx:O.blt (kz (p.getD c 0)) (kz (p.getD ((l+r) / 2) 0))=O.blt (Kp kz p c) (Kp kz p ((l+r) / 2)):=rfl;rw[hx];cases hb:O.blt (Kp kz p c) (Kp kz p ((l+r) / 2))with
   |true=>exact wj hp hc hu f l ((l+r) / 2) (by lia) (by lia) (by lia) a4 (λ i u v=>KeyOrd.klt_of_klt_of_kle hb (hu _ _ u v)) k
   |false=>exact wj hp hc hu f ((l+r) / 2+1) r (by lia) a2 (by lia) (λ i u=>zDe (hu i ((l+r) / 2) (by lia) (by lia)) hb) a5 k
theorem aGA:∀(f:Nat) (p:Array Nat) (c:Nat),Pm n p->c+f=n->Up kz p c->(∀p',Pm n p'->Up kz p' n->Q p')->Wr kz n (PySem.W.kas_bin f p c) Q
 |0,p,c,hp,hc,hu,k=>k p hp (by rw[show n=c by lia];exact hu)
 |f+1,p,c,hp,hc,hu,k=>by
  refine Wr.bindI (wj hp (by lia) hu c 0 c (by lia) (zAO c) (by lia) (λ i u=>by lia) (λ i u v=>by lia) λ l a1 a2 a3=>?_);refine aGA f _ (c+1) ((bubble_perm _ _ _).trans hp) (by lia) (λ i j hij hj=>?_) k;have hs:c<p.size:=by rw[hp.sz];lia
  rw[aHX hs (by lia),aHX hs (by lia),show c-(c-l)=l by lia]
  repeat' split
  all_goals first
   |(exfalso;lia)
   |exact O.irrefl _
   |exact a2 _ (by lia)
   |exact KeyOrd.klt_asymm (a3 _ (by lia) (by lia))
   |exact hu _ _ (by lia) (by lia)
theorem aIZ(h1:1<=n)(k:∀p,Pm n p->Up kz p n->Q p):Wr kz n (PySem.W.kas_sort n) Q:=by
 refine Wr.bindI (aFz (zAO n) (zGJ _) h1 λ m p a1 a2 a3 a4=>?_);dsimp only;by_cases hm:m<n
 ·rw[if_pos hm]
  exact aGA _ p _ a1 (by lia) (by rw[show max m 1=m by lia];exact a4) k
 ·rw[if_neg hm]
  exact k p a1 (by rw[show n=m by lia];exact a4)
theorem aBj{I:zAG->Prop}(hc:∀i j (C:Bool->zAG->Prop) s,I s->i<n->j<n->(∀s',I s'->C (O.blt (kz i) (kz j)) s')->cmp i j C s):
  ∀(t:zFc α) (s:zAG),I s->Wr kz n t (λ a=>∀s',I s'->Q a s')->t.kasWp cmp Q s
 | .ret a,s,hI,h=>h s hI
 | .ask i j k,s,hI,⟨h1,h2,h3⟩=>hc i j _ s hI h1 h2 λ s' hI'=>aBj hc _ s' hI' h3
end
theorem aBM:∀a:List Int,HT.lexLt a a=false
 |[]=>rfl
 |x::a=>by rw[HT.lB,if_pos rfl];exact aBM a
theorem tL:∀a b c:List Int,HT.lexLt a b=true->HT.lexLt b c=true->HT.lexLt a c=true
 |[],[],c,h,_=>by cases h
 |[],_::_,[],_,h=>by cases h
 |[],_::_,_::_,_,_=>rfl
 |_::_,[],_,h,_=>by cases h
 |_::_,_::_,[],_,h=>by cases h
 |x::a,y::b,z::c,h1,h2=>by
  rw[HT.lB]at h1 h2 ⊢;by_cases e1:x=y
  ·subst e1
   rw[if_pos rfl]at h1;by_cases e2:x=z
   ·rw[if_pos e2]at h2 ⊢
    exact tL a b c h1 h2
   ·rw[if_neg e2]at h2 ⊢
    exact h2
  ·rw[if_neg e1]at h1
   simp only[decide_eq_true_eq]at h1;by_cases e2:y=z
   ·subst e2
    rw[if_neg e1];simpa using h1
   ·rw[if_neg e2]at h2
    simp only[decide_eq_true_eq]at h2;rw[if_neg (by lia)];simp only[decide_eq_true_eq];lia
theorem yF:∀a b:List Int,HT.lexLt a b=false->HT.lexLt b a=false->a=b
 |[],[],_,_=>rfl
 |[],_::_,h,_=>by cases h
 |_::_,[],_,h=>by cases h
 |x::a,y::b,h1,h2=>by
  rw[HT.lB]at h1 h2;by_cases e:x=y
  ·subst e
   rw[if_pos rfl]at h1 h2;rw[yF a b h1 h2]
  ·rw[if_neg e]at h1
   rw[if_neg λ q=>e q.symm]at h2;simp only[decide_eq_false_iff_not]at h1 h2;lia
theorem aHO(a b c:List Int)(h:HT.lexLt a c=true):HT.lexLt a b=true\/HT.lexLt b c=true:=by
 cases e1:HT.lexLt a b with
 |true=>exact .inl rfl
 |false=>
  right;cases e2:HT.lexLt b a with
  |true=>exact tL b a c e2 h
  |false=>rw[<-yF a b e1 e2];exact h
def aDm:zFN:=⟨List Int,HT.lexLt,aBM,tL,aHO,yF⟩
inductive bw(h:Heap):List Value->List (List Int)->Prop where
 |nil:bw h [] []
 |cons {x:Addr} {o:Obj} {xs:Array Value} {k:Nat} {ns:List Int} {vs:List Value} {nss:List (List Int)} (ho:h.get? x=some o) (hc:o.cls= .type "tuple") (hd:o.data= .seq xs k) (hi:zBO xs.toList ns) (hne:ns≠[]) (r:bw h vs nss):bw h (.ref x::vs) (ns::nss)
theorem bw.mono(k:∀x o,h.get? x=some o->o.cls= .type "tuple"->h'.get? x=some o):∀{vs:List Value} {nss:List (List Int)},bw h vs nss->bw h' vs nss
 |_,_,.nil=>.nil
 |_,_,.cons ho hc hd hi hne r=>.cons (k _ _ ho hc) hc hd hi hne (bw.mono k r)
theorem bw.len:∀{vs:List Value} {nss:List (List Int)},bw h vs nss->vs.length=nss.length
 |_,_,.nil=>rfl
 |_,_,.cons _ _ _ _ _ r=>by rw[zA8,zA8,r.len]
theorem bw.at:∀{vs:List Value} {nss:List (List Int)} {i:Nat},bw h vs nss->i<vs.length->∃x o xs k,vs.getD i zBI= .ref x/\h.get? x=some o/\o.cls= .type "tuple"/\o.data= .seq xs k/\zBO xs.toList (nss.getD i [])/\nss.getD i []≠[]
 |_,_,_,.nil,hi=>by simp at hi
 |_,_,0,.cons ho hc hd hi hne _,_=>⟨_,_,_,_,rfl,ho,hc,hd,hi,hne⟩
 |_,_,i+1,.cons _ _ _ _ _ r,hi=>by
  obtain⟨x,o,xs,k,q⟩:=bw.at (i:=i) r (by simpa using hi);exact⟨x,o,xs,k,by simpa using q⟩
theorem bw.firsts:∀{vs:List Value} {nss:List (List Int)},bw h vs nss->∃fs,PySem.W.KatTups h vs fs/\fs.length=vs.length/\∀f∈fs,∃n t,f=zDN n t
 |_,_,.nil=>⟨[],.nil,rfl,λ f hf=>by simp at hf⟩
 |_,_,.cons (xs:=xs) ho hc hd hi hne r=>by
  obtain⟨fs,h1,h2,h3⟩:=bw.firsts r;obtain⟨l,rfl⟩:∃l:List Value,xs=l.toArray:=⟨xs.toList,by simp⟩
  rw[show l.toArray.toList=l by simp]at hi;cases hi with
  |nil=>exact absurd rfl hne
  |cons n t q=>
   rename_i l' ns';refine⟨.int n t::fs,.cons ho hc hd (by simp) h1,by simp[h2],λ f hf=>?_⟩;rcases zAL.mp hf with rfl|hf
   ·exact⟨n,t,rfl⟩
   ·exact h3 f hf
section
variable{prog:zA7}{w:World}{A:zAk}{E:Value->zAG->Prop}{s:zAG}
theorem aC8:∀{xs ys:List Value} {ns ms:List Int} (i:Nat),zBO xs ns->zBO ys ms->fin=decide (xs.length<ys.length)->Q (HT.lexLt ns ms) s->PySem.W.KatLex prog w A b fin Q (xs.zip ys) i s:=by
 intro xs ys ns ms i hx;induction hx generalizing ys ms i with
 |nil=>intro hy hf q;cases hy<;>(subst hf;exact q)
 |@cons x t xs ns r ih=>
  intro hy hf q;cases hy with
  |nil=>subst hf;exact q
  |@cons y u ys ms r'=>?_
  rw[zBi];refine PySem.W.kat_cons (zFi ?_);rw[HT.lB]at q;by_cases e:x=y
  ·rw[if_pos e]at q
   rw[show(x==y)=true by simpa using e];exact PySem.W.kat_yes (ih (i+1) r' (by rw[hf];simp) q)
  ·rw[if_neg e]at q
   rw[show(x==y)=false by simpa using e];refine PySem.W.kat_no ?_;cases hb:(b&&i==0)with
   |true=>exact oneLt_int q
   |false=>exact PySem.W.kat_one _ _ (zFO q)
theorem aDt(hx:s.heap.get? x=some ox)(dx:ox.data= .seq xs n)(hy:s.heap.get? y=some oy)(dy:oy.data= .seq ys k)(hi:zBO xs.toList ns)(hj:zBO ys.toList ms)
  (q:Q (HT.lexLt ns ms) s):wpAny (model prog w) A (keyLt' (tuples' b) (.ref x) (.ref y)) Q E s:=
 PySem.W.kat_lt hx dx hy dy (aC8 0 hi hj (by simp) q)
def qL(vs:List Value)(p:Array Nat):Array Value:=(p.toList.map λ i=>vs.getD i zBI).toArray
theorem aIX(h:vs.length<2):(vs.toArray.zip vs.toArray).map (·.2)=qL vs (zAc vs.length).toArray:=by
 cases vs with
 |nil=>simp[qL]
 |cons v t=>
  cases t with
  |nil=>simp[qL]
  |cons u t=>exact absurd h (zFs.mpr (Nat.le_add_left 2 t.length))
theorem aDl(ho:s.heap.get? a=some (zBz "list" vs.toArray c))(ht:bw s.heap vs nss)(h64:vs.length<64)
  (h:∀p:Array Nat,Pm vs.length p->Up (O:=aDm) (λ i=>nss.getD i []) p vs.length->P (.done (.ret .none)) {s with heap:=zGj s.heap a vs (qL vs p)}):
  wpAny (model prog w) A (zCO.«list.sort» ⟨[.ref a],[]⟩) P E s:=by
 have hlt:a<s.heap.objs.size:=zAP ho;have hz:vs.length<=zAT:=by rw[zB9];lia
 obtain⟨e1,ho1⟩:∃e1,(s.heap.update a (zC4 λ _=>(#[]:Array Value))).get? a=some (zBz "list" #[] e1):=⟨_,zGC ho λ _=>#[]⟩
 have keep:∀x o,s.heap.get? x=some o->o.cls= .type "tuple"->(((s.heap.update a (zC4 λ _=>(#[]:Array Value))).push (zBz "tuple" vs.toArray 0)).push (zBz "list" #[] 0)).get? x=some o:=λ x o e q=>by
  have hxa:x≠a:=λ z=>by
   subst z;rw[ho]at e;cases e;exact absurd q (show¬(zCB "list"=zCB "tuple")by decide)
  refine zAD _ (zAD _ ?_);rw[zDP _ _ _ _ hxa];exact e
 have ho6:(((s.heap.update a (zC4 λ _=>(#[]:Array Value))).push (zBz "tuple" vs.toArray 0)).push (zBz "list" #[] 0)).get? a=some (zBz "list" #[] e1):=zAD _ (zAD _ ho1);have ht6:=ht.mono keep;rw[list_sort_plain];refine zAB (listItems_at ho rfl (zAB (zGy ho rfl ?_ (by rw[zAM];exact hz) (zAb _))));refine zAB (zHu ho1 rfl (zAB (wpAny_newTuple ?_ (by show vs.length<=_;exact hz))));refine zAB (wpAny_newList (zBj ?_) (zAb _));show wpAny (model prog w) A _ P E {s with heap:=((s.heap.update a (zC4 λ _=>(#[]:Array Value))).push (zBz "tuple" vs.toArray 0)).push (zBz "list" #[] 0)};dsimp only;have hsz:∀p:Array Nat,Pm vs.length p->(qL vs p).size=vs.length:=λ p a1=>by unfold qL;rw[zAM,zAF,zA0,a1.sz]
 by_cases h2:vs.toArray.size<2
 ·rw[if_pos h2,if_pos h2]
  refine zAB (zAE ?_);rw[StateT.run_pure];refine zAB (zAE ?_);have h2':vs.length<2:=by simpa using h2
  have a1:Pm vs.length (zAc vs.length).toArray:=zGJ _;have a3:=aIX h2';dsimp only;refine zAB (zHu ho6 rfl ?_);show wpAny (model prog w) A (Builtin.List.listUpdate (.ref a) (λ _=>(vs.toArray.zip vs.toArray).map (·.2))>>=_) P E _;rw[a3];refine zAB (zGy ho6 rfl ?_ (zAb _) (by show(qL vs _).size<=_;rw[hsz _ a1];lia));simp only[bne_self_eq_false,zAe,if_false];exact zAE (h _ a1 λ i j hij hj=>by rw[show i=j by lia];exact aBM _)
 ·rw[if_neg h2,if_neg h2]
  have h2':2<=vs.length:=zHh (show¬vs.length<2 by simpa using h2);obtain⟨fs,f1,f2,f3⟩:=ht6.firsts;refine zAB (PySem.W.kat_kind (T:=.type "int") f1 (by lia) (λ v hv=>?_) (by decide) ?_)
  ·obtain⟨n,t,rfl⟩:=f3 v hv
   exact zIS
  rw[show(zCB "int" !=zCB "tuple")=true by decide];refine zAB (zBH (PySem.W.kat_run (κ:=tuples' true) (ks:=vs) (vs:=vs) (Q:=λ st s'=>s'={s with heap:=((s.heap.update a (zC4 λ _=>(#[]:Array Value))).push (zBz "tuple" vs.toArray 0)).push (zBz "list" #[] 0)}/\∃p:Array Nat,Pm vs.length p/\Up (O:=aDm) (λ i=>nss.getD i []) p vs.length/\(arrOf st).map (·.2)=qL vs p/\failedOf st=none)
   (G:=λ p s'=>s'={s with heap:=((s.heap.update a (zC4 λ _=>(#[]:Array Value))).push (zBz "tuple" vs.toArray 0)).push (zBz "list" #[] 0)}/\Pm vs.length p/\Up (O:=aDm) (λ i=>nss.getD i []) p vs.length)
   rfl h2' h64 (λ p st s' _ b2 b3 b4=>⟨b4.1,p,b4.2.1,b4.2.2,PySem.W.kat_snds rfl b2,b3⟩) ?_) (λ r s' hr=>?_) λ _ _ e=>e)
  ·refine aBj (O:=aDm) (kz:=λ i=>nss.getD i []) (n:=vs.length) (I:=λ s'=>s'={s with heap:=((s.heap.update a (zC4 λ _=>(#[]:Array Value))).push (zBz "tuple" vs.toArray 0)).push (zBz "list" #[] 0)}) (λ i j C s' hI hi hj hC=>?_) _ _ rfl (aIZ (by lia) λ p a1 a2 s' hs'=>⟨hs',a1,a2⟩)
   subst hI;unfold PySem.W.kas_ask;obtain⟨x,ox,xs,kx,x1,x2,_,x4,x5,_⟩:=ht6.at hi;obtain⟨y,oy,ys,ky,y1,y2,_,y4,y5,_⟩:=ht6.at hj;rw[x1,y1];exact aDt x2 x4 y2 y4 x5 y5 (hC _ rfl)
  ·obtain⟨⟨⟩,st⟩:=r
   obtain⟨e,p,b1,b2,b3,b4⟩:=hr;subst e;refine zAB (zHu ho6 rfl ?_);rw[b3,b4];refine zAB (zGy ho6 rfl ?_ (zAb _) (by show(qL vs p).size<=_;rw[hsz p b1];lia));simp only[bne_self_eq_false,zAe,if_false];exact zAE (h p b1 b2)
end
theorem sub_len[BEq α][LawfulBEq α]:∀{l l':List α},l.Nodup->(∀x∈l,x∈l')->l.length<=l'.length
 |[],_,_,_=>zAb _
 |x::l,l',nd,h=>by
  have hx:x∈l':=h x zAQ;have ih:=sub_len (l:=l) (l':=l'.erase x) (zBD.mp nd).2 λ y hy=>(List.mem_erase_of_ne λ e=>by subst e;exact(zBD.mp nd).1 hy).mpr (h y (zAJ _ hy))
  rw[zDb hx]at ih
  have:0<l'.length:=zDp hx
  rw[zA8];lia
def Ris(xs:Array Nat):Prop:=∀i j,i<j->j<xs.size->xs.getD i 0<xs.getD j 0
theorem aBc(hr:Ris xs):∀(f lo hi:Nat),lo<=hi->hi<=xs.size->hi-lo<=f->(∀i,i<lo->xs.getD i 0<j)->(∀i,hi<=i->i<xs.size->j<=xs.getD i 0)->
  zDG xs j f lo hi<=xs.size/\(∀i,i<zDG xs j f lo hi->xs.getD i 0<j)/\∀i,zDG xs j f lo hi<=i->i<xs.size->j<=xs.getD i 0
 |0,lo,hi,h1,h2,h3,h4,h5=>by
  have e:lo=hi:=by lia
  subst e;exact⟨h2,h4,h5⟩
 |f+1,lo,hi,h1,h2,h3,h4,h5=>by
  unfold zDG;by_cases hl:lo<hi
  ·rw[if_pos hl]
   dsimp only;have hm:(lo+hi) / 2<xs.size:=by lia
   have e:xs.getD ((lo+hi) / 2) j=xs.getD ((lo+hi) / 2) 0:=by simp[zCZ,hm]
   rw[e];by_cases hc:xs.getD ((lo+hi) / 2) 0<j
   ·rw[if_pos hc]
    refine aBc hr f _ hi (by lia) h2 (by lia) (λ i hi'=>?_) h5;by_cases q:i=(lo+hi) / 2
    ·rw[q];exact hc
    ·exact zCF (hr i ((lo+hi) / 2) (by lia) hm) hc
   ·rw[if_neg hc]
    refine aBc hr f lo _ (by lia) (by lia) (by lia) h4 λ i q1 q2=>?_
    by_cases q:i=(lo+hi) / 2
    ·rw[q];lia
    ·have:=hr ((lo+hi) / 2) i (by lia) q2
     lia
  ·rw[if_neg hl]
   have e:lo=hi:=by lia
   subst e;exact⟨h2,h4,h5⟩
theorem uL(hr:Ris xs)(j:Nat):zAd xs j<=xs.size/\(∀i,i<zAd xs j->xs.getD i 0<j)/\∀i,zAd xs j<=i->i<xs.size->j<=xs.getD i 0:=
 aBc hr xs.size 0 xs.size (zAb _) (zAO _) (by lia) (λ i h=>by lia) λ i h1 h2=>by lia
structure fV(t:zCc)(n:Nat):Prop where
 dum:t.dummies=#[]
 siz:t.place.size=n
 ris:Ris t.place
 top:∀i,i<n->t.place.getD i 0<=t.mask
 msk:t.mask=7/\n<5\/t.mask=31/\n<19\/t.mask=127/\n<77
 pla:t.plain=true
theorem fV.fresh(led:Bool):fV (zGu 0 0 led) 0:=⟨rfl,rfl,λ i j _ h=>by simp[zGu]at h,λ i h=>by lia,.inl ⟨rfl,by lia⟩,rfl⟩
theorem fV.few(h:fV t n):n<t.mask:=by
 rcases h.msk with ⟨e,l⟩|⟨e,l⟩|⟨e,l⟩<;>lia
theorem fV.fill(h:fV t n):t.fill=n:=by unfold zHM;rw[h.dum,h.siz];rfl
theorem fV.fits(h:fV t n):t.fits n=true:=by
 unfold zHN;rw[h.fill,h.siz]
 have:=h.few
 simp;lia
theorem aAi(h:fV t n)(j:Nat):t.slot j= .empty\/∃i,i<n/\t.slot j= .live i/\t.place.getD i 0=j:=by
 unfold zHO;dsimp only;by_cases e:(t.place[zAd t.place j]? ==some j)=true
 ·rw[if_pos e]
  have e':=beq_iff_eq.mp e;obtain⟨h1,h2⟩:=zC0.mp e';exact .inr ⟨_,by rw[<-h.siz];exact h1,rfl,by simp[zCZ,h1,h2]⟩
 ·rw[if_neg e]
  have:zDh t.dummies j=false:=by rw[h.dum];unfold zDh;simp
  rw[this];exact .inl (by simp)
theorem aGS(h:fV t n)(e:t.slot j= .empty):∀i,i<n->t.place.getD i 0≠j:=by
 intro i hi q;obtain⟨b1,b2,b3⟩:=uL h.ris j;have hb:zAd t.place j=i:=by
  rcases zH6 (zAd t.place j) i with z|z|z
  ·have z1:=b3 _ (zAO _) (by rw[h.siz];lia)
   have z2:=h.ris _ i z (by rw[h.siz];exact hi);lia
  ·exact z
  ·have:=b2 i z
   lia
 have hi':i<t.place.size:=by rw[h.siz];exact hi
 have e2:t.place[i]? =some j:=by rw[zC0];exact⟨hi',by rw[<-q];simp[zCZ,hi']⟩
 unfold zHO at e;dsimp only at e;rw[hb,e2]at e;simp at e
def oH(mask:Nat):Nat->Nat×Nat->Nat×Nat
 |0,st=>st
 |k+1,st=>oH mask k (zBW mask st.1 st.2)
theorem aCX(mask:Nat):∀(k:Nat) (st:Nat×Nat),(oH mask k st).2=st.2 / 32^k
 |0,st=>by simp[oH]
 |k+1,st=>by
  show(oH mask k (zBW mask st.1 st.2)).2=_
  rw[aCX mask k];show st.2 / 32 / 32^k=_;rw[Nat.div_div_eq_div_mul,Nat.pow_succ,Nat.mul_comm]
theorem aC0(mask:Nat):∀(j k:Nat) (st:Nat×Nat),oH mask (j+k) st=oH mask k (oH mask j st)
 |0,k,st=>by rw[zG2];rfl
 |j+1,k,st=>by
  rw[show j+1+k=(j+k)+1 by lia];exact aC0 mask j k _
def orb(M:Nat):Nat->Nat->Nat
 |0,i=>i
 |k+1,i=>orb M k ((i*5+1)%M)
theorem wO(M:Nat):∀(j k i:Nat),orb M (j+k) i=orb M k (orb M j i)
 |0,k,i=>by rw[zG2];rfl
 |j+1,k,i=>by
  rw[show j+1+k=(j+k)+1 by lia];exact wO M j k _
theorem aCY(mask:Nat):∀(k i:Nat),oH mask k (i,0)=(orb (mask+1) k i,0)
 |0,i=>rfl
 |k+1,i=>by
  show oH mask k (zBW mask i 0)=_
  have:zBW mask i 0=((i*5+1)%(mask+1),0):=by simp[zBW]
  rw[this];exact aCY mask k _
theorem aF1:∀M∈[8,32,128],(∀t∈zAc M,∃k∈zAc M,orb M k 0=t)/\orb M M 0=0:=by decide+kernel
theorem aJV(hm:mask=7\/mask=31\/mask=127)(hi:i<=mask)(ht:t<=mask):∃k,k<=mask/\orb (mask+1) k i=t:=by
 have hM:mask+1∈[8,32,128]:=by rcases hm with e|e|e<;>subst e<;>decide
 obtain⟨h1,h2⟩:=aF1 _ hM;obtain⟨a,ha,ea⟩:=h1 i (by simp;lia);obtain⟨b,hb,eb⟩:=h1 t (by simp;lia);simp only[zBy]at ha hb;by_cases hab:a<=b
 ·refine⟨b-a,by lia,?_⟩
  rw[<-ea,<-wO,show a+(b-a)=b by lia,eb]
 ·refine⟨mask+1-a+b,by lia,?_⟩
  rw[<-ea,<-wO,show a+(mask+1-a+b)=(mask+1)+b by lia,wO,h2,eb]
theorem aKJ(h:Int):zAx h<2^64:=by
 unfold zAx;have h1:=zDS h (show(2^64:Int)≠0 by decide);have h2:=zCq h (show(0:Int)<2^64 by decide);lia
theorem aCZ(hm:mask=7\/mask=31\/mask=127)(h:Int)(ht:t<=mask)(i₀:Nat):∃k,k<mask+15/\(oH mask k (i₀,zAx h)).1=t:=by
 have e1:(oH mask 13 (i₀,zAx h)).2=0:=by
  rw[aCX]
  have:=aKJ h
  exact Nat.div_eq_of_lt (zCF this (by decide))
 have e2:(oH mask 13 (i₀,zAx h)).1<=mask:=by
  show(oH mask 12 (zBW mask i₀ (zAx h))).1<=mask
  have go:∀k (st:Nat×Nat),st.1<=mask->(oH mask k st).1<=mask:=by
   intro k;induction k with
   |zero=>intro st q;exact q
   |succ k ih=>
    intro st q;refine ih _ ?_
    show(st.1*5+1+st.2 / 32)%(mask+1)<=mask
    exact zC3 (zDf _ (zD2 _))
  refine go 12 _ ?_
  show(i₀*5+1+zAx h / 32)%(mask+1)<=mask
  exact zC3 (zDf _ (zD2 _))
 obtain⟨k,hk,ek⟩:=aJV hm e2 ht;refine⟨13+k,by lia,?_⟩;rw[aC0];have e3:oH mask 13 (i₀,zAx h)=((oH mask 13 (i₀,zAx h)).1,0):=by rw[<-e1]
 rw[e3,aCY];exact ek
theorem aAB(hi:i<=mask):i<=zB3 mask i/\zB3 mask i<=mask/\zB3 mask i<=i+9:=by
 unfold zB3;split<;>lia
section
variable{t:zCc}{n:Nat}{hashAt:Nat->Int}{h:Int}
abbrev aE3(t:zCc)(i pert:Nat):zDs:={j:=i,more:=zB3 t.mask i-i,i:=i,perturb:=pert,dummy:=none}
theorem aHh(fuel:Nat)(p:zDs):zBt t hashAt h (fuel+1) p=(match t.slot p.j with
  | .empty=>some (.empty p.j p.dummy)
  | .dummy=>zBt t hashAt h fuel (t.advance {p with dummy:=some p.j})
  | .live i=>if hashAt i==h then some (.candidate p.j i (t.advance p))else zBt t hashAt h fuel (t.advance p)):=rfl
theorem aHg(T:fV t n)(hh:∀i,i<n->hashAt i≠h):∀(m fuel:Nat) (p:zDs),p.more=m->p.dummy=none->
  (∃j,p.j<=j/\j<=p.j+m/\t.slot j= .empty/\zBt t hashAt h (fuel+m+1) p=some (.empty j none))\/
  (t.slot p.j≠.empty/\zBt t hashAt h (fuel+m+1) p=zBt t hashAt h fuel (aE3 t (zBW t.mask p.i p.perturb).1 (zBW t.mask p.i p.perturb).2))
 |0,fuel,p,hm,hd=>by
  rw[show fuel+0+1=fuel+1 from rfl,aHh];rcases aAi T p.j with e|⟨i,hi,e,_⟩
  ·rw[e]
   exact .inl ⟨p.j,zAO _,zAO _,e,by rw[hd]⟩
  ·rw[e]
   right;refine⟨by simp,?_⟩;dsimp only;rw[if_neg (by simpa using hh i hi)];congr 1;unfold zG6;rw[if_neg (by lia)];simp[aE3,hd]
 |m+1,fuel,p,hm,hd=>by
  rw[aHh];rcases aAi T p.j with e|⟨i,hi,e,_⟩
  ·rw[e]
   exact .inl ⟨p.j,zAO _,by lia,e,by rw[hd]⟩
  ·rw[e]
   dsimp only;rw[if_neg (by simpa using hh i hi)];have ha:t.advance p={p with j:=p.j+1,more:=p.more-1}:=by
    unfold zG6;rw[if_pos (by lia)]
   rw[ha];rcases aHg T hh m fuel {p with j:=p.j+1,more:=p.more-1} (by show p.more-1=m;lia) hd with ⟨j,q1,q2,q3,q4⟩|⟨q1,q2⟩
   ·exact .inl ⟨j,by show p.j<=j;have:p.j+1<=j:=q1;lia,by have:j<=p.j+1+m:=q2;lia,q3,q4⟩
   ·exact .inr ⟨by simp,q2⟩
theorem aFA(T:fV t n)(hh:∀i,i<n->hashAt i≠h):∀(N fuel i pert:Nat),i<=t.mask->10*N<=fuel->
  (∃j,j<=t.mask/\t.slot j= .empty/\zBt t hashAt h fuel (aE3 t i pert)=some (.empty j none))\/∀k,k<N->t.slot (oH t.mask k (i,pert)).1≠.empty
 |0,fuel,i,pert,hi,hf=>.inr λ k hk=>by lia
 |N+1,fuel,i,pert,hi,hf=>by
  obtain⟨r1,r2,r3⟩:=aAB hi;obtain⟨f',rfl⟩:∃f',fuel=f'+(zB3 t.mask i-i)+1:=⟨fuel-(zB3 t.mask i-i)-1,by lia⟩
  rcases aHg T hh (zB3 t.mask i-i) f' (aE3 t i pert) rfl rfl with ⟨j,q1,q2,q3,q4⟩|⟨q1,q2⟩
  ·exact .inl ⟨j,by have:j<=i+(zB3 t.mask i-i):=q2;lia,q3,q4⟩
  ·have hl:(zBW t.mask i pert).1<=t.mask:=zC3 (zDf _ (zD2 _))
   rcases aFA T hh N f' _ (zBW t.mask i pert).2 hl (by lia)with ⟨j,s1,s2,s3⟩|s
   ·exact .inl ⟨j,s1,s2,q2.trans s3⟩
   ·right
    intro k hk;cases k with
    |zero=>exact q1
    |succ k=>exact s k (by lia)
theorem fV.mask3(T:fV t n):t.mask=7\/t.mask=31\/t.mask=127:=by
 rcases T.msk with ⟨e,_⟩|⟨e,_⟩|⟨e,_⟩
 ·exact .inl e
 ·exact .inr (.inl e)
 ·exact .inr (.inr e)
theorem aD4(T:fV t n)(hh:∀i,i<n->hashAt i≠h):∃j,j<=t.mask/\t.slot j= .empty/\t.probe hashAt h (t.probeStart h)=some (.empty j none):=by
 have hs:zAx h%(t.mask+1)<=t.mask:=zC3 (zDf _ (zD2 _));rcases aFA T hh (t.mask+15) (10*zCr t.mask) _ (zAx h) hs (by unfold zCr;lia)with z|z
 ·exact z
 ·exfalso
  have hall:∀x∈zAc (t.mask+1),x∈t.place.toList:=by
   intro x hx;simp only[zBy]at hx;obtain⟨k,hk,ek⟩:=aCZ T.mask3 h (t:=x) (by lia) (zAx h%(t.mask+1))
   have:=z k hk
   rw[ek]at this;rcases aAi T x with e|⟨i,hi,_,e⟩
   ·exact absurd e this
   ·rw[<-e]
    have hi':i<t.place.size:=by rw[T.siz];exact hi
    rw[show t.place.getD i 0=t.place[i]by simp[zCZ,hi']];exact zF2 hi'
  have:=sub_len zH3 hall
  have h2:=T.few;rw[zCv,zA0,T.siz]at this;lia
end
theorem wU(xs:Array α)(p:Nat)(x d:α)(hp:p<=xs.size)(i:Nat):(zB7 xs p x).getD i d=if i<p then xs.getD i d else if i=p then x else xs.getD (i-1) d:=by
 have e:∀(ys:Array α) i,ys.getD i d=(ys.toList[i]?).getD d:=λ ys i=>by rw[zBo,zBE]
 rw[e,e,e,SetTable.toList_insertAt];have hl:p<=xs.toList.length:=by simpa using hp
 by_cases h1:i<p
 ·rw[if_pos h1,zC8 (by rw[zBQ];lia),zGn,if_pos h1]
 ·rw[if_neg h1,zDW (by rw[zBQ];lia),zBQ,Nat.min_eq_left hl]
  by_cases h2:i=p
  ·rw[if_pos h2,h2,zG1]
   rfl
  ·rw[if_neg h2,show i-p=(i-p-1)+1 by lia,zBR,List.getElem?_drop]
   congr 2;lia
theorem yU(xs:Array α)(p:Nat)(x:α):(zB7 xs p x).size=xs.size+1:=by
 rw[<-zA0,(zFW xs p x).length_eq,zE6];simp
theorem vM{t:zCc}(hf:t.fill=n):t.tooFull=decide (t.mask*3<=n*5):=by unfold SetTable.tooFull;rw[hf]
structure qy(t:zCc)(n:Nat):Prop where
 dum:t.dummies=#[]
 siz:t.place.size=n
 ris:Ris t.place
 top:∀i,i<n->t.place.getD i 0<=t.mask
 msk:t.mask=7/\n<=5\/t.mask=31/\n<=19\/t.mask=127/\n<77
 pla:t.plain=true
theorem qy.fill(h:qy t n):t.fill=n:=by unfold zHM;rw[h.dum,h.siz];rfl
theorem qy.fits(h:qy t n):t.fits n=true:=by
 unfold zHN;rw[h.fill,h.siz]
 have:=h.msk
 simp;lia
theorem aLS(T:fV t n)(h64:n<63)(hj:j<=t.mask)(he:t.slot j= .empty):qy (t.put j).1 (n+1)/\(t.put j).2=zAd t.place j/\(t.put j).2<=n/\(t.put j).1.mask=t.mask/\(t.put j).1.led=t.led:=by
 have hno:=aGS T he;obtain⟨b1,b2,b3⟩:=uL T.ris j;have hsz:=T.siz;have hg:=wU t.place (zAd t.place j) j 0 b1;refine⟨⟨?_,?_,?_,?_,?_,T.pla⟩,rfl,by rw[<-hsz];exact b1,rfl,rfl⟩
 ·show(if zDh t.dummies j then SetTable.eraseAt t.dummies (zAd t.dummies j)else t.dummies)=#[]
  rw[T.dum]
  have:zDh #[] j=false:=by unfold zDh;simp
  rw[this];rfl
 ·show(zB7 t.place _ j).size=n+1
  rw[yU,hsz]
 ·intro a b hab hb
  have hb':b<n+1:=by
   have:b<(zB7 t.place (zAd t.place j) j).size:=hb
   rw[yU,hsz]at this;exact this
  show(zB7 t.place (zAd t.place j) j).getD a 0<(zB7 t.place (zAd t.place j) j).getD b 0
  rw[hg,hg];by_cases a1:a<zAd t.place j
  ·rw[if_pos a1]
   by_cases c1:b<zAd t.place j
   ·rw[if_pos c1];exact T.ris a b hab (by lia)
   ·rw[if_neg c1]
    by_cases c2:b=zAd t.place j
    ·rw[if_pos c2];exact b2 a a1
    ·rw[if_neg c2]
     exact T.ris a (b-1) (by lia) (by lia)
  ·rw[if_neg a1,if_neg (show¬b<zAd t.place j by lia),if_neg (show¬b=zAd t.place j by lia)]
   by_cases a2:a=zAd t.place j
   ·rw[if_pos a2]
    have q1:=b3 (b-1) (by lia) (by lia);have q2:=hno (b-1) (by lia);lia
   ·rw[if_neg a2]
    exact T.ris (a-1) (b-1) (by lia) (by lia)
 ·intro i hi
  show(zB7 t.place (zAd t.place j) j).getD i 0<=t.mask
  rw[hg];split
  ·exact T.top i (by lia)
  ·split
   ·exact hj
   ·exact T.top (i-1) (by lia)
 ·have:=T.msk
  show t.mask=7/\n+1<=5\/t.mask=31/\n+1<=19\/t.mask=127/\n+1<77;lia
theorem qy.still{t:zCc}(h:qy t n)(hf:t.tooFull=false):fV t n:=by
 rw[vM h.fill]at hf;simp only[decide_eq_false_iff_not]at hf;refine⟨h.dum,h.siz,h.ris,h.top,?_,h.pla⟩;rcases h.msk with ⟨e,l⟩|⟨e,l⟩|⟨e,l⟩<;>rw[e]at hf
 ·exact .inl ⟨e,by lia⟩
 ·exact .inr (.inl ⟨e,by lia⟩)
 ·exact .inr (.inr ⟨e,by lia⟩)
theorem qy.full{t:zCc}(h:qy t n)(h64:n<=63)(hf:t.tooFull=true):n=5\/n=19:=by
 rw[vM h.fill]at hf;simp only[decide_eq_true_eq]at hf
 have:=h.msk
 lia
def heldBy(owner:Array (Option Nat)):List Nat:=owner.toList.filterMap id
theorem yZ:∀(l:List (Option Nat)) (j x:Nat),l[j]? =some none->((l.set j (some x)).filterMap id).Perm (x::l.filterMap id)
 |[],j,x,h=>by simp at h
 |a::l,0,x,h=>by
  simp at h;subst h;exact zBN _
 |none::l,j+1,x,h=>by
  have ih:=yZ l j x (by simpa using h);simpa using ih
 |some a::l,j+1,x,h=>by
  have ih:=yZ l j x (by simpa using h)
  have:(((some a::l).set (j+1) (some x)).filterMap id).Perm (a::x::l.filterMap id):=by
   simpa using ih.cons a
  exact this.trans (zDL _ _ _)
theorem aAR:∀(l:List (Option Nat)),(∀j,j<l.length->∃x,l[j]? =some (some x))->(l.filterMap id).length=l.length
 |[],_=>rfl
 |a::l,h=>by
  obtain⟨x,e⟩:=h 0 (by simp);have ex:a=some x:=by simpa using e
  subst ex;have ih:=aAR l λ j hj=>by simpa using h (j+1) (by simpa using hj)
  simp[ih]
theorem aFB(ho:owner.size=mask+1):∀(N i pert:Nat),i<=mask->
  (∃j,owner.toList[j]? =some none/\zBw mask owner N i pert=some j)\/∀k,k<N->∃x,owner.toList[(oH mask k (i,pert)).1]? =some (some x)
 |0,i,pert,hi=>.inr λ k hk=>by lia
 |N+1,i,pert,hi=>by
  obtain⟨r1,r2,r3⟩:=aAB hi;have hone:zBw mask owner (N+1) i pert=(match (zAc (zB3 mask i+1-i)).find? λ k=>(owner.getD (i+k) (some 0)).isNone with
   |some k=>some (i+k)
   |none=>zBw mask owner N (zBW mask i pert).1 (zBW mask i pert).2):=rfl
  rw[hone];cases hf:(zAc (zB3 mask i+1-i)).find? λ k=>(owner.getD (i+k) (some 0)).isNone with
  |some k=>
   left;have h1:=List.mem_of_find?_eq_some hf;have h2:=List.find?_some hf;simp only[zBy]at h1;have hlt:i+k<owner.size:=by lia
   refine⟨i+k,?_,rfl⟩;have e:owner.getD (i+k) (some 0)=owner[i+k]:=by simp[zCZ,hlt]
   rw[e]at h2;rw[zBE,zC0];exact⟨hlt,by simpa using h2⟩
  |none=>
   have h0:=List.find?_eq_none.mp hf 0 (by simp;lia);have hlt:i<owner.size:=by lia
   have e:owner.getD (i+0) (some 0)=owner[i]:=by simp[zCZ,hlt]
   rw[e]at h0;have hl:(zBW mask i pert).1<=mask:=zC3 (zDf _ (zD2 _));rcases aFB ho N _ (zBW mask i pert).2 hl with ⟨j,s1,s2⟩|s
   ·exact .inl ⟨j,s1,s2⟩
   ·right
    intro k hk;cases k with
    |zero=>
     show∃x,owner.toList[i]? =some (some x)
     rw[zBE];cases q:owner[i]with
     |none=>rw[q]at h0;simp at h0
     |some x=>exact⟨x,by rw[zC0];exact⟨hlt,q⟩⟩
    |succ k=>exact s k (by lia)
theorem aFh(hm:mask=7\/mask=31\/mask=127)(ho:owner.size=mask+1)(hfew:(heldBy owner).length<mask+1)(h:Int):
  ∃j,owner.toList[j]? =some none/\zBw mask owner (zCr mask) (zAx h%(mask+1)) (zAx h)=some j:=by
 rcases aFB ho (zCr mask) _ (zAx h) (zC3 (zDf (zAx h) (zD2 mask)))with z|z
 ·exact z
 ·exfalso
  have:=aAR owner.toList λ j hj=>by
   rw[zA0,ho]at hj;obtain⟨k,hk,ek⟩:=aCZ hm h (t:=j) (by lia) (zAx h%(mask+1));obtain⟨x,e⟩:=z k (by unfold zCr;lia);rw[ek]at e;exact⟨x,e⟩
  unfold heldBy at hfew;rw[this,zA0]at hfew;lia
def wR(mask:Nat)(acc:Option (Array (Option Nat)×Nat))(h:Int):Option (Array (Option Nat)×Nat):=do
 let(owner,k) <-acc
 let j <-zBw mask owner (zCr mask) (zAx h%(mask+1)) (zAx h)
 pure (owner.setIfInBounds j (some k),k+1)
theorem aC4(hm:mask=7\/mask=31\/mask=127):∀(hs:List Int) (owner:Array (Option Nat)) (k:Nat),owner.size=mask+1->(heldBy owner).Perm (zAc k)->k+hs.length<=mask->
  ∃owner',hs.foldl (wR mask) (some (owner,k))=some (owner',k+hs.length)/\owner'.size=mask+1/\(heldBy owner').Perm (zAc (k+hs.length))
 |[],owner,k,ho,hp,hl=>⟨owner,rfl,ho,hp⟩
 |h::hs,owner,k,ho,hp,hl=>by
  rw[zA8]at hl;obtain⟨j,e1,e2⟩:=aFh hm ho (by rw[hp.length_eq,zCv];lia) h;have hst:wR mask (some (owner,k)) h=some (owner.setIfInBounds j (some k),k+1):=by
   unfold wR;simp[e2]
  rw[zBp,hst];obtain⟨o',f1,f2,f3⟩:=aC4 hm hs (owner.setIfInBounds j (some k)) (k+1) (by simpa using ho) (by
   unfold heldBy;rw[Array.toList_setIfInBounds];refine(yZ owner.toList j k e1).trans ?_;rw[zFM];exact(List.Perm.cons k hp).trans (List.perm_append_singleton k _).symm) (by lia)
  refine⟨o',?_,f2,?_⟩
  ·rw[f1,zA8,show k+1+hs.length=k+(hs.length+1)by lia]
  ·rw[zA8,show k+(hs.length+1)=k+1+hs.length by lia]
   exact f3
theorem aHe(m:Nat):heldBy (zEz m none)=[]:=by
 unfold heldBy;rw[Array.toList_replicate];induction m with
 |zero=>rfl
 |succ m ih=>rw[zBd];simpa using ih
theorem aC5(hm:mask=7\/mask=31\/mask=127)(hs:Array Int)(hl:hs.size<=mask):∃owner,zGT mask hs=some owner/\owner.size=mask+1/\(heldBy owner).Perm (zAc hs.size):=by
 obtain⟨o',f1,f2,f3⟩:=aC4 hm hs.toList (zEz (mask+1) none) 0 (by simp) (by rw[aHe];exact zBN _) (by simpa using hl);refine⟨o',?_,f2,by simpa using f3⟩;have e:zGT mask hs=(hs.foldl (wR mask) (some (zEz (mask+1) none,0))).map (·.1):=rfl;rw[e,<-Array.foldl_toList,f1];rfl
def mL(owner:Array (Option Nat))(m:Nat):List (Nat×Nat):=(zAc m).filterMap λ j=>(owner.getD j none).map (j,·)
theorem aCT:∀(l:List (Option Nat)) (b:Nat) (f:Nat->Option Nat),(∀i,i<l.length->f (b+i)=(l[i]?).getD none)->
  ((zGd b l.length).filterMap λ j=>(f j).map (j,·)).map (·.2)=l.filterMap id
 |[],_,_,_=>rfl
 |a::l,b,f,h=>by
  have h0:=h 0 (by simp);simp at h0;have ih:=aCT l (b+1) f λ i hi=>by
   have:=h (i+1) (by simpa using hi)
   rw[show b+(i+1)=b+1+i by lia]at this;simpa using this
  rw[zA8,zH4,zBZ,h0];cases a with
  |none=>simpa using ih
  |some x=>simpa using ih
theorem aDk(owner:Array (Option Nat)):(mL owner owner.size).map (·.2)=heldBy owner:=by
 have:=aCT owner.toList 0 (λ j=>owner.getD j none) λ i hi=>by
  rw[zG2,zBo,zBE]
 unfold mL heldBy;rw[zGZ,<-this,zA0]
theorem aCU(f:Nat->Option Nat):∀(m b:Nat),(((zGd b m).filterMap λ j=>(f j).map (j,·)).map (·.1)).Pairwise (·< ·)/\∀x∈((zGd b m).filterMap λ j=>(f j).map (j,·)).map (·.1),b<=x/\x<b+m
 |0,b=>⟨.nil,λ x hx=>by simp at hx⟩
 |m+1,b=>by
  obtain⟨ih1,ih2⟩:=aCU f m (b+1);rw[zH4,zBZ];cases hf:f b with
  |none=>
   simp only[zHJ];exact⟨ih1,λ x hx=>by have:=ih2 x hx;lia⟩
  |some y=>
   simp only[zCT,zAH];refine⟨zAz.mpr ⟨λ x hx=>by have:=ih2 x hx;lia,ih1⟩,λ x hx=>?_⟩;rcases zAL.mp hx with e|hx
   ·lia
   ·have:=ih2 x hx
    lia
theorem aLL{l:List Nat}(h:l.Pairwise (·< ·)):Ris l.toArray:=by
 intro i j hij hj;have hj':j<l.length:=by simpa using hj
 have e:∀k,k<l.length->l.toArray.getD k 0=l[k]!:=λ k hk=>by simp[zCZ,hk]
 have:=zD1.mp h i j (by lia) hj' hij
 simp[zCZ,hj',show i<l.length by lia];exact this
theorem aGb{t:zCc}(hp:t.plain=true)(hn:n=5\/n=19)(hs:Array Int)(hl:hs.size=n):
  ∃t' order,t.relaid hs (zDt n)=some (t',order)/\fV t' n/\t'.led=t.led/\order.toList.Perm (zAc n):=by
 have hm:∃mask,zFy (zDt n)-1=mask/\(mask=31/\n=5\/mask=127/\n=19):=by
  rcases hn with e|e<;>subst e
  ·exact⟨31,by decide,.inl ⟨rfl,rfl⟩⟩
  ·exact⟨127,by decide,.inr ⟨rfl,rfl⟩⟩
 obtain⟨mask,em,hmn⟩:=hm;have hm3:mask=7\/mask=31\/mask=127:=by lia
 obtain⟨owner,o1,o2,o3⟩:=aC5 hm3 hs (by lia);have hsnd:=aDk owner;obtain⟨r1,r2⟩:=aCU (λ j=>owner.getD j none) (mask+1) 0;rw[<-zGZ]at r1 r2;have hlen:((mL owner (mask+1)).map (·.1)).length=n:=by
  rw[zAF,<-zAF (f:=(·.2)),<-o2,hsnd,o3.length_eq,zCv,hl]
 refine⟨{mask:=mask,place:=((mL owner (mask+1)).map (·.1)).toArray,dummies:=#[],finger:=t.finger,led:=t.led,moves:=t.movedTo mask,plain:=t.plain},((mL owner (mask+1)).map (·.2)).toArray,?_,⟨rfl,?_,aLL r1,?_,?_,hp⟩,rfl,?_⟩
 ·unfold SetTable.relaid SetTable.laid
  rw[em,o1];rfl
 ·simpa using hlen
 ·intro i hi
  have hi':i<((mL owner (mask+1)).map (·.1)).length:=by rw[hlen];exact hi
  show((mL owner (mask+1)).map (·.1)).toArray.getD i 0<=mask
  have:((mL owner (mask+1)).map (·.1)).toArray.getD i 0=((mL owner (mask+1)).map (·.1))[i]:=by
   rw[zBo,List.getElem?_toArray,zAC hi'];rfl
  rw[this]
  have:=r2 _ (zCb hi')
  lia
 ·show mask=7/\n<5\/mask=31/\n<19\/mask=127/\n<77
  lia
 ·show((mL owner (mask+1)).map (·.2)).Perm (zAc n)
  rw[<-o2,hsnd,<-hl];exact o3
abbrev bW(es:Array (Int×Value))(ep:Nat)(t:zCc):Obj:={cls:=.type "set",dict:=none,data:=.set es ep t}
def SetT(h:Heap)(a:Addr)(es:Array (Int×Value))(t:zCc):Prop:=∃ep,h.get? a=some (bW es ep t)
structure TupAt(h:Heap)(x:Addr)(ns:List Int):Prop where
 ex:∃o xs k,h.get? x=some o/\o.cls= .type "tuple"/\o.data= .seq xs k/\zBO xs.toList ns
theorem qg:∀{vs:List Value} {ns:List Int},zBO vs ns->ItemsAre (zEt prog w) ns vs
 |_,_,.nil=>.nil
 |_,_,.cons n t r=>.cons (intKind_is _ _ n t) (qg r)
section
variable{prog:zA7}{w:World}{A:zAk}{E:Value->zAG->Prop}{s:zAG}
theorem m9{fuel:Nat}:∀{vs:List Value} {ns:List Int},zBO vs ns->∀v∈vs,zGD fuel v=pure true
 |_,_,.nil,v,hv=>by simp at hv
 |_,_,.cons n t r,v,hv=>by
  rcases zAL.mp hv with rfl|hv
  ·cases fuel<;>rfl
  ·exact m9 r v hv
theorem wG{x:Addr}(hx:TupAt s.heap x ns)(h:Q true s):wpAny (model prog w) A (zGD 8 (.ref x)) Q E s:=by
 obtain⟨o,xs,k,ho,hc,hd,hi⟩:=hx.ex;have hT:s.TypeIs (.ref x) "tuple":=⟨o,ho,hc⟩;unfold zGD;refine zAB (zEX hT PySem.F.slot_tuple_hash.lookup ?_);dsimp only;refine zAB (zEk ho hd ?_);refine zAB ?_;show wpAny (model prog w) A (forIn xs _ _) _ _ _;rw[<-Array.forIn_toList];refine zBH (zFj _ (λ rest b s'=>b.1=none/\s'=s/\∀v∈rest,zGD 7 v=pure true) (λ b s'=>b.1=none/\s'=s) ?_ ?_ _ _ ⟨rfl,rfl,m9 hi⟩) ?_ λ _ _ e=>e
 ·rintro v rest b s' ⟨hb,rfl,hr⟩
  rw[hr v zAQ];refine zAB (zAE ?_);simp only[zFn,zAe,if_false];exact zAE ⟨rfl,rfl,λ u hu=>hr u (zAJ _ hu)⟩
 ·rintro b s' ⟨hb,rfl,_⟩
  exact⟨hb,rfl⟩
 ·rintro⟨b1,b2⟩ s' ⟨hb,rfl⟩
  dsimp only at hb;subst hb;exact zAE h
theorem aGO(ho:s.heap.get? a=some (bW es ep t))(hz:es'.size<=63)
  (h:(s.heap.update a (zH8 es' t')).get? a=some (bW es' (ep+1) t')->Q () {s with heap:=s.heap.update a (zH8 es' t')}):wpAny (model prog w) A (storeSet a es' t') Q E s:=by
 refine wpAny_storeSet_of ho rfl (h ?_) (by rw[zB9];lia)
 have:=zDx (zH8 es' t') ho (by rw[putSet_of es' t' rfl];rfl)
 rw[putSet_of es' t' rfl]at this;exact this
theorem xT(ho:s.heap.get? a=some (bW es ep t))(T:fV t es.size)(hne:∀e∈es.toList,e.1≠h)
  (q:∀j,j<=t.mask->t.slot j= .empty->Q (.free j false) s):wpAny (model prog w) A (setSearch a x h true) Q E s:=by
 unfold setSearch;unfold setSearchFrom;refine zAB (zBh ho rfl T.fits ?_);dsimp only;have hg:t.gaveWay=false:=by
  unfold SetTable.gaveWay;rcases T.mask3 with e|e|e<;>rw[e]<;>decide
 rw[hg];simp only[zAe,if_false];obtain⟨j,j1,j2,j3⟩:=aD4 (hashAt:=λ i=>(es[i]?.map (·.1)).getD 0) T (h:=h) λ i hi=>by
  have e:es[i]? =some es[i]:=zBe hi;rw[e];exact hne _ (zF2 hi)
 have j3':t.probe (λ i=>(es[i]?.map (·.1)).getD 0) h ((none:Option zDs).getD (t.probeStart h))=some (.empty j none):=j3;split
 ·rename_i met heq
  have e:some met=some (.empty j none):=heq.symm.trans j3';cases e;exact zAE (q j j1 j2)
 ·rename_i hno
  exact(hno _ j3').elim
theorem aBr(ho:s.heap.get? a=some (bW es ep t))(T:qy t n)(hn:es.size=n)(h5:n=5\/n=19)
  (q:∀h' es' t',zDX a s.heap h'->SetT h' a es' t'->fV t' n->t'.led=t.led->es'.toList.Perm es.toList->Q () {s with heap:=h'}):wpAny (model prog w) A (setRelay a (zDt n)) Q E s:=by
 have hsz:zFy (zDt n)<=zAT:=by
  rw[zB9];rcases h5 with e|e<;>rw[e]<;>decide
 obtain⟨t',order,r1,r2,r3,r4⟩:=aGb T.pla h5 (es.map (·.1)) (by rw[Array.size_map];exact hn);have hperm:(order.filterMap (es[·]?)).toList.Perm es.toList:=by
  rw[Array.toList_filterMap];refine(r4.filterMap _).trans ?_;rw[<-hn,filterMap_getElem?_range]
 have hes:(order.filterMap (es[·]?)).size=es.size:=by rw[<-zA0,hperm.length_eq,zA0]
 unfold setRelay;refine zAB (zBh ho rfl (by rw[hn];exact T.fits) ?_);dsimp only;rw[if_neg (by lia),r1];refine zAB ?_;refine zEu (a:=(order.filterMap (es[·]?),t')) ?_ ?_
 ·show(if ((order.filterMap (es[·]?)).size !=es.size)=true then _ else pure (order.filterMap (es[·]?),t'))=_
  rw[hes];simp only[bne_self_eq_false,zAe,if_false]
 ·exact aGO ho (by rw[hes,hn];lia) λ e=>q _ _ t' (zB4 ..) ⟨_,e⟩ r2 r3 hperm
theorem SetT.keep(S:SetT h a es t)(k:∀o,h.get? a=some o->h'.get? a=some o):SetT h' a es t:=let⟨ep,e⟩:=S;⟨ep,k _ e⟩
theorem aDL(hu:A.units<cLine)(S:SetT s.heap a es t)(T:fV t es.size)(hx:TupAt s.heap x ns)(h64:es.size<63)(hne:∀e∈es.toList,e.1≠hsh ns)
  (q:∀h' tk es' t',zDX a s.heap h'->s.toks<=tk->SetT h' a es' t'->fV t' (es.size+1)->t'.led=t.led->es'.toList.Perm (es.toList++[(hsh ns,.ref x)])->Q true {s with heap:=h',toks:=tk}):wpAny (model prog w) A (setAdd a (.ref x)) Q E s:=by
 obtain⟨ep,ho⟩:=S;obtain⟨o,xs,k,xo,xc,xd,xi⟩:=hx.ex;unfold setAdd;refine zBj (zAB ?_);refine wpAny_pyHash_tuple (knd:=zEt prog w) (ks:=ns) hu ⟨o,xs,k,xo,xc,xd,qg xi⟩ ?_;have eh:tupleKeyHash (zEt prog w) ns=hsh ns:=rfl;rw[eh];unfold setAddHashed;refine zBj ?_;unfold setAddHashedIn;refine zAB (zBh ho rfl T.fits ?_);dsimp only;have hb:byScan (.ref x) es=false:=rfl;rw[hb];simp only[zAe,if_false];refine zAB (xT ho T hne λ j j1 j2=>?_);dsimp only;refine zAB (zBh ho rfl T.fits ?_);dsimp only;obtain⟨P,p1,p2,p3,p4⟩:=aLS T h64 j1 j2;have hes:(zB7 es (t.put j).2 (hsh ns,zBG x)).size=es.size+1:=yU _ _ _;have hperm:(zB7 es (t.put j).2 (hsh ns,zBG x)).toList.Perm (es.toList++[(hsh ns,zBG x)]):=by
  have:=zFW es (t.put j).2 (hsh ns,zBG x)
  rwa [zE6]at this
 rw[P.pla];simp only[if_true];refine zAB (wG (ns:=ns) ⟨o,xs,k,xo,xc,xd,xi⟩ ?_);simp only[if_true];refine zAB (aGO ho (by rw[hes];lia) λ e1=>?_);simp only[zHm,zFo];cases hf:(t.put j).1.tooFull with
 |true=>
  simp only[if_true];have h5:=P.full (by lia) hf;refine zAB (aBr (s:={s with heap:=_,toks:=_}) e1 P hes h5 λ h' es' t' b1 b2 b3 b4 b5=>?_);exact zAE (q h' _ es' t' ((zB4 s.heap a _).trans b1) (zHf _ _) b2 b3 (b4.trans p4) (b5.trans hperm))
 |false=>
  simp only[zAe,if_false];exact zAE (q _ _ _ _ (zB4 ..) (zHf _ _) ⟨_,e1⟩ (P.still hf) p4 hperm)
end
def prs(vs:List Value)(nss:List (List Int)):List (Int×Value):=(vs.zip nss).map λ p=>(hsh p.2,p.1)
theorem wN(h:vs.length=nss.length):(prs vs nss).length=vs.length:=by
 unfold prs;rw[zAF,zFL,<-h,zEE]
theorem aLY{i:Nat}(h1:vs[i]? =some v)(h2:nss[i]? =some ns):(prs vs nss)[i]? =some (hsh ns,v):=by
 unfold prs;rw[zAU,(List.getElem?_zip_eq_some (z:=(v,ns))).mpr ⟨h1,h2⟩];rfl
theorem aJA(h:vs.length=nss.length):(prs vs nss).map (·.1)=nss.map hsh:=by
 unfold prs;rw[zAw]
 have:(vs.zip nss).map zGs=nss:=zEy (by lia)
 conv=>rhs;rw[<-this]
 rw[zAw];rfl
theorem bw.tup{i:Nat}(t:bw h vs nss)(hv:vs[i]? =some v):∃x ns,v= .ref x/\nss[i]? =some ns/\TupAt h x ns:=by
 have hi:i<vs.length:=(zAI.mp hv).1;obtain⟨x,o,xs,k,e1,e2,e3,e4,e5,_⟩:=t.at hi;have hi2:i<nss.length:=by rw[<-t.len];exact hi
 refine⟨x,nss.getD i [],?_,by simp[hi2],⟨o,xs,k,e2,e3,e4,e5⟩⟩;rw[<-e1];simp[hv]
section
variable{prog:zA7}{w:World}{A:zAk}{R:zDr->zAG->Prop}{I:Addr}{fp wr:List Addr}{G:Array zFr->Array zFr->Prop}{n:Nat}{St:Nat->zAG->Prop}{vs:List Value}{nss:List (List Int)}
theorem aFR(W:WalksS prog w A.in1 I fp wr G n (λ i v=>vs.toArray[i]? =some v) St)(S:Addr)(hSf:S∉fp)(hn:n=vs.length)(hu:A.in1.units<cLine)(h64:n<64)(hnd:(nss.map hsh).Nodup)(hin:∀x,.ref x∈vs->x∉wr)(led:Bool):
  ∀(k i:Nat) (s:zAG) (es:Array (Int×Value)) (t:zCc),n-i=k->i<=n->St i s->bw s.heap vs nss->SetT s.heap S es t->fV t i->t.led=led->es.toList.Perm ((prs vs nss).take i)->
   (∀s' es' t',Moved (S::wr) G s s'->SetT s'.heap S es' t'->fV t' n->t'.led=led->es'.toList.Perm (prs vs nss)->R (.ok (.ret .none)) s')->
   zBm (model prog w) A (.builtin "set.update.loop" ⟨[.ref S,.ref I],[]⟩) R s:=by
 have hSw:S∉wr:=λ h=>hSf (W.sub _ h)
 have hsb:∀b∈wr,b∈S::wr:=λ b hb=>zAJ _ hb
 intro k;induction k with
 |zero=>
  intro i s es t hk hi hst ht hS hT hl hp hR;have hin':i=n:=by lia
  subst hin';refine zBT zD5 ?_;rw[zBA zCN _];show wpAny _ A.in1 (zEh (.ref I)>>=_) _ _ s;refine zAB (W.done s _ _ hst λ s' hm=>zAE (hR s' es t (hm.mono hsb) (hS.keep λ o e=>hm.heap S _ hSw e) hT hl ?_))
  have:(prs vs nss).length<=i:=by rw[wN ht.len,hn];exact zAO _
  rwa [zFv this]at hp
 |succ k ih=>
  intro i s es t hk hi hst ht hS hT hl hp hR;have hlt:i<n:=by lia
  refine zBT zD5 ?_;rw[zBA zCN _];show wpAny _ A.in1 (zEh (.ref I)>>=_) _ _ s;refine zAB (W.item i s _ _ hlt hst λ v s' hP' hst' hm=>?_);have hP:vs[i]? =some v:=by simpa using hP'
  obtain⟨x,ns,rfl,hns,hx⟩:=ht.tup hP;have hxw:∀y,.ref y∈vs->y∉wr:=hin
  have ht':bw s'.heap vs nss:=by
   have go:∀{us:List Value} {ms:List (List Int)},(∀y,.ref y∈us->y∉wr)->bw s.heap us ms->bw s'.heap us ms:=by
    intro us ms hy z;induction z with
    |nil=>exact .nil
    |cons ho hc hd hi hne r ih2=>exact .cons (hm.heap _ _ (hy _ zAQ) ho) hc hd hi hne (ih2 λ y m=>hy y (zAJ _ m))
   exact go hin ht
  have hS':SetT s'.heap S es t:=hS.keep λ o e=>hm.heap S _ hSw e
  have hx':TupAt s'.heap x ns:=by
   obtain⟨y,ms,e1,e2,e3⟩:=ht'.tup hP;cases e1;rw[hns]at e2;cases e2;exact e3
  have hsz:es.size=i:=by
   rw[<-zA0,hp.length_eq,zBQ,wN ht.len];lia
  have hT':fV t es.size:=by rw[hsz];exact hT
  have hat:=aLY hP hns;have hnew:∀e∈es.toList,e.1≠hsh ns:=by
   intro e he q;have h1:e∈(prs vs nss).take i:=hp.mem_iff.mp he;obtain⟨j,hj⟩:=List.getElem?_of_mem h1;have hj':j<i:=by
    have:=(zAI.mp hj).1
    rw[zBQ]at this;lia
   rw[zGn,if_pos hj']at hj;have f1:(nss.map hsh)[j]? =some (hsh ns):=by rw[<-aJA ht.len,zAU,hj,<-q];rfl
   have f2:(nss.map hsh)[i]? =some (hsh ns):=by rw[zAU,hns];rfl
   have hlj:j<(nss.map hsh).length:=(zAI.mp f1).1
   have:=(zCu hlj hnd).mp (f1.trans f2.symm)
   lia
  show wpAny _ A.in1 (zEs [zBG x] (setAdd S (.ref x))>>=_) _ _ s';refine zAB (zBj (aDL hu hS' hT' hx' (by lia) hnew λ h' tk es' t' c1 c2 c3 c4 c5 c6=>?_));have kp:∀b o,b≠S->s'.heap.get? b=some o->h'.get? b=some o:=λ b o hb e=>by rw[c1.2 b hb];exact e
  have ht2:bw h' vs nss:=ht'.mono λ y o e c=>kp y o (λ z=>by
   subst z;obtain⟨ep,q⟩:=hS';rw[q]at e;cases e;exact absurd c (show¬(zCB "set"=zCB "tuple")by decide)) e
  refine zAE ⟨zFG zCN _,ih (i+1) _ es' t' (by lia) hlt (W.frame _ s' _ _ hst' c2 λ b hb o e=>kp b o (λ z=>hSf (z▸hb)) e) ht2 c3 (by rw[<-hsz];exact c4) (c5.trans hl) ?_ λ s'' es'' t'' hm'' hS'' hT'' hl'' hp''=>?_⟩
  ·refine c6.trans ?_
   rw[zHG,hat];exact hp.append_right _
  ·exact hR s'' es'' t'' (Moved.trans W.gtrans ((hm.mono hsb).then_heap c2 λ b o hb e=>kp b o (λ z=>hb (z▸zAQ)) e) hm'') hS'' hT'' hl'' hp''
end
end VL
namespace PySem
section
variable{prog:zA7}{w:World}{A:zAk}{E:Value->zAG->Prop}{s:zAG}
theorem aGX(a:Value)(h:Q₁ (.ref s.heap.objs.size) {s with heap:=s.heap.push (VL.bW #[] 0 (.fresh 0 0 (!w.params.followText "set-order")))}):
  zBm (model prog w) A (.call (.builtin "set.__new__") ⟨[.type "set",a],[]⟩) (wants Q₁ E) s:=by
 refine zGA ?_;show wpAny _ A.in1 (zFg "set.__new__" ⟨[.type "set",a],[]⟩>>=λ _=>again (.builtin "set.__new__" ⟨[.type "set",a],[]⟩)) _ _ s;refine zAB (zEu (F.newCall_set_1 a) (zAE ⟨zFG zFa _,zBT PySem.F.entry_set_new ?_⟩));rw[zBA zFa _];unfold zCO.«set.__new__» zHU;have hsub:=sub_set_self;obtain⟨hp,g,d,tk,os⟩:=s;dsimp only;wp_walk;refine zCp (zAE ?_);dsimp only;simp only[newObj];exact zAB (wpAny_alloc (zAE (zAE h)))
set_option maxHeartbeats 3200000 in
theorem pM{l:Addr}{T:String}{oI:Obj}{Φ:Heap->Prop}{Q:Value->zAG->Prop}(hty:s.TypeIs (.ref l) T)(hsls:isSubtype (.type T) (.type "set")=pure false)(hslf:isSubtype (.type T) (.type "frozenset")=pure false)(hne:(zCB T==zCB "dict")=false)
  (hit:∀(h₁:Heap) (A₁:zAk) (E₁:Value->zAG->Prop) (Q₁:Value->zAG->Prop),(∀b o,s.heap.get? b=some o->h₁.get? b=some o)->Q₁ (.ref h₁.objs.size) {s with heap:=h₁.push oI}->wpAny (model prog w) A₁ (zGi (.ref l)) Q₁ E₁ {s with heap:=h₁})
  (hrun:∀R:zDr->zAG->Prop,(∀h' tk,Φ h'->(∀b o,s.heap.get? b=some o->h'.get? b=some o)->R (.ok (.ret .none)) {s with heap:=h',toks:=tk})->
   zBm (model prog w) A.in1.in1 (.builtin "set.update.loop" ⟨[.ref s.heap.objs.size,.ref (s.heap.push (VL.bW #[] 0 (.fresh 0 0 (!w.params.followText "set-order")))).objs.size],[]⟩) R {s with heap:=(s.heap.push (VL.bW #[] 0 (.fresh 0 0 (!w.params.followText "set-order")))).push oI})
  (h:∀h' tk,Φ h'->(∀b o,s.heap.get? b=some o->h'.get? b=some o)->Q (.ref s.heap.objs.size) {s with heap:=h',toks:=tk}):
  wpAny (model prog w) A (call (.type "set") [.ref l]) Q E s:=by
 obtain⟨c,tl,hmro⟩:=zCm.mro;have hmade:=zCm.made;have hsub:=zCm.sub
 refine wpAny_call (zGA ?_);show wpAny _ _ (callAny (.type "set") _) _ _ _;refine zAE ⟨zCl _ (by decide+kernel),zBT PySem.F.entry_type_call ?_⟩;rw[Around.under_plain (weight_type_call_type "set" [.ref l] []) rfl];have h1:=zCm.notType;have h2:=zCm.canCreate
 have hct:=F.typeCall_set_1 (.ref l);repeat (any_goals (first|assumption|wp_step))
 generalize hled:(!w.params.followText "set-order")=led at hrun;refine zCs (aGX (.ref l) (E:=E) (Q₁:=λ obj s₁=>obj= .ref s.heap.objs.size/\s₁={s with heap:=s.heap.push (VL.bW #[] 0 (.fresh 0 0 led))}) ⟨rfl,by rw[hled]⟩) λ r s₁ hr=>?_
 cases r with
 |error e=>exact hr
 |ok fl=>
  cases fl with
  |ret obj=>
   obtain⟨rfl,rfl⟩:=hr;have hS:(s.heap.push (VL.bW #[] 0 (.fresh 0 0 led))).get? s.heap.objs.size=some (VL.bW #[] 0 (.fresh 0 0 led)):=zAK _ rfl;have hT:zDc {s with heap:=s.heap.push (VL.bW #[] 0 (.fresh 0 0 led))} (.ref s.heap.objs.size) "set":=⟨_,hS,rfl⟩;have hli:=zCm.init.lookup;have hbi:=zCm.init.bind (.ref s.heap.objs.size)
   repeat (any_goals (first|assumption|wp_step))
   refine zCs (zE9 (R:=wants (λ r s₂=>r= .none/\∃h' tk,s₂={s with heap:=h',toks:=tk}/\Φ h'/\(∀b o,s.heap.get? b=some o->h'.get? b=some o)) E) zCm.init.plain F.entry_set_init (check_set_init_1 hT ?_)) λ r₂ s₂ hr₂=>?_
   ·obtain⟨ol,hol,hcl⟩:=hty
    obtain⟨ocls,odict,odata,oslots⟩:=ol;simp only at hcl;subst hcl;have hol':(s.heap.push (VL.bW #[] 0 (.fresh 0 0 led))).get? l=some {cls:=.type T,dict:=odict,data:=odata,slots:=oslots}:=zAD _ hol;unfold zCO.«set.__init__» noKeywords zHX;generalize hPI:zGi=PI;wp_walk;subst hPI;refine hit _ _ _ _ (λ b o e=>zAD _ e) (zAB (zEj (hrun _ λ h' tk g1 g2=>?_)));show wpAny _ _ _ _ _ _;refine zAE ?_;show wpAny _ _ (ret zBI) _ _ _;exact zAE ⟨rfl,h',tk,rfl,g1,g2⟩
   ·cases r₂ with
    |error e=>exact hr₂
    |ok fl₂=>
     cases fl₂ with
     |ret r=>
      obtain⟨rfl,h',tk,rfl,g1,g2⟩:=hr₂
      repeat (any_goals (first|assumption|wp_step))
      exact h _ _ g1 g2
     |_=>exact hr₂.elim
  |_=>exact hr.elim
theorem aFl(hh:A.handled=none)(hu:A.units+8<cLine)(hl:s.heap.IsList l vs.toArray)(ht:VL.bw s.heap vs nss)(h64:vs.length<64)(hnd:(nss.map VL.hsh).Nodup)
  (h:∀h' tk es t,VL.SetT h' s.heap.objs.size es t->VL.fV t vs.length->t.led= !w.params.followText "set-order"->es.toList.Perm (VL.prs vs nss)->(∀b o,s.heap.get? b=some o->h'.get? b=some o)->Q (.ref s.heap.objs.size) {s with heap:=h',toks:=tk}):
  wpAny (model prog w) A (call (.type "set") [.ref l]) Q E s:=by
 obtain⟨ol,hol,hcl,nl,hdl⟩:=hl;have hlS:l<s.heap.objs.size:=zAP hol;have hl0:s.heap.IsList l vs.toArray:=⟨ol,hol,hcl,nl,hdl⟩;refine pM (T:="list") (Φ:=λ h'=>∃es t,VL.SetT h' s.heap.objs.size es t/\VL.fV t vs.length/\t.led=(!w.params.followText "set-order")/\es.toList.Perm (VL.prs vs nss)) ⟨ol,hol,hcl⟩ F.sub_list_set zHD (by decide)
  (λ h₁ A₁ E₁ Q₁ k q=>zDw (s:={s with heap:=h₁}) (items:=vs.toArray) ⟨ol,k _ _ hol,hcl,nl,hdl⟩ q) (λ R hR=>?_) λ h' tk ⟨es,t,g1,g2,g3,g4⟩ g5=>h h' tk es t g1 g2 g3 g4 g5
 generalize (!w.params.followText "set-order")=led at hR ⊢;have hS:(s.heap.push (VL.bW #[] 0 (.fresh 0 0 led))).get? s.heap.objs.size=some (VL.bW #[] 0 (.fresh 0 0 led)):=zAK _ rfl;have hl1:(s.heap.push (VL.bW #[] 0 (.fresh 0 0 led))).IsList l vs.toArray:=⟨ol,zAD _ hol,hcl,nl,hdl⟩;have hh3:A.in1.in1.in1.handled=none:=by simp[hh]
 have hneI:l≠(s.heap.push (VL.bW #[] 0 (.fresh 0 0 led))).objs.size:=by rw[zBP];exact zAV (zB0 hlS)
 have hSf:s.heap.objs.size∉[(s.heap.push (VL.bW #[] 0 (.fresh 0 0 led))).objs.size,l]:=by
  rw[zBP];simp only[zAL,zAu,or_false,not_or];exact⟨zAV (zBk _),zBn hlS⟩
 have hvt:∀{us:List Value} {ms:List (List Int)},VL.bw s.heap us ms->∀x,.ref x∈us->x<s.heap.objs.size:=by
  intro us ms z;induction z with
  |nil=>intro x hx;simp at hx
  |cons ho _ _ _ _ _ ih=>
   intro x hx;rcases zAL.mp hx with e|hx
   ·cases e;exact zAP ho
   ·exact ih x hx
 refine VL.aFR ((zGv hh3 _ l hneI vs.toArray).toS) s.heap.objs.size hSf (by simp) (by simp;omega) (by simpa using h64) hnd (λ x hx=>?_) led (vs.toArray.size-0) 0 _ #[] (.fresh 0 0 led) (by simp) (zAb _)
  ⟨⟨_,zAK _ rfl,rfl,rfl⟩,(hl1.push _)⟩ (ht.mono λ x o e _=>zAD _ (zAD _ e)) ⟨0,zAD _ hS⟩ (VL.fV.fresh led) rfl (zBN _) ?hR
 case hR=>
  intro s' es t hm hS' hT' hl' hp';obtain⟨h',g',d',tk',os'⟩:=s';have eg:g'=s.gens:=hm.gens;have ed:d'=s.drawn:=hm.drawn;have eo:os'=s.os:=hm.os;subst eg;subst ed;subst eo;refine hR h' tk' ⟨es,t,hS',by simpa using hT',hl',hp'⟩ λ b o e=>hm.heap b o ?_ (zAD _ (zAD _ e))
  have hb:=zAP e;simp only[zAL,zAu,or_false,not_or];rw[zBP];exact⟨zAV hb,zAV (zB0 hb)⟩
 have:=hvt ht x hx
 simp only[zAL,zAu,or_false];rw[zBP];exact zAV (zB0 this)
end
end PySem
namespace VL
open PySem PySem.Spec PyProof.Rows L2
theorem aCd:∀{l:List α} {i:Nat} (h:i<l.length),(l[i]::l.eraseIdx i).Perm l
 |a::l,0,_=>zBN _
 |a::l,i+1,h=>by
  have h':i<l.length:=by simpa using h
  have ih:=aCd (l:=l) (i:=i) h'
  show(l[i]::a::l.eraseIdx i).Perm (a::l)
  exact(zDL _ _ _).trans (ih.cons a)
theorem aEa(next:Nat->Nat):∀(f k:Nat) (left:List α) (out:Array α),left.length<=f->(pickOrder.go next f k left out).toList.Perm (out.toList++left)
 |0,k,left,out,h=>by
  have:left=[]:=List.length_eq_zero_iff.mp (by omega)
  subst this;rw[zBX];exact zBN _
 |f+1,k,left,out,h=>by
  unfold pickOrder.go;cases left with
  |nil=>simp
  |cons a l=>
   have hlt:next k%(a::l).length<(a::l).length:=zDf _ (by simp)
   rw[zAC hlt];dsimp only;refine(aEa next f (k+1) _ _ (by rw[List.length_eraseIdx];simp only[hlt,if_true];simp at h ⊢;omega)).trans ?_;rw[zE6,zBc];exact List.Perm.append_left _ (aCd hlt)
theorem aFX(next:Nat->Nat)(xs:Array α):(pickOrder next xs).toList.Perm xs.toList:=by
 have:=aEa next xs.size 0 xs.toList #[] (by simp)
 unfold pickOrder;simpa using this
def rR(w:World)(d:Addr)(ep:Nat)(es:Array (Int×Value)):Array (Int×Value):=if w.params.followText "set-order" then pickOrder (w.params.setOrder d ep) es else es
theorem pY(w:World)(d:Addr)(ep:Nat)(es:Array (Int×Value)):(rR w d ep es).toList.Perm es.toList:=by
 unfold rR;split
 ·exact aFX _ _
 ·exact zBN _
def slotAt(w:World)(t:zCc):Nat->Nat
 |0=>0
 |i+1=>if w.params.followText "set-order" then 0 else t.place.getD i 0+1
theorem aEI(T:fV t n)(hf:w.params.followText "set-order"=false):∀i,i<=n->zAd t.place (slotAt w t i)=i
 |0,_=>by
  obtain⟨b1,b2,b3⟩:=uL T.ris 0;show zAd t.place 0=0;cases h:zAd t.place 0 with
  |zero=>rfl
  |succ k=>
   rw[h]at b2
   have:=b2 0 (by omega)
   omega
 |i+1,hi=>by
  unfold slotAt;rw[hf];simp only[zAe,if_false];obtain⟨b1,b2,b3⟩:=uL T.ris (t.place.getD i 0+1);have hs:=T.siz;rcases zH6 (zAd t.place (t.place.getD i 0+1)) (i+1)with z|z|z
  ·have:=b3 i (by omega) (by omega)
   omega
  ·exact z
  ·have h1:=b2 (i+1) (by omega)
   have h2:=T.ris i (i+1) (by omega) (by omega);omega
section
variable{prog:zA7}{w:World}{A:zAk}{E:Value->zAG->Prop}{s:zAG}{d I:Addr}{es:Array (Int×Value)}{ep:Nat}{t:zCc}{i':Nat}
theorem xU(ho:s.heap.get? d=some (bW es ep t))(T:fV t es.size)(hled:t.led= !w.params.followText "set-order")(hi:i<=es.size)
  (h:Q (((rR w d ep es)[i]?).map λ e=>(e.2,slotAt w t (i+1))) s):wpAny (model prog w) A (setNext d (slotAt w t i) i ep) Q E s:=by
 unfold setNext;refine zAB (zBh ho rfl T.fits ?_);dsimp only;unfold zIX;refine zAB (zAB (zCp (zAE ?_)));show wpAny _ _ (if w.params.followText "set-order"=true then _ else _) _ _ _;unfold rR at h;cases hf:w.params.followText "set-order" with
 |true=>
  rw[hf]at h;simp only[if_true]at h ⊢;simp only[bne_self_eq_false,zAe,if_false];unfold setWalk;refine zAB (zAB (zBh ho rfl T.fits ?_));dsimp only;unfold zIX;refine zAB (zAB (zCp (zAE ?_)));show wpAny _ _ (if w.params.followText "set-order"=true then _ else _) _ _ _;rw[hf];simp only[if_true];refine zAB (zCp (zAE (zAE ?_)));have e1:slotAt w t (i+1)=slotAt w t i:=by
   unfold slotAt;cases i with
   |zero=>simp[hf]
   |succ i=>simp[hf]
  rw[e1]at h;exact h
 |false=>
  rw[hf]at h hled;simp only[zAe,if_false]at h ⊢;have hd:(!t.plain&&decide (es.size>1))=false:=by rw[T.pla];rfl
  show wpAny _ _ (if (!t.plain&&decide (es.size>1))=true then _ else _) _ _ _;rw[hd];simp only[zAe,if_false];refine zAB ?_;show wpAny _ _ (if (!t.led&& !es.isEmpty)=true then _ else _) _ _ _;rw[hled];simp only[zHm,zFn,zF3,zAe,if_false];refine zAE ?_;rw[aEI T hf i hi];have hslot:slotAt w t (i+1)=t.place.getD i 0+1:=by unfold slotAt;rw[hf];rfl
  rw[hslot]at h;by_cases hlt:i<es.size
  ·have h1:es[i]? =some es[i]:=zBe hlt
   have hlt2:i<t.place.size:=by rw[T.siz];exact hlt
   have h2:t.place[i]? =some (t.place.getD i 0):=by
    rw[zBe hlt2];simp[zCZ,hlt2]
   rw[h1,h2];rw[h1]at h;exact zAE h
  ·have h1:es[i]? =none:=zFl (by omega)
   rw[h1];rw[h1]at h;exact zAE h
theorem cR:PySem.Slot "set_iterator" "__next__" "set_iterator.__next__":=
 .of (owner:="set_iterator") (n:="__next__") (by rw[zEV,zDO];kernel_rfl) (by decide+kernel) (by decide+kernel) (by decide+kernel) (.inl (by decide+kernel)) (by rw[zG7];kernel_rfl)
theorem lX:PySem.Slot "set_iterator" "__iter__" "set_iterator.__iter__":=
 .of (owner:="set_iterator") (n:="__iter__") (by rw[zEV,zDO];kernel_rfl) (by decide+kernel) (by decide+kernel) (by decide+kernel) (.inl (by decide+kernel)) (by rw[zG7];kernel_rfl)
theorem lJ:zGw table "set_iterator.__next__"=some zCO.«set_iterator.__next__»:=entryFor_of_fast (by kernel_rfl)
theorem sG:zGw table "set_iterator.__iter__"=some zCO.«dict_keyiterator.__iter__»:=entryFor_alias (id':="dict_keyiterator.__iter__") (by kernel_rfl) rfl (by decide+kernel) (by kernel_rfl)
theorem wH:zGw table "set.__iter__"=some zCO.«frozenset.__iter__»:=entryFor_alias (id':="frozenset.__iter__") (by kernel_rfl) rfl (by decide+kernel) (by kernel_rfl)
theorem mC(a:Value):argsOk "set_iterator.__next__" ⟨[a],[]⟩:=by unfold argsOk;kernel_rfl
theorem uM(a:Value):argsOk "set_iterator.__iter__" ⟨[a],[]⟩:=by unfold argsOk;kernel_rfl
end
section
variable{prog:zA7}{w:World}{A:zAk}{E:Value->zAG->Prop}{s:zAG}{d I:Addr}{es:Array (Int×Value)}{ep:Nat}{t:zCc}{i':Nat}
abbrev aH2(d:Addr)(sl i n ep:Nat):Obj:={cls:=.type "set_iterator",data:=.fields #[.int sl 0,.int i 0,.ref d,.int n 0,.int ep 0]}
def aKP(h:Heap)(I d:Addr)(sl i n ep:Nat):Prop:=h.get? I=some (aH2 d sl i n ep)
theorem aH0{h:Heap}{sl i n ep k:Nat}(e:h.get? I=some {cls:=.type "set_iterator",data:=.fields vs}):(h.update I (zIQ (·.setIfInBounds k x))).get? I=some {cls:=.type "set_iterator",data:=.fields (vs.setIfInBounds k x)}:=by
 have:=zDx (zIQ (·.setIfInBounds k x)) e (zG3 (zE7 rfl _))
 rw[this];rfl
theorem aDK(hI:aKP s.heap I d (slotAt w t i') i' es.size ep)(ho:s.heap.get? d=some (bW es ep t))(T:fV t es.size)(hled:t.led= !w.params.followText "set-order"){v:Value}(hi:i'<es.size)(hv:((rR w d ep es)[i']?).map (·.2)=some v){Q:Option Value->zAG->Prop}
  (h:∀h',aKP h' I d (slotAt w t (i'+1)) (i'+1) es.size ep->zDX I s.heap h'->Q (some v) {s with heap:=h'}):wpAny (model prog w) A (zEh (.ref I)) Q E s:=by
 have hT:s.TypeIs (.ref I) "set_iterator":=⟨_,hI,rfl⟩;unfold zEh;refine zAB (zHB (zBV (name:=zCj "__next__") hT cR (zB1 cR hT lJ ?_ (mC _))));show wpAny _ _ (fieldsOf (.ref I)>>=_) _ _ s;refine zAB (wpAny_fieldsOf hI rfl ?_);dsimp only;refine zAB ?_;unfold setEntries;refine zAB (zBh ho rfl T.fits (zAE ?_));simp only[bne_self_eq_false,zAe,if_false];refine zAB ?_;simp only[zBf];refine xU ho T hled (zBg hi) ?_;cases hq:(rR w d ep es)[i']? with
 |none=>rw[hq]at hv;cases hv
 |some e=>
  rw[hq]at hv;cases hv;dsimp only[zCT];refine zAB (zDo hI rfl (by simp) ?_);have e1:=aH0 (h:=s.heap) (I:=I) (k:=0) (x:=zGE (slotAt w t (i'+1))) (sl:=0) (i:=0) (n:=0) (ep:=0) hI;refine zAB (zDo e1 rfl (by simp) ?_);have e2:=aH0 (k:=1) (x:=zGE (i'+1)) (sl:=0) (i:=0) (n:=0) (ep:=0) e1;exact zAE ⟨_,rfl,zAE (h _ e2 ((zB4 ..).trans (zB4 ..)))⟩
theorem aFQ(hh:A.handled=none)(hI:aKP s.heap I d (slotAt w t es.size) es.size es.size ep)(ho:s.heap.get? d=some (bW es ep t))(T:fV t es.size)(hled:t.led= !w.params.followText "set-order")
  (h:∀h',Heap.ExtBut I s.heap h'->Q none {s with heap:=h'}):wpAny (model prog w) A (zEh (.ref I)) Q E s:=by
 have hT:s.TypeIs (.ref I) "set_iterator":=⟨_,hI,rfl⟩;unfold zEh;refine zAB (zHB (zBV (name:=zCj "__next__") hT cR (zB1 cR hT lJ ?_ (mC _))));show wpAny _ _ (fieldsOf (.ref I)>>=_) _ _ s;refine zAB (wpAny_fieldsOf hI rfl ?_);dsimp only;refine zAB ?_;unfold setEntries;refine zAB (zBh ho rfl T.fits (zAE ?_));simp only[bne_self_eq_false,zAe,if_false];refine zAB ?_;simp only[zBf];refine xU ho T hled (zAO _) ?_;have hq:(rR w d ep es)[es.size]? =none:=zFl (by
  have:=(pY w d ep es).length_eq
  rw[zA0,zA0]at this;lia)
 rw[hq];dsimp only[zHJ];refine zAB (zDo hI rfl (by simp) ?_);show wpAny _ _ (newExc (.type "StopIteration") []>>=_) _ _ _;refine zAB ?_;simp only[newExc,newTuple];refine zAB (zAg (zAB (m:=zEf _ _) (zEu (a:=zBI) (by first|rfl|(simp only[zEf];rfl)) (zAg ?_ (by size_fits)))) (by size_fits));simp only[raiseNew];refine zAB (wpAny_handled ?_);rw[show A.in1.handled=none from hh];refine zAB (zAE (wpAny_throw ?_));refine zAB (zFk (T:="StopIteration") (b:=true) ⟨_,zAK _ rfl,rfl⟩ isSubtype_stop ?_);exact zAE (h _ (((zB4 ..).extBut.push _).push _))
theorem aFI(hh:A.handled=none)(I d:Addr)(hne:d≠I)(es:Array (Int×Value))(ep:Nat)(t:zCc)(T:fV t es.size)(hled:t.led= !w.params.followText "set-order"):
  Walks prog w A I [I,d] [I] es.size (λ i v=>((rR w d ep es)[i]?).map (·.2)=some v) (λ i h=>aKP h I d (slotAt w t i) i es.size ep/\h.get? d=some (bW es ep t)) where
 sub:=λ b hb=>by simp at hb;simp[hb]
 frame:=λ _ _ _ st hk=>⟨hk I (by simp) _ st.1,hk d (by simp) _ st.2⟩
 item:=λ i s Q E hi st hQ=>by
  have hl:i<(rR w d ep es).size:=by
   have:=(pY w d ep es).length_eq
   rw[zA0,zA0]at this;lia
  have hv:((rR w d ep es)[i]?).map (·.2)=some (rR w d ep es)[i].2:=by rw[zBe hl];rfl
  refine aDK st.1 st.2 T hled hi hv λ h' hI' hs'=>?_
  exact hQ _ h' s.toks hv ⟨hI',by rw[hs'.2 d hne];exact st.2⟩ λ b o hb e=>hs'.extBut b o (λ h=>hb (by simp[h])) e
 done:=λ s Q E st hQ=>aFQ hh st.1 st.2 T hled λ h' he'=>hQ h' s.toks λ b o hb e=>he' b o (λ h=>hb (by simp[h])) e
 self:=λ i s Q E st hQ=>by
  have hT:s.TypeIs (.ref I) "set_iterator":=⟨_,st.1,rfl⟩;refine zI3 hT lX (zB1 lX hT sG ?_ (uM _));show wpAny _ _ (ret (.ref I)) _ _ s;exact zAE ⟨_,rfl,"set_iterator",_,hT,cR.lookup,hQ⟩
theorem aD1(ho:s.heap.get? d=some (bW es ep t))(T:fV t es.size)(h:Q (.ref s.heap.objs.size) {s with heap:=s.heap.push (aH2 d 0 0 es.size ep)}):wpAny (model prog w) A (zGi (.ref d)) Q E s:=by
 have hT:s.TypeIs (.ref d) "set":=⟨_,ho,rfl⟩;refine zI3 hT zFb (zB1 zFb hT wH ?_ (PySem.F.args_set_iter_1 _));unfold zCO.«frozenset.__iter__» zHW slotArgs;simp only[List.isEmpty_nil,zFn,zAe,↓reduceIte,bind_assoc,zAy,bne_self_eq_false];unfold zHT zHV;refine zAB (zAE (zAB (zAE (zAB (zAB (wpAny_setEntries_of ho rfl T.fits (zAE ?_)))))));unfold setDrawn;refine zAB (zAB (zBh ho rfl T.fits ?_));dsimp only;unfold zIX;refine zAB (zAB (zCp (zAE (zAE ?_))));have hd:(!w.params.followText "set-order"&&(!t.plain&&decide (es.size>1)))=false:=by rw[T.pla];simp
 show wpAny _ _ (if (!w.params.followText "set-order"&&(!t.plain&&decide (es.size>1)))=true then _ else _) _ _ _;rw[hd];simp only[zAe,if_false];refine zAB (zAE (zAB (wpAny_setEpoch_of ho rfl T.fits ?_)));simp only[newFields];refine zAB (zAg (zAE ⟨_,rfl,"set_iterator",_,⟨_,zAK _ rfl,rfl⟩,cR.lookup,?_⟩));exact h
theorem aHc(hT:s.TypeIs (.ref r) "set")(h:Q false s):wpAny (model prog w) A (zEO (.ref r)) Q E s:=by
 unfold zEO;refine zAB (zEX hT PySem.F.slot_set_len.lookup ?_);generalize hid:("set.__len__":String)=id0;wp_delta;rw[show splitId id0=some ("set","__len__")from by subst hid;decide+kernel];subst hid;refine zAB (zFk (T:="set") (b:=true) hT (by rw[zG7];kernel_rfl) ?_);refine wpAny_ite_split (λ hab=>absurd hab (by decide)) λ _=>wpAny_ite_split (λ _=>?_) λ hab=>absurd (by decide+kernel) hab
 exact zAB (zCt hT (zAE h))
theorem aIb(T:fV t es.size)(hled:t.led= !w.params.followText "set-order"):zHL prog w "set" d d es.size (λ i v=>((rR w d ep es)[i]?).map (·.2)=some v) (λ h=>h.get? d=some (bW es ep t)) where
 type:=λ _ hm=>⟨_,hm,rfl⟩
 there:=λ _ hm=>⟨zAP hm,zAP hm⟩
 keep:=λ _ _ hm hk=>hk d (.inl rfl) _ hm
 notList:=by decide
 notTuple:=by decide
 hint:=λ _ _ _ _ hm hq=>aHc ⟨_,hm,rfl⟩ hq
 iter:=λ A s hh hm=>⟨aH2 d 0 0 es.size ep,_,(λ _ _ hq=>aD1 hm T hq),aFI hh _ d (zAV (zAP hm)) es ep t T hled,⟨zAK _ rfl,zAD _ hm⟩⟩
end
section
variable{prog:zA7}{w:World}{A:zAk}{E:Value->zAG->Prop}{s:zAG}{T:String}{r d:Addr}{n:Nat}{P:Nat->Value->Prop}{OK:Heap->Prop}
theorem aCm(K:zHL prog w T r d n P OK)(hh:A.handled=none)(hok:OK s.heap)(hn:n<=zAT)
  (h:∀h' tk vs,s.heap.objs.size<h'.objs.size->(∀b o,s.heap.get? b=some o->h'.get? b=some o)->vs.length=n->(∀(j:Nat) v,vs[j]? =some v->P j v)->Q vs {s with heap:=h',toks:=tk}):wpAny (model prog w) A (zHs (.ref r)) Q E s:=by
 have hlt:=K.there _ hok;unfold zHs;refine zAB (zEj (zBT zEm ?_));rw[zBA zEn _];show wpAny _ A.in1 (zFZ []>>=λ l=>again (.builtin "list.__iadd__" ⟨[l,.ref r],[]⟩)) _ _ s;refine zAB (zAg (zAE ⟨zFG zCh _,zBT zFV ?_⟩));rw[zBA zCh _];show wpAny _ A.in1 (zEN (.ref s.heap.objs.size) (.ref r) (.ref s.heap.objs.size)) _ _ _;have fin:∀h' tk acc' c',(∀b o,b≠s.heap.objs.size->(s.heap.push (zBz "list" #[] 0)).get? b=some o->h'.get? b=some o)->h'.get? s.heap.objs.size=some {cls:=.type "list",dict:=none,data:=.seq acc' c',slots:=#[]}->ItemsOf P acc' n->
   wpAny (model prog w) A (do match (zBG s.heap.objs.size)with
    | .ref a=>match (<-load a).data with
     | .seq xs _=>pure xs.toList
     |_=>zGH "internal:collect"
    |_=>zGH "internal:collect") Q E {s with heap:=h',toks:=tk}:=λ h' tk acc' c' hk hS' hacc=>
  zAB (zI1 hS' (zAE (h h' tk acc'.toList (zAP hS') (λ b o e=>hk b o (zAV (zAP e)) (zAD _ e)) (by rw[zA0];exact hacc.1) λ j v e=>hacc.2 j v (by rw[<-zBE];exact e))))
 refine zBH (PySem.W.kdl_extend (A:=A) (s:={s with heap:=s.heap.push (zBz "list" #[] 0)}) (R:=λ r s'=>∃h' tk acc' c',r= .ok (.ret (.ref s.heap.objs.size))/\s'={s with heap:=h',toks:=tk}/\(∀b o,b≠s.heap.objs.size->(s.heap.push (zBz "list" #[] 0)).get? b=some o->h'.get? b=some o)/\h'.get? s.heap.objs.size=some {cls:=.type "list",dict:=none,data:=.seq acc' c',slots:=#[]}/\ItemsOf P acc' n)
  K hh (K.keep _ _ hok λ b _ o e=>zAD _ e) s.heap.objs.size (zBn hlt.1) (zBn hlt.2) (.ref s.heap.objs.size) 0 (zAK _ rfl) (λ h' tk acc' c' hk hS' hacc=>⟨h',tk,acc',c',rfl,rfl,hk,hS',hacc⟩) hn) (λ f s' hf=>?_) λ e s' he=>?_
 ·cases f with
  |done f=>
   obtain⟨h',tk,acc',c',q1,q2,q3,q4,q5⟩:=hf;cases q1;subst q2;exact fin h' tk acc' c' q3 q4 q5
  |again c=>
   refine⟨hf.1,zCs hf.2 λ r s' hr=>?_⟩;obtain⟨h',tk,acc',c',q1,q2,q3,q4,q5⟩:=hr;subst q1 q2;exact fin h' tk acc' c' q3 q4 q5
 ·obtain⟨h',tk,acc',c',q1,_⟩:=he
  cases q1
end
def aKN(h:Heap)(p:Value×List Int):Prop:=∃x o xs k,p.1= .ref x/\h.get? x=some o/\o.cls= .type "tuple"/\o.data= .seq xs k/\zBO xs.toList p.2/\p.2≠[]
theorem bw.all:∀{vs:List Value} {nss:List (List Int)},bw h vs nss->∀p∈vs.zip nss,aKN h p
 |_,_,.nil,p,hp=>by simp at hp
 |_,_,.cons ho hc hd hi hne r,p,hp=>by
  rw[zBi]at hp;rcases zAL.mp hp with e|hp
  ·subst e;exact⟨_,_,_,_,rfl,ho,hc,hd,hi,hne⟩
  ·exact r.all p hp
theorem aEQ:∀{zs:List (Value×List Int)},(∀p∈zs,aKN h p)->bw h (zs.map (·.1)) (zs.map (·.2))
 |[],_=>.nil
 |p::zs,hz=>by
  obtain⟨x,o,xs,k,e1,e2,e3,e4,e5,e6⟩:=hz p zAQ;rw[zAH,zAH,e1];exact .cons e2 e3 e4 e5 e6 (aEQ λ q hq=>hz q (zAJ _ hq))
theorem nU(h:l.Perm m'):∀{m:List α},m'=m.map f->∃m2:List α,m2.Perm m/\l=m2.map f:=by
 induction h with
 |nil=>intro m e;exact⟨m,zBN _,e⟩
 |cons x p ih=>
  intro m e;cases m with
  |nil=>cases e
  |cons a m=>
   rw[zAH]at e;injection e with e1 e2
   obtain⟨m2,q1,q2⟩:=ih e2;exact⟨a::m2,q1.cons a,by rw[zAH,q2,e1]⟩
 |swap x y l=>
  intro m e;cases m with
  |nil=>cases e
  |cons a m=>
   cases m with
   |nil=>rw[zAH]at e;injection e with _ e2;cases e2
   |cons b m=>
    rw[zAH,zAH]at e;injection e with e1 e2
    injection e2 with e2 e3
    exact⟨b::a::m,zDL _ _ _,by rw[zAH,zAH,e1,e2,e3]⟩
 |trans p q ih1 ih2=>
  intro m e;obtain⟨m2,a1,a2⟩:=ih2 e;obtain⟨m3,b1,b2⟩:=ih1 a2;exact⟨m3,b1.trans a1,b2⟩
def uP(l:List (List Int)):Prop:=l.Pairwise λ a b=>HT.lexLt b a=false
section
variable{prog:zA7}{w:World}{A:zAk}{E:Value->zAG->Prop}{s:zAG}
theorem aBo{Q:Value->zAG->Prop}(hz:∀p∈zs,aKN s.heap p)(h64:zs.length<64)
  (h:∀(zs':List (Value×List Int)) h' e,zs'.Perm zs->uP (zs'.map (·.2))->(∀b o,s.heap.get? b=some o->h'.get? b=some o)->h'.get? s.heap.objs.size=some (zBz "list" (zs'.map (·.1)).toArray e)->Q (.ref s.heap.objs.size) {s with heap:=h'}):
  wpAny (model prog w) A (zFZ (zs.map (·.1))>>=λ l=>zEs [l] (call (.builtin "list.sort") [l])>>=λ _=>ret l) (λ fin s'=>∃r,fin= .done (.ret r)/\Q r s') E s:=by
 have hlen:(zs.map (·.1)).length=zs.length:=zAF _;refine zAB (wpAny_newList ?_ (by rw[zB9];omega));have hoL:(s.heap.push (zBz "list" (zs.map (·.1)).toArray 0)).get? s.heap.objs.size=some (zBz "list" (zs.map (·.1)).toArray 0):=zAK _ rfl;refine zAB (zBj (zB1 slot_list_sort ⟨_,hoL,rfl⟩ entry_list_sort ?_ (args_list_sort _)));refine aDl (s:={s with heap:=s.heap.push (zBz "list" (zs.map (·.1)).toArray 0)}) hoL (aEQ λ p hp=>?_) (by omega) λ p a1 a2=>⟨_,rfl,?_⟩
 ·obtain⟨x,o,xs,k,e1,e2,e3⟩:=hz p hp
  exact⟨x,o,xs,k,e1,zAD _ e2,e3⟩
 rw[hlen]at a1 a2;have hmap:p.toList.map (λ i=>(zs.map (·.1)).getD i zBI)=(p.toList.map λ i=>zs.getD i (zBI,[])).map (·.1):=by
  rw[zAw];refine zDR λ i hi=>?_
  show(zs.map (·.1)).getD i zBI=(zs.getD i (zBI,[])).1
  rw[zAY,zAY,zAU];cases zs[i]?<;>rfl
 have hperm:(p.toList.map λ i=>zs.getD i (zBI,[])).Perm zs:=by
  have h1:p.toList.Perm (zAc zs.length):=by
   have:=Array.perm_iff_toList_perm.mp a1
   simpa using this
  refine(h1.map _).trans ?_
  have:(zAc zs.length).map (λ i=>zs.getD i (zBI,[]))=zs:=by
   refine zEv (by simp) λ i h1 h2=>?_
   rw[zCK,zGo,zAY,zAC h2];rfl
  rw[this]
 have hne:∀b o,s.heap.get? b=some o->b≠s.heap.objs.size:=λ b o e=>zAV (zAP e)
 obtain⟨e1,he1⟩:∃e1,((s.heap.push (zBz "list" (zs.map (·.1)).toArray 0)).update s.heap.objs.size (zC4 λ _=>(#[]:Array Value))).get? s.heap.objs.size=some (zBz "list" #[] e1):=⟨_,zGC hoL λ _=>#[]⟩
 have g1:=zAD (zBz "list" #[] 0) (zAD (zBz "tuple" (zs.map (·.1)).toArray 0) he1);have g2:=zGC g1 (λ _=>qL (zs.map (·.1)) p);generalize (if ((qL (zs.map (·.1)) p).size==(#[]:Array Value).size)=true then e1 else e1+1)=c1 at g2;have hend:(zGj (s.heap.push (zBz "list" (zs.map (·.1)).toArray 0)) s.heap.objs.size (zs.map (·.1)) (qL (zs.map (·.1)) p)).get? s.heap.objs.size=some (zBz "list" (qL (zs.map (·.1)) p) c1):=g2;have hout:qL (zs.map (·.1)) p=((p.toList.map λ i=>zs.getD i (zBI,[])).map (·.1)).toArray:=by unfold qL;rw[hmap]
 have hris:uP ((p.toList.map λ i=>zs.getD i (zBI,[])).map (·.2)):=by
  unfold uP;rw[zAw];refine zD1.mpr λ i j hi hj hij=>?_
  rw[zAF,zA0,a1.sz]at hi hj;have hk:∀k (hk:k<zs.length),Kp (O:=aDm) (λ i=>(zs.map (·.2)).getD i []) p k=(zs.getD (p.getD k 0) (zBI,[])).2:=λ k hk=>by
   show(zs.map (·.2)).getD (p.getD k 0) []=_
   rw[zAY,zAY,zAU];cases zs[p.getD k 0]?<;>rfl
  have hg:∀k (hk:k<p.toList.length),p.toList[k]=p.getD k 0:=λ k hk=>by
   have:k<p.size:=by simpa using hk
   simp[zCZ,this]
  have this:HT.lexLt (Kp (O:=aDm) (λ i=>(zs.map (·.2)).getD i []) p j) (Kp (O:=aDm) (λ i=>(zs.map (·.2)).getD i []) p i)=false:=a2 i j (zBg hij) hj;rw[hk i hi,hk j hj]at this;rw[zCK,zCK,hg,hg];exact this
 have hkeep:∀b o,s.heap.get? b=some o->(zGj (s.heap.push (zBz "list" (zs.map (·.1)).toArray 0)) s.heap.objs.size (zs.map (·.1)) (qL (zs.map (·.1)) p)).get? b=some o:=λ b o e=>by
  unfold zGj;rw[zDP _ _ _ _ (hne b o e)];refine zAD _ (zAD _ ?_);rw[zDP _ _ _ _ (hne b o e)];exact zAD _ e
 rw[hout]at hend hkeep;have hq:=h (p.toList.map λ i=>zs.getD i (zBI,[])) _ c1 hperm hris hkeep hend;rw[<-hout]at hq;exact zAE ⟨_,rfl,hq⟩
theorem su(h:wpAny (model prog w) A.in1 (zHs v) (λ vs s'=>wpAny (model prog w) A.in1 (zFZ vs>>=λ l=>zEs [l] (call (.builtin "list.sort") [l])>>=λ _=>ret l) (λ fin s'=>∃r,fin= .done (.ret r)/\Q r s') E s') E s):
  wpAny (model prog w) A (call (.builtin "sorted") [v]) Q E s:=by
 refine Calls.call_function_entry kind_sorted plain_sorted entry_sorted (args_sorted1 _) ?_;unfold zCO.«sorted»;refine zAB (m:=checkCount "sorted" 1 1 _) (zAE (zAB ?_));exact h
end
inductive fP(K:zAA)(H:Hp):List V->List (List Int)->Prop where
 |nil:fP K H [] []
 |cons {a:Addr} {ns:List Int} {vs:List V} {nss:List (List Int)} (h:SqT K H a (ns.map V.int)) (hne:ns≠[]) (r:fP K H vs nss):fP K H (.ref a::vs) (ns::nss)
def kZ:V->Value
 | .ref a=>.ref a
 |_=>.none
theorem fP.vals{K:zAA}:∀{vs:List V} {nss:List (List Int)} {us:List Value},fP K H vs nss->Vals vs us->us=vs.map kZ:=by
 intro vs nss us t v;induction v generalizing nss with
 |nil=>rfl
 |cons q s ih=>
  cases t with
  |cons _ _ r=>
   cases q;rw[zAH,ih r];rfl
theorem fP.len{K:zAA}:∀{vs:List V} {nss:List (List Int)},fP K H vs nss->vs.length=nss.length
 |_,_,.nil=>rfl
 |_,_,.cons _ _ r=>by rw[zA8,zA8,r.len]
theorem fP.refs{K:zAA}:∀{vs:List V} {nss:List (List Int)},fP K H vs nss->∀v∈vs,RelV v (kZ v)
 |_,_,.nil,v,hv=>by simp at hv
 |_,_,.cons _ _ r,v,hv=>by
  rcases zAL.mp hv with e|hv
  ·subst e;exact rfl
  ·exact r.refs v hv
theorem fP.up{K:zAA}(s:aa H H'):∀{vs:List V} {nss:List (List Int)},fP K H vs nss->fP K H' vs nss
 |_,_,.nil=>.nil
 |_,_,.cons h hne r=>.cons (s.sqt h) hne (r.up s)
theorem fP.at(I:Inv X pins σ H s):∀{vs:List V} {nss:List (List Int)},fP X.K H vs nss->bw s.heap (vs.map kZ) nss
 |_,_,.nil=>.nil
 |_,_,.cons h hne r=>by
  obtain⟨its,rv,⟨o,ho,hc,n,hd⟩,_⟩:=I.tuple h;exact .cons ho hc hd (by simpa using intsAre_of rv) hne (r.at I)
theorem zm:∀{vs:List V},(∀v∈vs,RelV v (kZ v))->Vals vs (vs.map kZ)
 |[],_=>.nil
 |v::vs,h=>.cons (h v zAQ) (zm λ u hu=>h u (zAJ _ hu))
def setφ(w:World)(a:Addr)(us:List Value)(nss:List (List Int)):Heap->Prop:=λ h=>∃es ep t,h.get? a=some (bW es ep t)/\fV t es.size/\t.led=(!w.params.followText "set-order")/\es.toList.Perm (prs us nss)
section
variable{X:Cx}
def aKY(K:zAA)(w:World):List V->Hp->VK->Prop:=λ xs H Q=>∃p vs nss,xs=[.ref p]/\SqL K H p vs/\fP K H vs nss/\vs.length<64/\(nss.map hsh).Nodup/\∀a H',aa H H'->H' a=some (.ext (setφ w a (vs.map kZ) nss))->H a=none->Q (.ref a) H'
theorem aEF(hc:X.calm=true)(hu:X.A.units+64<cLine):cX X (.type "set") (aKY X.K X.w):=by
 intro pins s σ H xs us Q I r h;obtain⟨p,vs,nss,rfl,hp,ht,h64,hnd,q⟩:=h;obtain⟨u,rfl,ru⟩:=vals1 r;cases ru;obtain⟨its,rv,pl,hz⟩:=I.list hp;have e:=ht.vals rv;subst e;refine PySem.aFl (I.ok.hd hc) (by lia) pl.isList (ht.at I) (by rw[zAF];exact h64) hnd λ h' tk es t g1 g2 g3 g4 g5=>?_
 have hfr:H s.heap.objs.size=none:=I.hok.fresh (zAO _);obtain⟨ep,ge⟩:=g1;have hsz:es.size=(vs.map kZ).length:=by rw[<-zA0,g4.length_eq,wN (ht.at I).len]
 refine⟨.ref s.heap.objs.size,upd H s.heap.objs.size (.ext (setφ X.w s.heap.objs.size (vs.map kZ) nss)),I.laid (t':=tk) g5 (zAO _) ⟨⟨es,ep,t,ge,by rw[hsz];exact g2,g3,g4⟩,⟨_,ge⟩,λ h1 h2 ⟨es,ep,t,e1,e2⟩ k=>⟨es,ep,t,k _ e1,e2⟩⟩,rfl,q _ _ (bC hfr _) bB hfr⟩
def aFG(H:Hp)(vs:List V)(nss:List (List Int))(Q:VK):Prop:=∀zs:List (V×List Int),zs.Perm (vs.zip nss)->uP (zs.map (·.2))->New H (.lst (zs.map (·.1))) Q
theorem xO{pins:List (Addr×Obj)}(I:Inv X pins σ H s)(ht:fP X.K H vs nss)(h64:vs.length<64)(q:aFG H vs nss Q)
  (hs1:∃h1 tk,s1={s with heap:=h1,toks:=tk}/\s.heap.objs.size<=h1.objs.size/\∀b o,s.heap.get? b=some o->h1.get? b=some o){zs:List (Value×List Int)}(hz:zs.Perm ((vs.map kZ).zip nss))(hus:us=zs.map (·.1)):
  wpAny (model X.prog X.w) X.A.in1 (zFZ us>>=λ l=>zEs [l] (call (.builtin "list.sort") [l])>>=λ _=>ret l) (λ fin s'=>∃r,fin= .done (.ret r)/\EP X pins σ Q r s') X.xe s1:=by
 obtain⟨h1,tk,rfl,hsz,keep⟩:=hs1;subst hus;have hall:∀p∈zs,aKN h1 p:=λ p hp=>by
  obtain⟨x,o,xs,k,e1,e2,e3⟩:=(ht.at I).all p (hz.mem_iff.mp hp);exact⟨x,o,xs,k,e1,keep _ _ e2,e3⟩
 have hlen:zs.length<64:=by
  rw[hz.length_eq,zFL,zAF,<-ht.len,zEE];exact h64
 refine aBo (s:={s with heap:=h1,toks:=tk}) hall hlen λ zs' h' e a1 a2 a3 a4=>?_
 have hmap:(vs.map kZ).zip nss=(vs.zip nss).map λ p=>(kZ p.1,p.2):=by rw[List.zip_map_left];rfl
 obtain⟨ws,w1,w2⟩:=nU (f:=λ p:V×List Int=>(kZ p.1,p.2)) (a1.trans hz) hmap;have hfr:H h1.objs.size=none:=I.hok.fresh hsz;have hmem:∀v∈ws.map (·.1),RelV v (kZ v):=λ v hv=>by
  obtain⟨p,hp,rfl⟩:=zAm.mp hv;exact ht.refs p.1 (zDy (w1.mem_iff.mp hp)).1
 have hws:zs'.map (·.1)=(ws.map (·.1)).map kZ:=by rw[w2,zAw,zAw];rfl
 have hwl:(ws.map (·.1)).length<=zAT:=by
  rw[zAF,w1.length_eq,zFL,<-ht.len,zEE,zB9];lia
 refine⟨.ref h1.objs.size,upd H h1.objs.size (.lst (ws.map (·.1))),I.laid (t':=tk) (λ b o e=>a3 b o (keep b o e)) hsz ⟨hwl,(ws.map (·.1)).map kZ,e,zm hmem,?_⟩,rfl,(q ws w1 ?_).at hfr⟩
 ·rw[<-hws];exact a4
 ·have:ws.map (·.2)=zs'.map (·.2):=by rw[w2,zAw];rfl
  rw[this];exact a2
def aDY(K:zAA):List V->Hp->VK->Prop:=λ xs H Q=>∃p vs nss,xs=[.ref p]/\SqL K H p vs/\fP K H vs nss/\vs.length<64/\aFG H vs nss Q
theorem zg:cX X (.builtin "sorted") (aDY X.K):=by
 intro pins s σ H xs us Q I r h;obtain⟨p,vs,nss,rfl,hp,ht,h64,q⟩:=h;obtain⟨u,rfl,ru⟩:=vals1 r;cases ru;obtain⟨its,rv,pl,hz⟩:=I.list hp;have e:=ht.vals rv;subst e;have hl2:(vs.map kZ).length=nss.length:=by rw[zAF];exact ht.len
 refine su (collect_list pl.isList ?_ (by rw[zAF];exact hz));refine xO I ht h64 q ⟨_,_,rfl,?_,λ b o e=>?_⟩ (zBN _) ?_
 ·rw[Heap.size_update,size_push']
  exact zDl _
 ·rw[zDP _ _ _ _ (zAV (zAP e))]
  exact zAD _ e
 ·exact(zH0 (by lia)).symm
def aGg(K:zAA)(w:World):List V->Hp->VK->Prop:=λ xs H Q=>∃a vs nss,xs=[.ref a]/\H a=some (.ext (setφ w a (vs.map kZ) nss))/\fP K H vs nss/\vs.length<64/\aFG H vs nss Q
theorem zj(hc:X.calm=true):cX X (.builtin "sorted") (aGg X.K X.w):=by
 intro pins s σ H xs us Q I r h;obtain⟨a,vs,nss,rfl,ha,ht,h64,q⟩:=h;obtain⟨u,rfl,ru⟩:=vals1 r;cases ru;obtain⟨⟨es,ep,t,e1,e2,e3,e4⟩,_,_⟩:=I.hok a _ ha;have hl2:(vs.map kZ).length=nss.length:=by rw[zAF];exact ht.len
 have hsz:es.size=vs.length:=by rw[<-zA0,e4.length_eq,wN hl2,zAF]
 have hh:X.A.in1.handled=none:=I.ok.hd hc;refine su (aCm (aIb (ep:=ep) e2 e3) hh e1 (by rw[hsz,zB9];lia) λ h1 tk vs1 k0 k1 k2 k3=>?_);have hperm:(rR X.w a ep es).toList.Perm (prs (vs.map kZ) nss):=(pY X.w a ep es).trans e4;obtain⟨zs,z1,z2⟩:=nU (f:=λ p:Value×List Int=>(hsh p.2,p.1)) hperm rfl;have hvs:vs1=zs.map (·.1):=by
  have e5:(rR X.w a ep es).toList.map (·.2)=zs.map (·.1):=by rw[z2,zAw];rfl
  rw[<-e5];have hlen:(rR X.w a ep es).toList.length=es.size:=by rw[(pY X.w a ep es).length_eq,zA0]
  refine zEv (by rw[k2,zAF,hlen]) λ i g1 g2=>?_
  have:=k3 i _ (zAC g1)
  rw[<-zBE,<-zAU,zAC g2]at this;exact(zAr this).symm
 exact xO I ht h64 q ⟨h1,tk,rfl,zBg k0,k1⟩ z1 hvs
end
def aFd(a:List Int):List (List Int)->List (List Int)
 |[]=>[a]
 |b::l=>if HT.lexLt b a then b::aFd a l else a::b::l
def sy:List (List Int)->List (List Int)
 |[]=>[]
 |a::l=>aFd a (sy l)
theorem ux(a:List Int):∀l,(aFd a l).Perm (a::l)
 |[]=>zBN _
 |b::l=>by
  unfold aFd;split
  ·exact((ux a l).cons b).trans (zDL _ _ _)
  ·exact zBN _
theorem rD:∀l,(sy l).Perm l
 |[]=>zBN _
 |a::l=>(ux a _).trans ((rD l).cons a)
theorem aJ9(h:HT.lexLt a b=true):HT.lexLt b a=false:=by
 cases e:HT.lexLt b a with
 |false=>rfl
 |true=>have:=tL a b a h e;rw[aBM]at this;cases this
theorem aMA(h1:HT.lexLt b a=false)(h2:HT.lexLt c b=false):HT.lexLt c a=false:=by
 cases e:HT.lexLt c a with
 |false=>rfl
 |true=>
  rcases aHO c b a e with z|z
  ·rw[h2]at z;cases z
  ·rw[h1]at z;cases z
theorem yV(a:List Int):∀l,uP l->uP (aFd a l)
 |[],_=>zAz.mpr ⟨λ _ h=>by simp at h,.nil⟩
 |b::l,h=>by
  obtain⟨h1,h2⟩:=zAz.mp h;unfold aFd;cases e:HT.lexLt b a with
  |true=>
   rw[if_pos rfl];refine zAz.mpr ⟨λ x hx=>?_,yV a l h2⟩;rcases zAL.mp ((ux a l).mem_iff.mp hx)with q|q
   ·subst q;exact aJ9 e
   ·exact h1 x q
  |false=>
   rw[if_neg (by simp)];refine zAz.mpr ⟨λ x hx=>?_,h⟩;rcases zAL.mp hx with q|q
   ·subst q;exact e
   ·exact aMA e (h1 x q)
theorem oK:∀l,uP (sy l)
 |[]=>.nil
 |a::l=>yV a _ (oK l)
theorem aAD:∀{a b:List (List Int)},a.Perm b->uP a->uP b->a=b
 |[],b,p,_,_=>p.nil_eq
 |x::a,b,p,h1,h2=>by
  cases b with
  |nil=>exact absurd p.length_eq (by simp)
  |cons y b=>
   have hxy:x=y:=by
    obtain⟨q1,_⟩:=zAz.mp h1;obtain⟨q2,_⟩:=zAz.mp h2;have m1:x∈y::b:=p.mem_iff.mp zAQ;have m2:y∈x::a:=p.mem_iff.mpr zAQ;rcases zAL.mp m1 with e|m1
    ·exact e
    ·rcases zAL.mp m2 with e|m2
     ·exact e.symm
     ·exact yF _ _ (q2 x m1) (q1 y m2)
   subst hxy;rw[aAD (List.Perm.cons_inv p) (zAz.mp h1).2 (zAz.mp h2).2]
abbrev tupI(ns:List Int):D:=.tup (ns.map .int)
def kE:List D->Option (List (List Int))
 |[]=>some []
 | .tup l::r=>match intsOf l,kE r with
  |some (n::ns),some nss=>some ((n::ns)::nss)
  |_,_=>none
 |_=>none
theorem lW:∀{l:List D} {nss:List (List Int)},kE l=some nss->l=nss.map tupI/\∀ns∈nss,ns≠[]
 |[],nss,h=>by cases h;exact⟨rfl,λ ns h=>by simp at h⟩
 | .tup l::r,nss,h=>by
  unfold kE at h;split at h
  ·rename_i n ns nss' e1 e2
   cases h;obtain⟨q1,q2⟩:=lW e2;rw[cu e1,q1];refine⟨rfl,λ ms hm=>?_⟩;rcases zAL.mp hm with e|hm
   ·subst e;simp
   ·exact q2 ms hm
  ·cases h
 | .non::_,_,h=>by cases h
 | .int _::_,_,h=>by cases h
 | .bl _::_,_,h=>by cases h
 | .str _::_,_,h=>by cases h
 | .lst _::_,_,h=>by cases h
 | .dct _ _::_,_,h=>by cases h
 | .set _::_,_,h=>by cases h
 | .scr _::_,_,h=>by cases h
theorem xH:∀{nss:List (List Int)},(∀ns∈nss,ns≠[])->kE (nss.map tupI)=some nss
 |[],_=>rfl
 |[]::nss,h=>absurd rfl (h [] zAQ)
 |(n::ns)::nss,h=>by
  have ih:=xH λ ms hm=>h ms (zAJ _ hm)
  rw[zAH];unfold kE;rw[ih,show intsOf (List.map D.int (n::ns))=some (n::ns)from fZ _]
theorem sX{K:zAA}:∀{xs:List V} {nss:List (List Int)},Rps K A H xs (nss.map tupI)->(∀ns∈nss,ns≠[])->fP K H xs nss
 |_,[],.nil,_=>.nil
 |_,ns::nss,.cons h r,hne=>by
  cases h with
  |tup h r'=>
   have e:=r'.ints_of;subst e;exact .cons h (hne ns zAQ) (sX r λ ms hm=>hne ms (zAJ _ hm))
theorem aG6{K:zAA}:∀{zs:List (V×List Int)},(∀p∈zs,∃a,p.1= .ref a/\SqT K H a (p.2.map V.int))->Rps K A H (zs.map (·.1)) ((zs.map (·.2)).map tupI)
 |[],_=>.nil
 |p::zs,h=>by
  obtain⟨a,e1,e2⟩:=h p zAQ;rw[zAH,zAH,zAH,e1];exact .cons (.tup e2 .ints) (aG6 λ q hq=>h q (zAJ _ hq))
theorem fP.all{K:zAA}:∀{vs:List V} {nss:List (List Int)},fP K H vs nss->∀p∈vs.zip nss,∃a,p.1= .ref a/\SqT K H a (p.2.map V.int)
 |_,_,.nil,p,hp=>by simp at hp
 |_,_,.cons h _ r,p,hp=>by
  rw[zBi]at hp;rcases zAL.mp hp with e|hp
  ·subst e;exact⟨_,rfl,h⟩
  ·exact r.all p hp
theorem aBp{K:zAA}(ht:fP K H vs nss)(q:∀v H',aa H H'->Rp K (λ p=>H p=none) H' v (.lst ((sy nss).map tupI))->Q v H'):aFG H vs nss Q:=by
 intro zs hz hr p H' s hp hn;have e:zs.map (·.2)=sy nss:=aAD (((hz.map (·.2)).trans (by rw[zEy (by rw[ht.len];exact zAO _)])).trans (rD nss).symm) hr (oK nss);refine q _ H' s (.lst hp hn ?_);rw[<-e];exact aG6 λ p hp=>by
  obtain⟨a,e1,e2⟩:=ht.all p (hz.mem_iff.mp hp);exact⟨a,e1,s.sqt e2⟩
def insI(a:Int):List Int->List Int
 |[]=>[a]
 |b::l=>if b<a then b::insI a l else a::b::l
def sortI:List Int->List Int
 |[]=>[]
 |a::l=>insI a (sortI l)
theorem insI_perm(a:Int):∀l,(insI a l).Perm (a::l)
 |[]=>zBN _
 |b::l=>by
  unfold insI;split
  ·exact((insI_perm a l).cons b).trans (zDL _ _ _)
  ·exact zBN _
theorem sortI_perm:∀l,(sortI l).Perm l
 |[]=>zBN _
 |a::l=>(insI_perm a _).trans ((sortI_perm l).cons a)
theorem aCb(a:Int):∀l:List Int,l.Pairwise (·<=·)->(insI a l).Pairwise (·<=·)
 |[],_=>zAz.mpr ⟨λ _ h=>by simp at h,.nil⟩
 |b::l,h=>by
  obtain⟨h1,h2⟩:=zAz.mp h;unfold insI;by_cases e:b<a
  ·rw[if_pos e]
   refine zAz.mpr ⟨λ x hx=>?_,aCb a l h2⟩;rcases zAL.mp ((insI_perm a l).mem_iff.mp hx)with q|q
   ·lia
   ·exact h1 x q
  ·rw[if_neg e]
   refine zAz.mpr ⟨λ x hx=>?_,h⟩;rcases zAL.mp hx with q|q
   ·lia
   ·have:=h1 x q;lia
theorem zy:∀l,(sortI l).Pairwise (·<=·)
 |[]=>.nil
 |a::l=>aCb a _ (zy l)
theorem sW:∀{us:List Value} {ns:List Int},zBO us ns->Vals (ns.map V.int) us
 |_,_,.nil=>.nil
 |_,_,.cons n t r=>.cons ⟨t,rfl⟩ (sW r)
section
variable{X:Cx}
def aDZ(K:zAA):List V->Hp->VK->Prop:=λ xs H Q=>∃p ns,xs=[.ref p]/\SqL K H p (ns.map V.int)/\ns.length<64/\New H (.lst ((sortI ns).map V.int)) Q
theorem aB7:cX X (.builtin "sorted") (aDZ X.K):=by
 intro pins s σ H xs us Q I r h;obtain⟨p,ns,rfl,hp,h64,q⟩:=h;obtain⟨u,rfl,ru⟩:=vals1 r;cases ru;obtain⟨its,rv,pl,hz⟩:=I.list hp;have hI:zBO its ns:=intsAre_of rv;have hlen:its.length<64:=by
  have:=rv.length
  rw[zAF]at this;lia
 refine sorted_ints pl.isList hI hlen λ out ns' h1 h2 h3=>?_
 have e:ns'=sortI ns:=PySem.W.ksm_same (h2.trans (sortI_perm ns).symm) h3 (zy ns);subst e;obtain⟨e,he⟩:=sortedAll_at s.heap its out;have hfr:H (s.heap.objs.size+1)=none:=I.hok.fresh (zDl _);refine⟨.ref (s.heap.objs.size+1),upd H (s.heap.objs.size+1) (.lst ((sortI ns).map V.int)),I.laid (t':=s.toks) (λ b o q=>sortedAll_old q) (zDl _) ?_,rfl,q.at hfr⟩;refine⟨?_,out.toList,e,sW h1,?_⟩
 ·rw[zAF,h2.length_eq]
  exact zAf (zBg h64) (by decide)
 ·rw[Array.toArray_toList]
  exact he
theorem cX.or(h1:cX X f r1)(h2:cX X f r2):cX X f λ xs H Q=>r1 xs H Q\/r2 xs H Q:=λ pins s σ H xs us Q I r h=>h.elim (h1 pins s σ H xs us Q I r) (h2 pins s σ H xs us Q I r)
end
def aFH(K:zAA)(r:List V->Hp->VK->Prop)(fd:List D->Rs D):Prop:=∀(A:Addr->Prop) xs ds H (Q:VK) z,Rps K A H xs ds->fd ds= .ok z->(∀v H',aa H H'->Rp K (λ p=>H p=none) H' v z->Q v H')->r xs H Q
theorem aAk{K:zAA}(hs:aFH K r fd)(h1:aKM K G m ta g):jR K G (some []) (tCB r ta) (opA fd g):=by
 intro τ σ H ρ lab Q R W;refine h1 τ σ H ρ lab _ R (W.bd.imp λ d _ w x H1 s1 r1=>?_);obtain⟨z,ez,w⟩:=w.okD;exact hs (fpM m lab H) x d H1 Q z r1 ez λ v H' s r=>w v H' (s1.trans s) (r.wk λ p o _ q=>.inl (s1.free q))
def xQ:List D->Rs D
 |[.lst l]=>match kE l with
  |some nss=>if nss.length<64 then .ok (.lst ((sy nss).map tupI))else .st
  |none=>match intsOf l with
   |some ns=>if ns.length<64 then .ok (.lst ((sortI ns).map .int))else .st
   |none=>.st
 |_=>.st
theorem aFk{K:zAA}:aFH K (λ xs H Q=>aDY K xs H Q\/aDZ K xs H Q) xQ:=by
 intro A xs ds H Q z r ez q;unfold xQ at ez;split at ez
 ·cases r with
  |cons h r=>
   cases r;cases h with
   |lst h m r=>
    split at ez
    ·rename_i nss e
     obtain⟨e1,e2⟩:=lW e;subst e1;split at ez
     ·rename_i hl
      cases ez;have ht:=sX r e2;exact .inl ⟨_,_,nss,rfl,SqL.of h,ht,by rw[ht.len];exact hl,aBp ht q⟩
     ·cases ez
    ·split at ez
     ·rename_i ns e
      have e1:=cu e;subst e1;split at ez
      ·rename_i hl
       cases ez;have e2:=r.ints_of;subst e2;exact .inr ⟨_,ns,rfl,SqL.of h,hl,λ p H' s hp hn=>q _ H' s (.lst hp hn .ints)⟩
      ·cases ez
     ·cases ez
 ·cases ez
section
variable{C:Ct}{pos p p2 pos2:Pos}{m:Mode}{a:Expr}{ga:En->Rs (List D)}
theorem zz(hm:C.mg "sorted"=none)(ha:SA C m [a] ga)(he:∀i,zAW [a] (C.X i).env=[(false,eval a (C.X i).env)]:=by intro _;rfl)(hg:∀i,Gl (C.X i) "sorted":=by intro _;rfl)(hv:zAn "sorted"=some (.builtin "sorted"):=by decide+kernel):SE C (some []) (.Call (.Name "sorted" p) [a] [] pos) (opA xQ ga):=by
 obtain⟨t,h1,h2⟩:=ha;refine⟨_,λ i=>oZ (r:=λ xs H Q=>aDY C.K xs H Q\/aDZ C.K xs H Q) (by rw[<-C.hK i];exact zg.or aB7) (hg i) (by rw[(C.cx i).2.2.2.1];exact hm) hv (h1 i) (by decide) (by decide) (he i) rfl,aAk aFk h2⟩
def fW:List D->Rs D
 |[.lst l]=>match kE l with
  |some nss=>if nss.length<64/\(nss.map hsh).Nodup then .ok (.lst ((sy nss).map tupI))else .st
  |none=>.st
 |_=>.st
theorem aAr(hm:C.mg "sorted"=none)(hm2:C.mg "set"=none)(ha:SA C m [a] ga)(he:∀i,zAW [a] (C.X i).env=[(false,eval a (C.X i).env)]:=by intro _;rfl)(he2:∀i,zAW [Expr.Call (.Name "set" p2) [a] [] pos2] (C.X i).env=[(false,eval (.Call (.Name "set" p2) [a] [] pos2) (C.X i).env)]:=by intro _;rfl)(hg:∀i,Gl (C.X i) "sorted":=by intro _;rfl)(hv:zAn "sorted"=some (.builtin "sorted"):=by decide+kernel)(hg2:∀i,Gl (C.X i) "set":=by intro _;rfl)(hv2:zAn "set"=some (.type "set"):=by decide+kernel):
  SE C (some []) (.Call (.Name "sorted" p) [.Call (.Name "set" p2) [a] [] pos2] [] pos) (opA fW ga):=by
 obtain⟨t,h1,h2⟩:=ha;have hw:∀i,(C.X i).w=C.w:=λ i=>(C.cx i).2.1
 refine⟨tCB (aGg C.K C.w) (kI (tCB (aKY C.K C.w) t) uR),λ i=>oZ (by rw[<-C.hK i,<-hw i];exact zj (C.calm i)) (hg i) (by rw[(C.cx i).2.2.2.1];exact hm) hv
  (eX (iU (by rw[<-C.hK i,<-hw i];exact aEF (C.calm i) (C.u64 i)) (hg2 i) (by rw[(C.cx i).2.2.2.1];exact hm2) hv2 (h1 i) (by decide) (by decide) (he i) rfl) jE (he2 i)) (by decide) (by decide) (he2 i) rfl,λ τ σ H ρ lab Q R W=>?_⟩
 refine h2 τ σ H ρ lab _ R (W.bd.imp λ ds _ w xs H1 s1 r1=>?_);obtain⟨z,ez,w⟩:=w.okD;unfold fW at ez;split at ez
 ·cases r1 with
  |cons h r=>
   cases r;cases h with
   |lst h m r=>
    split at ez
    ·rename_i nss e
     obtain⟨e1,e2⟩:=lW e;subst e1;split at ez
     ·rename_i hl
      cases ez;have ht:=sX r e2;have hlv:=hl.1;rw[<-ht.len]at hlv;refine⟨_,_,nss,rfl,SqL.of h,ht,hlv,hl.2,λ a H2 s2 ha hn=>⟨a,_,nss,rfl,ha,ht.up s2,hlv,?_⟩⟩;exact aBp (ht.up s2) λ v H' s r=>w v H' ((s1.trans s2).trans s) (r.wk λ p o _ q=>.inl ((s1.trans s2).free q))
     ·cases ez
    ·cases ez
 ·cases ez
end
def ddI(ns:List Int):List Int:=ns.foldl zDu []
theorem aHy(ns:List Int):zDi (λ i=>ns.getD i 0) ns.length=ddI ns:=by
 unfold zDi ddI;congr 1;refine zEv (by simp) λ i h1 h2=>?_
 rw[zCK,zGo,zAY,zAC h2];rfl
theorem aKA(hl:l.Nodup)(n:Int):(zDu l n).Nodup/\∀x,x∈zDu l n↔x∈l\/x=n:=by
 unfold zDu;by_cases h:l.any (·==n)=true
 ·rw[if_pos h]
  have:n∈l:=by simpa using h
  exact⟨hl,λ x=>⟨.inl,λ q=>q.elim id λ e=>e▸this⟩⟩
 ·rw[if_neg h]
  have:n∉l:=by simpa using h
  refine⟨zBC.mpr ⟨hl,by simp,λ x hx y hy e=>?_⟩,λ x=>by simp⟩;rw[zAR]at hy;subst hy;subst e;exact this hx
theorem aHx:∀(ns acc:List Int),acc.Nodup->(ns.foldl zDu acc).Nodup/\∀x,x∈ns.foldl zDu acc↔x∈acc\/x∈ns
 |[],acc,h=>⟨h,λ x=>by simp⟩
 |n::ns,acc,h=>by
  obtain⟨h1,h2⟩:=aKA h n;obtain⟨h3,h4⟩:=aHx ns _ h1;refine⟨h3,λ x=>?_⟩;rw[zBp,h4,h2,zAL];constructor
  ·rintro((a|a)|a)
   ·exact .inl a
   ·exact .inr (.inl a)
   ·exact .inr (.inr a)
  ·rintro(a|a|a)
   ·exact .inl (.inl a)
   ·exact .inl (.inr a)
   ·exact .inr a
theorem vD(ns:List Int):(ddI ns).Nodup:=(aHx ns [] (by simp)).1
theorem aJ8(ns:List Int)(x:Int):x∈ddI ns↔x∈ns:=by
 have:=(aHx ns [] (by simp)).2 x
 unfold ddI;simpa using this
theorem aM5(ns:List Int):(ddI ns).length<=ns.length:=sub_len (vD ns) λ x hx=>(aJ8 ns x).mp hx
section
variable{X:Cx}
def aGh(K:zAA):List V->Hp->VK->Prop:=λ xs H Q=>∃p ns,xs=[.ref p]/\(SqL K H p (ns.map V.int)\/SqT K H p (ns.map V.int))/\ns.length<4000/\∀a H',aa H H'->H' a=some (.set (λ k=>(ddI ns).any (·==k)) (ddI ns).length)->H a=none->Q (.ref a) H'
theorem aBt(I:Inv X pins σ H s)(q:∀a H',aa H H'->H' a=some (.set (λ k=>(ddI ns).any (·==k)) (ddI ns).length)->H a=none->Q (.ref a) H')
  (g1:h'.SetOf (zEt X.prog X.w) s.heap.objs.size (λ k'=>(zDi (λ i=>ns.getD i 0) ns.length).any (·==k')) (zDi (λ i=>ns.getD i 0) ns.length).length)(g2:∀b o,s.heap.get? b=some o->h'.get? b=some o):EP X pins σ Q (.ref s.heap.objs.size) {s with heap:=h',toks:=tk}:=by
 rw[aHy]at g1;have hfr:H s.heap.objs.size=none:=I.hok.fresh (zAO _);exact⟨.ref s.heap.objs.size,upd H s.heap.objs.size (.set (λ k=>(ddI ns).any (·==k)) (ddI ns).length),I.laid (t':=tk) g2 (zAO _) g1,rfl,q _ _ (bC hfr _) bB hfr⟩
theorem aBs{s:zAG}{St:Nat->zAG->Prop}(hl:l<s.heap.objs.size)(hi:zBO its ns)(hz:ns.length<4000)
  (W:WalksS prog w A.in1 (s.heap.objs.size+1) [s.heap.objs.size+1,l] [s.heap.objs.size+1] (λ a b=>b=a) its.toArray.size (λ i v=>its.toArray[i]? =some v) St)(st:St 0 {s with heap:=(s.heap.push (bW #[] 0 (.fresh 0 0 led))).push oI})
  (R:zDr->zAG->Prop)(hR:∀h' tk,h'.SetOf (zEt prog w) s.heap.objs.size (λ k'=>(zDi (λ i=>ns.getD i 0) ns.length).any (·==k')) (zDi (λ i=>ns.getD i 0) ns.length).length->(∀b o,s.heap.get? b=some o->h'.get? b=some o)->R (.ok (.ret .none)) {s with heap:=h',toks:=tk}):
  zBm (model prog w) A (.builtin "set.update.loop" ⟨[.ref s.heap.objs.size,.ref (s.heap.objs.size+1)],[]⟩) R {s with heap:=(s.heap.push (bW #[] 0 (.fresh 0 0 led))).push oI}:=by
 have hlen:its.length=ns.length:=IntsAre.length hi;have hSf:s.heap.objs.size∉[s.heap.objs.size+1,l]:=by
  simp only[zAL,zAu,or_false,not_or];exact⟨zAV (zBk _),zBn hl⟩
 have hsz:its.toArray.size=ns.length:=by rw[zAM];exact hlen
 refine PyProof.Rows.codeAny_set_update_loopS W s.heap.objs.size hSf (λ i=>ns.getD i 0) (λ i v hv=>zGf hi i v (by simpa using hv)) (by rw[hsz];unfold scanBound;lia) (its.toArray.size-0) 0 _ (by lia) (zAb _) st ?_ λ s' hm hS'=>?_
 ·have hget:((s.heap.push (bW #[] 0 (.fresh 0 0 led))).push oI).get? s.heap.objs.size=some (bW #[] 0 (.fresh 0 0 led)):=zAD _ (zAK _ rfl)
  exact PyProof.Rows.SetOf_congr ((PyProof.Rows.setObjOf_fresh (knd:=zEt prog w) led).setOf hget (by unfold scanBound;lia)) (λ _=>rfl) rfl
 ·obtain⟨h',g',d',tk',os'⟩:=s'
  have eg:g'=s.gens:=hm.gens;have ed:d'=s.drawn:=hm.drawn;have eo:os'=s.os:=hm.os;subst eg;subst ed;subst eo;rw[hsz]at hS';refine hR h' tk' hS' λ b o e=>hm.heap b o ?_ (zAD _ (zAD _ e))
  have hb:=zAP e;simp only[zAL,zAu,or_false,not_or];exact⟨zAV hb,zAV (zB0 hb)⟩
theorem aFm(hc:X.calm=true):cX X (.type "set") (aGh X.K):=by
 intro pins s σ H xs us Q I r h;obtain⟨p,ns,rfl,hp,hz,q⟩:=h;obtain⟨u,rfl,ru⟩:=vals1 r;cases ru;have hh:X.A.in1.in1.in1.handled=none:=I.ok.hd hc;have hsz:∀o:Obj,(s.heap.push o).objs.size=s.heap.objs.size+1:=λ o=>zBP _ _
 rcases hp with hp|hp
 ·obtain⟨its,rv,pl,_⟩:=I.list hp
  have hI:zBO its ns:=intsAre_of rv;have hl0:=pl.isList;obtain⟨ol,hol,hcl,nl,hdl⟩:=pl.isList;have hlS:p<s.heap.objs.size:=zAP hol;refine PySem.pM (T:="list") (Φ:=λ h'=>h'.SetOf (zEt X.prog X.w) s.heap.objs.size (λ k'=>(zDi (λ i=>ns.getD i 0) ns.length).any (·==k')) (zDi (λ i=>ns.getD i 0) ns.length).length) ⟨ol,hol,hcl⟩ F.sub_list_set zHD (by decide)
   (λ h₁ A₁ E₁ Q₁ k q=>zDw (s:={s with heap:=h₁}) (items:=its.toArray) ⟨ol,k _ _ hol,hcl,nl,hdl⟩ q) (λ R hR=>?_) λ h' tk g1 g2=>aBt I q g1 g2
  rw[hsz];refine aBs hlS hI hz ((zGv hh _ p (zAV (zB0 hlS)) its.toArray).toS) ⟨?_,?_⟩ R hR
  ·have e:=zAK (s.heap.push (bW #[] 0 (.fresh 0 0 (!X.w.params.followText "set-order")))) (o:={cls:=.type "list_iterator",data:=.fields #[.ref p,.int 0 0]}) rfl
   rw[hsz]at e;exact⟨_,e,rfl,rfl⟩
  ·exact⟨ol,zAD _ (zAD _ hol),hcl,nl,hdl⟩
 ·obtain⟨its,rv,pl,_⟩:=I.tuple hp
  have hI:zBO its ns:=intsAre_of rv;obtain⟨ol,hol,hcl,nl,hdl⟩:=id pl;have hlS:p<s.heap.objs.size:=zAP hol;refine PySem.pM (T:="tuple") (Φ:=λ h'=>h'.SetOf (zEt X.prog X.w) s.heap.objs.size (λ k'=>(zDi (λ i=>ns.getD i 0) ns.length).any (·==k')) (zDi (λ i=>ns.getD i 0) ns.length).length) ⟨ol,hol,hcl⟩ F.sub_tuple_set F.sub_tuple_frozenset (by decide)
   (λ h₁ A₁ E₁ Q₁ k q=>zC2 (s:={s with heap:=h₁}) (items:=its.toArray) ⟨ol,k _ _ hol,hcl,nl,hdl⟩ q) (λ R hR=>?_) λ h' tk g1 g2=>aBt I q g1 g2
  rw[hsz];refine aBs hlS hI hz ((zIV hh _ p (zAV (zB0 hlS)) its.toArray).toS) ⟨?_,?_⟩ R hR
  ·have e:=zAK (s.heap.push (bW #[] 0 (.fresh 0 0 (!X.w.params.followText "set-order")))) (o:={cls:=.type "tuple_iterator",data:=.fields #[.ref p,.int 0 0]}) rfl
   rw[hsz]at e;exact⟨_,e,rfl,rfl⟩
  ·exact⟨ol,zAD _ (zAD _ hol),hcl,nl,hdl⟩
theorem aFr:cX X (.builtin "len") (λ xs H Q=>∃p S n,xs=[.ref p]/\H p=some (.set S n)/\Q (.int n) H):=by
 intro pins s σ H xs us Q I r h;obtain⟨p,S,n,rfl,hp,q⟩:=h;obtain⟨u,rfl,ru⟩:=vals1 r;cases ru;obtain⟨o,es,ep,t,ho,hex,hd,_,_,hb,hf,hn⟩:=I.hok p _ hp
 have:(es.size:Int)<2^63:=by unfold scanBound at hb;lia
 refine PySem.call_len_set ho hex hd hf this ⟨.int n,H,(I.tok _).tok _,?_,q⟩;exact⟨_,by rw[hn]⟩
end
theorem aG7{K:zAA}(nd:l.Nodup)(h:H a=some (.set (λ k=>l.any (·==k)) l.length))(m:A a):Rp K A H (.ref a) (.set l):=.set h m (λ i=>by
 rw[zCW];simp) nd
def qI:List D->Rs D
 |[.lst l]=>match intsOf l with
  |some ns=>if ns.length<4000 then .ok (.set (ddI ns))else .st
  |none=>.st
 |[.tup l]=>match intsOf l with
  |some ns=>if ns.length<4000 then .ok (.set (ddI ns))else .st
  |none=>.st
 |_=>.st
theorem aM7{K:zAA}:aFH K (aGh K) qI:=by
 intro A xs ds H Q z r ez q;unfold qI at ez;split at ez
 ·cases r with
  |cons h r=>
   cases r;cases h with
   |lst h m r=>
    split at ez
    ·rename_i ns e
     have e1:=cu e;subst e1;split at ez
     ·rename_i hl
      cases ez;have e2:=r.ints_of;subst e2;exact⟨_,ns,rfl,.inl (SqL.of h),hl,λ a H' s ha hn=>q _ H' s (aG7 (vD ns) ha hn)⟩
     ·cases ez
    ·cases ez
 ·cases r with
  |cons h r=>
   cases r;cases h with
   |tup h r=>
    split at ez
    ·rename_i ns e
     have e1:=cu e;subst e1;split at ez
     ·rename_i hl
      cases ez;have e2:=r.ints_of;subst e2;exact⟨_,ns,rfl,.inr h,hl,λ a H' s ha hn=>q _ H' s (aG7 (vD ns) ha hn)⟩
     ·cases ez
    ·cases ez
 ·cases ez
def rZ:List D->Rs D
 |[.set l]=>.ok (.int l.length)
 |ds=>bZ ds
theorem aKE{K:zAA}:pQ K (λ xs H Q=>(∃p ys,xs=[.ref p]/\(SqL K H p ys\/SqT K H p ys)/\Q (.int ys.length) H)\/∃p S n,xs=[.ref p]/\H p=some (.set S n)/\Q (.int n) H) rZ:=by
 intro A xs ds H Q z r ez q;unfold rZ at ez;split at ez
 ·cases ez
  cases r with
  |cons h r=>
   cases r;cases h with
   |set h m hS nd=>exact .inr ⟨_,_,_,rfl,h,q _ H (aa.refl H) (.int _)⟩
 ·exact .inl (aIB A xs _ H Q z r ez q)
theorem aHa:∀x z,rZ x= .ok z->imm z=true:=by
 intro x z e;unfold rZ at e;split at e
 ·cases e;rfl
 ·exact aEx _ _ e
section
variable{C:Ct}{pos p:Pos}{m:Mode}{a:Expr}{ga:En->Rs (List D)}
theorem aGY(hm:C.mg "set"=none)(ha:SA C m [a] ga)(he:∀i,zAW [a] (C.X i).env=[(false,eval a (C.X i).env)]:=by intro _;rfl)(hg:∀i,Gl (C.X i) "set":=by intro _;rfl)(hv:zAn "set"=some (.type "set"):=by decide+kernel):SE C (some []) (.Call (.Name "set" p) [a] [] pos) (opA qI ga):=by
 obtain⟨t,h1,h2⟩:=ha;refine⟨_,λ i=>iU (r:=aGh C.K) (by rw[<-C.hK i];exact aFm (C.calm i)) (hg i) (by rw[(C.cx i).2.2.2.1];exact hm) hv (h1 i) (by decide) (by decide) (he i) rfl,aAk aM7 h2⟩
theorem aEY(hm:C.mg "len"=none)(ha:SA C m [a] ga)(he:∀i,zAW [a] (C.X i).env=[(false,eval a (C.X i).env)]:=by intro _;rfl)(hg:∀i,Gl (C.X i) "len":=by intro _;rfl):SE C (some []) (.Call (.Name "len" p) [a] [] pos) (opA rZ ga):=
 fY (mW (λ i=>by have h:=(uI (X:=C.X i)).or aFr;rw[C.hK i]at h;exact h) aKE hg hm zHk ha (by decide) (by decide) he) λ _ _ h=>qD aHa h
end
section
variable{K:zAA}{G:Gx}{wi:TI}{fi:En->Rs (List D)}{g:TG}{fg:D->En->Rs En}{tt:TT}
theorem aLC(hi:aIO K G wi fi)(hg:aIP K {G with E:=λ _ _ _=>False} g fg)(hfg:∀d,∃ρ1,fg d [.no]= .ok ρ1)(ht:aCw K {G with E:=λ _ _ _=>False} tt cJ)(R:RR K G τ ρ σ H lab)
  (W:WR G (fi (shE ρ)) (λ ds=>ds.length<zAT/\∀(l:Addr) (as:List Addr) H',aa H H'->H l=none->H' l=some (.lst (as.map V.ref))->(l::as).Nodup->as.length=ds.length->(∀a∈as,H a=none/\H' a=some (.lst []))->Q (.ref l) H')):
  tLC wi (stV [none]) g tt (aKU uR) σ H Q:=by
 refine hi τ σ H _ _ _ R.shE (W.imp λ ds _ w J H1 lab1 τ1 s1 _ R1 jl=>?_);obtain⟨hlen,w⟩:=w;intro l hl;have hHl:H l=none:=s1.free hl;have nl:∀p o,H1 p=some o->p≠l:=λ p o e z=>by subst z;rw[hl]at e;cases e
 have RB:RR K {G with E:=λ _ _ _=>False} (τ1++τ) [.no] (stV [none] σ) H1 (λ p=>if p=l then(2,0)else(0,0)):=by
  refine⟨rfl,λ i s e=>?_,R1.old,λ p hp=>?_,λ q hq=>(R1.tm q hq).wk λ p o e _=>by rw[if_neg (nl p o e)];exact zAb _⟩
  ·match i,e with
   |0,e=>cases e;exact .inl rfl
   |i+1,e=>simp at e
  ·by_cases z:p=l
   ·subst z;exact R1.old.free hl
   ·exact absurd (show(if p=l then((2,0):Nat×Nat)else(0,0)).1=0 by rw[if_neg z]) hp
 have labl:¬((λ p=>if p=l then((2,0):Nat×Nat)else(0,0)) l).1<=1:=by simp
 refine⟨λ i n acc H2=>∃as:List Addr,n=ds.length-i/\i<=ds.length/\acc=as.map V.ref/\H2 l=some (.lst acc)/\RR K {G with E:=λ _ _ _=>False} (τ1++τ) [.no] (stV [none] σ) H2 (λ p=>if p=l then(2,0)else(0,0))/\aa H H2/\as.length=i/\(l::as).Nodup/\∀a∈as,H a=none/\H2 a=some (.lst []),
  ⟨ds.length,[],by omega,by omega,rfl,bB,RB.up (bC hl _),s1.trans (bC hl _),rfl,by simp,λ a h=>by simp at h⟩,?_⟩
 rintro i n acc H2 ⟨as,rfl,hi',rfl,hH2,R2,s2,hlen2,hnd,hal⟩;refine⟨hH2,by rw[zAF];omega,?_⟩;have jj:=jl _ H2 λ q hq=>R2.tm q (zA6 _ hq)
 by_cases hlt:i<ds.length
 ·obtain⟨go,yl⟩:=(jj i).2 hlt
  refine .inr ⟨go,λ x H3 hy=>?_⟩;obtain⟨s3,d,ed,rx⟩:=yl x H3 hy;replace R2:=R2.up s3;replace hH2:=s3 _ _ hH2;replace s2:=s2.trans s3;replace hal:=λ a ha=>(⟨(hal a ha).1,s3 _ _ (hal a ha).2⟩:H a=none/\H3 a=some (.lst []))
  obtain⟨ρ1,e1⟩:=hfg d;refine hg (τ1++τ) x d _ H3 _ _ _ ρ1 R2 rx e1 λ σ4 R4=>?_
  refine ht (τ1++τ) σ4 H3 ρ1 _ _ R4 λ H5 s5=>?_
  rw[if_pos rfl];refine⟨zAb _,λ p H6 s6 hp hn=>?_⟩;have hl6:H6 l=some (.lst (as.map V.ref)):=s6 _ _ (s5 _ _ hH2);have hpl:p≠l:=λ z=>by subst z;rw[s5 _ _ hH2]at hn;cases hn
  have hpa:p∉as:=λ z=>by
   have:=s5 _ _ (hal p z).2
   rw[hn]at this;cases this
  have hpH:H p=none:=(s2.trans s5).free hn;have B:nG l H6 (upd H6 l (.lst (as.map V.ref++[.ref p]))):=λ b o ne hb=>by rw[bI ne];exact hb
  refine⟨hl6,ds.length-(i+1),by omega,as++[p],rfl,hlt,by rw[zAl];rfl,bB,?_,?_,by rw[zAX];simp;omega,?_,λ a ha=>?_⟩
  ·have R6:=R2.up (s5.trans s6)
   refine⟨R6.len,λ j s e=>?_,λ b o hb=>?_,R6.new,λ q hq=>(R6.tm q hq).but B hl6 rfl labl⟩
   ·match j,e with
    |0,e=>cases e;exact .inl rfl
    |j+1,e=>simp at e
   ·exact B b o (λ z=>by subst z;rw[R1.old.free hl]at hb;cases hb) (R6.old b o hb)
  ·exact λ b o hb=>B b o (λ z=>by subst z;rw[hHl]at hb;cases hb) (((s2.trans s5).trans s6) b o hb)
  ·obtain⟨n1,n2⟩:=zBD.mp hnd
   refine zBD.mpr ⟨λ z=>?_,zBC.mpr ⟨n2,by simp,λ x hx y hy e=>?_⟩⟩
   ·rcases zA4.mp z with z|z
    ·exact n1 z
    ·exact hpl (zAR.mp z).symm
   ·rw[zAR]at hy
    subst hy;subst e;exact hpa hx
  ·rcases zA4.mp ha with z|z
   ·refine⟨(hal a z).1,?_⟩
    rw[bI λ q=>by subst q;exact(zBD.mp hnd).1 z];exact s6 _ _ (s5 _ _ (hal a z).2)
   ·rw[zAR]at z
    subst z;exact⟨hpH,by rw[bI hpl];exact hp⟩
 ·have ei:i=ds.length:=by omega
  exact .inl ⟨by rw[ei];exact(jj _).1 (zAO _),w l as H2 s2 hHl hH2 hnd (by omega) hal⟩
end
section
variable{C:Ct}{pos lpos:Pos}{tg iter:Expr}{sc:Scope}{N:List Str}{js:List (Option Nat)}{ks:List Nat}{fi:En->Rs (List D)}{fg:D->En->Rs En}
def llS(i:Nat)(fi:En->Rs (List D))(js:List (Option Nat))(fg:D->En->Rs En):En->Ou:=λ ρ=>(fi (shE ρ)).bo λ ds=>if ds.length<zAT then .nx (ρ.set i (.o2 (zA1 ds.length [])))else .st
theorem aMw(hi:SI C tg iter fi)(hg:SG (C.blk sc N) tg ks fg)(hj:js=[none]:=by rfl)(hfg:∀d,∃ρ1,fg d [.no]= .ok ρ1:=by intro _;exact⟨_,rfl⟩)(hN:∀j,(C.X j).N[i]? =some x:=by intro _;rfl)(hx:∀j,Loc (C.X j).env.scope x:=by intro _;first|exact zC5 rfl|exact zBs rfl)(hsw:∀j,zCk (.ListComp (.List [] lpos) [⟨tg,iter,[],0⟩] sc pos) (some (.Name x pos')) spos.line (C.X j).env=pure true:=by intro _;rfl)(hs:∀i x,zBM iter (C.X i).env x=pure x:=by intro _ _;rfl)(hf:∀j,(C.X j).fn x=true\/(C.X j).env.scope.names.lookup x=some .local:=by intro _;first|exact .inl rfl|exact .inr rfl)(nd:∀j,(C.X j).N.Nodup:=by intro _;assumption)(hB:∀i,gD (C.X i) sc N (stV js) ks:=by intro _;exact aBb rfl rfl rfl rfl rfl rfl):
  SS C (.Assign [.Name x pos'] (.ListComp (.List [] lpos) [⟨tg,iter,[],0⟩] sc pos) spos) (llS i fi js fg):=by
 subst hj;obtain⟨wi,i1,i2⟩:=hi;obtain⟨g,g1,g2,g3,g4⟩:=hg;obtain⟨tt,t1,t2⟩:=jX (C:=C.blk sc N);refine⟨_,λ j=>aCG (nd j) (hN j) (hx j) (hB j) (C.calm j) (i1 j) (λ c fp s₀ H₀=>g1 (j,c,fp,s₀,H₀)) g3 (λ c fp s₀ H₀=>t1 (j,c,fp,s₀,H₀)) (λ c fp s₀ H₀=>aBE jE) (hsw j) (hs j) (hf j),λ τ σ H ρ lab De R W=>?_⟩;refine aLC i2 g2 hfg t2 R (W.bo.imp λ ds _ w=>?_);by_cases hl:ds.length<zAT
 ·rw[if_pos hl]at w
  refine⟨hl,λ l as H' s hn hH hnd hlen hal=>?_⟩;have hlab:∀p o,H p=some o->(λ p=>if p=l then(i+2,0)else if p∈as then(i+2,as.idxOf p+1)else cZ H 1 lab p) p=lab p:=λ p o e=>by
   dsimp only;have z1:p≠l:=λ z=>by subst z;rw[hn]at e;cases e
   have z2:p∉as:=λ z=>by rw[(hal p z).1]at e;cases e
   rw[if_neg z1,if_neg z2,bY e]
  have R':RR C.K C.G τ ρ σ H' (λ p=>if p=l then(i+2,0)else if p∈as then(i+2,as.idxOf p+1)else cZ H 1 lab p):=by
   refine(R.relab hlab λ p hp=>?_).up s;cases e:H p with
   |none=>exact R.old.free e
   |some o=>
    have:=hlab p o e
    dsimp only at this hp;rw[this]at hp;exact R.new p hp
  refine w _ _ _ (R'.put (s:=.o2 (zA1 ds.length [])) ⟨l,as.map V.ref,rfl,hH,by dsimp only;rw[if_pos rfl],by rw[zAF,zCX];exact hlen,λ j x es e1 e2=>?_⟩);rw[zAU,zCM]at e1;obtain⟨a,e1,rfl⟩:=e1;have ees:es=[]:=by
   rw[zCo]at e2;split at e2
   ·cases e2;rfl
   ·cases e2
  subst ees;have ha:a∈as:=zBB e1;have hla:a≠l:=λ z=>by subst z;exact(zBD.mp hnd).1 ha
  have hj2:j<as.length:=(zAI.mp e1).1;refine .lst (hal a ha).2 ?_ .nil
  show(if a=l then(i+2,0)else if a∈as then(i+2,as.idxOf a+1)else cZ H 1 lab a)=(i+2,j+1)
  rw[if_neg hla,if_pos ha];have hix:as.idxOf a<as.length:=List.idxOf_lt_length_iff.mpr ha
  have:as[as.idxOf a]? =some a:=by rw[zAC hix];exact congrArg some (List.getElem_idxOf hix)
  have:=(zCu hix (zBD.mp hnd).2).mp (this.trans e1.symm)
  rw[this]
 ·rw[if_neg hl]at w
  exact zAS w
end
def gm{α:Type}(l:List α)(i:Int)(y:α):List α:=l.take (if i<0 then(i+(l.length:Int)).toNat else min i.toNat l.length)++y::l.drop (if i<0 then(i+(l.length:Int)).toNat else min i.toNat l.length)
theorem aAO(l:List α)(i:Int)(y:α):(gm l i y).length=l.length+1:=by
 unfold gm;rw[zAX,zA8,zBQ,zCL];omega
def aK2:V->List V->Hp->VK->Prop:=λ x vs H Q=>∃l xs i y,x= .ref l/\vs=[.int i,y]/\H l=some (.lst xs)/\-(2^63)<=i/\i<2^63/\xs.length<zAT/\∀H',nG l H H'->H' l=some (.lst (gm xs i y))->Q .non H'
theorem aJ6:MtM X "list.insert" aK2:=by
 intro pins s σ H x vs v us Q I rx rv h;obtain⟨l,xs,i,y,rfl,rfl,hH,h1,h2,hz,q⟩:=h;cases rx;obtain⟨u1,u2,rfl,r1,r2⟩:=vals2 rv;obtain⟨t,rfl⟩:=r1;obtain⟨z,its,n,r,hl,e⟩:=I.lstM hH;have hf:zDB i=true:=by unfold zDB;simp;omega
 refine zE4 zFQ ⟨_,e,rfl⟩ PySem.F.entry_list_insert (PySem.F.args_list_insert_3 _ _ _) (zIC l its.toArray n i t u2 (by simp[hf]) (by rw[zAM];omega)) ⟨e,?_⟩;refine⟨.non,_,I.lset (ys:=gm xs i y) (its':=gm its i u2) hH e ?_ ?_ ?_,rfl,q _ (λ b o ne hb=>by rw[bI ne];exact hb) bB⟩
 ·show(its.toArray.extract 0 (if i<0 then(i+(its.toArray.size:Int)).toNat else min i.toNat its.toArray.size)).push u2++its.toArray.extract (if i<0 then(i+(its.toArray.size:Int)).toNat else min i.toNat its.toArray.size)=(gm its i u2).toArray
  rw[PySem.W.kl_ins_eq,zAM];rfl
 ·unfold gm
  rw[hl];exact(r.take _).append (.cons r2 (r.drop _))
 ·rw[aAO];omega
theorem Rps.gm{K:zAA}(r:Rps K A H xs ds)(h:Rp K A H x d)(i:Int):Rps K A H (VL.gm xs i x) (VL.gm ds i d):=by
 unfold VL.gm;rw[r.length];exact(r.take _).append (.cons h (r.drop _))
section
variable{C:Ct}{pos apos cpos p:Pos}{e e1 e2:Expr}{fe f1 f2:En->Rs D}{i:Nat}{x:Str}{m m1:Mode}
def aH4(i:Nat)(f1 f2:En->Rs D):En->Ou:=λ ρ=>match ρ[i]? with
 |some (.ow (.lst ds))=>(f1 ρ).bo λ k=>match k with
  | .int n=>(f2 ρ).bo λ d=>if -(2^63)<=n/\n<2^63/\ds.length<zAT then .nx (ρ.set i (.ow (.lst (gm ds n d))))else .st
  |_=>.st
 |_=>.st
theorem aFM(i:Nat)(he1:SE C m1 e1 f1)(he2:SE C m e2 f2)(hm:okN m=true:=by rfl)(hN:∀j,(C.X j).N[i]? =some x:=by intro _;rfl)(hv:∀j,Vis (C.X j).env.scope x:=by intro _;first|exact zC5 rfl|exact zBs (zC5 rfl)|exact zBs (zBs rfl))(hd:(x==("__debug__":Str))=false:=by decide)
  (hcd:(x==("__classdict__":Str))=false:=by decide)(hs1:∀j,zAW [e1,e2] (C.X j).env=(false,eval e1 (C.X j).env)::zAW [e2] (C.X j).env:=by intro _;rfl)(hs2:∀j,zAW [e2] (C.X j).env=[(false,eval e2 (C.X j).env)]:=by intro _;rfl)
  (hbase:∀j,zCy (.Name x p) "insert" (C.X j).env (eval (.Name x p) (C.X j).env)=eval (.Name x p) (C.X j).env:=by intro _;rfl)
  (hfew:∀j,((zCV cpos (zAW [e1,e2] (C.X j).env)).all (λ x=>!x.1)&&(zFE cpos (zD9 [] (C.X j).env)).all (λ x=>x.1.isSome)&&decide ([e1,e2].length+([]:List zDT).length+(if ([]:List zDT).isEmpty then 0 else 1)<30))=true:=by intro _;rfl)
  (hline:(apos.endLine==cpos.line)=true:=by rfl)(hplain:∀j,(zCV cpos (zAW [e2] (C.X j).env)).any (·.1)=false:=by intro _;rfl)
  (hsw:∀j,zCk (.Call (.Attribute (.Name x p) "insert" apos) [e1,e2] [] cpos) none pos.line (C.X j).env=pure false:=by intro _;rfl):
  SS C (.Expr (.Call (.Attribute (.Name x p) "insert" apos) [e1,e2] [] cpos) pos) (aH4 i f1 f2):=by
 obtain⟨t1,a1,a2⟩:=he1;obtain⟨t2,b1,b2⟩:=he2;refine⟨aBl (tBM C.K "list" aK2 (zK i) (kI t1 (kI t2 uR))),λ j=>tD (by rw[<-C.hK j];exact aEb zCg zFQ PySem.F.type_list_insert aJ6 (nW (hN j) (hv j) hd hcd) (eX (a1 j) (eX (b1 j) jE (hs2 j)) (hs1 j)) (hbase j) (hfew j) hline (hs1 j) (hplain j)) (hsw j),λ τ σ H ρ lab De R W=>?_⟩;unfold aH4 at W;cases es:ρ[i]? with
 |none=>rw[es]at W;exact zAS W
 |some s=>
  rw[es]at W;split at W
  ·rename_i ds hs
   cases hs;rcases R.sl i _ es with z|⟨v,ev,hv'⟩
   ·cases z
   ·obtain⟨hv1,htop⟩:=hv'
    obtain⟨a0,ea0,la0⟩:=htop rfl;subst ea0;cases hv1 with
    |lst h mm r=>
     rename_i xs;refine⟨.ref a0,ev,.inl ⟨rfl,xs,SqL.of h⟩,a2 τ σ H ρ lab _ R (W.bo.imp λ k _ w y1 H1 s1 r1=>?_)⟩;cases k with
     |int n=>
      cases r1;refine b2 τ σ H1 ρ lab _ (R.up s1) (w.bo.imp λ d _ w y H2 s2 r2=>?_);by_cases hz: -(2^63)<=n/\n<2^63/\ds.length<zAT
      ·rw[if_pos hz]at w
       refine⟨a0,xs,n,y,rfl,rfl,(s1.trans s2) _ _ h,hz.1,hz.2.1,by rw[r.length];exact hz.2.2,λ H3 B h3=>?_⟩;obtain⟨R',r'⟩:=(R.up s1).fresh (P:=λ k=>k=1) rfl (λ k hk=>beq_iff_eq.mp (pZ hm k hk)) s2 r2;have h1:H1 a0=some (.lst xs):=s1 _ _ h;have la:(cZ H1 1 lab a0).1=i+2:=by rw[bY h1];exact la0
       refine w σ H3 _ (R'.mut ev (s2 _ _ h1) rfl la B ⟨.lst h3 (.inr la) ?_,λ _=>⟨a0,rfl,la⟩⟩);have ra:Rps C.K (λ p=>((cZ H1 1 lab p).1=1\/(cZ H1 1 lab p).1=i+2)/\p≠a0) H2 (gm xs n y) (gm ds n d):=by
        refine(r.mono (s1.trans s2) λ p o e z=>⟨by rw[bY (s1 _ _ e)];exact z.1,z.2⟩).gm (r'.wk λ p o e z=>⟨.inl z,λ q=>?_⟩) n;subst q;rw[la]at z;omega
       exact ra.but B (s2 _ _ h1) rfl λ z=>z.2 rfl
      ·rw[if_neg hz]at w
       exact zAS w
     |_=>exact zAS w
  ·exact zAS W
end
theorem aFn(hc:X.calm=true):cX X (.builtin "min") (λ xs H Q=>∃(p:Addr) (ns:List Int) (m:Int),xs=[.ref p]/\SqT X.K H p (ns.map V.int)/\ns.min?=some m/\Q (.int m) H):=by
 intro pins s σ H xs us Q I r h;obtain⟨p,ns,m,rfl,hp,hm,q⟩:=h;obtain⟨u,rfl,ru⟩:=vals1 r;cases ru;obtain⟨its,rv,pl,hz⟩:=I.tuple hp;obtain⟨ts,rfl,rfl⟩:=uw rv;have hsz:0<ts.toArray.size:=by
  cases ts with
  |nil=>cases hm
  |cons a b=>simp
 have hl:s.heap.IsTuple p (zFF ts.toArray):=by
  obtain⟨o,h1,h2,n,h3⟩:=pl;exact⟨o,h1,h2,n,by rw[h3];simp[zFF]⟩
 have hlt:p<s.heap.objs.size:=by obtain⟨_,e,_⟩:=hl;exact zAP e
 refine call_min_walk (zC2 hl ?_);refine⟨_,_,_,_,_,_,_,rfl,zIV (A:=X.A.in1) (I.ok.hd hc) _ p (zAV hlt) (zFF ts.toArray),⟨⟨_,zAK _ rfl,rfl,rfl⟩,hl.push _⟩,λ b hb=>?_,by simpa[zFF]using hsz,CmpOf.ints_lt (numAt ts.toArray) (λ _ _=>zHt),λ v h' tk hv hk=>?_⟩
 ·show b<(s.heap.push _).objs.size
  rw[zBP];simp only[zAL,zAu,or_false]at hb;rcases hb with e|e<;>subst e
  ·exact zBk _
  ·exact zB0 hlt
 have hv':(zFF ts.toArray)[argBest (λ i j=>decide (numAt ts.toArray i<numAt ts.toArray j)) (ts.toArray.size-1)]? =some v:=by simpa[zFF]using hv
 obtain⟨t,rfl⟩:=zHt hv';obtain⟨h1,h2⟩:=argBest_lt (numAt ts.toArray) (ts.toArray.size-1);have hM:(ts.map zFC).min?=some (numAt ts.toArray (argBest (λ i j=>decide (numAt ts.toArray i<numAt ts.toArray j)) (ts.toArray.size-1))):=by
  rw[zGP];refine⟨?_,λ a ha=>?_⟩
  ·rw[zIH];exact getD_mem (by rw[zAF];simp at h1 hsz ⊢;omega)
  ·obtain⟨j,hj,rfl⟩:=mem_getD ha
   have:=h2 j (by rw[zAF]at hj;simp;omega)
   rw[zIH _ j]at this;exact this
 rw[hm]at hM;injection hM with hM
 refine⟨.int m,H,I.kept λ b o e=>hk b o (λ z=>?_) (zAD _ e),⟨t,by rw[hM]⟩,q⟩;rw[zAR]at z;exact absurd (z▸zAP e) (zBS _)
def o7(f:List Int->Option Int):List D->Rs D
 |[.tup l]=>match intsOf l with
  |some ns=>match f ns with
   |some m=>.ok (.int m)
   |none=>.st
  |none=>.st
 |ds=>aCJ f ds
theorem aIA{K:zAA}:pQ K (λ xs H Q=>(∃(p:Addr) (ns:List Int) (m:Int),xs=[.ref p]/\SqT K H p (ns.map V.int)/\f ns=some m/\Q (.int m) H)\/∃(p:Addr) (ns:List Int) (m:Int),xs=[.ref p]/\H p=some (.lst (ns.map V.int))/\f ns=some m/\Q (.int m) H) (o7 f):=by
 intro A xs ds H Q z r ez q;unfold o7 at ez;split at ez
 ·split at ez
  ·rename_i l ns e
   split at ez
   ·rename_i m em
    cases ez
    have:=cu e
    subst this;cases r with
    |cons h r=>
     cases r;cases h with
     |tup h r=>
      have:=r.ints_of
      subst this;exact .inl ⟨_,ns,m,rfl,h,em,q _ H (aa.refl H) (.int _)⟩
   ·cases ez
  ·cases ez
 ·exact .inr (aKC A xs _ H Q z r ez q)
theorem aFf:∀x z,o7 f x= .ok z->imm z=true:=by
 intro x z e;unfold o7 at e;split at e
 ·split at e
  ·split at e
   ·cases e;rfl
   ·cases e
  ·cases e
 ·exact aH7 _ _ e
section
variable{C:Ct}{pos p:Pos}{a:Expr}{ga:En->Rs (List D)}{m:Mode}
theorem aEX(hm:C.mg "min"=none)(ha:SA C m [a] ga)(he:∀i,zAW [a] (C.X i).env=[(false,eval a (C.X i).env)]:=by intro _;rfl)(hg:∀i,Gl (C.X i) "min":=by intro _;rfl)(hv:zAn "min"=some (.builtin "min"):=by decide+kernel):SE C (some []) (.Call (.Name "min" p) [a] [] pos) (opA (o7 zE2) ga):=
 fY (mW (λ i=>by have h:=(aFn (X:=C.X i) (C.calm i)).or (aFo (C.calm i));rw[C.hK i]at h;exact h) aIA hg hm hv ha (by decide) (by decide) he) λ _ _ h=>qD aFf h
end
theorem zY:∀{us:List α},us.length=1->∃a0,us=[a0]
 |[a0],_=>⟨a0,rfl⟩
theorem qP:∀{us:List α},us.length=2->∃a0 a1,us=[a0,a1]
 |[a0,a1],_=>⟨a0,a1,rfl⟩
theorem aNY:∀{us:List α},us.length=3->∃a0 a1 a2,us=[a0,a1,a2]
 |[a0,a1,a2],_=>⟨a0,a1,a2,rfl⟩
theorem aMF:∀{us:List α},us.length=4->∃a0 a1 a2 a3,us=[a0,a1,a2,a3]
 |[a0,a1,a2,a3],_=>⟨a0,a1,a2,a3,rfl⟩
theorem aF6:∀{us:List α},us.length=6->∃a0 a1 a2 a3 a4 a5,us=[a0,a1,a2,a3,a4,a5]
 |[a0,a1,a2,a3,a4,a5],_=>⟨a0,a1,a2,a3,a4,a5,rfl⟩
section
variable{K:zAA}{G:Gx}{wi:TI}{fi:En->Rs (List D)}{js:List (Option Nat)}{g:TG}{fg:D->En->Rs En}{tt:TT}{ft:En->Rs Bool}{te:TE}{fe:En->Rs D}
end
section
variable{C:Ct}{pos:Pos}{elt tg iter:Expr}{ifs:List Expr}{sc:Scope}{N:List Str}{js:List (Option Nat)}{ks:List Nat}{fi:En->Rs (List D)}{fg:D->En->Rs En}{ft:En->Rs Bool}{fe:En->Rs D}
end
section
variable{C:Ct}{pos apos cpos p:Pos}{e a:Expr}{fe fa:En->Rs D}{i:Nat}{x:Str}{m:Mode}
end
section
variable{C:Ct}{pos tpos p:Pos}{ek e:Expr}{fk fe:En->Rs D}{x:Str}{m m1:Mode}{op:Operator}{g:Int->Int->Int}
end
def dw(j:Int):List Int:=(zAc j.toNat).map λ(k:Nat)=>0+(k:Int)
def aLN:List V->Hp->VK->Prop:=λ xs H Q=>∃j:Int,xs=[.int j]/\∀p,H p=none->Q (.ref p) (upd H p (.rng 0 j))
theorem aCr:cX X (.type "range") aLN:=by
 intro pins s σ H vs us Q I rv h;obtain⟨j,rfl,q⟩:=h;obtain⟨u,rfl,ru⟩:=rv.one;obtain⟨t,rfl⟩:=ru;exact call_range_1 ⟨.ref s.heap.objs.size,_,I.laid (a:=s.heap.objs.size) (o:=.rng 0 j) (t':=s.toks+1+1) (λ _ _ q=>zAD _ q) (zAO _) ⟨_,_,_,zAK _ rfl⟩,rfl,q _ (I.hok.fresh (zAO _))⟩
def aCF:List V->Hp->VK->Prop:=λ xs H Q=>∃(p:Addr) (j:Int),xs=[.ref p]/\H p=some (.rng 0 j)/\-(2^62)<=j/\j<=10000/\∀l H',aa H H'->H l=none->H' l=some (.lst ((dw j).map V.int))->Q (.ref l) H'
theorem aEO:∀{ns:List Int} {us:List Value},ns.length=us.length->(∀(k:Nat) i,ns[k]? =some i->∃tk,us[k]? =some (.int i tk))->Vals (ns.map V.int) us:=by
 intro ns;induction ns with
 |nil=>intro us hl _;rw[List.eq_nil_of_length_eq_zero hl.symm];exact .nil
 |cons n ns ih=>
  intro us hl h;obtain⟨tk,e⟩:=h 0 n rfl;cases us with
  |nil=>cases e
  |cons u us=>
   have e':u= .int n tk:=zAr e;subst e';exact .cons ⟨tk,rfl⟩ (ih (zH7 hl) λ k i hi=>h (k+1) i hi)
theorem aB9(hc:X.calm=true):cX X (.type "list") aCF:=by
 intro pins s σ H vs us Q I rv h;obtain⟨p,j,rfl,hp,h1,h2,q⟩:=h;obtain⟨u,rfl,ru⟩:=rv.one;cases ru;obtain⟨t,u,v,hg⟩:=I.hok p _ hp;have hsz:zBL 0 j 1=(j.toNat:Int):=by
  unfold zBL;simp only[show(1:Int)>0 by decide,if_true];split<;>lia
 refine call_list_range (n:=j.toNat) (I.ok.hd hc) hg ?_ hsz (by lia) λ h' tk acc c' hk hS hacc=>?_
 ·have fl:∀x:Int,-(2^62)<=x->x<=2^62->zCD x=true:=λ x hx1 hx2=>by
   unfold zCD;simp;lia
  unfold zCU;rw[hsz,fl 0 (by lia) (by lia),fl j (by lia) (by lia),fl 1 (by lia) (by lia),fl _ (by lia) (by lia),if_pos (by decide),fl (j+(1-1)) (by lia) (by lia),zIK];rfl
 ·have hfr:=I.hok.fresh (zAO s.heap.objs.size)
  have hv:Vals ((dw j).map V.int) acc.toList:=by
   have hl:(dw j).length=acc.toList.length:=by rw[show acc.toList.length=acc.size from zA0,hacc.1];simp[dw]
   refine aEO hl λ k i hi=>?_
   have hk2:k<acc.size:=by rw[hacc.1];have:=(zAI.mp hi).1;simpa[dw]using this
   obtain⟨tk,e⟩:=hacc.2 k acc[k] (zBe hk2);refine⟨tk,?_⟩;have ei:i=0+(k:Int)*1:=by
    unfold dw at hi;rw[zAU]at hi;cases c:(zAc j.toNat)[k]? with
    |none=>rw[c]at hi;cases hi
    |some m=>
     rw[c]at hi;cases hi
     have:=zAI.mp c
     have:m=k:=by simpa using this.2.symm
     subst this
     show(0:Int)+(m:Int)=0+(m:Int)*1
     lia
   rw[ei,<-e];simp[hk2]
  refine⟨.ref s.heap.objs.size,upd H s.heap.objs.size (.lst ((dw j).map V.int)),I.laid (t':=tk) hk (zAO _) ⟨?_,acc.toList,c',hv,by simpa using hS⟩,rfl,q _ _ (bC hfr _) hfr bB⟩;simp[dw]
  have:zAT=16777216:=zB9
  lia
def lrR:D->Rs D
 | .int j=>if -(2^62)<=j/\j<=10000 then .ok (.lst (bj 0 j))else .st
 |_=>.st
def lrD(fa:En->Rs D):En->Rs D:=λ ρ=>(fa ρ).bd lrR
theorem pW(j:Int):bj 0 j=(dw j).map D.int:=by
 unfold bj dw;rw[zAw,Int.sub_zero];rfl
section
variable{C:Ct}{pos pos2 p p2:Pos}{a:Expr}{fa:En->Rs D}{m:Mode}
theorem rH(hmL:C.mg "list"=none)(hmR:C.mg "range"=none)(ha:SE C m a fa)(hs:∀i,zAW [a] (C.X i).env=[(false,eval a (C.X i).env)]:=by intro _;rfl)(hs2:∀i,zAW [.Call (.Name "range" p2) [a] [] pos2] (C.X i).env=[(false,eval (.Call (.Name "range" p2) [a] [] pos2) (C.X i).env)]:=by intro _;rfl)(hgL:∀i,Gl (C.X i) "list":=by intro _;rfl)(hvL:zAn "list"=some (.type "list"):=by decide+kernel)(hgR:∀i,Gl (C.X i) "range":=by intro _;rfl):SE C (some []) (.Call (.Name "list" p) [.Call (.Name "range" p2) [a] [] pos2] [] pos) (lrD fa):=by
 obtain⟨t,h1,h2⟩:=ha;refine⟨tCB aCF (kI (tCB aLN (kI t uR)) uR),λ i=>iU (aB9 (C.calm i)) (hgL i) (by rw[(C.cx i).2.2.2.1];exact hmL) hvL (eX (iU aCr (hgR i) (by rw[(C.cx i).2.2.2.1];exact hmR) zGh (eX (h1 i) jE (hs i)) (by decide) (by decide) (hs i) rfl) jE (hs2 i)) (by decide) (by decide) (hs2 i) rfl,λ τ σ H ρ lab Q R W=>?_⟩;refine h2 τ σ H ρ lab _ R (W.bd.imp λ d _ w y H1 s1 r1=>?_);unfold lrR at w;split at w
 ·rename_i j _
  by_cases hz: -(2^62)<=j/\j<=10000
  ·rw[if_pos hz]at w
   have ey:=r1.int_inv;subst ey;refine⟨j,rfl,λ q hq=>⟨q,j,rfl,bB,hz.1,hz.2,λ l H' s' hl hH'=>?_⟩⟩;have s0:=(s1.trans (bC hq _)).trans s';have hlH:H l=none:=(s1.trans (bC hq _)).free hl;refine w _ H' s0 (.lst hH' (.inl hlH) ?_);rw[pW];exact Rps.ints
  ·rw[if_neg hz]at w
   exact zAS w
 ·exact zAS w
end
def aMb(ρ:En)(i:Nat)(ds:List Int):D->Ou
 | .int z=>if ds.length<4000 then .nx (ρ.set i (.ow (.set (zDu ds z))))else .st
 |_=>.st
section
variable{C:Ct}{pos apos cpos p:Pos}{e a:Expr}{fe fa:En->Rs D}{i:Nat}{x:Str}{m:Mode}
end
section
variable{C:Ct}{pos p:Pos}{a b:Expr}{fa fb:En->Rs D}{m1 m2:Mode}
end
section
variable{prog:zA7}{w:World}{A:zAk}{E:Value->zAG->Prop}{s:zAG}{r:Addr}{a b c:Int}{t u v:Tok}{n:Nat}
def PR(a c:Int):Nat->Value->Prop:=λ i v=>∃t,v= .int (a+i*c) t
theorem aCn(hh:A.handled=none)(hr:IsRange s.heap r a b c t u v)(hsmall:zCU a b c=true)(hn:zBL a b c=n)(hlen:n<=2^24)
  (h:∀h' tk vs,s.heap.objs.size<h'.objs.size->(∀b o,s.heap.get? b=some o->h'.get? b=some o)->vs.length=n->(∀(j:Nat) v,vs[j]? =some v->PR a c j v)->Q vs {s with heap:=h',toks:=tk}):wpAny (model prog w) A (zHs (.ref r)) Q E s:=by
 unfold zHs;refine zAB (zEj (zBT zEm ?_));rw[zBA zEn _];show wpAny _ A.in1 (zFZ []>>=λ l=>again (.builtin "list.__iadd__" ⟨[l,.ref r],[]⟩)) _ _ s;refine zAB (zAg (zAE ⟨zFG zCh _,zBT zFV ?_⟩));rw[zBA zCh _];show wpAny _ A.in1 (zEN (.ref s.heap.objs.size) (.ref r) (.ref s.heap.objs.size)) _ _ _;have fin:∀h' tk acc' c',(∀b o,b≠s.heap.objs.size->(s.heap.push (zBz "list" #[] 0)).get? b=some o->h'.get? b=some o)->h'.get? s.heap.objs.size=some {cls:=.type "list",dict:=none,data:=.seq acc' c',slots:=#[]}->ItemsOf (PR a c) acc' n->
   wpAny (model prog w) A (do match (zBG s.heap.objs.size)with
    | .ref a=>match (<-load a).data with
     | .seq xs _=>pure xs.toList
     |_=>zGH "internal:collect"
    |_=>zGH "internal:collect") Q E {s with heap:=h',toks:=tk}:=λ h' tk acc' c' hk hS' hacc=>
  zAB (zI1 hS' (zAE (h h' tk acc'.toList (zAP hS') (λ b o e=>hk b o (zAV (zAP e)) (zAD _ e)) (by rw[zA0];exact hacc.1) λ j v e=>hacc.2 j v (by rw[<-zBE];exact e))))
 refine zBH (wpAny_extend_range (A:=A) (s:={s with heap:=s.heap.push (zBz "list" #[] 0)}) (R:=λ r s'=>∃h' tk acc' c',r= .ok (.ret (.ref s.heap.objs.size))/\s'={s with heap:=h',toks:=tk}/\(∀b o,b≠s.heap.objs.size->(s.heap.push (zBz "list" #[] 0)).get? b=some o->h'.get? b=some o)/\h'.get? s.heap.objs.size=some {cls:=.type "list",dict:=none,data:=.seq acc' c',slots:=#[]}/\ItemsOf (PR a c) acc' n)
  hh (zAD _ hr) hsmall hn hlen s.heap.objs.size (.ref s.heap.objs.size) 0 (zAK _ rfl) (λ h' tk acc' c' hk hS' hacc=>⟨h',tk,acc',c',rfl,rfl,hk,hS',hacc⟩)) (λ f s' hf=>?_) λ e s' he=>?_
 ·cases f with
  |done f=>
   obtain⟨h',tk,acc',c',q1,q2,q3,q4,q5⟩:=hf;cases q1;subst q2;exact fin h' tk acc' c' q3 q4 q5
  |again c=>
   refine⟨hf.1,zCs hf.2 λ r s' hr=>?_⟩;obtain⟨h',tk,acc',c',q1,q2,q3,q4,q5⟩:=hr;subst q1 q2;exact fin h' tk acc' c' q3 q4 q5
 ·obtain⟨h',tk,acc',c',q1,_⟩:=he
  cases q1
end
theorem vz(r:Addr)(a b c:Int)(t u v:Tok)(n:Nat)(hsmall:zCU a b c=true)(hn:zBL a b c=n)(hlen:n<=10000):
  Meets (zCO.«tuple.__new__» ⟨[.type "tuple",.ref r],[]⟩)
   (λ A R s=>A.handled=none/\IsRange s.heap r a b c t u v/\∀(h':Heap) (tk:Nat) (vs:List Value),s.heap.objs.size<h'.objs.size->(∀b o',s.heap.get? b=some o'->h'.get? b=some o')->vs.length=n->(∀(j:Nat) v,vs[j]? =some v->PR a c j v)->
    R (.ok (.ret (.ref h'.objs.size))) {s with heap:=h'.push {cls:=.type "tuple",data:=.seq vs.toArray},toks:=tk}):=
 .of_wp λ prog w A R s h=>by
  obtain⟨hp,g,d,tk,os⟩:=s;obtain⟨hh,ht,h⟩:=h;have hsub:=sub_tuple_self;have hinit:=init_tuple_lookup;have hmh:=madeHere_tuple;have hT:zDc ⟨hp,g,d,tk,os⟩ (.ref r) "range":=⟨_,ht,rfl⟩;wp_walk using zBl ht,zCt hT,aCn (A:=A.in1) (show A.in1.handled=none from hh) ht hsmall hn (zAf hlen (by decide));intro h' tk' vs hlt hk hl hv;show wpAny _ _ (zAs vs.toArray>>=λ v=>ret v) _ _ _;unfold zAs;refine zAB (zAg ?_ (by show vs.toArray.size<=zAT;rw[zAM,hl,zB9];lia));exact zAE ⟨_,rfl,h h' tk' vs hlt hk hl hv⟩
def aE6:List V->Hp->VK->Prop:=λ xs H Q=>∃(p:Addr) (j:Int),xs=[.ref p]/\H p=some (.rng 0 j)/\-(2^62)<=j/\j<=10000/\∀l H',aa H H'->H l=none->H' l=some (.tup ((dw j).map V.int))->Q (.ref l) H'
theorem aFN(h1: -(2^62)<=j)(h2:j<=10000):zBL 0 j 1=(j.toNat:Int)/\zCU 0 j 1=true:=by
 have hsz:zBL 0 j 1=(j.toNat:Int):=by
  unfold zBL;simp only[show(1:Int)>0 by decide,if_true];split<;>lia
 refine⟨hsz,?_⟩;have fl:∀x:Int,-(2^62)<=x->x<=2^62->zCD x=true:=λ x hx1 hx2=>by
  unfold zCD;simp;lia
 unfold zCU;rw[hsz,fl 0 (by lia) (by lia),fl j (by lia) (by lia),fl 1 (by lia) (by lia),fl _ (by lia) (by lia),if_pos (by decide),fl (j+(1-1)) (by lia) (by lia),zIK];rfl
theorem aCq(hc:X.calm=true):cX X (.type "tuple") aE6:=by
 intro pins s σ H vs us Q I rv h;obtain⟨p,j,rfl,hp,h1,h2,q⟩:=h;obtain⟨u,rfl,ru⟩:=rv.one;cases ru;obtain⟨t,u,v,hg⟩:=I.hok p _ hp;obtain⟨hsz,hsm⟩:=aFN h1 h2;refine callType_new PySem.F.called_tuple (by decide) (PySem.F.typeCall_tuple_1 _) (PySem.F.newCall_tuple_1 _) (λ obj=>zFq obj _) PySem.F.entry_tuple_new
  (vz p 0 j 1 t u v j.toNat hsm hsz (by lia)) ⟨I.ok.hd hc,hg,λ h' tk vs hlt hk hl hv=>⟨⟨_,zAK _ rfl,rfl⟩,?_⟩⟩
 have hle:s.heap.objs.size<=h'.objs.size:=zBg hlt;have hv2:Vals ((dw j).map V.int) vs:=by
  have hl2:(dw j).length=vs.length:=by rw[hl];simp[dw]
  refine aEO hl2 λ k i hi=>?_
  have hk2:k<vs.length:=by rw[<-hl2];exact(zAI.mp hi).1
  obtain⟨tk,e⟩:=hv k vs[k] (zAC hk2);refine⟨tk,?_⟩;have ei:i=0+(k:Int)*1:=by
   unfold dw at hi;rw[zAU]at hi;cases c:(zAc j.toNat)[k]? with
   |none=>rw[c]at hi;cases hi
   |some m=>
    rw[c]at hi;cases hi
    have:=zAI.mp c
    have:m=k:=by simpa using this.2.symm
    subst this
    show(0:Int)+(m:Int)=0+(m:Int)*1
    lia
  rw[ei,<-e];exact zAC hk2
 have hfr:H h'.objs.size=none:=I.hok.fresh hle;refine⟨.ref h'.objs.size,upd H h'.objs.size (.tup ((dw j).map V.int)),I.laid (t':=tk) (λ b o e=>zAD _ (hk b o e)) hle ⟨⟨?_,NoD.push _⟩,vs,hv2,?_⟩,rfl,q _ _ (bC hfr _) hfr bB⟩
 ·simp[dw]
  have:zAT=16777216:=zB9
  lia
 ·exact⟨_,zAK _ rfl,rfl,0,rfl⟩
def trR:D->Rs D
 | .int j=>if -(2^62)<=j/\j<=10000 then .ok (.tup (bj 0 j))else .st
 |_=>.st
def trD(fa:En->Rs D):En->Rs D:=λ ρ=>(fa ρ).bd trR
section
variable{C:Ct}{pos pos2 p p2:Pos}{a:Expr}{fa:En->Rs D}{m:Mode}
theorem aFS(hmL:C.mg "tuple"=none)(hmR:C.mg "range"=none)(ha:SE C m a fa)(hs:∀i,zAW [a] (C.X i).env=[(false,eval a (C.X i).env)]:=by intro _;rfl)(hs2:∀i,zAW [.Call (.Name "range" p2) [a] [] pos2] (C.X i).env=[(false,eval (.Call (.Name "range" p2) [a] [] pos2) (C.X i).env)]:=by intro _;rfl)(hgL:∀i,Gl (C.X i) "tuple":=by intro _;rfl)(hvL:zAn "tuple"=some (.type "tuple"):=by decide+kernel)(hgR:∀i,Gl (C.X i) "range":=by intro _;rfl):SE C (some []) (.Call (.Name "tuple" p) [.Call (.Name "range" p2) [a] [] pos2] [] pos) (trD fa):=by
 obtain⟨t,h1,h2⟩:=ha;refine⟨tCB aE6 (kI (tCB aLN (kI t uR)) uR),λ i=>iU (aCq (C.calm i)) (hgL i) (by rw[(C.cx i).2.2.2.1];exact hmL) hvL (eX (iU aCr (hgR i) (by rw[(C.cx i).2.2.2.1];exact hmR) zGh (eX (h1 i) jE (hs i)) (by decide) (by decide) (hs i) rfl) jE (hs2 i)) (by decide) (by decide) (hs2 i) rfl,λ τ σ H ρ lab Q R W=>?_⟩;refine h2 τ σ H ρ lab _ R (W.bd.imp λ d _ w y H1 s1 r1=>?_);unfold trR at w;split at w
 ·rename_i j _
  by_cases hz: -(2^62)<=j/\j<=10000
  ·rw[if_pos hz]at w
   have ey:=r1.int_inv;subst ey;refine⟨j,rfl,λ q hq=>⟨q,j,rfl,bB,hz.1,hz.2,λ l H' s' hl hH'=>?_⟩⟩;refine w _ H' ((s1.trans (bC hq _)).trans s') (.tup (SqT.of hH') ?_);rw[pW];exact Rps.ints
  ·rw[if_neg hz]at w
   exact zAS w
 ·exact zAS w
end
section
variable{prog:zA7}{w:World}{A:zAk}{E:Value->zAG->Prop}{s:zAG}{it t:Addr}{i:Nat}{items:Array Value}
theorem NoD.at{h:Heap}{a:Addr}{o:Obj}(e:h.get? a=some o)(hd:o.dict=none:=by rfl):L2.NoD h a:=λ u q=>by rw[e]at q;cases q;exact hd
theorem aDe(hit:s.heap.IsTupleIter it t i)(ht:s.heap.IsTuple t items)(hx:items[i]? =some x)
  (hQ:∀h',h'.IsTupleIter it t (i+1)->zDX it s.heap h'->Q x {s with heap:=h'}):wpAny (model prog w) A (zCE (.ref it)) Q E s:=by
 obtain⟨o,ho,hc,hd⟩:=id hit;obtain⟨ol,hol,_,nl,hdl⟩:=ht;unfold zCE;refine zAB (zBV (name:=zCj "__next__") hit.typeIs zC7 (zB1 zC7 hit.typeIs zF7 ?_ (zF4 _)));show wpAny _ _ (field (.ref it) 0>>=_) _ _ s;refine zAB (zCS ho hd (x:=.ref t) rfl ?_);show wpAny _ _ (if (zBG t==zBI)=true then _ else _) _ _ s;rw[if_neg (show¬((zBG t==zBI)=true)from zA2)];show wpAny _ _ (field (.ref it) 1>>=_) _ _ s;refine zAB (zCS ho hd (x:=.int i 0) rfl ?_);show wpAny _ _ (seqItems? (.ref t)>>=_) _ _ s;refine zAB (zEk hol hdl ?_);simp only[zBf,hx];refine zAB (zDo ho hd (by simp) (zAE ⟨x,rfl,zAE (hQ _ ⟨_,zDx _ ho (zG3 (zE7 hd _)),(Obj.cls_mapFields ..).trans hc,by rw[zE7 hd];simp[zGE]⟩ (zB4 ..))⟩))
theorem aAJ(hh:A.handled=none)(hit:s.heap.IsTupleIter it t i)(ht:s.heap.IsTuple t items)(hx:items[i]? =none)
  (hE:∀h' e,Heap.ExtBut it s.heap h'->(∃o,h'.get? e=some o/\o.cls= .type "StopIteration")->E (.ref e) {s with heap:=h'}):wpAny (model prog w) A (zCE (.ref it)) Q E s:=by
 obtain⟨o,ho,hc,hd⟩:=id hit;obtain⟨ol,hol,_,nl,hdl⟩:=ht;unfold zCE;refine zAB (zBV (name:=zCj "__next__") hit.typeIs zC7 (zB1 zC7 hit.typeIs zF7 ?_ (zF4 _)));show wpAny _ _ (field (.ref it) 0>>=_) _ _ s;refine zAB (zCS ho hd (x:=.ref t) rfl ?_);show wpAny _ _ (if (zBG t==zBI)=true then _ else _) _ _ s;rw[if_neg (show¬((zBG t==zBI)=true)from zA2)];show wpAny _ _ (field (.ref it) 1>>=_) _ _ s;refine zAB (zCS ho hd (x:=.int i 0) rfl ?_);show wpAny _ _ (seqItems? (.ref t)>>=_) _ _ s;refine zAB (zEk hol hdl ?_);simp only[zBf,hx];refine zAB (zD4 (zAB (zDo ho hd (by simp) ?_)));show wpAny _ _ (newExc (.type "StopIteration") []>>=_) _ _ _;refine zAB ?_;simp only[newExc,newTuple];refine zAB (zAg ?_ (by size_fits));refine zAB (m:=zEf _ _) (zEu (a:=zBI) (by simp only[zEf];rfl) ?_);refine zAg ?_ (by size_fits);simp only[raiseNew];refine zAB (wpAny_handled ?_);first|rw[show A.in1.handled=none from hh]|rw[hh]
 refine zAB (zAE (wpAny_throw ?_));exact hE _ _ (((zB4 ..).extBut.push _).push _) ⟨_,zAK _ rfl,rfl⟩
end
theorem aM1(hh:A.handled=none)(it t:Addr)(hne:t≠it)(items:Array Value):
  Draws prog w A it [it,t] items.size (λ i v=>items[i]? =some v) (λ i h=>h.IsTupleIter it t i/\h.IsTuple t items) where
 live:=λ _ _ st=>let⟨o,ho,_⟩:=st.1;⟨o,ho⟩
 frame:=λ _ _ _ st hk=>⟨st.1.at λ o e=>hk it (by simp) o e,let⟨o,ho,r⟩:=st.2;⟨o,hk t (by simp) o ho,r⟩⟩
 item:=λ i s Q E hi st hQ=>aDe st.1 st.2 (x:=items[i]) (by simp[hi]) λ h' hit' hs'=>hQ _ h' s.toks (by simp[hi]) ⟨hit',let⟨o,ho,r⟩:=st.2;⟨o,(hs'.2 t hne).trans ho,r⟩⟩ hs'
 done:=λ s Q E st hE=>aAJ hh st.1 st.2 (by simp) hE
theorem aCS(l:Addr)(items:Array Value)(n:Nat)(dct:Option Addr)(sl:Array (Option Value)):
  Meets (zCO.«enumerate.__new__» ⟨[.type "enumerate",.ref l],[]⟩) (λ _ R s=>s.heap.get? l=some {cls:=.type "tuple",dict:=dct,data:=.seq items n,slots:=sl}/\
   R (.ok (.ret (.ref (s.heap.push {cls:=.type "tuple_iterator",data:=.fields #[.ref l,.int 0 0]}).objs.size)))
    {s with heap:=(s.heap.push {cls:=.type "tuple_iterator",data:=.fields #[.ref l,.int 0 0]}).push {cls:=.type "enumerate",data:=.fields #[.none,.bool false,.ref s.heap.objs.size,zGE 0,.none,.none]}}):=
 .of_wp λ prog w A R s h=>by
  obtain⟨hp,g,d,tk,os⟩:=s;obtain⟨hl,h⟩:=h;have hsub:=sub_enumerate;have hL:Heap.IsTuple (Shared.heap ⟨hp,g,d,tk,os⟩) l items:=⟨_,hl,rfl,n,rfl⟩;wp_walk using zBl hl;refine wpAny_stack_any λ st=>zAE ?_
  split
  ·rename_i c _ _ _ _ _
   cases (c==zCB "enumerate")<;>(wp_walk using zBl hl,zC2 hL;exact⟨_,rfl,h⟩)
  ·wp_walk using zBl hl,zC2 hL
   exact⟨_,rfl,h⟩
theorem aEG(hL:s.heap.IsTuple l items)
  (h:∀h',IsEnum h' (s.heap.objs.size+1) s.heap.objs.size 0 .none->h'.IsTupleIter s.heap.objs.size l 0->(∀b o,s.heap.get? b=some o->h'.get? b=some o)->Q (.ref (s.heap.objs.size+1)) {s with heap:=h'}):
  wpAny (model prog w) A (call (.type "enumerate") [.ref l]) Q E s:=by
 obtain⟨⟨c,dct,dt,sl⟩,hl,hc,n,hd⟩:=hL;replace hc:c= .type "tuple":=hc;replace hd:dt= .seq items n:=hd;subst hc hd;refine callType_new F.called_enumerate (by decide) (F.typeCall_enumerate_1 _) (F.newCall_enumerate_1 _) (λ obj=>zFq obj _) F.entry_enumerate_new (aCS l items n dct sl) ⟨hl,?_⟩;have hz:(s.heap.push {cls:=.type "tuple_iterator",data:=.fields #[.ref l,.int 0 0]}).objs.size=s.heap.objs.size+1:=zBP ..;show _/\_;rw[hz];have he:IsEnum ((s.heap.push {cls:=.type "tuple_iterator",data:=.fields #[.ref l,.int 0 0]}).push {cls:=.type "enumerate",data:=.fields #[.none,.bool false,.ref s.heap.objs.size,zGE 0,.none,.none]}) (s.heap.objs.size+1) s.heap.objs.size 0 .none:=by
  have:=zAK (s.heap.push {cls:=.type "tuple_iterator",data:=.fields #[.ref l,.int 0 0]}) (o:={cls:=.type "enumerate",data:=.fields #[.none,.bool false,.ref s.heap.objs.size,zGE 0,.none,.none]}) rfl
  rw[hz]at this;exact this
 exact⟨⟨_,he,rfl⟩,h _ he ⟨_,zAD _ (zAK _ rfl),rfl,rfl⟩ λ b o x=>zAD _ (zAD _ x)⟩
theorem aH3{X:Cx}{pins:List (Addr×Obj)}{σ:List (Option V)}{H:Hp}{s:zAG}{h':Heap}{ch:List Addr}{p t':Nat}{o:HO}(I:Inv X pins σ H s)(hf:∀b∈ch,sV X pins H b)(k:∀b u,b∉ch->s.heap.get? b=some u->h'.get? b=some u)
  (hp:s.heap.objs.size<=p)(new:dN X.prog X.w (upd H p o) h' p o):Inv X pins σ (upd H p o) {s with heap:=h',toks:=t'}:=by
 have hn:=I.hok.fresh hp;have nch:∀b u,H b=some u->b∉ch:=λ b u e z=>by have:=(hf b z).1;rw[e]at this;cases this
 refine I.call (g':=s.gens) (d':=s.drawn) (ch:=ch) ⟨λ b u q _ _ hx=>k b u hx q,λ b u q _ _ hx=>⟨u.slots,k b u hx q⟩,λ b u q n _=>?_,λ b u q hx=>⟨u,k b u hx q⟩,λ b xs q=>?_,λ b u xs q=>?_,λ b ps q=>⟨#[],?_⟩⟩ (λ b u e=>?_) I.bare
  λ b hb=>let⟨_,f1,_,f3,f4,f5⟩:=hf b hb;⟨f3,f1,f4,f5⟩
 ·rw[bI (zAV (zAZ (zAP q) hp))];exact n
 ·rw[bI (dC q hn)];exact q
 ·rw[bI (dC q hn)];exact q
 ·rw[bI (dC q hn),q];simp
 ·by_cases hb:b=p
  ·subst hb;rw[bB]at e;cases e;exact new
  ·rw[bI hb]at e
   refine(I.hok b u e).stay (λ c v hc q=>k c v ?_ q) (λ c q=>by rw[bI (dC q hn)];exact q) λ c xs q=>by rw[bI (dC q hn)];exact q
   rcases hc with rfl|hc
   ·exact nch _ _ e
   ·exact nch _ _ hc
def Ite(K:zAA)(a:Addr):It:=
 ⟨λ i H=>∃xs x,SqT K H a xs/\xs[i]? =some x,λ i H x H'=>∃p y,x= .ref p/\H p=none/\H'=upd H p (.tup [.int i,y])/\∀xs,SqT K H a xs->xs[i]? =some y,λ i H=>∃xs,SqT K H a xs/\xs.length<=i⟩
theorem aFK{P:zA7}{w:World}{K:zAA}{elts:List Expr}{x1:Nat}{ps:Pos}(a e it:Addr)(hei:e≠it)(hae:a≠e)(hai:a≠it):
  Turn P w K (.Tuple elts x1 ps) (Ite K a) [e,it] e (λ i h=>(∃old,IsEnum h e it i old)/\h.IsTupleIter it a i) where
 mem:=by simp
 obj:=λ i h st b hb=>by
  obtain⟨⟨old,he⟩,o,e2,c,d⟩:=st;rcases zAL.mp hb with rfl|hb
  ·exact⟨_,he,λ v z=>by cases z⟩
  ·have q:b=it:=by simpa using hb
   subst q;exact⟨o,e2,λ v z=>by rw[d]at z;cases z⟩
 keep:=λ i h h' st k=>⟨let⟨old,he⟩:=st.1;⟨old,k e (by simp) _ he⟩,st.2.at λ o q=>k it (by simp) o q⟩
 item:=by
  intro X hP hw hK hc i pins s σ H E I hf st hg;subst hP hw hK;obtain⟨xs,x,hq,hx⟩:=hg;obtain⟨its,rv,p,hz⟩:=I.tuple hq;obtain⟨u,hu,ru⟩:=rv.get hx;obtain⟨⟨old,he⟩,hit⟩:=st;refine wpAny_pyNext_enum_itemD (aM1 (A:=X.A.in1) (show X.A.in1.handled=none from I.ok.hd hc) it a hai its.toArray) he ⟨hit,p⟩ (by have:=(zAI.mp hu).1;simpa using this) hei (by simp[hei,zDD hae]) λ y h' tk hy ho st' hT hsz hk=>⟨_,rfl,?_⟩
  have ey:y=u:=by
   have:its.toArray[i]? =some u:=by simpa using hu
   rw[this]at hy;exact(zAr hy).symm
  subst ey;have hel:e<s.heap.objs.size:=zAP he;refine wpAny_letOwnedTupleGo_enum ho λ h2 he2 hs2=>⟨.ref s.heap.objs.size,upd H s.heap.objs.size (.tup [.int i,x]),?_,rfl,⟨_,x,rfl,I.hok.fresh (zAO _),rfl,λ ys hy=>by rw[I.tuple_inj hy hq];exact hx⟩,⟨⟨_,by simpa using he2⟩,st'.1.at λ o q=>(hs2.2 it (zDD hei)).trans q⟩,λ b hb=>?_⟩
  ·exact aH3 (s:=s) (h':=h2) (t':=tk+1) I hf (λ b u hb q=>(hs2.2 b λ z=>hb (by simp[z])).trans (hk b u (λ z=>hb (by simp[z])) (λ z=>hb (by simp[z])) q)) (zAO _) ⟨⟨by simp[zB9],NoD.at ((hs2.2 _ (zBn hel)).trans hT)⟩,[.int i tk,y],.cons ⟨_,rfl⟩ (.cons ru .nil),_,(hs2.2 _ (zBn hel)).trans hT,rfl,_,rfl⟩
  ·have:=(hf b hb).1
   rw[bI]
   ·exact this
   ·rintro rfl
    rcases zAL.mp hb with q|q
    ·exact absurd hel (by rw[<-q];exact zBS _)
    ·obtain⟨o,ho2,_⟩:=hit
     have q2:s.heap.objs.size=it:=by simpa using q
     exact absurd (zAP ho2) (by rw[<-q2];exact zBS _)
 done:=by
  intro X hP hw hK hc i pins s σ H E I hf st hg;subst hP hw hK;obtain⟨xs,hq,hx⟩:=hg;obtain⟨its,rv,p,hz⟩:=I.tuple hq;obtain⟨⟨old,he⟩,hit⟩:=st;obtain⟨f0,f1,f2,f3,f4,f5⟩:=hf it (by simp);have hT:s.TypeIs (.ref e) "enumerate":=⟨_,he,rfl⟩;have hl:=rv.length;unfold zEh;refine zAB (zHB (zBV (name:=zCj "__next__") hT zGk (zB1 zGk hT F.entry_enumerate_next ?_ (F.args_enumerate_next_1 _))));show wpAny _ _ (field (.ref e) 2>>=_) _ _ _;refine zAB (zCS he rfl (x:=.ref it) rfl ?_);refine zAB (aAJ (I.ok.hd hc) hit p (by simp;lia) λ h' x he' hx'=>?_);obtain⟨o,ho,hc⟩:=hx';refine zAB (zFk (T:="StopIteration") (b:=true) ⟨o,ho,hc⟩ isSubtype_stop ?_);exact zAE ⟨rfl,I.turned (t':=s.toks) (λ b o hb q=>he' b o hb q) f0 f1 f3 f4 f5⟩
 self:=λ _ _ _ _ _ st h=>let⟨⟨_,he⟩,_⟩:=st;zI2 he h
def aKe(K:zAA)(tl:TA):TI:=λ σ H R=>tl σ H λ xs H1=>∃a,xs=[.ref a]/\(∃ys,SqT K H1 a ys)/\R (Ite K a) H1
theorem aJE{X:Cx}{elts:List Expr}{x1:Nat}{ps p pos:Pos}{l:Expr}{tl:TA}(hl:PA X [l] tl)(hg:Gl X "enumerate")(hm:X.mg "enumerate"=none)(hv:zAn "enumerate"=some (.type "enumerate"))
  (he:zAW [l] X.env=[(false,eval l X.env)]:=by rfl):PI X (.Tuple elts x1 ps) (.Call (.Name "enumerate" p) [l] [] pos) (aKe X.K tl):=by
 intro pins s σ H R I h;refine zDA (ut I hg hm hv ?_ (by decide) (by decide));refine zCG (thn (hl pos pins s σ H _ I h) λ us s1 ⟨vs,H1,I1,r1,a,e,⟨ys,hy⟩,q⟩=>?_) he rfl;subst e;obtain⟨u,rfl,ru⟩:=r1.one;cases ru;obtain⟨its,rv,pp,hz⟩:=I1.tuple hy;have ha:a<s1.heap.objs.size:=let⟨o,ho,_⟩:=pp;zAP ho
 refine aEG pp λ h' he hit hk=>zI2 he ?_
 have n1:s1.heap.objs.size+1≠s1.heap.objs.size:=by lia
 refine⟨_,_,_,_,H1,rfl,I1.kept (t':=s1.toks) hk,aFK a _ _ n1 (zAV (zB0 ha)) (zAV ha),⟨⟨_,he⟩,hit⟩,λ b hb=>?_,q⟩;have hle:s1.heap.objs.size<=b:=by
  rcases zAL.mp hb with rfl|hb
  ·exact zDl _
  ·have:b=s1.heap.objs.size:=by simpa using hb
   exact zG0 this.symm
 exact I1.fpOk hle (I1.hok.fresh hle)
def za(l:List D):List D:=l.zipIdx.map λ p=>.tup [.int (p.2:Int),p.1]
def aHu:List D->Rs (List D)
 |[.tup l]=>.ok (za l)
 |_=>.st
theorem aJe{K:zAA}{lab:Lab}{H:Hp}{a:Addr}{xs:List V}{ds:List D}(h:SqT K H a xs)(r:Rps K (λ p=>(lab p).1<=1) H xs ds):JL K lab (Ite K a) H (za ds):=by
 have hl:=r.length;have hle:(za ds).length=ds.length:=by simp[za]
 refine λ i=>⟨λ hi=>⟨xs,h,by lia⟩,λ hi=>⟨⟨xs,xs[i]'(by lia),h,by simp[hl,hle▸hi]⟩,λ x H' y=>?_⟩⟩
 obtain⟨p,y,rfl,hp,rfl,hy⟩:=y;obtain⟨d,h1,h2⟩:=r.get (hy xs h);refine⟨bC hp _,.tup [.int (i:Int),d],?_,.tup (.inl (.inl bB)) (.cons (.int _) (.cons (h2.up (bC hp _)) .nil))⟩;unfold za;rw[zAU,zGX,h1];simp
section
variable{C:Ct}{m:Mode}{a:Expr}{ga:En->Rs (List D)}{elts:List Expr}{x1:Nat}{ps p pos:Pos}
theorem aIj(ha:SA C m [a] ga)(hm:C.mg "enumerate"=none)(ho:okS m=true:=by rfl)(hs:∀i,zAW [a] (C.X i).env=[(false,eval a (C.X i).env)]:=by intro _;rfl)(hg:∀i,Gl (C.X i) "enumerate":=by intro _;rfl)(hv:zAn "enumerate"=some (.type "enumerate"):=by decide+kernel):
  SI C (.Tuple elts x1 ps) (.Call (.Name "enumerate" p) [a] [] pos) (cY aHu ga):=by
 obtain⟨t,p1,p2⟩:=ha;refine⟨aKe C.K t,λ i=>by rw[<-C.hK i];exact aJE (p1 i) (hg i) (by rw[(C.cx i).2.2.2.1];exact hm) hv (hs i),λ τ σ H ρ lab Rr R W=>p2 τ σ H ρ lab _ R (W.bd.imp λ ds _ w vs H1 s r=>?_)⟩;cases ds with
 |nil=>exact zAS w
 |cons d ds=>
  cases ds with
  |cons _ _=>cases d<;>exact zAS w
  |nil=>
   obtain⟨v,rfl,rd⟩:=r.one_inv;cases d with
   |tup l=>
    obtain⟨R',r'⟩:=R.shared ho s rd;obtain⟨b,xs,rfl,h,q⟩:=r'.tup_inv;refine⟨b,rfl,⟨xs,h⟩,w _ H1 _ [(.ref b,.tup l)] s (λ p o e=>bY e) ⟨R'.len,R'.sl,R'.old,R'.new,λ z hz=>?_⟩ λ lab' H' hq=>?_⟩
    ·rcases zAL.mp hz with rfl|hz
     ·exact .tup h q
     ·exact R'.tm z hz
    ·have z:=hq _ (zAQ ..)
     cases z with
     |tup h' q'=>exact aJe h' q'
   |_=>exact zAS w
end
abbrev Ent:=List Int×Addr×V
section
variable{X:Cx}{pins:List (Addr×Obj)}{σ:L2.St}{H:Hp}{s:zAG}{a b:Addr}{k:List Int}{es:List Ent}
end
section
variable{C:Ct}{m1 m2:Mode}{a b:Expr}{fa fb:En->Rs D}{pos:Pos}
end
section
variable{K:zAA}{G:Gx}{wi:TI}{fi:En->Rs (List D)}{js:List (Option Nat)}{g:TG}{fg:D->En->Rs En}{tt:TT}{ft:En->Rs Bool}{tk tv:TE}{fk fv:En->Rs D}
end
section
variable{C:Ct}{pos:Pos}{kx vx tg iter:Expr}{ifs:List Expr}{sc:Scope}{N:List Str}{js:List (Option Nat)}{ks:List Nat}{fi:En->Rs (List D)}{fg:D->En->Rs En}{ft:En->Rs Bool}{fk fv:En->Rs D}
end
section
variable{prog:zA7}{w:World}{A:zAk}{E:Value->zAG->Prop}{s:zAG}{a:Addr}{led:Bool}{ks:List Int}
end
section
variable{X:Cx}
theorem ints_of:∀(tks:List (Int×Tok)),zBO (tks.map λ p=>zDN p.1 p.2) (tks.map (·.1))
 |[]=>.nil
 |p::r=>.cons _ _ (ints_of r)
end
section
variable{C:Ct}{pos pos2 p p2:Pos}{m:Mode}{a:Expr}{ga:En->Rs (List D)}
end
theorem Rp.fn_inv{K:zAA}(r:Rp K A H v (.fn x)):∃a,v= .ref a/\zAh K zA9 x=some (some (.ref a)):=by cases r with|fn h=>exact⟨_,rfl,h⟩
structure FnAt(C:Ct)(n:Nat)(x:Str)(F:List D->Rs D):Prop where
 ex:∃(fn:Addr) (fd:zAa) (ps:List Str) (k:Nat),cj C.prog C.w C.K C.mg C.base (CX1 C.prog C.w) k fn fd ps (spF C.K C.G.cl n F)/\k<=C.k/\zAh C.K zA9 x=some (some (.ref fn))/\zCH C.K (.ref fn)=true/\Binds C.K fd ps []
abbrev aFx:=List (Str×(List D->Rs D))
def Tab(C:Ct)(n:Nat)(tab:aFx):Prop:=∀q∈tab,FnAt C n q.1 q.2
theorem aI3:Tab C n []:=λ q hq=>by cases hq
theorem aBk(hF:cj C.prog C.w C.K C.mg C.base (CX1 C.prog C.w) k fn fd ps (spF C.K C.G.cl n F))(hr:k<=C.k)(hn:zAh C.K zA9 x=some (some (.ref fn)))
  (hk:zCH C.K (.ref fn)=true)(hb:Binds C.K fd ps [])(h:Tab C n tab):Tab C n ((x,F)::tab):=λ q hq=>by
 rcases zAL.mp hq with rfl|hq
 ·exact⟨fn,fd,ps,k,hF,hr,hn,hk,hb⟩
 ·exact h q hq
def fnOf(tab:aFx):Rs D->Option (List D->Rs D)
 | .ok (.fn x)=>tab.lookup x
 |_=>none
def qx(tab:aFx)(i:Nat)(ga:En->Rs (List D)):En->Rs D:=λ ρ=>match fnOf tab (aC i ρ)with
 |some F=>aN F ga ρ
 |none=>.st
theorem aFi(h:fnOf tab r=some F):∃x,r= .ok (.fn x)/\tab.lookup x=some F:=by
 unfold fnOf at h;split at h
 ·exact⟨_,rfl,h⟩
 ·cases h
def aKu(K:zAA)(cl:Str->Addr)(n:Nat)(E:XK)(tab:aFx)(i:Nat)(t:TA):TE:=λ σ H Q=>∃f x F,σ[i]? =some (some (.ref f))/\(x,F)∈tab/\zAh K zA9 x=some (some (.ref f))/\aGM (spF K cl n F) [] E t σ H Q
theorem lookup_mem{tab:aFx}(h:tab.lookup x=some F):(x,F)∈tab:=by
 induction tab with
 |nil=>cases h
 |cons q tab ih=>
  obtain⟨y,G⟩:=q;rw[zAj]at h;by_cases e:x==y
  ·simp only[e]at h
   cases h;rw[zEU e];exact zAQ
  ·simp only[e]at h
   exact zAJ _ (ih h)
section
variable{C:Ct}{m:Mode}{e:Expr}{es:List Expr}{ga:En->Rs (List D)}{pos p:Pos}{n i:Nat}{y:Str}{tab:aFx}
theorem aG3(hT:Tab C n tab)(ha:SA C m (e::es) ga)(hn:∀ρ ds,ga ρ= .ok ds->ds.length=n)(hN:∀j,(C.X j).N[i]? =some y:=by intro _;rfl)(hv:∀j,Vis (C.X j).env.scope y:=by intro _;first|exact zC5 rfl|exact zBs (zC5 rfl)|exact zBs (zBs rfl))
  (hd:(y==("__debug__":Str))=false:=by decide)(hcd:(y==("__classdict__":Str))=false:=by decide)(he:∀i,zAW (e::es) (C.X i).env=(false,eval e (C.X i).env)::zAW es (C.X i).env:=by intro _;rfl)
  (hpl:∀i,(zCV pos (zAW es (C.X i).env)).any (·.1)=false:=by intro _;rfl):SE C (some []) (.Call (.Name y p) (e::es) [] pos) (qx tab i ga):=by
 obtain⟨t,h1,h2⟩:=ha;refine⟨aKu C.K C.G.cl n C.G.E tab i t,λ j=>?_,λ τ σ H ρ lab Q R W=>?_⟩
 ·obtain⟨e1,e2,e3,e4,e5⟩:=C.cx j
  intro pins s σ H Q I ⟨f,x,F,hs,hx,hf,h⟩;obtain⟨fn,fd,ps,k,hF,hr,hn',hk,hb⟩:=(hT _ hx).ex;rw[hf]at hn';cases hn';have fin:wpAny (model (C.X j).prog (C.X j).w) (C.X j).A (eval (.Name y p) (C.X j).env) (λ v s'=>v= .ref f/\s'=s) (C.X j).xe s:=by
   obtain⟨mm,hnn,hl⟩:=I.loc;obtain⟨u,ru,l⟩:=hl i y _ (hN j) hs (hv j);cases ru;rcases l with ⟨hk2,hm⟩|⟨hk2,c,hc,hcell⟩
   ·exact zE5 (zHl I.ok.kind hk2 hnn hm ⟨rfl,rfl⟩) hd
   ·rcases hk2 with hk2|hk2
    ·exact zE5 (zHw I.ok.kind hk2 hc hcell ⟨rfl,rfl⟩) hd
    ·exact zE5 (zHx I.ok.kind hk2 hc hcell ⟨rfl,rfl⟩ hcd) hd
  refine zDA (thn fin λ v s' ⟨ev,es'⟩=>?_);subst ev es';refine zGQ (h₀:=(C.X j).base) I.ok.mod.kin (by rw[e3];exact hk) (thn (h1 j pos pins s' σ H _ I h) λ us s1 ⟨vs,H1,I1,r,q⟩=>⟨I1.kIn,?_⟩) (he j) (hpl j);exact aG5 (CX:=CX1 (C.X j).prog (C.X j).w) (by rw[e1,e2,e3,e4,e5];exact hF) ((C.room j).mono hr) (by rw[e3];exact hb) .nil (C.pass j) I1 r q
 ·unfold qx at W
  cases hf:fnOf tab (aC i ρ)with
  |none=>rw[hf]at W;exact zAS W
  |some F=>
   rw[hf]at W;obtain⟨x,hvd,hl⟩:=aFi hf;obtain⟨v,hsv,rv⟩:∃v,σ[i]? =some (some v)/\Rp C.K (λ _=>True) H v (.fn x):=by
    unfold aC at hvd;split at hvd
    ·rename_i d' e'
     cases hvd;rcases R.sl i _ e' with z|⟨v,a,b⟩
     ·cases z
     ·exact⟨v,a,Rp.wk (λ _ _ _ _=>trivial) b⟩
    ·rename_i d' e'
     cases hvd;rcases R.sl i _ e' with z|⟨v,a,b⟩
     ·cases z
     ·exact⟨v,a,Rp.wk (λ _ _ _ _=>trivial) b⟩
    ·cases hvd
   obtain⟨a,rfl,hx⟩:=rv.fn_inv;exact⟨a,x,F,hsv,lookup_mem hl,hx,aBq (F:=F) hn h2 τ σ H ρ lab Q R W⟩
end
def shB:Slot->Bool
 | .no=>true
 | .sh _=>true
 |_=>false
def nsL(ρ:En)(fg:D->En->Rs En)(ft:En->Rs Bool)(inn:En->Rs (List D)):List D->Rs (List D)
 |[]=>.ok []
 |d::ds=>(fg d ρ).bd λ ρ1=>(ft ρ1).bd λ k=>if k=true then(inn ρ1).bd λ ys=>(nsL ρ fg ft inn ds).bd λ zs=>.ok (ys++zs)else nsL ρ fg ft inn ds
def inL(fi2:En->Rs (List D))(fg2:D->En->Rs En)(ft2:En->Rs Bool)(fe:En->Rs D):En->Rs (List D):=λ ρ1=>if ρ1.all shB=true then(fi2 ρ1).bd λ ds=>lcL ρ1 fg2 ft2 fe ds else .st
def aHU(fi:En->Rs (List D))(js:List (Option Nat))(fg:D->En->Rs En)(ft:En->Rs Bool)(inn:En->Rs (List D)):En->Rs D:=λ ρ=>(fi (shE ρ)).bd λ ds=>match nsL (stE js (shE ρ)) fg ft inn ds with
 | .ok l=>if l.length<zAT then .ok (.lst l)else .st
 |_=>.st
theorem aHI(h:nsL ρ fg ft inn (d::ds)= .ok l):
  ∃ρ1 k,fg d ρ= .ok ρ1/\ft ρ1= .ok k/\((k=true/\∃ys zs,inn ρ1= .ok ys/\nsL ρ fg ft inn ds= .ok zs/\l=ys++zs)\/(k=false/\nsL ρ fg ft inn ds= .ok l)):=by
 unfold nsL at h;obtain⟨ρ1,e1,h⟩:=cW h;obtain⟨k,e2,h⟩:=cW h;refine⟨ρ1,k,e1,e2,?_⟩;cases k with
 |true=>
  rw[if_pos rfl]at h;obtain⟨ys,e3,h⟩:=cW h;obtain⟨zs,e4,h⟩:=cW h;exact .inl ⟨rfl,ys,zs,e3,e4,by cases h;rfl⟩
 |false=>
  rw[if_neg zA2]at h;exact .inr ⟨rfl,h⟩
theorem aMQ(h:inL fi2 fg2 ft2 fe ρ1= .ok ys):ρ1.all shB=true/\∃ds,fi2 ρ1= .ok ds/\lcL ρ1 fg2 ft2 fe ds= .ok ys:=by
 unfold inL at h;split at h
 ·rename_i hs
  obtain⟨ds,e1,e2⟩:=cW h;exact⟨hs,ds,e1,e2⟩
 ·cases h
theorem RR.butS{K:zAA}(R:RR K G τ ρ σ H lab)(hs:ρ.all shB=true)(hlab:¬(lab l).1<=1)(B:nG l H H')(hl:H l=some o)(ho:lC o=true)(h0:G.H0 l=none):RR K G τ ρ σ H' lab:=by
 refine⟨R.len,λ j s e=>?_,λ b o hb=>?_,R.new,λ q hq=>(R.tm q hq).but B hl ho hlab⟩
 ·rcases R.sl j s e with z|⟨u,e1,e2⟩
  ·exact .inl z
  ·have hb:=zAp.mp hs s (zBB e)
   cases s with
   |no=>exact .inl rfl
   |sh d=>exact .inr ⟨u,e1,Rp.but B hl ho hlab e2⟩
   |_=>cases hb
 ·exact B b o (λ z=>by subst z;rw[h0]at hb;cases hb) (R.old b o hb)
section
variable{K:zAA}{G:Gx}{wi wi2:TI}{fi fi2:En->Rs (List D)}{js:List (Option Nat)}{ks ks2:List Nat}{g g2:TG}{fg fg2:D->En->Rs En}{tt tt2:TT}{ft ft2:En->Rs Bool}{te:TE}{fe:En->Rs D}
theorem aLD(hi:aIO K G wi fi)(hg:aIP K {G with E:=λ _ _ _=>False} g fg)(hgo:oG g ks)(hgm:aAg g)(hk:∀k∈ks2,k∉ks/\(js[k]?).join=none)(ht:aCw K {G with E:=λ _ _ _=>False} tt ft)(hi2:aIO K {G with E:=λ _ _ _=>False} wi2 fi2)
  (hg2:aIP K {G with E:=λ _ _ _=>False} g2 fg2)(ht2:aCw K {G with E:=λ _ _ _=>False} tt2 ft2)(he:jR K {G with E:=λ _ _ _=>False} (some []) te fe):
  jR K G (some []) (aMt (λ _=>.lst []) wi (stV js) g tt (aGJ ks2 wi2 g2 tt2 (aKS te))) (aHU fi js fg ft (inL fi2 fg2 ft2 fe)):=by
 intro τ σ H ρ lab Q R W;refine hi τ σ H _ _ _ R.shE (W.bd.imp λ ds _ w J H1 lab1 τ1 s1 _ R1 jl=>?_);intro l hl;obtain⟨out,hout,hlen,w⟩:∃out,nsL (stE js (VL.shE ρ)) fg ft (inL fi2 fg2 ft2 fe) ds= .ok out/\out.length<zAT/\QE K (some []) lab H Q (.lst out):=by
  cases hout:nsL (stE js (VL.shE ρ)) fg ft (inL fi2 fg2 ft2 fe) ds with
  |ok out=>
   rw[hout]at w;dsimp only at w;split at w
   ·rename_i hz;exact⟨out,rfl,hz,w⟩
   ·exact zAS w
  |ex c=>rw[hout]at w;exact zAS w
  |st=>rw[hout]at w;exact zAS w
 have R0:RR K {G with E:=λ _ _ _=>False} (τ1++τ) (VL.shE ρ) σ H1 (λ _=>(0,0)):=R1.blk0 rfl;have RB:=R0.block (js:=js) (λ _=>zAb _) hl;have hHl:H l=none:=s1.free hl;have h0l:G.H0 l=none:=R1.old.free hl;have labl:¬((λ p=>if p=l then((2,0):Nat×Nat)else(0,0)) l).1<=1:=by simp
 have hsk:∀k∈ks2,(stV js σ)[k]? =some none\/(stV js σ)[k]? =none:=λ k hk2=>by
  have:=(hk k hk2).2
  unfold stV;rw[zAU];cases e:js[k]? with
  |none=>exact .inr rfl
  |some o=>
   rw[e]at this;cases o with
   |none=>exact .inl rfl
   |some j=>cases this
 refine⟨λ i n H2=>∃(pre:List D) (acc:List V),n=ds.length-i/\i<=ds.length/\H2 l=some (.lst acc)/\RR K {G with E:=λ _ _ _=>False} (τ1++τ) (stE js (VL.shE ρ)) (stV js σ) H2 (λ p=>if p=l then(2,0)else(0,0))/\aa H H2/\Rps K (λ p=>H p=none/\p≠l) H2 acc pre/\
  ∃post,nsL (stE js (VL.shE ρ)) fg ft (inL fi2 fg2 ft2 fe) (ds.drop i)= .ok post/\out=pre++post,⟨ds.length,[],[],by lia,by lia,bB,RB.up (bC hl _),s1.trans (bC hl _),.nil,out,hout,rfl⟩,?_⟩
 rintro i n H2 ⟨pre,acc,rfl,hi',hH2,R2,s2,rpre,post,hpost,eout⟩;have jj:=jl _ H2 λ q hq=>R2.tm q (zA6 _ hq)
 by_cases hlt:i<ds.length
 ·obtain⟨go,yl⟩:=(jj i).2 hlt
  refine .inr ⟨go,λ x H3 hy=>?_⟩;obtain⟨s3,d,ed,rx⟩:=yl x H3 hy;replace R2:=R2.up s3;replace hH2:=s3 _ _ hH2;replace s2:=s2.trans s3;replace rpre:=rpre.up s3;have ed2:ds.drop i=d::ds.drop (i+1):=by
   rw[zBx hlt]
   have:=zAC hlt
   rw[ed]at this;cases this;rfl
  rw[ed2]at hpost;obtain⟨ρ1,k,e1,e2,e3⟩:=aHI hpost;have hgx:=hgo _ _ _ _ (hg (τ1++τ) x d _ H3 _ _ (λ σ4 H4=>H4=H3/\RR K {G with E:=λ _ _ _=>False} (τ1++τ) ρ1 σ4 H3 (λ p=>if p=l then(2,0)else(0,0))) ρ1 R2 rx e1 λ σ4 R4=>⟨rfl,R4⟩);refine hgm _ _ _ _ _ (λ σ4 H4 ⟨⟨eH,R4⟩,hlen4,hag4⟩=>?_) hgx;subst eH;refine ht (τ1++τ) σ4 H4 ρ1 _ _ R4 ?_;rw[e2];intro H5 s5;rcases e3 with ⟨rfl,ys,zs,e3,e4,rfl⟩|⟨rfl,e4⟩
  ·rw[if_pos rfl]
   obtain⟨hsh,ds2,f1,f2⟩:=aMQ e3;refine⟨λ k hk2 v e=>?_,?_⟩
   ·rw[hag4 k (hk k hk2).1]at e
    rcases hsk k hk2 with z|z<;>rw[z]at e<;>cases e
   refine hi2 (τ1++τ) σ4 H5 ρ1 _ _ (R4.up s5) ?_;rw[f1];intro J2 H6 lab6 τ6 s6 hlab6 R6 jl6;have hl6:H6 l=some (.lst acc):=s6 _ _ (s5 _ _ hH2);have lab6l:¬(lab6 l).1<=1:=by rw[hlab6 l _ (s5 _ _ hH2)];exact labl
   refine⟨λ j n2 H7=>∃(pre2:List D) (acc2:List V),n2=ds2.length-j/\j<=ds2.length/\H7 l=some (.lst acc2)/\RR K {G with E:=λ _ _ _=>False} (τ6++(τ1++τ)) ρ1 σ4 H7 lab6/\RR K {G with E:=λ _ _ _=>False} (τ1++τ) (stE js (VL.shE ρ)) (stV js σ) H7 (λ p=>if p=l then(2,0)else(0,0))/\aa H H7/\
    Rps K (λ p=>H p=none/\p≠l) H7 acc2 (pre++pre2)/\∃post2,lcL ρ1 fg2 ft2 fe (ds2.drop j)= .ok post2/\ys=pre2++post2,
    ⟨ds2.length,[],acc,by lia,by lia,hl6,R6,R2.up (s5.trans s6),(s2.trans s5).trans s6,by rw[zBX];exact rpre.up (s5.trans s6),ys,f2,rfl⟩,?_⟩
   rintro j n2 H7 ⟨pre2,acc2,rfl,hj,hl7,R7,Rb7,s7,rpre2,post2,hpost2,eys⟩;have jj7:=jl6 _ H7 λ q hq=>R7.tm q (zA6 _ hq)
   by_cases hlt2:j<ds2.length
   ·obtain⟨go2,yl2⟩:=(jj7 j).2 hlt2
    refine .inr ⟨go2,λ x2 H8 hy2=>?_⟩;obtain⟨s8,d2,ed8,rx2⟩:=yl2 x2 H8 hy2;replace R7:=R7.up s8;replace Rb7:=Rb7.up s8;replace hl7:=s8 _ _ hl7;replace s7:=s7.trans s8;replace rpre2:=rpre2.up s8;have ed9:ds2.drop j=d2::ds2.drop (j+1):=by
     rw[zBx hlt2]
     have:=zAC hlt2
     rw[ed8]at this;cases this;rfl
    rw[ed9]at hpost2;obtain⟨ρ2,k2,q1,q2,q3⟩:=aC3 hpost2;refine hg2 (τ6++(τ1++τ)) x2 d2 _ H8 _ _ _ ρ2 R7 rx2 q1 λ σ9 R9=>?_
    refine ht2 (τ6++(τ1++τ)) σ9 H8 ρ2 _ _ R9 ?_;rw[q2];intro H9 s9;rcases q3 with ⟨rfl,y,ys2,q3,q4,rfl⟩|⟨rfl,q4⟩
    ·rw[if_pos rfl]
     refine he (τ6++(τ1++τ)) σ9 H9 ρ2 _ _ (R9.up s9) ?_;rw[q3];intro v Ha sa ra;have hla:Ha l=some (.lst acc2):=sa _ _ (s9 _ _ hl7);have B:nG l Ha (upd Ha l (.lst (acc2++[v]))):=λ b o ne hb=>by rw[bI ne];exact hb
     have hsz:acc2.length<zAT:=by
      have h1:=rpre2.length;have h2:out.length=pre.length+(pre2.length+(ys2.length+1))+zs.length:=by rw[eout,eys];simp;lia
      rw[zAX]at h1;lia
     refine⟨acc2,hla,hsz,ds2.length-(j+1),by lia,pre2++[y],acc2++[v],rfl,hlt2,bB,(R7.up (s9.trans sa)).butS hsh lab6l B hla rfl h0l,(Rb7.up (s9.trans sa)).but_blk B hla rfl h0l,λ b o hb=>B b o (λ z=>by subst z;rw[hHl]at hb;cases hb) (((s7.trans s9).trans sa) b o hb),?_,ys2,q4,by rw[eys];simp⟩;rw[<-zBc];refine((rpre2.up (s9.trans sa)).append (.cons (ra.wk λ p o _ z=>?_) .nil)).but B hla rfl λ z=>z.2 rfl
     rcases z with z|z
     ·exact⟨(s7.trans s9).free z,λ e=>by subst e;rw[s9 _ _ hl7]at z;cases z⟩
     ·cases z
    ·rw[if_neg zA2]
     exact⟨ds2.length-(j+1),by lia,pre2,acc2,rfl,hlt2,s9 _ _ hl7,R7.up s9,Rb7.up s9,s7.trans s9,rpre2.up s9,post2,q4,eys⟩
   ·have ej:j=ds2.length:=by lia
    subst ej;rw[zDF]at hpost2;cases hpost2;rw[zBX]at eys;subst eys;exact .inl ⟨(jj7 _).1 (zAO _),ds.length-(i+1),by lia,_,acc2,rfl,hlt,hl7,Rb7,s7,rpre2,zs,e4,by rw[eout];simp⟩
  ·rw[if_neg zA2]
   exact⟨ds.length-(i+1),by lia,pre,acc,rfl,hlt,s5 _ _ hH2,R2.up s5,s2.trans s5,rpre.up s5,post,e4,eout⟩
 ·have ei:i=ds.length:=by lia
  subst ei;rw[zDF]at hpost;cases hpost;rw[zBX]at eout;subst eout;exact .inl ⟨(jj _).1 (zAO _),w _ H2 s2 (.lst hH2 (.inl hHl) (rpre.wk λ p o _ z=>⟨.inl z.1,z.2⟩))⟩
end
section
variable{C:Ct}{pos:Pos}{elt tg iter tg2 iter2:Expr}{ifs ifs2:List Expr}{sc:Scope}{N:List Str}{js:List (Option Nat)}{ks ks2:List Nat}{fi fi2:En->Rs (List D)}{fg fg2:D->En->Rs En}{ft ft2:En->Rs Bool}{fe:En->Rs D}
theorem aNA(hi:SI C tg iter fi)(hg:SG (C.blk sc N) tg ks fg)(ht:aFw (C.blk sc N) ifs ft)(hi2:SI (C.blk sc N) tg2 iter2 fi2)(hg2:SG (C.blk sc N) tg2 ks2 fg2)(ht2:aFw (C.blk sc N) ifs2 ft2)(he:SE (C.blk sc N) (some []) elt fe)(hk:∀k∈ks2,k∉ks/\(js[k]?).join=none:=by decide)(hs:∀i x,zBM iter (C.X i).env x=pure x:=by intro _ _;rfl)(hs2:∀(i:(C.blk sc N).ι) x,zBM iter2 ((C.blk sc N).X i).env x=pure x:=by intro _ _;rfl)(hB:∀i,gD (C.X i) sc N (stV js) (ks++ks2):=by intro _;exact aBb rfl rfl rfl rfl rfl rfl):
  SE C (some []) (.ListComp elt [⟨tg,iter,ifs,0⟩,⟨tg2,iter2,ifs2,0⟩] sc pos) (aHU fi js fg ft (inL fi2 fg2 ft2 fe)):=by
 obtain⟨wi,i1,i2⟩:=hi;obtain⟨g,g1,g2,g3,g4⟩:=hg;obtain⟨tt,t1,t2⟩:=ht;obtain⟨wi2,j1,j2⟩:=hi2;obtain⟨gg,h1,h2,h3,h4⟩:=hg2;obtain⟨tt2,u1,u2⟩:=ht2;obtain⟨te,e1,e2⟩:=he;have go1:oG g (ks++ks2):=λ v σ H Q q=>g4 _ _ _ _ _ (λ σ' H' ⟨a,b,c⟩=>⟨a,b,λ k hk=>c k λ z=>hk (zA6 _ z)⟩) (g3 v σ H Q q)
 refine⟨_,λ i=>aNN (pos:=pos) (hB i) (C.calm i) (i1 i) (λ c fp s₀ H₀=>g1 (i,c,fp,s₀,H₀)) go1 (λ c fp s₀ H₀=>t1 (i,c,fp,s₀,H₀)) (aGF elt tg iter tg2 iter2 ifs ifs2 sc pos) (aBn rfl (λ _ _ _ _=>rfl) λ _ _ _ _ _=>rfl) aKL ?_ rfl rfl (hs i),aLD i2 g2 g3 g4 hk t2 j2 h2 u2 e2⟩;intro c fp s₀ H₀;exact aJP (C.calm i) (λ _ _ h=>h) (aGE elt tg iter tg2 iter2 ifs ifs2 sc pos) (aBn rfl (λ _ _ _ _=>rfl) λ _ _ _ _ _=>rfl) (j1 (i,c,fp,s₀,H₀)) (h1 (i,c,fp,s₀,H₀)) h3 (u1 (i,c,fp,s₀,H₀)) (aLd (e1 (i,c,fp,s₀,H₀))) (hs2 (i,c,fp,s₀,H₀))
end
section
variable{C:Ct}{m:Mode}{a:Expr}{ga:En->Rs (List D)}{elts:List Expr}{x1:Nat}{ps p pos:Pos}
end
end VL
namespace HT
open PySem PySem.Spec PyProof.Rows
section
variable{prog:zA7}{w:World}{A:zAk}{E:Value->zAG->Prop}{s:zAG}
end
end HT
namespace VL
open PySem PySem.Spec PyProof.Rows L2
section
variable{C:Ct}{m:Mode}{e:Expr}{fe:En->Rs D}{pos p2:Pos}
end
section
variable{C:Ct}{elts:List Expr}{n i:Nat}{x:Str}{p lpos pos pos':Pos}
end
end VL
namespace PySem.AutoSeq1
set_option maxRecDepth 8000 in
theorem aDg(l:Addr)(items:Array Value)(n:Nat)(b:Addr)(items2:Array Value)(n2:Nat)(dd:Option Addr)(sl:Array (Option Value))(hs0:¬(!items.isEmpty&&zBu (items.size+items2.size))=true)(hs1:items.size<=zAT)(hs2:items.size+items2.size<=zAT+1):
  Meets (zCO.«list.extend» ⟨[.ref l,.ref b],[]⟩) (λ _ R s=>s.heap.get? l=some {cls:=.type "list",dict:=none,data:=.seq items n,slots:=#[]}/\s.heap.get? b=some {cls:=.type "tuple",dict:=dd,data:=.seq items2 n2,slots:=sl}/\
   R (.ok (.ret zBI)) {s with heap:=s.heap.update l (zC4 λ x=>x++items2),toks:=s.toks}):=
 .of_wp λ prog w A R s h=>by
  obtain⟨hp,g,d,tk,os⟩:=s;obtain⟨hl,hb,h⟩:=h;have f1:=idx_int;have f2:=sub_tuple_tuple;have f3:=sub_list_list;have f4:=sub_tuple_list;have f5:=sub_list_tuple;have hz':(items++items2).size<=zAT+1:=by rw[Array.size_append];exact hs2
  wp_walk using(wpAny_updateSeq hl rfl (hz:=hs1) (_hz':=hz')),zBl hl,zBl hb;exact⟨_,rfl,h⟩
end PySem.AutoSeq1
namespace VL
open PySem PySem.Spec PyProof.Rows L2
def aK3(K:zAA):V->List V->Hp->VK->Prop:=λ x vs H Q=>∃l b xs zs,x= .ref l/\vs=[.ref b]/\H l=some (.lst xs)/\SqT K H b zs/\xs.length+zs.length<=zAT/\∀H',nG l H H'->H' l=some (.lst (xs++zs))->Q .non H'
theorem aJ7:MtM X "list.extend" (aK3 X.K):=by
 intro pins s σ H x vs v us Q I rx rv h;obtain⟨l,b,xs,zs,rfl,rfl,hH,hB,hz,q⟩:=h;cases rx;obtain⟨u,rfl,ru⟩:=rv.one;cases ru;obtain⟨z,its,n,r,hl,e⟩:=I.lstM hH;obtain⟨its2,r2,⟨⟨c2,dd,dt,sl⟩,e2,hc2,n2,hd2⟩,z2⟩:=I.tuple hB;replace hc2:c2= .type "tuple":=hc2;replace hd2:dt= .seq its2.toArray n2:=hd2;subst hc2 hd2;have l1:=r.length;have l2:=r2.length;have hsz:its.toArray.size+its2.toArray.size<=zAT:=by rw[zAM,zAM];lia
 have hlong:¬(!its.toArray.isEmpty&&zBu (its.toArray.size+its2.toArray.size))=true:=by
  rw[aCL hsz,zEI];exact zA2
 refine zE4 zGL ⟨_,e,rfl⟩ F.entry_list_extend (F.args_list_extend_2 _ _) (AutoSeq1.aDg l its.toArray n b its2.toArray n2 dd sl hlong (by lia) (by lia)) ⟨e,e2,?_⟩;refine⟨.non,_,I.lset (its':=its++its2) hH e (by simp) (r.append r2) ?_,rfl,q _ (λ b o ne hb=>by rw[bI ne];exact hb) bB⟩;rw[zAX];lia
section
variable{C:Ct}{m1 m2:Mode}{a b:Expr}{fa fb:En->Rs D}{pos:Pos}
end
section
variable{C:Ct}{pos apos cpos p:Pos}{e:Expr}{fe:En->Rs D}{i:Nat}{x:Str}{m:Mode}
def aMZ(ds:List D)(k:List D->Ou):D->Ou
 | .tup es=>if ds.length+es.length<=zAT then k (ds++es)else .st
 |_=>.st
def z9(i:Nat)(fe:En->Rs D):En->Ou:=λ ρ=>match ρ[i]? with
 |some (.ow (.lst ds))=>(fe ρ).bo (aMZ ds λ l=>.nx (ρ.set i (.ow (.lst l))))
 |_=>.st
theorem aDE(i:Nat)(he:SE C m e fe)(hm:okN m=true:=by rfl)(hN:∀j,(C.X j).N[i]? =some x:=by intro _;rfl)(hv:∀j,Vis (C.X j).env.scope x:=by intro _;first|exact zC5 rfl|exact zBs (zC5 rfl)|exact zBs (zBs rfl))(hd:(x==("__debug__":Str))=false:=by decide)
  (hcd:(x==("__classdict__":Str))=false:=by decide)(hs1:∀j,zAW [e] (C.X j).env=[(false,eval e (C.X j).env)]:=by intro _;rfl)
  (hbase:∀j,zCy (.Name x p) "extend" (C.X j).env (eval (.Name x p) (C.X j).env)=eval (.Name x p) (C.X j).env:=by intro _;rfl)
  (hfew:∀j,((zCV cpos (zAW [e] (C.X j).env)).all (λ x=>!x.1)&&(zFE cpos (zD9 [] (C.X j).env)).all (λ x=>x.1.isSome)&&decide ([e].length+([]:List zDT).length+(if ([]:List zDT).isEmpty then 0 else 1)<30))=true:=by intro _;rfl)
  (hline:(apos.endLine==cpos.line)=true:=by rfl)
  (hsw:∀j,zCk (.Call (.Attribute (.Name x p) "extend" apos) [e] [] cpos) none pos.line (C.X j).env=pure false:=by intro _;rfl):
  SS C (.Expr (.Call (.Attribute (.Name x p) "extend" apos) [e] [] cpos) pos) (z9 i fe):=by
 obtain⟨t,h1,h2⟩:=he;refine⟨aBl (tBM C.K "list" (aK3 C.K) (zK i) (kI t uR)),λ j=>tD (by rw[<-C.hK j];exact aEb zCg zGL PySem.F.type_list_extend aJ7 (nW (hN j) (hv j) hd hcd) (eX (h1 j) jE (hs1 j)) (hbase j) (hfew j) hline (hs1 j) rfl) (hsw j),λ τ σ H ρ lab De R W=>?_⟩;unfold z9 at W;cases es:ρ[i]? with
 |none=>rw[es]at W;exact zAS W
 |some s=>
  rw[es]at W;split at W
  ·rename_i ds hs
   cases hs;rcases R.sl i _ es with z|⟨v,ev,hv'⟩
   ·cases z
   ·obtain⟨hv1,htop⟩:=hv'
    obtain⟨a0,ea0,la0⟩:=htop rfl;subst ea0;obtain⟨a1,xs,ea1,h,mm,r⟩:=hv1.lst_inv;cases ea1;refine⟨.ref a0,ev,.inl ⟨rfl,xs,SqL.of h⟩,h2 τ σ H ρ lab _ R (W.bo.imp λ d _ w y H2 s2 r2=>?_)⟩;cases d with
    |tup es'=>
     dsimp only[aMZ]at w;by_cases hz:ds.length+es'.length<=zAT
     ·rw[if_pos hz]at w
      obtain⟨R',r'⟩:=R.fresh (P:=λ k=>k=1) rfl (λ k hk=>beq_iff_eq.mp (pZ hm k hk)) s2 r2;have la:(cZ H 1 lab a0).1=i+2:=by rw[bY h];exact la0
      obtain⟨b,zs,rfl,hb,rb⟩:=r'.tup_inv;refine⟨a0,b,xs,zs,rfl,rfl,s2 _ _ h,hb,by rw[r.length,rb.length];exact hz,λ H3 B h3=>?_⟩;refine w σ H3 _ (R'.mut ev (s2 _ _ h) rfl la B ⟨.lst h3 (.inr la) ?_,λ _=>⟨a0,rfl,la⟩⟩);have ra:Rps C.K (λ p=>((cZ H 1 lab p).1=1\/(cZ H 1 lab p).1=i+2)/\p≠a0) H2 (xs++zs) (ds++es'):=by
       refine(r.mono s2 λ p o e z=>⟨by rw[bY e];exact z.1,z.2⟩).append (rb.wk λ p o e z=>⟨.inl z,λ q=>?_⟩);subst q;have z1:(cZ H 1 lab p).1=1:=z;lia
      exact ra.but B (s2 _ _ h) rfl λ z=>z.2 rfl
     ·rw[if_neg hz]at w
      exact zAS w
    |_=>exact zAS w
  ·exact zAS W
end
def Enr(K:zAA)(x:Str)(st:Stmt)(f:Addr)(fd:zAa):Prop:=L2.Fun K x x st f fd/\zAh K zA9 x=some (some (.ref f))
theorem enr{K:zAA}{st:Stmt}{oc kV dc pm cd ct:Value}(a:zAh K zA9 x=some (some (.ref f)))
  (l:K.lookup f=some ⟨oc,od,.func (zCQ x x (uE st) (jf st) (aV st) .none kV dc pm an cd ct),sl⟩)(c:zDU K cd x=true)(k:zCH K (.ref f)=true):∃f fd,Enr K x st f fd:=⟨f,_,aMX (st:=st) l c k,a⟩
structure Dnr(K:zAA)(mg:Str->Option Value)(x:Str)(st:Stmt)(ps:List Str)(f:Addr)(d:zAa):Prop where
 F:L2.Fun K x x st f d
 m:mg x=some (.ref f)
 b:L2.Binds K d ps []
section
variable{C:Ct}
theorem ak{st:Stmt}(hF:cj C.prog C.w C.K C.mg C.base (CX1 C.prog C.w) k fn fd ps (spF C.K C.G.cl n F))(D:Dnr C.K C.mg x st ps fn fd)(ha:SA C m (e::es) ga)(hr:k<=C.k:=by exact zED rfl)(hg:∀i,Gl (C.X i) x:=by intro _;rfl)
  (hn:∀ρ ds,ga ρ= .ok ds->ds.length=n:=by repeat (first|exact λ _ _ h=>aEn h|apply yK))(hdb:(x==("__debug__":Str))=false:=by decide)(he:∀i,zAW (e::es) (C.X i).env=(false,eval e (C.X i).env)::zAW es (C.X i).env:=by intro _;rfl)
  (hpl:∀i,(zCV pos (zAW es (C.X i).env)).any (·.1)=false:=by intro _;rfl):SE C (some []) (.Call (.Name x p) (e::es) [] pos) (aN F ga):=aIp hF hr D.m D.F.kp D.b ha hn hdb he hpl hg
end
theorem bH{P:zA7}{w:World}{K:zAA}{st:Stmt}(D:Dnr K mg q st ps fn fd)(S:bA N ps (aV st))(hb:N.Nodup->∀cdv A outer s H E hr,SSs (ctD P w K mg base N q (aV st) fn cdv A outer s H E k hr) (jf st) f)(hn:ps.length=n:=by rfl)(hF:fQ N.length f=FF:=by rfl):
  cj P w K mg base (CX1 P w) (k+1) fn fd ps (spF K (cA mg) n FF):=aJy D.F S (hb S.nd) hn hF
section
variable{prog:zA7}{w:World}{A:zAk}{R:zDr->zAG->Prop}{I S:Addr}{fp wr:List Addr}{n:Nat}{P:Nat->Value->Prop}{St:Nat->Heap->Prop}{bt:Nat->Nat->Bool}
end
section
variable{prog:zA7}{w:World}{A:zAk}{E:Value->zAG->Prop}{s:zAG}{Q:Value->zAG->Prop}
end
def aEM(items:Array Value)(nss:Nat->List Int)(h:Heap):Prop:=∀i v,items[i]? =some v->∃x its,v= .ref x/\IsTup h x its/\zBO its.toList (nss i)
def aDX(items:Array Value):List Addr:=items.toList.filterMap λ v=>match v with| .ref x=>some x|_=>none
theorem aDW{items:Array Value}{i:Nat}(h:items[i]? =some (zBG x)):x∈aDX items:=by
 unfold aDX;rw[zCP];exact⟨.ref x,by have:=zBB (l:=items.toList) (i:=i) (by simpa using h);exact this,rfl⟩
theorem aEM.keep(T:aEM items nss h)(k:∀b∈aDX items,∀o,h.get? b=some o->h'.get? b=some o):aEM items nss h':=λ i v e=>by
 obtain⟨x,its,rfl,⟨o,h1,h2⟩,h3⟩:=T i v e;exact⟨x,its,rfl,⟨o,k x (aDW e) o h1,h2⟩,h3⟩
theorem aAP(ns:List Int):jb (ns.map .int)=true:=by
 induction ns with
 |nil=>rfl
 |cons a l ih=>simp[jb,imm,ih]
section
variable{C:Ct}{pos p:Pos}{a b:Expr}{ga:En->Rs (List D)}{m:Mode}
end
section
variable{prog:zA7}{w:World}{A:zAk}{E:Value->zAG->Prop}{s:zAG}{z TI TO i1 i2 l1 l2:Addr}{k:Nat}{xs ys:Array Value}{x y a b:Value}
end
section
variable{C:Ct}{m:Mode}{a b:Expr}{ga:En->Rs (List D)}{elts:List Expr}{x1:Nat}{ps p pos:Pos}
end
section
variable{C:Ct}{pos tpos p:Pos}{ek e:Expr}{fk fe:En->Rs D}{x:Str}{m m1:Mode}
end
def oX(ks vs:List D):Option (List (Int×D)):=match intsOf ks with
 |some is=>if is.length=vs.length then some (is.zip vs)else none
 |none=>none
def aCk(ps:List (Int×D)):D:=.dct (ps.map λ p=>.int p.1) (ps.map (·.2))
theorem xm(h:oX ks vs=some ps):ks=ps.map (λ p=>.int p.1)/\vs=ps.map (·.2):=by
 unfold oX at h;split at h
 ·rename_i is hi
  split at h
  ·rename_i hl
   cases h;refine⟨?_,?_⟩
   ·rw[cu hi,show(λ p:Int×D=>D.int p.1)=(λ i=>D.int i)∘zFC from rfl,<-zAw,zH0 (by lia)]
   ·rw[zEy (by lia)]
  ·cases h
 ·cases h
theorem aFy:∀ps:List (Int×D),(ps.map (·.1)).zip (ps.map (·.2))=ps
 |[]=>rfl
 |p::ps=>by rw[zAH,zAH,zBi,aFy ps]
theorem ug(ps:List (Int×D)):oX (ps.map λ p=>.int p.1) (ps.map (·.2))=some ps:=by
 unfold oX;have e:intsOf (ps.map λ p=>D.int p.1)=some (ps.map (·.1)):=by
  rw[show(ps.map λ p=>D.int p.1)=(ps.map (·.1)).map D.int by rw[zAw];rfl];exact fZ _
 rw[e];dsimp only;rw[if_pos (by rw[zAF,zAF]),aFy]
theorem Rp.dctI_inv{K:zAA}(r:Rp K A H v (.dct ks vs))(h:oX ks vs=some ps):
  ∃a kvs,v= .ref a/\H a=some (.dK kvs)/\A a/\Rps K (λ p=>A p/\p≠a) H (kvs.map (·.2)) (ps.map (·.2))/\kvs.map (·.1)=ps.map λ p=>(zCR p.1:Key):=by
 obtain⟨h1,h2⟩:=xm h;generalize hd:D.dct ks vs=d at r;cases r with
 |dK hh m r=>
  rename_i kvs ds;injection hd with q1 q2
  subst q2;refine⟨_,kvs,rfl,hh,m,by rw[<-h2];exact r,?_⟩;rw[h1]at q1;clear r h h1 h2 hh;induction kvs generalizing ps with
  |nil=>cases ps with
   |nil=>rfl
   |cons _ _=>cases q1
  |cons p kvs ih=>cases ps with
   |nil=>cases q1
   |cons q ps=>
    obtain⟨p1,p2⟩:=p;rw[zAH,zAH]at q1;injection q1 with q3 q4
    rw[zAH,zAH,ih q4];cases p1 with
    |inl i=>injection q3 with q3;rw[q3]
    |inr x=>cases q3
 |dT hh m r=>
  injection hd with q1 q2
  rw[h1]at q1;cases ps<;>cases q1
 |_=>cases hd
theorem aDA{K:zAA}:∀{kvs:List (Key×V)} {ps:List (Int×D)},Rps K A H (kvs.map (·.2)) (ps.map (·.2))->(kvs.map (·.1)=ps.map λ p=>(zCR p.1:Key))->∀i:Int,
  (∃d v,ps.lookup i=some d/\vf kvs (.inl i)=some v/\Rp K A H v d)\/(ps.lookup i=none/\vf kvs (.inl i)=none)
 |[],[],_,_,_=>.inr ⟨rfl,rfl⟩
 |[],_::_,_,e,_=>by cases e
 |_::_,[],_,e,_=>by cases e
 |p::kvs,q::ps,r,e,i=>by
  obtain⟨p1,p2⟩:=p;obtain⟨q1,q2⟩:=q;rw[zAH,zAH]at e;injection e with e1 e2
  replace e1:p1= .inl q1:=e1;subst e1;rw[zAH,zAH]at r;cases r with
  |cons h r=>
   by_cases c:q1=i
   ·subst c
    exact .inl ⟨q2,p2,by simp[zAj],wy rfl,h⟩
   ·have c1:(i==q1)=false:=by simpa using λ z=>c z.symm
    rw[xF (p:=(zCR q1,p2)) (by simpa using c),zAj,c1];exact aDA r e2 i
def sI:D->D->Rs D
 | .dct ks vs,.int i=>match oX ks vs with
  |some ps=>(match ps.lookup i with
   |some d=>.ok d
   |none=>.st)
  |none=>.st
 |_,_=>.st
def aB3(neg:Bool):D->D->Rs D
 | .int i,.dct ks vs=>match oX ks vs with
  |some ps=>.ok (.bl (neg !=(ps.lookup i).isSome))
  |none=>.st
 |_,_=>.st
def aNy:R2:=λ x y H Q=>∃a v,x= .ref a/\zF H a y (some v)/\Q v H
def aLP(neg:Bool):R2:=λ y x H Q=>∃a o,x= .ref a/\zF H a y o/\Q (.bl (neg !=o.isSome)) H
theorem aLu{X:Cx}(hu:X.A.units+1<cLine):OpR X (zAo .In) (aLP false):=by
 intro pins s σ H y x u v Q I ry rx ⟨a,o,ex,g,q⟩;subst ex;cases rx;exact aOC hu I g ry λ s3 I3=>⟨.bl o.isSome,H,I3,rfl,by simpa using q⟩
theorem aLf{K:zAA}:OpS K (aLP n) (aB3 n):=by
 intro A x y d e H Q z rx ry ez q;unfold aB3 at ez;split at ez
 ·rename_i i ks vs
  cases hp:oX ks vs with
  |none=>rw[hp]at ez;cases ez
  |some ps=>
   rw[hp]at ez;cases ez;have ex:=rx.int_inv;subst ex;obtain⟨a,kvs,rfl,h1,m,r,hk⟩:=ry.dctI_inv hp;refine⟨a,_,rfl,zF.k (k:=.inl i) h1,?_⟩;rcases aDA r hk i with ⟨d,v,e1,e2,_⟩|⟨e1,e2⟩
   ·rw[e2];rw[e1]at q;exact q _ H (aa.refl H) (.bl _)
   ·rw[e2];rw[e1]at q;exact q _ H (aa.refl H) (.bl _)
 ·cases ez
section
variable{C:Ct}{m1 m2:Mode}{a b:Expr}{fa fb:En->Rs D}{pos:Pos}
theorem Ct.din(C:Ct)(i:C.ι):OpR (C.X i) (zAo .In) (aLP false):=aLu (by have:=(C.room i).un;lia)
theorem aLA(ha:SE C m1 a fa)(hb:SE C m2 b fb)(hm:zCC .In b=false:=by with_unfolding_all rfl):ST C (.Compare a [.In] [b] pos) (tsb (op2 (aB3 false) fa fb)):=rC C.din aLf ha hb hm
theorem aDN(ha:SE C m1 a fa)(hb:SE C m2 b fb)(hp:wg b:=by exact λ _ _=>rfl):SE C m1 (.Subscript a b pos) (op2 sI fa fb):=by
 obtain⟨t,h1,h2⟩:=ha;obtain⟨u,k1,k2⟩:=hb;refine⟨tOp aNy t u,λ i=>aJL (by have:=(C.room i).un;lia) (h1 i) (k1 i) hp,λ τ σ H ρ lab Q R W=>?_⟩;refine h2 τ σ H ρ lab _ R (W.bd.imp λ d _ w x H1 s1 r1=>?_);refine k2 τ σ H1 ρ lab _ (R.up s1) (w.bd.imp λ e _ w y H2 s2 r2=>?_);obtain⟨z,ez,wz⟩:=w.okD;cases d with
 |dct ks vs=>
  cases e with
  |int i=>
   cases hp2:oX ks vs with
   |none=>unfold sI at ez;dsimp only at ez;rw[hp2]at ez;cases ez
   |some ps=>
    unfold sI at ez;dsimp only at ez;rw[hp2]at ez;dsimp only at ez;have ey:=r2.int_inv;subst ey;obtain⟨a,kvs,rfl,g1,m,r,hk⟩:=(r1.up s2).dctI_inv hp2;rcases aDA r hk i with ⟨d,v,e1,e2,e3⟩|⟨e1,e2⟩
    ·rw[e1]at ez
     cases ez;have g2:zF H2 a (.int i) (some v):=by
      have:=zF.k (k:=.inl i) g1
      rw[e2]at this;exact this
     exact⟨a,v,rfl,g2,wz v H2 (s1.trans s2) (e3.wk λ p o _ q=>q.1)⟩
    ·rw[e1]at ez;cases ez
  |_=>cases ez
 |_=>cases ez
end
def aD2(ps:List (Int×D))(i:Int)(d:D):List (Int×D):=if (ps.any λ p=>decide (p.1=i))=true then ps.map (λ p=>if p.1=i then(p.1,d)else p)else ps++[(i,d)]
theorem aIJ:∀{kvs:List (Key×V)} {ps:List (Int×D)} {i:Int},(kvs.map (·.1)=ps.map λ p=>(zCR p.1:Key))->(kvs.any λ kv=>decide (kv.1=(.inl i:Key)))=ps.any λ p=>decide (p.1=i)
 |[],[],_,_=>rfl
 |[],_::_,_,e=>by cases e
 |_::_,[],_,e=>by cases e
 |(p1,p2)::kvs,q::ps,i,e=>by
  rw[zAH,zAH]at e;injection e with e1 e2
  replace e1:p1= .inl q.1:=e1;subst e1;rw[zC1,zC1,aIJ e2];simp
theorem aGa{K:zAA}{i:Int}{v:V}{d:D}(h:Rp K A H v d):∀{kvs:List (Key×V)} {ps:List (Int×D)},Rps K A H (kvs.map (·.2)) (ps.map (·.2))->(kvs.map (·.1)=ps.map λ p=>(zCR p.1:Key))->
  Rps K A H ((kvs.map λ kv=>if kv.1= .inl i then(kv.1,v)else kv).map (·.2)) ((ps.map λ p=>if p.1=i then(p.1,d)else p).map (·.2))/\((kvs.map λ kv=>if kv.1= .inl i then(kv.1,v)else kv).map (·.1)=(ps.map λ p=>if p.1=i then(p.1,d)else p).map λ p=>(zCR p.1:Key))
 |[],[],_,_=>⟨.nil,rfl⟩
 |[],_::_,_,e=>by cases e
 |_::_,[],_,e=>by cases e
 |(p1,p2)::kvs,(q1,q2)::ps,r,e=>by
  rw[zAH,zAH]at e;injection e with e1 e2
  replace e1:p1= .inl q1:=e1;subst e1;rw[zAH,zAH]at r;cases r with
  |cons h1 r1=>
   obtain⟨z1,z2⟩:=aGa h r1 e2;rw[zAH,zAH,zAH,zAH,zAH,zAH,z2];by_cases c:q1=i
   ·subst c
    rw[if_pos rfl,if_pos rfl];exact⟨.cons h z1,rfl⟩
   ·rw[if_neg (show¬((zCR q1:Key),p2).1=zCR i by simpa using c),if_neg (show¬(q1,q2).1=i from c)]
    exact⟨.cons h1 z1,rfl⟩
theorem aLT{K:zAA}{kvs:List (Key×V)}{ps:List (Int×D)}{i:Int}{v:V}{d:D}(r:Rps K A H (kvs.map (·.2)) (ps.map (·.2)))(e:kvs.map (·.1)=ps.map λ p=>(zCR p.1:Key))(h:Rp K A H v d):
  Rps K A H ((putK kvs (.inl i) v).map (·.2)) ((aD2 ps i d).map (·.2))/\(putK kvs (.inl i) v).map (·.1)=(aD2 ps i d).map λ p=>(zCR p.1:Key):=by
 unfold putK aD2;rw[aIJ e];split
 ·exact aGa h r e
 ·rw[zAl,zAl,zAl,zAl,e]
  exact⟨r.append (.cons h .nil),rfl⟩
theorem aKB{K:zAA}{kvs:List (Key×V)}{ps:List (Int×D)}(h:H a=some (.dK kvs))(m:A a)(r:Rps K (λ p=>A p/\p≠a) H (kvs.map (·.2)) (ps.map (·.2)))(e:kvs.map (·.1)=ps.map λ p=>(zCR p.1:Key)):Rp K A H (.ref a) (aCk ps):=by
 have e1:(kvs.map λ p=>kD p.1)=ps.map λ p=>.int p.1:=by
  rw[show(kvs.map λ p=>kD p.1)=(kvs.map (·.1)).map kD by rw[zAw];rfl,e,zAw];rfl
 have:=Rp.dK h m r
 rw[e1]at this;exact this
section
variable{C:Ct}{pos tpos p:Pos}{ek e:Expr}{fk fe:En->Rs D}{x:Str}{m m1:Mode}
end
def yd(acc qs:List (Int×D)):List (Int×D):=qs.foldl (λ ps q=>aD2 ps q.1 q.2) acc
section
variable{K:zAA}{G:Gx}{wi:TI}{fi:En->Rs (List D)}{g:TG}{fg:D->En->Rs En}{tt:TT}{ft:En->Rs Bool}{tk tv:TE}{fk fv:En->Rs D}{js:List (Option Nat)}
end
section
variable{C:Ct}{pos:Pos}{kx vx tg iter:Expr}{ifs:List Expr}{sc:Scope}{N:List Str}{js:List (Option Nat)}{ks:List Nat}{fi:En->Rs (List D)}{fg:D->En->Rs En}{ft:En->Rs Bool}{fk fv:En->Rs D}
end
section
variable{C:Ct}{m m1:Mode}{o e:Expr}{fo fe:En->Rs D}{apos cpos:Pos}
end
section
variable{prog:zA7}{w:World}{A:zAk}{E:Value->zAG->Prop}{s:zAG}
end
section
variable{X:Cx}
end
section
variable{C:Ct}{pos p p2 pos2:Pos}{m:Mode}{a:Expr}{ga:En->Rs (List D)}
end
section
variable{K:zAA}{G:Gx}{wi wi2:TI}{fi fi2:En->Rs (List D)}{js:List (Option Nat)}{ks ks2:List Nat}{g g2:TG}{fg fg2:D->En->Rs En}{tt tt2:TT}{ft ft2:En->Rs Bool}{tk tv:TE}{fk fv:En->Rs D}
end
section
variable{C:Ct}{pos:Pos}{kx vx tg iter tg2 iter2:Expr}{ifs ifs2:List Expr}{sc:Scope}{N:List Str}{js:List (Option Nat)}{ks ks2:List Nat}{fi fi2:En->Rs (List D)}{fg fg2:D->En->Rs En}{ft ft2:En->Rs Bool}{fk fv:En->Rs D}
end
section
variable{C:Ct}{pos p:Pos}{m:Mode}{a:Expr}{ga:En->Rs (List D)}
end
end VL
namespace PySem
open Sem(wp)
theorem aBJ:zD3 (.type "tuple") "keys"=pure none:=by rw[zEV,zDO];kernel_rfl
theorem z8{prog:zA7}{w:World}{A:zAk}{E:Value->zAG->Prop}{s:zAG}{a:Addr}{o:Obj}{xs:Array Value}{k:Nat}{Q:Option Value->zAG->Prop}
  (hx:s.heap.get? a=some o)(hc:o.cls= .type "tuple")(hdat:o.data= .seq xs k)(hd:o.dict=none)(hA:A.handled=none)
  (h:∀h' tk e,Heap.NewExcOf s.heap h' e "AttributeError"->Q none {s with heap:=h',toks:=tk}):
  wpAny (model prog w) A (zIF (.ref a) "keys") Q E s:=by
 obtain⟨c,dct,dat,sl⟩:=o;simp only at hc hdat hd;subst hc hdat hd;obtain⟨hp,g,d,tk,os⟩:=s;have hT:∀tk',(⟨hp,g,d,tk',os⟩:zAG).TypeIs (.ref a) "tuple":=λ _=>⟨_,hx,rfl⟩
 have f1:=sub_AttributeError;have f3:=zDd.lookup;have f4:=zDd.bind (.ref a);have f5:=am_tuple_getattr_none;unfold zIF getAttrBy? getAttrBy
 repeat (any_goals (first|assumption|exact hT _|((with_reducible show wpAny _ _ (call (zDJ "tuple.__getattribute__") _ _) _ _ _);refine zE4 zDd (hT _) am_entry_tuple_getattribute (F.args_tuple_getattribute_2 _ _) (meets_getattribute_miss_tuple a xs k sl "keys" _ aBJ (by decide+kernel) (by size_fits)) ⟨hx,hA,λ h' tk' e hx'=>?_⟩)|wp_step))
 obtain⟨t',u',he⟩:=hx'.there;show wpAny _ _ (zIG _ _ _ _ _ _ _) _ _ _;unfold zIG
 repeat (any_goals (first|assumption|wp_step))
 exact h _ _ _ hx'.of
section
variable{prog:zA7}{w:World}{A:zAk}{E:Value->zAG->Prop}{s:zAG}
theorem aEH{l:Addr}{o:Obj}{vs:Array Value}{k:Nat}{Q:Value->zAG->Prop}(hx:s.heap.get? l=some o)(hc:o.cls= .type "tuple")(hdat:o.data= .seq vs k)(hd:o.dict=none)(hA:A.in1.in1.handled=none)
  (hrun:∀(h':Heap) (tk:Nat),(∀b ob,(s.heap.push {cls:=.type "dict",data:=.dict #[]}).get? b=some ob->h'.get? b=some ob)->zBm (model prog w) A.in1 (.builtin "dict.update.loop" ⟨[.ref s.heap.objs.size,.ref h'.objs.size,zGE 0,.none],[]⟩) (wants (λ r s₂=>r= .none/\Q (.ref s.heap.objs.size) s₂) E) {s with heap:=h'.push {cls:=.type "tuple_iterator",data:=.fields #[.ref l,.int 0 0]},toks:=tk}):
  wpAny (model prog w) A (call (.type "dict") [.ref l]) Q E s:=by
 refine callType_codes (Q₁:=λ obj s₁=>obj= .ref s.heap.objs.size/\s₁={s with heap:=s.heap.push {cls:=.type "dict",data:=.dict #[]}}) F.kt_called_dict (F.kt_typeCall_dict_1 _) F.entry_dict_init (kt_code_dict_new _ ⟨rfl,rfl⟩) ?_;rintro obj s₁ ⟨rfl,rfl⟩;have hty:zDc {s with heap:=s.heap.push {cls:=.type "dict",data:=.dict #[]}} (.ref s.heap.objs.size) "dict":=⟨_,zAK _ rfl,rfl⟩;have hx':(s.heap.push {cls:=.type "dict",data:=.dict #[]}).get? l=some o:=zAD _ hx;have htl:zDc {s with heap:=s.heap.push {cls:=.type "dict",data:=.dict #[]}} (.ref l) "tuple":=⟨_,hx',hc⟩;refine⟨hty,F.args_dict_init_2 _ _,?_⟩;unfold zCO.«dict.__init__»;refine zAB ?_;unfold Builtin.Dict.selfAndRest;refine zAB (wpAny_notOrdered_dict hty ?_);show wpAny _ _ (pure (s.heap.objs.size,[zBG l])) _ _ _;refine zAE ?_;show wpAny _ _ (zEb "dict.__init__" s.heap.objs.size (.ref l) [] .none) _ _ _;unfold zEb;refine zAB (zCt htl ?_);rw[if_pos (by decide)];refine zAB (z8 hx' hc hdat hd (by assumption) λ h' tk e hn=>?_);rw[if_pos (show(none:Option Value).isNone=true from rfl)];have keep:=hn.keeps;have hl:h'.IsTuple l vs:=⟨o,keep _ _ hx',hc,k,hdat⟩;refine zAB (zD4 ?_);refine zAB (zC2 hl ?_);exact zAE ⟨zCl _ (by decide+kernel),hrun h' tk keep⟩
theorem oE:zGw table "dict.update.loop"=some zCO.«dict.update.loop»:=entryFor_of_tree (by kernel_rfl)
inductive mD{K:Type}[DecidableEq K](knd:KeyKind prog w K)(h:Heap):List Value->List (K×Value)->Prop where
 |nil:mD knd h [] []
 |cons {x:Addr} {o:Obj} {n:Nat} {kv v:Value} {k:K} {us:List Value} {ps:List (K×Value)} (ho:h.get? x=some o) (hc:o.cls= .type "tuple") (hd:o.data= .seq #[kv,v] n) (hk:knd.is k kv=true) (r:mD knd h us ps):mD knd h (.ref x::us) ((k,v)::ps)
theorem mD.mono{K:Type}[DecidableEq K]{knd:KeyKind prog w K}{h h':Heap}:∀{us:List Value} {ps:List (K×Value)},mD knd h us ps->(∀x,.ref x∈us->∀o,h.get? x=some o->h'.get? x=some o)->mD knd h' us ps
 |_,_,.nil,_=>.nil
 |_,_,.cons ho hc hd hk r,k=>.cons (k _ zAQ _ ho) hc hd hk (r.mono λ x hx=>k x (zAJ _ hx))
theorem aED{K:Type}[DecidableEq K]{knd:KeyKind prog w K}{d it t:Addr}{vs:Array Value}{R:zDr->zAG->Prop}(hdi:d≠it)(hdt:d≠t)(hti:t≠it)(hA:A.handled=none):
  ∀(us:List Value) (ps:List (K×Value)) (i:Nat) (s:zAG) (acc:List (K×Value)),us=vs.toList.drop i->mD knd s.heap us ps->(∀x,.ref x∈us->x≠d/\x≠it)->s.heap.IsTupleIter it t i->s.heap.IsTuple t vs->s.heap.DictOf knd d acc->acc.length+us.length<=zAT->
   (∀h' tk,h'.DictOf knd d (ps.foldl (λ a p=>zII a p.1 p.2) acc)->(∀b o,b≠d->b≠it->s.heap.get? b=some o->h'.get? b=some o)->R (.ok (.ret .none)) {s with heap:=h',toks:=tk})->
   zBm (model prog w) A (.builtin "dict.update.loop" ⟨[.ref d,.ref it,zGE (i:Int),.none],[]⟩) R s:=by
 intro us;induction us with
 |nil=>
  intro ps i s acc hu hp _ hit ht hd _ q;cases hp;refine zBT oE ?_;rw[zBA (by decide+kernel) _];unfold zCO.«dict.update.loop»;have hx:vs[i]? =none:=by
   rw[<-zBE,zC9]
   have:=congrArg zFK hu
   rw[zCL,zAy]at this;omega
  refine zAB (zHR hA hit ht hx λ h' he=>?_);refine zAB (zAE (zAE ?_));exact q h' s.toks (hd.extBut he hdi) λ b o _ h2 e=>he b o h2 e
 |cons u us ih=>
  intro ps i s acc hu hp hne hit ht hd hz q;cases hp with
  |@cons x o n kv v k _ ps' ho hc hdt' hk r=>
  refine zBT oE ?_;rw[zBA (by decide+kernel) _];unfold zCO.«dict.update.loop»;have hx:vs[i]? =some (.ref x):=by
   rw[<-zBE]
   have:=congrArg (λ l=>l[0]?) hu
   simpa using this.symm
  refine zAB (zHC hit ht hx λ h' hit' hs=>?_);obtain⟨hxd,hxi⟩:=hne x zAQ;have ho':h'.get? x=some o:=by rw[hs.2 x hxi];exact ho
  have hT:zDc {s with heap:=h'} (.ref x) "tuple":=⟨o,ho',hc⟩;have hd':=hd.sameBut hs hdi;refine zAB (zBj (zAB (wpAny_tryCatch ?_)));unfold Builtin.Dict.pairItems;refine zAB (zCt hT ?_);rw[if_pos (by decide)];refine zAB (zEk ho' hdt' ?_);refine zAE ?_;show wpAny _ _ (zEs [kv,v] (dictSet d kv v)) _ _ _;refine zBj (wpAny_dictSet_pairs (knd:=knd) (k:=k) (hsz:=by omega) hk hd' λ h2 hd2 hs2=>?_);have keep:∀b ob,b≠d->b≠it->s.heap.get? b=some ob->h2.get? b=some ob:=λ b ob n1 n2 e=>by
   rw[hs2.2 b n1];show h'.get? b=some ob;rw[hs.2 b n2];exact e
  have hi2:h2.IsTupleIter it t (i+1):=by
   obtain⟨oi,e1,e2⟩:=hit';exact⟨oi,by rw[hs2.2 it (zDD hdi)];exact e1,e2⟩
  have ht2:h2.IsTuple t vs:=by
   obtain⟨ot,e1,e2⟩:=ht;exact⟨ot,keep t ot (zDD hdt) hti e1,e2⟩
  have hl:(zII acc k v).length<=acc.length+1:=stored_length_le acc k v;have ei:((i:Int)+1)=((i+1:Nat):Int):=by omega
  refine zAE ⟨zCl _ (by decide+kernel),?_⟩;rw[ei];refine ih ps' (i+1) _ (zII acc k v) ?_ (r.mono λ y hy ob e=>keep y ob (hne y (zAJ _ hy)).1 (hne y (zAJ _ hy)).2 e) (λ y hy=>hne y (zAJ _ hy)) hi2 ht2 hd2 (by rw[zA8]at hz;omega) λ h3 tk hd3 k3=>?_
  ·rw[<-zHn,<-hu]
   rfl
  ·exact q h3 tk hd3 λ b ob n1 n2 e=>k3 b ob n1 n2 (keep b ob n1 n2 e)
end
end PySem
namespace VL
open PySem PySem.Spec PyProof.Rows L2
def aD3:List (List Int)->Option (List (Int×Int))
 |[]=>some []
 |[i,j]::r=>(match aD3 r with
  |some qs=>some ((i,j)::qs)
  |none=>none)
 |_=>none
theorem aAE:∀{nss:List (List Int)} {qs:List (Int×Int)},aD3 nss=some qs->nss=qs.map λ q=>[q.1,q.2]
 |[],_,h=>by cases h;rfl
 |[]::_,_,h=>by cases h
 |[_]::_,_,h=>by cases h
 |[i,j]::r,qs,h=>by
  unfold aD3 at h;split at h
  ·rename_i q e
   cases h;rw[zAH,<-aAE e]
  ·cases h
 |(_::_::_::_)::_,_,h=>by cases h
def aFa(q:Int×Int):Key×V:=(.inl q.1,.int q.2)
def aD0(K:zAA):List V->Hp->VK->Prop:=λ xs H Q=>∃p vs nss qs,xs=[.ref p]/\SqT K H p vs/\fP K H vs nss/\aD3 nss=some qs/\∀l H',aa H H'->H l=none->H' l=some (.dK ((qs.map aFa).foldl (λ a q=>putK a q.1 q.2) []))->Q (.ref l) H'
theorem aAF{X:Cx}{pins:List (Addr×Obj)}{s:zAG}{σ:L2.St}{H:Hp}(I:Inv X pins σ H s):∀{vs:List V} {qs:List (Int×Int)},fP X.K H vs (qs.map λ q=>[q.1,q.2])->∃ps:List (Key×Value),mD (di X.prog X.w) s.heap (vs.map kZ) ps/\KV (qs.map aFa) ps/\∀x,.ref x∈vs.map kZ->x<s.heap.objs.size
 |_,[],t=>by cases t;exact⟨[],.nil,.nil,λ x h=>nomatch h⟩
 |_,q::qs,t=>by
  rw[zAH]at t;cases t with
  |@cons a ns vs nss h hne r=>
   obtain⟨ps,p1,p2,p3⟩:=aAF I r;obtain⟨its,rv,⟨o,ho,hc,n,hd⟩,_⟩:=I.tuple h;cases rv with
   |cons ru rv=>
   cases rv with
   |cons ru2 rv=>
   cases rv;rename_i u u2;refine⟨(.inl q.1,u2)::ps,.cons ho hc hd (aEq (k:=.inl q.1) ru) p1,.cons ⟨rfl,ru2⟩ p2,λ x hx=>?_⟩;rcases zAL.mp hx with e|e
   ·cases e
    exact zAP ho
   ·exact p3 x e
theorem aEp:∀{l:List (Key×V)} {ps acc':List (Key×Value)} {acc:List (Key×V)},KV l ps->KV acc acc'->KV (l.foldl (λ a q=>putK a q.1 q.2) acc) (ps.foldl (λ a p=>zII a p.1 p.2) acc')
 |_,_,_,_,.nil,h=>h
 |_,_,_,_,.cons (a:=p) (b:=q) ⟨e,r⟩ t,h=>by
  rw[zBp,zBp,e];exact aEp t (h.put q.1 r)
theorem aCW:∀(l:List (Key×V)) (acc:List (Key×V)),(l.foldl (λ a q=>putK a q.1 q.2) acc).length<=acc.length+l.length
 |[],_=>zAO _
 |p::l,acc=>by
  rw[zBp];have h1:=aCW l (putK acc p.1 p.2);have h2:=aCV acc p.1 p.2;rw[zA8];lia
theorem aCs{X:Cx}(hc:X.calm=true):cX X (.type "dict") (aD0 X.K):=by
 intro pins s σ H xs us Q I r h;obtain⟨p,vs,nss,qs,rfl,hp,ht,hq,q⟩:=h;obtain⟨u,rfl,ru⟩:=vals1 r;cases ru;have en:=aAE hq;subst en;obtain⟨its,rv,⟨o,ho,hcl,n,hd⟩,hz⟩:=I.tuple hp;have e:=ht.vals rv;subst e;obtain⟨ps,p1,p2,p3⟩:=aAF I ht;have hpl:=zAP ho;refine aEH ho hcl hd (I.noD hp o ho) (I.ok.hd hc) λ h' tk keep=>?_
 have hd0:h'.get? s.heap.objs.size=some {cls:=.type "dict",data:=.dict #[]}:=keep _ _ (zAK _ rfl);have hsz:s.heap.objs.size<h'.objs.size:=zAP hd0;have k0:∀b u,s.heap.get? b=some u->h'.get? b=some u:=λ b u e=>keep b u (zAD _ e)
 refine aED (knd:=di X.prog X.w) (vs:=(vs.map kZ).toArray) (A:=X.A.in1) (t:=p) (zAV hsz) (zBn hpl) (zAV (zCF hpl hsz)) (I.ok.hd hc) (vs.map kZ) ps 0 _ [] (by simp) (p1.mono λ x hx ob e=>zAD _ (k0 x ob e)) (λ x hx=>⟨zAV (p3 x hx),zAV (zCF (p3 x hx) hsz)⟩) ⟨_,zAK _ rfl,rfl,rfl⟩ ⟨o,zAD _ (k0 p o ho),hcl,n,hd⟩ ?_ ?_ λ h3 tk3 hd3 k3=>⟨rfl,?_⟩
 ·exact⟨_,#[],0,zAD _ hd0,⟨rfl,rfl,rfl⟩,rfl,λ _ he=>(by simp at he),Pairs.nil,List.nodup_nil⟩
 ·rw[zAF,zAy]
  lia
 ·have hl:qs.length=vs.length:=by rw[ht.len,zAF]
  have hfr:H s.heap.objs.size=none:=I.hok.fresh (zAO _);refine⟨.ref s.heap.objs.size,upd H s.heap.objs.size (.dK ((qs.map aFa).foldl (λ a q=>putK a q.1 q.2) [])),I.laid (t':=tk3) (λ b u e=>k3 b u (zAV (zAP e)) (zAV (zCF (zAP e) hsz)) (zAD _ (k0 b u e))) (zAO _) (aM4 ?_ (beq_eq_false_iff_ne.mpr (zDD (zAV I.big))) (aEp p2 .nil) hd3),rfl,q _ _ (bC hfr _) hfr bB⟩
  have:=aCW (qs.map aFa) []
  rw[zAF,zAy]at this;lia
def v7:List D->Rs D
 |[.tup l]=>match kE l with
  |some nss=>(match aD3 nss with
   |some qs=>.ok (aCk (yd [] (qs.map λ q=>(q.1,.int q.2))))
   |none=>.st)
  |none=>.st
 |_=>.st
theorem aCe{K:zAA}:∀(qs:List (Int×Int)) {acc:List (Key×V)} {ps:List (Int×D)},Rps K A H (acc.map (·.2)) (ps.map (·.2))->(acc.map (·.1)=ps.map λ p=>(zCR p.1:Key))->
  Rps K A H (((qs.map aFa).foldl (λ a q=>putK a q.1 q.2) acc).map (·.2)) ((yd ps (qs.map λ q=>(q.1,.int q.2))).map (·.2))/\(((qs.map aFa).foldl (λ a q=>putK a q.1 q.2) acc).map (·.1)=(yd ps (qs.map λ q=>(q.1,.int q.2))).map λ p=>(zCR p.1:Key))
 |[],_,_,r,e=>⟨r,e⟩
 |q::qs,acc,ps,r,e=>by
  obtain⟨z1,z2⟩:=aLT (i:=q.1) (v:=.int q.2) (d:=.int q.2) r e (.int q.2);exact aCe qs z1 z2
theorem aIC{K:zAA}:aFH K (aD0 K) v7:=by
 intro A xs ds H Q z r ez q;unfold v7 at ez;split at ez
 ·cases r with
  |cons h r=>
   cases r;cases h with
   |tup h r=>
    split at ez
    ·rename_i nss e
     split at ez
     ·rename_i qs e3
      obtain⟨e1,e2⟩:=lW e;subst e1;cases ez;have ht:=sX r e2;refine⟨_,_,nss,qs,rfl,h,ht,e3,λ l H' s hl hl2=>q _ H' s ?_⟩;obtain⟨z1,z2⟩:=aCe (K:=K) (A:=λ p=>H p=none/\p≠l) (H:=H') qs (acc:=[]) (ps:=[]) .nil rfl;exact aKB hl2 hl z1 z2
     ·cases ez
    ·cases ez
 ·cases ez
section
variable{C:Ct}{pos p p2 pos2:Pos}{m:Mode}{a:Expr}{ga:En->Rs (List D)}
theorem aG2(hm:C.mg "dict"=none)(ha:SA C m [a] ga)(he:∀i,zAW [a] (C.X i).env=[(false,eval a (C.X i).env)]:=by intro _;rfl)(hg:∀i,Gl (C.X i) "dict":=by intro _;rfl)(hv:zAn "dict"=some (.type "dict"):=by decide+kernel):SE C (some []) (.Call (.Name "dict" p) [a] [] pos) (opA v7 ga):=by
 obtain⟨t,h1,h2⟩:=ha;refine⟨_,λ i=>iU (r:=aD0 C.K) (by rw[<-C.hK i];exact aCs (C.calm i)) (hg i) (by rw[(C.cx i).2.2.2.1];exact hm) hv (h1 i) (by decide) (by decide) (he i) rfl,aAk aIC h2⟩
end
theorem nq:zD3 (.type "dict_values") "__contains__"=pure none:=by rw[zEV,zDO];kernel_rfl
theorem j8:zGw table "proto.contains_iter"=some zCO.«proto.contains_iter»:=entryFor_of_tree (by kernel_rfl)
def aIR{K:Type}:List (K×Value)->List Int->Prop:=zGe λ p j=>∃t,p.2=zDN j t
section
variable{prog:zA7}{w:World}{A:zAk}{E:Value->zAG->Prop}{K:Type}[DecidableEq K]{knd:KeyKind prog w K}
theorem aID{it d:Addr}{vs:List (K×Value)}{ep:Nat}{i:Int}{t:Tok}{R:zDr->zAG->Prop}(hdi:d≠it)(hA:A.handled=none):
  ∀(ws:List (K×Value)) (js:List Int) (k:Nat) (s:zAG),ws=vs.drop k->aIR ws js->s.heap.IsValIter it d k vs.length ep->s.heap.DictAt knd d vs ep->
   (∀h' tk,(∀b o,b≠it->s.heap.get? b=some o->h'.get? b=some o)->R (.ok (.ret (.bool (js.any (·==i))))) {s with heap:=h',toks:=tk})->
   zBm (model prog w) A (.builtin "proto.contains_iter" ⟨[.ref it,.int i t],[]⟩) R s:=by
 intro ws;induction ws with
 |nil=>
  intro js k s hu hp hit hd q;cases hp;refine zBT j8 ?_;rw[zBA (by decide+kernel) _];unfold zCO.«proto.contains_iter»;have hx:vs[k]? =none:=by
   rw[zC9]
   have:=congrArg zFK hu
   rw[zCL,zAy]at this;lia
  refine zAB (wpAny_pyNext_values_end hA hit hd (by have:=zC9.mp hx;lia) λ h' he=>?_);refine zAB (zD4 (zAE ?_));exact q h' s.toks λ b o h2 e=>he b o h2 e
 |cons u us ih=>
  intro js k s hu hp hit hd q;cases hp with
  |cons hv r=>
  rename_i j js;obtain⟨kk,v⟩:=u;obtain⟨tv,ev⟩:=hv;replace ev:v= .int j tv:=ev;subst ev;refine zBT j8 ?_;rw[zBA (by decide+kernel) _];unfold zCO.«proto.contains_iter»;have hx:vs[k]? =some (kk,.int j tv):=by
   have:=congrArg (λ l=>l[0]?) hu
   simpa using this.symm
  refine zAB (wpAny_pyNext_values_item hit hd hx λ h' hit' hs=>?_);refine zAB (zFi ?_);have hk:∀b o,b≠it->s.heap.get? b=some o->h'.get? b=some o:=λ b o n e=>(hs.2 b n).trans e
  by_cases e:j=i
  ·subst e
   rw[if_pos (by simp)];refine zAB (zD4 (zAE ?_))
   have:=q h' s.toks hk
   rw[zC1,beq_self_eq_true,Bool.true_or]at this;exact this
  ·rw[if_neg (by simpa using e)]
   refine zAE ⟨zCl _ (by decide+kernel),?_⟩;refine ih js (k+1) _ ?_ r hit' (hd.extBut hs.extBut hdi) λ h3 tk k3=>?_
   ·rw[<-zHn,<-hu]
    rfl
   ·have:=q h3 tk λ b o n e=>k3 b o n (hk b o n e)
    rw[zC1,show(j==i)=false by simpa using e,Bool.false_or]at this;exact this
theorem zb{l d:Addr}{vs:List (K×Value)}{js:List Int}{i:Int}{t:Tok}{s:zAG}{Q:Bool->zAG->Prop}(hA:A.handled=none)(hl:s.heap.IsValuesView l d)(hd:s.heap.DictOf knd d vs)(hj:aIR vs js)
  (h:∀h' tk,(∀b o,s.heap.get? b=some o->h'.get? b=some o)->Q (js.any (·==i)) {s with heap:=h',toks:=tk}):wpAny (model prog w) A (contains (.ref l) (.int i t)) Q E s:=by
 obtain⟨ep,hda⟩:=hd.dictAt;unfold contains;refine zBj ?_;rw[stdlibNamesSay?_of_typeIs hl.typeIs];refine zAB (zEX hl.typeIs nq ?_);show wpAny _ A (if (none==some zBI)=true then _ else _) Q E s;rw[if_neg (by simp)];refine zAB (wpAny_callSpecialUnlessNone?_none hl.typeIs nq ?_);refine zAB (zD4 (zAB (wpAny_tryCatch ?_)));refine wpAny_pyIter_values hl hda ?_;refine zAB (zEj ?_);have hlt:=hda.lt_size;refine aID (vs:=vs) (d:=d) (ep:=ep) (knd:=knd) (zAV hlt) hA vs js 0 _ rfl hj ⟨_,zAK _ rfl,rfl,rfl⟩ (hda.push _) λ h' tk k=>?_
 exact zAE (h h' tk λ b o e=>k b o (zAV (zAP e)) (zAD _ e))
end
def aGB(l a:Addr):HO:=.ext λ h=>h.IsValuesView l a
def aGf:V->List V->Hp->VK->Prop:=λ x xs H Q=>∃a kvs,x= .ref a/\xs=[]/\H a=some (.dK kvs)/\∀l,H l=none->Q (.ref l) (upd H l (aGB l a))
def aLM(neg:Bool):R2:=λ y x H Q=>∃(l a:Addr) (kvs:List (Key×V)) (js:List Int) (i:Int),x= .ref l/\y= .int i/\H l=some (aGB l a)/\H a=some (.dK kvs)/\kvs.map (·.2)=js.map V.int/\Q (.bl (neg !=js.any (·==i))) H
theorem aF3{X:Cx}:MtR X "dict.values" aGf:=by
 intro pins s σ H x xs v us Q I rx rxs h;obtain⟨a,kvs,rfl,rfl,ha,q⟩:=h;cases rx;cases rxs;obtain⟨z,hd,vs,rel,dd⟩:=aKh I.hok ha;have hfr:H s.heap.objs.size=none:=I.hok.fresh (zAO _);refine call_meetsIn zFP dd.typeIs PySem.F.entry_dict_values (PySem.F.args_dict_values_1 _) (meets_dict_values (di X.prog X.w) a hd) ⟨⟨vs,dd⟩,⟨.ref s.heap.objs.size,upd H s.heap.objs.size (aGB s.heap.objs.size a),I.laid (t':=s.toks) (λ b o e=>zAD _ e) (zAO _) ?_,rfl,q _ hfr⟩⟩;exact⟨⟨_,zAK _ rfl,rfl,rfl⟩,⟨_,zAK _ rfl⟩,λ h1 h2 ⟨o,e,r⟩ k=>⟨o,k o e,r⟩⟩
theorem aCa:∀{kvs:List (Key×V)} {vs:List (Key×Value)} {js:List Int},KV kvs vs->kvs.map (·.2)=js.map V.int->aIR vs js
 |_,_,[],.nil,_=>.nil
 |_,_,_::_,.nil,e=>by cases e
 |_,_,[],.cons _ _,e=>by cases e
 |_,_,j::js,.cons (a:=p) (b:=q) h t,e=>by
  rw[zAH,zAH]at e;injection e with e1 e2
  have h2:=h.2;rw[e1]at h2;exact .cons h2 (aCa t e2)
theorem aJW{X:Cx}(hc:X.calm=true):OpR X (zAo .NotIn) (aLM true):=by
 intro pins s σ H y x u v Q I ry rx ⟨l,a,kvs,js,i,ex,ey,hl,ha,hk,q⟩;subst ex;cases rx;subst ey;obtain⟨t,rfl⟩:=ry;obtain⟨z,hd,vs,rel,dd⟩:=aKh I.hok ha;show wpAny (model X.prog X.w) X.A (do return zD7 (!(<-contains (.ref l) (.int i t)))) _ _ s;exact zAB (zb (I.ok.hd hc) (I.hok l _ hl).1 dd (aCa rel hk) λ h' tk k=>zAE ⟨.bl (!js.any (·==i)),H,I.kept k,rfl,by simpa using q⟩)
def zG(neg:Bool):D->D->Rs D
 | .int i,.dct ks vs=>match oX ks vs,intsOf vs with
  |some _,some js=>.ok (.bl (neg !=js.any (·==i)))
  |_,_=>.st
 |_,_=>.st
theorem aI1(h:zG neg d e= .ok z):∃i ks vs ps js,d= .int i/\e= .dct ks vs/\oX ks vs=some ps/\intsOf vs=some js/\z= .bl (neg !=js.any (·==i)):=by
 unfold zG at h;split at h
 ·split at h
  ·rename_i i ks vs _ _ ps js h1 h2
   cases h;exact⟨i,ks,vs,ps,js,rfl,rfl,h1,h2,rfl⟩
  ·cases h
 ·cases h
theorem aIg{K:zAA}{G:Gx}{ta to:TE}{fa fo:En->Rs D}(h1:jR K G m1 ta fa)(h2:jR K G m2 to fo):jR K G (some []) (tOp (aLM n) ta (aKv K "dict" aGf to)) (op2 (zG n) fa fo):=by
 intro τ σ H ρ lab Q R W;refine h1 τ σ H ρ lab _ R (W.bd.imp λ d _ w x H1 s1 r1=>?_);refine h2 τ σ H1 ρ lab _ (R.up s1) (w.bd.imp λ e _ w y H2 s2 r2=>?_);obtain⟨z,ez,wz⟩:=w.okD;obtain⟨i,ks,vs,ps,js,rfl,rfl,hp,hj,rfl⟩:=aI1 ez;have ex:=(r1.up s2).int_inv;subst ex;obtain⟨a,kvs,rfl,g1,m,r,hk⟩:=r2.dctI_inv hp;refine⟨.inr (.inr (.inl ⟨rfl,.inl ⟨_,g1⟩⟩)),a,kvs,rfl,rfl,g1,λ l hl=>?_⟩;have hne:a≠l:=λ e=>by subst e;rw[g1]at hl;cases hl
 have ev:kvs.map (·.2)=js.map V.int:=by
  rw[<-(xm hp).2,cu hj]at r;exact r.ints_of
 exact⟨l,a,kvs,js,i,rfl,rfl,bB,by rw[bI hne];exact g1,ev,wz _ _ ((s1.trans s2).trans (bC hl _)) (.bl _)⟩
section
variable{C:Ct}{m1 m2:Mode}{a o:Expr}{fa fo:En->Rs D}{pos apos cpos:Pos}
theorem aI8(ha:SE C m1 a fa)(ho:SE C m2 o fo)(hbase:∀j,zCy o "values" (C.X j).env (eval o (C.X j).env)=eval o (C.X j).env:=by intro _;rfl)(hline:(apos.endLine==cpos.line)=true:=by rfl)(hm:zCC .NotIn (.Call (.Attribute o "values" apos) [] [] cpos)=false:=by with_unfolding_all rfl):
  ST C (.Compare a [.NotIn] [.Call (.Attribute o "values" apos) [] [] cpos] pos) (tsb (op2 (zG true) fa fo)):=by
 obtain⟨t,h1,h2⟩:=ha;obtain⟨u,k1,k2⟩:=ho;exact⟨aGK (tOp (aLM true) t (aKv C.K "dict" aGf u)),λ i=>by rw[<-C.hK i];exact aE8 (aJW (C.calm i)) (h1 i) (aLa PySem.F.plainAttrs_dict zFP PySem.F.type_dict_values aF3 (k1 i) (hbase i) hline) hm,aEU (aIg h2 k2)⟩
end
section
variable{ρ:En}{i:Nat}{f g:En->Rs D}{fb gb:En->Rs Bool}{ga:En->Rs (List D)}{u v:En->Ou}{d e:D}
@[simp] theorem varD_ap:jC i ρ=match ρ[i]? with
 |some (.sh d)=>.ok d
 |some (.nw d)=>.ok d
 |some (.ow d)=>.ok d
 |some (.oz d)=>.ok d
 |some (.o2 l)=>.ok (.lst (l.map .lst))
 |_=>.st:=aR rfl
@[simp] theorem lV:aC i ρ=match ρ[i]? with
 |some (.sh d)=>.ok d
 |some (.nw d)=>.ok d
 |_=>.st:=aR rfl
@[simp] theorem varN_ap:dU i ρ=match ρ[i]? with
 |some (.nw d)=>.ok d
 |_=>.st:=aR rfl
@[simp] theorem varO_ap:jz i ρ=match ρ[i]? with
 |some (.ow d)=>.ok d
 |some (.o2 l)=>.ok (.lst (l.map .lst))
 |_=>.st:=aR rfl
@[simp] theorem aKk:cD d ρ= .ok d:=aR rfl
@[simp] theorem dG:aF ρ= .ok []:=aR rfl
@[simp] theorem bL:aA f ga ρ=(f ρ).bd λ d=>(ga ρ).bd λ ds=>.ok (d::ds):=aR rfl
@[simp] theorem szl:zAT=16777216:=zB9
@[simp] theorem pU:aZ ga ρ=(ga ρ).bd λ ds=>if ds.length<=16777216 then .ok (.tup ds)else .st:=by unfold aZ;rw[szl]
@[simp] theorem aEm:cB ga ρ=(ga ρ).bd λ ds=>if ds.length<=16777216 then .ok (.lst ds)else .st:=by unfold cB;rw[szl]
@[simp] theorem cN:okD (.ok d)= .ok d:=aR rfl
@[simp] theorem dB:op2 fd f g ρ=(f ρ).bd λ x=>(g ρ).bd λ y=>okD (fd x y):=aR rfl
@[simp] theorem aHG:op1 fd f ρ=(f ρ).bd λ x=>okD (fd x):=aR rfl
@[simp] theorem kj:opA fd ga ρ=(ga ρ).bd λ x=>okD (fd x):=aR rfl
@[simp] theorem uJ:aN F ga ρ=(ga ρ).bd F:=aR rfl
def aNb(d:D)(r:Rs D):Rs D:=match d with
 | .bl true=>r
 | .bl false=>.ok (.bl false)
 |_=>.st
@[simp] theorem jB:aNb (.bl b) r=if b=true then r else .ok (.bl false):=by cases b<;>rfl
@[simp] theorem gR:jD f g ρ=(f ρ).bd λ d=>aNb d (g ρ):=aR rfl
@[simp] theorem notD_bl:aJ5 (.bl b)= .ok (.bl (!b)):=aR rfl
def chR(d:D)(r:Rs D):Rs D:=match d with
 | .bl true=>r
 | .bl false=>.ok (.bl false)
 |_=>.st
@[simp] theorem chR_bl:chR (.bl b) r=if b=true then r else .ok (.bl false):=by cases b<;>rfl
@[simp] theorem chD_ap:chD fd fd' f g h ρ=(f ρ).bd λ x=>(g ρ).bd λ y=>(okD (fd x y)).bd λ z=>chR z ((h ρ).bd λ w=>okD (fd' y w)):=aR rfl
@[simp] theorem aER:aKq (.bl b)= .ok b:=aR rfl
@[simp] theorem blD_bl:blD (.bl b)= .ok b:=aR rfl
@[simp] theorem rB:tst f ρ=(f ρ).bd aKq:=aR rfl
@[simp] theorem oJ:tsb f ρ=(f ρ).bd blD:=aR rfl
@[simp] theorem w5:pO fb gb ρ=(fb ρ).bd λ k=>if k=true then gb ρ else .ok false:=aR rfl
@[simp] theorem rT:orT fb gb ρ=(fb ρ).bd λ k=>if k=true then .ok true else gb ρ:=aR rfl
@[simp] theorem nY:dW fb ρ=(fb ρ).bd λ k=>.ok (!k):=aR rfl
@[simp] theorem aO:aU u v ρ=(u ρ).sq v:=aR rfl
@[simp] theorem gw:retS f ρ=(f ρ).bo .rt:=aR rfl
@[simp] theorem dropS_ap:aCi f ρ=(f ρ).bo λ _=>.nx ρ:=aR rfl
@[simp] theorem gf:ifS fb u v ρ=(fb ρ).bo λ k=>if k=true then u ρ else v ρ:=aR rfl
@[simp] theorem aIk:cP i f ρ=(f ρ).bo λ d=>.nx (ρ.set i (.sh d)):=aR rfl
@[simp] theorem aAq:ig i f ρ=(f ρ).bo λ d=>.nx (ρ.set i (.nw d)):=aR rfl
@[simp] theorem aEW:fX i f ρ=(f ρ).bo λ d=>.nx (ρ.set i (.ow d)):=aR rfl
@[simp] theorem nZ:gnm i d ρ= .ok (ρ.set i (.sh d)):=aR rfl
@[simp] theorem gnil_nil:sE [] ρ= .ok ρ:=aR rfl
@[simp] theorem gcons_cons:dg a b (d::ds) ρ=(a d ρ).bd (b ds):=aR rfl
@[simp] theorem gtup_tup:qQ n b (.tup ds) ρ=if ds.length=n then b ds ρ else .st:=aR rfl
def nxO(r:Rs En):Ou:=match r with
 | .ok ρ=>.nx ρ
 |_=>.st
@[simp] theorem nxO_ok:nxO (.ok ρ)= .nx ρ:=aR rfl
@[simp] theorem asgS_ap:aII f a ρ=(f ρ).bo λ d=>nxO (a d ρ):=aR rfl
@[simp] theorem itD_tup:itD (.tup l)= .ok l:=aR rfl
@[simp] theorem itD_lst:itD (.lst l)= .ok l:=aR rfl
@[simp] theorem itrD_ap:cC f ρ=(f ρ).bd itD:=aR rfl
@[simp] theorem iB:fL ga a u ρ=(ga ρ).bo λ ds=>forL a u ds ρ:=aR rfl
def Ou.tn(o:Ou)(k:En->Ou):Ou:=match o with
 | .nx ρ2=>k ρ2
 | .ct ρ2=>k ρ2
 | .bk ρ2=>.nx ρ2
 |o=>o
@[simp] theorem aGH:(Ou.nx ρ).tn k=k ρ:=aR rfl
def okE(r:Rs En)(k:En->Ou):Ou:=match r with
 | .ok ρ=>k ρ
 |_=>.st
@[simp] theorem km:okE (.ok ρ) k=k ρ:=aR rfl
theorem jm:forL a u (d::ds) ρ=okE (a d ρ) λ ρ1=>(u ρ1).tn (forL a u ds):=by
 unfold forL;cases a d ρ with
 |ok ρ1=>simp only[km];cases u ρ1<;>rfl
 |ex c=>rfl
 |st=>rfl
@[simp] theorem oNone_ap:bK ρ= .ok none:=aR rfl
@[simp] theorem oSome_ap:bJ f ρ=(f ρ).bd λ d=>match d with
 | .int i=>.ok (some i)
 |_=>.st:=aR rfl
@[simp] theorem aFO:ao f a b ρ=(f ρ).bd λ d=>(a ρ).bd λ l=>(b ρ).bd λ h=>okD (slD d l h):=aR rfl
@[simp] theorem aIf:slD (.tup l) a b= .ok (.tup (cutD l a b)):=aR rfl
@[simp] theorem revD_tup:aCD (.tup l)= .ok (.tup l.reverse):=aR rfl
@[simp] theorem wW:aP f ρ=(f ρ).bd lR:=aR rfl
@[simp] theorem aJw:aJx i u ρ=u (frz i ρ):=aR rfl
@[simp] theorem rngA_ap:cY r ga ρ=(ga ρ).bd r:=aR rfl
@[simp] theorem raiseS_ap:aBD x ga ρ=(ga ρ).bo λ ds=>if ds.length<=16777216 then .ex x else .st:=by unfold aBD;rw[szl]
@[simp] theorem aIY:cJ ρ= .ok true:=aR rfl
end
section
variable{d e:D}{i j:Int}{l m:List D}
theorem gJ(h:imm d=true):lR d= .ok d:=by unfold lR;rw[if_pos h]
@[simp] theorem gImm_int:lR (.int i)= .ok (.int i):=aR rfl
@[simp] theorem addD_int:aW (.int i) (.int j)= .ok (.int (i+j)):=aR rfl
@[simp] theorem aIN:aW (.lst l) (.lst m)=if l.length+m.length<=16777216 then .ok (.lst (l++m))else .st:=by unfold aW;rw[szl]
@[simp] theorem aIM:aW (.tup l) (.tup m)=if l.length+m.length<=16777216 then .ok (.tup (l++m))else .st:=by unfold aW;rw[szl]
@[simp] theorem subD_int:lO (.int i) (.int j)= .ok (.int (i-j)):=aR rfl
theorem aAW(h0:0<j)(h1:j<1073741824):yf (.int i) (.int j)= .ok (.int (i / j)):=by unfold yf i2;dsimp only;rw[if_pos (by simp[h0,h1])]
theorem mZ(h0:0<j):qO (.int i) (.int j)= .ok (.int (i%j)):=by unfold qO i2;dsimp only;rw[if_pos (by simp[h0])]
theorem aBK(h0: -(2^64)<i)(h1:i<2^64):lQ (.int i) (.int j)= .ok (.int (i*j)):=by unfold lQ;dsimp only;rw[if_pos (by simp only[zFI,zAN,decide_eq_true_eq];exact .inl ⟨h0,h1⟩)]
theorem aHN(h0: -(2^64)<j)(h1:j<2^64):lQ (.int i) (.int j)= .ok (.int (i*j)):=by unfold lQ;dsimp only;rw[if_pos (by simp only[zFI,zAN,decide_eq_true_eq];exact .inr ⟨h0,h1⟩)]
@[simp] theorem aCN:mY (.int i)= .ok (.int (-i)):=aR rfl
@[simp] theorem ltD_int:ltD (.int i) (.int j)= .ok (.bl (decide (i<j))):=aR rfl
@[simp] theorem leD_int:leD (.int i) (.int j)= .ok (.bl (decide (i<=j))):=aR rfl
@[simp] theorem gtD_int:gtD (.int i) (.int j)= .ok (.bl (decide (j<i))):=aR rfl
@[simp] theorem geD_int:geD (.int i) (.int j)= .ok (.bl (decide (j<=i))):=aR rfl
theorem aBN(ns ms:List Int):ltD (.tup (ns.map .int)) (.tup (ms.map .int))= .ok (.bl (HT.lexLt ns ms)):=by
 unfold ltD ltT i2;simp only[fZ]
@[simp] theorem lenD_tup:bZ [.tup l]= .ok (.int l.length):=aR rfl
@[simp] theorem lenD_lst:bZ [.lst l]= .ok (.int l.length):=aR rfl
@[simp] theorem lenD_scr:bZ [.scr x]= .ok (.int x.length):=aR rfl
@[simp] theorem rA:bz [.lst l]= .ok (.tup l):=aR rfl
@[simp] theorem listD_tup:qe [.tup l]= .ok (.lst l):=aR rfl
@[simp] theorem aEt:ixD (.tup l) (.int i)=atD l i:=aR rfl
@[simp] theorem aEu:ixD (.lst l) (.int i)=atD l i:=aR rfl
@[simp] theorem ixD_scr:ixD (.scr x) (.int i)=atD (x.map .int) i:=aR rfl
theorem iD{k:Nat}(h:l[k]? =some d):atD l (k:Int)= .ok d:=by
 have hk:=(zAI.mp h).1;unfold atD atI ixN;rw[if_pos (by omega),if_pos (by omega)];simp[h]
theorem vH(h0:0<=i)(h1:i<l.length):∃d,atD l i= .ok d/\d∈l/\l[i.toNat]? =some d:=by
 have hk:i.toNat<l.length:=by omega
 have e:=zAC hk;refine⟨_,?_,zCb hk,e⟩
 have:=iD e
 rwa [zBq h0]at this
@[simp] theorem atD_0{r:List D}:atD (d::r) 0= .ok d:=iD (k:=0) rfl
@[simp] theorem atD_1{r:List D}:atD (d::e::r) 1= .ok e:=iD (k:=1) rfl
@[simp] theorem eqR_int:eqR n (.int i) (.int j)= .ok (.bl (if n then !(i==j)else i==j)):=aR rfl
@[simp] theorem isD_bl:isD false (.bl a) (.bl b)= .ok (.bl (a==b)):=aR rfl
def knd:D->Bool
 | .set _=>false
 | .scr _=>false
 | .fn _=>false
 |_=>true
theorem aBW(hT:T∈["bool","int","str","list","tuple","dict"])(h:knd d=true):eU T d= .ok (.bl (aJg (tyD d) T)):=by
 have ht:tyD d∈["NoneType","bool","int","str","list","tuple","dict"]:=by cases d<;>simp_all [tyD,knd]
 unfold eU qi;cases e:aJg (tyD d) T<;>simp[ht,hT]
def aMO:D->Bool
 | .int _=>true
 | .bl _=>true
 |_=>false
def aN0:D->Bool
 | .bl _=>true
 |_=>false
def dD:D->Bool
 | .tup _=>true
 |_=>false
theorem aEv(h:knd d=true):eU "int" d= .ok (.bl (aMO d)):=by
 rw[aBW (by simp) h];cases d<;>first|rfl|(simp[knd]at h)
theorem yQ(h:knd d=true):eU "bool" d= .ok (.bl (aN0 d)):=by
 rw[aBW (by simp) h];cases d<;>first|rfl|(simp[knd]at h)
theorem fC(h:knd d=true):eU "tuple" d= .ok (.bl (dD d)):=by
 rw[aBW (by simp) h];cases d<;>first|rfl|(simp[knd]at h)
@[simp] theorem isi_tuple_tup:eU "tuple" (.tup l)= .ok (.bl true):=fC rfl
@[simp] theorem isi_bool_bl:eU "bool" (.bl b)= .ok (.bl true):=yQ rfl
end
@[simp] theorem bD:fQ n u ds=match u (bF n ds)with
 | .nx _=>.ok .non
 | .rt d=>.ok d
 | .ex c=>.ex c
 |_=>.st:=aR rfl
theorem iw(h0: -(2^62)<=j)(h1:j<2^62):fU [.int j]= .ok (bj 0 j):=by unfold fU;dsimp only;rw[if_pos ⟨h0,h1⟩]
theorem aAz(h0: -(2^62)<=i)(h1:i<2^62)(h2: -(2^62)<=j)(h3:j<2^62):tB [.int i,.int j]= .ok (bj i j):=by unfold tB;dsimp only;rw[if_pos ⟨⟨h0,h1⟩,h2,h3⟩]
theorem jQ{lo hi:Int}:d∈bj lo hi↔∃k:Int,d= .int k/\lo<=k/\k<hi:=by
 unfold bj;rw[zAm];constructor
 ·rintro⟨n,hn,rfl⟩
  have:=zBy.mp hn
  exact⟨lo+n,rfl,by omega,by omega⟩
 ·rintro⟨k,rfl,h1,h2⟩
  exact⟨(k-lo).toNat,zBy.mpr (by omega),by congr 1;omega⟩
theorem gn(I:Nat->En->Prop)(hs:∀(i:Nat) d ρ,ds[i]? =some d->I i ρ->∃ρ2,okE (a d ρ) (λ ρ1=>u ρ1)= .nx ρ2/\I (i+1) ρ2)(h0:I 0 ρ):∃ρ',forL a u ds ρ= .nx ρ'/\I ds.length ρ':=by
 have go:∀(n:Nat) (ρ:En),n<=ds.length->I (ds.length-n) ρ->∃ρ',forL a u (ds.drop (ds.length-n)) ρ= .nx ρ'/\I ds.length ρ':=by
  intro n;induction n with
  |zero=>intro ρ _ h;exact⟨ρ,by rw[Nat.sub_zero,zDF];rfl,h⟩
  |succ n ih=>
   intro ρ hn h;have hlt:ds.length-(n+1)<ds.length:=by omega
   rw[zBx hlt,jm];obtain⟨ρ2,e,h2⟩:=hs _ _ ρ (zAC hlt) h;rw[show ds.length-(n+1)+1=ds.length-n by omega]at h2 ⊢;cases ea:a ds[ds.length-(n+1)] ρ with
   |ok ρ1=>
    rw[ea]at e;simp only[km]at e ⊢;rw[e,aGH];exact ih ρ2 (by omega) h2
   |ex c=>rw[ea]at e;cases e
   |st=>rw[ea]at e;cases e
 have:=go ds.length ρ (zAO _) (by rw[zG1];exact h0)
 rwa [zG1,zHo]at this
end VL
namespace VL.My
open PySem L2
def jG:En->Ou:=
  (retS (jD (op1 (eU "int") (aC 0)) (op1 aJ5 (op1 (eU "bool") (aC 0)))))
def lM:List D->Rs D:=fQ 1 jG
def fu:En->Ou:=
  (aU (fL (cY tB (aA (cD (.int 1)) (aA (opA bZ (aA (aC 0) aF)) aF))) (gnm 1)
   (ifS (dW (tsb (op2 ltD (op2 ixD (aC 0) (op2 lO (aC 1) (cD (.int 1)))) (op2 ixD (aC 0) (aC 1)))))
    (retS (cD (.bl false)))
    Ou.nx))
  (retS (cD (.bl true))))
def dR:List D->Rs D:=fQ 2 fu
def iZ:En->Ou:=
  (retS (op2 (eqR false) (opA xQ (aA (aHU (cC (aC 1)) [none,none] (gnm 0) cJ (inL (cC (aC 0)) (gnm 1) cJ (aP (aC 1)))) aF)) (lrD (aC 0))))
def jU:List D->Rs D:=fQ 2 iZ
def jt:En->Ou:=
  (aU (llS 1 (cY fU (aA (op2 ixD (aC 0) (cD (.int 0))) aF)) [none] (gnm 0))
  (aU (fL (cC (op2 ixD (aC 0) (cD (.int 1)))) (qQ 2 (dg (gnm 2) (dg (gnm 3) sE)))
   (pN 1 (aC 2) (aP (aC 3))))
  (retS (jz 1))))
def jw:List D->Rs D:=fQ 4 jt
def dX:En->Ou:=
  (aU (ifS (tsb (op2 ltD (aC 1) (opA bZ (aA (aC 0) aF))))
   (retS (aP (op2 ixD (aC 0) (aC 1))))
   Ou.nx)
  (retS (cD (.int 0))))
def dZ:List D->Rs D:=fQ 2 dX
def iM:En->Ou:=
  (aU (ifS (tsb (op2 geD (aC 0) (op2 aGq (cD (.int 10)) (cD (.int 18)))))
   (aU (cP 3 (aC 0))
   (aU (fL (cY fU (aA (aC 1) aF)) (gnm 4)
    (cP 3 (op2 yf (aC 3) (aC 2))))
   (retS (op2 qO (aC 3) (aC 2)))))
   Ou.nx)
  (aU (cP 5 (op2 qO (op2 lQ (op2 aW (op2 aW (op2 qO (aC 0) (cD (.int 1000000007))) (op2 lQ (cD (.int 1009)) (aC 1))) (cD (.int 17))) (cD (.int 69621))) (cD (.int 2147483647))))
  (aU (cP 5 (op2 qO (op2 aW (op2 aW (op2 lQ (aC 5) (aC 5)) (op2 lQ (cD (.int 40503)) (aC 1))) (cD (.int 5))) (cD (.int 2147483629))))
  (retS (op2 qO (op2 yf (op2 qO (op2 lQ (aC 5) (cD (.int 48271))) (cD (.int 2147483647))) (cD (.int 32))) (aC 2))))))
def aQ:List D->Rs D:=fQ 6 iM
def iW:En->Ou:=
  (retS (jD (op1 (eU "int") (aC 0)) (op1 aJ5 (op1 (eU "bool") (aC 0)))))
def jT:List D->Rs D:=fQ 1 iW
def gK:En->Ou:=
  (retS (opA (j6 λ bs=>bs.all id) (aA (lcD (cY tB (aA (cD (.int 1)) (aA (opA bZ (aA (aC 0) aF)) aF))) [none,some 0] (gnm 0) cJ (op2 ltD (op2 ixD (aC 1) (op2 lO (aC 0) (cD (.int 1)))) (op2 ixD (aC 1) (aC 0)))) aF)))
def dO:List D->Rs D:=fQ 1 gK
def eO:En->Ou:=
  (aU (fX 2 (cB aF))
  (aU (fL (cC (aC 0)) (gnm 3)
   (z9 2 (aP (aC 3))))
  (retS (op2 (eqR false) (opA xQ (aA (jC 2) aF)) (lrD (aC 1))))))
def gC:List D->Rs D:=fQ 4 eO
def gM:En->Ou:=
  (aU (ig 2 (opA v7 (aA (aC 1) aF)))
  (aU (fX 3 (cB aF))
  (aU (fX 4 (cB aF))
  (aU (ig 5 (lrD (op2 ixD (aC 0) (cD (.int 0)))))
  (aU (fL (cY fU (aA (op2 ixD (aC 0) (cD (.int 0))) aF)) (gnm 6)
   (ifS (tsb (op2 (zG true) (aC 6) (dU 2)))
    (aU (fX 7 (cB (aA (aP (aC 6)) aF)))
    (aU (mF (tsb (op2 (aB3 false) (op2 ixD (jC 7) (op1 mY (cD (.int 1)))) (dU 2)))
     (gQ 7 (op2 sI (dU 2) (op2 ixD (jC 7) (op1 mY (cD (.int 1)))))))
    (aU (gQ 3 (aP (opA bz (aA (jC 7) aF))))
    (ig 5 (lcD (cC (aC 5)) [none,some 7] (gnm 0) (tsb (op2 (inR true) (aC 0) (aC 1))) (aP (aC 0)))))))
    Ou.nx))
  (aU (mF (tsb (op2 (eqR true) (dU 5) (cB aF)))
   (aU (fX 8 (cB (aA (op2 ixD (dU 5) (cD (.int 0))) aF)))
   (aU (mF (tsb (op2 (eqR true) (op2 sI (dU 2) (op2 ixD (jC 8) (op1 mY (cD (.int 1))))) (op2 ixD (jC 8) (cD (.int 0)))))
    (gQ 8 (op2 sI (dU 2) (op2 ixD (jC 8) (op1 mY (cD (.int 1)))))))
   (aU (gQ 4 (aP (opA bz (aA (jC 8) aF))))
   (ig 5 (lcD (cC (aC 5)) [none,some 8] (gnm 0) (tsb (op2 (inR true) (aC 0) (aC 1))) (aP (aC 0))))))))
  (retS (aZ (aA (opA bz (aA (jz 3) aF)) (aA (opA bz (aA (jz 4) aF)) aF))))))))))
def gU:List D->Rs D:=fQ 9 gM
def jr:En->Ou:=
  (retS (jD (aN lM (aA (aC 0) aF)) (chD leD leD (cD (.int 0)) (aC 0) (cD (.int 60)))))
def qH:List D->Rs D:=fQ 1 jr
def jJ:En->Ou:=
  (retS (jD (aN lM (aA (aC 1) aF)) (chD leD ltD (cD (.int 0)) (aC 1) (aC 0))))
def cV:List D->Rs D:=fQ 2 jJ
def jF:En->Ou:=
  (aU (fX 2 (cB aF))
  (aU (fL (cY fU (aA (aC 1) aF)) (gnm 3)
   (aH4 2 (aN aQ (aA (aC 0) (aA (op2 aW (cD (.int 100)) (aC 3)) (aA (op2 aW (aC 3) (cD (.int 1))) aF)))) (aP (aC 3))))
  (retS (jz 2))))
def jK:List D->Rs D:=fQ 4 jF
def jo:En->Ou:=
  (aU (ig 1 (cB (aA (cD .non) (aA (cD (.bl true)) (aA (cD (.int 0)) (aA (op1 mY (cD (.int 1))) (aA (cD (.str "")) (aA (cD (.str "0")) (aA (aZ aF) (aA (cB aF) (aA (cD (.dct [] [])) (aA (aZ (aA (aZ aF) aF)) (aA (aZ (aA (cD (.int 0)) aF)) (aA (aZ (aA (aZ (aA (cD (.int 0)) (aA (cD (.int 1)) aF))) aF)) (aA (cB (aA (cD (.int 0)) (aA (cD (.int 1)) aF))) (aA (aZ (aA (cD .non) aF)) (aA (aZ (aA (cD (.str "a")) (aA (cD (.str "b")) aF))) (aA (op2 aGq (cD (.int 10)) (cD (.int 20))) aF))))))))))))))))))
  (retS (op2 ixD (dU 1) (aN aQ (aA (aC 0) (aA (cD (.int 90)) (aA (cD (.int 16)) aF)))))))
def ju:List D->Rs D:=fQ 2 jo
def iY:En->Ou:=
  (aU (ifS (orT (dW (tst (op1 (eU "tuple") (aC 1)))) (tsb (op2 (eqR false) (opA bZ (aA (aC 1) aF)) (cD (.int 0)))))
   (retS (cD (.bl false)))
   Ou.nx)
  (aU (ifS (orT (dW (tst (opA (j6 λ bs=>bs.all id) (aA (lcD (cC (aC 1)) [none,some 0] (gnm 0) cJ (jD (aN jT (aA (aC 0) aF)) (chD leD ltD (cD (.int 0)) (aC 0) (op2 ixD (aC 1) (cD (.int 0)))))) aF)))) (tsb (op2 ltD (opA rZ (aA (opA qI (aA (aC 1) aF)) aF)) (opA bZ (aA (aC 1) aF)))))
   (retS (cD (.bl false)))
   Ou.nx)
  (retS (opA (j6 λ bs=>bs.all id) (aA (lcD (cY fU (aA (op2 lO (opA bZ (aA (aC 1) aF)) (cD (.int 1))) aF)) [none,some 1,some 0] (gnm 0) cJ (op2 (inR false) (aZ (aA (op2 ixD (aC 1) (aC 0)) (aA (op2 ixD (aC 1) (op2 aW (aC 0) (cD (.int 1)))) aF))) (op2 ixD (aC 2) (cD (.int 1))))) aF)))))
def bx:List D->Rs D:=fQ 2 iY
def cT:En->Ou:=
  (aU (fX 2 (cB aF))
  (aU (fL (cY aHu (aA (op2 ixD (aC 1) (cD (.int 1))) aF)) (qQ 2 (dg (gnm 3) (dg (gnm 4) sE)))
   (ifS (tsb (op2 gtD (aN aQ (aA (aC 0) (aA (op2 aW (cD (.int 60)) (op2 qO (aC 3) (cD (.int 40)))) (aA (cD (.int 3)) aF)))) (cD (.int 0))))
    (ifS (tsb (op2 (eqR false) (lcD (cC (aC 2)) [none,some 4] (gnm 0) (orT (tsb (op2 (eqR false) (op2 ixD (aC 0) (cD (.int 0))) (op2 ixD (aC 1) (cD (.int 0))))) (tsb (op2 (eqR false) (op2 ixD (aC 0) (cD (.int 1))) (op2 ixD (aC 1) (cD (.int 1)))))) (aP (aC 0))) (cB aF)))
     (gQ 2 (aP (aC 4)))
     Ou.nx)
    Ou.nx))
  (retS (opA bz (aA (jz 2) aF)))))
def cU:List D->Rs D:=fQ 5 cT
def eN:En->Ou:=
  (aU (cP 4 (aN aQ (aA (aC 0) (aA (aC 1) (aA (op2 aW (opA bZ (aA (aC 2) aF)) (cD (.int 1))) aF)))))
  (aU (ig 5 (op2 ixD (cB (aA (cD (.int 0)) (aA (aP (aC 3)) (aA (op1 mY (cD (.int 1))) (aA (cD (.bl true)) (aA (cD .non) (aA (cD (.str "0")) (aA (cB (aA (cD (.int 0)) aF)) (aA (op2 lO (aC 3) (cD (.int 1))) (aA (cD (.int 1)) aF)))))))))) (aN aQ (aA (aC 0) (aA (op2 aW (aC 1) (cD (.int 1))) (aA (cD (.int 9)) aF))))))
  (aU (ig 6 (cB (aA (op2 aW (op2 aW (aP (ao (aC 2) bK (bJ (aC 4)))) (aZ (aA (dU 5) aF))) (aP (ao (aC 2) (bJ (op2 aW (aC 4) (cD (.int 1)))) bK))) (aA (op2 aW (aP (ao (aC 2) bK (bJ (aC 4)))) (aP (ao (aC 2) (bJ (op2 aW (aC 4) (cD (.int 1)))) bK))) (aA (op2 aW (op2 aW (aP (ao (aC 2) bK (bJ (aC 4)))) (aZ (aA (dU 5) aF))) (aP (ao (aC 2) (bJ (aC 4)) bK))) (aA (aP (op1 aCD (aC 2))) aF))))))
  (aU (ig 6 (op2 aW (dU 6) (cB (aA (opA qe (aA (aP (aC 2)) aF)) (aA (op2 aW (aP (aC 2)) (aP (ao (aC 2) bK (bJ (cD (.int 1)))))) (aA (op2 aW (aP (ao (aC 2) (bJ (cD (.int 1))) bK)) (aP (ao (aC 2) bK (bJ (cD (.int 1)))))) (aA (aZ aF) (aA (cD .non) (aA (aZ (aA (aP (aC 2)) aF)) aF)))))))))
  (retS (op2 ixD (dU 6) (aN aQ (aA (aC 0) (aA (op2 aW (aC 1) (cD (.int 2))) (aA (cD (.int 10)) aF))))))))))
def gB:List D->Rs D:=fQ 7 eN
def jq:En->Ou:=
  (aU (ifS (orT (dW (tst (op1 (eU "tuple") (aC 1)))) (tsb (op2 (eqR true) (opA bZ (aA (aC 1) aF)) (cD (.int 2)))))
   (retS (cD (.bl false)))
   Ou.nx)
  (retS (jD (aN cV (aA (aC 0) (aA (op2 ixD (aC 1) (cD (.int 0))) aF))) (jD (aN cV (aA (aC 0) (aA (op2 ixD (aC 1) (cD (.int 1))) aF))) (op2 (eqR true) (op2 ixD (aC 1) (cD (.int 0))) (op2 ixD (aC 1) (cD (.int 1))))))))
def nF:List D->Rs D:=fQ 2 jq
def gP:En->Ou:=
  (aU (ifS (orT (dW (tst (op1 (eU "tuple") (aC 1)))) (tsb (op2 (eqR false) (opA bZ (aA (aC 1) aF)) (cD (.int 0)))))
   (retS (cD (.bl false)))
   Ou.nx)
  (aU (fL (cC (aC 1)) (gnm 2)
   (ifS (dW (tst (aN cV (aA (opA bZ (aA (aC 0) aF)) (aA (aC 2) aF)))))
    (retS (cD (.bl false)))
    Ou.nx))
  (aU (ifS (tsb (op2 (eqR true) (opA rZ (aA (opA qI (aA (aC 1) aF)) aF)) (opA bZ (aA (aC 1) aF))))
   (retS (cD (.bl false)))
   Ou.nx)
  (aU (fL (cY tB (aA (cD (.int 1)) (aA (opA bZ (aA (aC 1) aF)) aF))) (gnm 3)
   (ifS (tsb (op2 (inR true) (op2 ixD (aC 1) (aC 3)) (op2 ixD (aC 0) (op2 ixD (aC 1) (op2 lO (aC 3) (cD (.int 1)))))))
    (retS (cD (.bl false)))
    Ou.nx))
  (retS (cD (.bl true)))))))
def bR:List D->Rs D:=fQ 4 gP
def fG:En->Ou:=
  (aU (cP 2 (aN aQ (aA (aC 0) (aA (cD (.int 0)) (aA (op2 aW (aC 1) (cD (.int 1))) aF)))))
  (aU (cP 3 (aN aQ (aA (aC 0) (aA (cD (.int 1)) (aA (cD (.int 8)) aF)))))
  (aU (ig 4 (op2 ixD (cB (aA (cD (.int 1)) (aA (cD (.int 2)) (aA (cD (.int 4)) (aA (cD (.int 2)) (aA (cD (.int 3)) (aA (cD (.int 6)) (aA (cD (.int 1)) (aA (cD (.int 3)) aF))))))))) (aC 3)))
  (aU (cP 5 (aN jK (aA (aC 0) (aA (aC 2) aF))))
  (aU (fX 6 (cB aF))
  (aU (cP 7 (cD (.int 2)))
  (aU (fL (cY fU (aA (aC 2) aF)) (gnm 8)
   (fL (cY fU (aA (aC 8) aF)) (gnm 9)
    (aU (cP 7 (op2 aW (aC 7) (cD (.int 1))))
    (aU (cP 10 (aN aQ (aA (aC 0) (aA (aC 7) (aA (cD (.int 8)) aF)))))
    (aU (ifS (orT (tsb (op2 ltD (aC 10) (dU 4))) (pO (tsb (op2 (eqR false) (aC 3) (cD (.int 6)))) (tsb (op2 (eqR false) (aC 8) (op2 aW (aC 9) (cD (.int 1)))))))
     (gQ 6 (aZ (aA (aP (op2 ixD (aC 5) (aC 9))) (aA (aP (op2 ixD (aC 5) (aC 8))) aF))))
     Ou.nx)
    (ifS (orT (pO (tsb (op2 gtD (aC 3) (cD (.int 2)))) (pO (tsb (op2 (eqR true) (aC 3) (cD (.int 7)))) (tsb (op2 ltD (aN aQ (aA (aC 0) (aA (op2 aW (aC 7) (cD (.int 50))) (aA (cD (.int 8)) aF)))) (op2 lO (dU 4) (cD (.int 1))))))) (pO (tsb (op2 (eqR false) (aC 3) (cD (.int 7)))) (tsb (op2 ltD (aC 10) (cD (.int 3))))))
     (gQ 6 (aZ (aA (aP (op2 ixD (aC 5) (aC 8))) (aA (aP (op2 ixD (aC 5) (aC 9))) aF))))
     Ou.nx))))))
  (aU (ifS (pO (tsb (op2 (eqR false) (aC 3) (cD (.int 6)))) (tsb (op2 gtD (aC 2) (cD (.int 1)))))
   (gQ 6 (aZ (aA (aP (op2 ixD (aC 5) (op2 lO (aC 2) (cD (.int 1))))) (aA (aP (op2 ixD (aC 5) (cD (.int 0)))) aF))))
   Ou.nx)
  (retS (aZ (aA (aP (aC 2)) (aA (opA bz (aA (opA fW (aA (jC 6) aF)) aF)) aF))))))))))))
def dY:List D->Rs D:=fQ 11 fG
def fj:En->Ou:=
  (retS (jD (aN bx (aA (aC 0) (aA (aC 1) aF))) (jD (op2 gtD (opA bZ (aA (aC 1) aF)) (cD (.int 1))) (jD (op2 (eqR false) (opA (o7 zE2) (aA (aC 1) aF)) (op2 ixD (aC 1) (cD (.int 0)))) (op2 (inR false) (aZ (aA (op2 ixD (aC 1) (op1 mY (cD (.int 1)))) (aA (op2 ixD (aC 1) (cD (.int 0))) aF))) (op2 ixD (aC 0) (cD (.int 1))))))))
def gA:List D->Rs D:=fQ 2 fj
def cF:En->Ou:=
  (aU (cP 4 (aN aQ (aA (aC 0) (aA (aC 1) (aA (op2 aW (opA bZ (aA (aC 2) aF)) (cD (.int 1))) aF)))))
  (aU (cP 5 (op2 ixD (op2 aW (aC 2) (aZ (aA (aZ aF) aF))) (aC 4)))
  (aU (ifS (tst (op1 (eU "tuple") (aC 5)))
   (ig 6 (aN gB (aA (aC 0) (aA (op2 aW (aC 1) (cD (.int 1))) (aA (aC 5) (aA (aC 3) aF))))))
   (ig 6 (op2 ixD (cB (aA (cD (.int 0)) (aA (aP (aC 3)) (aA (cD (.bl true)) (aA (cD .non) (aA (op2 aW (aP (aC 5)) (cD (.int 1))) (aA (aZ (aA (aP (aC 5)) aF)) aF))))))) (aN aQ (aA (aC 0) (aA (op2 aW (aC 1) (cD (.int 1))) (aA (cD (.int 6)) aF)))))))
  (aU (fX 7 (cB (aA (op2 aW (op2 aW (aP (ao (aC 2) bK (bJ (aC 4)))) (aZ (aA (dU 6) aF))) (aP (ao (aC 2) (bJ (op2 aW (aC 4) (cD (.int 1)))) bK))) (aA (op2 aW (aP (ao (aC 2) bK (bJ (aC 4)))) (aP (ao (aC 2) (bJ (op2 aW (aC 4) (cD (.int 1)))) bK))) (aA (op2 aW (aP (aC 2)) (aP (ao (aC 2) bK (bJ (cD (.int 1)))))) aF)))))
  (aU (fX 7 (op2 aW (jz 7) (cB (aA (aP (op1 aCD (aC 2))) (aA (opA qe (aA (aP (aC 2)) aF)) (aA (aZ (aA (aP (aC 2)) aF)) (aA (cD .non) (aA (op2 aW (aP (aC 2)) (aZ (aA (aZ aF) aF))) aF))))))))
  (aU (gQ 7 (op2 aW (op2 aW (aP (ao (aC 2) bK (bJ (aC 4)))) (aZ (aA (dU 6) aF))) (aP (ao (aC 2) (bJ (aC 4)) bK))))
  (retS (op2 ixD (jz 7) (aN aQ (aA (aC 0) (aA (op2 aW (aC 1) (cD (.int 4))) (aA (cD (.int 9)) aF))))))))))))
def b7:List D->Rs D:=fQ 8 cF
def bQ:En->Ou:=
  (aU (ifS (dW (tst (op1 (eU "tuple") (aC 1))))
   (retS (cD (.bl false)))
   Ou.nx)
  (aU (fL (cC (aC 1)) (gnm 2)
   (ifS (dW (tst (aN nF (aA (aC 0) (aA (aC 2) aF)))))
    (retS (cD (.bl false)))
    Ou.nx))
  (retS (aN dR (aA (aC 1) aF)))))
def cH:List D->Rs D:=fQ 3 bQ
def eY:En->Ou:=
  (retS (jD (aN bR (aA (aC 0) (aA (aC 1) aF))) (jD (op2 (eqR false) (op2 ixD (aC 1) (cD (.int 0))) (opA (o7 zE2) (aA (aC 1) aF))) (op2 (inR false) (op2 ixD (aC 1) (cD (.int 0))) (op2 ixD (aC 0) (op2 ixD (aC 1) (op1 mY (cD (.int 1)))))))))
def eZ:List D->Rs D:=fQ 2 eY
def fD:En->Ou:=
  (aU (ifS (orT (dW (tst (op1 (eU "tuple") (aC 1)))) (orT (tsb (op2 (eqR true) (opA bZ (aA (aC 1) aF)) (cD (.int 2)))) (dW (tst (opA (j6 λ bs=>bs.all id) (aA (lcD (cC (aC 1)) [none] (gnm 0) cJ (op1 (eU "tuple") (aC 0))) aF))))))
   (retS (cD (.bl false)))
   Ou.nx)
  (aU (ifS (orT (dW (tst (opA (j6 λ bs=>bs.all id) (aA (lcD (cC (op2 ixD (aC 1) (cD (.int 0)))) [none,some 0] (gnm 0) cJ (aN bx (aA (aC 1) (aA (aC 0) aF)))) aF)))) (dW (tst (opA (j6 λ bs=>bs.all id) (aA (lcD (cC (op2 ixD (aC 1) (cD (.int 1)))) [none,some 0] (gnm 0) cJ (aN gA (aA (aC 1) (aA (aC 0) aF)))) aF)))))
   (retS (cD (.bl false)))
   Ou.nx)
  (retS (jD (aN dO (aA (op2 ixD (aC 1) (cD (.int 0))) aF)) (jD (aN dO (aA (op2 ixD (aC 1) (cD (.int 1))) aF)) (aN gC (aA (op2 aW (op2 ixD (aC 1) (cD (.int 0))) (op2 ixD (aC 1) (cD (.int 1)))) (aA (op2 ixD (aC 0) (cD (.int 0))) aF))))))))
def gq:List D->Rs D:=fQ 2 fD
def eG:En->Ou:=
  (aU (cP 4 (aN aQ (aA (aC 0) (aA (aC 1) (aA (opA bZ (aA (aC 2) aF)) aF)))))
  (aU (ig 5 (aN b7 (aA (aC 0) (aA (op2 aW (aC 1) (cD (.int 1))) (aA (op2 ixD (aC 2) (aC 4)) (aA (aC 3) aF))))))
  (aU (ig 6 (cB (aA (op2 aW (op2 aW (aP (ao (aC 2) bK (bJ (aC 4)))) (aZ (aA (dU 5) aF))) (aP (ao (aC 2) (bJ (op2 aW (aC 4) (cD (.int 1)))) bK))) (aA (aP (op1 aCD (aC 2))) (aA (aP (ao (aC 2) bK (bJ (op1 mY (cD (.int 1)))))) (aA (op2 aW (aP (aC 2)) (aZ (aA (aZ aF) aF))) (aA (opA qe (aA (aP (aC 2)) aF)) (aA (cD .non) aF))))))))
  (retS (op2 ixD (dU 6) (op2 ixD (cB (aA (cD (.int 0)) (aA (cD (.int 0)) (aA (cD (.int 0)) (aA (cD (.int 1)) (aA (cD (.int 2)) (aA (cD (.int 3)) (aA (cD (.int 4)) (aA (cD (.int 5)) aF))))))))) (aN aQ (aA (aC 0) (aA (op2 aW (aC 1) (cD (.int 6))) (aA (cD (.int 8)) aF))))))))))
def eQ:List D->Rs D:=fQ 7 eG
def mz:En->Ou:=
  (aU (ifS (dW (tst (op1 (eU "tuple") (aC 1))))
   (retS (cD (.bl false)))
   Ou.nx)
  (aU (fL (cC (aC 1)) (gnm 3)
   (ifS (dW (tst (qx [("goes_along",bR),("goes_round",eZ)] 2 (aA (aC 0) (aA (aC 3) aF)))))
    (retS (cD (.bl false)))
    Ou.nx))
  (retS (aN dR (aA (aC 1) aF)))))
def jV:List D->Rs D:=fQ 4 mz
def gO:En->Ou:=
  (aU (ifS (orT (dW (tst (op1 (eU "tuple") (aC 0)))) (tsb (op2 (eqR true) (opA bZ (aA (aC 0) aF)) (cD (.int 2)))))
   (retS (cD (.bl false)))
   Ou.nx)
  (retS (jD (aN qH (aA (op2 ixD (aC 0) (cD (.int 0))) aF)) (aN cH (aA (op2 ixD (aC 0) (cD (.int 0))) (aA (op2 ixD (aC 0) (cD (.int 1))) aF))))))
def jg:List D->Rs D:=fQ 1 gO
def dI:En->Ou:=
  (ifS (dW (tst (aN jg (aA (aC 0) aF))))
   (aBD "NoOneWay" (aA (cD (.str "this is no one-way web")) aF))
   Ou.nx)
def dJ:List D->Rs D:=fQ 1 dI
def jH:En->Ou:=
  (aU (aCi (aN dJ (aA (aC 0) aF)))
  (aU (ifS (orT (dW (tst (op1 (eU "tuple") (aC 1)))) (tsb (op2 (eqR true) (opA bZ (aA (aC 1) aF)) (cD (.int 2)))))
   (retS (cD (.bl false)))
   Ou.nx)
  (aU (aII (aC 1) (qQ 2 (dg (gnm 2) (dg (gnm 3) sE))))
  (aU (cP 4 (aN jw (aA (aC 0) aF)))
  (retS (jD (aN jV (aA (aC 4) (aA (aC 2) (aA (cD (.fn "goes_along")) aF)))) (jD (aN jV (aA (aC 4) (aA (aC 3) (aA (cD (.fn "goes_round")) aF)))) (aN jU (aA (op2 ixD (aC 0) (cD (.int 0))) (aA (op2 aW (aC 2) (aC 3)) aF))))))))))
def cG:List D->Rs D:=fQ 5 jH
def yu:En->Ou:=
  (aU (fL (cY fU (aA (opA (mmD λ i j=>if j>i then j else i) (aA (cD (.int 1)) (aA (opA (mmD λ i j=>if j<i then j else i) (aA (opA bZ (aA (aC 0) aF)) (aA (cD (.int 10)) aF))) aF))) aF)) (gnm 1)
   (aU (cP 2 (aN dZ (aA (aC 0) (aA (aC 1) aF))))
   (aU (cP 3 (aN dY (aA (aC 2) (aA (cD (.int 7)) aF))))
   (aU (cP 4 (aN gU (aA (aC 3) (aA (aN cU (aA (aC 2) (aA (aC 3) aF))) aF))))
   (aU (fX 5 (cB (aA (aP (aC 4)) (aA (aZ (aA (opA bz (aA (lcD (cY fU (aA (op2 ixD (aC 3) (cD (.int 0))) aF)) [none] (gnm 0) cJ (aZ (aA (aP (aC 0)) aF))) aF)) (aA (aZ aF) aF))) (aA (aN ju (aA (aC 2) aF)) (aA (aZ (aA (aZ aF) (aA (aZ aF) aF))) aF))))))
   (aU (cP 6 (trD (op2 ixD (aC 3) (cD (.int 0)))))
   (aU (fX 5 (op2 aW (jz 5) (cB (aA (aZ (aA (aZ aF) (aA (aZ (aA (aP (aC 6)) aF)) aF))) (aA (aZ (aA (aZ aF) (aA (aZ (aA (aP (ao (aC 6) bK (bJ (cD (.int 2))))) (aA (aP (ao (aC 6) (bJ (cD (.int 2))) bK)) aF))) aF))) aF)))))
   (aU (fX 5 (op2 aW (jz 5) (lcD (cY fU (aA (cD (.int 4)) aF)) [none,some 2,some 4,some 3] (gnm 0) cJ (aN eQ (aA (aC 1) (aA (op2 aW (cD (.int 70)) (op2 lQ (cD (.int 8)) (aC 0))) (aA (aC 2) (aA (op2 ixD (aC 3) (cD (.int 0))) aF))))))))
   (aU (gQ 5 (aZ (aA (aP (op2 ixD (aC 4) (cD (.int 0)))) (aA (opA bz (aA (lcD (cC (op2 ixD (aC 4) (cD (.int 1)))) [none] (gnm 0) cJ (op2 aW (aP (ao (aC 0) (bJ (cD (.int 1))) bK)) (aP (ao (aC 0) bK (bJ (cD (.int 1))))))) aF)) aF))))
   (aJx 5 (fL (cC (aC 5)) (gnm 7)
    (fL (cY fU (aA (cD (.int 2)) aF)) (gnm 8)
     (aU (cP 9 (aN cG (aA (aC 3) (aA (aC 7) aF))))
     (ifS (orT (dW (tst (op1 (eU "bool") (aC 9)))) (tsb (op2 (eqR true) (aC 9) (aN gq (aA (aC 3) (aA (aC 7) aF))))))
      (retS (cD (.bl false)))
      Ou.nx))))))))))))))
  (retS (jD (op2 (isD false) (aN cG (aA (aZ (aA (cD (.int 2)) (aA (aZ (aA (aZ (aA (cD (.int 0)) (aA (cD (.int 1)) aF))) (aA (aZ (aA (cD (.int 1)) (aA (cD (.int 0)) aF))) aF))) aF))) (aA (aZ (aA (aZ aF) (aA (aZ (aA (aZ (aA (cD (.int 0)) (aA (cD (.int 1)) aF))) aF)) aF))) aF))) (cD (.bl true))) (op2 (isD false) (aN cG (aA (aZ (aA (cD (.int 0)) (aA (aZ aF) aF))) (aA (aZ (aA (aZ aF) (aA (aZ aF) aF))) aF))) (cD (.bl true))))))
def aIS:List D->Rs D:=fQ 10 yu
theorem aA7(hb:0<b)(hb2:b<1073741824):∀(ds:List D) (x:Int) (s:Slot),(∀d∈ds,∃n:Int,d= .int n)->
  ∃y s',forL (gnm 4) (cP 3 (op2 yf (aC 3) (aC 2))) ds [.sh (.int c),.sh (.int k),.sh (.int b),.sh (.int x),s,.no]= .nx [.sh (.int c),.sh (.int k),.sh (.int b),.sh (.int y),s',.no]
 |[],x,s,_=>⟨x,s,rfl⟩
 |d::ds,x,s,h=>by
  have ih:=aA7 hb hb2 (c:=c) (k:=k) ds (x / b) (.sh d) λ e he=>h e (zAJ _ he)
  rw[jm];simp[aAW hb hb2];exact ih
theorem wX(hk0:0<=k)(hk1:k<2^40)(hb:0<b)(hb2:b<1073741824):∃r:Int,aQ [.int c,.int k,.int b]= .ok (.int r)/\0<=r/\r<b:=by
 have hp:aGq (.int 10) (.int 18)= .ok (.int 1000000000000000000):=rfl;by_cases hc:(1000000000000000000:Int)<=c
 ·have hr:=iw (j:=k) (by lia) (by lia)
  obtain⟨y,s',e⟩:=aA7 hb hb2 (c:=c) (k:=k) (bj 0 k) c .no λ d hd=>let⟨n,e,_⟩:=jQ.mp hd;⟨n,e⟩
  refine⟨y%b,?_,zDS _ (by lia),zCq _ hb⟩;simp[aQ,iM,bF,hp,hc,hr,e,mZ hb]
 ·have s1:∀z:Int,0<=z%2147483647/\z%2147483647<2147483647:=λ z=>⟨zDS _ (by decide),zCq _ (by decide)⟩
  have s2:∀z:Int,0<=z%2147483629/\z%2147483629<2147483629:=λ z=>⟨zDS _ (by decide),zCq _ (by decide)⟩
  have m1:∀z,lQ (.int 1009) (.int z)= .ok (.int (1009*z)):=λ z=>aBK (by decide) (by decide)
  have m2:∀z,lQ (.int z) (.int 69621)= .ok (.int (z*69621)):=λ z=>aHN (by decide) (by decide)
  have m3:∀z,lQ (.int 40503) (.int z)= .ok (.int (40503*z)):=λ z=>aBK (by decide) (by decide)
  have m4:∀z,lQ (.int z) (.int 48271)= .ok (.int (z*48271)):=λ z=>aHN (by decide) (by decide)
  have m5:∀z:Int,lQ (.int (z%2147483647)) (.int (z%2147483647))= .ok (.int (z%2147483647*(z%2147483647))):=λ z=>aBK (by have:=s1 z;lia) (by have:=s1 z;lia)
  have d1:∀z,qO (.int z) (.int 1000000007)= .ok (.int (z%1000000007)):=λ z=>mZ (by decide)
  have d2:∀z,qO (.int z) (.int 2147483647)= .ok (.int (z%2147483647)):=λ z=>mZ (by decide)
  have d3:∀z,qO (.int z) (.int 2147483629)= .ok (.int (z%2147483629)):=λ z=>mZ (by decide)
  have d4:∀z,yf (.int z) (.int 32)= .ok (.int (z / 32)):=λ z=>aAW (by decide) (by decide)
  have d5:∀z,qO (.int z) (.int b)= .ok (.int (z%b)):=λ z=>mZ hb
  simp[aQ,iM,bF,hp,hc,m1,m2,m3,m4,m5,d1,d2,d3,d4,d5,-Int.emod_emod_of_dvd];exact⟨zDS _ (by lia),zCq _ hb⟩
theorem iC(hk0:0<=k)(hk1:k<2^40)(hb:0<b)(hb2:b<1073741824):∃r:Nat,aQ [.int c,.int k,.int b]= .ok (.int r)/\(r:Int)<b:=by
 obtain⟨r,e,h0,h1⟩:=wX (c:=c) hk0 hk1 hb hb2;exact⟨r.toNat,by rw[zBq h0];exact e,by lia⟩
theorem aKF(h:0<=k):∃c:Int,dZ [.scr ns,.int k]= .ok (.int c):=by
 by_cases hk:k<ns.length
 ·obtain⟨d,e,hm,_⟩:=vH (l:=ns.map .int) (i:=k) h (by simpa using hk)
  obtain⟨c,_,rfl⟩:=zAm.mp hm;exact⟨c,by simp[dZ,dX,bF,hk,e]⟩
 ·exact⟨0,by simp[dZ,dX,bF,hk]⟩
mutual
def pln:D->Bool
 | .tup l=>dh l
 | .lst l=>dh l
 | .set _=>false
 | .scr _=>false
 | .fn _=>false
 |_=>true
def dh:List D->Bool
 |[]=>true
 |d::r=>pln d&&dh r
end
theorem gH(h:pln d=true):knd d=true:=by cases d<;>first|rfl|(simp[pln]at h)
theorem du:∀{l:List D} {d:D},dh l=true->d∈l->pln d=true
 |x::r,d,h,hm=>by
  simp only[dh,zAN]at h;rcases zAL.mp hm with rfl|hm
  ·exact h.1
  ·exact du h.2 hm
theorem lY:∀{l:List D},(∀d∈l,pln d=true)->dh l=true
 |[],_=>rfl
 |x::r,h=>by
  simp only[dh,zAN];exact⟨h x (zAQ ..),lY λ d hd=>h d (zAJ _ hd)⟩
def wu:D->Bool
 | .int _=>true
 |_=>false
def aEk:D->Bool
 | .int i=>decide (0<=i)&&decide (i<=60)
 |_=>false
def cM(m:Int):D->Bool
 | .int i=>decide (0<=i)&&decide (i<m)
 |_=>false
theorem vO(h:knd d=true):lM [d]= .ok (.bl (wu d)):=by
 simp[lM,jG,bF,aEv h,yQ h];cases d<;>rfl
theorem aDv(h:knd d=true):qH [d]= .ok (.bl (aEk d)):=by
 simp[qH,jr,bF,vO h];cases d<;>simp[wu,aEk]
 rename_i i;by_cases h0:0<=i<;>simp[h0]
theorem pA(h:knd d=true):cV [.int m,d]= .ok (.bl (cM m d)):=by
 simp[cV,jJ,bF,vO h];cases d<;>simp[wu,cM]
 rename_i i;by_cases h0:0<=i<;>simp[h0]
def kh(m:Int):D->Bool
 | .tup [.int a,.int b]=>decide (0<=a)&&decide (a<m)&&decide (0<=b)&&decide (b<m)&& !(a==b)
 |_=>false
theorem uh(h:cM m d=true):∃i:Int,d= .int i/\0<=i/\i<m:=by
 cases d with
 |int i=>simp[cM]at h;exact⟨i,rfl,h.1,h.2⟩
 |_=>simp[cM]at h
theorem xJ(h:dD d=true):∃l,d= .tup l:=by cases d<;>first|exact⟨_,rfl⟩|(cases h)
theorem aKo(h:l.length=2):∃x y,l=[x,y]:=by
 match l,h with
 |[x,y],_=>exact⟨x,y,rfl⟩
theorem aGy(h:dD d=false):kh m d=false:=by cases d<;>first|rfl|(cases h)
theorem aF0(h:l.length≠2):kh m (.tup l)=false:=by
 match l,h with
 |[],_=>rfl
 |[x],_=>cases x<;>rfl
 |[x,y],h=>exact absurd rfl h
 |x::y::z::r,_=>cases x<;>first|rfl|(cases y<;>rfl)
theorem aJR(h:cM m x=false):kh m (.tup [x,y])=false:=by
 cases x with
 |int i=>
  cases y with
  |int j=>
   show((((decide (0<=i)&&decide (i<m))&&decide (0<=j))&&decide (j<m))&& !(i==j))=false
   rw[show(decide (0<=i)&&decide (i<m))=false from h];rfl
  |_=>rfl
 |_=>rfl
theorem aJQ(h:cM m y=false):kh m (.tup [.int i,y])=false:=by
 cases y with
 |int j=>
  show((((decide (0<=i)&&decide (i<m))&&decide (0<=j))&&decide (j<m))&& !(i==j))=false
  rw[zEH (decide (0<=i)&&decide (i<m)),show(decide (0<=j)&&decide (j<m))=false from h,zEI];rfl
 |_=>rfl
theorem aGx(h1:cM m (.int i)=true)(h2:cM m (.int j)=true):kh m (.tup [.int i,.int j])= !(i==j):=by
 show((((decide (0<=i)&&decide (i<m))&&decide (0<=j))&&decide (j<m))&& !(i==j))= !(i==j)
 rw[zEH (decide (0<=i)&&decide (i<m)),show(decide (0<=j)&&decide (j<m))=true from h2,show(decide (0<=i)&&decide (i<m))=true from h1];rfl
def ipE:En->Ou:=ifS (orT (dW (tst (op1 (eU "tuple") (aC 1)))) (tsb (op2 (eqR true) (opA bZ (aA (aC 1) aF)) (cD (.int 2))))) (retS (cD (.bl false))) Ou.nx
theorem aC9:jq=aU ipE (retS (jD (aN cV (aA (aC 0) (aA (op2 ixD (aC 1) (cD (.int 0))) aF))) (jD (aN cV (aA (aC 0) (aA (op2 ixD (aC 1) (cD (.int 1))) aF))) (op2 (eqR true) (op2 ixD (aC 1) (cD (.int 0))) (op2 ixD (aC 1) (cD (.int 1))))))):=rfl
theorem aMP(hk:knd d=true)(h:dD d=false):ipE [s,.sh d]= .rt (.bl false):=by simp[ipE,fC hk,h]
theorem aJi(h:l.length≠2):ipE [s,.sh (.tup l)]= .rt (.bl false):=by
 have:¬((l.length:Int)=2):=by omega
 simp[ipE,this]
theorem aJh:ipE [s,.sh (.tup [x,y])]= .nx [s,.sh (.tup [x,y])]:=by simp[ipE]
theorem aDu(h:pln d=true):nF [.int m,d]= .ok (.bl (kh m d)):=by
 have st:bF 2 [.int m,d]=[.sh (.int m),.sh d]:=rfl;simp only[nF,aC9,bD,st];cases ht:dD d with
 |false=>rw[aO,aMP (gH h) ht,aGy ht];rfl
 |true=>
  obtain⟨l,rfl⟩:=xJ ht;by_cases hl:l.length=2
  ·obtain⟨x,y,rfl⟩:=aKo hl
   simp only[pln,dh,zAN]at h;have hx:=pA (m:=m) (gH h.1);have hy:=pA (m:=m) (gH h.2.1);have ex:aN cV (aA (aC 0) (aA (op2 ixD (aC 1) (cD (.int 0))) aF)) [.sh (.int m),.sh (.tup [x,y])]= .ok (.bl (cM m x)):=by simp[hx]
   have ey:aN cV (aA (aC 0) (aA (op2 ixD (aC 1) (cD (.int 1))) aF)) [.sh (.int m),.sh (.tup [x,y])]= .ok (.bl (cM m y)):=by simp[hy]
   rw[aO,aJh,aq,gw,gR,ex,aL,jB,gR,ey,aL,jB];cases c1:cM m x with
   |false=>rw[aJR c1];rfl
   |true=>
    obtain⟨i,rfl,_,_⟩:=uh c1;cases c2:cM m y with
    |false=>rw[aJQ c2];rfl
    |true=>
     obtain⟨j,rfl,_,_⟩:=uh c2;rw[aGx c1 c2];rfl
  ·rw[aO,aJi hl,aF0 hl];rfl
def pD(p:Int×Int):D:=.tup [.int p.1,.int p.2]
def ltP(p q:Int×Int):Bool:=HT.lexLt [p.1,p.2] [q.1,q.2]
def aBA:List (Int×Int)->Bool
 |[]=>true
 |[_]=>true
 |p::q::r=>ltP p q&&aBA (q::r)
theorem aME(p q:Int×Int):ltD (pD p) (pD q)= .ok (.bl (ltP p q)):=aBN [p.1,p.2] [q.1,q.2]
theorem jk:∀(ds:List D) (ok:Nat->Bool) (I:En->Prop) (ρ:En),I ρ->(∀(i:Nat) d ρ,ds[i]? =some d->I ρ->okE (a d ρ) u= .rt r/\ok i=false\/∃ρ',okE (a d ρ) u= .nx ρ'/\I ρ'/\ok i=true)->
  (forL a u ds ρ= .rt r/\∃i,i<ds.length/\ok i=false)\/(∃ρ',forL a u ds ρ= .nx ρ'/\I ρ'/\∀i,i<ds.length->ok i=true)
 |[],ok,I,ρ,h,_=>.inr ⟨ρ,rfl,h,λ i hi=>absurd hi (zHq _)⟩
 |d::ds,ok,I,ρ,h,hs=>by
  rw[jm];rcases hs 0 d ρ rfl h with ⟨e,o⟩|⟨ρ',e,h',o⟩
  ·left
   refine⟨?_,0,by simp,o⟩;cases ea:a d ρ with
   |ok ρ1=>rw[ea]at e;simp at e ⊢;rw[e];rfl
   |ex c=>rw[ea]at e;cases e
   |st=>rw[ea]at e;cases e
  ·have ih:=jk ds (λ i=>ok (i+1)) I ρ' h' λ i d2 ρ2 e2 h2=>hs (i+1) d2 ρ2 (by simpa using e2) h2
   have e3:okE (a d ρ) (λ ρ1=>(u ρ1).tn (forL a u ds))=forL a u ds ρ':=by
    cases ea:a d ρ with
    |ok ρ1=>rw[ea]at e;simp at e ⊢;rw[e];rfl
    |ex c=>rw[ea]at e;cases e
    |st=>rw[ea]at e;cases e
   rw[e3];rcases ih with ⟨e4,i,hi,o4⟩|⟨ρ4,e4,h4,o4⟩
   ·exact .inl ⟨e4,i+1,by simpa using hi,o4⟩
   ·refine .inr ⟨ρ4,e4,h4,λ i hi=>?_⟩
    cases i with
    |zero=>exact o
    |succ i=>exact o4 i (by simpa using hi)
theorem kY{i:Nat}(h:(bj lo hi)[i]? =some d):d= .int (lo+i)/\lo+i<hi:=by
 unfold bj at h;rw[zAU]at h;by_cases hi2:i<(hi-lo).toNat
 ·rw[zGb hi2]at h
  cases h;exact⟨rfl,by omega⟩
 ·rw[List.getElem?_eq_none (by simpa using hi2)]at h
  cases h
theorem iu:(bj lo hi).length=(hi-lo).toNat:=by unfold bj;simp
section
variable{α:Type}{f:α->D}{lt:α->α->Bool}
def jP(lt:α->α->Bool):List α->Bool
 |[]=>true
 |[_]=>true
 |p::q::r=>lt p q&&jP lt (q::r)
theorem oW:∀{ps:List α},jP lt ps=true↔∀(i:Nat) (p q:α),ps[i]? =some p->ps[i+1]? =some q->lt p q=true
 |[]=>by simp[jP]
 |[x]=>by
  simp only[jP,true_iff];intro i p q _ h2;simp at h2
 |x::y::r=>by
  have ih:=oW (ps:=y::r);unfold jP;rw[zAN,ih];constructor
  ·rintro⟨h1,h2⟩ i p q e1 e2
   cases i with
   |zero=>simp at e1 e2;subst e1 e2;exact h1
   |succ i=>exact h2 i p q (by simpa using e1) (by simpa using e2)
  ·intro h
   exact⟨h 0 x y rfl rfl,λ i p q e1 e2=>h (i+1) p q (by simpa using e1) (by simpa using e2)⟩
theorem vP(hlt:∀a b,ltD (f a) (f b)= .ok (.bl (lt a b)))(hl:ps.length<=100000):dR [.tup (ps.map f)]= .ok (.bl (jP lt ps)):=by
 have hr:=aAz (i:=1) (j:=(ps.length:Int)) (by decide) (by decide) (by omega) (by omega);have hlen:(bj 1 (ps.length:Int)).length=ps.length-1:=by rw[iu];omega
 have L:=jk (a:=gnm 1) (u:=ifS (dW (tsb (op2 ltD (op2 ixD (aC 0) (op2 lO (aC 1) (cD (.int 1)))) (op2 ixD (aC 0) (aC 1))))) (retS (cD (.bl false))) Ou.nx) (r:=.bl false)
  (bj 1 (ps.length:Int)) (λ i=>match ps[i]?,ps[i+1]? with|some p,some q=>lt p q|_,_=>true) (λ ρ=>∃s,ρ=[.sh (.tup (ps.map f)),s]) [.sh (.tup (ps.map f)),.no] ⟨_,rfl⟩ (by
   rintro i d ρ hd ⟨s,rfl⟩;obtain⟨rfl,h2⟩:=kY hd;have e1:ps[i]? =some ps[i]:=zAC (by omega);have e2:ps[i+1]? =some ps[i+1]:=zAC (by omega);have a1:atD (ps.map f) (1+(i:Int)-1)= .ok (f ps[i]):=by
    rw[show(1+(i:Int)-1)=(i:Int)by omega];exact iD (by rw[zAU,e1];rfl)
   have a2:atD (ps.map f) (1+(i:Int))= .ok (f ps[i+1]):=by
    rw[show(1+(i:Int))=((i+1:Nat):Int)by omega];exact iD (by rw[zAU,e2];rfl)
   simp only[e1,e2];cases c:lt ps[i] ps[i+1]with
   |true=>right;exact⟨_,by simp[a1,a2,hlt,c];rfl,⟨_,rfl⟩,rfl⟩
   |false=>left;exact⟨by simp[a1,a2,hlt,c],rfl⟩)
 have st:bF 2 [.tup (ps.map f)]=[.sh (.tup (ps.map f)),.no]:=rfl;rcases L with ⟨e,i,hi,o⟩|⟨ρ',e,⟨s,rfl⟩,o⟩
 ·have:jP lt ps=false:=by
   cases c:jP lt ps with
   |false=>rfl
   |true=>
    rw[hlen]at hi;have z:=oW.mp c i ps[i] ps[i+1] (zAC (by omega)) (zAC (by omega));rw[zAC (by omega),zAC (by omega)]at o;simp only at o;rw[z]at o;cases o
  rw[this];simp only[dR,fu,bD,st];simp[hr,e]
 ·have:jP lt ps=true:=oW.mpr λ i p q e1 e2=>by
   have h2:=(zAI.mp e2).1
   have:=o i (by rw[hlen];omega)
   rw[e1,e2]at this;exact this
  rw[this];simp only[dR,fu,bD,st];simp[hr,e]
end
theorem aDT:∀ps:List (Int×Int),aBA ps=jP ltP ps
 |[]=>rfl
 |[_]=>rfl
 |p::q::r=>by unfold aBA jP;rw[aDT (q::r)]
theorem aBY(hl:ps.length<=100000):dR [.tup (ps.map pD)]= .ok (.bl (aBA ps)):=by
 rw[aDT];exact vP aME hl
theorem aIs:aBA ps=true↔∀(i:Nat) (p q:Int×Int),ps[i]? =some p->ps[i+1]? =some q->ltP p q=true:=by rw[aDT];exact oW
def aJB:D->Int×Int
 | .tup [.int a,.int b]=>(a,b)
 |_=>(0,0)
theorem aD7(h:kh m d=true):∃a b:Int,d= .tup [.int a,.int b]/\0<=a/\a<m/\0<=b/\b<m/\a≠b:=by
 unfold kh at h;split at h
 ·rename_i a b
  simp at h;exact⟨a,b,rfl,h.1.1.1.1,h.1.1.1.2,h.1.1.2,h.1.2,h.2⟩
 ·cases h
theorem aK6:∀{ts:List D},ts.all (kh m)=true->(ts.map aJB).map pD=ts
 |[],_=>rfl
 |t::ts,h=>by
  rw[zE0,zAN]at h;obtain⟨a,b,rfl,_⟩:=aD7 h.1;simp only[zAH];rw[aK6 h.2];rfl
def rpB(m:Int):D->Bool
 | .tup ts=>ts.all (kh m)&&aBA (ts.map aJB)
 |_=>false
def aLE:D->Bool
 | .tup l=>decide (l.length<=100000)
 |_=>true
theorem qW(h:pln d=true)(hs:aLE d=true):cH [.int m,d]= .ok (.bl (rpB m d)):=by
 cases d with
 |tup ts=>
  have hp:dh ts=true:=by simpa[pln]using h
  have hl:ts.length<=100000:=by simpa[aLE]using hs
  have L:=jk (a:=gnm 2) (u:=ifS (dW (tst (aN nF (aA (aC 0) (aA (aC 2) aF))))) (retS (cD (.bl false))) Ou.nx) (r:=.bl false)
   ts (λ i=>match ts[i]? with|some t=>kh m t|none=>true) (λ ρ=>∃s,ρ=[.sh (.int m),.sh (.tup ts),s]) [.sh (.int m),.sh (.tup ts),.no] ⟨_,rfl⟩ (by
    rintro i d ρ hd ⟨s,rfl⟩;have e:=aDu (m:=m) (du hp (zBB hd));simp only[hd];cases c:kh m d with
    |true=>right;exact⟨_,by simp[e,c];rfl,⟨_,rfl⟩,rfl⟩
    |false=>left;exact⟨by simp[e,c],rfl⟩)
  have st:bF 3 [.int m,.tup ts]=[.sh (.int m),.sh (.tup ts),.no]:=rfl;rcases L with ⟨e,i,hi,o⟩|⟨ρ',e,⟨s,rfl⟩,o⟩
  ·have:ts.all (kh m)=false:=by
    rw[zEc];rw[zAC hi]at o;exact⟨ts[i],zCb hi,by simpa using o⟩
   simp only[cH,bQ,bD,st];simp[e,rpB,this]
  ·have:ts.all (kh m)=true:=by
    rw[zAp];intro t ht;obtain⟨i,hi,rfl⟩:=zEP ht
    have:=o i hi
    rw[zAC hi]at this;exact this
   have er:=aBY (ps:=ts.map aJB) (by rw[zAF];exact hl);rw[aK6 this]at er;simp only[cH,bQ,bD,st];simp[e,rpB,this,er]
 |_=>simp[cH,bQ,bF,fC (gH h),dD,rpB]
theorem gn:∀(ds:List D) (P:Nat->En->Prop) (ρ:En),P 0 ρ->(∀(i:Nat) d ρ,ds[i]? =some d->P i ρ->∃ρ',okE (a d ρ) u= .nx ρ'/\P (i+1) ρ')->∃ρ',forL a u ds ρ= .nx ρ'/\P ds.length ρ'
 |[],P,ρ,h,_=>⟨ρ,rfl,h⟩
 |d::ds,P,ρ,h,hs=>by
  obtain⟨ρ1,e,h1⟩:=hs 0 d ρ rfl h;obtain⟨ρ2,e2,h2⟩:=gn (a:=a) (u:=u) ds (λ i=>P (i+1)) ρ1 h1 λ i d2 ρ2 e2 h2=>hs (i+1) d2 ρ2 (by simpa using e2) h2
  refine⟨ρ2,?_,by simpa using h2⟩;rw[jm];cases ea:a d ρ with
  |ok ρ0=>rw[ea]at e;simp at e ⊢;rw[e];exact e2
  |ex c=>rw[ea]at e;cases e
  |st=>rw[ea]at e;cases e
theorem yW(l:List α)(i:Int)(y:α):(gm l i y).Perm (y::l):=by
 unfold gm;generalize (if i<0 then(i+(l.length:Int)).toNat else min i.toNat l.length)=k
 have:(l.take k++y::l.drop k).Perm (y::(l.take k++l.drop k)):=List.perm_middle
 rwa [zDz]at this
theorem aFe(f:α->β)(l:List α)(i:Int)(y:α):gm (l.map f) i (f y)=(gm l i y).map f:=by
 unfold gm;rw[zAF,zAl,zAH,zIA,zHz]
structure aMd(n:Nat)(os:List Int):Prop where
 len:os.length=n
 nd:os.Nodup
 lo:∀x∈os,0<=x/\x<n
theorem aC6{n:Nat}(h1:n<=60):∃os,jK [.int c,.int n]= .ok (.lst (os.map .int))/\aMd n os:=by
 have hr:=iw (j:=(n:Int)) (by lia) (by lia);have hlen:(bj 0 (n:Int)).length=n:=by rw[iu];lia
 obtain⟨ρ',e,s,os,rfl,ho⟩:=gn (a:=gnm 3) (u:=aH4 2 (aN aQ (aA (aC 0) (aA (op2 aW (cD (.int 100)) (aC 3)) (aA (op2 aW (aC 3) (cD (.int 1))) aF)))) (aP (aC 3))) (bj 0 (n:Int))
  (λ i ρ=>∃s os,ρ=[.sh (.int c),.sh (.int n),.ow (.lst (os.map .int)),s]/\aMd i os) [.sh (.int c),.sh (.int n),.ow (.lst []),.no] ⟨.no,[],rfl,rfl,by simp,λ x hx=>by simp at hx⟩ (by
   rintro i d ρ hd ⟨s,os,rfl,ho⟩;obtain⟨rfl,h2⟩:=kY hd;obtain⟨r,er,r0,r1⟩:=wX (c:=c) (k:=100+(i:Int)) (b:=(i:Int)+1) (by lia) (by lia) (by lia) (by lia);have hz: -9223372036854775808<=r/\r<9223372036854775808/\os.length<16777216:=⟨by lia,by lia,by rw[ho.len];lia⟩;refine⟨[.sh (.int c),.sh (.int n),.ow (.lst ((gm os r (0+(i:Int))).map .int)),.sh (.int (0+(i:Int)))],?_,_,_,rfl,?_,?_,λ x hx=>?_⟩
   ·rw[<-aFe]
    simp only[nZ,km,aH4];simp[er,hz]
   ·rw[aAO,ho.len]
   ·refine(yW os r _).nodup_iff.mpr (zBD.mpr ⟨λ hm=>?_,ho.nd⟩)
    have:=ho.lo _ hm
    lia
   ·rcases zAL.mp ((yW os r _).mem_iff.mp hx)with q|q
    ·lia
    ·have:=ho.lo x q
     lia)
 rw[hlen]at ho;refine⟨os,?_,ho⟩;simp[jK,jF,bF,hr,e]
def aFv:List (Int×Int):=(zAc 8).flatMap λ(a:Nat)=>((zAc 8).filter λ b=>b !=a).map λ(b:Nat)=>((a:Int),(b:Int))
theorem aIK(h0:0<=p.1)(h1:p.1<8)(h2:0<=p.2)(h3:p.2<8)(h4:p.1≠p.2):p∈aFv:=by
 unfold aFv;rw[zH2];refine⟨p.1.toNat,by simp;lia,?_⟩;rw[zAm];refine⟨p.2.toNat,?_,?_⟩
 ·rw[zBK]
  refine⟨by simp;lia,?_⟩
  have:p.2.toNat≠p.1.toNat:=by lia
  simpa using this
 ·have e1:((p.1.toNat:Nat):Int)=p.1:=zBq h0
  have e2:((p.2.toNat:Nat):Int)=p.2:=zBq h2;rw[e1,e2]
def pl(p:Int×Int):List Int:=[p.1,p.2]
def hp(p:Int×Int):Int:=hsh (pl p)
def aEz:List Int:=[(-1950498447580522560),7204814214171964562,(-4734289103435588629),1773351652666409796,(-3119722376306286570),(-1010439003188656273),(-5903513032161352639),(-5164621852614943976),(-3550055125485641917),(-1440771752368011620),(-6333845781340707986),173794974761290439,(-4719279054211405927),(-2609995681093775630),4685526799349444076,6794810172467074373,8409376899596376432,3516302870623680066,(-8422800446983873125),(-6313517073866242828),7240152970870612422,2248468952609198383,8756109708711196808,3863035679738500442,1079245023883434373,7586885779985432798,(-4352217537622120393),4803095124130366729,(-6348126469135965181),159514286966033244,(-9131917124991031250),(-2624276368889032825),(-1009709641759730766),1099573731357899531,(-3793500297614796835),(-3054609118068388172),3453031638033610253,(-5838399773923454241),669240982178544184,(-4223833046794152182),(-7007623702649218251),(-499982946547219826),(-5491666964808633865),8062003079928221385,(-3877100237679331806),2630540518422666619,(-6660890893534397875),(-153250137432399450),1461316589696902609,4358481687155754187,(-7580621630451799004),5973048414285056246,8082331787402686543,3189257758429990177,(-8749845559177563014),(-2242204803075564589)]
set_option maxRecDepth 1000000 in
theorem aCv:aFv.map hp=aEz:=by decide+kernel
set_option maxRecDepth 1000000 in
theorem aDy:aEz.Nodup:=by decide+kernel
theorem aAf:(aFv.map hp).Nodup/\aFv.length=56:=⟨by rw[aCv];exact aDy,by rw[<-zAF (f:=hp),aCv];rfl⟩
theorem ph:∀{L:List α},(L.map f).Nodup->∀x∈L,∀y∈L,f x=f y->x=y
 |a::L,h,x,hx,y,hy,e=>by
  rw[zAH,zBD]at h;rcases zAL.mp hx with q|q
  ·rcases zAL.mp hy with z|z
   ·rw[q,z]
   ·subst q
    exact absurd (zAm.mpr ⟨y,z,e.symm⟩) h.1
  ·rcases zAL.mp hy with z|z
   ·subst z
    exact absurd (zAm.mpr ⟨x,q,e⟩) h.1
   ·exact ph h.2 x q y z e
theorem um:∀{l:List α},l.Nodup->(∀x∈l,∀y∈l,f x=f y->x=y)->(l.map f).Nodup
 |[],_,_=>by simp
 |a::l,h,hi=>by
  rw[zBD]at h;rw[zAH,zBD];refine⟨λ hm=>?_,um h.2 λ x hx y hy e=>hi x (zAJ _ hx) y (zAJ _ hy) e⟩;obtain⟨x,hx,e⟩:=zAm.mp hm
  have:=hi x (zAJ _ hx) a zAQ e
  subst this;exact h.1 hx
structure Ow(n:Int)(ps:List (Int×Int)):Prop where
 n0:0<=n
 n1:n<=60
 len:ps.length<=3600
 pr:∀p∈ps,0<=p.1/\p.1<n/\0<=p.2/\p.2<n/\p.1≠p.2
 ris:aBA ps=true
def owD(n:Int)(ps:List (Int×Int)):D:=.tup [.int n,.tup (ps.map pD)]
theorem aI2(p:Int×Int):tupI (pl p)=pD p:=rfl
theorem aLZ(h:pl p=pl q):p=q:=by
 unfold pl at h;injection h with h1 h2
 injection h2 with h2 _
 exact zGr h1 h2
theorem zL(nd:ps.Nodup):∃qs:List (Int×Int),sy (ps.map pl)=qs.map pl/\qs.Perm ps/\aBA qs=true:=by
 obtain⟨qs,q1,q2⟩:=nU (f:=pl) (rD (ps.map pl)) rfl;refine⟨qs,q2,q1,aIs.mpr λ i p q e1 e2=>?_⟩;have hr:=oK (ps.map pl);rw[q2]at hr;have hnd:qs.Nodup:=q1.nodup_iff.mpr nd;have h1:=(zAI.mp e1).1;have h2:=(zAI.mp e2).1;have f1:(qs.map pl)[i]'(by simpa using h1)=pl p:=by
  rw[zCK,(zAI.mp e1).2]
 have f2:(qs.map pl)[i+1]'(by simpa using h2)=pl q:=by
  rw[zCK,(zAI.mp e2).2]
 have z:=zD1.mp hr i (i+1) (by simpa using h1) (by simpa using h2) (by lia);rw[f1,f2]at z;have hne:p≠q:=λ e=>by
  subst e
  have:=(zCu h1 hnd).mp (e1.trans e2.symm)
  lia
 show HT.lexLt (pl p) (pl q)=true;cases c:HT.lexLt (pl p) (pl q)with
 |true=>rfl
 |false=>exact absurd (aLZ (yF _ _ c z)) hne
theorem zq(ps:List (Int×Int)):kE (ps.map pD)=some (ps.map pl):=by
 have:=xH (nss:=ps.map pl) λ ns h=>by
  obtain⟨p,_,rfl⟩:=zAm.mp h;simp[pl]
 rw[zAw]at this;exact this
theorem aMU(ps:List (Int×Int)):(ps.map pl).map hsh=ps.map hp:=by
 induction ps with
 |nil=>rfl
 |cons p ps ih=>simp only[zAH,ih,hp]
theorem aDG(h1:kE l=some nss)(h2:nss.length<64)(h3:(nss.map hsh).Nodup):fW [.lst l]= .ok (.lst ((sy nss).map tupI)):=by
 unfold fW;dsimp only;rw[h1];dsimp only;rw[if_pos ⟨h2,h3⟩]
theorem xP(nd:ps.Nodup)(h8:∀p∈ps,0<=p.1/\p.1<8/\0<=p.2/\p.2<8/\p.1≠p.2):∃qs:List (Int×Int),fW [.lst (ps.map pD)]= .ok (.lst (qs.map pD))/\qs.Perm ps/\aBA qs=true:=by
 obtain⟨qs,q1,q2,q3⟩:=zL nd;have hin:∀p∈ps,p∈aFv:=λ p hp=>by
  obtain⟨a,b,c,d,e⟩:=h8 p hp;exact aIK a b c d e
 have hlen:ps.length<=56:=by
  have:=sub_len nd hin
  rw[aAf.2]at this;exact this
 have hn:((ps.map pl).map hsh).Nodup:=by
  rw[aMU];exact um nd λ x hx y hy e=>ph aAf.1 x (hin x hx) y (hin y hy) e
 refine⟨qs,?_,q2,q3⟩;rw[aDG (zq ps) (by rw[zAF];lia) hn,q1,zAw];exact congrArg (λ l=>Rs.ok (D.lst l)) (zDR λ p _=>aI2 p)
def aJT:En->Ou:=ifS (orT (tsb (op2 ltD (aC 10) (dU 4))) (pO (tsb (op2 (eqR false) (aC 3) (cD (.int 6)))) (tsb (op2 (eqR false) (aC 8) (op2 aW (aC 9) (cD (.int 1)))))))
     (gQ 6 (aZ (aA (aP (op2 ixD (aC 5) (aC 9))) (aA (aP (op2 ixD (aC 5) (aC 8))) aF))))
     Ou.nx
def aJS:En->Ou:=ifS (orT (pO (tsb (op2 gtD (aC 3) (cD (.int 2)))) (pO (tsb (op2 (eqR true) (aC 3) (cD (.int 7)))) (tsb (op2 ltD (aN aQ (aA (aC 0) (aA (op2 aW (aC 7) (cD (.int 50))) (aA (cD (.int 8)) aF)))) (op2 lO (dU 4) (cD (.int 1))))))) (pO (tsb (op2 (eqR false) (aC 3) (cD (.int 7)))) (tsb (op2 ltD (aC 10) (cD (.int 3))))))
     (gQ 6 (aZ (aA (aP (op2 ixD (aC 5) (aC 8))) (aA (aP (op2 ixD (aC 5) (aC 9))) aF))))
     Ou.nx
def aHA:En->Ou:=aU (cP 7 (op2 aW (aC 7) (cD (.int 1)))) (aU (cP 10 (aN aQ (aA (aC 0) (aA (aC 7) (aA (cD (.int 8)) aF))))) (aU aJT aJS))
def aEc:En->Ou:=fL (cY fU (aA (aC 8) aF)) (gnm 9) aHA
def aEd:En->Ou:=ifS (pO (tsb (op2 (eqR false) (aC 3) (cD (.int 6)))) (tsb (op2 gtD (aC 2) (cD (.int 1)))))
   (gQ 6 (aZ (aA (aP (op2 ixD (aC 5) (op2 lO (aC 2) (cD (.int 1))))) (aA (aP (op2 ixD (aC 5) (cD (.int 0)))) aF))))
   Ou.nx
def ar(os:List Int)(q:Nat×Nat):Int×Int:=(os.getD q.1 0,os.getD q.2 0)
abbrev owE(c most:Int)(n kd:Nat)(t:Int)(os:List Int)(ip:List (Nat×Nat))(sp:Int)(s8 s9 s10:Slot):En:=
 [.sh (.int c),.sh (.int most),.sh (.int n),.sh (.int kd),.nw (.int t),.sh (.lst (os.map .int)),.ow (.lst ((ip.map (ar os)).map pD)),.sh (.int sp),s8,s9,s10]
theorem aHD{os:List Int}{k:Nat}(h:k<os.length):atD (os.map D.int) (k:Int)= .ok (.int (os.getD k 0)):=iD (by rw[zAU,zAC h];simp[h])
theorem aD8{c most t sp:Int}{n kd a b:Nat}{os:List Int}{ip:List (Nat×Nat)}{s8 s9 s10:Slot}{f g:En->Rs D}(hz:ip.length<16777216)(ha:a<os.length)(hb:b<os.length)
  (h1:f (owE c most n kd t os ip sp s8 s9 s10)= .ok (.int a))(h2:g (owE c most n kd t os ip sp s8 s9 s10)= .ok (.int b)):
  gQ 6 (aZ (aA (aP (op2 ixD (aC 5) f)) (aA (aP (op2 ixD (aC 5) g)) aF))) (owE c most n kd t os ip sp s8 s9 s10)= .nx (owE c most n kd t os (ip++[(a,b)]) sp s8 s9 s10):=by
 simp[gQ,h1,h2,aHD ha,aHD hb,hz,ar,pD]
structure Ips(n kd j i:Nat)(ip:List (Nat×Nat)):Prop where
 nd:ip.Nodup
 ok:∀q∈ip,q.1≠q.2/\q.1<n/\q.2<n/\((q.1<j/\q.2<j)\/(q.1=j/\q.2<i)\/(q.2=j/\q.1<i))/\(kd=6->q.1<q.2)
theorem aBg{n:Nat}(hn:n<=60){ip:List (Nat×Nat)}(nd:ip.Nodup)(h:∀q∈ip,q.1<n/\q.2<n):ip.length<=3600:=by
 have:=sub_len (l':=(zAc 60).flatMap λ a=>(zAc 60).map λ b=>(a,b)) nd λ q hq=>by
  rw[zH2]
  have:=h q hq
  exact⟨q.1,by simp;omega,zAm.mpr ⟨q.2,by simp;omega,rfl⟩⟩
 refine zAf this ?_;rw[List.length_flatMap];simp only[zAF,zCv];decide
theorem aGz{c most t:Int}{n kd j:Nat}{os:List Int}(hn:n<=60)(hj:j<n)(ho:aMd n os)(ht:kd=6->t=1){ip:List (Nat×Nat)}{sp:Int}{s9 s10:Slot}(h0:0<=sp)(h1:sp<=2+60*j)(hip:Ips n kd j 0 ip):
  ∃ip' sp' s9' s10',forL (gnm 9) aHA (bj 0 (j:Int)) (owE c most n kd t os ip sp (.sh (.int j)) s9 s10)= .nx (owE c most n kd t os ip' sp' (.sh (.int j)) s9' s10')/\0<=sp'/\sp'<=2+60*(j+1)/\Ips n kd (j+1) 0 ip':=by
 have hlen:(bj 0 (j:Int)).length=j:=by rw[iu];omega
 obtain⟨ρ',e,ip',sp',s9',s10',rfl,q0,q1,q2⟩:=gn (a:=gnm 9) (u:=aHA) (bj 0 (j:Int))
  (λ i ρ=>∃ip sp s9 s10,ρ=owE c most n kd t os ip sp (.sh (.int j)) s9 s10/\0<=sp/\sp<=2+60*j+i/\Ips n kd j i ip) (owE c most n kd t os ip sp (.sh (.int j)) s9 s10) ⟨ip,sp,s9,s10,rfl,h0,by omega,hip⟩ (by
   rintro i d ρ hd ⟨ip,sp,s9,s10,rfl,p0,p1,p2⟩;obtain⟨rfl,hlt⟩:=kY hd;have hij:i<j:=by omega
   obtain⟨h,eh,hh0,hh1⟩:=wX (c:=c) (k:=sp+1) (b:=8) (by omega) (by omega) (by decide) (by decide);obtain⟨g,eg,hg0,hg1⟩:=wX (c:=c) (k:=sp+1+50) (b:=8) (by omega) (by omega) (by decide) (by decide);have hzl:=aBg hn p2.nd λ q hq=>⟨(p2.ok q hq).2.1,(p2.ok q hq).2.2.1⟩
   have hi':i<os.length:=by rw[ho.len];omega
   have hj':j<os.length:=by rw[ho.len];omega
   have st1:∃ip1,aJT (owE c most n kd t os ip (sp+1) (.sh (.int j)) (.sh (.int i)) (.sh (.int h)))= .nx (owE c most n kd t os ip1 (sp+1) (.sh (.int j)) (.sh (.int i)) (.sh (.int h)))/\(ip1=ip\/ip1=ip++[(i,j)]):=by
    have hc:(orT (tsb (op2 ltD (aC 10) (dU 4))) (pO (tsb (op2 (eqR false) (aC 3) (cD (.int 6)))) (tsb (op2 (eqR false) (aC 8) (op2 aW (aC 9) (cD (.int 1))))))) (owE c most n kd t os ip (sp+1) (.sh (.int j)) (.sh (.int i)) (.sh (.int h)))= .ok (decide (h<t)||((kd:Int)==6&&(j:Int)==(i:Int)+1)):=by
     have eA:tsb (op2 ltD (aC 10) (dU 4)) (owE c most n kd t os ip (sp+1) (.sh (.int j)) (.sh (.int i)) (.sh (.int h)))= .ok (decide (h<t)):=rfl;have eB:tsb (op2 (eqR false) (aC 3) (cD (.int 6))) (owE c most n kd t os ip (sp+1) (.sh (.int j)) (.sh (.int i)) (.sh (.int h)))= .ok ((kd:Int)==6):=rfl;have eC:tsb (op2 (eqR false) (aC 8) (op2 aW (aC 9) (cD (.int 1)))) (owE c most n kd t os ip (sp+1) (.sh (.int j)) (.sh (.int i)) (.sh (.int h)))= .ok ((j:Int)==(i:Int)+1):=rfl;rw[rT,eA,w5,eB,eC];cases decide (h<t)<;>cases (kd:Int)==6<;>rfl
    cases hb:(decide (h<t)||((kd:Int)==6&&(j:Int)==(i:Int)+1))with
    |true=>
     refine⟨_,?_,.inr rfl⟩;rw[hb]at hc;simp only[aJT,gf,hc,bu,if_pos];exact aD8 (by omega) hi' hj' (by simp) (by simp)
    |false=>
     refine⟨_,?_,.inl rfl⟩;rw[hb]at hc;simp only[aJT,gf,hc,bu];rfl
   obtain⟨ip1,e1,c1⟩:=st1;have st2:∃ip2,aJS (owE c most n kd t os ip1 (sp+1) (.sh (.int j)) (.sh (.int i)) (.sh (.int h)))= .nx (owE c most n kd t os ip2 (sp+1) (.sh (.int j)) (.sh (.int i)) (.sh (.int h)))/\(ip2=ip1\/(ip2=ip1++[(j,i)]/\kd≠6)):=by
    have hl1:ip1.length<16777216:=by rcases c1 with q|q<;>rw[q]<;>first|omega|(simp;omega)
    have hc:(orT (pO (tsb (op2 gtD (aC 3) (cD (.int 2)))) (pO (tsb (op2 (eqR true) (aC 3) (cD (.int 7)))) (tsb (op2 ltD (aN aQ (aA (aC 0) (aA (op2 aW (aC 7) (cD (.int 50))) (aA (cD (.int 8)) aF)))) (op2 lO (dU 4) (cD (.int 1))))))) (pO (tsb (op2 (eqR false) (aC 3) (cD (.int 7)))) (tsb (op2 ltD (aC 10) (cD (.int 3)))))) (owE c most n kd t os ip1 (sp+1) (.sh (.int j)) (.sh (.int i)) (.sh (.int h)))
      = .ok (decide (2<(kd:Int))&& !((kd:Int)==7)&&decide (g<t-1)||((kd:Int)==7&&decide (h<3))):=by
     have eA:tsb (op2 gtD (aC 3) (cD (.int 2))) (owE c most n kd t os ip1 (sp+1) (.sh (.int j)) (.sh (.int i)) (.sh (.int h)))= .ok (decide (2<(kd:Int))):=rfl;have eB:tsb (op2 (eqR true) (aC 3) (cD (.int 7))) (owE c most n kd t os ip1 (sp+1) (.sh (.int j)) (.sh (.int i)) (.sh (.int h)))= .ok (!((kd:Int)==7)):=rfl;have eC:tsb (op2 ltD (aN aQ (aA (aC 0) (aA (op2 aW (aC 7) (cD (.int 50))) (aA (cD (.int 8)) aF)))) (op2 lO (dU 4) (cD (.int 1)))) (owE c most n kd t os ip1 (sp+1) (.sh (.int j)) (.sh (.int i)) (.sh (.int h)))= .ok (decide (g<t-1)):=by
      have e0:aA (aC 0) (aA (op2 aW (aC 7) (cD (.int 50))) (aA (cD (.int 8)) aF)) (owE c most n kd t os ip1 (sp+1) (.sh (.int j)) (.sh (.int i)) (.sh (.int h)))= .ok [.int c,.int (sp+1+50),.int 8]:=rfl;rw[oJ,dB,uJ,e0,aL,eg];rfl
     have eD:tsb (op2 (eqR false) (aC 3) (cD (.int 7))) (owE c most n kd t os ip1 (sp+1) (.sh (.int j)) (.sh (.int i)) (.sh (.int h)))= .ok ((kd:Int)==7):=rfl;have eE:tsb (op2 ltD (aC 10) (cD (.int 3))) (owE c most n kd t os ip1 (sp+1) (.sh (.int j)) (.sh (.int i)) (.sh (.int h)))= .ok (decide (h<3)):=rfl;rw[rT,w5,eA,w5,eB,eC,w5,eD,eE];cases decide (2<(kd:Int))<;>cases (kd:Int)==7<;>cases decide (g<t-1)<;>rfl
    cases hb:(decide (2<(kd:Int))&& !((kd:Int)==7)&&decide (g<t-1)||((kd:Int)==7&&decide (h<3)))with
    |true=>
     refine⟨_,?_,.inr ⟨rfl,λ k6=>?_⟩⟩
     ·rw[hb]at hc
      simp only[aJS,gf,hc,bu,if_pos];exact aD8 hl1 hj' hi' (by simp) (by simp)
     ·have:=ht k6
      subst k6;simp at hb;omega
    |false=>
     refine⟨_,?_,.inl rfl⟩;rw[hb]at hc;simp only[aJS,gf,hc,bu];rfl
   obtain⟨ip2,e2,c2⟩:=st2;refine⟨_,?_,ip2,sp+1,.sh (.int i),.sh (.int h),rfl,by omega,by omega,?_⟩
   ·have s7:cP 7 (op2 aW (aC 7) (cD (.int 1))) (owE c most n kd t os ip sp (.sh (.int j)) (.sh (.int i)) s10)= .nx (owE c most n kd t os ip (sp+1) (.sh (.int j)) (.sh (.int i)) s10):=by first|rfl|simp
    have s11:cP 10 (aN aQ (aA (aC 0) (aA (aC 7) (aA (cD (.int 8)) aF)))) (owE c most n kd t os ip (sp+1) (.sh (.int j)) (.sh (.int i)) s10)= .nx (owE c most n kd t os ip (sp+1) (.sh (.int j)) (.sh (.int i)) (.sh (.int h))):=by simp[eh]
    rw[zGW];show aHA (owE c most n kd t os ip sp (.sh (.int j)) (.sh (.int i)) s10)=_;unfold aHA;rw[aO,s7,aq,aO,s11,aq,aO,e1,aq,e2]
   ·have hold:∀q∈ip,q.1≠q.2/\q.1<n/\q.2<n/\((q.1<j/\q.2<j)\/(q.1=j/\q.2<i+1)\/(q.2=j/\q.1<i+1))/\(kd=6->q.1<q.2):=λ q hq=>by
     obtain⟨a1,a2,a3,a4,a5⟩:=p2.ok q hq;exact⟨a1,a2,a3,a4.imp_right (Or.imp (λ z=>⟨z.1,zB0 z.2⟩) λ z=>⟨z.1,zB0 z.2⟩),a5⟩
    have n1:(i,j)∉ip:=λ hm=>by
     obtain⟨_,_,_,a4,_⟩:=p2.ok _ hm;simp only at a4;omega
    have n2:(j,i)∉ip:=λ hm=>by
     obtain⟨_,_,_,a4,_⟩:=p2.ok _ hm;simp only at a4;omega
    have hone:∀q:Nat×Nat,q=(i,j)->q.1≠q.2/\q.1<n/\q.2<n/\((q.1<j/\q.2<j)\/(q.1=j/\q.2<i+1)\/(q.2=j/\q.1<i+1))/\(kd=6->q.1<q.2):=λ q hq=>by
     subst hq;exact⟨zAV hij,zCF hij hj,hj,.inr (.inr ⟨rfl,zBk i⟩),λ _=>hij⟩
    have htwo:kd≠6->∀q:Nat×Nat,q=(j,i)->q.1≠q.2/\q.1<n/\q.2<n/\((q.1<j/\q.2<j)\/(q.1=j/\q.2<i+1)\/(q.2=j/\q.1<i+1))/\(kd=6->q.1<q.2):=λ hk q hq=>by
     subst hq;exact⟨zBn hij,hj,zCF hij hj,.inr (.inl ⟨rfl,zBk i⟩),λ z=>absurd z hk⟩
    have hij2:((i,j):Nat×Nat)≠(j,i):=λ z=>by injection z with z1 z2;omega
    rcases c1 with rfl|rfl<;>rcases c2 with rfl|⟨rfl,hk⟩
    ·exact⟨p2.nd,hold⟩
    ·refine⟨zBC.mpr ⟨p2.nd,by simp,λ x hx y hy z=>?_⟩,λ q hq=>?_⟩
     ·rw[zAR]at hy;subst hy;subst z;exact n2 hx
     ·rcases zA4.mp hq with z|z
      ·exact hold q z
      ·exact htwo hk q (zAR.mp z)
    ·refine⟨zBC.mpr ⟨p2.nd,by simp,λ x hx y hy z=>?_⟩,λ q hq=>?_⟩
     ·rw[zAR]at hy;subst hy;subst z;exact n1 hx
     ·rcases zA4.mp hq with z|z
      ·exact hold q z
      ·exact hone q (zAR.mp z)
    ·refine⟨zBC.mpr ⟨zBC.mpr ⟨p2.nd,by simp,λ x hx y hy z=>?_⟩,by simp,λ x hx y hy z=>?_⟩,λ q hq=>?_⟩
     ·rw[zAR]at hy;subst hy;subst z;exact n1 hx
     ·rw[zAR]at hy
      subst hy;subst z;rcases zA4.mp hx with z|z
      ·exact n2 z
      ·exact hij2 (zAR.mp z).symm
     ·rcases zA4.mp hq with z|z
      ·rcases zA4.mp z with z|z
       ·exact hold q z
       ·exact hone q (zAR.mp z)
      ·exact htwo hk q (zAR.mp z))
 rw[hlen]at q1 q2;refine⟨ip',sp',s9',s10',e,q0,by omega,q2.nd,λ q hq=>?_⟩;obtain⟨a1,a2,a3,a4,a5⟩:=q2.ok q hq;exact⟨a1,a2,a3,.inl (by omega),a5⟩
theorem wB:fG=aU (cP 2 (aN aQ (aA (aC 0) (aA (cD (.int 0)) (aA (op2 aW (aC 1) (cD (.int 1))) aF)))))
  (aU (cP 3 (aN aQ (aA (aC 0) (aA (cD (.int 1)) (aA (cD (.int 8)) aF)))))
  (aU (ig 4 (op2 ixD (cB (aA (cD (.int 1)) (aA (cD (.int 2)) (aA (cD (.int 4)) (aA (cD (.int 2)) (aA (cD (.int 3)) (aA (cD (.int 6)) (aA (cD (.int 1)) (aA (cD (.int 3)) aF))))))))) (aC 3)))
  (aU (cP 5 (aN jK (aA (aC 0) (aA (aC 2) aF))))
  (aU (fX 6 (cB aF))
  (aU (cP 7 (cD (.int 2)))
  (aU (fL (cY fU (aA (aC 2) aF)) (gnm 8) aEc)
  (aU aEd
  (retS (aZ (aA (aP (aC 2)) (aA (opA bz (aA (opA fW (aA (jC 6) aF)) aF)) aF))))))))))):=rfl
theorem aGI{kd:Nat}(h:kd<8):∃t:Int,atD ([1,2,4,2,3,6,1,3].map D.int) (kd:Int)= .ok (.int t)/\(kd=6->t=1):=by
 have:=aHD (os:=[1,2,4,2,3,6,1,3]) (k:=kd) (by simpa using h)
 refine⟨_,this,λ k6=>by subst k6;rfl⟩
theorem yO{c:Int}{most:Nat}(h1:most<=8):∃n ps,dY [.int c,.int most]= .ok (owD n ps)/\Ow n ps/\n<=(most:Int):=by
 obtain⟨n,en,hn⟩:=iC (c:=c) (k:=0) (b:=(most:Int)+1) (by decide) (by decide) (by omega) (by omega);obtain⟨kd,ek,hk⟩:=iC (c:=c) (k:=1) (b:=8) (by decide) (by decide) (by decide) (by decide);have hn8:n<=8:=by omega
 obtain⟨t,et,ht⟩:=aGI (kd:=kd) (by omega);obtain⟨os,eo,ho⟩:=aC6 (c:=c) (n:=n) (by omega);have hr1:=iw (j:=(n:Int)) (by omega) (by omega);have hlen:(bj 0 (n:Int)).length=n:=by rw[iu];omega
 obtain⟨ρ',e,ip,sp,s8,s9,s10,rfl,_,_,hip⟩:=gn (a:=gnm 8) (u:=aEc) (bj 0 (n:Int))
  (λ j ρ=>∃ip sp s8 s9 s10,ρ=owE c most n kd t os ip sp s8 s9 s10/\0<=sp/\sp<=2+60*j/\Ips n kd j 0 ip) (owE c most n kd t os [] 2 .no .no .no) ⟨[],2,.no,.no,.no,rfl,by omega,by omega,by simp,λ q hq=>by simp at hq⟩ (by
   rintro j d ρ hd ⟨ip,sp,s8,s9,s10,rfl,p0,p1,p2⟩;obtain⟨rfl,hlt⟩:=kY hd;have hr2:=iw (j:=(j:Int)) (by omega) (by omega);obtain⟨ip',sp',s9',s10',e,q0,q1,q2⟩:=aGz (c:=c) (most:=most) (t:=t) (n:=n) (kd:=kd) (j:=j) (os:=os) (by omega) (by omega) ho ht (s9:=s9) (s10:=s10) p0 p1 p2;refine⟨_,?_,ip',sp',.sh (.int j),s9',s10',rfl,q0,by omega,q2⟩;rw[zGW,nZ,km,show(owE c most n kd t os ip sp s8 s9 s10).set 8 (.sh (.int j))=owE c most n kd t os ip sp (.sh (.int j)) s9 s10 from rfl];unfold aEc;have hi:(cY fU (aA (aC 8) aF)) (owE c most n kd t os ip sp (.sh (.int j)) s9 s10)= .ok (bj 0 (j:Int)):=by simp[hr2]
   rw[iB,hi,bu,e])
 rw[hlen]at hip;have hzl:=aBg (by omega) hip.nd λ q hq=>⟨(hip.ok q hq).2.1,(hip.ok q hq).2.2.1⟩
 obtain⟨ip2,e2,hip2⟩:∃ip2,aEd (owE c most n kd t os ip sp s8 s9 s10)= .nx (owE c most n kd t os ip2 sp s8 s9 s10)/\ip2.Nodup/\∀q∈ip2,q.1≠q.2/\q.1<n/\q.2<n:=by
  have hc:(pO (tsb (op2 (eqR false) (aC 3) (cD (.int 6)))) (tsb (op2 gtD (aC 2) (cD (.int 1))))) (owE c most n kd t os ip sp s8 s9 s10)= .ok ((kd:Int)==6&&decide (1<(n:Int))):=by
   by_cases k1:(kd:Int)=6<;>simp[k1]
  cases hb:((kd:Int)==6&&decide (1<(n:Int)))with
  |true=>
   simp only[zAN,beq_iff_eq,decide_eq_true_eq]at hb;have k6:kd=6:=by omega
   refine⟨ip++[(n-1,0)],?_,zBC.mpr ⟨hip.nd,by simp,λ x hx y hy z=>?_⟩,λ q hq=>?_⟩
   ·unfold aEd
    rw[gf,hc,show((kd:Int)==6&&decide (1<(n:Int)))=true by simp[hb],bu,if_pos rfl];exact aD8 (by omega) (by rw[ho.len];omega) (by rw[ho.len];omega) (by simp;omega) (by simp)
   ·rw[zAR]at hy
    subst hy;subst z
    have:=(hip.ok _ hx).2.2.2.2 k6
    simp at this
   ·rcases zA4.mp hq with z|z
    ·exact⟨(hip.ok q z).1,(hip.ok q z).2.1,(hip.ok q z).2.2.1⟩
    ·rw[zAR.mp z]
     exact⟨by simp;omega,by simp;omega,by simp;omega⟩
  |false=>
   refine⟨ip,?_,hip.nd,λ q z=>⟨(hip.ok q z).1,(hip.ok q z).2.1,(hip.ok q z).2.2.1⟩⟩;unfold aEd;rw[gf,hc,hb,bu];rfl
 have hin:∀p∈ip2.map (ar os),0<=p.1/\p.1<n/\0<=p.2/\p.2<n/\p.1≠p.2:=λ p hp=>by
  obtain⟨q,hq,rfl⟩:=zAm.mp hp;obtain⟨a1,a2,a3⟩:=hip2.2 q hq;have g:∀k,k<n->os.getD k 0∈os:=λ k hk=>by
   have:k<os.length:=by rw[ho.len];exact hk
   simp[this]
  have l1:=ho.lo _ (g q.1 a2);have l2:=ho.lo _ (g q.2 a3);refine⟨l1.1,l1.2,l2.1,l2.2,λ z=>a1 ?_⟩;have k1:q.1<os.length:=by rw[ho.len];exact a2
  have k2:q.2<os.length:=by rw[ho.len];exact a3
  have z':os.getD q.1 0=os.getD q.2 0:=z
  have:os[q.1]? =os[q.2]?:=by
   rw[zAC k1,zAC k2];simpa[k1,k2]using z'
  exact(zCu k1 ho.nd).mp this
 have hnd:(ip2.map (ar os)).Nodup:=um hip2.1 λ x hx y hy e=>by
  have gi:∀k l,k<n->l<n->os.getD k 0=os.getD l 0->k=l:=λ k l hk hl z=>by
   have k1:k<os.length:=by rw[ho.len];exact hk
   have k2:l<os.length:=by rw[ho.len];exact hl
   have:os[k]? =os[l]?:=by
    rw[zAC k1,zAC k2];simpa[k1,k2]using z
   exact(zCu k1 ho.nd).mp this
  obtain⟨_,x1,x2⟩:=hip2.2 x hx;obtain⟨_,y1,y2⟩:=hip2.2 y hy;have e1:os.getD x.1 0=os.getD y.1 0:=congrArg zFC e;have e2:os.getD x.2 0=os.getD y.2 0:=congrArg zGs e;exact zGr (gi _ _ x1 y1 e1) (gi _ _ x2 y2 e2)
 obtain⟨qs,s1,s2,s3⟩:=xP hnd λ p hp=>by
  obtain⟨a,b,c',d,e⟩:=hin p hp;exact⟨a,by omega,c',by omega,e⟩
 have hl2:qs.length<=3600:=by
  rw[s2.length_eq,zAF];exact aBg (n:=n) (by omega) hip2.1 λ q hq=>(hip2.2 q hq).2
 refine⟨n,qs,?_,⟨by omega,by omega,hl2,λ p hp=>hin p (s2.mem_iff.mp hp),s3⟩,by omega⟩;have st:bF 11 [.int c,.int most]=[.sh (.int c),.sh (.int most),.no,.no,.no,.no,.no,.no,.no,.no,.no]:=rfl;have et':atD [D.int 1,D.int 2,D.int 4,D.int 2,D.int 3,D.int 6,D.int 1,D.int 3] (kd:Int)= .ok (.int t):=et;have a1:cP 2 (aN aQ (aA (aC 0) (aA (cD (.int 0)) (aA (op2 aW (aC 1) (cD (.int 1))) aF)))) [.sh (.int c),.sh (.int most),.no,.no,.no,.no,.no,.no,.no,.no,.no]= .nx [.sh (.int c),.sh (.int most),.sh (.int n),.no,.no,.no,.no,.no,.no,.no,.no]:=by simp[en]
 have a2:cP 3 (aN aQ (aA (aC 0) (aA (cD (.int 1)) (aA (cD (.int 8)) aF)))) [.sh (.int c),.sh (.int most),.sh (.int n),.no,.no,.no,.no,.no,.no,.no,.no]= .nx [.sh (.int c),.sh (.int most),.sh (.int n),.sh (.int kd),.no,.no,.no,.no,.no,.no,.no]:=by simp[ek]
 have a3:ig 4 (op2 ixD (cB (aA (cD (.int 1)) (aA (cD (.int 2)) (aA (cD (.int 4)) (aA (cD (.int 2)) (aA (cD (.int 3)) (aA (cD (.int 6)) (aA (cD (.int 1)) (aA (cD (.int 3)) aF))))))))) (aC 3)) [.sh (.int c),.sh (.int most),.sh (.int n),.sh (.int kd),.no,.no,.no,.no,.no,.no,.no]= .nx [.sh (.int c),.sh (.int most),.sh (.int n),.sh (.int kd),.nw (.int t),.no,.no,.no,.no,.no,.no]:=by simp[et']
 have a4:cP 5 (aN jK (aA (aC 0) (aA (aC 2) aF))) [.sh (.int c),.sh (.int most),.sh (.int n),.sh (.int kd),.nw (.int t),.no,.no,.no,.no,.no,.no]= .nx [.sh (.int c),.sh (.int most),.sh (.int n),.sh (.int kd),.nw (.int t),.sh (.lst (os.map .int)),.no,.no,.no,.no,.no]:=by simp[eo]
 have a5:fX 6 (cB aF) [.sh (.int c),.sh (.int most),.sh (.int n),.sh (.int kd),.nw (.int t),.sh (.lst (os.map .int)),.no,.no,.no,.no,.no]= .nx [.sh (.int c),.sh (.int most),.sh (.int n),.sh (.int kd),.nw (.int t),.sh (.lst (os.map .int)),.ow (.lst []),.no,.no,.no,.no]:=by first|rfl|simp
 have a6:cP 7 (cD (.int 2)) [.sh (.int c),.sh (.int most),.sh (.int n),.sh (.int kd),.nw (.int t),.sh (.lst (os.map .int)),.ow (.lst []),.no,.no,.no,.no]= .nx (owE c most n kd t os [] 2 .no .no .no):=by first|rfl|simp
 have a7:fL (cY fU (aA (aC 2) aF)) (gnm 8) aEc (owE c most n kd t os [] 2 .no .no .no)= .nx (owE c most n kd t os ip sp s8 s9 s10):=by
  have hi:(cY fU (aA (aC 2) aF)) (owE c most n kd t os [] 2 .no .no .no)= .ok (bj 0 (n:Int)):=by simp[hr1]
  rw[iB,hi,bu];exact e
 have a8:opA fW (aA (jC 6) aF) (owE c most n kd t os ip2 sp s8 s9 s10)= .ok (.lst (qs.map pD)):=by
  have hv:(aA (jC 6) aF) (owE c most n kd t os ip2 sp s8 s9 s10)= .ok [.lst ((ip2.map (ar os)).map pD)]:=by first|rfl|simp
  rw[kj,hv,aL,s1,cN]
 have a9:retS (aZ (aA (aP (aC 2)) (aA (opA bz (aA (opA fW (aA (jC 6) aF)) aF)) aF))) (owE c most n kd t os ip2 sp s8 s9 s10)= .rt (owD n qs):=by
  have ha:aA (opA fW (aA (jC 6) aF)) aF (owE c most n kd t os ip2 sp s8 s9 s10)= .ok [.lst (qs.map pD)]:=by rw[bL,a8,aL,dG,aL]
  have hb:opA bz (aA (opA fW (aA (jC 6) aF)) aF) (owE c most n kd t os ip2 sp s8 s9 s10)= .ok (.tup (qs.map pD)):=by rw[kj,ha,aL,rA,cN]
  have hc:aP (aC 2) (owE c most n kd t os ip2 sp s8 s9 s10)= .ok (.int n):=by first|rfl|simp
  rw[gw,pU,bL,hc,aL,bL,hb,aL,dG,aL,aL,aL,if_pos (by simp),bu];rfl
 simp only[dY,bD,st,wB];rw[aO,a1,aq,aO,a2,aq,aO,a3,aq,aO,a4,aq,aO,a5,aq,aO,a6,aq,aO,a7,aq,aO,e2,aq,a9]
theorem Ow.rp{n:Int}{ps:List (Int×Int)}(h:Ow n ps):rpB n (.tup (ps.map pD))=true:=by
 have e:(ps.map pD).map aJB=ps:=by rw[zAw];exact(zDR λ p _=>rfl).trans (List.map_id ps)
 unfold rpB;dsimp only;rw[e,h.ris,zEY,zAp];intro d hd;obtain⟨p,hp,rfl⟩:=zAm.mp hd;obtain⟨a,b,c,d,e⟩:=h.pr p hp;simp[pD,kh,a,b,c,d,e]
theorem aE9:∀ps:List (Int×Int),dh (ps.map pD)=true
 |[]=>rfl
 |p::ps=>by simp only[zAH,dh,aE9 ps,zEY];rfl
theorem zZ{n:Int}{ps:List (Int×Int)}(h:Ow n ps):jg [owD n ps]= .ok (.bl true):=by
 have e1:=aDv (d:=.int n) rfl;have e2:=qW (m:=n) (d:=.tup (ps.map pD)) (by simpa[pln]using aE9 ps) (by have:=h.len;simp[aLE];omega);rw[h.rp]at e2;have e3:aEk (.int n)=true:=by simp[aEk,h.n0,h.n1]
 rw[e3]at e1;simp[jg,gO,owD,bF,e1,e2]
theorem vG{n:Int}{ps:List (Int×Int)}(h:Ow n ps):dJ [owD n ps]= .ok .non:=by
 have:=zZ h
 simp[dJ,dI,bF,this]
theorem pL:∀ns:List Int,iV (ns.map .int)=0/\bV (ns.map .int)=true
 |[]=>⟨rfl,rfl⟩
 |n::ns=>by
  obtain⟨h1,h2⟩:=pL ns;simp[iV,qU,bV,bM,h1,h2]
theorem vC:∀ps:List (Int×Int),iV (ps.map pD)<=1/\bV (ps.map pD)=true
 |[]=>⟨by simp[iV],rfl⟩
 |p::ps=>by
  obtain⟨h1,h2⟩:=vC ps;simp[iV,qU,bV,bM,h2,pD,h1]
theorem wV(neg:Bool)(y:Int)(ns:List Int):inR neg (.int y) (.lst (ns.map .int))= .ok (.bl (if neg then !decide (y∈ns)else decide (y∈ns))):=by
 obtain⟨h1,h2⟩:=pL ns;have e:inD (.int y) (ns.map .int)=decide (y∈ns):=by
  unfold inD;rw[zCW];simp[zDk,eqD]
 unfold inR;dsimp only;rw[h1,h2,e];rfl
theorem aCc(neg:Bool)(q:Int×Int)(ps:List (Int×Int)):inR neg (pD q) (.tup (ps.map pD))= .ok (.bl (if neg then !decide (q∈ps)else decide (q∈ps))):=by
 obtain⟨h1,h2⟩:=vC ps;have e:inD (pD q) (ps.map pD)=decide (q∈ps):=by
  unfold inD;rw[zCW];simp only[List.any_map,zDk,Function.comp,decide_eq_true_eq];constructor
  ·rintro⟨p,hp,h⟩
   simp[pD,eqD,qT]at h
   have:p=q:=zGr h.1 h.2
   exact this▸hp
  ·intro h
   exact⟨q,h,by simp[pD,eqD,qT]⟩
 unfold inR;dsimp only;have h3:decide (iV (ps.map pD)<=60)=true:=by simp;omega
 have h4:bM (pD q)=true:=rfl;rw[h2,e,h3,h4];rfl
theorem lu{ρ:En}{fg:D->En->Rs En}{fe:En->Rs D}{g:D->D}:∀(ds:List D),(∀d∈ds,∃ρ1,fg d ρ= .ok ρ1/\fe ρ1= .ok (g d))->lcL ρ fg cJ fe ds= .ok (ds.map g)
 |[],_=>rfl
 |d::ds,h=>by
  obtain⟨ρ1,e1,e2⟩:=h d zAQ;have ih:=lu ds λ e he=>h e (zAJ _ he)
  unfold lcL;rw[e1,aL,aIY,aL,if_pos rfl,e2,aL,ih,aL];rfl
theorem aBR{d:D}(h:knd d=true):jT [d]= .ok (.bl (wu d)):=by
 simp[jT,iW,bF,aEv h,yQ h];cases d<;>rfl
theorem aBa{α:Type}(f:α->Bool)(l:List α):boolsOf (l.map λ x=>D.bl (f x))=some (l.map f):=by
 have:=vd (l.map f)
 rwa [zAw]at this
theorem uO{α:Type}(f:α->Bool)(l:List α):j6 (λ bs=>bs.all id) [.lst (l.map λ x=>D.bl (f x))]= .ok (.bl (l.all f)):=by
 unfold j6;dsimp only;rw[aBa];dsimp only;rw[zIP];rfl
theorem tM{α:Type}{ρ:En}{fg:D->En->Rs En}{ft:En->Rs Bool}{fe:En->Rs D}{f g:α->D}{t:α->Bool}:∀(l:List α),(∀x∈l,∃ρ1,fg (f x) ρ= .ok ρ1/\ft ρ1= .ok (t x)/\fe ρ1= .ok (g x))->lcL ρ fg ft fe (l.map f)= .ok ((l.filter t).map g)
 |[],_=>rfl
 |x::l,h=>by
  obtain⟨ρ1,e1,e2,e3⟩:=h x zAQ;have ih:=tM l λ y hy=>h y (zAJ _ hy)
  rw[zAH];unfold lcL;rw[e1,aL,e2,aL,e3,aL,ih,aL,zEw];cases t x<;>rfl
def intOf:D->Int
 | .int i=>i
 |_=>0
def lrE:En->Rs D:=op2 ltD (op2 ixD (aC 1) (op2 lO (aC 0) (cD (.int 1)))) (op2 ixD (aC 1) (aC 0))
theorem yN:gK=retS (opA (j6 λ bs=>bs.all id) (aA (lcD (cY tB (aA (cD (.int 1)) (aA (opA bZ (aA (aC 0) aF)) aF))) [none,some 0] (gnm 0) cJ lrE) aF)):=rfl
theorem aBT(z:α){ps:List α}(hlt:∀a b,ltD (f a) (f b)= .ok (.bl (lt a b)))(hl:ps.length<=100000):dO [.tup (ps.map f)]= .ok (.bl (jP lt ps)):=by
 have st:bF 1 [.tup (ps.map f)]=[.sh (.tup (ps.map f))]:=rfl;have hr:=aAz (i:=1) (j:=(ps.length:Int)) (by decide) (by decide) (by omega) (by omega);have hc:lcD (cY tB (aA (cD (.int 1)) (aA (opA bZ (aA (aC 0) aF)) aF))) [none,some 0] (gnm 0) cJ lrE [.sh (.tup (ps.map f))]= .ok (.lst ((bj 1 (ps.length:Int)).map λ k=>.bl (lt (ps.getD ((intOf k).toNat-1) z) (ps.getD (intOf k).toNat z)))):=by
  have hi:cY tB (aA (cD (.int 1)) (aA (opA bZ (aA (aC 0) aF)) aF)) (shE [.sh (.tup (ps.map f))])= .ok (bj 1 (ps.length:Int)):=by simp[shE,sY,hr]
  have hm:=lu (ρ:=stE [none,some 0] (shE [.sh (.tup (ps.map f))])) (fg:=gnm 0) (fe:=lrE) (g:=λ k=>.bl (lt (ps.getD ((intOf k).toNat-1) z) (ps.getD (intOf k).toNat z))) (bj 1 (ps.length:Int)) λ d hd=>⟨_,rfl,by
   obtain⟨k,rfl,k0,k1⟩:=jQ.mp hd;show lrE [.sh (.int k),.sh (.tup (ps.map f))]= .ok (.bl (lt (ps.getD (k.toNat-1) z) (ps.getD k.toNat z)));have l1:k.toNat-1<ps.length:=by omega
   have l2:k.toNat<ps.length:=by omega
   have e1:atD (ps.map f) (k-1)= .ok (f (ps.getD (k.toNat-1) z)):=by
    rw[show k-1=((k.toNat-1:Nat):Int)by omega];exact iD (by rw[zAU,zAC l1,zAY,zAC l1];rfl)
   have e2:atD (ps.map f) k= .ok (f (ps.getD k.toNat z)):=by
    have:=iD (l:=ps.map f) (k:=k.toNat) (d:=f (ps.getD k.toNat z)) (by rw[zAU,zAC l2,zAY,zAC l2];rfl)
    rwa [zBq (by omega)]at this
   unfold lrE;have v1:op2 ixD (aC 1) (op2 lO (aC 0) (cD (.int 1))) [.sh (.int k),.sh (.tup (ps.map f))]= .ok (f (ps.getD (k.toNat-1) z)):=by
    rw[dB,lV];show okD (atD (ps.map f) (k-1))=_;rw[e1];rfl
   have v2:op2 ixD (aC 1) (aC 0) [.sh (.int k),.sh (.tup (ps.map f))]= .ok (f (ps.getD k.toNat z)):=by
    rw[dB,lV,lV];show okD (atD (ps.map f) k)=_;rw[e2];rfl
   rw[dB,v1,aL,v2,aL,hlt,cN]⟩
  unfold lcD;rw[hi,aL,if_pos (by rw[iu,szl];omega),hm]
 have ha:opA (j6 λ bs=>bs.all id) (aA (lcD (cY tB (aA (cD (.int 1)) (aA (opA bZ (aA (aC 0) aF)) aF))) [none,some 0] (gnm 0) cJ lrE) aF) [.sh (.tup (ps.map f))]= .ok (.bl (jP lt ps)):=by
  rw[kj,bL,hc,aL,dG,aL,aL,uO,cN];refine congrArg (λ b=>Rs.ok (D.bl b)) ?_;rw[zCW,oW,zAp];constructor
  ·intro h i p q e1 e2
   have k2:=(zAI.mp e2).1
   have:=h (.int ((i+1:Nat):Int)) (jQ.mpr ⟨_,rfl,by omega,by omega⟩)
   have z1:lt (ps.getD (((i+1:Nat):Int).toNat-1) z) (ps.getD ((i+1:Nat):Int).toNat z)=true:=this;rw[zBf,Nat.add_sub_cancel,zAY,zAY,e1,e2]at z1;exact z1
  ·intro h d hd
   obtain⟨k,rfl,k0,k1⟩:=jQ.mp hd;have l1:k.toNat-1<ps.length:=by omega
   have l2:k.toNat-1+1<ps.length:=by omega
   show lt (ps.getD (k.toNat-1) z) (ps.getD k.toNat z)=true;have l3:k.toNat<ps.length:=by omega
   have:=h (k.toNat-1) ps[k.toNat-1] ps[k.toNat] (zAC l1) (by rw[show k.toNat-1+1=k.toNat by omega];exact zAC l3)
   rw[zAY,zAY,zAC l1,zAC l3];exact this
 simp only[dO,yN,bD,st];rw[gw,ha,bu]
theorem o8(h1:fi (shE ρ)= .ok ds)(h2:ds.length<16777216)(h3:lcL (stE js (shE ρ)) fg ft fe ds= .ok out):lcD fi js fg ft fe ρ= .ok (.lst out):=by
 unfold lcD;rw[h1,aL,if_pos (by rw[szl];exact h2),h3]
theorem aHS{α:Type}{f g:α->D}(l:List α)(h:∀x∈l,∃ρ1,fg (f x) ρ= .ok ρ1/\fe ρ1= .ok (g x)):lcL ρ fg cJ fe (l.map f)= .ok (l.map g):=by
 have:=tM (ρ:=ρ) (fg:=fg) (ft:=cJ) (fe:=fe) (f:=f) (g:=g) (t:=λ _=>true) l λ x hx=>by
  obtain⟨ρ1,h1,h2⟩:=h x hx;exact⟨ρ1,h1,rfl,h2⟩
 rwa [List.filter_eq_self.mpr λ _ _=>rfl]at this
theorem aEK{α:Type}{f:α->Bool}{l:List α}(h:fe ρ= .ok (.lst (l.map λ x=>.bl (f x)))):opA (j6 λ bs=>bs.all id) (aA fe aF) ρ= .ok (.bl (l.all f)):=by
 rw[kj,bL,h,aL,dG,aL,aL,uO,cN]
theorem aH6(neg:Bool)(y:Int)(ns:List Int):inR neg (.int y) (.tup (ns.map .int))= .ok (.bl (if neg then !decide (y∈ns)else decide (y∈ns))):=wV neg y ns
def gh(ll:List (List D))(p:Int×Int):List (List D):=ll.set p.1.toNat (ll.getD p.1.toNat []++[.int p.2])
theorem aC1{w:Slot}:∀(ps:List (Int×Int)) (ll:List (List D)) (s2 s3:Slot),(∀p∈ps,0<=p.1/\p.1<ll.length)->(∀l∈ll,l.length+ps.length<=10000)->
  ∃s2' s3',forL (qQ 2 (dg (gnm 2) (dg (gnm 3) sE))) (pN 1 (aC 2) (aP (aC 3))) (ps.map pD) [w,.o2 ll,s2,s3]= .nx [w,.o2 (ps.foldl gh ll),s2',s3']
 |[],ll,s2,s3,_,_=>⟨s2,s3,rfl⟩
 |p::ps,ll,s2,s3,h,hl=>by
  obtain⟨h0,h1⟩:=h p zAQ;have hk:p.1.toNat<ll.length:=by omega
  have hin:ll.getD p.1.toNat []∈ll:=by simp[hk]
  have hz:=hl _ hin;obtain⟨s2',s3',e⟩:=aC1 (w:=w) ps (gh ll p) (.sh (.int p.1)) (.sh (.int p.2)) (λ q hq=>by unfold gh;rw[zBY];exact h q (zAJ _ hq)) (λ l hm=>by
   unfold gh at hm;rcases List.mem_or_eq_of_mem_set hm with z|z
   ·have:=hl l z
    simp at this;omega
   ·subst z
    simp at hz ⊢;omega)
  refine⟨s2',s3',?_⟩;rw[zAH,jm,zBp];have ha:at2 ll (.int p.1)=some (p.1.toNat,ll.getD p.1.toNat []):=by
   have hx:ixN ll.length p.1=some p.1.toNat:=by
    unfold ixN;rw[if_pos (by omega),if_pos (by omega)]
   simp only[at2,hx,zEd];rw[zAC hk];simp[hk]
  have hb:okE (qQ 2 (dg (gnm 2) (dg (gnm 3) sE)) (pD p) [w,.o2 ll,s2,s3]) (λ ρ1=>(pN 1 (aC 2) (aP (aC 3)) ρ1).tn (forL (qQ 2 (dg (gnm 2) (dg (gnm 3) sE))) (pN 1 (aC 2) (aP (aC 3))) (ps.map pD)))=
    (pN 1 (aC 2) (aP (aC 3)) [w,.o2 ll,.sh (.int p.1),.sh (.int p.2)]).tn (forL (qQ 2 (dg (gnm 2) (dg (gnm 3) sE))) (pN 1 (aC 2) (aP (aC 3))) (ps.map pD)):=by
   simp[pD]
  have hc:pN 1 (aC 2) (aP (aC 3)) [w,.o2 ll,.sh (.int p.1),.sh (.int p.2)]= .nx [w,.o2 (gh ll p),.sh (.int p.1),.sh (.int p.2)]:=by
   have hz2:(ll.getD p.1.toNat []).length<16777216:=by simp at hz ⊢;omega
   unfold pN;simp only[zBR,zB5];simp[ha];rw[if_pos (by simpa using hz2)];simp[gh]
  rw[hb,hc,aGH];exact e
theorem uz:∀(ps:List (Int×Int)) (ll:List (List D)),(ps.foldl gh ll).length=ll.length
 |[],_=>rfl
 |p::ps,ll=>by rw[zBp,uz ps];unfold gh;rw[zBY]
def yL(ps:List (Int×Int))(i:Int):List Int:=(ps.filter λ p=>p.1==i).map (·.2)
theorem aAU:∀(ps:List (Int×Int)) (ll:List (List D)) (i:Nat),(∀p∈ps,0<=p.1/\p.1<ll.length)->i<ll.length->(ps.foldl gh ll).getD i []=ll.getD i []++(yL ps i).map .int
 |[],ll,i,_,_=>by simp[yL]
 |p::ps,ll,i,h,hi=>by
  obtain⟨h0,h1⟩:=h p zAQ;rw[zBp,aAU ps (gh ll p) i (λ q hq=>by unfold gh;rw[zBY];exact h q (zAJ _ hq)) (by unfold gh;rw[zBY];exact hi)];unfold gh yL;by_cases c:p.1=i
  ·have hk:p.1.toNat=i:=by omega
   rw[hk,List.filter_cons_of_pos (by simpa using c)];simp[hi]
  ·have hk:p.1.toNat≠i:=by omega
   rw[List.filter_cons_of_neg (by simpa using c)];simp[zBU hk]
structure aMf(n:Int)(ps:List (Int×Int))(ll:List (List D)):Prop where
 len:ll.length=n.toNat
 item:∀i:Int,0<=i->i<n->atD (ll.map .lst) i= .ok (.lst ((yL ps i).map .int))
theorem aEJ{n:Int}{ps:List (Int×Int)}(h:Ow n ps):∃ll,jw [owD n ps]= .ok (.lst (ll.map .lst))/\aMf n ps ll:=by
 have hr:=iw (j:=n) (by have:=h.n0;omega) (by have:=h.n1;omega);have hlen:(bj 0 n).length=n.toNat:=by rw[iu];omega
 have hn1:=h.n1;have hps:=h.len;have hin:∀p∈ps,0<=p.1/\p.1<(zA1 n.toNat ([]:List D)).length:=λ p hp=>by
  obtain⟨a,b,_⟩:=h.pr p hp;rw[zCX];omega
 obtain⟨s2,s3,e⟩:=aC1 (w:=.sh (owD n ps)) ps (zA1 n.toNat []) .no .no hin (λ l hl=>by
  rw[(List.mem_replicate.mp hl).2];simp;omega)
 refine⟨ps.foldl gh (zA1 n.toNat []),?_,by rw[uz,zCX],λ i h0 h1=>?_⟩
 ·have hz:n.toNat<16777216:=by omega
  have a1:llS 1 (cY fU (aA (op2 ixD (aC 0) (cD (.int 0))) aF)) [none] (gnm 0) [.sh (owD n ps),.no,.no,.no]= .nx [.sh (owD n ps),.o2 (zA1 n.toNat []),.no,.no]:=by
   unfold llS;simp[shE,sY,owD,hr,hlen,hz]
  have a2:fL (cC (op2 ixD (aC 0) (cD (.int 1)))) (qQ 2 (dg (gnm 2) (dg (gnm 3) sE))) (pN 1 (aC 2) (aP (aC 3))) [.sh (owD n ps),.o2 (zA1 n.toNat []),.no,.no]= .nx [.sh (owD n ps),.o2 (ps.foldl gh (zA1 n.toNat [])),s2,s3]:=by
   have hi:cC (op2 ixD (aC 0) (cD (.int 1))) [.sh (owD n ps),.o2 (zA1 n.toNat []),.no,.no]= .ok (ps.map pD):=by simp[owD]
   rw[iB,hi,bu];exact e
  have a3:retS (jz 1) [.sh (owD n ps),.o2 (ps.foldl gh (zA1 n.toNat [])),s2,s3]= .rt (.lst ((ps.foldl gh (zA1 n.toNat [])).map .lst)):=by simp
  have st:bF 4 [owD n ps]=[.sh (owD n ps),.no,.no,.no]:=rfl;simp only[jw,jt,bD,st];rw[aO,a1,aq,aO,a2,aq,a3]
 ·have hk:i.toNat<(zA1 n.toNat ([]:List D)).length:=by rw[zCX];omega
  have hg:=aAU ps (zA1 n.toNat []) i.toNat hin hk;have hk2:i.toNat<(ps.foldl gh (zA1 n.toNat [])).length:=by rw[uz];exact hk
  have hi:((i.toNat:Nat):Int)=i:=zBq h0;rw[hi]at hg;rw[<-hi];refine iD ?_;rw[hi,zAU,zAC hk2]
  have:(ps.foldl gh (zA1 n.toNat []))[i.toNat]=(yL ps i).map .int:=by
   have e1:(ps.foldl gh (zA1 n.toNat [])).getD i.toNat []=(ps.foldl gh (zA1 n.toNat []))[i.toNat]:=by simp[hk2]
   rw[<-e1,hg];have e2:(zA1 n.toNat ([]:List D)).getD i.toNat []=[]:=by
    rw[zAY,zCo];split<;>rfl
   rw[e2,zHe]
  rw[this];rfl
theorem aEj{ps:List (Int×Int)}{a b:Int}:b∈yL ps a↔(a,b)∈ps:=by
 unfold yL;simp only[zAm,zBK];constructor
 ·rintro⟨p,⟨h1,h2⟩,rfl⟩
  have:p.1=a:=by simpa using h2
  rw[<-this];exact h1
 ·intro h
  exact⟨(a,b),⟨h,by simp⟩,rfl⟩
def fM(ps:List (Int×Int)):List Int->Bool
 |a::b::r=>decide ((a,b)∈ps)&&fM ps (b::r)
 |_=>true
theorem qG{ps:List (Int×Int)}:∀{ws:List Int},fM ps ws=true↔∀(i:Nat) (a b:Int),ws[i]? =some a->ws[i+1]? =some b->(a,b)∈ps
 |[]=>by simp[fM]
 |[x]=>by
  simp only[fM,true_iff];intro i p q _ h2;simp at h2
 |x::y::r=>by
  have ih:=qG (ps:=ps) (ws:=y::r);unfold fM;rw[zAN,ih,decide_eq_true_eq];constructor
  ·rintro⟨h1,h2⟩ i p q e1 e2
   cases i with
   |zero=>simp at e1 e2;subst e1 e2;exact h1
   |succ i=>exact h2 i p q (by simpa using e1) (by simpa using e2)
  ·intro h
   exact⟨h 0 x y rfl rfl,λ i p q e1 e2=>h (i+1) p q (by simpa using e1) (by simpa using e2)⟩
def g8(n:Int)(ps:List (Int×Int)):D->Bool
 | .tup ts=>!ts.isEmpty&&ts.all (cM n)&&decide ((ddI (ts.map intOf)).length=ts.length)&&fM ps (ts.map intOf)
 |_=>false
theorem lZ{n:Int}:∀{ts:List D},ts.all (cM n)=true->(ts.map intOf).map D.int=ts/\∀x∈ts.map intOf,0<=x/\x<n
 |[],_=>⟨rfl,λ x hx=>by simp at hx⟩
 |t::ts,h=>by
  rw[zE0,zAN]at h;obtain⟨i,rfl,h0,h1⟩:=uh h.1;obtain⟨e,q⟩:=lZ h.2;refine⟨by simp only[zAH];rw[e];rfl,λ x hx=>?_⟩;rw[zAH]at hx;rcases zAL.mp hx with z|z
  ·subst z;exact⟨h0,h1⟩
  ·exact q x z
@[simp] theorem aBu{ns:List Int}(h:ns.length<4000):qI [.tup (ns.map .int)]= .ok (.set (ddI ns)):=by
 unfold qI;dsimp only;rw[fZ];dsimp only;rw[if_pos h]
@[simp] theorem lenX_set{l:List Int}:rZ [.set l]= .ok (.int l.length):=aR rfl
theorem aAe{ts:List D}{ws:List Int}(e:ws.map D.int=ts){k:Nat}{w:Int}(h:ws[k]? =some w):atD ts (k:Int)= .ok (.int w):=by
 subst e;exact iD (by rw[zAU,h];rfl)
def aAo:D->Bool
 | .tup l=>decide (l.length<4000)
 |_=>true
def aEB:En->Ou:=ifS (dW (tst (aN cV (aA (opA bZ (aA (aC 0) aF)) (aA (aC 2) aF))))) (retS (cD (.bl false))) Ou.nx
def aEA:En->Ou:=ifS (tsb (op2 (inR true) (op2 ixD (aC 1) (aC 3)) (op2 ixD (aC 0) (op2 ixD (aC 1) (op2 lO (aC 3) (cD (.int 1))))))) (retS (cD (.bl false))) Ou.nx
theorem eF:gP=aU (ifS (orT (dW (tst (op1 (eU "tuple") (aC 1)))) (tsb (op2 (eqR false) (opA bZ (aA (aC 1) aF)) (cD (.int 0))))) (retS (cD (.bl false))) Ou.nx)
  (aU (fL (cC (aC 1)) (gnm 2) aEB)
  (aU (ifS (tsb (op2 (eqR true) (opA rZ (aA (opA qI (aA (aC 1) aF)) aF)) (opA bZ (aA (aC 1) aF)))) (retS (cD (.bl false))) Ou.nx)
  (aU (fL (cY tB (aA (cD (.int 1)) (aA (opA bZ (aA (aC 1) aF)) aF))) (gnm 3) aEA)
  (retS (cD (.bl true)))))):=rfl
theorem qj{n:Int}{ps:List (Int×Int)}{ll:List (List D)}{d:D}(hn:0<=n)(N:aMf n ps ll)(hp:pln d=true)(hs:aAo d=true):bR [.lst (ll.map .lst),d]= .ok (.bl (g8 n ps d)):=by
 cases d with
 |tup ts=>
  have hp':dh ts=true:=by simpa[pln]using hp
  have hl:ts.length<4000:=by simpa[aAo]using hs
  have st:bF 4 [.lst (ll.map .lst),.tup ts]=[.sh (.lst (ll.map .lst)),.sh (.tup ts),.no,.no]:=rfl;have hll:((ll.map D.lst).length:Int)=n:=by rw[zAF,N.len];omega
  cases ts with
  |nil=>
   simp only[bR,eF,bD,st];simp[g8]
  |cons t0 tr=>
   generalize hts:t0::tr=ts at*;have hne:ts≠[]:=by rw[<-hts];simp
   have b1:ifS (orT (dW (tst (op1 (eU "tuple") (aC 1)))) (tsb (op2 (eqR false) (opA bZ (aA (aC 1) aF)) (cD (.int 0))))) (retS (cD (.bl false))) Ou.nx [.sh (.lst (ll.map .lst)),.sh (.tup ts),.no,.no]= .nx [.sh (.lst (ll.map .lst)),.sh (.tup ts),.no,.no]:=by
    simp[hne]
   have L:=jk (a:=gnm 2) (u:=aEB) (r:=.bl false) ts (λ i=>match ts[i]? with|some t=>cM n t|none=>true) (λ ρ=>∃s,ρ=[.sh (.lst (ll.map .lst)),.sh (.tup ts),s,.no]) [.sh (.lst (ll.map .lst)),.sh (.tup ts),.no,.no] ⟨_,rfl⟩ (by
    rintro i d ρ hd ⟨s,rfl⟩;have e:=pA (m:=n) (gH (du hp' (zBB hd)));simp only[hd];have hc:(dW (tst (aN cV (aA (opA bZ (aA (aC 0) aF)) (aA (aC 2) aF))))) [.sh (.lst (ll.map .lst)),.sh (.tup ts),.sh d,.no]= .ok (!cM n d):=by
     have hv:aA (opA bZ (aA (aC 0) aF)) (aA (aC 2) aF) [.sh (.lst (ll.map .lst)),.sh (.tup ts),.sh d,.no]= .ok [.int n,d]:=by
      rw[<-hll];simp
     rw[nY,rB,uJ,hv,aL,e,aL,aER,aL]
    have hg:okE (gnm 2 d [.sh (.lst (ll.map .lst)),.sh (.tup ts),s,.no]) aEB=aEB [.sh (.lst (ll.map .lst)),.sh (.tup ts),.sh d,.no]:=by rw[nZ,km];rfl
    rw[hg];unfold aEB;rw[gf,hc,bu];cases c:cM n d with
    |true=>right;exact⟨_,rfl,⟨_,rfl⟩,rfl⟩
    |false=>left;exact⟨by simp,rfl⟩)
   have hfor:∀o,forL (gnm 2) aEB ts [.sh (.lst (ll.map .lst)),.sh (.tup ts),.no,.no]=o->fL (cC (aC 1)) (gnm 2) aEB [.sh (.lst (ll.map .lst)),.sh (.tup ts),.no,.no]=o:=λ o h=>by
    have hi:cC (aC 1) [.sh (.lst (ll.map .lst)),.sh (.tup ts),.no,.no]= .ok ts:=by simp
    rw[iB,hi,bu,h]
   rcases L with ⟨e,i,hi,o⟩|⟨ρ',e,⟨s,rfl⟩,o⟩
   ·have:ts.all (cM n)=false:=by
     rw[zEc];rw[zAC hi]at o;exact⟨ts[i],zCb hi,by simpa using o⟩
    simp only[bR,eF,bD,st];rw[aO,b1,aq,aO,hfor _ e];simp[g8,this]
   ·have hall:ts.all (cM n)=true:=by
     rw[zAp];intro t ht;obtain⟨i,hi,rfl⟩:=zEP ht
     have:=o i hi
     rw[zAC hi]at this;exact this
    obtain⟨ei,hin⟩:=lZ hall;have hwl:(ts.map intOf).length=ts.length:=zAF _;have hset:qI [.tup ts]= .ok (.set (ddI (ts.map intOf))):=by
     have:=aBu (ns:=ts.map intOf) (by omega)
     rwa [ei]at this
    by_cases hdd:(ddI (ts.map intOf)).length=ts.length
    ·have b3:ifS (tsb (op2 (eqR true) (opA rZ (aA (opA qI (aA (aC 1) aF)) aF)) (opA bZ (aA (aC 1) aF)))) (retS (cD (.bl false))) Ou.nx [.sh (.lst (ll.map .lst)),.sh (.tup ts),s,.no]= .nx [.sh (.lst (ll.map .lst)),.sh (.tup ts),s,.no]:=by
      simp[hset,hdd]
     have hr:=aAz (i:=1) (j:=(ts.length:Int)) (by decide) (by decide) (by omega) (by omega);have hlen:(bj 1 (ts.length:Int)).length=ts.length-1:=by rw[iu];omega
     have L2:=jk (a:=gnm 3) (u:=aEA) (r:=.bl false) (bj 1 (ts.length:Int)) (λ i=>match (ts.map intOf)[i]?,(ts.map intOf)[i+1]? with|some a,some b=>decide ((a,b)∈ps)|_,_=>true)
      (λ ρ=>∃s',ρ=[.sh (.lst (ll.map .lst)),.sh (.tup ts),s,s']) [.sh (.lst (ll.map .lst)),.sh (.tup ts),s,.no] ⟨_,rfl⟩ (by
       rintro i d ρ hd ⟨s',rfl⟩;obtain⟨rfl,h2⟩:=kY hd;have k1:i<(ts.map intOf).length:=by omega
       have k2:i+1<(ts.map intOf).length:=by omega
       have e1:(ts.map intOf)[i]? =some (ts.map intOf)[i]:=zAC k1;have e2:(ts.map intOf)[i+1]? =some (ts.map intOf)[i+1]:=zAC k2;have a1:atD ts (1+(i:Int)-1)= .ok (.int (ts.map intOf)[i]):=by
        rw[show(1+(i:Int)-1)=(i:Int)by omega];exact aAe ei e1
       have a2:atD ts (1+(i:Int))= .ok (.int (ts.map intOf)[i+1]):=by
        rw[show(1+(i:Int))=((i+1:Nat):Int)by omega];exact aAe ei e2
       have m1:=hin _ (zCb k1);have a3:=N.item _ m1.1 m1.2;have hc:(tsb (op2 (inR true) (op2 ixD (aC 1) (aC 3)) (op2 ixD (aC 0) (op2 ixD (aC 1) (op2 lO (aC 3) (cD (.int 1))))))) [.sh (.lst (ll.map .lst)),.sh (.tup ts),s,.sh (.int (1+(i:Int)))]= .ok (!decide (((ts.map intOf)[i],(ts.map intOf)[i+1])∈ps)):=by
        simp[a1,a2,a3,wV,aEj,-zCK]
       have hg:okE (gnm 3 (.int (1+(i:Int))) [.sh (.lst (ll.map .lst)),.sh (.tup ts),s,s']) aEA=aEA [.sh (.lst (ll.map .lst)),.sh (.tup ts),s,.sh (.int (1+(i:Int)))]:=by rw[nZ,km];rfl
       rw[hg];unfold aEA;rw[gf,hc,bu];simp only[e1,e2];cases c:decide (((ts.map intOf)[i],(ts.map intOf)[i+1])∈ps)with
       |true=>right;exact⟨_,rfl,⟨_,rfl⟩,rfl⟩
       |false=>left;exact⟨by simp,rfl⟩)
     have hfor2:∀o,forL (gnm 3) aEA (bj 1 (ts.length:Int)) [.sh (.lst (ll.map .lst)),.sh (.tup ts),s,.no]=o->fL (cY tB (aA (cD (.int 1)) (aA (opA bZ (aA (aC 1) aF)) aF))) (gnm 3) aEA [.sh (.lst (ll.map .lst)),.sh (.tup ts),s,.no]=o:=λ o h=>by
      have hi:cY tB (aA (cD (.int 1)) (aA (opA bZ (aA (aC 1) aF)) aF)) [.sh (.lst (ll.map .lst)),.sh (.tup ts),s,.no]= .ok (bj 1 (ts.length:Int)):=by simp[hr]
      rw[iB,hi,bu,h]
     rcases L2 with ⟨e2,i,hi,o2⟩|⟨ρ',e2,⟨s',rfl⟩,o2⟩
     ·have:fM ps (ts.map intOf)=false:=by
       cases c:fM ps (ts.map intOf)with
       |false=>rfl
       |true=>
        rw[hlen]at hi;have k1:i<(ts.map intOf).length:=by omega
        have k2:i+1<(ts.map intOf).length:=by omega
        have z:=qG.mp c i _ _ (zAC k1) (zAC k2);rw[zAC k1,zAC k2]at o2;simp only at o2;rw[decide_eq_true z]at o2;cases o2
      simp only[bR,eF,bD,st];rw[aO,b1,aq,aO,hfor _ e,aq,aO,b3,aq,aO,hfor2 _ e2];simp[g8,this]
     ·have:fM ps (ts.map intOf)=true:=qG.mpr λ i a b e1 e2'=>by
       have h2:=(zAI.mp e2').1
       have:=o2 i (by rw[hlen];omega)
       rw[e1,e2']at this;simpa using this
      simp only[bR,eF,bD,st];rw[aO,b1,aq,aO,hfor _ e,aq,aO,b3,aq,aO,hfor2 _ e2,aq];simp[g8,this,hall,hdd,hne]
    ·have b3:ifS (tsb (op2 (eqR true) (opA rZ (aA (opA qI (aA (aC 1) aF)) aF)) (opA bZ (aA (aC 1) aF)))) (retS (cD (.bl false))) Ou.nx [.sh (.lst (ll.map .lst)),.sh (.tup ts),s,.no]= .rt (.bl false):=by
      have:¬((ddI (ts.map intOf)).length:Int)=(ts.length:Int):=by omega
      simp[hset,this]
     simp only[bR,eF,bD,st];rw[aO,b1,aq,aO,hfor _ e,aq,aO,b3];simp[g8,hdd]
 |_=>
  simp only[bR,eF,bD];simp[bF,fC (gH hp),dD,g8]
def aBV:En->Rs D:=jD (aN jT (aA (aC 0) aF)) (chD leD ltD (cD (.int 0)) (aC 0) (op2 ixD (aC 1) (cD (.int 0))))
def aF7:En->Rs D:=op2 (inR false) (aZ (aA (op2 ixD (aC 1) (aC 0)) (aA (op2 ixD (aC 1) (op2 aW (aC 0) (cD (.int 1)))) aF))) (op2 ixD (aC 2) (cD (.int 1)))
theorem gk:iY=aU (ifS (orT (dW (tst (op1 (eU "tuple") (aC 1)))) (tsb (op2 (eqR false) (opA bZ (aA (aC 1) aF)) (cD (.int 0))))) (retS (cD (.bl false))) Ou.nx)
  (aU (ifS (orT (dW (tst (opA (j6 λ bs=>bs.all id) (aA (lcD (cC (aC 1)) [none,some 0] (gnm 0) cJ aBV) aF)))) (tsb (op2 ltD (opA rZ (aA (opA qI (aA (aC 1) aF)) aF)) (opA bZ (aA (aC 1) aF))))) (retS (cD (.bl false))) Ou.nx)
  (retS (opA (j6 λ bs=>bs.all id) (aA (lcD (cY fU (aA (op2 lO (opA bZ (aA (aC 1) aF)) (cD (.int 1))) aF)) [none,some 1,some 0] (gnm 0) cJ aF7) aF)))):=rfl
theorem aJc{n:Int}{ps:List (Int×Int)}{d:D}(h:knd d=true):aBV [.sh d,.sh (owD n ps)]= .ok (.bl (cM n d)):=by
 have:=aBR h
 unfold aBV;simp[owD,this];cases d<;>simp[wu,cM]
 rename_i i;by_cases h0:0<=i<;>simp[h0]
theorem tO{n:Int}{ps:List (Int×Int)}{d:D}(O:Ow n ps)(hp:pln d=true)(hs:aAo d=true):bx [owD n ps,d]= .ok (.bl (g8 n ps d)):=by
 cases d with
 |tup ts=>
  have hp':dh ts=true:=by simpa[pln]using hp
  have hl:ts.length<4000:=by simpa[aAo]using hs
  have st:bF 2 [owD n ps,.tup ts]=[.sh (owD n ps),.sh (.tup ts)]:=rfl;cases ts with
  |nil=>
   simp only[bx,gk,bD,st];simp[g8]
  |cons t0 tr=>
   generalize hts:t0::tr=ts at*;have hne:ts≠[]:=by rw[<-hts];simp
   have b1:ifS (orT (dW (tst (op1 (eU "tuple") (aC 1)))) (tsb (op2 (eqR false) (opA bZ (aA (aC 1) aF)) (cD (.int 0))))) (retS (cD (.bl false))) Ou.nx [.sh (owD n ps),.sh (.tup ts)]= .nx [.sh (owD n ps),.sh (.tup ts)]:=by
    simp[hne]
   have hc1:lcD (cC (aC 1)) [none,some 0] (gnm 0) cJ aBV [.sh (owD n ps),.sh (.tup ts)]= .ok (.lst (ts.map λ t=>.bl (cM n t))):=by
    have hi:cC (aC 1) (shE [.sh (owD n ps),.sh (.tup ts)])= .ok ts:=by simp[shE,sY]
    have hm:=lu (ρ:=stE [none,some 0] (shE [.sh (owD n ps),.sh (.tup ts)])) (fg:=gnm 0) (fe:=aBV) (g:=λ t=>.bl (cM n t)) ts λ d hd=>⟨_,rfl,by
     show aBV [.sh d,.sh (owD n ps)]=_;exact aJc (gH (du hp' hd))⟩
    unfold lcD;rw[hi,aL,if_pos (by rw[szl];omega),hm]
   have ha1:opA (j6 λ bs=>bs.all id) (aA (lcD (cC (aC 1)) [none,some 0] (gnm 0) cJ aBV) aF) [.sh (owD n ps),.sh (.tup ts)]= .ok (.bl (ts.all (cM n))):=by
    rw[kj,bL,hc1,aL,dG,aL,aL,uO,cN]
   cases hall:ts.all (cM n)with
   |false=>
    have b2:ifS (orT (dW (tst (opA (j6 λ bs=>bs.all id) (aA (lcD (cC (aC 1)) [none,some 0] (gnm 0) cJ aBV) aF)))) (tsb (op2 ltD (opA rZ (aA (opA qI (aA (aC 1) aF)) aF)) (opA bZ (aA (aC 1) aF))))) (retS (cD (.bl false))) Ou.nx [.sh (owD n ps),.sh (.tup ts)]= .rt (.bl false):=by
     rw[gf,rT,nY,rB,ha1,hall];simp
    simp only[bx,gk,bD,st];rw[aO,b1,aq,aO,b2];simp[g8,hall]
   |true=>
    obtain⟨ei,hin⟩:=lZ hall;have hwl:(ts.map intOf).length=ts.length:=zAF _;have hset:qI [.tup ts]= .ok (.set (ddI (ts.map intOf))):=by
     have:=aBu (ns:=ts.map intOf) (by omega)
     rwa [ei]at this
    have hle:=aM5 (ts.map intOf);have hlt:tsb (op2 ltD (opA rZ (aA (opA qI (aA (aC 1) aF)) aF)) (opA bZ (aA (aC 1) aF))) [.sh (owD n ps),.sh (.tup ts)]= .ok (decide (((ddI (ts.map intOf)).length:Int)<ts.length)):=by simp[hset]
    have b2:ifS (orT (dW (tst (opA (j6 λ bs=>bs.all id) (aA (lcD (cC (aC 1)) [none,some 0] (gnm 0) cJ aBV) aF)))) (tsb (op2 ltD (opA rZ (aA (opA qI (aA (aC 1) aF)) aF)) (opA bZ (aA (aC 1) aF))))) (retS (cD (.bl false))) Ou.nx [.sh (owD n ps),.sh (.tup ts)]
      =if ((ddI (ts.map intOf)).length:Int)<ts.length then .rt (.bl false)else .nx [.sh (owD n ps),.sh (.tup ts)]:=by
     rw[gf,rT,nY,rB,ha1,hall,hlt];simp
    by_cases hdd:(ddI (ts.map intOf)).length=ts.length
    ·rw[if_neg (by omega)]at b2
     have hr:=iw (j:=(ts.length:Int)-1) (by omega) (by omega);have hc2:lcD (cY fU (aA (op2 lO (opA bZ (aA (aC 1) aF)) (cD (.int 1))) aF)) [none,some 1,some 0] (gnm 0) cJ aF7 [.sh (owD n ps),.sh (.tup ts)]= .ok (.lst ((bj 0 ((ts.length:Int)-1)).map λ k=>.bl (decide (((ts.map intOf).getD (intOf k).toNat 0,(ts.map intOf).getD ((intOf k).toNat+1) 0)∈ps)))):=by
      have hi:cY fU (aA (op2 lO (opA bZ (aA (aC 1) aF)) (cD (.int 1))) aF) (shE [.sh (owD n ps),.sh (.tup ts)])= .ok (bj 0 ((ts.length:Int)-1)):=by simp[shE,sY,hr]
      have hm:=lu (ρ:=stE [none,some 1,some 0] (shE [.sh (owD n ps),.sh (.tup ts)])) (fg:=gnm 0) (fe:=aF7) (g:=λ k=>.bl (decide (((ts.map intOf).getD (intOf k).toNat 0,(ts.map intOf).getD ((intOf k).toNat+1) 0)∈ps))) (bj 0 ((ts.length:Int)-1)) λ d hd=>⟨_,rfl,by
       obtain⟨k,rfl,k0,k1⟩:=jQ.mp hd;show aF7 [.sh (.int k),.sh (.tup ts),.sh (owD n ps)]=_;have l1:k.toNat<(ts.map intOf).length:=by omega
       have l2:k.toNat+1<(ts.map intOf).length:=by omega
       have e1:atD ts k= .ok (.int ((ts.map intOf).getD k.toNat 0)):=by
        have:=aAe ei (k:=k.toNat) (w:=(ts.map intOf).getD k.toNat 0) (by rw[zAY,zAC l1];rfl)
        rwa [zBq k0]at this
       have e2:atD ts (k+1)= .ok (.int ((ts.map intOf).getD (k.toNat+1) 0)):=by
        have:=aAe ei (k:=k.toNat+1) (w:=(ts.map intOf).getD (k.toNat+1) 0) (by rw[zAY,zAC l2];rfl)
        rwa [show((k.toNat+1:Nat):Int)=k+1 by omega]at this
       have hv:op2 ixD (aC 2) (cD (.int 1)) [.sh (.int k),.sh (.tup ts),.sh (owD n ps)]= .ok (.tup (ps.map pD)):=by simp[owD]
       have ht:aZ (aA (op2 ixD (aC 1) (aC 0)) (aA (op2 ixD (aC 1) (op2 aW (aC 0) (cD (.int 1)))) aF)) [.sh (.int k),.sh (.tup ts),.sh (owD n ps)]= .ok (pD ((ts.map intOf).getD k.toNat 0,(ts.map intOf).getD (k.toNat+1) 0)):=by
        have v1:op2 ixD (aC 1) (aC 0) [.sh (.int k),.sh (.tup ts),.sh (owD n ps)]= .ok (.int ((ts.map intOf).getD k.toNat 0)):=by
         rw[dB,lV,lV];show okD (atD ts k)=_;rw[e1];rfl
        have v2:op2 ixD (aC 1) (op2 aW (aC 0) (cD (.int 1))) [.sh (.int k),.sh (.tup ts),.sh (owD n ps)]= .ok (.int ((ts.map intOf).getD (k.toNat+1) 0)):=by
         rw[dB,lV];show okD (atD ts (k+1))=_;rw[e2];rfl
        rw[pU,bL,v1,aL,bL,v2,aL,dG,aL,aL,aL,if_pos (by simp)];rfl
       unfold aF7;rw[dB,ht,aL,hv,aL,aCc,cN];rfl⟩
      unfold lcD;rw[hi,aL,if_pos (by rw[iu,szl];omega),hm]
     have ha2:opA (j6 λ bs=>bs.all id) (aA (lcD (cY fU (aA (op2 lO (opA bZ (aA (aC 1) aF)) (cD (.int 1))) aF)) [none,some 1,some 0] (gnm 0) cJ aF7) aF) [.sh (owD n ps),.sh (.tup ts)]= .ok (.bl (fM ps (ts.map intOf))):=by
      rw[kj,bL,hc2,aL,dG,aL,aL,uO,cN];congr 2;rw[zCW,qG,zAp];constructor
      ·intro h i a b e1 e2
       have k2:=(zAI.mp e2).1
       have:=h (.int (i:Int)) (jQ.mpr ⟨i,rfl,by omega,by omega⟩)
       have z:=of_decide_eq_true this;have f1:(ts.map intOf).getD (intOf (.int (i:Int))).toNat 0=a:=by
        show(ts.map intOf).getD ((i:Int).toNat) 0=a
        rw[zBf,zAY,e1];rfl
       have f2:(ts.map intOf).getD ((intOf (.int (i:Int))).toNat+1) 0=b:=by
        show(ts.map intOf).getD ((i:Int).toNat+1) 0=b
        rw[zBf,zAY,e2];rfl
       rw[f1,f2]at z;exact z
      ·intro h d hd
       obtain⟨k,rfl,k0,k1⟩:=jQ.mp hd;have l1:k.toNat<(ts.map intOf).length:=by omega
       have l2:k.toNat+1<(ts.map intOf).length:=by omega
       show decide (((ts.map intOf).getD k.toNat 0,(ts.map intOf).getD (k.toNat+1) 0)∈ps)=true;refine decide_eq_true ?_;exact h k.toNat _ _ (by rw[zAY,zAC l1];rfl) (by rw[zAY,zAC l2];rfl)
     simp only[bx,gk,bD,st];rw[aO,b1,aq,aO,b2,aq,gw,ha2];simp[g8,hall,hdd,hne]
    ·rw[if_pos (by omega)]at b2
     simp only[bx,gk,bD,st];rw[aO,b1,aq,aO,b2];simp[g8,hdd]
 |_=>
  simp only[bx,gk,bD];simp[bF,fC (gH hp),dD,g8]
def gW(n:Int)(ps:List (Int×Int)):D->Bool
 | .tup ts=>g8 n ps (.tup ts)&&decide (1<ts.length)&&decide ((ts.map intOf).min?=(ts.map intOf).head?)&&decide (((ts.map intOf).getLastD 0,(ts.map intOf).headD 0)∈ps)
 |_=>false
theorem wY{ws:List Int}{ts:List D}(e:ws.map D.int=ts)(hne:ws≠[]):atD ts (-1)= .ok (.int (ws.getLastD 0)):=by
 subst e;have hl:0<ws.length:=zDQ.mpr hne;have hx:ixN (ws.map D.int).length (-1)=some (ws.length-1):=by
  unfold ixN;rw[zAF,if_neg (by omega),if_pos (by omega)];congr 1;omega
 have hg:(ws.map D.int)[ws.length-1]? =some (.int (ws.getLastD 0)):=by
  rw[zAU]
  have:ws[ws.length-1]? =some (ws.getLastD 0):=by
   rw[zCa,List.getLast?_eq_getElem?];cases c:ws[ws.length-1]? with
   |none=>exact absurd (zC9.mp c) (by omega)
   |some x=>rfl
  rw[this];rfl
 unfold atD atI;rw[hx];simp only[zEd,hg]
theorem aCR{ws:List Int}(h:ws≠[]):∃m,ws.min?=some m:=by
 cases c:ws.min? with
 |none=>rw[List.min?_eq_none_iff]at c;exact absurd c h
 |some m=>exact⟨m,rfl⟩
theorem aAI{ws:List Int}{ts:List D}(e:ws.map D.int=ts){m:Int}(h:ws.min?=some m):o7 zE2 [.tup ts]= .ok (.int m):=by
 subst e;unfold o7;dsimp only;rw[fZ];dsimp only;rw[h]
theorem ur{n:Int}{ps:List (Int×Int)}{ts:List D}(h:g8 n ps (.tup ts)=true):(ts.map intOf).map D.int=ts/\(∀x∈ts.map intOf,0<=x/\x<n)/\ts.map intOf≠[]:=by
 unfold g8 at h;simp only[zAN,zEa]at h;obtain⟨e,hin⟩:=lZ h.1.1.2;refine⟨e,hin,λ z=>?_⟩
 have:ts=[]:=by simpa using z
 rw[this]at h;simp at h
theorem z7{n:Int}{ps:List (Int×Int)}{ll:List (List D)}{d:D}(O:Ow n ps)(N:aMf n ps ll)(hp:pln d=true)(hs:aAo d=true):eZ [.lst (ll.map .lst),d]= .ok (.bl (gW n ps d)):=by
 have eg:=qj O.n0 N hp hs;have st:bF 2 [.lst (ll.map .lst),d]=[.sh (.lst (ll.map .lst)),.sh d]:=rfl;have ec:aN bR (aA (aC 0) (aA (aC 1) aF)) [.sh (.lst (ll.map .lst)),.sh d]= .ok (.bl (g8 n ps d)):=by simp[eg]
 cases hb:g8 n ps d with
 |false=>
  have:gW n ps d=false:=by cases d<;>simp[gW,hb]
  rw[this];simp only[eZ,eY,bD,st];rw[gw,gR,ec,hb];simp
 |true=>
  cases d with
  |tup ts=>
   obtain⟨ei,hin,hne⟩:=ur hb;obtain⟨m,hm⟩:=aCR hne;have e0:atD ts 0= .ok (.int ((ts.map intOf).headD 0)):=by
    have:=aAe ei (k:=0) (w:=(ts.map intOf).headD 0) (by
     cases c:ts.map intOf with
     |nil=>exact absurd c hne
     |cons a b=>rfl)
    exact this
   have el:=wY ei hne;have hlast:(ts.map intOf).getLastD 0∈ts.map intOf:=by
    cases c:ts.map intOf with
    |nil=>exact absurd c hne
    |cons a b=>rw[List.getLastD_cons];exact List.getLastD_mem_cons ..
   have en:=N.item _ (hin _ hlast).1 (hin _ hlast).2;have hh:(ts.map intOf).head?=some ((ts.map intOf).headD 0):=by
    cases c:ts.map intOf with
    |nil=>exact absurd c hne
    |cons a b=>rfl
   have hmin:decide ((ts.map intOf).min?=(ts.map intOf).head?)=((ts.map intOf).headD 0==m):=by
    rw[hm,hh,zCW,decide_eq_true_eq,beq_iff_eq];exact⟨λ h=>(zAr h).symm,λ h=>by rw[h]⟩
   have hone:(decide (((ts.map intOf).getLastD 0,(ts.map intOf).headD 0)∈ps))=(decide (1<ts.length)&&decide (((ts.map intOf).getLastD 0,(ts.map intOf).headD 0)∈ps)):=by
    by_cases hl:1<ts.length
    ·simp[hl]
    ·rw[decide_eq_false hl,zF3,decide_eq_false_iff_not]
     intro hm;have hz:=(O.pr _ hm).2.2.2.2;apply hz;have hl1:(ts.map intOf).length=1:=by
      have:0<(ts.map intOf).length:=zDQ.mpr hne
      rw[zAF]at this ⊢;omega
     match c:ts.map intOf,hl1 with
     |[a],_=>rfl
   have er:gW n ps (.tup ts)=(((ts.map intOf).headD 0==m)&&decide (((ts.map intOf).getLastD 0,(ts.map intOf).headD 0)∈ps)):=by
    unfold gW;dsimp only;rw[hb,hmin,zFo]
    conv=>rhs;rw[hone]
    cases ((ts.map intOf).headD 0==m)<;>cases decide (1<ts.length)<;>simp
   rw[er];simp only[eZ,eY,bD,st];rw[gw,gR,ec,hb];have v1:op2 (eqR false) (op2 ixD (aC 1) (cD (.int 0))) (opA (o7 zE2) (aA (aC 1) aF)) [.sh (.lst (ll.map .lst)),.sh (.tup ts)]= .ok (.bl ((ts.map intOf).headD 0==m)):=by
    simp[e0,aAI ei hm]
   have v2:op2 (inR false) (op2 ixD (aC 1) (cD (.int 0))) (op2 ixD (aC 0) (op2 ixD (aC 1) (op1 mY (cD (.int 1))))) [.sh (.lst (ll.map .lst)),.sh (.tup ts)]= .ok (.bl (decide (((ts.map intOf).getLastD 0,(ts.map intOf).headD 0)∈ps))):=by
    simp only[dB,aHG,lV,aKk,aL,aCN,cN,aEt,aEu,zBR,zB5];rw[e0,cN,aL,el,cN,aL,aEu,en,cN,aL,wV,cN];simp only[aEj];rfl
   rw[aL,jB,if_pos rfl,gR,v1,aL,jB,v2];cases ((ts.map intOf).headD 0==m)<;>simp
  |_=>simp[g8]at hb
theorem aBS{n:Int}{ps:List (Int×Int)}{d:D}(O:Ow n ps)(hp:pln d=true)(hs:aAo d=true):gA [owD n ps,d]= .ok (.bl (gW n ps d)):=by
 have eg:=tO O hp hs;have st:bF 2 [owD n ps,d]=[.sh (owD n ps),.sh d]:=rfl;have ec:aN bx (aA (aC 0) (aA (aC 1) aF)) [.sh (owD n ps),.sh d]= .ok (.bl (g8 n ps d)):=by simp[eg]
 cases hb:g8 n ps d with
 |false=>
  have:gW n ps d=false:=by cases d<;>simp[gW,hb]
  rw[this];simp only[gA,fj,bD,st];rw[gw,gR,ec,hb];simp
 |true=>
  cases d with
  |tup ts=>
   obtain⟨ei,hin,hne⟩:=ur hb;obtain⟨m,hm⟩:=aCR hne;have e0:atD ts 0= .ok (.int ((ts.map intOf).headD 0)):=by
    have:=aAe ei (k:=0) (w:=(ts.map intOf).headD 0) (by
     cases c:ts.map intOf with
     |nil=>exact absurd c hne
     |cons a b=>rfl)
    exact this
   have el:=wY ei hne;have hh:(ts.map intOf).head?=some ((ts.map intOf).headD 0):=by
    cases c:ts.map intOf with
    |nil=>exact absurd c hne
    |cons a b=>rfl
   have hmin:decide ((ts.map intOf).min?=(ts.map intOf).head?)=(m==(ts.map intOf).headD 0):=by
    rw[hm,hh,zCW];simp
   have er:gW n ps (.tup ts)=(decide (1<ts.length)&&((m==(ts.map intOf).headD 0)&&decide (((ts.map intOf).getLastD 0,(ts.map intOf).headD 0)∈ps))):=by
    unfold gW;dsimp only;rw[hb,hmin,zFo,zEH]
   rw[er];simp only[gA,fj,bD,st];rw[gw,gR,ec,hb];have v0:op2 gtD (opA bZ (aA (aC 1) aF)) (cD (.int 1)) [.sh (owD n ps),.sh (.tup ts)]= .ok (.bl (decide (1<ts.length))):=by
    simp;omega
   have v1:op2 (eqR false) (opA (o7 zE2) (aA (aC 1) aF)) (op2 ixD (aC 1) (cD (.int 0))) [.sh (owD n ps),.sh (.tup ts)]= .ok (.bl (m==(ts.map intOf).headD 0)):=by
    simp[e0,aAI ei hm]
   have v2:op2 (inR false) (aZ (aA (op2 ixD (aC 1) (op1 mY (cD (.int 1)))) (aA (op2 ixD (aC 1) (cD (.int 0))) aF))) (op2 ixD (aC 0) (cD (.int 1))) [.sh (owD n ps),.sh (.tup ts)]= .ok (.bl (decide (((ts.map intOf).getLastD 0,(ts.map intOf).headD 0)∈ps))):=by
    have hv:op2 ixD (aC 0) (cD (.int 1)) [.sh (owD n ps),.sh (.tup ts)]= .ok (.tup (ps.map pD)):=by simp[owD]
    have ht:aZ (aA (op2 ixD (aC 1) (op1 mY (cD (.int 1)))) (aA (op2 ixD (aC 1) (cD (.int 0))) aF)) [.sh (owD n ps),.sh (.tup ts)]= .ok (pD ((ts.map intOf).getLastD 0,(ts.map intOf).headD 0)):=by
     simp only[pU,bL,dG,dB,aHG,lV,aKk,aL,aCN,cN,aEt,zBR,zB5];rw[el,cN,aL,e0,cN,aL,aL,aL,if_pos (by simp)];rfl
    rw[dB,ht,aL,hv,aL,aCc,cN];rfl
   rw[aL,jB,if_pos rfl,gR,v0,aL,jB,gR,v1,aL,jB,v2];cases decide (1<ts.length)<;>cases (m==(ts.map intOf).headD 0)<;>simp
  |_=>simp[g8]at hb
def rowOf:D->List Int
 | .tup ts=>ts.map intOf
 |_=>[]
theorem aCC(h:rws.length<=100000):dR [.tup (rws.map tupI)]= .ok (.bl (jP HT.lexLt rws)):=vP (f:=tupI) (λ a b=>aBN a b) h
theorem nu(h:rws.length<=100000):dO [.tup (rws.map tupI)]= .ok (.bl (jP HT.lexLt rws)):=aBT (f:=tupI) [] (λ a b=>aBN a b) h
def aAn:D->Bool
 | .tup l=>decide (l.length<4000)&&l.all aAo
 |_=>true
def tE(n:Int)(l:List Int):Bool:=eqD (.lst ((sortI l).map .int)) (.lst (bj 0 n))
theorem zx(h:l.length<64):xQ [.lst (l.map .int)]= .ok (.lst ((sortI l).map .int)):=by
 cases l with
 |nil=>rfl
 |cons i r=>
  have e:kE ((i::r).map D.int)=none:=rfl;unfold xQ;dsimp only;rw[e];dsimp only;rw[fZ];dsimp only;rw[if_pos h]
theorem aEg:eqR false (.lst ((sortI l).map .int)) (.lst (bj 0 n))= .ok (.bl (tE n l)):=by
 obtain⟨h1,h2⟩:=pL (sortI l);have h3:bV (bj 0 n)=true:=by rw[pW];exact(pL _).2
 unfold eqR tE;simp[bM,qU,h1,h2,h3]
theorem aHP(hf:f ρ= .ok (.int n))(h0:0<=n)(h1:n<=60):lrD f ρ= .ok (.lst (bj 0 n)):=by
 unfold lrD;rw[hf,aL];unfold lrR;simp;lia
theorem aHH(rws:List (List Int)):nsL [.no,.no] (gnm 0) cJ (inL (cC (aC 0)) (gnm 1) cJ (aP (aC 1))) (rws.map tupI)= .ok (rws.flatten.map .int):=by
 induction rws with
 |nil=>rfl
 |cons ns rws ih=>
  have hi:inL (cC (aC 0)) (gnm 1) cJ (aP (aC 1)) [.sh (tupI ns),.no]= .ok (ns.map .int):=by
   have hm:=lu (ρ:=[.sh (tupI ns),.no]) (fg:=gnm 1) (fe:=aP (aC 1)) (g:=id) (ns.map .int) λ d hd=>⟨_,rfl,by
    obtain⟨i,_,rfl⟩:=zAm.mp hd;simp⟩
   rw[List.map_id]at hm;unfold inL;rw[if_pos (by rfl)]
   have:cC (aC 0) [.sh (tupI ns),.no]= .ok (ns.map .int):=by simp[tupI]
   rw[this,aL,hm]
  rw[zAH,zAi,zAl]
  show((gnm 0 (tupI ns) [.no,.no]).bd λ ρ1=>(cJ ρ1).bd λ k=>if k=true then(inL (cC (aC 0)) (gnm 1) cJ (aP (aC 1)) ρ1).bd λ ys=>(nsL [.no,.no] (gnm 0) cJ (inL (cC (aC 0)) (gnm 1) cJ (aP (aC 1))) (rws.map tupI)).bd λ zs=>.ok (ys++zs)else _)=_
  have hg:gnm 0 (tupI ns) [.no,.no]= .ok [.sh (tupI ns),.no]:=rfl;have hy:cJ [.sh (tupI ns),.no]= .ok true:=rfl;rw[hg,aL,hy,aL,if_pos rfl,hi,aL,ih,aL]
theorem aB2{rws:List (List Int)}(h0:0<=n)(h1:n<=60)(hl:rws.flatten.length<64):jU [.int n,.tup (rws.map tupI)]= .ok (.bl (tE n rws.flatten)):=by
 have st:bF 2 [.int n,.tup (rws.map tupI)]=[.sh (.int n),.sh (.tup (rws.map tupI))]:=rfl;have hc:aHU (cC (aC 1)) [none,none] (gnm 0) cJ (inL (cC (aC 0)) (gnm 1) cJ (aP (aC 1))) [.sh (.int n),.sh (.tup (rws.map tupI))]= .ok (.lst (rws.flatten.map .int)):=by
  have hi:cC (aC 1) (shE [.sh (.int n),.sh (.tup (rws.map tupI))])= .ok (rws.map tupI):=by simp[shE,sY]
  have hns:nsL (stE [none,none] (shE [.sh (.int n),.sh (.tup (rws.map tupI))])) (gnm 0) cJ (inL (cC (aC 0)) (gnm 1) cJ (aP (aC 1))) (rws.map tupI)= .ok (rws.flatten.map .int):=aHH rws;unfold aHU;rw[hi,aL,hns];dsimp only;rw[if_pos (by rw[zAF,zB9];lia)]
 have hr:lrD (aC 0) [.sh (.int n),.sh (.tup (rws.map tupI))]= .ok (.lst (bj 0 n)):=aHP (by simp) h0 h1;simp only[jU,iZ,bD,st];rw[gw,dB,kj,bL,hc,aL,dG,aL,aL,zx hl,cN,aL,hr,aL,aEg];rfl
theorem mX:∀ws:List Int,dh (ws.map .int)=true
 |[]=>rfl
 |_::ws=>by simp only[zAH,dh,mX ws,pln];rfl
theorem tQ:∀ws:List Int,jb (ws.map .int)=true
 |[]=>rfl
 |_::ws=>by simp only[zAH,jb,tQ ws,imm];rfl
theorem yz(l:List D)(a b:Option Int):(cutD l a b).length<=l.length:=by
 unfold cutD;rw[zBQ,zCL];lia
theorem uF(h:d∈cutD l a b):d∈l:=by
 unfold cutD at h;exact List.mem_of_mem_drop (List.mem_of_mem_take h)
theorem oY(h:dh l=true):dh (cutD l a b)=true:=lY λ d hd=>du h (uF hd)
theorem iy(h:dh l=true)(h2:dh m=true):dh (l++m)=true:=lY λ d hd=>by
 rcases zA4.mp hd with z|z
 ·exact du h z
 ·exact du h2 z
theorem lD:∀{l:List D} {d:D},jb l=true->d∈l->imm d=true
 |x::r,d,h,hm=>by
  simp only[jb,zAN]at h;rcases zAL.mp hm with rfl|hm
  ·exact h.1
  ·exact lD h.2 hm
theorem iz:∀{l:List D},(∀d∈l,imm d=true)->jb l=true
 |[],_=>rfl
 |x::r,h=>by
  simp only[jb,zAN];exact⟨h x (zAQ ..),iz λ d hd=>h d (zAJ _ hd)⟩
theorem aBe{P:D->Prop}(h0:0<=i)(h1:i<l.length)(h:∀d∈l,P d):∃d,(match (okD (atD l i)).bo Ou.rt with
  |Ou.nx ρ=>Rs.ok D.non
  |Ou.rt d=>Rs.ok d
  |Ou.ex c=>Rs.ex c
  |x=>Rs.st)=Rs.ok d/\P d:=by
 obtain⟨d,e,hm,_⟩:=vH h0 h1;exact⟨d,by rw[e];rfl,h d hm⟩
def rm:D->Nat
 | .tup l=>l.length
 |_=>0
def sz:D->Nat
 | .tup l=>l.length+(l.map rm).sum
 |_=>0
def tz:D->Nat
 | .tup l=>(l.map sz).sum
 |_=>0
theorem aKw(l:List D):sz (.tup l)=l.length+(l.map rm).sum:=rfl
theorem uT(l m:List D):sz (.tup (l++m))=sz (.tup l)+sz (.tup m):=by
 simp[sz];lia
theorem wL(d:D)(l:List D):sz (.tup (d::l))=1+rm d+sz (.tup l):=by
 simp[sz];lia
theorem aKy:sz (.tup [])=0:=rfl
theorem aI5(l:List D)(k:Nat):sz (.tup (l.take k))<=sz (.tup l):=by
 conv=>rhs;rw[<-zDz k l,uT]
 lia
theorem aI6(l:List D)(k:Nat):sz (.tup (l.drop k))<=sz (.tup l):=by
 conv=>rhs;rw[<-zDz k l,uT]
 lia
theorem aKz(l:List D)(a b:Option Int):sz (.tup (cutD l a b))<=sz (.tup l):=by
 unfold cutD;exact zAf (aI5 _ _) (aI6 _ _)
theorem aKx(l:List D):sz (.tup l.reverse)=sz (.tup l):=by
 simp[sz]
theorem aEo(h:d∈l):rm d<=sz (.tup l):=by
 induction l with
 |nil=>cases h
 |cons x l ih=>
  rw[wL];rcases zAL.mp h with rfl|h
  ·lia
  ·have:=ih h;lia
theorem aHR(l:List D):l.length<=sz (.tup l):=by rw[aKw];lia
theorem aAL(ws:List Int):rm (tupI ws)=ws.length:=by simp[rm,tupI]
theorem wK(rws:List (List Int)):sz (.tup (rws.map tupI))=rws.length+rws.flatten.length:=by
 induction rws with
 |nil=>rfl
 |cons r rws ih=>
  rw[zAH,wL,ih,aAL,zA8,zAi,zAX];lia
def aG8(k:Nat)(d:D):Prop:=pln d=true/\rm d<=k
theorem oV(h:dh l=true)(h2:l.length<=k):aG8 k (.tup l):=⟨by simpa[pln]using h,h2⟩
theorem wD{ws:List Int}(p0:0<=p)(p1:p<1000)(hl:ws.length<=1000):∃d,gB [.int c,.int p,.tup (ws.map .int),.int m]= .ok d/\aG8 (2*ws.length+1) d:=by
 obtain⟨r0,e0,b0⟩:=iC (c:=c) (k:=p) (b:=(ws.length:Int)+1) (by lia) (by lia) (by lia) (by lia);obtain⟨r1,e1,b1⟩:=iC (c:=c) (k:=p+1) (b:=9) (by lia) (by lia) (by lia) (by lia);obtain⟨r2,e2,b2⟩:=iC (c:=c) (k:=p+2) (b:=10) (by lia) (by lia) (by lia) (by lia);obtain⟨d4,e4,m4,_⟩:=vH (l:=[.int 0,.int m,.int (-1),.bl true,.non,.str "0",.lst [.int 0],.int (m-1),.int 1]) (i:=(r1:Int)) (by lia) (by simpa using b1);have st:bF 7 [.int c,.int p,.tup (ws.map .int),.int m]=[.sh (.int c),.sh (.int p),.sh (.tup (ws.map .int)),.sh (.int m),.no,.no,.no]:=rfl;have gt:lR (.tup (ws.map .int))= .ok (.tup (ws.map .int)):=gJ (by simp only[imm];exact tQ ws);have gc:∀a b,lR (.tup (cutD (ws.map .int) a b))= .ok (.tup (cutD (ws.map .int) a b)):=λ a b=>gJ (by simp only[imm];exact iz λ d hd=>lD (tQ ws) (uF hd))
 have gr:lR (.tup (ws.map D.int).reverse)= .ok (.tup (ws.map D.int).reverse):=gJ (by simp only[imm];exact iz λ d hd=>lD (tQ ws) (zBv.mp hd));have cl:∀a b,(cutD (ws.map .int) a b).length<=ws.length:=λ a b=>zAf (yz _ _ _) (by rw[zAF];exact zAO _)
 have z2:∀a b,(cutD (ws.map .int) a b).length+1<=16777216:=λ a b=>by have:=cl a b;lia
 have z3:∀a b a' b',(cutD (ws.map .int) a b).length+1+(cutD (ws.map .int) a' b').length<=16777216:=λ a b a' b'=>by have:=cl a b;have:=cl a' b';lia
 have z4:∀a b,ws.length+(cutD (ws.map .int) a b).length<=16777216:=λ a b=>by have:=cl a b;lia
 have z5:∀a b a' b',(cutD (ws.map .int) a b).length+(cutD (ws.map .int) a' b').length<=16777216:=λ a b a' b'=>by have:=cl a b;have:=cl a' b';lia
 have p4:pln d4=true:=by
  simp only[zAL,zAu,or_false]at m4;rcases m4 with rfl|rfl|rfl|rfl|rfl|rfl|rfl|rfl|rfl<;>rfl
 have pc:∀a b,dh (cutD (ws.map .int) a b)=true:=λ a b=>oY (mX ws)
 have c8:∀a b a' b',aG8 (2*ws.length+1) (.tup (cutD (ws.map .int) a b++d4::cutD (ws.map .int) a' b')):=λ a b a' b'=>by
  refine oV (iy (pc a b) ?_) ?_
  ·simp only[dh,p4,pc,zFm]
  ·have:=cl a b;have:=cl a' b';simp;lia
 have c9:∀a b a' b',aG8 (2*ws.length+1) (.tup (cutD (ws.map .int) a b++cutD (ws.map .int) a' b')):=λ a b a' b'=>by
  refine oV (iy (pc a b) (pc a' b')) ?_
  have:=cl a b;have:=cl a' b';simp;lia
 simp only[gB,eN,bD,st];simp[-zH1,e0,e1,e2,e4,gt,gc,gr,z2,z3,z4,z5];refine aBe (by lia) (by simp;lia) λ d hd=>?_
 simp only[zAL,zAu,or_false]at hd;rcases hd with rfl|rfl|rfl|rfl|rfl|rfl|rfl|rfl|rfl|rfl
 ·exact c8 _ _ _ _
 ·exact c9 _ _ _ _
 ·exact c8 _ _ _ _
 ·exact oV (lY λ d hd=>du (mX ws) (zBv.mp hd)) (by simp;lia)
 ·exact⟨by simpa[pln]using mX ws,zAb _⟩
 ·exact oV (iy (mX ws) (pc _ _)) (by have:=cl none (some 1);simp;lia)
 ·exact c9 _ _ _ _
 ·exact⟨rfl,zAb _⟩
 ·exact⟨rfl,zAb _⟩
 ·exact oV (by simp[dh,pln,mX]) (by simp)
theorem aBU:∃d,ju [.int c]= .ok d/\pln d=true/\tz d<64:=by
 obtain⟨r0,e0,b0⟩:=iC (c:=c) (k:=90) (b:=16) (by decide) (by decide) (by decide) (by decide);have hpw:aGq (.int 10) (.int 20)= .ok (.int 100000000000000000000):=rfl;have st:bF 2 [.int c]=[.sh (.int c),.no]:=rfl;simp only[ju,jo,bD,st];simp[e0,hpw];refine aBe (by lia) (by simp;lia) λ d hd=>?_
 simp only[zAL,zAu,or_false]at hd;rcases hd with rfl|rfl|rfl|rfl|rfl|rfl|rfl|rfl|rfl|rfl|rfl|rfl|rfl|rfl|rfl|rfl<;>
  exact⟨rfl,by decide⟩
theorem aAP(l:List Int):jb (l.map .int)=true:=by
 induction l with
 |nil=>rfl
 |cons a l ih=>simp[jb,imm,ih]
theorem tR(l:List Int):imm (tupI l)=true:=by simp[tupI,imm,aAP]
theorem aCH(l:List Int):pln (tupI l)=true:=by
 have:∀l:List Int,dh (l.map .int)=true:=λ l=>by
  induction l with
  |nil=>rfl
  |cons a l ih=>simp[dh,pln,ih]
 simp[tupI,pln,this]
theorem pX(rws:List (List Int)):dh (rws.map tupI)=true:=lY λ d hd=>by
 obtain⟨r,_,rfl⟩:=zAm.mp hd;exact aCH r
theorem jL(h:dh l=true):pln (.tup l)=true:=by simpa[pln]using h
def El(e:D):Prop:=(∃i:Int,e= .int i)\/∃ws:List Int,e=tupI ws
theorem El.pln(h:El e):VL.My.pln e=true:=by
 rcases h with ⟨i,rfl⟩|⟨ws,rfl⟩
 ·rfl
 ·exact aCH ws
theorem El.imm(h:El e):VL.imm e=true:=by
 rcases h with ⟨i,rfl⟩|⟨ws,rfl⟩
 ·rfl
 ·exact tR ws
def bpI:En->Ou:=ifS (tst (op1 (eU "tuple") (aC 5)))
   (ig 6 (aN gB (aA (aC 0) (aA (op2 aW (aC 1) (cD (.int 1))) (aA (aC 5) (aA (aC 3) aF))))))
   (ig 6 (op2 ixD (cB (aA (cD (.int 0)) (aA (aP (aC 3)) (aA (cD (.bl true)) (aA (cD .non) (aA (op2 aW (aP (aC 5)) (cD (.int 1))) (aA (aZ (aA (aP (aC 5)) aF)) aF))))))) (aN aQ (aA (aC 0) (aA (op2 aW (aC 1) (cD (.int 1))) (aA (cD (.int 6)) aF))))))
theorem aM8(he:El e)(hl:rm e<=1000)(p0:0<=p)(p1:p<900):∃o,bpI [.sh (.int c),.sh (.int p),.sh (.tup l),.sh (.int m),.sh (.int r0),.sh e,.no,.no]= .nx [.sh (.int c),.sh (.int p),.sh (.tup l),.sh (.int m),.sh (.int r0),.sh e,.nw o,.no]/\aG8 (2*rm e+1) o:=by
 rcases he with ⟨i,rfl⟩|⟨ws,rfl⟩
 ·obtain⟨r1,e1,b1⟩:=iC (c:=c) (k:=p+1) (b:=6) (by lia) (by lia) (by decide) (by decide)
  obtain⟨d4,e4,m4,_⟩:=vH (l:=[.int 0,.int m,.bl true,.non,.int (i+1),.tup [.int i]]) (i:=(r1:Int)) (by lia) (by simpa using b1);refine⟨d4,?_,?_⟩
  ·have:eU "tuple" (.int i)= .ok (.bl false):=by rw[fC rfl];rfl
   unfold bpI;simp[this,e1,e4]
  ·simp only[zAL,zAu,or_false]at m4
   rcases m4 with rfl|rfl|rfl|rfl|rfl|rfl<;>exact⟨rfl,by simp[rm]⟩
 ·rw[aAL]at hl ⊢
  obtain⟨o,eo,ho⟩:=wD (c:=c) (p:=p+1) (m:=m) (ws:=ws) (by lia) (by lia) hl;refine⟨o,?_,ho⟩;unfold bpI tupI;simp[eo]
theorem o9:cF=aU (cP 4 (aN aQ (aA (aC 0) (aA (aC 1) (aA (op2 aW (opA bZ (aA (aC 2) aF)) (cD (.int 1))) aF)))))
  (aU (cP 5 (op2 ixD (op2 aW (aC 2) (aZ (aA (aZ aF) aF))) (aC 4)))
  (aU bpI
  (aU (fX 7 (cB (aA (op2 aW (op2 aW (aP (ao (aC 2) bK (bJ (aC 4)))) (aZ (aA (dU 6) aF))) (aP (ao (aC 2) (bJ (op2 aW (aC 4) (cD (.int 1)))) bK))) (aA (op2 aW (aP (ao (aC 2) bK (bJ (aC 4)))) (aP (ao (aC 2) (bJ (op2 aW (aC 4) (cD (.int 1)))) bK))) (aA (op2 aW (aP (aC 2)) (aP (ao (aC 2) bK (bJ (cD (.int 1)))))) aF)))))
  (aU (fX 7 (op2 aW (jz 7) (cB (aA (aP (op1 aCD (aC 2))) (aA (opA qe (aA (aP (aC 2)) aF)) (aA (aZ (aA (aP (aC 2)) aF)) (aA (cD .non) (aA (op2 aW (aP (aC 2)) (aZ (aA (aZ aF) aF))) aF))))))))
  (aU (gQ 7 (op2 aW (op2 aW (aP (ao (aC 2) bK (bJ (aC 4)))) (aZ (aA (dU 6) aF))) (aP (ao (aC 2) (bJ (aC 4)) bK))))
  (retS (op2 ixD (jz 7) (aN aQ (aA (aC 0) (aA (op2 aW (aC 1) (cD (.int 4))) (aA (cD (.int 9)) aF))))))))))):=rfl
theorem j7(hE:∀e∈l,El e)(p0:0<=p)(p1:p<900)(hl:sz (.tup l)<=1000):∃d,b7 [.int c,.int p,.tup l,.int m]= .ok d/\pln d=true/\sz d<=4*sz (.tup l)+3:=by
 have hll:=aHR l;obtain⟨r0,e0,b0⟩:=iC (c:=c) (k:=p) (b:=(l.length:Int)+1) (by lia) (by lia) (by lia) (by lia);obtain⟨r2,e2,b2⟩:=iC (c:=c) (k:=p+4) (b:=9) (by lia) (by lia) (by decide) (by decide);obtain⟨w,ew,mw,_⟩:=vH (l:=l++[.tup []]) (i:=(r0:Int)) (by lia) (by rw[zAX];simp;lia);have hw:El w/\rm w<=sz (.tup l):=by
  rcases zA4.mp mw with z|z
  ·exact⟨hE w z,aEo z⟩
  ·rw[zAR]at z
   subst z;exact⟨.inr ⟨[],rfl⟩,zAb _⟩
 obtain⟨o,eo,po,lo⟩:=aM8 (c:=c) (p:=p) (m:=m) (l:=l) (r0:=r0) hw.1 (by lia) p0 p1;have st:bF 8 [.int c,.int p,.tup l,.int m]=[.sh (.int c),.sh (.int p),.sh (.tup l),.sh (.int m),.no,.no,.no,.no]:=rfl;have il:jb l=true:=iz λ d hd=>(hE d hd).imm
 have pl:dh l=true:=lY λ d hd=>(hE d hd).pln
 have gt:lR (.tup l)= .ok (.tup l):=gJ (by simp only[imm];exact il);have gc:∀a b,lR (.tup (cutD l a b))= .ok (.tup (cutD l a b)):=λ a b=>gJ (by simp only[imm];exact iz λ d hd=>lD il (uF hd))
 have gr:lR (.tup l.reverse)= .ok (.tup l.reverse):=gJ (by simp only[imm];exact iz λ d hd=>lD il (zBv.mp hd));have cl:∀a b,(cutD l a b).length<=l.length:=λ a b=>yz _ _ _
 have z2:∀a b,(cutD l a b).length+1<=16777216:=λ a b=>by have:=cl a b;lia
 have z3:∀a b a' b',(cutD l a b).length+1+(cutD l a' b').length<=16777216:=λ a b a' b'=>by have:=cl a b;have:=cl a' b';lia
 have z4:∀a b,l.length+(cutD l a b).length<=16777216:=λ a b=>by have:=cl a b;lia
 have z5:∀a b a' b',(cutD l a b).length+(cutD l a' b').length<=16777216:=λ a b a' b'=>by have:=cl a b;have:=cl a' b';lia
 have z6:l.length+1<=16777216:=by lia
 have pc:∀a b,dh (cutD l a b)=true:=λ a b=>oY pl
 have a4:cP 4 (aN aQ (aA (aC 0) (aA (aC 1) (aA (op2 aW (opA bZ (aA (aC 2) aF)) (cD (.int 1))) aF)))) [.sh (.int c),.sh (.int p),.sh (.tup l),.sh (.int m),.no,.no,.no,.no]= .nx [.sh (.int c),.sh (.int p),.sh (.tup l),.sh (.int m),.sh (.int r0),.no,.no,.no]:=by simp[e0]
 have a5:cP 5 (op2 ixD (op2 aW (aC 2) (aZ (aA (aZ aF) aF))) (aC 4)) [.sh (.int c),.sh (.int p),.sh (.tup l),.sh (.int m),.sh (.int r0),.no,.no,.no]= .nx [.sh (.int c),.sh (.int p),.sh (.tup l),.sh (.int m),.sh (.int r0),.sh w,.no,.no]:=by simp[z6,ew]
 simp only[b7,o9,bD,st];rw[aO,a4,aq,aO,a5,aq,aO,eo,aq];simp[gQ,e2,gt,gc,gr,z2,z3,z4,z5,z6];have sc:=aKz l;have c8:∀a b a' b',pln (.tup (cutD l a b++o::cutD l a' b'))=true/\sz (.tup (cutD l a b++o::cutD l a' b'))<=4*sz (.tup l)+3:=λ a b a' b'=>by
  refine⟨?_,?_⟩
  ·refine jL ?_
   exact iy (pc a b) (by simp only[dh,po,pc,zFm])
  ·rw[uT,wL]
   have:=sc a b;have:=sc a' b'
   lia
 refine aBe (by lia) (by simp;lia) λ d hd=>?_
 simp only[zAL,zAu,or_false]at hd;rcases hd with rfl|rfl|rfl|rfl|rfl|rfl|rfl|rfl|rfl
 ·exact c8 _ _ _ _
 ·refine⟨by refine jL ?_;exact iy (pc _ _) (pc _ _),?_⟩
  rw[uT];have h1:=sc none (some (r0:Int));have h2:=sc (some ((r0:Int)+1)) none;lia
 ·refine⟨by refine jL ?_;exact iy pl (pc _ _),?_⟩
  rw[uT];have h1:=sc none (some 1);lia
 ·refine⟨by refine jL ?_;exact lY λ d hd=>du pl (zBv.mp hd),?_⟩
  rw[aKx];lia
 ·exact⟨by simpa[pln]using pl,zAb _⟩
 ·refine⟨by simp[pln,dh,pl],?_⟩
  rw[wL,aKy];show 1+l.length+0<=_;lia
 ·exact⟨rfl,zAb _⟩
 ·refine⟨by refine jL ?_;exact iy pl rfl,?_⟩
  rw[uT];show sz (.tup l)+1<=_;lia
 ·exact c8 _ _ _ _
def goG(B:D->Bool):D->Bool
 | .tup rs=>rs.all B&&jP HT.lexLt (rs.map rowOf)
 |_=>false
theorem aAC{B:D->Bool}(hB:∀d,B d=true->tupI (rowOf d)=d):∀{rs:List D},rs.all B=true->(rs.map rowOf).map tupI=rs
 |[],_=>rfl
 |d::rs,h=>by
  rw[zE0,zAN]at h;rw[zAH,zAH,hB d h.1,aAC hB h.2]
theorem wQ(h:g8 n ps d=true):tupI (rowOf d)=d:=by
 cases d with
 |tup ts=>
  show D.tup ((ts.map intOf).map .int)=D.tup ts;rw[(ur h).1]
 |_=>cases h
theorem xZ(h:gW n ps d=true):tupI (rowOf d)=d:=by
 cases d with
 |tup ts=>
  unfold gW at h;simp only[zAN]at h;exact wQ h.1.1.1
 |_=>cases h
def agT:List (Str×(List D->Rs D)):=[("goes_along",bR),("goes_round",eZ)]
def agL:En->Ou:=ifS (dW (tst (qx agT 2 (aA (aC 0) (aA (aC 3) aF))))) (retS (cD (.bl false))) Ou.nx
theorem zB:mz=aU (ifS (dW (tst (op1 (eU "tuple") (aC 1)))) (retS (cD (.bl false))) Ou.nx) (aU (fL (cC (aC 1)) (gnm 3) agL) (retS (aN dR (aA (aC 1) aF)))):=rfl
theorem aKI:qx agT 2 ga [a,b,.sh (.fn "goes_along"),c]=aN bR ga [a,b,.sh (.fn "goes_along"),c]:=by
 unfold qx
 have:aC 2 [a,b,.sh (.fn "goes_along"),c]= .ok (.fn "goes_along"):=rfl
 rw[this];simp only[fnOf,agT,List.lookup,beq_self_eq_true]
theorem aKH:qx agT 2 ga [a,b,.sh (.fn "goes_round"),c]=aN eZ ga [a,b,.sh (.fn "goes_round"),c]:=by
 unfold qx
 have:aC 2 [a,b,.sh (.fn "goes_round"),c]= .ok (.fn "goes_round"):=rfl
 have h:(("goes_round":Str)=="goes_along")=false:=by decide
 rw[this];simp only[fnOf,agT,List.lookup,beq_self_eq_true,h]
theorem aFF{B:D->Bool}{x:Str}{F:List D->Rs D}{ll:List (List D)}(hB:∀d,B d=true->tupI (rowOf d)=d)(hc:∀ga a b c,qx agT 2 ga [a,b,.sh (.fn x),c]=aN F ga [a,b,.sh (.fn x),c])
  (hF:∀d,pln d=true->aAo d=true->F [.lst (ll.map .lst),d]= .ok (.bl (B d)))(hp:pln d=true)(hs:aAn d=true):jV [.lst (ll.map .lst),d,.fn x]= .ok (.bl (goG B d)):=by
 cases d with
 |tup rs=>
  have hp':dh rs=true:=by simpa[pln]using hp
  simp only[aAn,zAN,decide_eq_true_eq]at hs;obtain⟨hl,hs⟩:=hs;have st:bF 4 [.lst (ll.map .lst),.tup rs,.fn x]=[.sh (.lst (ll.map .lst)),.sh (.tup rs),.sh (.fn x),.no]:=rfl;have b1:ifS (dW (tst (op1 (eU "tuple") (aC 1)))) (retS (cD (.bl false))) Ou.nx [.sh (.lst (ll.map .lst)),.sh (.tup rs),.sh (.fn x),.no]= .nx [.sh (.lst (ll.map .lst)),.sh (.tup rs),.sh (.fn x),.no]:=by simp
  have L:=jk (a:=gnm 3) (u:=agL) (r:=.bl false) rs (λ i=>match rs[i]? with|some t=>B t|none=>true) (λ ρ=>∃s,ρ=[.sh (.lst (ll.map .lst)),.sh (.tup rs),.sh (.fn x),s]) [.sh (.lst (ll.map .lst)),.sh (.tup rs),.sh (.fn x),.no] ⟨_,rfl⟩ (by
   rintro i d ρ hd ⟨s,rfl⟩;have hm:=zBB hd;have e:=hF d (du hp' hm) (zAp.mp hs d hm);simp only[hd];have hc:(dW (tst (qx agT 2 (aA (aC 0) (aA (aC 3) aF))))) [.sh (.lst (ll.map .lst)),.sh (.tup rs),.sh (.fn x),.sh d]= .ok (!B d):=by
    have hv:aA (aC 0) (aA (aC 3) aF) [.sh (.lst (ll.map .lst)),.sh (.tup rs),.sh (.fn x),.sh d]= .ok [.lst (ll.map .lst),d]:=by simp
    rw[nY,rB,hc,uJ,hv,aL,e,aL,aER,aL]
   have hg:okE (gnm 3 d [.sh (.lst (ll.map .lst)),.sh (.tup rs),.sh (.fn x),s]) agL=agL [.sh (.lst (ll.map .lst)),.sh (.tup rs),.sh (.fn x),.sh d]:=by rw[nZ,km];rfl
   rw[hg];unfold agL;rw[gf,hc,bu];cases c:B d with
   |true=>right;exact⟨_,rfl,⟨_,rfl⟩,rfl⟩
   |false=>left;exact⟨by simp,rfl⟩)
  have hfor:∀o,forL (gnm 3) agL rs [.sh (.lst (ll.map .lst)),.sh (.tup rs),.sh (.fn x),.no]=o->fL (cC (aC 1)) (gnm 3) agL [.sh (.lst (ll.map .lst)),.sh (.tup rs),.sh (.fn x),.no]=o:=λ o h=>by
   have hi:cC (aC 1) [.sh (.lst (ll.map .lst)),.sh (.tup rs),.sh (.fn x),.no]= .ok rs:=by simp
   rw[iB,hi,bu,h]
  simp only[jV,zB,bD,st];rw[aO,b1,aq,aO];rcases L with ⟨e,i,hi,o⟩|⟨ρ',e,⟨s,rfl⟩,o⟩
  ·have:rs.all B=false:=by
    rw[zEc];rw[zAC hi]at o;exact⟨rs[i],zCb hi,by simpa using o⟩
   rw[hfor _ e];simp[goG,this]
  ·have hall:rs.all B=true:=by
    rw[zAp];intro t ht;obtain⟨i,hi,rfl⟩:=zEP ht
    have:=o i hi
    rw[zAC hi]at this;exact this
   have er:=aCC (rws:=rs.map rowOf) (by rw[zAF];lia);rw[aAC hB hall]at er;rw[hfor _ e,aq];simp[er,goG,hall]
 |_=>
  have st:∀d,bF 4 [.lst (ll.map .lst),d,.fn x]=[.sh (.lst (ll.map .lst)),.sh d,.sh (.fn x),.no]:=λ _=>rfl
  simp only[jV,zB,bD,st];simp[fC (gH hp),dD,goG]
def tY:D->List Int
 | .tup l=>(l.map rowOf).flatten
 |_=>[]
def roB(n:Int)(ps:List (Int×Int)):D->Bool
 | .tup [a,r]=>(goG (g8 n ps) a&&goG (gW n ps) r)&&tE n (tY a++tY r)
 |_=>false
structure Fi2(d:D):Prop where
 pl:pln d=true
 sh:∀a r,d= .tup [a,r]->aAn a=true/\aAn r=true/\(tY a).length+(tY r).length<64
def irI:En->Ou:=ifS (orT (dW (tst (op1 (eU "tuple") (aC 1)))) (tsb (op2 (eqR true) (opA bZ (aA (aC 1) aF)) (cD (.int 2))))) (retS (cD (.bl false))) Ou.nx
def irA:En->Rs D:=aN jV (aA (aC 4) (aA (aC 2) (aA (cD (.fn "goes_along")) aF)))
def irR:En->Rs D:=aN jV (aA (aC 4) (aA (aC 3) (aA (cD (.fn "goes_round")) aF)))
def irO:En->Rs D:=aN jU (aA (op2 ixD (aC 0) (cD (.int 0))) (aA (op2 aW (aC 2) (aC 3)) aF))
theorem aBX:jH=aU (aCi (aN dJ (aA (aC 0) aF))) (aU irI (aU (aII (aC 1) (qQ 2 (dg (gnm 2) (dg (gnm 3) sE)))) (aU (cP 4 (aN jw (aA (aC 0) aF))) (retS (jD irA (jD irR irO)))))):=rfl
theorem aE5{l:List D}(hl:l.length≠2):roB n ps (.tup l)=false:=by
 unfold roB;split
 ·rename_i e
  cases e;exact absurd rfl hl
 ·rfl
theorem uy{B:D->Bool}(h:goG B d=true):∃rs,d= .tup rs:=by
 cases d with
 |tup l=>exact⟨l,rfl⟩
 |_=>cases h
theorem aHj{B:D->Bool}(h:goG B (.tup rs)=true):rs.all B=true:=by
 unfold goG at h;simp only[zAN]at h;exact h.1
theorem ou{n:Int}{ps:List (Int×Int)}(O:Ow n ps)(F:Fi2 d):cG [owD n ps,d]= .ok (.bl (roB n ps d)):=by
 have ck:=vG O;have st:bF 5 [owD n ps,d]=[.sh (owD n ps),.sh d,.no,.no,.no]:=rfl;have b0:aCi (aN dJ (aA (aC 0) aF)) [.sh (owD n ps),.sh d,.no,.no,.no]= .nx [.sh (owD n ps),.sh d,.no,.no,.no]:=by simp[ck]
 simp only[cG,aBX,bD,st];rw[aO,b0,aq,aO];cases d with
 |tup l=>
  by_cases hl:l.length=2
  ·match l,hl with
   |[a,r],_=>
    obtain⟨f1,f2,f3⟩:=F.sh a r rfl;have hpl:pln a=true/\pln r=true:=by
     have:=F.pl
     simpa[pln,dh]using this
    obtain⟨ll,et,N⟩:=aEJ O;have b1:irI [.sh (owD n ps),.sh (.tup [a,r]),.no,.no,.no]= .nx [.sh (owD n ps),.sh (.tup [a,r]),.no,.no,.no]:=by
     unfold irI;simp
    have b2:aII (aC 1) (qQ 2 (dg (gnm 2) (dg (gnm 3) sE))) [.sh (owD n ps),.sh (.tup [a,r]),.no,.no,.no]= .nx [.sh (owD n ps),.sh (.tup [a,r]),.sh a,.sh r,.no]:=by simp
    have b3:cP 4 (aN jw (aA (aC 0) aF)) [.sh (owD n ps),.sh (.tup [a,r]),.sh a,.sh r,.no]= .nx [.sh (owD n ps),.sh (.tup [a,r]),.sh a,.sh r,.sh (.lst (ll.map .lst))]:=by simp[et]
    have v1:irA [.sh (owD n ps),.sh (.tup [a,r]),.sh a,.sh r,.sh (.lst (ll.map .lst))]= .ok (.bl (goG (g8 n ps) a)):=by
     simp[irA,aFF (λ _=>wQ) (λ _ _ _ _=>aKI) (λ d hp hs=>qj O.n0 N hp hs) hpl.1 f1]
    have v2:irR [.sh (owD n ps),.sh (.tup [a,r]),.sh a,.sh r,.sh (.lst (ll.map .lst))]= .ok (.bl (goG (gW n ps) r)):=by
     simp[irR,aFF (λ _=>xZ) (λ _ _ _ _=>aKH) (λ d hp hs=>z7 O N hp hs) hpl.2 f2]
    rw[b1,aq,aO,b2,aq,aO,b3,aq,gw,gR,v1,aL,jB];unfold roB;dsimp only;cases h1:goG (g8 n ps) a with
    |false=>rfl
    |true=>
     rw[if_pos rfl,gR,v2,aL,jB];cases h2:goG (gW n ps) r with
     |false=>rfl
     |true=>
      obtain⟨as,rfl⟩:=uy h1;obtain⟨rs,rfl⟩:=uy h2;have ea:=aAC (λ _=>wQ) (aHj h1);have er:=aAC (λ _=>xZ) (aHj h2);have la:as.length<4000:=by simp[aAn]at f1;exact f1.1
      have lr:rs.length<4000:=by simp[aAn]at f2;exact f2.1
      have e:=aB2 (n:=n) (rws:=as.map rowOf++rs.map rowOf) O.n0 O.n1 (by rw[zCf,zAX];exact f3);rw[zCf,zAl,ea,er]at e;have z:as.length+rs.length<=16777216:=by lia
      have v3:irO [.sh (owD n ps),.sh (.tup [.tup as,.tup rs]),.sh (.tup as),.sh (.tup rs),.sh (.lst (ll.map .lst))]= .ok (.bl (tE n ((as.map rowOf).flatten++(rs.map rowOf).flatten))):=by
       simp[irO,owD,z,e]
      rw[if_pos rfl,v3];rfl
  ·have b1:irI [.sh (owD n ps),.sh (.tup l),.no,.no,.no]= .rt (.bl false):=by
    unfold irI
    have:¬(l.length:Int)=2:=by lia
    simp[this]
   rw[b1,aE5 hl];rfl
 |_=>
  unfold irI;simp[fC (gH F.pl),dD,roB]
theorem aFu{rws:List (List Int)}(h0:0<=n)(h1:n<=60)(hl:rws.flatten.length<64):gC [.tup (rws.map tupI),.int n]= .ok (.bl (tE n rws.flatten)):=by
 have st:bF 4 [.tup (rws.map tupI),.int n]=[.sh (.tup (rws.map tupI)),.sh (.int n),.no,.no]:=rfl;have L:∀(rs:List (List Int)) (acc:List Int) (s:Slot),acc.length+rs.flatten.length<64->∃s',forL (gnm 3) (z9 2 (aP (aC 3))) (rs.map tupI) [.sh (.tup (rws.map tupI)),.sh (.int n),.ow (.lst (acc.map .int)),s]= .nx [.sh (.tup (rws.map tupI)),.sh (.int n),.ow (.lst ((acc++rs.flatten).map .int)),s']:=by
  intro rs;induction rs with
  |nil=>intro acc s _;exact⟨s,by rw[zEx,zBX];rfl⟩
  |cons ns rs ih=>
   intro acc s hz;rw[zAi,zAX]at hz;obtain⟨s',e⟩:=ih (acc++ns) (.sh (tupI ns)) (by rw[zAX];lia);refine⟨s',?_⟩;rw[zAH,jm,zAi,<-zBc];have hg:okE (gnm 3 (tupI ns) [.sh (.tup (rws.map tupI)),.sh (.int n),.ow (.lst (acc.map .int)),s]) (λ ρ1=>(z9 2 (aP (aC 3)) ρ1).tn (forL (gnm 3) (z9 2 (aP (aC 3))) (rs.map tupI)))=
     (z9 2 (aP (aC 3)) [.sh (.tup (rws.map tupI)),.sh (.int n),.ow (.lst (acc.map .int)),.sh (tupI ns)]).tn (forL (gnm 3) (z9 2 (aP (aC 3))) (rs.map tupI)):=by
    rw[nZ,km];rfl
   have hv:aP (aC 3) [.sh (.tup (rws.map tupI)),.sh (.int n),.ow (.lst (acc.map .int)),.sh (tupI ns)]= .ok (tupI ns):=by
    have:imm (tupI ns)=true:=by
     have:∀l:List Int,jb (l.map .int)=true:=λ l=>by
      induction l with
      |nil=>rfl
      |cons a l ih=>simp[jb,imm,ih]
     simp[tupI,imm,this]
    simp[lR,this]
   have hx:z9 2 (aP (aC 3)) [.sh (.tup (rws.map tupI)),.sh (.int n),.ow (.lst (acc.map .int)),.sh (tupI ns)]= .nx [.sh (.tup (rws.map tupI)),.sh (.int n),.ow (.lst ((acc++ns).map .int)),.sh (tupI ns)]:=by
    unfold z9;dsimp only[zBR,zB5];rw[hv,bu];unfold aMZ tupI;dsimp only;rw[if_pos (by rw[zAF,zAF,zB9];lia),zAl];rfl
   rw[hg,hx,aGH];exact e
 obtain⟨s',e⟩:=L rws [] .no (by simpa using hl);have e0:fX 2 (cB aF) [.sh (.tup (rws.map tupI)),.sh (.int n),.no,.no]= .nx [.sh (.tup (rws.map tupI)),.sh (.int n),.ow (.lst (([]:List Int).map .int)),.no]:=by simp
 have hi:cC (aC 0) [.sh (.tup (rws.map tupI)),.sh (.int n),.ow (.lst (([]:List Int).map .int)),.no]= .ok (rws.map tupI):=by simp
 have hv:jC 2 [.sh (.tup (rws.map tupI)),.sh (.int n),.ow (.lst ((([]:List Int)++rws.flatten).map .int)),s']= .ok (.lst (rws.flatten.map .int)):=rfl;have hr:lrD (aC 1) [.sh (.tup (rws.map tupI)),.sh (.int n),.ow (.lst ((([]:List Int)++rws.flatten).map .int)),s']= .ok (.lst (bj 0 n)):=aHP (by simp) h0 h1;simp only[gC,eO,bD,st];rw[aO,e0,aq,aO,iB,hi,bu,e,aq,gw,dB,kj,bL,hv,aL,dG,aL,aL,zx hl,cN,aL,hr,aL,aEg];rfl
def lrT:En->Rs D:=opA (j6 λ bs=>bs.all id) (aA (lcD (cC (aC 1)) [none] (gnm 0) cJ (op1 (eU "tuple") (aC 0))) aF)
def lrI:En->Ou:=ifS (orT (dW (tst (op1 (eU "tuple") (aC 1)))) (orT (tsb (op2 (eqR true) (opA bZ (aA (aC 1) aF)) (cD (.int 2)))) (dW (tst lrT)))) (retS (cD (.bl false))) Ou.nx
def lrA:En->Rs D:=opA (j6 λ bs=>bs.all id) (aA (lcD (cC (op2 ixD (aC 1) (cD (.int 0)))) [none,some 0] (gnm 0) cJ (aN bx (aA (aC 1) (aA (aC 0) aF)))) aF)
def lrR:En->Rs D:=opA (j6 λ bs=>bs.all id) (aA (lcD (cC (op2 ixD (aC 1) (cD (.int 1)))) [none,some 0] (gnm 0) cJ (aN gA (aA (aC 1) (aA (aC 0) aF)))) aF)
def lrJ:En->Ou:=ifS (orT (dW (tst lrA)) (dW (tst lrR))) (retS (cD (.bl false))) Ou.nx
def lr1:En->Rs D:=aN dO (aA (op2 ixD (aC 1) (cD (.int 0))) aF)
def lr2:En->Rs D:=aN dO (aA (op2 ixD (aC 1) (cD (.int 1))) aF)
def lrO:En->Rs D:=aN gC (aA (op2 aW (op2 ixD (aC 1) (cD (.int 0))) (op2 ixD (aC 1) (cD (.int 1)))) (aA (op2 ixD (aC 0) (cD (.int 0))) aF))
theorem wA:fD=aU lrI (aU lrJ (retS (jD lr1 (jD lr2 lrO)))):=rfl
theorem aND(h:(dD a&&dD r)=false):roB n ps (.tup [a,r])=false:=by
 cases hs:roB n ps (.tup [a,r])with
 |false=>rfl
 |true=>
  unfold roB at hs;simp only[zAN]at hs;obtain⟨as,rfl⟩:=uy hs.1.1;obtain⟨rs,rfl⟩:=uy hs.1.2;cases h
theorem yM{n:Int}{ps:List (Int×Int)}(O:Ow n ps)(F:Fi2 d):gq [owD n ps,d]= .ok (.bl (roB n ps d)):=by
 have st:bF 2 [owD n ps,d]=[.sh (owD n ps),.sh d]:=rfl;simp only[gq,wA,bD,st];rw[aO];cases d with
 |tup l=>
  by_cases hl:l.length=2
  ·match l,hl with
   |[a,r],_=>
    obtain⟨f1,f2,f3⟩:=F.sh a r rfl;have hpl:pln a=true/\pln r=true:=by
     have:=F.pl
     simpa[pln,dh]using this
    have vT:lrT [.sh (owD n ps),.sh (.tup [a,r])]= .ok (.bl (dD a&&dD r)):=by
     have:=aEK (ρ:=[.sh (owD n ps),.sh (.tup [a,r])]) (fe:=lcD (cC (aC 1)) [none] (gnm 0) cJ (op1 (eU "tuple") (aC 0))) (f:=dD) (l:=[a,r]) (o8 (ds:=[a,r]) (by simp[shE,sY]) (by simp) (lu (fg:=gnm 0) (fe:=op1 (eU "tuple") (aC 0)) (g:=λ d=>.bl (dD d)) [a,r] λ d hd=>⟨_,rfl,by
      have hk:knd d=true:=by
       have:d=a\/d=r:=by simpa using hd
       rcases this with rfl|rfl
       ·exact gH hpl.1
       ·exact gH hpl.2
      simp[stE,fC hk]⟩))
     unfold lrT;rw[this];simp
    have b1:lrI [.sh (owD n ps),.sh (.tup [a,r])]=if (dD a&&dD r)=true then .nx [.sh (owD n ps),.sh (.tup [a,r])]else .rt (.bl false):=by
     have u1:dW (tst (op1 (eU "tuple") (aC 1))) [.sh (owD n ps),.sh (.tup [a,r])]= .ok false:=by simp
     have u2:tsb (op2 (eqR true) (opA bZ (aA (aC 1) aF)) (cD (.int 2))) [.sh (owD n ps),.sh (.tup [a,r])]= .ok false:=by simp
     unfold lrI;rw[gf,rT,u1,rT,u2,nY,rB,vT];cases (dD a&&dD r)<;>simp
    rw[b1];cases hT:(dD a&&dD r)with
    |false=>
     rw[aND hT];rfl
    |true=>
     simp only[zAN]at hT;obtain⟨as,rfl⟩:=xJ hT.1;obtain⟨rs,rfl⟩:=xJ hT.2;have hpa:dh as=true:=by simpa[pln]using hpl.1
     have hpr:dh rs=true:=by simpa[pln]using hpl.2
     simp only[aAn,zAN,decide_eq_true_eq]at f1 f2;have vA:lrA [.sh (owD n ps),.sh (.tup [.tup as,.tup rs])]= .ok (.bl (as.all (g8 n ps))):=
      aEK (o8 (ds:=as) (by simp[shE,sY]) (by lia) (lu (fg:=gnm 0) (fe:=aN bx (aA (aC 1) (aA (aC 0) aF))) (g:=λ d=>.bl (g8 n ps d)) as λ d hd=>⟨_,rfl,by
       simp[stE,shE,sY,tO O (du hpa hd) (zAp.mp f1.2 d hd)]⟩))
     have vR:lrR [.sh (owD n ps),.sh (.tup [.tup as,.tup rs])]= .ok (.bl (rs.all (gW n ps))):=
      aEK (o8 (ds:=rs) (by simp[shE,sY]) (by lia) (lu (fg:=gnm 0) (fe:=aN gA (aA (aC 1) (aA (aC 0) aF))) (g:=λ d=>.bl (gW n ps d)) rs λ d hd=>⟨_,rfl,by
       simp[stE,shE,sY,aBS O (du hpr hd) (zAp.mp f2.2 d hd)]⟩))
     have b2:lrJ [.sh (owD n ps),.sh (.tup [.tup as,.tup rs])]=if (as.all (g8 n ps)&&rs.all (gW n ps))=true then .nx [.sh (owD n ps),.sh (.tup [.tup as,.tup rs])]else .rt (.bl false):=by
      unfold lrJ;rw[gf,rT,nY,rB,vA,nY,rB,vR];cases as.all (g8 n ps)<;>cases rs.all (gW n ps)<;>simp
     rw[if_pos rfl,aq,aO,b2];have er:roB n ps (.tup [.tup as,.tup rs])=((as.all (g8 n ps)&&rs.all (gW n ps))&&(jP HT.lexLt (as.map rowOf)&&(jP HT.lexLt (rs.map rowOf)&&tE n (tY (.tup as)++tY (.tup rs))))):=by
      unfold roB goG;dsimp only;cases as.all (g8 n ps)<;>cases rs.all (gW n ps)<;>cases jP HT.lexLt (as.map rowOf)<;>cases jP HT.lexLt (rs.map rowOf)<;>rfl
     rw[er];cases hc:(as.all (g8 n ps)&&rs.all (gW n ps))with
     |false=>rfl
     |true=>
      simp only[zAN]at hc;have ea:=aAC (λ _=>wQ) hc.1;have er:=aAC (λ _=>xZ) hc.2;have r1:=nu (rws:=as.map rowOf) (by rw[zAF];lia);have r2:=nu (rws:=rs.map rowOf) (by rw[zAF];lia);have e:=aFu (n:=n) (rws:=as.map rowOf++rs.map rowOf) O.n0 O.n1 (by rw[zCf,zAX];exact f3);rw[zCf,zAl,ea,er]at e;rw[ea]at r1;rw[er]at r2;have z:as.length+rs.length<=16777216:=by lia
      have u1:lr1 [.sh (owD n ps),.sh (.tup [.tup as,.tup rs])]= .ok (.bl (jP HT.lexLt (as.map rowOf))):=by simp[lr1,r1]
      have u2:lr2 [.sh (owD n ps),.sh (.tup [.tup as,.tup rs])]= .ok (.bl (jP HT.lexLt (rs.map rowOf))):=by simp[lr2,r2]
      have u3:lrO [.sh (owD n ps),.sh (.tup [.tup as,.tup rs])]= .ok (.bl (tE n ((as.map rowOf).flatten++(rs.map rowOf).flatten))):=by simp[lrO,owD,z,e]
      rw[if_pos rfl,aq,gw,gR,u1,aL,jB,gR,u2,aL,jB,u3];show _=Rs.ok (D.bl (true&&(jP HT.lexLt (as.map rowOf)&&(jP HT.lexLt (rs.map rowOf)&&tE n ((as.map rowOf).flatten++(rs.map rowOf).flatten)))));cases jP HT.lexLt (as.map rowOf)<;>cases jP HT.lexLt (rs.map rowOf)<;>simp
  ·have b1:lrI [.sh (owD n ps),.sh (.tup l)]= .rt (.bl false):=by
    unfold lrI
    have:¬(l.length:Int)=2:=by lia
    simp[this]
   rw[b1,aE5 hl];rfl
 |_=>
  unfold lrI;simp[fC (gH F.pl),dD,roB]
def upI(n:Int):List Int:=(zAc n.toNat).map λ(k:Nat)=>(k:Int)
theorem aDS(n:Int):bj 0 n=(upI n).map .int:=by
 unfold bj upI;rw[zAw,show(n-0).toNat=n.toNat by lia];exact zDR λ k _=>by simp
theorem xG(n:Int):(upI n).Nodup:=by
 unfold upI;rw[List.nodup_iff_pairwise_ne,List.pairwise_map];exact zH3.imp λ h e=>h (by lia)
theorem aBL{x n:Int}:x∈upI n↔0<=x/\x<n:=by
 unfold upI;rw[zAm];constructor
 ·rintro⟨k,hk,rfl⟩
  have:=zBy.mp hk
  lia
 ·rintro⟨h0,h1⟩
  exact⟨x.toNat,zBy.mpr (by lia),by lia⟩
theorem qz(n:Int):(upI n).length=n.toNat:=by unfold upI;simp
theorem sU{es:List (Int×Int)}{v:Int}:∀{ws:List Int} (h:ws≠[]),fM es ws=true->(ws.getLast h,v)∈es->fM es (ws++[v])=true
 |[a],_,_,h2=>by simpa[fM]using h2
 |a::b::r,_,h1,h2=>by
  simp only[fM,zAN,decide_eq_true_eq]at h1
  have:=sU (ws:=b::r) (by simp) h1.2 (by simpa using h2)
  rw[zHY,zHY,fM,zAN,decide_eq_true_eq];exact⟨h1.1,by simpa using this⟩
theorem xn{left ws:List Int}(h1:left.Nodup)(h2:ws.Nodup)(h3:∀w∈ws,w∈left):(ws++left.filter λ x=>!decide (x∈ws)).Perm left:=by
 rw[List.perm_ext_iff_of_nodup]
 ·intro a
  rw[zA4,zBK];constructor
  ·rintro(h|h)
   ·exact h3 a h
   ·exact h.1
  ·intro h
   by_cases hw:a∈ws
   ·exact .inl hw
   ·exact .inr ⟨h,by simp[hw]⟩
 ·rw[zBC]
  refine⟨h2,h1.filter _,λ a ha b hb e=>?_⟩;subst e
  have:=(zBK.mp hb).2
  simp[ha]at this
 ·exact h1
theorem aHs(l:List Int):eqR true (.lst (l.map .int)) (.lst [])= .ok (.bl (!l.isEmpty)):=by
 obtain⟨h1,h2⟩:=pL l;have e:eqD (.lst (l.map .int)) (.lst [])=l.isEmpty:=by cases l<;>simp[eqD,qT]
 unfold eqR;rw[if_pos (by simp[qU,bM,bV,h1,h2]),e];rfl
theorem aH1{c:En->Rs Bool}{b:En->Ou}{I:Nat->En->Prop}(st:∀m ρ,I m ρ->c ρ= .ok false\/(c ρ= .ok true/\∃ρ' m',b ρ= .nx ρ'/\m'<m/\I m' ρ')):
  ∀(n m:Nat) (ρ:En),m<n->I m ρ->∃ρ' m',itW c b n ρ= .nx ρ'/\I m' ρ'/\c ρ'= .ok false
 |0,_,_,h,_=>absurd h (zHq _)
 |n+1,m,ρ,h,hI=>by
  rcases st m ρ hI with e|⟨e,ρ',m',e2,hm,hI'⟩
  ·exact⟨ρ,m,by unfold itW;rw[e];rfl,hI,e⟩
  ·obtain⟨ρ2,m2,e3,r⟩:=aH1 st n m' ρ' (by lia) hI'
   refine⟨ρ2,m2,?_,r⟩;unfold itW;rw[e,bu,if_pos rfl,e2];exact e3
theorem ww{c:En->Rs Bool}{b:En->Ou}(I:Nat->En->Prop)(st:∀m ρ,I m ρ->c ρ= .ok false\/(c ρ= .ok true/\∃ρ' m',b ρ= .nx ρ'/\m'<m/\I m' ρ')){m:Nat}{ρ:En}(hm:m<1000000)(h:I m ρ):
  ∃ρ' m',mF c b ρ= .nx ρ'/\I m' ρ'/\c ρ'= .ok false:=aH1 st fuel m ρ hm h
theorem aHr(qs:List (Int×Int)):eqR false (.lst (qs.map pD)) (.lst [])= .ok (.bl qs.isEmpty):=by
 obtain⟨h1,h2⟩:=vC qs;have e:eqD (.lst (qs.map pD)) (.lst [])=qs.isEmpty:=by cases qs<;>simp[eqD,qT]
 have h3:decide (iV (qs.map pD)+1<=60)=true:=by simp;omega
 unfold eqR;simp[bM,bV,qU,iV,h2,e];omega
theorem aN9{ps:List (Int×D)}{i:Int}{neg:Bool}:aB3 neg (.int i) (aCk ps)= .ok (.bl (neg !=(ps.lookup i).isSome)):=by
 unfold aB3 aCk;dsimp only;rw[ug]
theorem aN7{ps:List (Int×D)}{i:Int}{d:D}(h:ps.lookup i=some d):sI (aCk ps) (.int i)= .ok d:=by
 unfold sI aCk;dsimp only;rw[ug];dsimp only;rw[h]
theorem aGk{ps:List (Int×D)}{i:Int}{d:D}(h:i∉ps.map (·.1)):aD2 ps i d=ps++[(i,d)]:=by
 unfold aD2;rw[if_neg];rw[zDk];rintro⟨p,hp,e⟩;exact h (zAm.mpr ⟨p,hp,of_decide_eq_true e⟩)
theorem aAV:∀{qs acc:List (Int×D)},(acc.map (·.1)++qs.map (·.1)).Nodup->yd acc qs=acc++qs
 |[],acc,_=>by simp[yd]
 |q::qs,acc,h=>by
  have hn:q.1∉acc.map (·.1):=λ hm=>by
   rw[zBC]at h;exact h.2.2 _ hm _ (by simp) rfl
  have e:yd acc (q::qs)=yd (aD2 acc q.1 q.2) qs:=rfl;rw[e,aGk hn,aAV (by simpa using h)];simp
theorem aCK{i j:Nat}{l m:List Int}(hf:f (shE ρ)= .ok (l.map .int))(hs:stE js (shE ρ)=[.no,.sh (.tup (m.map .int))]\/stE js (shE ρ)=[.no,.sh (.lst (m.map .int))])(hl:l.length<=1000):
  lcD f js (gnm 0) (tsb (op2 (inR true) (aC 0) (aC 1))) (aP (aC 0)) ρ= .ok (.lst ((l.filter λ x=>!decide (x∈m)).map .int)):=by
 refine o8 hf (by rw[zAF];lia) ?_;rcases hs with hs|hs<;>rw[hs]
 ·refine tM (fg:=gnm 0) (f:=D.int) (g:=D.int) (t:=λ x=>!decide (x∈m)) l λ x _=>⟨[.sh (.int x),.sh (.tup (m.map .int))],rfl,?_,by simp⟩
  have a2:aC 1 [.sh (.int x),.sh (.tup (m.map .int))]= .ok (.tup (m.map .int)):=rfl;have a3:aC 0 [.sh (.int x),.sh (.tup (m.map .int))]= .ok (.int x):=rfl;rw[oJ,dB,a3,aL,a2,aL,aH6,cN,aL];rfl
 ·refine tM (fg:=gnm 0) (f:=D.int) (g:=D.int) (t:=λ x=>!decide (x∈m)) l λ x _=>⟨[.sh (.int x),.sh (.lst (m.map .int))],rfl,?_,by simp⟩
  have a2:aC 1 [.sh (.int x),.sh (.lst (m.map .int))]= .ok (.lst (m.map .int)):=rfl;have a3:aC 0 [.sh (.int x),.sh (.lst (m.map .int))]= .ok (.int x):=rfl;rw[oJ,dB,a3,aL,a2,aL,wV,cN,aL];rfl
def dpC:En->Rs D:=lcD (cC (aC 2)) [none,some 4] (gnm 0) (orT (tsb (op2 (eqR false) (op2 ixD (aC 0) (cD (.int 0))) (op2 ixD (aC 1) (cD (.int 0))))) (tsb (op2 (eqR false) (op2 ixD (aC 0) (cD (.int 1))) (op2 ixD (aC 1) (cD (.int 1)))))) (aP (aC 0))
def dpL:En->Ou:=ifS (tsb (op2 gtD (aN aQ (aA (aC 0) (aA (op2 aW (cD (.int 60)) (op2 qO (aC 3) (cD (.int 40)))) (aA (cD (.int 3)) aF)))) (cD (.int 0))))
    (ifS (tsb (op2 (eqR false) dpC (cB aF)))
     (gQ 2 (aP (aC 4)))
     Ou.nx)
    Ou.nx
theorem wI:cT=aU (fX 2 (cB aF))
  (aU (fL (cY aHu (aA (op2 ixD (aC 1) (cD (.int 1))) aF)) (qQ 2 (dg (gnm 3) (dg (gnm 4) sE))) dpL)
  (retS (opA bz (aA (jz 2) aF)))):=rfl
structure Dp(ps qs:List (Int×Int)):Prop where
 sub:qs.Sublist ps
 u1:(qs.map (·.1)).Nodup
 u2:(qs.map (·.2)).Nodup
theorem aM3{c n:Int}{ps qs:List (Int×Int)}{p:Int×Int}{s3:Slot}(h:qs.length<=3600):dpC [.sh (.int c),.sh (owD n ps),.ow (.lst (qs.map pD)),s3,.sh (pD p)]= .ok (.lst ((qs.filter λ q=>(q.1==p.1)||(q.2==p.2)).map pD)):=by
 refine o8 (ds:=qs.map pD) rfl (by rw[zAF];omega) (tM qs λ q hq=>⟨_,rfl,?_,rfl⟩);show orT (tsb (op2 (eqR false) (op2 ixD (aC 0) (cD (.int 0))) (op2 ixD (aC 1) (cD (.int 0))))) (tsb (op2 (eqR false) (op2 ixD (aC 0) (cD (.int 1))) (op2 ixD (aC 1) (cD (.int 1))))) [.sh (pD q),.sh (pD p)]=_;simp[pD];by_cases e:q.1=p.1<;>simp[e]
theorem aET{f:Int×Int->Int}{qs:List (Int×Int)}{p:Int×Int}(h:(qs.map f).Nodup)(hf:∀q∈qs,f q≠f p):((qs++[p]).map f).Nodup:=by
 rw[zAl,zBC];refine⟨h,by simp,λ a ha b hb=>?_⟩;obtain⟨q,hq,rfl⟩:=zAm.mp ha;rw[zAH,zEl,zAR]at hb;rw[hb];exact hf q hq
theorem aM2{c n:Int}{ps qs:List (Int×Int)}{p:Int×Int}{k:Nat}(h:qs.length<=3600)(u1:(qs.map (·.1)).Nodup)(u2:(qs.map (·.2)).Nodup):∃qs':List (Int×Int),dpL [.sh (.int c),.sh (owD n ps),.ow (.lst (qs.map pD)),.sh (.int k),.sh (pD p)]= .nx [.sh (.int c),.sh (owD n ps),.ow (.lst (qs'.map pD)),.sh (.int k),.sh (pD p)]/\(qs'=qs\/qs'=qs++[p])/\(qs'.map (·.1)).Nodup/\(qs'.map (·.2)).Nodup:=by
 obtain⟨r,e,b⟩:=iC (c:=c) (k:=60+(k:Int)%40) (b:=3) (by omega) (by omega) (by decide) (by decide);have ec:=aM3 (c:=c) (n:=n) (ps:=ps) (qs:=qs) (p:=p) (s3:=.sh (.int k)) h;have em:=mZ (i:=(k:Int)) (j:=40) (by decide);have e1:tsb (op2 gtD (aN aQ (aA (aC 0) (aA (op2 aW (cD (.int 60)) (op2 qO (aC 3) (cD (.int 40)))) (aA (cD (.int 3)) aF)))) (cD (.int 0))) [.sh (.int c),.sh (owD n ps),.ow (.lst (qs.map pD)),.sh (.int k),.sh (pD p)]= .ok (decide (0<(r:Int))):=by simp[em,e]
 have e2:tsb (op2 (eqR false) dpC (cB aF)) [.sh (.int c),.sh (owD n ps),.ow (.lst (qs.map pD)),.sh (.int k),.sh (pD p)]= .ok (qs.filter λ q=>(q.1==p.1)||(q.2==p.2)).isEmpty:=by
  rw[oJ,dB,ec,aL]
  show(okD (eqR false (.lst ((qs.filter λ q=>(q.1==p.1)||(q.2==p.2)).map pD)) (.lst []))).bd blD=_
  rw[aHr];rfl
 have e3:gQ 2 (aP (aC 4)) [.sh (.int c),.sh (owD n ps),.ow (.lst (qs.map pD)),.sh (.int k),.sh (pD p)]= .nx [.sh (.int c),.sh (owD n ps),.ow (.lst ((qs++[p]).map pD)),.sh (.int k),.sh (pD p)]:=by
  have hz:(qs.map pD).length<zAT:=by rw[zAF,szl];omega
  have g:aP (aC 4) [.sh (.int c),.sh (owD n ps),.ow (.lst (qs.map pD)),.sh (.int k),.sh (pD p)]= .ok (pD p):=rfl;unfold gQ
  show((aP (aC 4) [.sh (.int c),.sh (owD n ps),.ow (.lst (qs.map pD)),.sh (.int k),.sh (pD p)]).bo _)=_
  rw[g,bu,if_pos hz,zAl];rfl
 unfold dpL;rw[gf,e1,bu];cases decide (0<(r:Int))with
 |false=>exact⟨qs,rfl,.inl rfl,u1,u2⟩
 |true=>
  rw[if_pos rfl,gf,e2,bu];cases hf:(qs.filter λ q=>(q.1==p.1)||(q.2==p.2)).isEmpty with
  |false=>exact⟨qs,rfl,.inl rfl,u1,u2⟩
  |true=>
   rw[List.isEmpty_iff,List.filter_eq_nil_iff]at hf;refine⟨qs++[p],by rw[if_pos rfl];exact e3,.inr rfl,aET u1 λ q hq e=>hf q hq (by simp[e]),aET u2 λ q hq e=>hf q hq (by simp[e])⟩
theorem rz{c n:Int}{ps:List (Int×Int)}(O:Ow n ps):∃qs:List (Int×Int),cU [.int c,owD n ps]= .ok (.tup (qs.map pD))/\Dp ps qs:=by
 have pl:=O.len;have st:bF 5 [.int c,owD n ps]=[.sh (.int c),.sh (owD n ps),.no,.no,.no]:=rfl;have hel:(za (ps.map pD)).length=ps.length:=by simp[za]
 obtain⟨ρ',e,s3,s4,qs,rfl,hq,u1,u2⟩:=gn (a:=qQ 2 (dg (gnm 3) (dg (gnm 4) sE))) (u:=dpL) (za (ps.map pD))
  (λ i ρ=>∃s3 s4,∃qs:List (Int×Int),ρ=[.sh (.int c),.sh (owD n ps),.ow (.lst (qs.map pD)),s3,s4]/\qs.Sublist (ps.take i)/\(qs.map (·.1)).Nodup/\(qs.map (·.2)).Nodup) [.sh (.int c),.sh (owD n ps),.ow (.lst []),.no,.no] ⟨.no,.no,[],rfl,by simp,by simp,by simp⟩ (by
   rintro i d ρ hd ⟨s3,s4,qs,rfl,hq,u1,u2⟩;have hi:=(zAI.mp hd).1;have hi2:i<ps.length:=by omega
   unfold za at hd;rw[zAU,zGX,zAU,zAC hi2]at hd;simp only[zCT,zF9]at hd;subst hd;have hle:=hq.length_le;rw[zBQ]at hle;obtain⟨qs',e1,hc,v1,v2⟩:=aM2 (c:=c) (n:=n) (ps:=ps) (qs:=qs) (p:=ps[i]) (k:=0+i) (by omega) u1 u2;refine⟨_,e1,_,_,qs',rfl,?_,v1,v2⟩;rw[List.take_succ_eq_append_getElem hi2];rcases hc with rfl|rfl
   ·exact hq.trans (List.sublist_append_left _ _)
   ·exact hq.append (List.Sublist.refl _))
 rw[hel,zH5]at hq;refine⟨qs,?_,hq,u1,u2⟩;simp only[cU,wI,bD,st];have hf:fL (cY aHu (aA (op2 ixD (aC 1) (cD (.int 1))) aF)) (qQ 2 (dg (gnm 3) (dg (gnm 4) sE))) dpL [.sh (.int c),.sh (owD n ps),.ow (.lst []),.no,.no]= .nx [.sh (.int c),.sh (owD n ps),.ow (.lst (qs.map pD)),s3,s4]:=by
  have hi:cY aHu (aA (op2 ixD (aC 1) (cD (.int 1))) aF) [.sh (.int c),.sh (owD n ps),.ow (.lst []),.no,.no]= .ok (za (ps.map pD)):=rfl;rw[iB,hi,bu,e]
 have h0:fX 2 (cB aF) [.sh (.int c),.sh (owD n ps),.no,.no,.no]= .nx [.sh (.int c),.sh (owD n ps),.ow (.lst []),.no,.no]:=by simp
 rw[aO,h0,aq,aO,hf,aq];simp
def dq(qs:List (Int×Int)):D:=aCk (qs.map λ q=>(q.1,.int q.2))
theorem aDj(a:Int):∀qs:List (Int×Int),(qs.map λ q=>(q.1,D.int q.2)).lookup a=(qs.lookup a).map .int
 |[]=>rfl
 |q::qs=>by
  rw[zAH,zAj,zAj,aDj a qs];cases a==q.1<;>rfl
theorem yG{a b:Int}:∀{qs:List (Int×Int)},qs.lookup a=some b->(a,b)∈qs
 |q::qs,h=>by
  rw[zAj]at h;cases e:a==q.1 with
  |true=>
   rw[e]at h;cases h;rw[show a=q.1 by simpa using e];exact zAQ
  |false=>
   rw[e]at h;exact zAJ _ (yG h)
theorem aBP{a b:Int}:∀{qs:List (Int×Int)},qs.lookup a=none->(a,b)∉qs
 |[],_,h=>nomatch h
 |q::qs,hn,h=>by
  rw[zAj]at hn;cases e:a==q.1 with
  |true=>rw[e]at hn;cases hn
  |false=>
   rw[e]at hn;rcases zAL.mp h with z|z
   ·rw[<-z]at e
    simp at e
   ·exact aBP hn z
theorem xK{qs:List (Int×Int)}{a b y:Int}(u:(qs.map (·.2)).Nodup)(h1:(a,y)∈qs)(h2:(b,y)∈qs):a=b:=congrArg zFC (ph u _ h1 _ h2 rfl)
theorem yc{qs:List (Int×Int)}{a y z:Int}(u:(qs.map (·.1)).Nodup)(h1:(a,y)∈qs)(h2:(a,z)∈qs):y=z:=congrArg zGs (ph u _ h1 _ h2 rfl)
theorem yP(w:List Int)(y:Int):(w++[y]).getLastD 0=y:=by simp
theorem pq{w:List Int}(h:w≠[]):w.getLast h=w.getLastD 0:=by
 rw[zCa,List.getLast?_eq_some_getLast h];rfl
theorem aAS{w:List Int}(h:w≠[])(y:Int):(w++[y]).headD 0=w.headD 0:=by
 cases w with
 |nil=>exact absurd rfl h
 |cons a w=>rfl
structure Wk(n:Int)(qs:List (Int×Int))(fl w:List Int)(s t:Int):Prop where
 nd:(fl++w).Nodup
 rg:∀x∈fl++w,0<=x/\x<n
 ne:w≠[]
 hd:w.headD 0=s
 lt:w.getLastD 0=t
 al:fM qs w=true
 pr:∀a b,(a,b)∈qs->b∈fl++w->a∈fl++w/\a≠t
 bk:∀x∈w,x=s\/∃a,(a,x)∈qs
 sc:∀a b,(a,b)∈qs->a∈w->a≠t->b∈w
theorem Wk.start{n s:Int}{qs:List (Int×Int)}{fl:List Int}(nd:fl.Nodup)(rg:∀x∈fl,0<=x/\x<n)(s0:0<=s)(s1:s<n)(hs:s∉fl)(no:∀a,(a,s)∉qs)(pr:∀a b,(a,b)∈qs->b∈fl->a∈fl):Wk n qs fl [s] s s where
 nd:=by
  rw[zBC];refine⟨nd,by simp,λ a ha b hb e=>?_⟩;rw[zAR.mp hb]at e;subst e;exact hs ha
 rg:=λ x hx=>by
  rcases zA4.mp hx with h|h
  ·exact rg x h
  ·rw[zAR.mp h];exact⟨s0,s1⟩
 ne:=by simp
 hd:=rfl
 lt:=rfl
 al:=rfl
 pr:=λ a b h hb=>by
  rcases zA4.mp hb with z|z
  ·have:=pr a b h z
   exact⟨zA6 _ this,λ e=>by subst e;exact hs this⟩
  ·rw[zAR.mp z]at h
   exact absurd h (no a)
 bk:=λ x hx=>.inl (zAR.mp hx)
 sc:=λ a b _ ha hn=>absurd (zAR.mp ha) hn
theorem Wk.step{n s t y:Int}{qs:List (Int×Int)}{fl w:List Int}(W:Wk n qs fl w s t)(u1:(qs.map (·.1)).Nodup)(u2:(qs.map (·.2)).Nodup)(h:(t,y)∈qs)(y0:0<=y)(y1:y<n):Wk n qs fl (w++[y]) s y where
 nd:=by
  have hy:y∉fl++w:=λ hm=>(W.pr t y h hm).2 rfl
  rw[<-zBc,zBC];refine⟨W.nd,by simp,λ a ha b hb e=>?_⟩;rw[zAR.mp hb]at e;subst e;exact hy ha
 rg:=λ x hx=>by
  rw[<-zBc]at hx;rcases zA4.mp hx with z|z
  ·exact W.rg x z
  ·rw[zAR.mp z];exact⟨y0,y1⟩
 ne:=by simp
 hd:=by rw[aAS W.ne];exact W.hd
 lt:=yP _ _
 al:=sU W.ne W.al (by rw[pq W.ne,W.lt];exact h)
 pr:=λ a b hab hb=>by
  have hy:y∉fl++w:=λ hm=>(W.pr t y h hm).2 rfl
  rw[<-zBc]at hb ⊢;rcases zA4.mp hb with z|z
  ·obtain⟨h1,h2⟩:=W.pr a b hab z
   exact⟨zA6 _ h1,λ e=>by subst e;exact hy h1⟩
  ·rw[zAR.mp z]at hab
   have e:=xK u2 hab h;subst e;have ht:a∈fl++w:=zA5 _ (by rw[<-W.lt,<-pq W.ne];exact zHZ W.ne);exact⟨zA6 _ ht,λ e=>by subst e;exact hy ht⟩
 bk:=λ x hx=>by
  rcases zA4.mp hx with z|z
  ·exact W.bk x z
  ·rw[zAR.mp z];exact .inr ⟨t,h⟩
 sc:=λ a b hab ha hn=>by
  rcases zA4.mp ha with z|z
  ·by_cases c:a=t
   ·subst c
    rw[yc u1 hab h];simp
   ·exact zA6 _ (W.sc a b hab z c)
  ·exact absurd (zAR.mp z) hn
theorem aHQ{n:Int}{l:List Int}(nd:l.Nodup)(rg:∀x∈l,0<=x/\x<n):l.length<=n.toNat:=by
 have:=nd.length_le_of_subset (l₂:=upI n) λ x hx=>aBL.mpr (rg x hx)
 rwa [qz]at this
structure Rk(qs:List (Int×Int))(L w:List Int)(r t:Int):Prop where
 nd:w.Nodup
 sb:∀x∈w,x∈L
 ne:w≠[]
 hd:w.headD 0=r
 lt:w.getLastD 0=t
 al:fM qs w=true
 pr:∀a b,(a,b)∈qs->b∈w->b≠r->a∈w/\a≠t
theorem Rk.last{qs:List (Int×Int)}{L w:List Int}{r t:Int}(R:Rk qs L w r t):t∈w:=by rw[<-R.lt,<-pq R.ne];exact zHZ R.ne
theorem Rk.step{qs:List (Int×Int)}{L w:List Int}{r t y:Int}(R:Rk qs L w r t)(u2:(qs.map (·.2)).Nodup)(h:(t,y)∈qs)(hr:y≠r)(hy:y∈L):Rk qs L (w++[y]) r y:=by
 have hn:y∉w:=λ hm=>(R.pr t y h hm hr).2 rfl
 refine⟨?_,λ x hx=>?_,by simp,by rw[aAS R.ne];exact R.hd,yP _ _,sU R.ne R.al (by rw[pq R.ne,R.lt];exact h),λ a b hab hb hbr=>?_⟩
 ·rw[zBC]
  refine⟨R.nd,by simp,λ a ha b hb e=>?_⟩;rw[zAR.mp hb]at e;subst e;exact hn ha
 ·rcases zA4.mp hx with z|z
  ·exact R.sb x z
  ·rw[zAR.mp z];exact hy
 ·rcases zA4.mp hb with z|z
  ·obtain⟨h1,h2⟩:=R.pr a b hab z hbr
   exact⟨zA6 _ h1,λ e=>by subst e;exact hn h1⟩
  ·rw[zAR.mp z]at hab
   have e:=xK u2 hab h;subst e;exact⟨zA6 _ R.last,λ e=>by subst e;exact hn R.last⟩
def Sc(qs:List (Int×Int))(L:List Int):Prop:=∀x∈L,∃y∈L,(x,y)∈qs
theorem Rk.rest{qs:List (Int×Int)}{L w:List Int}{r t:Int}(R:Rk qs L w r t)(u1:(qs.map (·.1)).Nodup)(u2:(qs.map (·.2)).Nodup)(h:(t,r)∈qs)(S:Sc qs L):Sc qs (L.filter λ x=>!decide (x∈w)):=λ x hx=>by
 rw[zBK]at hx;obtain⟨y,hy,e⟩:=S x hx.1;have hxw:x∉w:=by simpa using hx.2
 refine⟨y,zBK.mpr ⟨hy,?_⟩,e⟩
 have:y∉w:=λ hm=>by
  by_cases c:y=r
  ·subst c
   have:=xK u2 e h
   subst this;exact hxw R.last
  ·exact hxw (R.pr x y e hm c).1
 simpa using this
theorem aNC{qs:List (Int×Int)}{L:List Int}(u1:(qs.map (·.1)).Nodup)(u2:(qs.map (·.2)).Nodup)(nd:L.Nodup)(h:∀x∈L,∃a∈L,(a,x)∈qs):Sc qs L:=λ x hx=>by
 by_cases c:∃y,(x,y)∈qs
 ·obtain⟨y,e⟩:=c
  by_cases hy:y∈L
  ·exact⟨y,hy,e⟩
  ·exfalso
   have h1:L.length<=((qs.filter λ q=>decide (q.2∈L)).map (·.2)).length:=nd.length_le_of_subset λ z hz=>by
    obtain⟨a,_,e⟩:=h z hz;exact zAm.mpr ⟨(a,z),zBK.mpr ⟨e,by simpa using hz⟩,rfl⟩
   have h2:((qs.filter λ q=>decide (q.2∈L)).map (·.1)).length<=(L.erase x).length:=zEK ((zF8 _ zGa).nodup u1) λ z hz=>by
    obtain⟨q,hq,rfl⟩:=zAm.mp hz;rw[zBK]at hq;have hq2:q.2∈L:=by simpa using hq.2
    obtain⟨a,ha,e2⟩:=h _ hq2
    have:=xK u2 e2 hq.1
    subst this;rw[nd.mem_erase_iff];exact⟨λ z=>hy (by rw[yc u1 e (by rw[<-z];exact hq.1)];exact hq2),ha⟩
   rw[zAF]at h1 h2;rw[zDb hx]at h2
   have:=zDp hx
   lia
 ·exfalso
  have h1:L.length<=((qs.filter λ q=>decide (q.2∈L)).map (·.2)).length:=nd.length_le_of_subset λ z hz=>by
   obtain⟨a,_,e⟩:=h z hz;exact zAm.mpr ⟨(a,z),zBK.mpr ⟨e,by simpa using hz⟩,rfl⟩
  have h2:((qs.filter λ q=>decide (q.2∈L)).map (·.1)).length<=(L.erase x).length:=zEK ((zF8 _ zGa).nodup u1) λ z hz=>by
   obtain⟨q,hq,rfl⟩:=zAm.mp hz;rw[zBK]at hq;have hq2:q.2∈L:=by simpa using hq.2
   obtain⟨a,ha,e2⟩:=h _ hq2
   have:=xK u2 e2 hq.1
   subst this;rw[nd.mem_erase_iff];exact⟨λ z=>c ⟨q.2,by rw[<-z];exact hq.1⟩,ha⟩
  rw[zAF]at h1 h2;rw[zDb hx]at h2
  have:=zDp hx
  lia
theorem ye:∀{l:List (List Int)},(∀r∈l,r≠[])->l.length<=l.flatten.length:=by
 intro l;induction l with
 |nil=>intro _;simp
 |cons a l ih=>
  intro h;have h1:0<a.length:=zDQ.mpr (h a zAQ)
  have:=ih λ x hx=>h x (zAJ _ hx)
  rw[zAi,zAX,zA8];lia
theorem aNa{qs:List (Int×Int)}(u1:(qs.map (·.1)).Nodup):v7 [.tup (qs.map pD)]= .ok (dq qs):=by
 have h2:aD3 (qs.map pl)=some qs:=by
  clear u1;induction qs with
  |nil=>rfl
  |cons q qs ih=>
   rw[zAH]
   show(match aD3 (qs.map pl)with|some r=>some ((q.1,q.2)::r)|none=>none)=_
   rw[ih]
 unfold v7;dsimp only;rw[zq];dsimp only;rw[h2];dsimp only;rw[aAV (by simpa[zGM]using u1)];rfl
theorem aMj{qs:List (Int×Int)}{i:Int}:zG true (.int i) (dq qs)= .ok (.bl (!(qs.map (·.2)).any (·==i))):=by
 unfold zG dq aCk;dsimp only;have h2:intsOf ((qs.map λ q=>(q.1,D.int q.2)).map (·.2))=some (qs.map (·.2)):=by
  rw[zAw,show((λ x:Int×D=>x.2)∘λ q:Int×Int=>(q.1,D.int q.2))=(D.int∘λ q=>q.2)from rfl,<-zAw];exact fZ _
 rw[ug,h2];dsimp only;cases (qs.map (·.2)).any (·==i)<;>rfl
abbrev pcE(n:Int)(ps qs:List (Int×Int))(wys rgs:List (List Int))(left:List Int)(s6 s7 s8:Slot):En:=
 [.sh (owD n ps),.sh (.tup (qs.map pD)),.nw (dq qs),.ow (.lst (wys.map tupI)),.ow (.lst (rgs.map tupI)),.nw (.lst (left.map .int)),s6,s7,s8]
def pcX:En->Rs D:=op2 ixD (jC 7) (op1 mY (cD (.int 1)))
def pcW:En->Rs Bool:=tsb (op2 (aB3 false) pcX (dU 2))
def pcB:En->Ou:=gQ 7 (op2 sI (dU 2) pcX)
def pcF:En->Ou:=ig 5 (lcD (cC (aC 5)) [none,some 7] (gnm 0) (tsb (op2 (inR true) (aC 0) (aC 1))) (aP (aC 0)))
def pcL:En->Ou:=ifS (tsb (op2 (zG true) (aC 6) (dU 2))) (aU (fX 7 (cB (aA (aP (aC 6)) aF))) (aU (mF pcW pcB) (aU (gQ 3 (aP (opA bz (aA (jC 7) aF)))) pcF))) Ou.nx
def rcX:En->Rs D:=op2 ixD (jC 8) (op1 mY (cD (.int 1)))
def rcW:En->Rs Bool:=tsb (op2 (eqR true) (op2 sI (dU 2) rcX) (op2 ixD (jC 8) (cD (.int 0))))
def rcB:En->Ou:=gQ 8 (op2 sI (dU 2) rcX)
def rcF:En->Ou:=ig 5 (lcD (cC (aC 5)) [none,some 8] (gnm 0) (tsb (op2 (inR true) (aC 0) (aC 1))) (aP (aC 0)))
def rcL:En->Ou:=aU (fX 8 (cB (aA (op2 ixD (dU 5) (cD (.int 0))) aF))) (aU (mF rcW rcB) (aU (gQ 4 (aP (opA bz (aA (jC 8) aF)))) rcF))
def rcC:En->Rs Bool:=tsb (op2 (eqR true) (dU 5) (cB aF))
theorem aD6:gM=aU (ig 2 (opA v7 (aA (aC 1) aF))) (aU (fX 3 (cB aF)) (aU (fX 4 (cB aF)) (aU (ig 5 (lrD (op2 ixD (aC 0) (cD (.int 0)))))
  (aU (fL (cY fU (aA (op2 ixD (aC 0) (cD (.int 0))) aF)) (gnm 6) pcL) (aU (mF rcC rcL)
  (retS (aZ (aA (opA bz (aA (jz 3) aF)) (aA (opA bz (aA (jz 4) aF)) aF))))))))):=rfl
section
variable{n:Int}{ps qs:List (Int×Int)}{wys rgs:List (List Int)}{left:List Int}{s6 s7 s8:Slot}
theorem aN8{i:Int}:aB3 false (.int i) (dq qs)= .ok (.bl (qs.lookup i).isSome):=by
 unfold dq;rw[aN9,aDj];cases qs.lookup i<;>rfl
theorem aKi{i y:Int}(h:qs.lookup i=some y):sI (dq qs) (.int i)= .ok (.int y):=aN7 (by rw[aDj,h];rfl)
theorem aOG{w:List Int}{y:Int}{f:En->Rs D}(hl:w.length<=60)(hf:f (pcE n ps qs wys rgs left s6 (.ow (.lst (w.map .int))) s8)= .ok (.int y)):
  gQ 7 f (pcE n ps qs wys rgs left s6 (.ow (.lst (w.map .int))) s8)= .nx (pcE n ps qs wys rgs left s6 (.ow (.lst ((w++[y]).map .int))) s8):=by
 have hz:(w.map D.int).length<zAT:=by rw[zAF,szl];lia
 unfold gQ;dsimp only[zBR,zB5];rw[hf,bu,if_pos hz,zAl];rfl
theorem aOF{w:List Int}{y:Int}{f:En->Rs D}(hl:w.length<=60)(hf:f (pcE n ps qs wys rgs left s6 s7 (.ow (.lst (w.map .int))))= .ok (.int y)):
  gQ 8 f (pcE n ps qs wys rgs left s6 s7 (.ow (.lst (w.map .int))))= .nx (pcE n ps qs wys rgs left s6 s7 (.ow (.lst ((w++[y]).map .int)))):=by
 have hz:(w.map D.int).length<zAT:=by rw[zAF,szl];lia
 unfold gQ;dsimp only[zBR,zB5];rw[hf,bu,if_pos hz,zAl];rfl
theorem aKl{fl w:List Int}{s t:Int}(hn:n<=60)(u1:(qs.map (·.1)).Nodup)(u2:(qs.map (·.2)).Nodup)(rq:∀p∈qs,0<=p.2/\p.2<n)(W:Wk n qs fl w s t):
  ∃w' t',mF pcW pcB (pcE n ps qs wys rgs left s6 (.ow (.lst (w.map .int))) s8)= .nx (pcE n ps qs wys rgs left s6 (.ow (.lst (w'.map .int))) s8)/\Wk n qs fl w' s t'/\qs.lookup t'=none:=by
 have hx:∀{w t},Wk n qs fl w s t->pcX (pcE n ps qs wys rgs left s6 (.ow (.lst (w.map .int))) s8)= .ok (.int t):=λ{w t} W=>by
  have h:=W.lt;rw[zCa]at h;unfold pcX;simp[wY rfl W.ne,h]
 have hc:∀{w t},Wk n qs fl w s t->pcW (pcE n ps qs wys rgs left s6 (.ow (.lst (w.map .int))) s8)= .ok (qs.lookup t).isSome:=λ{w t} W=>by
  unfold pcW;rw[oJ,dB,hx W,aL]
  show(okD (aB3 false (.int t) (dq qs))).bd blD=_
  rw[aN8];rfl
 obtain⟨ρ',m',e,⟨w',t',rfl,W',_⟩,ec⟩:=ww (c:=pcW) (b:=pcB) (λ m ρ=>∃w t,ρ=pcE n ps qs wys rgs left s6 (.ow (.lst (w.map .int))) s8/\Wk n qs fl w s t/\m=61-(fl++w).length) (by
  rintro m ρ ⟨w,t,rfl,W,rfl⟩;rw[hc W];cases hl:qs.lookup t with
  |none=>exact .inl rfl
  |some y=>
   have hm:=yG hl;obtain⟨y0,y1⟩:=rq _ hm;have W':=W.step u1 u2 hm y0 y1;have l1:=aHQ W.nd W.rg;have l2:=aHQ W'.nd W'.rg;have l3:w.length<=60:=by rw[zAX]at l1;lia
   refine .inr ⟨rfl,_,61-(fl++(w++[y])).length,aOG l3 ?_,?_,w++[y],y,rfl,W',rfl⟩
   ·rw[dB]
    show((Rs.ok (dq qs)).bd λ x=>(pcX (pcE n ps qs wys rgs left s6 (.ow (.lst (w.map .int))) s8)).bd λ z=>okD (sI x z))=_
    rw[aL,hx W,aL,aKi hl];rfl
   ·simp only[zAX,zA8,zAy]at l2 ⊢
    lia) (m:=61-(fl++w).length) (by lia) ⟨w,t,rfl,W,rfl⟩
 refine⟨w',t',e,W',?_⟩;rw[hc W']at ec;cases h:qs.lookup t' with
 |none=>rfl
 |some y=>rw[h]at ec;cases ec
theorem aIt{L w:List Int}{r t:Int}(hL:L.length<=60)(u1:(qs.map (·.1)).Nodup)(u2:(qs.map (·.2)).Nodup)(S:Sc qs L)(R:Rk qs L w r t):
  ∃w' t',mF rcW rcB (pcE n ps qs wys rgs left s6 s7 (.ow (.lst (w.map .int))))= .nx (pcE n ps qs wys rgs left s6 s7 (.ow (.lst (w'.map .int))))/\Rk qs L w' r t'/\(t',r)∈qs:=by
 have hy:∀{w t},Rk qs L w r t->∃y∈L,(t,y)∈qs/\qs.lookup t=some y:=λ{w t} R=>by
  obtain⟨y,h1,h2⟩:=S t (R.sb t R.last);cases hl:qs.lookup t with
  |none=>exact absurd h2 (aBP hl)
  |some z=>rw[yc u1 (yG hl) h2];exact⟨y,h1,h2,rfl⟩
 have hx:∀{w t},Rk qs L w r t->rcX (pcE n ps qs wys rgs left s6 s7 (.ow (.lst (w.map .int))))= .ok (.int t):=λ{w t} R=>by
  have h:=R.lt;rw[zCa]at h;unfold rcX;simp[wY rfl R.ne,h]
 have hd:∀{w t y},Rk qs L w r t->qs.lookup t=some y->op2 sI (dU 2) rcX (pcE n ps qs wys rgs left s6 s7 (.ow (.lst (w.map .int))))= .ok (.int y):=λ{w t y} R hl=>by
  rw[dB]
  show((Rs.ok (dq qs)).bd λ x=>(rcX (pcE n ps qs wys rgs left s6 s7 (.ow (.lst (w.map .int))))).bd λ z=>okD (sI x z))=_
  rw[aL,hx R,aL,aKi hl];rfl
 have hc:∀{w t y},Rk qs L w r t->qs.lookup t=some y->rcW (pcE n ps qs wys rgs left s6 s7 (.ow (.lst (w.map .int))))= .ok (!(y==r)):=λ{w t y} R hl=>by
  have h0:op2 ixD (jC 8) (cD (.int 0)) (pcE n ps qs wys rgs left s6 s7 (.ow (.lst (w.map .int))))= .ok (.int r):=by
   have h1:=R.ne;have h2:=R.hd;cases w with
   |nil=>exact absurd rfl h1
   |cons a w=>
    have h3:atD ((a::w).map D.int) 0= .ok (.int a):=iD (k:=0) rfl;rw[zAH]at h3;rw[<-h2];simp[h3]
  unfold rcW;rw[oJ,dB,hd R hl,aL,h0,aL];simp
 obtain⟨ρ',m',e,⟨w',t',rfl,R',_⟩,ec⟩:=ww (c:=rcW) (b:=rcB) (λ m ρ=>∃w t,ρ=pcE n ps qs wys rgs left s6 s7 (.ow (.lst (w.map .int)))/\Rk qs L w r t/\m=61-w.length) (by
  rintro m ρ ⟨w,t,rfl,R,rfl⟩;obtain⟨y,h1,h2,hl⟩:=hy R;rw[hc R hl];by_cases c:y=r
  ·exact .inl (by simp[c])
  ·have R':=R.step u2 h2 c h1
   have l1:w.length<=L.length:=R.nd.length_le_of_subset R.sb;have l2:(w++[y]).length<=L.length:=R'.nd.length_le_of_subset R'.sb;refine .inr ⟨by simpa using c,_,61-(w++[y]).length,aOF (by lia) (hd R hl),?_,w++[y],y,rfl,R',rfl⟩;rw[zAX,zA8,zAy]at l2 ⊢;lia) (m:=61-w.length) (by lia) ⟨w,t,rfl,R,rfl⟩
 refine⟨w',t',e,R',?_⟩;obtain⟨y,h1,h2,hl⟩:=hy R';rw[hc R' hl]at ec
 have:y=r:=by simpa using ec
 rw[<-this];exact h2
end
structure Pi(n:Int)(qs:List (Int×Int))(i:Nat)(wys:List (List Int)):Prop where
 nd:wys.flatten.Nodup
 rg:∀x∈wys.flatten,0<=x/\x<n
 pr:∀a b,(a,b)∈qs->b∈wys.flatten->a∈wys.flatten
 sc:∀a b,(a,b)∈qs->a∈wys.flatten->b∈wys.flatten
 st:∀x:Int,0<=x->x<i->(∀a,(a,x)∉qs)->x∈wys.flatten
 lo:∀x∈wys.flatten,(∀a,(a,x)∉qs)->x<i
 al:∀w∈wys,w≠[]/\fM qs w=true/\(∀a,(a,w.headD 0)∉qs)
 hs:wys.map (·.headD 0)=(upI i).filter λ x=>!(qs.map (·.2)).any (·==x)
theorem aEP(i:Nat):upI ((i+1:Nat):Int)=upI (i:Int)++[(i:Int)]:=by
 unfold upI;rw[zBf,zBf,zFM,zAl];rfl
section
variable{n:Int}{ps qs:List (Int×Int)}{wys rgs:List (List Int)}{s6 s7 s8:Slot}
theorem aNW{i:Int}(h:(qs.map (·.2)).any (·==i)=false)(a:Int):(a,i)∉qs:=λ hm=>by
 rw[zHE]at h;exact h i (zAm.mpr ⟨(a,i),hm,rfl⟩) (by simp)
theorem aNZ{i:Int}(h:(qs.map (·.2)).any (·==i)=true):∃a,(a,i)∈qs:=by
 rw[zDk]at h;obtain⟨j,hj,e⟩:=h;obtain⟨q,hq,rfl⟩:=zAm.mp hj;rw[<-(show q.2=i by simpa using e)];exact⟨q.1,hq⟩
theorem aCu{w:List Int}(k:Nat)(rows:List (List Int)){f:En->Rs D}{ρ:En}(hk:ρ[k]? =some (.ow (.lst (rows.map tupI))))(hl:rows.length<=1000)(hf:f ρ= .ok (.lst (w.map .int))):
  gQ k (aP (opA bz (aA f aF))) ρ= .nx (ρ.set k (.ow (.lst ((rows++[w]).map tupI)))):=by
 have hz:(rows.map tupI).length<zAT:=by rw[zAF,szl];lia
 have g:aP (opA bz (aA f aF)) ρ= .ok (tupI w):=by
  have hi:lR (tupI w)= .ok (tupI w):=gJ (tR w);have hA:opA bz (aA f aF) ρ= .ok (tupI w):=by
   rw[kj,bL,hf,aL,dG,aL,aL];rfl
  show(opA bz (aA f aF) ρ).bd lR=_
  rw[hA,aL,hi]
 unfold gQ;rw[hk];dsimp only;rw[g,bu,if_pos hz,zAl];rfl
theorem aJz{l a b:List Int}:(l.filter λ x=>!decide (x∈a)).filter (λ x=>!decide (x∈b))=l.filter λ x=>!decide (x∈a++b):=by
 rw[List.filter_filter];refine List.filter_congr λ x _=>?_
 by_cases h1:x∈a<;>by_cases h2:x∈b<;>simp[h1,h2]
theorem aLc{i:Nat}(n0:0<=n)(hn:n<=60)(hi:(i:Int)<n)(u1:(qs.map (·.1)).Nodup)(u2:(qs.map (·.2)).Nodup)(rq:∀p∈qs,0<=p.2/\p.2<n)(P:Pi n qs i wys):
  ∃wys' s7',pcL (pcE n ps qs wys [] ((upI n).filter λ x=>!decide (x∈wys.flatten)) (.sh (.int i)) s7 .no)= .nx (pcE n ps qs wys' [] ((upI n).filter λ x=>!decide (x∈wys'.flatten)) (.sh (.int i)) s7' .no)/\Pi n qs (i+1) wys':=by
 have hv:tsb (op2 (zG true) (aC 6) (dU 2)) (pcE n ps qs wys [] ((upI n).filter λ x=>!decide (x∈wys.flatten)) (.sh (.int i)) s7 .no)= .ok (!(qs.map (·.2)).any (·==(i:Int))):=by
  rw[oJ,dB]
  show(((Rs.ok (D.int i)).bd λ x=>(Rs.ok (dq qs)).bd λ y=>okD (zG true x y)).bd blD)=_
  rw[aL,aL,aMj];rfl
 unfold pcL;rw[gf,hv,bu];cases hc:(qs.map (·.2)).any (·==(i:Int))with
 |true=>
  refine⟨wys,s7,rfl,P.nd,P.rg,P.pr,P.sc,λ x x0 x1 no=>?_,λ x hx no=>?_,P.al,?_⟩
  ·by_cases e:x=i
   ·subst e
    obtain⟨a,ha⟩:=aNZ hc;exact absurd ha (no a)
   ·exact P.st x x0 (by lia) no
  ·have:=P.lo x hx no
   lia
  ·rw[aEP,zGm,P.hs,zEw,if_neg (by rw[hc];exact zA2)]
   simp
 |false=>
  have no:=aNW hc;have hni:(i:Int)∉wys.flatten:=λ h=>by have:=P.lo _ h no;lia
  have W0:=Wk.start (n:=n) (qs:=qs) P.nd P.rg (by lia) hi hni no P.pr;obtain⟨w,t,e1,W,ht⟩:=aKl (ps:=ps) (wys:=wys) (rgs:=[]) (left:=(upI n).filter λ x=>!decide (x∈wys.flatten)) (s6:=.sh (.int i)) (s8:=.no) hn u1 u2 rq W0;have hwl:wys.length<=60:=by
   have h1:=congrArg zFK P.hs;rw[zAF]at h1;rw[h1]
   have:=zGO (λ x=>!(qs.map (·.2)).any (·==x)) (upI (i:Int))
   rw[qz]at this;lia
  have e0:fX 7 (cB (aA (aP (aC 6)) aF)) (pcE n ps qs wys [] ((upI n).filter λ x=>!decide (x∈wys.flatten)) (.sh (.int i)) s7 .no)= .nx (pcE n ps qs wys [] ((upI n).filter λ x=>!decide (x∈wys.flatten)) (.sh (.int i)) (.ow (.lst ([(i:Int)].map .int))) .no):=by simp[gJ]
  have e2:=aCu (w:=w) 3 wys (f:=jC 7) (ρ:=pcE n ps qs wys [] ((upI n).filter λ x=>!decide (x∈wys.flatten)) (.sh (.int i)) (.ow (.lst (w.map .int))) .no) rfl (by lia) rfl;have e3:pcF (pcE n ps qs (wys++[w]) [] ((upI n).filter λ x=>!decide (x∈wys.flatten)) (.sh (.int i)) (.ow (.lst (w.map .int))) .no)= .nx (pcE n ps qs (wys++[w]) [] ((upI n).filter λ x=>!decide (x∈(wys++[w]).flatten)) (.sh (.int i)) (.ow (.lst (w.map .int))) .no):=by
   have hl:((upI n).filter λ x=>!decide (x∈wys.flatten)).length<=1000:=by
    have:=zGO (λ x=>!decide (x∈wys.flatten)) (upI n)
    rw[qz]at this;lia
   have h:=aCK (i:=0) (j:=0) (f:=cC (aC 5)) (js:=[none,some 7]) (ρ:=pcE n ps qs (wys++[w]) [] ((upI n).filter λ x=>!decide (x∈wys.flatten)) (.sh (.int i)) (.ow (.lst (w.map .int))) .no) (l:=(upI n).filter λ x=>!decide (x∈wys.flatten)) (m:=w) (by simp[shE,sY]) (.inr rfl) hl;unfold pcF;rw[aAq,h,bu,aJz];simp
  refine⟨wys++[w],.ow (.lst (w.map .int)),?_,?_⟩
  ·rw[show(!false)=true from rfl,if_pos rfl,aO,e0,aq,aO,e1,aq,aO,e2,aq]
   exact e3
  ·have ef:(wys++[w]).flatten=wys.flatten++w:=by simp
   refine⟨by rw[ef];exact W.nd,by rw[ef];exact W.rg,by rw[ef];exact λ a b h hb=>(W.pr a b h hb).1,?_,?_,?_,?_,?_⟩
   ·rw[ef]
    intro a b h ha;rcases zA4.mp ha with z|z
    ·exact zA6 _ (P.sc a b h z)
    ·by_cases c:a=t
     ·subst c
      exact absurd h (aBP ht)
     ·exact zA5 _ (W.sc a b h z c)
   ·rw[ef]
    intro x x0 x1 no;by_cases e:x=i
    ·subst e
     refine zA5 _ ?_;have h1:=W.ne;have h2:=W.hd;cases w with
     |nil=>exact absurd rfl h1
     |cons a w=>rw[<-h2];exact zAQ
    ·exact zA6 _ (P.st x x0 (by lia) no)
   ·rw[ef]
    intro x hx no;rcases zA4.mp hx with z|z
    ·have:=P.lo x z no
     lia
    ·rcases W.bk x z with e|⟨a,ha⟩
     ·rw[e];lia
     ·exact absurd ha (no a)
   ·intro v hv
    rcases zA4.mp hv with z|z
    ·exact P.al v z
    ·rw[zAR.mp z]
     exact⟨W.ne,W.al,by rw[W.hd];exact no⟩
   ·rw[aEP,zGm,zAl,P.hs,zEw,if_pos (by rw[hc];rfl)]
    show _++[w.headD 0]=_;rw[W.hd];rfl
end
structure Pc(n:Int)(qs:List (Int×Int))(wys rgs:List (List Int)):Prop where
 pi:Pi n qs n.toNat wys
 rn:∀r∈rgs,r≠[]
 sz:wys.flatten.length+rgs.flatten.length<=n.toNat
theorem aFW{n:Int}{ps qs:List (Int×Int)}(O:Ow n ps)(Q:Dp ps qs):∃wys rgs,gU [owD n ps,.tup (qs.map pD)]= .ok (.tup [.tup (wys.map tupI),.tup (rgs.map tupI)])/\Pc n qs wys rgs:=by
 have rq:∀p∈qs,0<=p.1/\p.1<n/\0<=p.2/\p.2<n:=λ p hp=>by have:=O.pr p (Q.sub.subset hp);exact⟨this.1,this.2.1,this.2.2.1,this.2.2.2.1⟩
 have n0:=O.n0;have n1:=O.n1;obtain⟨ρ1,e1,wys,s6,s7,rfl,P⟩:=gn (a:=gnm 6) (u:=pcL) (bj 0 n) (λ i ρ=>∃wys s6 s7,ρ=pcE n ps qs wys [] ((upI n).filter λ x=>!decide (x∈wys.flatten)) s6 s7 .no/\Pi n qs i wys)
  (pcE n ps qs [] [] (upI n) .no .no .no) ⟨[],.no,.no,by rw[show((upI n).filter λ x=>!decide (x∈([]:List (List Int)).flatten))=upI n by simp],by
   refine⟨by simp,by simp,by simp,by simp,λ x x0 x1=>by lia,by simp,by simp,rfl⟩⟩ (by
   rintro i d ρ hd ⟨wys,s6,s7,rfl,P⟩;obtain⟨rfl,hi⟩:=kY hd;rw[zGW]at hi ⊢;obtain⟨wys',s7',e,P'⟩:=aLc (ps:=ps) (s7:=s7) n0 n1 hi Q.u1 Q.u2 (λ p hp=>(rq p hp).2.2) P;exact⟨_,e,wys',_,s7',rfl,P'⟩)
 have hln:(bj 0 n).length=n.toNat:=by rw[aDS,zAF,qz]
 rw[hln]at P;have hL:Sc qs ((upI n).filter λ x=>!decide (x∈wys.flatten)):=aNC Q.u1 Q.u2 ((xG n).filter _) λ x hx=>by
  rw[zBK,aBL]at hx;have hxf:x∉wys.flatten:=by simpa using hx.2
  by_cases c:∃a,(a,x)∈qs
  ·obtain⟨a,ha⟩:=c
   refine⟨a,zBK.mpr ⟨aBL.mpr ⟨(rq _ ha).1,(rq _ ha).2.1⟩,?_⟩,ha⟩
   have:a∉wys.flatten:=λ h=>hxf (P.sc a x ha h)
   simpa using this
  ·exact absurd (P.st x hx.1.1 (by lia) λ a ha=>c ⟨a,ha⟩) hxf
 have hlen:wys.flatten.length+((upI n).filter λ x=>!decide (x∈wys.flatten)).length<=n.toNat:=by
  have:=(xn (xG n) P.nd λ w hw=>aBL.mpr (P.rg w hw)).length_eq
  rw[zAX,qz]at this;lia
 have hcq:∀{rgs:List (List Int)} {left:List Int} {s6 s7 s8:Slot},rcC (pcE n ps qs wys rgs left s6 s7 s8)= .ok (!left.isEmpty):=λ{rgs left s6 s7 s8}=>by
  unfold rcC;rw[oJ,dB]
  show(((Rs.ok (D.lst (left.map .int))).bd λ x=>(Rs.ok (D.lst [])).bd λ y=>okD (eqR true x y)).bd blD)=_
  rw[aL,aL,aHs];rfl
 obtain⟨ρ2,m2,e2,⟨rgs,left,s8,rfl,S,nd,hr,hz,_⟩,ec⟩:=ww (c:=rcC) (b:=rcL) (λ m ρ=>∃rgs left s8,ρ=pcE n ps qs wys rgs left s6 s7 s8/\Sc qs left/\left.Nodup/\(∀r∈rgs,r≠[])/\wys.flatten.length+rgs.flatten.length+left.length<=n.toNat/\m=left.length) (by
  rintro m ρ ⟨rgs,left,s8,rfl,S,nd,hr,hz,rfl⟩;rw[hcq];cases left with
  |nil=>exact .inl rfl
  |cons r0 left=>
   have R0:Rk qs (r0::left) [r0] r0 r0:=⟨by simp,λ x hx=>by rw[zAR.mp hx];exact zAQ,by simp,rfl,rfl,rfl,λ a b _ hb hn=>absurd (zAR.mp hb) hn⟩;obtain⟨w,t,e,R,ht⟩:=aIt (n:=n) (ps:=ps) (wys:=wys) (rgs:=rgs) (left:=r0::left) (s6:=s6) (s7:=s7) (by lia) Q.u1 Q.u2 S R0;have hfl:=ye hr;have a0:fX 8 (cB (aA (op2 ixD (dU 5) (cD (.int 0))) aF)) (pcE n ps qs wys rgs (r0::left) s6 s7 s8)= .nx (pcE n ps qs wys rgs (r0::left) s6 s7 (.ow (.lst ([r0].map .int)))):=by
    have h3:atD ((r0::left).map D.int) 0= .ok (.int r0):=iD (k:=0) rfl;rw[zAH]at h3;simp[h3]
   have a2:=aCu (w:=w) 4 rgs (f:=jC 8) (ρ:=pcE n ps qs wys rgs (r0::left) s6 s7 (.ow (.lst (w.map .int)))) rfl (by lia) rfl;have a3:rcF (pcE n ps qs wys (rgs++[w]) (r0::left) s6 s7 (.ow (.lst (w.map .int))))= .nx (pcE n ps qs wys (rgs++[w]) ((r0::left).filter λ x=>!decide (x∈w)) s6 s7 (.ow (.lst (w.map .int)))):=by
    have h:=aCK (i:=0) (j:=0) (f:=cC (aC 5)) (js:=[none,some 8]) (ρ:=pcE n ps qs wys (rgs++[w]) (r0::left) s6 s7 (.ow (.lst (w.map .int)))) (l:=r0::left) (m:=w) (by simp[shE,sY]) (.inr rfl) (by lia);unfold rcF;rw[aAq,h,bu];simp
   have hle:=(xn nd R.nd R.sb).length_eq;rw[zAX]at hle;have hw:0<w.length:=zDQ.mpr R.ne;refine .inr ⟨rfl,pcE n ps qs wys (rgs++[w]) ((r0::left).filter λ x=>!decide (x∈w)) s6 s7 (.ow (.lst (w.map .int))),((r0::left).filter λ x=>!decide (x∈w)).length,?_,by lia,rgs++[w],_,_,rfl,R.rest Q.u1 Q.u2 ht S,nd.filter _,λ r hr'=>?_,?_,rfl⟩
   ·unfold rcL
    rw[aO,a0,aq,aO,e,aq,aO,a2,aq];exact a3
   ·rcases zA4.mp hr' with z|z
    ·exact hr r z
    ·rw[zAR.mp z];exact R.ne
   ·simp only[zCf,zAX,zAi,zEx,zBX]at hz ⊢
    lia) (m:=((upI n).filter λ x=>!decide (x∈wys.flatten)).length) (by lia) ⟨[],_,.no,rfl,hL,(xG n).filter _,by simp,by simpa using hlen,rfl⟩
 refine⟨wys,rgs,?_,P,hr,by lia⟩;have st:bF 9 [owD n ps,.tup (qs.map pD)]=[.sh (owD n ps),.sh (.tup (qs.map pD)),.no,.no,.no,.no,.no,.no,.no]:=rfl;have z1:ig 2 (opA v7 (aA (aC 1) aF)) [.sh (owD n ps),.sh (.tup (qs.map pD)),.no,.no,.no,.no,.no,.no,.no]= .nx [.sh (owD n ps),.sh (.tup (qs.map pD)),.nw (dq qs),.no,.no,.no,.no,.no,.no]:=by simp[aNa Q.u1]
 have z2:fX 3 (cB aF) [.sh (owD n ps),.sh (.tup (qs.map pD)),.nw (dq qs),.no,.no,.no,.no,.no,.no]= .nx [.sh (owD n ps),.sh (.tup (qs.map pD)),.nw (dq qs),.ow (.lst []),.no,.no,.no,.no,.no]:=by simp
 have z3:fX 4 (cB aF) [.sh (owD n ps),.sh (.tup (qs.map pD)),.nw (dq qs),.ow (.lst []),.no,.no,.no,.no,.no]= .nx [.sh (owD n ps),.sh (.tup (qs.map pD)),.nw (dq qs),.ow (.lst []),.ow (.lst []),.no,.no,.no,.no]:=by simp
 have z4:ig 5 (lrD (op2 ixD (aC 0) (cD (.int 0)))) [.sh (owD n ps),.sh (.tup (qs.map pD)),.nw (dq qs),.ow (.lst []),.ow (.lst []),.no,.no,.no,.no]= .nx (pcE n ps qs [] [] (upI n) .no .no .no):=by
  rw[aAq,aHP (n:=n) (by simp[owD]) n0 n1,bu,aDS];rfl
 have z5:fL (cY fU (aA (op2 ixD (aC 0) (cD (.int 0))) aF)) (gnm 6) pcL (pcE n ps qs [] [] (upI n) .no .no .no)= .nx (pcE n ps qs wys [] ((upI n).filter λ x=>!decide (x∈wys.flatten)) s6 s7 .no):=by
  have hi:cY fU (aA (op2 ixD (aC 0) (cD (.int 0))) aF) (pcE n ps qs [] [] (upI n) .no .no .no)= .ok (bj 0 n):=by
   have h1:aA (op2 ixD (aC 0) (cD (.int 0))) aF (pcE n ps qs [] [] (upI n) .no .no .no)= .ok [.int n]:=by simp[owD]
   show((aA (op2 ixD (aC 0) (cD (.int 0))) aF (pcE n ps qs [] [] (upI n) .no .no .no)).bd fU)=_
   rw[h1,aL,iw (by lia) (by lia)]
  rw[iB,hi,bu,e1]
 simp only[gU,aD6,bD,st];rw[aO,z1,aq,aO,z2,aq,aO,z3,aq,aO,z4,aq,aO,z5,aq,aO,e2,aq];simp
theorem aAT(l:List Int):lR (tupI l)= .ok (tupI l):=by unfold lR;rw[if_pos (tR l)]
theorem aF5:(dw n).length=n.toNat:=by unfold dw;rw[zAF,zCv]
theorem aHT{ρ:En}{fg:D->En->Rs En}{fe:En->Rs D}{P:D->Prop}:∀(ds:List D),(∀d∈ds,∃ρ1 y,fg d ρ= .ok ρ1/\fe ρ1= .ok y/\P y)->∃ys,lcL ρ fg cJ fe ds= .ok ys/\ys.length=ds.length/\∀y∈ys,P y
 |[],_=>⟨[],rfl,rfl,λ y hy=>by cases hy⟩
 |d::ds,h=>by
  obtain⟨ρ1,y,e1,e2,hy⟩:=h d zAQ;obtain⟨ys,e3,hl,hys⟩:=aHT ds λ e he=>h e (zAJ _ he)
  refine⟨y::ys,?_,by simp[hl],λ z hz=>?_⟩
  ·unfold lcL
   simp[e1,cJ,e2,e3]
  ·rcases zAL.mp hz with rfl|hz
   ·exact hy
   ·exact hys z hz
theorem aMl{f:En->Rs D}{ρ:En}(hf:f ρ= .ok (.int n))(h0:0<=n)(h1:n<=60):trD f ρ= .ok (tupI (dw n)):=by
 unfold trD;rw[hf,aL];unfold trR;dsimp only;rw[if_pos ⟨by lia,by lia⟩,pW]
theorem aIr{g:List Int->List Int}{fe:En->Rs D}{fi:En->Rs (List D)}{ρ:En}{rws:List (List Int)}(hi:fi (shE ρ)= .ok (rws.map tupI))(hl:rws.length<=1000)(he:∀r∈rws,fe [.sh (tupI r)]= .ok (tupI (g r))):opA bz (aA (lcD fi [none] (gnm 0) cJ fe) aF) ρ= .ok (.tup ((rws.map g).map tupI)):=by
 have:lcD fi [none] (gnm 0) cJ fe ρ= .ok (.lst ((rws.map g).map tupI)):=by
  refine o8 hi (by rw[zAF];lia) ?_;rw[zAw];exact aHS (ρ:=stE [none] (shE ρ)) (fg:=gnm 0) (f:=tupI) (g:=tupI∘g) rws λ r hr=>⟨[.sh (tupI r)],rfl,he r hr⟩
 rw[kj,bL,this,aL,dG,aL,aL,rA,cN]
theorem yw(r:List Int)(a b:Option Int):∃w:List Int,cutD (r.map D.int) a b=w.map .int/\w.length<=r.length:=by
 refine⟨(r.drop (HT.sIx r.length 0 a)).take (HT.sIx r.length r.length b-HT.sIx r.length 0 a),?_,?_⟩
 ·unfold cutD
  rw[zAF,zIA,zHz]
 ·rw[zBQ,zCL]
  lia
theorem vU{g:List Int->List Int}{m:Nat}:∀(rws:List (List Int)),(∀r∈rws,(g r).length<=m*r.length)->((rws.map g).flatten).length<=m*rws.flatten.length
 |[],_=>by simp
 |r::rws,h=>by
  rw[zAH,zAi,zAX,zAi,zAX,Nat.mul_add];have h1:=h r zAQ;have h2:=vU rws λ x hx=>h x (zAJ _ hx)
  lia
theorem aEE{R:List Int->List Int->Prop}(rws:List (List Int))(h:∀r∈rws,∃w,R r w):∃g:List Int->List Int,∀r∈rws,R r (g r):=by
 refine⟨λ r=>if hr:r∈rws then(h r hr).choose else[],λ r hr=>?_⟩;dsimp only;rw[dif_pos hr];exact(h r hr).choose_spec
def aNj(fe:En->Rs D)(r w:List Int):Prop:=fe [.sh (tupI r)]= .ok (tupI w)/\w.length<=2*r.length
theorem aB0{r:List Int}{a b:Option Int}{w:List Int}(e:cutD (r.map D.int) a b=w.map .int){fa fb:En->Rs (Option Int)}{ρ:En}{i:Nat}(hv:aC i ρ= .ok (tupI r))(ha:fa ρ= .ok a)(hb:fb ρ= .ok b):aP (ao (aC i) fa fb) ρ= .ok (tupI w):=by
 have h:ao (aC i) fa fb ρ= .ok (tupI w):=by
  rw[aFO,hv,aL,ha,aL,hb,aL];show okD (slD (.tup (r.map D.int)) a b)=_;rw[aIf,e,cN]
 rw[wW,h,aL,aAT]
theorem aIL{f g:En->Rs D}{ρ:En}{v w:List Int}(hf:f ρ= .ok (tupI v))(hg:g ρ= .ok (tupI w))(hl:v.length+w.length<=1000):op2 aW f g ρ= .ok (tupI (v++w)):=by
 rw[dB,hf,aL,hg,aL];show okD (aW (.tup (v.map D.int)) (.tup (w.map D.int)))=_;rw[aIM,if_pos (by rw[zAF,zAF];lia),cN,<-zAl]
theorem fe9{r:List Int}(hl:r.length<=100):∃w,aNj (op2 aW (aP (ao (aC 0) (bJ (cD (.int 1))) bK)) (aP (ao (aC 0) bK (bJ (cD (.int 1)))))) r w:=by
 obtain⟨w1,e1,l1⟩:=yw r (some 1) none;obtain⟨w2,e2,l2⟩:=yw r none (some 1);have h1:aP (ao (aC 0) (bJ (cD (.int 1))) bK) [.sh (tupI r)]= .ok (tupI w1):=aB0 e1 rfl rfl rfl;have h2:aP (ao (aC 0) bK (bJ (cD (.int 1)))) [.sh (tupI r)]= .ok (tupI w2):=aB0 e2 rfl rfl rfl;exact⟨w1++w2,aIL h1 h2 (by lia),by rw[zAX];lia⟩
theorem aLK{rws:List (List Int)}{r:List Int}(h:r∈rws):r.length<=rws.flatten.length:=by
 induction rws with
 |nil=>cases h
 |cons x l ih=>
  rw[zAi,zAX];rcases zAL.mp h with rfl|h
  ·lia
  ·have:=ih h;lia
theorem yX(f:List (List Int)):imm (.tup (f.map tupI))=true:=by
 simp only[imm];exact iz λ d hd=>by obtain⟨r,_,rfl⟩:=zAm.mp hd;exact tR r
theorem aA1{es:List Int}{a b:Option Int}{fa fb:En->Rs (Option Int)}{ρ:En}{i:Nat}(hv:aC i ρ= .ok (tupI es))(ha:fa ρ= .ok a)(hb:fb ρ= .ok b):∃w:List Int,aP (ao (aC i) fa fb) ρ= .ok (tupI w)/\w.length<=es.length:=by
 obtain⟨w,e,l⟩:=yw es a b;exact⟨w,aB0 e hv ha hb,l⟩
theorem aMk{a:D}{f:En->Rs D}{ρ:En}(e1:f ρ= .ok a):aZ (aA f aF) ρ= .ok (.tup [a]):=by
 rw[pU,bL,e1,aL,dG,aL,aL,if_pos (by simp)]
theorem aFL{a b:D}{f g:En->Rs D}{ρ:En}(e1:f ρ= .ok a)(e2:g ρ= .ok b):aZ (aA f (aA g aF)) ρ= .ok (.tup [a,b]):=by
 rw[pU,bL,e1,aL,bL,e2,aL,dG,aL,aL,aL,if_pos (by simp)]
theorem aGG{ρ:En}:aZ aF ρ= .ok (.tup []):=by
 rw[pU,dG,aL,if_pos (by simp)]
theorem aOA{a b:D}{f g:En->Rs D}{ρ:En}(e1:f ρ= .ok a)(e2:g ρ= .ok b):cB (aA f (aA g aF)) ρ= .ok (.lst [a,b]):=by
 rw[aEm,bL,e1,aL,bL,e2,aL,dG,aL,aL,aL,if_pos (by simp)]
def my(d:D):Prop:=pln d=true/\tz d<64
theorem mq(h:dh l=true)(h2:(l.map sz).sum<64):my (.tup l):=⟨jL h,h2⟩
theorem aEC(h:pln d=true)(h2:tz d<64):Fi2 d:=by
 refine⟨h,λ a r e=>?_⟩;subst e;have e:tz (.tup [a,r])=sz a+sz r:=by simp[tz]
 rw[e]at h2;have fl:∀d,(tY d).length<=sz d:=λ d=>by
  cases d with
  |tup l=>
   unfold tY sz;dsimp only
   have:∀l:List D,((l.map rowOf).flatten).length<=(l.map rm).sum:=λ l=>by
    induction l with
    |nil=>simp
    |cons x l ih=>
     rw[zAH,zAi,zAX,zAH,List.sum_cons]
     have:(rowOf x).length<=rm x:=by
      cases x with
      |tup l=>simp[rowOf,rm]
      |_=>simp[rowOf]
     lia
   have:=this l
   lia
  |_=>simp[tY]
 have sR:∀r,sz r<64->aAn r=true:=λ r h2=>by
  cases r with
  |tup l=>
   have h3:=aHR l;simp only[aAn,zAN,decide_eq_true_eq,zAp];refine⟨by lia,λ x hx=>?_⟩
   have:=aEo hx
   cases x with
   |tup m=>simp[rm]at this;simp[aAo];lia
   |_=>rfl
  |_=>rfl
 exact⟨sR a (by lia),sR r (by lia),by have:=fl a;have:=fl r;lia⟩
def prD(f1 f2:List (List Int)):D:=.tup [.tup (f1.map tupI),.tup (f2.map tupI)]
theorem qF{f1 f2:List (List Int)}(h:(f1.length+f1.flatten.length)+(f2.length+f2.flatten.length)<64):my (prD f1 f2):=by
 refine mq (by simp[dh,jL (pX f1),jL (pX f2)]) ?_;show sz _+(sz _+0)<64;rw[wK,wK];lia
theorem uv:eG=aU (cP 4 (aN aQ (aA (aC 0) (aA (aC 1) (aA (opA bZ (aA (aC 2) aF)) aF)))))
  (aU (ig 5 (aN b7 (aA (aC 0) (aA (op2 aW (aC 1) (cD (.int 1))) (aA (op2 ixD (aC 2) (aC 4)) (aA (aC 3) aF))))))
  (aU (ig 6 (cB (aA (op2 aW (op2 aW (aP (ao (aC 2) bK (bJ (aC 4)))) (aZ (aA (dU 5) aF))) (aP (ao (aC 2) (bJ (op2 aW (aC 4) (cD (.int 1)))) bK))) (aA (aP (op1 aCD (aC 2))) (aA (aP (ao (aC 2) bK (bJ (op1 mY (cD (.int 1)))))) (aA (op2 aW (aP (aC 2)) (aZ (aA (aZ aF) aF))) (aA (opA qe (aA (aP (aC 2)) aF)) (aA (cD .non) aF))))))))
  (retS (op2 ixD (dU 6) (op2 ixD (cB (aA (cD (.int 0)) (aA (cD (.int 0)) (aA (cD (.int 0)) (aA (cD (.int 1)) (aA (cD (.int 2)) (aA (cD (.int 3)) (aA (cD (.int 4)) (aA (cD (.int 5)) aF))))))))) (aN aQ (aA (aC 0) (aA (op2 aW (aC 1) (cD (.int 6))) (aA (cD (.int 8)) aF))))))))):=rfl
theorem wC{f1 f2:List (List Int)}(hb:sz (.tup (f1.map tupI))+sz (.tup (f2.map tupI))<=14)(p0:0<=p)(p1:p<800):∃d,eQ [.int c,.int p,prD f1 f2,.int m]= .ok d/\my d:=by
 obtain⟨r0,e0,b0⟩:=iC (c:=c) (k:=p) (b:=2) (by lia) (by lia) (by decide) (by decide);obtain⟨r2,e2,b2⟩:=iC (c:=c) (k:=p+6) (b:=8) (by lia) (by lia) (by decide) (by decide);have eR:∀(f:List (List Int)),∀e∈f.map tupI,El e:=λ f e he=>by obtain⟨r,_,rfl⟩:=zAm.mp he;exact .inr ⟨r,rfl⟩
 have pT:=jL (pX f1);have pR:=jL (pX f2);have iT:imm (.tup (f1.map tupI))=true:=by simp only[imm];exact iz λ d hd=>(eR f1 d hd).imm
 have iR:imm (.tup (f2.map tupI))=true:=by simp only[imm];exact iz λ d hd=>(eR f2 d hd).imm
 obtain⟨th,hth⟩:∃th,th=[D.tup (f1.map tupI),D.tup (f2.map tupI)]:=⟨_,rfl⟩
 have hsp:prD f1 f2= .tup th:=by rw[hth];rfl
 have hlen:th.length=2:=by rw[hth];rfl
 have ith:jb th=true:=by rw[hth];simp[jb,iT,iR]
 have pth:dh th=true:=by rw[hth];simp[dh,pT,pR]
 have sth:(th.map sz).sum<=14:=by rw[hth];simp;lia
 obtain⟨o,eo,po,so⟩:∃o,(∃part,atD th (r0:Int)= .ok part/\b7 [.int c,.int (p+1),part,.int m]= .ok o)/\pln o=true/\((cutD th none (some (r0:Int))++o::cutD th (some ((r0:Int)+1)) none).map sz).sum<64:=by
  have h3:r0=0\/r0=1:=by lia
  rcases h3 with rfl|rfl
  ·obtain⟨o,eo,po,so⟩:=j7 (c:=c) (p:=p+1) (m:=m) (eR f1) (by lia) (by lia) (by lia)
   refine⟨o,⟨.tup (f1.map tupI),by rw[hth];rfl,eo⟩,po,?_⟩
   have:cutD th none (some ((0:Nat):Int))++o::cutD th (some (((0:Nat):Int)+1)) none=[o,.tup (f2.map tupI)]:=by rw[hth];rfl
   rw[this];simp;lia
  ·obtain⟨o,eo,po,so⟩:=j7 (c:=c) (p:=p+1) (m:=m) (eR f2) (by lia) (by lia) (by lia)
   refine⟨o,⟨.tup (f2.map tupI),by rw[hth];rfl,eo⟩,po,?_⟩
   have:cutD th none (some ((1:Nat):Int))++o::cutD th (some (((1:Nat):Int)+1)) none=[.tup (f1.map tupI),o]:=by rw[hth];rfl
   rw[this];simp;lia
 obtain⟨part,ep,eo⟩:=eo;rw[hsp];have st:bF 7 [.int c,.int p,.tup th,.int m]=[.sh (.int c),.sh (.int p),.sh (.tup th),.sh (.int m),.no,.no,.no]:=rfl;have gt:lR (.tup th)= .ok (.tup th):=gJ (by simp only[imm];exact ith);have gc:∀a b,lR (.tup (cutD th a b))= .ok (.tup (cutD th a b)):=λ a b=>gJ (by simp only[imm];exact iz λ d hd=>lD ith (uF hd))
 have gr:lR (.tup th.reverse)= .ok (.tup th.reverse):=gJ (by simp only[imm];exact iz λ d hd=>lD ith (zBv.mp hd));have cl:∀a b,(cutD th a b).length<=2:=λ a b=>by have:=yz th a b;lia
 have z2:∀a b,(cutD th a b).length+1<=16777216:=λ a b=>by have:=cl a b;lia
 have z3:∀a b a' b',(cutD th a b).length+1+(cutD th a' b').length<=16777216:=λ a b a' b'=>by have:=cl a b;have:=cl a' b';lia
 have a4:cP 4 (aN aQ (aA (aC 0) (aA (aC 1) (aA (opA bZ (aA (aC 2) aF)) aF)))) [.sh (.int c),.sh (.int p),.sh (.tup th),.sh (.int m),.no,.no,.no]= .nx [.sh (.int c),.sh (.int p),.sh (.tup th),.sh (.int m),.sh (.int r0),.no,.no]:=by simp[hlen,e0]
 have a5:ig 5 (aN b7 (aA (aC 0) (aA (op2 aW (aC 1) (cD (.int 1))) (aA (op2 ixD (aC 2) (aC 4)) (aA (aC 3) aF))))) [.sh (.int c),.sh (.int p),.sh (.tup th),.sh (.int m),.sh (.int r0),.no,.no]= .nx [.sh (.int c),.sh (.int p),.sh (.tup th),.sh (.int m),.sh (.int r0),.nw o,.no]:=by simp[ep,eo]
 have a6:ig 6 (cB (aA (op2 aW (op2 aW (aP (ao (aC 2) bK (bJ (aC 4)))) (aZ (aA (dU 5) aF))) (aP (ao (aC 2) (bJ (op2 aW (aC 4) (cD (.int 1)))) bK))) (aA (aP (op1 aCD (aC 2))) (aA (aP (ao (aC 2) bK (bJ (op1 mY (cD (.int 1)))))) (aA (op2 aW (aP (aC 2)) (aZ (aA (aZ aF) aF))) (aA (opA qe (aA (aP (aC 2)) aF)) (aA (cD .non) aF))))))) [.sh (.int c),.sh (.int p),.sh (.tup th),.sh (.int m),.sh (.int r0),.nw o,.no]
   = .nx [.sh (.int c),.sh (.int p),.sh (.tup th),.sh (.int m),.sh (.int r0),.nw o,.nw (.lst [.tup (cutD th none (some (r0:Int))++o::cutD th (some ((r0:Int)+1)) none),.tup th.reverse,.tup (cutD th none (some (-1))),.tup (th++[.tup []]),.lst th,.non])]:=by
  simp[gt,gc,gr,z2,z3,hlen]
 obtain⟨dj,ej,mj,_⟩:=vH (l:=[.int 0,.int 0,.int 0,.int 1,.int 2,.int 3,.int 4,.int 5]) (i:=(r2:Int)) (by lia) (by simpa using b2);obtain⟨j,rfl,j0,j1⟩:∃j:Int,dj= .int j/\0<=j/\j<6:=by
  simp only[zAL,zAu,or_false]at mj;rcases mj with rfl|rfl|rfl|rfl|rfl|rfl|rfl|rfl<;>exact⟨_,rfl,by decide,by decide⟩
 simp only[eQ,uv,bD,st];rw[aO,a4,aq,aO,a5,aq,aO,a6,aq];simp[e2,ej];refine aBe (by lia) (by simp;lia) λ d hd=>?_
 simp only[zAL,zAu,or_false]at hd;rcases hd with rfl|rfl|rfl|rfl|rfl|rfl
 ·exact mq (iy (oY pth) (by simp only[dh,po,oY pth,zFm])) so
 ·refine mq (lY λ d hd=>du pth (zBv.mp hd)) ?_
  rw[zH1,List.sum_reverse];lia
 ·refine mq (oY pth) ?_
  have:cutD th none (some (-1))=[.tup (f1.map tupI)]:=by rw[hth];rfl
  rw[this];simp;lia
 ·refine mq (iy pth rfl) ?_
  rw[zAl,List.sum_append];simp[sz];lia
 ·exact⟨by simpa[pln]using pth,show 0<64 by decide⟩
 ·exact⟨rfl,by decide⟩
def lwR:En->Rs (List D):=(cY fU (aA (opA (mmD λ i j=>if j>i then j else i) (aA (cD (.int 1)) (aA (opA (mmD λ i j=>if j<i then j else i) (aA (opA bZ (aA (aC 0) aF)) (aA (cD (.int 10)) aF))) aF))) aF))
def lwT:En->Ou:=aU (cP 9 (aN cG (aA (aC 3) (aA (aC 7) aF)))) (ifS (orT (dW (tst (op1 (eU "bool") (aC 9)))) (tsb (op2 (eqR true) (aC 9) (aN gq (aA (aC 3) (aA (aC 7) aF)))))) (retS (cD (.bl false))) Ou.nx)
def lwI:En->Ou:=fL (cY fU (aA (cD (.int 2)) aF)) (gnm 8) lwT
def lwL:En->Ou:=aJx 5 (fL (cC (aC 5)) (gnm 7) lwI)
def w5X:En->Rs D:=(cB (aA (aP (aC 4)) (aA (aZ (aA (opA bz (aA (lcD (cY fU (aA (op2 ixD (aC 3) (cD (.int 0))) aF)) [none] (gnm 0) cJ (aZ (aA (aP (aC 0)) aF))) aF)) (aA (aZ aF) aF))) (aA (aN ju (aA (aC 2) aF)) (aA (aZ (aA (aZ aF) (aA (aZ aF) aF))) aF)))))
def w6X:En->Rs D:=(cB (aA (aZ (aA (aZ aF) (aA (aZ (aA (aP (aC 6)) aF)) aF))) (aA (aZ (aA (aZ aF) (aA (aZ (aA (aP (ao (aC 6) bK (bJ (cD (.int 2))))) (aA (aP (ao (aC 6) (bJ (cD (.int 2))) bK)) aF))) aF))) aF)))
def w7X:En->Rs D:=(lcD (cY fU (aA (cD (.int 4)) aF)) [none,some 2,some 4,some 3] (gnm 0) cJ (aN eQ (aA (aC 1) (aA (op2 aW (cD (.int 70)) (op2 lQ (cD (.int 8)) (aC 0))) (aA (aC 2) (aA (op2 ixD (aC 3) (cD (.int 0))) aF))))))
def w8X:En->Rs D:=(aZ (aA (aP (op2 ixD (aC 4) (cD (.int 0)))) (aA (opA bz (aA (lcD (cC (op2 ixD (aC 4) (cD (.int 1)))) [none] (gnm 0) cJ (op2 aW (aP (ao (aC 0) (bJ (cD (.int 1))) bK)) (aP (ao (aC 0) bK (bJ (cD (.int 1))))))) aF)) aF)))
def lwK:En->Ou:=aU (cP 2 (aN dZ (aA (aC 0) (aA (aC 1) aF)))) (aU (cP 3 (aN dY (aA (aC 2) (aA (cD (.int 7)) aF)))) (aU (cP 4 (aN gU (aA (aC 3) (aA (aN cU (aA (aC 2) (aA (aC 3) aF))) aF)))) (aU (fX 5 w5X) (aU (cP 6 (trD (op2 ixD (aC 3) (cD (.int 0))))) (aU (fX 5 (op2 aW (jz 5) w6X)) (aU (fX 5 (op2 aW (jz 5) w7X)) (aU (gQ 5 w8X) lwL)))))))
def lwZ:En->Rs D:=(jD (op2 (isD false) (aN cG (aA (aZ (aA (cD (.int 2)) (aA (aZ (aA (aZ (aA (cD (.int 0)) (aA (cD (.int 1)) aF))) (aA (aZ (aA (cD (.int 1)) (aA (cD (.int 0)) aF))) aF))) aF))) (aA (aZ (aA (aZ aF) (aA (aZ (aA (aZ (aA (cD (.int 0)) (aA (cD (.int 1)) aF))) aF)) aF))) aF))) (cD (.bl true))) (op2 (isD false) (aN cG (aA (aZ (aA (cD (.int 0)) (aA (aZ aF) aF))) (aA (aZ (aA (aZ aF) (aA (aZ aF) aF))) aF))) (cD (.bl true))))
theorem aJb:yu=aU (fL lwR (gnm 1) lwK) (retS lwZ):=rfl
abbrev lE(ns:List Int)(k c n:Int)(ps:List (Int×Int))(sp:D)(ds:List D)(s6 s7 s8 s9:Slot):En:=[.sh (.scr ns),.sh (.int k),.sh (.int c),.sh (owD n ps),.sh sp,.ow (.lst ds),s6,s7,s8,s9]
section
variable{ns:List Int}{k c n:Int}{ps:List (Int×Int)}{sp:D}{s6 s7 s8 s9:Slot}{ds ms:List D}{d:D}{f:En->Rs D}{f1 f2:List (List Int)}
theorem aNc(h:f (lE ns k c n ps sp ds s6 s7 s8 s9)= .ok (.lst ms))(hl:ds.length+ms.length<=1000):fX 5 (op2 aW (jz 5) f) (lE ns k c n ps sp ds s6 s7 s8 s9)= .nx (lE ns k c n ps sp (ds++ms) s6 s7 s8 s9):=by
 have hv:jz 5 (lE ns k c n ps sp ds s6 s7 s8 s9)= .ok (.lst ds):=rfl;rw[aEW,dB,hv,aL,h,aL,aIN,if_pos (by lia),cN,bu];rfl
theorem aOH(h:f (lE ns k c n ps sp ds s6 s7 s8 s9)= .ok d)(hl:ds.length<=1000):gQ 5 f (lE ns k c n ps sp ds s6 s7 s8 s9)= .nx (lE ns k c n ps sp (ds++[d]) s6 s7 s8 s9):=by
 show((f (lE ns k c n ps sp ds s6 s7 s8 s9)).bo λ d=>if ds.length<zAT then .nx ((lE ns k c n ps sp ds s6 s7 s8 s9).set 5 (.ow (.lst (ds++[d]))))else .st)=_
 rw[h,bu,if_pos (by rw[zB9];lia)];rfl
theorem aMB{s5:Slot}(O:Ow n ps)(h:my d):lwT [.sh (.scr ns),.sh (.int k),.sh (.int c),.sh (owD n ps),.sh sp,s5,s6,.sh d,s8,s9]= .nx [.sh (.scr ns),.sh (.int k),.sh (.int c),.sh (owD n ps),.sh sp,s5,s6,.sh d,s8,.sh (.bl (roB n ps d))]:=by
 have F:=aEC h.1 h.2;have e1:=ou O F;have e2:=yM O F;have e3:eqR true (.bl (roB n ps d)) (.bl (roB n ps d))= .ok (.bl false):=by cases roB n ps d<;>rfl
 unfold lwT;simp[e1,e2,e3]
theorem aMC(O:Ow n ps)(h:∀d∈ds,my d)(hl:ds.length<=1000):∃t7 t8 t9,lwL (lE ns k c n ps sp ds s6 s7 s8 s9)= .nx [.sh (.scr ns),.sh (.int k),.sh (.int c),.sh (owD n ps),.sh sp,.nw (.lst ds),s6,t7,t8,t9]:=by
 have hr:=iw (j:=2) (by decide) (by decide);have hI:∀d t8 t9,my d->∃u8 u9,lwI [.sh (.scr ns),.sh (.int k),.sh (.int c),.sh (owD n ps),.sh sp,.nw (.lst ds),s6,.sh d,t8,t9]= .nx [.sh (.scr ns),.sh (.int k),.sh (.int c),.sh (owD n ps),.sh sp,.nw (.lst ds),s6,.sh d,u8,u9]:=by
  intro d t8 t9 hd;obtain⟨ρ',e,u8,u9,rfl⟩:=gn (a:=gnm 8) (u:=lwT) (bj 0 2) (λ _ ρ=>∃u8 u9,ρ=[.sh (.scr ns),.sh (.int k),.sh (.int c),.sh (owD n ps),.sh sp,.nw (.lst ds),s6,.sh d,u8,u9]) [.sh (.scr ns),.sh (.int k),.sh (.int c),.sh (owD n ps),.sh sp,.nw (.lst ds),s6,.sh d,t8,t9] ⟨_,_,rfl⟩ (by
   rintro i x ρ hx ⟨u8,u9,rfl⟩;exact⟨_,by rw[nZ,km];exact aMB (s8:=.sh x) (s9:=u9) (s5:=.nw (.lst ds)) O hd,_,_,rfl⟩)
  refine⟨u8,u9,?_⟩;unfold lwI;have hi:cY fU (aA (cD (.int 2)) aF) [.sh (.scr ns),.sh (.int k),.sh (.int c),.sh (owD n ps),.sh sp,.nw (.lst ds),s6,.sh d,t8,t9]= .ok (bj 0 2):=by rw[<-hr];rfl
  rw[iB,hi,bu,e]
 obtain⟨ρ',e,t7,t8,t9,rfl⟩:=gn (a:=gnm 7) (u:=lwI) ds (λ _ ρ=>∃t7 t8 t9,ρ=[.sh (.scr ns),.sh (.int k),.sh (.int c),.sh (owD n ps),.sh sp,.nw (.lst ds),s6,t7,t8,t9]) [.sh (.scr ns),.sh (.int k),.sh (.int c),.sh (owD n ps),.sh sp,.nw (.lst ds),s6,s7,s8,s9] ⟨_,_,_,rfl⟩ (by
  rintro i x ρ hx ⟨t7,t8,t9,rfl⟩;obtain⟨u8,u9,e⟩:=hI x t8 t9 (h x (zBB hx));exact⟨_,by rw[nZ,km];exact e,_,_,_,rfl⟩)
 refine⟨t7,t8,t9,?_⟩;unfold lwL;rw[aJw];show fL (cC (aC 5)) (gnm 7) lwI [.sh (.scr ns),.sh (.int k),.sh (.int c),.sh (owD n ps),.sh sp,.nw (.lst ds),s6,s7,s8,s9]=_;have hi:cC (aC 5) [.sh (.scr ns),.sh (.int k),.sh (.int c),.sh (owD n ps),.sh sp,.nw (.lst ds),s6,s7,s8,s9]= .ok ds:=rfl;rw[iB,hi,bu,e]
theorem aMh(S:sz (.tup (f1.map tupI))+sz (.tup (f2.map tupI))<=14):∃ms,w7X (lE ns k c n ps (prD f1 f2) ds s6 s7 s8 s9)= .ok (.lst ms)/\ms.length=4/\∀d∈ms,my d:=by
 have hr:=iw (j:=4) (by decide) (by decide);have hlen:(bj 0 4).length=4:=by rw[iu];decide
 obtain⟨ys,e,hl,hy⟩:=aHT (ρ:=stE [none,some 2,some 4,some 3] (shE (lE ns k c n ps (prD f1 f2) ds s6 s7 s8 s9))) (fg:=gnm 0) (fe:=aN eQ (aA (aC 1) (aA (op2 aW (cD (.int 70)) (op2 lQ (cD (.int 8)) (aC 0))) (aA (aC 2) (aA (op2 ixD (aC 3) (cD (.int 0))) aF))))) (P:=my) (bj 0 4) (by
  intro d hd;obtain⟨j,rfl,j0,j1⟩:=jQ.mp hd;obtain⟨o,eo,ho⟩:=wC (c:=c) (p:=70+8*j) (m:=n) S (by lia) (by lia);refine⟨[.sh (.int j),.sh (.int c),.sh (prD f1 f2),.sh (owD n ps)],o,rfl,?_,ho⟩;have hv:aA (aC 1) (aA (op2 aW (cD (.int 70)) (op2 lQ (cD (.int 8)) (aC 0))) (aA (aC 2) (aA (op2 ixD (aC 3) (cD (.int 0))) aF))) [.sh (.int j),.sh (.int c),.sh (prD f1 f2),.sh (owD n ps)]= .ok [.int c,.int (70+8*j),prD f1 f2,.int n]:=by
   have hm:lQ (.int 8) (.int j)= .ok (.int (8*j)):=aBK (by decide) (by decide);simp[owD,hm]
  rw[uJ,hv,aL,eo])
 refine⟨ys,?_,by rw[hl,hlen],hy⟩;unfold w7X;refine o8 (ds:=bj 0 4) ?_ (by rw[hlen];decide) e;rw[<-hr];rfl
theorem aMg(h1:f1.length+f1.flatten.length<=14)(h2:f2.length+f2.flatten.length<=14):∃d,w8X (lE ns k c n ps (prD f1 f2) ds s6 s7 s8 s9)= .ok d/\my d:=by
 obtain⟨g,hg⟩:=aEE (R:=aNj (op2 aW (aP (ao (aC 0) (bJ (cD (.int 1))) bK)) (aP (ao (aC 0) bK (bJ (cD (.int 1))))))) f2 λ r hr=>fe9 (by have:=aLK hr;lia)
 have hf:=vU (g:=g) (m:=2) f2 λ r hr=>(hg r hr).2
 have a1:aP (op2 ixD (aC 4) (cD (.int 0))) (lE ns k c n ps (prD f1 f2) ds s6 s7 s8 s9)= .ok (.tup (f1.map tupI)):=by
  rw[wW]
  show(Rs.ok (D.tup (f1.map tupI))).bd lR=_
  rw[aL,gJ (yX f1)]
 refine⟨prD f1 (f2.map g),aFL a1 (aIr rfl (by lia) λ r hr=>(hg r hr).1),qF ?_⟩;rw[zAF];lia
theorem aMi{es:List Int}(hl:es.length<=7):∃d1 d2,w6X (lE ns k c n ps sp ds (.sh (tupI es)) s7 s8 s9)= .ok (.lst [d1,d2])/\my d1/\my d2:=by
 have hv:aC 6 (lE ns k c n ps sp ds (.sh (tupI es)) s7 s8 s9)= .ok (tupI es):=rfl;have hi:aP (aC 6) (lE ns k c n ps sp ds (.sh (tupI es)) s7 s8 s9)= .ok (tupI es):=by rw[wW,hv,aL,aAT]
 obtain⟨a1,e1,l1⟩:=aA1 (a:=none) (b:=some 2) (fa:=bK) (fb:=bJ (cD (.int 2))) hv rfl rfl;obtain⟨a2,e2,l2⟩:=aA1 (a:=some 2) (b:=none) (fa:=bJ (cD (.int 2))) (fb:=bK) hv rfl rfl;refine⟨prD [] [es],prD [] [a1,a2],aOA (aFL aGG (aMk hi)) (aFL aGG (aFL e1 e2)),qF ?_,qF ?_⟩
 ·simp;lia
 ·simp;lia
end
theorem aMD{ns:List Int}{k:Int}(k0:0<=k){s2 s3 s4 s5 s6 s7 s8 s9:Slot}:∃t2 t3 t4 t5 t6 t7 t8 t9,lwK [.sh (.scr ns),.sh (.int k),s2,s3,s4,s5,s6,s7,s8,s9]= .nx [.sh (.scr ns),.sh (.int k),t2,t3,t4,t5,t6,t7,t8,t9]:=by
 obtain⟨c,e2⟩:=aKF (ns:=ns) k0;obtain⟨n,ps,e3,O,n8⟩:=yO (c:=c) (most:=7) (by decide);replace e3:dY [.int c,.int 7]= .ok (owD n ps):=e3;have n0:=O.n0;obtain⟨qs,e4,Q⟩:=rz (c:=c) O;obtain⟨f1,f2,e5,P⟩:=aFW O Q;obtain⟨dod,e6,fod⟩:=aBU (c:=c);have h0:=P.sz;have h1:=ye λ r hr=>(P.pi.al r hr).1
 have h2:=ye P.rn;have S:sz (.tup (f1.map tupI))+sz (.tup (f2.map tupI))<=14:=by rw[wK,wK];lia
 have hes:(dw n).length<=7:=by rw[aF5];lia
 have c2:cP 2 (aN dZ (aA (aC 0) (aA (aC 1) aF))) [.sh (.scr ns),.sh (.int k),s2,s3,s4,s5,s6,s7,s8,s9]= .nx [.sh (.scr ns),.sh (.int k),.sh (.int c),s3,s4,s5,s6,s7,s8,s9]:=by simp[e2]
 have c3:cP 3 (aN dY (aA (aC 2) (aA (cD (.int 7)) aF))) [.sh (.scr ns),.sh (.int k),.sh (.int c),s3,s4,s5,s6,s7,s8,s9]= .nx [.sh (.scr ns),.sh (.int k),.sh (.int c),.sh (owD n ps),s4,s5,s6,s7,s8,s9]:=by simp[e3]
 have c4:cP 4 (aN gU (aA (aC 3) (aA (aN cU (aA (aC 2) (aA (aC 3) aF))) aF))) [.sh (.scr ns),.sh (.int k),.sh (.int c),.sh (owD n ps),s4,s5,s6,s7,s8,s9]= .nx [.sh (.scr ns),.sh (.int k),.sh (.int c),.sh (owD n ps),.sh (prD f1 f2),s5,s6,s7,s8,s9]:=by
  simp[e4,e5];rfl
 have c5:fX 5 w5X [.sh (.scr ns),.sh (.int k),.sh (.int c),.sh (owD n ps),.sh (prD f1 f2),s5,s6,s7,s8,s9]= .nx (lE ns k c n ps (prD f1 f2) [prD f1 f2,prD ((upI n).map λ x=>[x]) [],dod,prD [] []] s6 s7 s8 s9):=by
  have i1:imm (prD f1 f2)=true:=by simp[prD,imm,jb];exact⟨by simpa[imm]using yX f1,by simpa[imm]using yX f2⟩
  have v1:aP (aC 4) [.sh (.scr ns),.sh (.int k),.sh (.int c),.sh (owD n ps),.sh (prD f1 f2),s5,s6,s7,s8,s9]= .ok (prD f1 f2):=by
   rw[wW]
   show(Rs.ok (prD f1 f2)).bd lR=_
   rw[aL,gJ i1]
  have hr:=iw (j:=n) (by lia) (by lia);have v2:opA bz (aA (lcD (cY fU (aA (op2 ixD (aC 3) (cD (.int 0))) aF)) [none] (gnm 0) cJ (aZ (aA (aP (aC 0)) aF))) aF) [.sh (.scr ns),.sh (.int k),.sh (.int c),.sh (owD n ps),.sh (prD f1 f2),s5,s6,s7,s8,s9]= .ok (.tup (((upI n).map λ x=>[x]).map tupI)):=by
   have:lcD (cY fU (aA (op2 ixD (aC 3) (cD (.int 0))) aF)) [none] (gnm 0) cJ (aZ (aA (aP (aC 0)) aF)) [.sh (.scr ns),.sh (.int k),.sh (.int c),.sh (owD n ps),.sh (prD f1 f2),s5,s6,s7,s8,s9]= .ok (.lst (((upI n).map λ x=>[x]).map tupI)):=by
    refine o8 (ds:=(upI n).map .int) (by rw[<-aDS,<-hr];rfl) (by rw[zAF,qz];lia) ?_;rw[zAw];exact aHS (fg:=gnm 0) (f:=D.int) (g:=tupI∘λ x=>[x]) (upI n) λ x _=>⟨[.sh (.int x)],rfl,aMk rfl⟩
   rw[kj,bL,this,aL,dG,aL,aL,rA,cN]
  have v3:aN ju (aA (aC 2) aF) [.sh (.scr ns),.sh (.int k),.sh (.int c),.sh (owD n ps),.sh (prD f1 f2),s5,s6,s7,s8,s9]= .ok dod:=by simp[e6]
  unfold w5X;rw[aEW,aEm,bL,v1,aL,bL,aFL v2 aGG,aL,bL,v3,aL,bL,aFL aGG aGG,aL,dG,aL,aL,aL,aL,aL,if_pos (by simp),bu];rfl
 have F5:∀d∈[prD f1 f2,prD ((upI n).map λ x=>[x]) [],dod,prD [] []],my d:=λ d hd=>by
  simp only[zAL,zAu,or_false]at hd;rcases hd with rfl|rfl|rfl|rfl
  ·exact qF (by lia)
  ·have hu:=qz n
   have:(((upI n).map λ x=>[x]).flatten).length=(upI n).length:=by
    have:∀l:List Int,(l.map λ x=>[x]).flatten.length=l.length:=λ l=>by
     induction l with
     |nil=>rfl
     |cons a l ih=>rw[zAH,zAi,zAX,ih,zA8,zA8,zAy];lia
    exact this _
   exact qF (by rw[this,zAF,zAy,zEx,zAy];lia)
  ·exact fod
  ·exact qF (by decide)
 obtain⟨d5,hd5⟩:∃d5,d5=[prD f1 f2,prD ((upI n).map λ x=>[x]) [],dod,prD [] []]:=⟨_,rfl⟩
 have l5:d5.length=4:=by rw[hd5];rfl
 rw[<-hd5]at c5 F5;have c6:cP 6 (trD (op2 ixD (aC 3) (cD (.int 0)))) (lE ns k c n ps (prD f1 f2) d5 s6 s7 s8 s9)= .nx (lE ns k c n ps (prD f1 f2) d5 (.sh (tupI (dw n))) s7 s8 s9):=by
  have hv:trD (op2 ixD (aC 3) (cD (.int 0))) (lE ns k c n ps (prD f1 f2) d5 s6 s7 s8 s9)= .ok (tupI (dw n)):=aMl rfl n0 (by lia);rw[aIk,hv,bu];rfl
 obtain⟨g1,g2,e7,G1,G2⟩:=aMi (ns:=ns) (k:=k) (c:=c) (n:=n) (ps:=ps) (sp:=prD f1 f2) (ds:=d5) (s7:=s7) (s8:=s8) (s9:=s9) hes;have c7:=aNc e7 (by simp;lia);obtain⟨m7,e8,l7,F7⟩:=aMh (ns:=ns) (k:=k) (c:=c) (n:=n) (ps:=ps) (ds:=d5++[g1,g2]) (s6:=.sh (tupI (dw n))) (s7:=s7) (s8:=s8) (s9:=s9) S;have c8:=aNc e8 (by simp;lia);obtain⟨m8,e9,F8⟩:=aMg (f1:=f1) (f2:=f2) (ns:=ns) (k:=k) (c:=c) (n:=n) (ps:=ps) (ds:=d5++[g1,g2]++m7) (s6:=.sh (tupI (dw n))) (s7:=s7) (s8:=s8) (s9:=s9) (by lia) (by lia);have c9:=aOH e9 (by simp;lia);have hall:∀d∈d5++[g1,g2]++m7++[m8],my d:=λ d hd=>by
  simp only[zA4,zAL,zAu,or_false]at hd;rcases hd with ((hd|rfl|rfl)|hd)|rfl
  ·exact F5 d hd
  ·exact G1
  ·exact G2
  ·exact F7 d hd
  ·exact F8
 obtain⟨t7,t8,t9,cL⟩:=aMC (ns:=ns) (k:=k) (c:=c) (n:=n) (ps:=ps) (sp:=prD f1 f2) (s6:=.sh (tupI (dw n))) (s7:=s7) (s8:=s8) (s9:=s9) O hall (by simp;lia);refine⟨.sh (.int c),.sh (owD n ps),.sh (prD f1 f2),.nw (.lst (d5++[g1,g2]++m7++[m8])),.sh (tupI (dw n)),t7,t8,t9,?_⟩;unfold lwK;rw[aO,c2,aq,aO,c3,aq,aO,c4,aq,aO,c5,aq,aO,c6,aq,aO,c7,aq,aO,c8,aq,aO,c9,aq,cL]
theorem O2:Ow 2 [(0,1),(1,0)]:=⟨by decide,by decide,by decide,by decide,by decide⟩
theorem O0:Ow 0 []:=⟨by decide,by decide,by decide,(λ p hp=>by cases hp),rfl⟩
theorem ro2:cG [owD 2 [(0,1),(1,0)],prD [] [[0,1]]]= .ok (.bl true):=(ou O2 (aEC (by decide) (by decide))).trans (congrArg (λ b=>Rs.ok (D.bl b)) (by decide))
theorem ro0:cG [owD 0 [],prD [] []]= .ok (.bl true):=(ou O0 (aEC (by decide) (by decide))).trans (congrArg (λ b=>Rs.ok (D.bl b)) (by decide))
theorem aHV(ns:List Int)(hn:ns.length<=63):aIS [.scr ns]= .ok (.bl true):=by
 have st:bF 10 [.scr ns]=[.sh (.scr ns),.no,.no,.no,.no,.no,.no,.no,.no,.no]:=rfl;have hk:∃m:Int,(if (if (10:Int)<(ns.length:Int)then(10:Int)else(ns.length:Int))>1 then(if (10:Int)<(ns.length:Int)then(10:Int)else(ns.length:Int))else 1)=m/\0<=m/\m<=10:=⟨_,rfl,by split<;>split<;>lia,by split<;>split<;>lia⟩
 obtain⟨m,hm,m0,m1⟩:=hk;have hr:=iw (j:=m) (by lia) (by lia);obtain⟨ρ',e,t1,t2,t3,t4,t5,t6,t7,t8,t9,rfl⟩:=gn (a:=gnm 1) (u:=lwK) (bj 0 m) (λ _ ρ=>∃t1 t2 t3 t4 t5 t6 t7 t8 t9,ρ=[.sh (.scr ns),t1,t2,t3,t4,t5,t6,t7,t8,t9]) [.sh (.scr ns),.no,.no,.no,.no,.no,.no,.no,.no,.no] ⟨_,_,_,_,_,_,_,_,_,rfl⟩ (by
  rintro i d ρ hd ⟨t1,t2,t3,t4,t5,t6,t7,t8,t9,rfl⟩;obtain⟨rfl,_⟩:=kY hd;obtain⟨u2,u3,u4,u5,u6,u7,u8,u9,e⟩:=aMD (ns:=ns) (k:=0+(i:Int)) (by lia) (s2:=t2) (s3:=t3) (s4:=t4) (s5:=t5) (s6:=t6) (s7:=t7) (s8:=t8) (s9:=t9);exact⟨_,by rw[nZ,km];exact e,_,_,_,_,_,_,_,_,_,rfl⟩)
 have c1:fL lwR (gnm 1) lwK [.sh (.scr ns),.no,.no,.no,.no,.no,.no,.no,.no,.no]= .nx [.sh (.scr ns),t1,t2,t3,t4,t5,t6,t7,t8,t9]:=by
  have hi:lwR [.sh (.scr ns),.no,.no,.no,.no,.no,.no,.no,.no,.no]= .ok (bj 0 m):=by
   rw[<-hr,<-hm];rfl
  rw[iB,hi,bu,e]
 have w2:cG [.tup [.int 2,.tup [.tup [.int 0,.int 1],.tup [.int 1,.int 0]]],.tup [.tup [],.tup [.tup [.int 0,.int 1]]]]= .ok (.bl true):=ro2;have w0:cG [.tup [.int 0,.tup []],.tup [.tup [],.tup []]]= .ok (.bl true):=ro0;simp only[aIS,aJb,bD,st];rw[aO,c1,aq];unfold lwZ;simp[w2,w0]
local macro_rules|`(tactic|walk_at "sc")=>`(tactic|exact⟨rfl,rfl,rfl,by decide+kernel,rfl,by decide+kernel,by decide+kernel⟩)
def top(i:Nat):Stmt:=PySem.Challenge.pw_fewways_k61_round_partings_looked_at.main.body.getD i (.Pass ⟨0,0,0,0⟩)
abbrev rN:Stmt:=top 5
abbrev ue:Stmt:=top 6
abbrev rP:Stmt:=top 7
abbrev ud:Stmt:=top 8
abbrev oR:Stmt:=top 9
abbrev iK:Stmt:=top 10
abbrev oU:Stmt:=top 11
abbrev nT:Stmt:=top 13
abbrev nR:Stmt:=top 14
abbrev xY:Stmt:=top 15
abbrev nQ:Stmt:=top 17
abbrev jZ:Stmt:=top 18
abbrev uf:Stmt:=top 19
abbrev rO:Stmt:=top 21
abbrev mK:Stmt:=top 23
abbrev rM:Stmt:=top 24
abbrev oM:Stmt:=top 25
abbrev rK:Stmt:=top 26
abbrev mJ:Stmt:=top 27
abbrev uc:Stmt:=top 28
abbrev nO:Stmt:=top 29
abbrev oO:Stmt:=top 30
abbrev oN:Stmt:=top 31
abbrev kW:Stmt:=top 32
abbrev ik:Stmt:=top 33
abbrev nP:Stmt:=top 34
abbrev kO:Stmt:=top 35
abbrev iJ:Stmt:=top 36
abbrev mH:Stmt:=top 37
abbrev kJ:Stmt:=top 38
abbrev aG4:Stmt:=top 39
theorem aBz:bA ["thing"] ["thing"] (aV rN):=by walk_at "sc"
theorem aDQ:bA ["thing"] ["thing"] (aV ue):=by walk_at "sc"
theorem aCB:bA ["many","thing"] ["many","thing"] (aV rP):=by walk_at "sc"
theorem aDP:bA ["many","thing"] ["many","thing"] (aV ud):=by walk_at "sc"
theorem aAx:bA ["things","at"] ["things"] (aV oR):=by walk_at "sc"
theorem qK:bA ["many","thing","pair"] ["many","thing"] (aV iK):=by walk_at "sc"
theorem aAy:bA ["many","rows"] ["many","rows"] (aV oU):=by walk_at "sc"
theorem zR:bA ["near","thing","place","at"] ["near","thing"] (aV nT):=by walk_at "sc"
theorem zQ:bA ["near","thing"] ["near","thing"] (aV nR):=by walk_at "sc"
theorem aFU:bA ["near","thing","goes","row"] ["near","thing","goes"] (aV xY):=by walk_at "sc"
theorem zP:bA ["thing"] ["thing"] (aV nQ):=by walk_at "sc"
theorem uZ:bA ["thing"] ["thing"] (aV jZ):=by walk_at "sc"
theorem aDR:bA ["web","led","begin","end"] ["web"] (aV uf):=by walk_at "sc"
theorem aCA:bA ["web","thing","ways","rings","led"] ["web","thing"] (aV rO):=by walk_at "sc"
theorem xX:bA ["_law_script","_law_k"] ["_law_script","_law_k"] (aV mK):=by walk_at "sc"
theorem aBy:bA ["_law_cell","_law_k","_law_bound","_law_left","_law_j","_law_stir"] ["_law_cell","_law_k","_law_bound"] (aV rM):=by walk_at "sc"
theorem aAu:bA ["_law_found"] ["_law_found"] (aV oM):=by walk_at "sc"
theorem aBx:bA ["_law_cell","_law_many","_law_found","_law_place"] ["_law_cell","_law_many"] (aV rK):=by walk_at "sc"
theorem xW:bA ["_law_cell","_law_most","_law_many","_law_kind","_law_thick","_law_order","_law_arrows","_law_spot","_law_j","_law_i","_law_here"] ["_law_cell","_law_most"] (aV mJ):=by walk_at "sc"
theorem aDO:bA ["_law_cell","_law_some"] ["_law_cell"] (aV uc):=by walk_at "sc"
theorem zN:bA ["_law_row"] ["_law_row"] (aV nO):=by walk_at "sc"
theorem aAw:bA ["_law_web","_law_thing"] ["_law_web","_law_thing"] (aV oO):=by walk_at "sc"
theorem aAv:bA ["_law_web","_law_thing"] ["_law_web","_law_thing"] (aV oN):=by walk_at "sc"
theorem vm:bA ["_law_rows","_law_many","_law_found","_law_row"] ["_law_rows","_law_many"] (aV kW):=by walk_at "sc"
theorem rJ:bA ["_law_cell","_law_web","_law_found","_law_k","_law_arrow"] ["_law_cell","_law_web"] (aV ik):=by walk_at "sc"
theorem zO:bA ["_law_web","_law_pairs","_law_after","_law_ways","_law_rings","_law_left","_law_place","_law_way","_law_ring"] ["_law_web","_law_pairs"] (aV nP):=by walk_at "sc"
theorem vh:bA ["_law_cell","_law_spot","_law_row","_law_many","_law_at","_law_odd_here","_law_some"] ["_law_cell","_law_spot","_law_row","_law_many"] (aV kO):=by walk_at "sc"
theorem qJ:bA ["_law_cell","_law_spot","_law_parting","_law_many","_law_at","_law_way","_law_other","_law_some"] ["_law_cell","_law_spot","_law_parting","_law_many"] (aV iJ):=by walk_at "sc"
theorem xV:bA ["_law_web","_law_thing"] ["_law_web","_law_thing"] (aV mH):=by walk_at "sc"
theorem vg:bA ["_law_cell","_law_spot","_law_thing","_law_many","_law_at","_law_other","_law_some"] ["_law_cell","_law_spot","_law_thing","_law_many"] (aV kJ):=by walk_at "sc"
theorem aLG:bA ["_law_script","_law_k","_law_cell","_law_web","_law_pieces_here","_law_things","_law_every","_law_thing","_law_turn_here","_law_found"] ["_law_script"] (aV aG4):=by walk_at "sc"
set_option genInjectivity false in
set_option genSizeOf false in
structure Adr where
 yj:Addr
 jG:zAa
 aAZ:Addr
 jr:zAa
 yo:Addr
 jJ:zAa
 aAY:Addr
 jq:zAa
 vY:Addr
 fu:zAa
 lG:Addr
 bQ:zAa
 vZ:Addr
 iZ:zAa
 jd:Addr
 gP:zAa
 jc:Addr
 eY:zAa
 aCf:Addr
 mz:zAa
 uB:Addr
 gO:zAa
 oA:Addr
 dI:zAa
 aA0:Addr
 jt:zAa
 ym:Addr
 jH:zAa
 qp:Addr
 dX:zAa
 yh:Addr
 iM:zAa
 vV:Addr
 iW:zAa
 yg:Addr
 jF:zAa
 qm:Addr
 fG:zAa
 aAX:Addr
 jo:zAa
 tZ:Addr
 gK:zAa
 vX:Addr
 iY:zAa
 vW:Addr
 fj:zAa
 pF:Addr
 eO:zAa
 lw:Addr
 cT:zAa
 uA:Addr
 gM:zAa
 pC:Addr
 eN:zAa
 lF:Addr
 cF:zAa
 ql:Addr
 fD:zAa
 pB:Addr
 eG:zAa
 aKf:Addr
 yu:zAa
 qX:Value
 sS:Addr
 sO:Addr
structure Txt(K:zAA)(mg:Str->Option Value)(t:Adr):Prop where
 sH:Dnr K mg "is_whole" rN ["thing"] t.yj t.jG
 aA5:Dnr K mg "is_many" ue ["thing"] t.aAZ t.jr
 nj:Dnr K mg "is_place" rP ["many","thing"] t.yo t.jJ
 aA4:Dnr K mg "is_pair" ud ["many","thing"] t.aAY t.jq
 pK:Dnr K mg "is_rising" oR ["things"] t.vY t.fu
 lL:Dnr K mg "are_rising_pairs" iK ["many","thing"] t.lG t.bQ
 v6:Dnr K mg "each_once" oU ["many","rows"] t.vZ t.iZ
 jA:Dnr K mg "goes_along" nT ["near","thing"] t.jd t.gP
 qd:zAh K zA9 "goes_along"=some (some (.ref t.jd))
 je:Dnr K mg "goes_round" nR ["near","thing"] t.jc t.eY
 qb:zAh K zA9 "goes_round"=some (some (.ref t.jc))
 yt:Dnr K mg "all_go" xY ["near","thing","goes"] t.aCf t.mz
 uD:Dnr K mg "is_one_way" nQ ["thing"] t.uB t.gO
 oF:Dnr K mg "check_one_way" jZ ["thing"] t.oA t.dI
 aA6:Dnr K mg "all_led" uf ["web"] t.aA0 t.jt
 ni:Dnr K mg "is_round" rO ["web","thing"] t.ym t.jH
 qw:Dnr K mg "_law_cell_at" mK ["_law_script","_law_k"] t.qp t.dX
 bT:Dnr K mg "_law_draw" rM ["_law_cell","_law_k","_law_bound"] t.yh t.iM
 v4:Dnr K mg "_law_whole" oM ["_law_found"] t.vV t.iW
 yr:Dnr K mg "_law_turn" rK ["_law_cell","_law_many"] t.yg t.jF
 qu:Dnr K mg "_law_one_way" mJ ["_law_cell","_law_most"] t.qm t.fG
 aA3:Dnr K mg "_law_odd" uc ["_law_cell"] t.aAX t.jo
 n6:Dnr K mg "_law_rising" nO ["_law_row"] t.tZ t.gK
 pI:Dnr K mg "_law_along" oO ["_law_web","_law_thing"] t.vX t.iY
 v5:Dnr K mg "_law_round" oN ["_law_web","_law_thing"] t.vW t.fj
 pJ:Dnr K mg "_law_all_once" kW ["_law_rows","_law_many"] t.pF t.eO
 lz:Dnr K mg "_law_drawn_pairs" ik ["_law_cell","_law_web"] t.lw t.cT
 uC:Dnr K mg "_law_pieces" nP ["_law_web","_law_pairs"] t.uA t.gM
 pH:Dnr K mg "_law_bent_row" kO ["_law_cell","_law_spot","_law_row","_law_many"] t.pC t.eN
 lK:Dnr K mg "_law_bent_parting" iJ ["_law_cell","_law_spot","_law_parting","_law_many"] t.lF t.cF
 qt:Dnr K mg "_law_rounded" mH ["_law_web","_law_thing"] t.ql t.fD
 pG:Dnr K mg "_law_bent_two" kJ ["_law_cell","_law_spot","_law_thing","_law_many"] t.pB t.eG
 aHv:Dnr K mg "law" aG4 ["_law_script"] t.aKf t.yu
 jN:mg "MOST_PLACES"=some t.qX
 zT:RelV (.int 60) t.qX
 m_FewError:mg "FewError"=some (.ref t.sS)
 l_FewError:cA mg "FewError"=t.sS
 nH:aCy K t.sS
 aDh:mg "NoOneWay"=some (.ref t.sO)
 aDp:cA mg "NoOneWay"=t.sO
 jy:aCy K t.sO
 aAK:mg "all"=none
 aDf:mg "bool"=none
 aLz:mg "dict"=none
 aCO:mg "enumerate"=none
 aKd:mg "int"=none
 bG:mg "isinstance"=none
 gj:mg "len"=none
 uo:mg "list"=none
 aNX:mg "max"=none
 aHL:mg "min"=none
 dH:mg "range"=none
 aHK:mg "set"=none
 yD:mg "sorted"=none
 cg:mg "tuple"=none
section
variable{P:zA7}{w:World}{K:zAA}{mg:Str->Option Value}{base:Heap}{t:Adr}
theorem vN(T:Txt K mg t):cj P w K mg base (CX1 P w) 1 t.yj t.jG ["thing"] (spF K (cA mg) 1 lM):=
 bH (k:=0) (f:=jG) T.sH aBz λ n _ _ _ _ _ _ _=>
  (aM (az (fK (iI (aD 0) T.bG T.aKd) (jY (aG0 (iI (aD 0) T.bG T.aDf))))))
theorem tH(T:Txt K mg t):cj P w K mg base (CX1 P w) 1 t.vY t.fu ["things"] (spF K (cA mg) 1 dR):=
 bH (k:=0) (f:=fu) T.pK aAx λ n _ _ _ _ _ _ _=>
  (aK (gY (aAm (aB aH (aB (eV T.gj (aB (aD 0) aG)) aG)) T.dH) (cI (ks:=[1]))
   (aM (dm (fJ (zu (aJ (aD 0) (rE (aD 1) aH)) (aJ (aD 0) (aD 1))))
    (aM (az fO))
    bU)))
  (aM (az fO)))
theorem aBI(T:Txt K mg t):cj P w K mg base (CX1 P w) 1 t.vZ t.iZ ["many","rows"] (spF K (cA mg) 2 jU):=
 bH (k:=0) (f:=iZ) T.v6 aAy λ n _ _ _ _ _ _ _=>
  (aM (az (aE1 (zz T.yD (aB (aNA (N:=["row","place"]) (js:=[none,none]) (ks:=[0]) (ks2:=[1]) (gZ (aD 1)) cz jX (gZ (aD 0)) cz jX (aX (aD 1))) aG)) (rH T.uo T.dH (aD 0)))))
theorem aDd(T:Txt K mg t):cj P w K mg base (CX1 P w) 1 t.aA0 t.jt ["web"] (spF K (cA mg) 1 jw):=
 bH (k:=0) (f:=jt) T.aA6 aDR λ n _ _ _ _ _ _ _=>
  (aK (aMw (N:=["place"]) (js:=[none]) (ks:=[0]) (ie (aB (aJ (aD 0) aH) aG) T.dH) cz)
  (aK (gY (gZ (aJ (aD 0) aH)) (aDH (n:=2) (mV (cI (ks:=[2,3])) (mV (cI (ks:=[2,3])) aAp)))
   (aM (aDF 1 (aD 2) (aX (aD 3)))))
  (aM (az (j9 1)))))
theorem xx(T:Txt K mg t):cj P w K mg base (CX1 P w) 1 t.qp t.dX ["_law_script","_law_k"] (spF K (cA mg) 2 dZ):=
 bH (k:=0) (f:=dX) T.qw xX λ n _ _ _ _ _ _ _=>
  (aK (dm (zu (aD 1) (eV T.gj (aB (aD 0) aG)))
   (aM (az (aX (aJ (aD 0) (aD 1)))))
   bU)
  (aM (az aH)))
theorem bO(T:Txt K mg t):cj P w K mg base (CX1 P w) 1 t.yh t.iM ["_law_cell","_law_k","_law_bound"] (spF K (cA mg) 3 aQ):=
 bH (k:=0) (f:=iM) T.bT aBy λ n _ _ _ _ _ _ _=>
  (aK (dm (aMv (aD 0) (aGZ aH aH))
   (aK (cQ (i:=3) (iG (aD 0)))
   (aK (gY (ie (aB (aD 1) aG) T.dH) (cI (ks:=[4]))
    (aM (cQ (i:=3) (iG (aE0 (aD 3) (aD 2))))))
   (aM (az (rG (aD 3) (aD 2))))))
   bU)
  (aK (cQ (i:=5) (iG (rG (uW (au (au (rG (aD 0) aH) (uW aH (aD 1))) aH) aH) aH)))
  (aK (cQ (i:=5) (iG (rG (au (au (uW (aD 5) (aD 5)) (uW aH (aD 1))) aH) aH)))
  (aM (az (rG (aE0 (rG (uW (aD 5) aH) aH) aH) (aD 2)))))))
theorem aBG(T:Txt K mg t):cj P w K mg base (CX1 P w) 1 t.vV t.iW ["_law_found"] (spF K (cA mg) 1 jT):=
 bH (k:=0) (f:=iW) T.v4 aAu λ n _ _ _ _ _ _ _=>
  (aM (az (fK (iI (aD 0) T.bG T.aKd) (jY (aG0 (iI (aD 0) T.bG T.aDf))))))
theorem qZ(T:Txt K mg t):cj P w K mg base (CX1 P w) 1 t.tZ t.gK ["_law_row"] (spF K (cA mg) 1 dO):=
 bH (k:=0) (f:=gK) T.n6 zN λ n _ _ _ _ _ _ _=>
  (aM (az (uY T.aAK (aB (qY (N:=["_law_k","_law_row"]) (js:=[none,some 0]) (ks:=[0]) (aAm (aB aH (aB (eV T.gj (aB (aD 0) aG)) aG)) T.dH) cz jX (aMz (aJ (aD 1) (rE (aD 0) aH)) (aJ (aD 1) (aD 0)))) aG))))
theorem vy(T:Txt K mg t):cj P w K mg base (CX1 P w) 1 t.pF t.eO ["_law_rows","_law_many"] (spF K (cA mg) 2 gC):=
 bH (k:=0) (f:=eO) T.pJ vm λ n _ _ _ _ _ _ _=>
  (aK (gF (i:=2) (mR (mG aG)))
  (aK (gY (gZ (aD 0)) (cI (ks:=[3]))
   (aM (aDE 2 (aX (aD 3)))))
  (aM (az (aE1 (zz T.yD (aB (nJ 2) aG)) (rH T.uo T.dH (aD 1)))))))
theorem zU(T:Txt K mg t):cj P w K mg base (CX1 P w) 1 t.uA t.gM ["_law_web","_law_pairs"] (spF K (cA mg) 2 gU):=
 bH (k:=0) (f:=gM) T.uC zO λ n _ _ _ _ _ _ _=>
  (aK (gG (i:=2) (iG (aG2 T.aLz (aB (aD 1) aG))))
  (aK (gF (i:=3) (mR (mG aG)))
  (aK (gF (i:=4) (mR (mG aG)))
  (aK (gG (i:=5) (iG (rH T.uo T.dH (aJ (aD 0) aH))))
  (aK (gY (ie (aB (aJ (aD 0) aH) aG) T.dH) (cI (ks:=[6]))
   (aM (dm (aI8 (aD 6) (dF 2))
    (aK (gF (i:=7) (mR (mG (aB (aX (aD 6)) aG))))
    (aK (xN (aLA (aJ (nJ 7) (nM aH)) (dF 2))
     (aM (fB 7 (aDN (dF 2) (aJ (nJ 7) (nM aH))))))
    (aK (fB 3 (aX (jO T.cg (aB (nJ 7) aG))))
    (aM (gG (i:=5) (aKV (N:=["_law_one","_law_way"]) (js:=[none,some 7]) (ks:=[0]) (gZ (aD 5)) cz (aDI (aDD (aD 0) (aD 1))) (aX (aD 0))))))))
    bU)))
  (aK (xN (sZ (dF 5) (iH aG))
   (aK (gF (i:=8) (mR (mG (aB (aJ (dF 5) aH) aG))))
   (aK (xN (sZ (aDN (dF 2) (aJ (nJ 8) (nM aH))) (aJ (nJ 8) aH))
    (aM (fB 8 (aDN (dF 2) (aJ (nJ 8) (nM aH))))))
   (aK (fB 4 (aX (jO T.cg (aB (nJ 8) aG))))
   (aM (gG (i:=5) (aKV (N:=["_law_one","_law_ring"]) (js:=[none,some 8]) (ks:=[0]) (gZ (aD 5)) cz (aDI (aDD (aD 0) (aD 1))) (aX (aD 0)))))))))
  (aM (az (aj (aB (jO T.cg (aB (j9 3) aG)) (aB (jO T.cg (aB (j9 4) aG)) aG)))))))))))
theorem aDc(T:Txt K mg t):cj P w K mg base (CX1 P w) 2 t.aAZ t.jr ["thing"] (spF K (cA mg) 1 qH):=
 bH (k:=1) (f:=jr) T.aA5 aDQ λ n _ _ _ _ _ _ _=>
  (aM (az (fK (ak (vN T) T.sH (aB (aD 0) aG)) (jY (aIn aH (aD 0) (aAt T.jN T.zT (λ _ _=>.int _)))))))
theorem o6(T:Txt K mg t):cj P w K mg base (CX1 P w) 2 t.yo t.jJ ["many","thing"] (spF K (cA mg) 2 cV):=
 bH (k:=1) (f:=jJ) T.nj aCB λ n _ _ _ _ _ _ _=>
  (aM (az (fK (ak (vN T) T.sH (aB (aD 1) aG)) (jY (aEZ aH (aD 1) (aD 0))))))
theorem aCI(T:Txt K mg t):cj P w K mg base (CX1 P w) 2 t.yg t.jF ["_law_cell","_law_many"] (spF K (cA mg) 2 jK):=
 bH (k:=1) (f:=jF) T.yr aBx λ n _ _ _ _ _ _ _=>
  (aK (gF (i:=2) (mR (mG aG)))
  (aK (gY (ie (aB (aD 1) aG) T.dH) (cI (ks:=[3]))
   (aM (aFM 2 (ak (bO T) T.bT (aB (aD 0) (aB (au aH (aD 3)) (aB (au (aD 3) aH) aG)))) (aX (aD 3)))))
  (aM (az (j9 2)))))
theorem aDa(T:Txt K mg t):cj P w K mg base (CX1 P w) 2 t.aAX t.jo ["_law_cell"] (spF K (cA mg) 1 ju):=
 bH (k:=1) (f:=jo) T.aA3 aDO λ n _ _ _ _ _ _ _=>
  (aK (gG (i:=1) (iG (iH (aB rF (aB fO (aB aH (aB (nM aH) (aB uV (aB uV (aB (aj aG) (aB (iH aG) (aB aIo (aB (aj (aB (aj aG) aG)) (aB (aj (aB aH aG)) (aB (aj (aB (aj (aB aH (aB aH aG))) aG)) (aB (iH (aB aH (aB aH aG))) (aB (aj (aB rF aG)) (aB (aj (aB uV (aB uV aG))) (aB (aGZ aH aH) aG)))))))))))))))))))
  (aM (az (aJ (dF 1) (ak (bO T) T.bT (aB (aD 0) (aB aH (aB aH aG))))))))
theorem tG(T:Txt K mg t):cj P w K mg base (CX1 P w) 2 t.vX t.iY ["_law_web","_law_thing"] (spF K (cA mg) 2 bx):=
 bH (k:=1) (f:=iY) T.pI aAw λ n _ _ _ _ _ _ _=>
  (aK (dm (SW.st (mQ (fJ (fH (iI (aD 1) T.bG T.cg))) (jW (sr (eV T.gj (aB (aD 1) aG)) aH))))
   (aM (az fO))
   bU)
  (aK (dm (SW.st (mQ (fJ (fH (uY T.aAK (aB (qY (N:=["_law_one","_law_web"]) (js:=[none,some 0]) (ks:=[0]) (gZ (aD 1)) cz jX (fK (ak (aBG T) T.v4 (aB (aD 0) aG)) (jY (aEZ aH (aD 0) (aJ (aD 1) aH))))) aG)))) (jW (zu (aEY T.gj (aB (aGY T.aHK (aB (aD 1) aG)) aG)) (eV T.gj (aB (aD 1) aG))))))
   (aM (az fO))
   bU)
  (aM (az (uY T.aAK (aB (qY (N:=["_law_k","_law_thing","_law_web"]) (js:=[none,some 1,some 0]) (ks:=[0]) (ie (aB (rE (eV T.gj (aB (aD 1) aG)) aH) aG) T.dH) cz jX (aG1 (aj (aB (aJ (aD 1) (aD 0)) (aB (aJ (aD 1) (au (aD 0) aH)) aG))) (aJ (aD 2) aH))) aG))))))
theorem rW(T:Txt K mg t):cj P w K mg base (CX1 P w) 2 t.lw t.cT ["_law_cell","_law_web"] (spF K (cA mg) 2 cU):=
 bH (k:=1) (f:=cT) T.lz rJ λ n _ _ _ _ _ _ _=>
  (aK (gF (i:=2) (mR (mG aG)))
  (aK (gY (aIj (aB (aJ (aD 1) aH) aG) T.aCO) (aDH (n:=2) (mV (cI (ks:=[3,4])) (mV (cI (ks:=[3,4])) aAp)))
   (aM (dm (aGP (ak (bO T) T.bT (aB (aD 0) (aB (au aH (rG (aD 3) aH)) (aB aH aG)))) aH)
    (aM (dm (sr (qY (N:=["_law_one","_law_arrow"]) (js:=[none,some 4]) (ks:=[0]) (gZ (aD 2)) cz (aDI (SW.st (mQ (sr (aJ (aD 0) aH) (aJ (aD 1) aH)) (jW (sr (aJ (aD 0) aH) (aJ (aD 1) aH)))))) (aX (aD 0))) (iH aG))
     (aM (fB 2 (aX (aD 4))))
     bU))
    bU)))
  (aM (az (jO T.cg (aB (j9 2) aG))))))
theorem vq(T:Txt K mg t):cj P w K mg base (CX1 P w) 2 t.pC t.eN ["_law_cell","_law_spot","_law_row","_law_many"] (spF K (cA mg) 4 gB):=
 bH (k:=1) (f:=eN) T.pH vh λ n _ _ _ _ _ _ _=>
  (aK (cQ (i:=4) (iG (ak (bO T) T.bT (aB (aD 0) (aB (aD 1) (aB (au (eV T.gj (aB (aD 2) aG)) aH) aG))))))
  (aK (gG (i:=5) (iG (aJ (iH (aB aH (aB (aX (aD 3)) (aB (nM aH) (aB fO (aB rF (aB uV (aB (iH (aB aH aG)) (aB (rE (aD 3) aH) (aB aH aG)))))))))) (ak (bO T) T.bT (aB (aD 0) (aB (au (aD 1) aH) (aB aH aG)))))))
  (aK (gG (i:=6) (iG (iH (aB (au (au (aX (bN (aD 2) bh (bf (aD 4)))) (aj (aB (dF 5) aG))) (aX (bN (aD 2) (bf (au (aD 4) aH)) bh))) (aB (au (aX (bN (aD 2) bh (bf (aD 4)))) (aX (bN (aD 2) (bf (au (aD 4) aH)) bh))) (aB (au (au (aX (bN (aD 2) bh (bf (aD 4)))) (aj (aB (dF 5) aG))) (aX (bN (aD 2) (bf (aD 4)) bh))) (aB (aX (aDM (aD 2))) aG)))))))
  (aK (gG (i:=6) (iG (au (dF 6) (iH (aB (aAs T.uo (aB (aX (aD 2)) aG)) (aB (au (aX (aD 2)) (aX (bN (aD 2) bh (bf aH)))) (aB (au (aX (bN (aD 2) (bf aH) bh)) (aX (bN (aD 2) bh (bf aH)))) (aB (aj aG) (aB rF (aB (aj (aB (aX (aD 2)) aG)) aG))))))))))
  (aM (az (aJ (dF 6) (ak (bO T) T.bT (aB (aD 0) (aB (au (aD 1) aH) (aB aH aG)))))))))))
theorem aDb(T:Txt K mg t):cj P w K mg base (CX1 P w) 3 t.aAY t.jq ["many","thing"] (spF K (cA mg) 2 nF):=
 bH (k:=2) (f:=jq) T.aA4 aDP λ n _ _ _ _ _ _ _=>
  (aK (dm (SW.st (mQ (fJ (fH (iI (aD 1) T.bG T.cg))) (jW (sZ (eV T.gj (aB (aD 1) aG)) aH))))
   (aM (az fO))
   bU)
  (aM (az (fK (ak (o6 T) T.nj (aB (aD 0) (aB (aJ (aD 1) aH) aG))) (fK (ak (o6 T) T.nj (aB (aD 0) (aB (aJ (aD 1) aH) aG))) (jY (aMy (aJ (aD 1) aH) (aJ (aD 1) aH))))))))
theorem q9(T:Txt K mg t):cj P w K mg base (CX1 P w) 3 t.jd t.gP ["near","thing"] (spF K (cA mg) 2 bR):=
 bH (k:=2) (f:=gP) T.jA zR λ n _ _ _ _ _ _ _=>
  (aK (dm (SW.st (mQ (fJ (fH (iI (aD 1) T.bG T.cg))) (jW (sr (eV T.gj (aB (aD 1) aG)) aH))))
   (aM (az fO))
   bU)
  (aK (gY (gZ (aD 1)) (cI (ks:=[2]))
   (aM (dm (fJ (fH (ak (o6 T) T.nj (aB (eV T.gj (aB (aD 0) aG)) (aB (aD 2) aG)))))
    (aM (az fO))
    bU)))
  (aK (dm (sZ (aEY T.gj (aB (aGY T.aHK (aB (aD 1) aG)) aG)) (eV T.gj (aB (aD 1) aG)))
   (aM (az fO))
   bU)
  (aK (gY (aAm (aB aH (aB (eV T.gj (aB (aD 1) aG)) aG)) T.dH) (cI (ks:=[3]))
   (aM (dm (aDD (aJ (aD 1) (aD 3)) (aJ (aD 0) (aJ (aD 1) (rE (aD 3) aH))))
    (aM (az fO))
    bU)))
  (aM (az fO))))))
theorem xu(T:Txt K mg t):cj P w K mg base (CX1 P w) 3 t.qm t.fG ["_law_cell","_law_most"] (spF K (cA mg) 2 dY):=
 bH (k:=2) (f:=fG) T.qu xW λ n _ _ _ _ _ _ _=>
  (aK (cQ (i:=2) (iG (ak (bO T) T.bT (aB (aD 0) (aB aH (aB (au (aD 1) aH) aG))))))
  (aK (cQ (i:=3) (iG (ak (bO T) T.bT (aB (aD 0) (aB aH (aB aH aG))))))
  (aK (gG (i:=4) (iG (aJ (iH (aB aH (aB aH (aB aH (aB aH (aB aH (aB aH (aB aH (aB aH aG))))))))) (aD 3))))
  (aK (cQ (i:=5) (iG (ak (aCI T) T.yr (aB (aD 0) (aB (aD 2) aG)))))
  (aK (gF (i:=6) (mR (mG aG)))
  (aK (cQ (i:=7) (iG aH))
  (aK (gY (ie (aB (aD 2) aG) T.dH) (cI (ks:=[8]))
   (aM (gY (ie (aB (aD 8) aG) T.dH) (cI (ks:=[9]))
    (aK (cQ (i:=7) (iG (au (aD 7) aH)))
    (aK (cQ (i:=10) (iG (ak (bO T) T.bT (aB (aD 0) (aB (aD 7) (aB aH aG))))))
    (aK (dm (SW.st (mQ (zu (aD 10) (dF 4)) (jW (SW.st (xM (sr (aD 3) aH) (wM (sr (aD 8) (au (aD 9) aH))))))))
     (aM (fB 6 (aj (aB (aX (aJ (aD 5) (aD 9))) (aB (aX (aJ (aD 5) (aD 8))) aG)))))
     bU)
    (aM (dm (SW.st (mQ (SW.st (xM (aGP (aD 3) aH) (xM (sZ (aD 3) aH) (wM (zu (ak (bO T) T.bT (aB (aD 0) (aB (au (aD 7) aH) (aB aH aG)))) (rE (dF 4) aH)))))) (jW (SW.st (xM (sr (aD 3) aH) (wM (zu (aD 10) aH)))))))
     (aM (fB 6 (aj (aB (aX (aJ (aD 5) (aD 8))) (aB (aX (aJ (aD 5) (aD 9))) aG)))))
     bU))))))))
  (aK (dm (SW.st (xM (sr (aD 3) aH) (wM (aGP (aD 2) aH))))
   (aM (fB 6 (aj (aB (aX (aJ (aD 5) (rE (aD 2) aH))) (aB (aX (aJ (aD 5) aH)) aG)))))
   bU)
  (aM (az (aj (aB (aX (aD 2)) (aB (jO T.cg (aB (aAr T.yD T.aHK (aB (nJ 6) aG)) aG)) aG)))))))))))))
theorem aBH(T:Txt K mg t):cj P w K mg base (CX1 P w) 3 t.vW t.fj ["_law_web","_law_thing"] (spF K (cA mg) 2 gA):=
 bH (k:=2) (f:=fj) T.v5 aAv λ n _ _ _ _ _ _ _=>
  (aM (az (fK (ak (tG T) T.pI (aB (aD 0) (aB (aD 1) aG))) (fK (aNB (eV T.gj (aB (aD 1) aG)) aH) (fK (aE1 (aEX T.aHL (aB (aD 1) aG)) (aJ (aD 1) aH)) (jY (aG1 (aj (aB (aJ (aD 1) (nM aH)) (aB (aJ (aD 1) aH) aG))) (aJ (aD 0) aH))))))))
theorem qM(T:Txt K mg t):cj P w K mg base (CX1 P w) 3 t.lF t.cF ["_law_cell","_law_spot","_law_parting","_law_many"] (spF K (cA mg) 4 b7):=
 bH (k:=2) (f:=cF) T.lK qJ λ n _ _ _ _ _ _ _=>
  (aK (cQ (i:=4) (iG (ak (bO T) T.bT (aB (aD 0) (aB (aD 1) (aB (au (eV T.gj (aB (aD 2) aG)) aH) aG))))))
  (aK (cQ (i:=5) (iG (aJ (au (aD 2) (aj (aB (aj aG) aG))) (aD 4))))
  (aK (dm (fH (iI (aD 5) T.bG T.cg))
   (aM (gG (i:=6) (iG (ak (vq T) T.pH (aB (aD 0) (aB (au (aD 1) aH) (aB (aD 5) (aB (aD 3) aG))))))))
   (aM (gG (i:=6) (iG (aJ (iH (aB aH (aB (aX (aD 3)) (aB fO (aB rF (aB (au (aX (aD 5)) aH) (aB (aj (aB (aX (aD 5)) aG)) aG))))))) (ak (bO T) T.bT (aB (aD 0) (aB (au (aD 1) aH) (aB aH aG)))))))))
  (aK (gF (i:=7) (mR (mG (aB (au (au (aX (bN (aD 2) bh (bf (aD 4)))) (aj (aB (dF 6) aG))) (aX (bN (aD 2) (bf (au (aD 4) aH)) bh))) (aB (au (aX (bN (aD 2) bh (bf (aD 4)))) (aX (bN (aD 2) (bf (au (aD 4) aH)) bh))) (aB (au (aX (aD 2)) (aX (bN (aD 2) bh (bf aH)))) aG))))))
  (aK (gF (i:=7) (mR (aDJ (j9 7) (iH (aB (aX (aDM (aD 2))) (aB (aAs T.uo (aB (aX (aD 2)) aG)) (aB (aj (aB (aX (aD 2)) aG)) (aB rF (aB (au (aX (aD 2)) (aj (aB (aj aG) aG))) aG)))))))))
  (aK (fB 7 (au (au (aX (bN (aD 2) bh (bf (aD 4)))) (aj (aB (dF 6) aG))) (aX (bN (aD 2) (bf (aD 4)) bh))))
  (aM (az (aJ (j9 7) (ak (bO T) T.bT (aB (aD 0) (aB (au (aD 1) aH) (aB aH aG)))))))))))))
theorem qN(T:Txt K mg t):cj P w K mg base (CX1 P w) 4 t.lG t.bQ ["many","thing"] (spF K (cA mg) 2 cH):=
 bH (k:=3) (f:=bQ) T.lL qK λ n _ _ _ _ _ _ _=>
  (aK (dm (fJ (fH (iI (aD 1) T.bG T.cg)))
   (aM (az fO))
   bU)
  (aK (gY (gZ (aD 1)) (cI (ks:=[2]))
   (aM (dm (fJ (fH (ak (aDb T) T.aA4 (aB (aD 0) (aB (aD 2) aG)))))
    (aM (az fO))
    bU)))
  (aM (az (ak (tH T) T.pK (aB (aD 1) aG))))))
theorem zW(T:Txt K mg t):cj P w K mg base (CX1 P w) 4 t.jc t.eY ["near","thing"] (spF K (cA mg) 2 eZ):=
 bH (k:=3) (f:=eY) T.je zQ λ n _ _ _ _ _ _ _=>
  (aM (az (fK (ak (q9 T) T.jA (aB (aD 0) (aB (aD 1) aG))) (fK (aE1 (aJ (aD 1) aH) (aEX T.aHL (aB (aD 1) aG))) (jY (aG1 (aJ (aD 1) aH) (aJ (aD 0) (aJ (aD 1) (nM aH)))))))))
theorem xr(T:Txt K mg t):cj P w K mg base (CX1 P w) 4 t.ql t.fD ["_law_web","_law_thing"] (spF K (cA mg) 2 gq):=
 bH (k:=3) (f:=fD) T.qt xV λ n _ _ _ _ _ _ _=>
  (aK (dm (SW.st (mQ (fJ (fH (iI (aD 1) T.bG T.cg))) (mQ (sZ (eV T.gj (aB (aD 1) aG)) aH) (jW (fJ (fH (uY T.aAK (aB (qY (N:=["_law_part"]) (js:=[none]) (ks:=[0]) (gZ (aD 1)) cz jX (iI (aD 0) T.bG T.cg)) aG))))))))
   (aM (az fO))
   bU)
  (aK (dm (SW.st (mQ (fJ (fH (uY T.aAK (aB (qY (N:=["_law_way","_law_web"]) (js:=[none,some 0]) (ks:=[0]) (gZ (aJ (aD 1) aH)) cz jX (ak (tG T) T.pI (aB (aD 1) (aB (aD 0) aG)))) aG)))) (jW (fJ (fH (uY T.aAK (aB (qY (N:=["_law_ring","_law_web"]) (js:=[none,some 0]) (ks:=[0]) (gZ (aJ (aD 1) aH)) cz jX (ak (aBH T) T.v5 (aB (aD 1) (aB (aD 0) aG)))) aG)))))))
   (aM (az fO))
   bU)
  (aM (az (fK (ak (qZ T) T.n6 (aB (aJ (aD 1) aH) aG)) (fK (ak (qZ T) T.n6 (aB (aJ (aD 1) aH) aG)) (jY (ak (vy T) T.pJ (aB (au (aJ (aD 1) aH) (aJ (aD 1) aH)) (aB (aJ (aD 0) aH) aG))))))))))
theorem vp(T:Txt K mg t):cj P w K mg base (CX1 P w) 4 t.pB t.eG ["_law_cell","_law_spot","_law_thing","_law_many"] (spF K (cA mg) 4 eQ):=
 bH (k:=3) (f:=eG) T.pG vg λ n _ _ _ _ _ _ _=>
  (aK (cQ (i:=4) (iG (ak (bO T) T.bT (aB (aD 0) (aB (aD 1) (aB (eV T.gj (aB (aD 2) aG)) aG))))))
  (aK (gG (i:=5) (iG (ak (qM T) T.lK (aB (aD 0) (aB (au (aD 1) aH) (aB (aJ (aD 2) (aD 4)) (aB (aD 3) aG)))))))
  (aK (gG (i:=6) (iG (iH (aB (au (au (aX (bN (aD 2) bh (bf (aD 4)))) (aj (aB (dF 5) aG))) (aX (bN (aD 2) (bf (au (aD 4) aH)) bh))) (aB (aX (aDM (aD 2))) (aB (aX (bN (aD 2) bh (bf (nM aH)))) (aB (au (aX (aD 2)) (aj (aB (aj aG) aG))) (aB (aAs T.uo (aB (aX (aD 2)) aG)) (aB rF aG)))))))))
  (aM (az (aJ (dF 6) (aJ (iH (aB aH (aB aH (aB aH (aB aH (aB aH (aB aH (aB aH (aB aH aG))))))))) (ak (bO T) T.bT (aB (aD 0) (aB (au (aD 1) aH) (aB aH aG)))))))))))
theorem aAG(T:Txt K mg t):cj P w K mg base (CX1 P w) 5 t.aCf t.mz ["near","thing","goes"] (spF K (cA mg) 3 jV):=
 bH (k:=4) (f:=mz) T.yt aFU λ n _ _ _ _ _ _ _=>
  (aK (dm (fJ (fH (iI (aD 1) T.bG T.cg)))
   (aM (az fO))
   bU)
  (aK (gY (gZ (aD 1)) (cI (ks:=[3]))
   (aM (dm (fJ (fH (aG3 (i:=2) (aBk (q9 T) (zED rfl) T.qd T.jA.F.kp T.jA.b (aBk (zW T) (zED rfl) T.qb T.je.F.kp T.je.b aI3)) (aB (aD 0) (aB (aD 3) aG)) (yK (yK (λ _ _ h=>aEn h))))))
    (aM (az fO))
    bU)))
  (aM (az (ak (tH T) T.pK (aB (aD 1) aG))))))
theorem zV(T:Txt K mg t):cj P w K mg base (CX1 P w) 5 t.uB t.gO ["thing"] (spF K (cA mg) 1 jg):=
 bH (k:=4) (f:=gO) T.uD zP λ n _ _ _ _ _ _ _=>
  (aK (dm (SW.st (mQ (fJ (fH (iI (aD 0) T.bG T.cg))) (jW (sZ (eV T.gj (aB (aD 0) aG)) aH))))
   (aM (az fO))
   bU)
  (aM (az (fK (ak (aDc T) T.aA5 (aB (aJ (aD 0) aH) aG)) (jY (ak (qN T) T.lL (aB (aJ (aD 0) aH) (aB (aJ (aD 0) aH) aG))))))))
theorem ul(T:Txt K mg t):cj P w K mg base (CX1 P w) 6 t.oA t.dI ["thing"] (spF K (cA mg) 1 dJ):=
 bH (k:=5) (f:=dI) T.oF uZ λ n _ _ _ _ _ _ _=>
  (aM (dm (fJ (fH (ak (zV T) T.uD (aB (aD 0) aG))))
   (aM (aGR rfl T.aDh T.aDp T.jy (aB uV aG)))
   bU))
theorem o5(T:Txt K mg t):cj P w K mg base (CX1 P w) 7 t.ym t.jH ["web","thing"] (spF K (cA mg) 2 cG):=
 bH (k:=6) (f:=jH) T.ni aCA λ n _ _ _ _ _ _ _=>
  (aK (aIa (ak (ul T) T.oF (aB (aD 0) aG)))
  (aK (dm (SW.st (mQ (fJ (fH (iI (aD 1) T.bG T.cg))) (jW (sZ (eV T.gj (aB (aD 1) aG)) aH))))
   (aM (az fO))
   bU)
  (aK (aLB (aD 1) (aDH (n:=2) (mV (cI (ks:=[2,3])) (mV (cI (ks:=[2,3])) aAp))))
  (aK (cQ (i:=4) (iG (ak (aDd T) T.aA6 (aB (aD 0) aG))))
  (aM (az (fK (ak (aAG T) T.yt (aB (aD 4) (aB (aD 2) (aB (aAt (v:=.ref t.jd) T.jA.m rfl (λ _ _=>.fn T.qd)) aG)))) (fK (ak (aAG T) T.yt (aB (aD 4) (aB (aD 3) (aB (aAt (v:=.ref t.jc) T.je.m rfl (λ _ _=>.fn T.qb)) aG)))) (jY (ak (aBI T) T.v6 (aB (aJ (aD 0) aH) (aB (au (aD 2) (aD 3)) aG))))))))))))
theorem aLx(T:Txt K mg t):cj P w K mg base (CX1 P w) 8 t.aKf t.yu ["_law_script"] (spF K (cA mg) 1 aIS):=
 bH (k:=7) (f:=yu) T.aHv aLG λ n _ _ _ _ _ _ _=>
  (aK (gY (ie (aB (aIm T.aNX (aB aH (aB (aIl T.aHL (aB (eV T.gj (aB (aD 0) aG)) (aB aH aG))) aG))) aG) T.dH) (cI (ks:=[1]))
   (aK (cQ (i:=2) (iG (ak (xx T) T.qw (aB (aD 0) (aB (aD 1) aG)))))
   (aK (cQ (i:=3) (iG (ak (xu T) T.qu (aB (aD 2) (aB aH aG)))))
   (aK (cQ (i:=4) (iG (ak (zU T) T.uC (aB (aD 3) (aB (ak (rW T) T.lz (aB (aD 2) (aB (aD 3) aG))) aG)))))
   (aK (gF (i:=5) (mR (mG (aB (aX (aD 4)) (aB (aj (aB (jO T.cg (aB (qY (N:=["_law_place"]) (js:=[none]) (ks:=[0]) (ie (aB (aJ (aD 3) aH) aG) T.dH) cz jX (aj (aB (aX (aD 0)) aG))) aG)) (aB (aj aG) aG))) (aB (ak (aDa T) T.aA3 (aB (aD 2) aG)) (aB (aj (aB (aj aG) (aB (aj aG) aG))) aG)))))))
   (aK (cQ (i:=6) (iG (aFS T.cg T.dH (aJ (aD 3) aH))))
   (aK (gF (i:=5) (mR (aDJ (j9 5) (iH (aB (aj (aB (aj aG) (aB (aj (aB (aX (aD 6)) aG)) aG))) (aB (aj (aB (aj aG) (aB (aj (aB (aX (bN (aD 6) bh (bf aH))) (aB (aX (bN (aD 6) (bf aH) bh)) aG))) aG))) aG))))))
   (aK (gF (i:=5) (mR (aDJ (j9 5) (qY (N:=["_law_j","_law_cell","_law_pieces_here","_law_web"]) (js:=[none,some 2,some 4,some 3]) (ks:=[0]) (ie (aB aH aG) T.dH) cz jX (ak (vp T) T.pG (aB (aD 1) (aB (au aH (uW aH (aD 0))) (aB (aD 2) (aB (aJ (aD 3) aH) aG)))))))))
   (aK (fB 5 (aj (aB (aX (aJ (aD 4) aH)) (aB (jO T.cg (aB (qY (N:=["_law_ring"]) (js:=[none]) (ks:=[0]) (gZ (aJ (aD 4) aH)) cz jX (au (aX (bN (aD 0) (bf aH) bh)) (aX (bN (aD 0) bh (bf aH))))) aG)) aG))))
   (aI9 5 (aM (gY (gZ (aD 5)) (cI (ks:=[7]))
    (aM (gY (ie (aB aH aG) T.dH) (cI (ks:=[8]))
     (aK (cQ (i:=9) (iG (ak (o5 T) T.ni (aB (aD 3) (aB (aD 7) aG)))))
     (aM (dm (SW.st (mQ (fJ (fH (iI (aD 9) T.bG T.aDf))) (jW (sZ (aD 9) (ak (xr T) T.qt (aB (aD 3) (aB (aD 7) aG)))))))
      (aM (az fO))
      bU)))))))))))))))))
  (aM (az (fK (aKW (ak (o5 T) T.ni (aB (aj (aB aH (aB (aj (aB (aj (aB aH (aB aH aG))) (aB (aj (aB aH (aB aH aG))) aG))) aG))) (aB (aj (aB (aj aG) (aB (aj (aB (aj (aB aH (aB aH aG))) aG)) aG))) aG))) fO) (jY (aKW (ak (o5 T) T.ni (aB (aj (aB aH (aB (aj aG) aG))) (aB (aj (aB (aj aG) (aB (aj aG) aG))) aG))) fO))))))
end
theorem aKn{K:zAA}{h:Heap}{mg:Str->Option Value}{tk_MOST_PLACES:Tok}{q_FewError:Addr}{q_NoOneWay:Addr}(X:K.In h)(G:h.Ns zA9 mg)
  (h0:∃f d,Enr K "is_whole" rN f d)
  (h1:∃f d,Enr K "is_many" ue f d)
  (h2:∃f d,Enr K "is_place" rP f d)
  (h3:∃f d,Enr K "is_pair" ud f d)
  (h4:∃f d,Enr K "is_rising" oR f d)
  (h5:∃f d,Enr K "are_rising_pairs" iK f d)
  (h6:∃f d,Enr K "each_once" oU f d)
  (h7:∃f d,Enr K "goes_along" nT f d)
  (h8:∃f d,Enr K "goes_round" nR f d)
  (h9:∃f d,Enr K "all_go" xY f d)
  (h10:∃f d,Enr K "is_one_way" nQ f d)
  (h11:∃f d,Enr K "check_one_way" jZ f d)
  (h12:∃f d,Enr K "all_led" uf f d)
  (h13:∃f d,Enr K "is_round" rO f d)
  (h14:∃f d,Enr K "_law_cell_at" mK f d)
  (h15:∃f d,Enr K "_law_draw" rM f d)
  (h16:∃f d,Enr K "_law_whole" oM f d)
  (h17:∃f d,Enr K "_law_turn" rK f d)
  (h18:∃f d,Enr K "_law_one_way" mJ f d)
  (h19:∃f d,Enr K "_law_odd" uc f d)
  (h20:∃f d,Enr K "_law_rising" nO f d)
  (h21:∃f d,Enr K "_law_along" oO f d)
  (h22:∃f d,Enr K "_law_round" oN f d)
  (h23:∃f d,Enr K "_law_all_once" kW f d)
  (h24:∃f d,Enr K "_law_drawn_pairs" ik f d)
  (h25:∃f d,Enr K "_law_pieces" nP f d)
  (h26:∃f d,Enr K "_law_bent_row" kO f d)
  (h27:∃f d,Enr K "_law_bent_parting" iJ f d)
  (h28:∃f d,Enr K "_law_rounded" mH f d)
  (h29:∃f d,Enr K "_law_bent_two" kJ f d)
  (h30:∃f d,Enr K "law" aG4 f d)
  (jN:zAh K zA9 "MOST_PLACES"=some (some (.int 60 tk_MOST_PLACES)))
  (y_FewError:zAh K zA9 "FewError"=some (some (.ref q_FewError)))
  (nH:zEM K q_FewError [.type "ValueError",.type "Exception",.type "BaseException",.type "object"] "ValueError.__new__"=true)
  (y_NoOneWay:zAh K zA9 "NoOneWay"=some (some (.ref q_NoOneWay)))
  (jy:zEM K q_NoOneWay [.type "ValueError",.type "Exception",.type "BaseException",.type "object"] "ValueError.__new__"=true)
  (z_all:zAh K zA9 "all"=some none)
  (z_bool:zAh K zA9 "bool"=some none)
  (z_dict:zAh K zA9 "dict"=some none)
  (z_enumerate:zAh K zA9 "enumerate"=some none)
  (z_int:zAh K zA9 "int"=some none)
  (z_isinstance:zAh K zA9 "isinstance"=some none)
  (z_len:zAh K zA9 "len"=some none)
  (z_list:zAh K zA9 "list"=some none)
  (z_max:zAh K zA9 "max"=some none)
  (z_min:zAh K zA9 "min"=some none)
  (z_range:zAh K zA9 "range"=some none)
  (z_set:zAh K zA9 "set"=some none)
  (z_sorted:zAh K zA9 "sorted"=some none)
  (z_tuple:zAh K zA9 "tuple"=some none):
  ∃t,Txt K mg t:=by
 obtain⟨f0,d0,F0,a0⟩:=h0;have B0:=F0.binds (ps:=["thing"]) λ _ _ _ _ _ _ us hl=>by obtain⟨_,rfl⟩:=zY hl;rfl
 obtain⟨f1,d1,F1,a1⟩:=h1;have B1:=F1.binds (ps:=["thing"]) λ _ _ _ _ _ _ us hl=>by obtain⟨_,rfl⟩:=zY hl;rfl
 obtain⟨f2,d2,F2,a2⟩:=h2;have B2:=F2.binds (ps:=["many","thing"]) λ _ _ _ _ _ _ us hl=>by obtain⟨_,_,rfl⟩:=qP hl;rfl
 obtain⟨f3,d3,F3,a3⟩:=h3;have B3:=F3.binds (ps:=["many","thing"]) λ _ _ _ _ _ _ us hl=>by obtain⟨_,_,rfl⟩:=qP hl;rfl
 obtain⟨f4,d4,F4,a4⟩:=h4;have B4:=F4.binds (ps:=["things"]) λ _ _ _ _ _ _ us hl=>by obtain⟨_,rfl⟩:=zY hl;rfl
 obtain⟨f5,d5,F5,a5⟩:=h5;have B5:=F5.binds (ps:=["many","thing"]) λ _ _ _ _ _ _ us hl=>by obtain⟨_,_,rfl⟩:=qP hl;rfl
 obtain⟨f6,d6,F6,a6⟩:=h6;have B6:=F6.binds (ps:=["many","rows"]) λ _ _ _ _ _ _ us hl=>by obtain⟨_,_,rfl⟩:=qP hl;rfl
 obtain⟨f7,d7,F7,a7⟩:=h7;have B7:=F7.binds (ps:=["near","thing"]) λ _ _ _ _ _ _ us hl=>by obtain⟨_,_,rfl⟩:=qP hl;rfl
 obtain⟨f8,d8,F8,a8⟩:=h8;have B8:=F8.binds (ps:=["near","thing"]) λ _ _ _ _ _ _ us hl=>by obtain⟨_,_,rfl⟩:=qP hl;rfl
 obtain⟨f9,d9,F9,a9⟩:=h9;have B9:=F9.binds (ps:=["near","thing","goes"]) λ _ _ _ _ _ _ us hl=>by obtain⟨_,_,_,rfl⟩:=aNY hl;rfl
 obtain⟨f10,d10,F10,a10⟩:=h10;have B10:=F10.binds (ps:=["thing"]) λ _ _ _ _ _ _ us hl=>by obtain⟨_,rfl⟩:=zY hl;rfl
 obtain⟨f11,d11,F11,a11⟩:=h11;have B11:=F11.binds (ps:=["thing"]) λ _ _ _ _ _ _ us hl=>by obtain⟨_,rfl⟩:=zY hl;rfl
 obtain⟨f12,d12,F12,a12⟩:=h12;have B12:=F12.binds (ps:=["web"]) λ _ _ _ _ _ _ us hl=>by obtain⟨_,rfl⟩:=zY hl;rfl
 obtain⟨f13,d13,F13,a13⟩:=h13;have B13:=F13.binds (ps:=["web","thing"]) λ _ _ _ _ _ _ us hl=>by obtain⟨_,_,rfl⟩:=qP hl;rfl
 obtain⟨f14,d14,F14,a14⟩:=h14;have B14:=F14.binds (ps:=["_law_script","_law_k"]) λ _ _ _ _ _ _ us hl=>by obtain⟨_,_,rfl⟩:=qP hl;rfl
 obtain⟨f15,d15,F15,a15⟩:=h15;have B15:=F15.binds (ps:=["_law_cell","_law_k","_law_bound"]) λ _ _ _ _ _ _ us hl=>by obtain⟨_,_,_,rfl⟩:=aNY hl;rfl
 obtain⟨f16,d16,F16,a16⟩:=h16;have B16:=F16.binds (ps:=["_law_found"]) λ _ _ _ _ _ _ us hl=>by obtain⟨_,rfl⟩:=zY hl;rfl
 obtain⟨f17,d17,F17,a17⟩:=h17;have B17:=F17.binds (ps:=["_law_cell","_law_many"]) λ _ _ _ _ _ _ us hl=>by obtain⟨_,_,rfl⟩:=qP hl;rfl
 obtain⟨f18,d18,F18,a18⟩:=h18;have B18:=F18.binds (ps:=["_law_cell","_law_most"]) λ _ _ _ _ _ _ us hl=>by obtain⟨_,_,rfl⟩:=qP hl;rfl
 obtain⟨f19,d19,F19,a19⟩:=h19;have B19:=F19.binds (ps:=["_law_cell"]) λ _ _ _ _ _ _ us hl=>by obtain⟨_,rfl⟩:=zY hl;rfl
 obtain⟨f20,d20,F20,a20⟩:=h20;have B20:=F20.binds (ps:=["_law_row"]) λ _ _ _ _ _ _ us hl=>by obtain⟨_,rfl⟩:=zY hl;rfl
 obtain⟨f21,d21,F21,a21⟩:=h21;have B21:=F21.binds (ps:=["_law_web","_law_thing"]) λ _ _ _ _ _ _ us hl=>by obtain⟨_,_,rfl⟩:=qP hl;rfl
 obtain⟨f22,d22,F22,a22⟩:=h22;have B22:=F22.binds (ps:=["_law_web","_law_thing"]) λ _ _ _ _ _ _ us hl=>by obtain⟨_,_,rfl⟩:=qP hl;rfl
 obtain⟨f23,d23,F23,a23⟩:=h23;have B23:=F23.binds (ps:=["_law_rows","_law_many"]) λ _ _ _ _ _ _ us hl=>by obtain⟨_,_,rfl⟩:=qP hl;rfl
 obtain⟨f24,d24,F24,a24⟩:=h24;have B24:=F24.binds (ps:=["_law_cell","_law_web"]) λ _ _ _ _ _ _ us hl=>by obtain⟨_,_,rfl⟩:=qP hl;rfl
 obtain⟨f25,d25,F25,a25⟩:=h25;have B25:=F25.binds (ps:=["_law_web","_law_pairs"]) λ _ _ _ _ _ _ us hl=>by obtain⟨_,_,rfl⟩:=qP hl;rfl
 obtain⟨f26,d26,F26,a26⟩:=h26;have B26:=F26.binds (ps:=["_law_cell","_law_spot","_law_row","_law_many"]) λ _ _ _ _ _ _ us hl=>by obtain⟨_,_,_,_,rfl⟩:=aMF hl;rfl
 obtain⟨f27,d27,F27,a27⟩:=h27;have B27:=F27.binds (ps:=["_law_cell","_law_spot","_law_parting","_law_many"]) λ _ _ _ _ _ _ us hl=>by obtain⟨_,_,_,_,rfl⟩:=aMF hl;rfl
 obtain⟨f28,d28,F28,a28⟩:=h28;have B28:=F28.binds (ps:=["_law_web","_law_thing"]) λ _ _ _ _ _ _ us hl=>by obtain⟨_,_,rfl⟩:=qP hl;rfl
 obtain⟨f29,d29,F29,a29⟩:=h29;have B29:=F29.binds (ps:=["_law_cell","_law_spot","_law_thing","_law_many"]) λ _ _ _ _ _ _ us hl=>by obtain⟨_,_,_,_,rfl⟩:=aMF hl;rfl
 obtain⟨f30,d30,F30,a30⟩:=h30;have B30:=F30.binds (ps:=["_law_script"]) λ _ _ _ _ _ _ us hl=>by obtain⟨_,rfl⟩:=zY hl;rfl
 exact⟨⟨f0,_,f1,_,f2,_,f3,_,f4,_,f5,_,f6,_,f7,_,f8,_,f9,_,f10,_,f11,_,f12,_,f13,_,f14,_,f15,_,f16,_,f17,_,f18,_,f19,_,f20,_,f21,_,f22,_,f23,_,f24,_,f25,_,f26,_,f27,_,f28,_,f29,_,f30,_,_,q_FewError,q_NoOneWay⟩,⟨⟨F0,zA3 X G a0,B0⟩,⟨F1,zA3 X G a1,B1⟩,⟨F2,zA3 X G a2,B2⟩,⟨F3,zA3 X G a3,B3⟩,⟨F4,zA3 X G a4,B4⟩,⟨F5,zA3 X G a5,B5⟩,⟨F6,zA3 X G a6,B6⟩,⟨F7,zA3 X G a7,B7⟩,a7,⟨F8,zA3 X G a8,B8⟩,a8,⟨F9,zA3 X G a9,B9⟩,⟨F10,zA3 X G a10,B10⟩,⟨F11,zA3 X G a11,B11⟩,⟨F12,zA3 X G a12,B12⟩,⟨F13,zA3 X G a13,B13⟩,⟨F14,zA3 X G a14,B14⟩,⟨F15,zA3 X G a15,B15⟩,⟨F16,zA3 X G a16,B16⟩,⟨F17,zA3 X G a17,B17⟩,⟨F18,zA3 X G a18,B18⟩,⟨F19,zA3 X G a19,B19⟩,⟨F20,zA3 X G a20,B20⟩,⟨F21,zA3 X G a21,B21⟩,⟨F22,zA3 X G a22,B22⟩,⟨F23,zA3 X G a23,B23⟩,⟨F24,zA3 X G a24,B24⟩,⟨F25,zA3 X G a25,B25⟩,⟨F26,zA3 X G a26,B26⟩,⟨F27,zA3 X G a27,B27⟩,⟨F28,zA3 X G a28,B28⟩,⟨F29,zA3 X G a29,B29⟩,⟨F30,zA3 X G a30,B30⟩,zA3 X G jN,⟨_,rfl⟩,zA3 X G y_FewError,(by unfold cA;rw[zA3 X G y_FewError]),nH,zA3 X G y_NoOneWay,(by unfold cA;rw[zA3 X G y_NoOneWay]),jy,zAt X G z_all,zAt X G z_bool,zAt X G z_dict,zAt X G z_enumerate,zAt X G z_int,zAt X G z_isinstance,zAt X G z_len,zAt X G z_list,zAt X G z_max,zAt X G z_min,zAt X G z_range,zAt X G z_set,zAt X G z_sorted,zAt X G z_tuple⟩⟩
theorem aMa{l:zEo}{w:World}{K:zAA}{h:Heap}{mg:Str->Option Value}{fa:Addr}(X:K.In h)(G:h.Ns zA9 mg)(hfa:mg "law"=some (.ref fa))(ht:∃t,Txt K mg t):
  ∃fd:zAa,(∀(s:zAG) (v:Value),zFT s fd ⟨[v],[]⟩ [("_law_script",v)])/\∀base:Heap,K.In base->base.Ns zA9 mg->cj l.prog w K mg base (CX1 l.prog w) 8 fa fd ["_law_script"] (aES K):=by
 obtain⟨t,T⟩:=ht;have e:=hfa.symm.trans T.aHv.m;cases e;refine⟨t.yu,λ s v=>?_,λ base _ _=>(aLx T).imp (aJa aHV)⟩;obtain⟨oc,od,kV,doc,pm,an,cdv,ct,osl,e,lk,hcd⟩:=T.aHv.F.ex;rw[e];exact .of_eq rfl
theorem walk{l:zEo}{q:zA7}{loose:List Str}{XP:(Str->Option Value)->Heap->Prop}{YP:World->Heap->Prop}{d:DefRec}{K:Params->zAA}(hn:l.most=some 63)(hdf:d.params.defaults=[])
  (hY:∀(w:World) (h:Heap),YP w h->(K w.params).In h)
  (F:∀(w:World) (mg:Str->Option Value) (fa:Addr) (h:Heap),(K w.params).In h->h.Ns zA9 mg->mg d.name=some (.ref fa)->
   ∃fd:zAa,(∀(s:zAG) (u:Value),zFT s fd ⟨[u],[]⟩ [("_law_script",u)])/\∀base:Heap,(K w.params).In base->base.Ns zA9 mg->cj l.prog w (K w.params) mg base (CX1 l.prog w) 8 fa fd ["_law_script"] (aES (K w.params))):
  zHa q loose XP YP l.row.toRowW d [] (λ f vs=>zGt f vs):=
 L2.aI0 (n:=63) (k:=8) (x:="_law_script") (CX:=λ w=>CX1 l.prog w) (sp:=λ w=>aES (K w.params)) hn (by decide) hdf ⟨rfl,by decide,by decide⟩ hY F (λ _ _ a ns hl hO hS=>⟨a,ns,rfl,aLF hO hS,hl,λ _=>rfl⟩) λ _ _ _ _ _ ⟨_,_,_,_,_,_,_,_,_,_,_,_,_,z⟩=>z
end VL.My
open PySem PySem.W PyProof.Rows
set_option maxRecDepth 100000 in
set_option maxHeartbeats 0 in
theorem PySem.Challenge.cw_fewways_k61_round_partings_looked_at_holds : PySem.Challenge.rw_fewways_k61_round_partings_looked_at.Holds := by
 w_on; o_law; k_head; (case hw=>w_witness2)
 k_fill
 refine VL.My.walk (l:=PySem.Challenge.rw_fewways_k61_round_partings_looked_at) rfl rfl (fun w h Y=>PySem.W.kIn_of Y) ?F
 case F =>
  intro w mg fa h KX G hmg
  refine VL.My.aMa KX G hmg ?T
  case T =>
   refine' VL.My.aKn KX G (VL.enr ?a0 ?l0 ?c0 ?k0) (VL.enr ?a1 ?l1 ?c1 ?k1) (VL.enr ?a2 ?l2 ?c2 ?k2) (VL.enr ?a3 ?l3 ?c3 ?k3) (VL.enr ?a4 ?l4 ?c4 ?k4) (VL.enr ?a5 ?l5 ?c5 ?k5) (VL.enr ?a6 ?l6 ?c6 ?k6) (VL.enr ?a7 ?l7 ?c7 ?k7) (VL.enr ?a8 ?l8 ?c8 ?k8) (VL.enr ?a9 ?l9 ?c9 ?k9) (VL.enr ?a10 ?l10 ?c10 ?k10) (VL.enr ?a11 ?l11 ?c11 ?k11) (VL.enr ?a12 ?l12 ?c12 ?k12) (VL.enr ?a13 ?l13 ?c13 ?k13) (VL.enr ?a14 ?l14 ?c14 ?k14) (VL.enr ?a15 ?l15 ?c15 ?k15) (VL.enr ?a16 ?l16 ?c16 ?k16) (VL.enr ?a17 ?l17 ?c17 ?k17) (VL.enr ?a18 ?l18 ?c18 ?k18) (VL.enr ?a19 ?l19 ?c19 ?k19) (VL.enr ?a20 ?l20 ?c20 ?k20) (VL.enr ?a21 ?l21 ?c21 ?k21) (VL.enr ?a22 ?l22 ?c22 ?k22) (VL.enr ?a23 ?l23 ?c23 ?k23) (VL.enr ?a24 ?l24 ?c24 ?k24) (VL.enr ?a25 ?l25 ?c25 ?k25) (VL.enr ?a26 ?l26 ?c26 ?k26) (VL.enr ?a27 ?l27 ?c27 ?k27) (VL.enr ?a28 ?l28 ?c28 ?k28) (VL.enr ?a29 ?l29 ?c29 ?k29) (VL.enr ?a30 ?l30 ?c30 ?k30) ?jN ?y_FewError ?nH ?y_NoOneWay ?jy ?z_all ?z_bool ?z_dict ?z_enumerate ?z_int ?z_isinstance ?z_len ?z_list ?z_max ?z_min ?z_range ?z_set ?z_sorted ?z_tuple
   (case y_FewError=>k_is); (case nH=>k_exc)
   (case y_NoOneWay=>k_is); (case jy=>k_exc)
   any_goals k_is
