import PyProof.Rows.All
import Wide.All
import OpenK.AllK
import Wide.FinOn
import Lean
import PyProof.EqAt
import PyProof.EqKinds
import PyProof.TupleCall
import KE.LcSums
import PySem.Challenge.RW_fewways_k22_told_ends
open And renaming intro->zGC
open Array renaming length_toList->zA7,getD_eq_getD_getElem?->zBg,getElem?_toList->zBn,getD->zCW,getElem?_eq_some_iff->zCZ,getElem?_eq_getElem->zC8,toArray_toList->zEL,toList_push->zEk,replicate->zF9,getElem?_eq_none->zHT,toList_append->zHc,append_assoc->zHm,toList->zJA
open Array.Perm renaming refl->zH5
open Bool renaming and_eq_true->zAK,false_ne_true->zA3,false_eq_true->zAu,eq_iff_iff->zCU,and_true->zCp,not_eq_true'->zDC,and_false->zDF,or_eq_true->zDV,and_assoc->zEV,true_and->zEd,false_and->zGf,not_false->zIr,not_true->zJB,or_true->zJJ
open Classical renaming propDecidable->zFb,choose_spec->zGD
open False renaming elim->zAO
open ForInStep renaming yield->zB4
open Function renaming comp_def->zE2
open Int renaming toNat_of_nonneg->zCL,toNat_natCast->zC2,emod_lt_of_pos->zCw,emod_nonneg->zD0,le_trans->zEN,le_refl->zGE
open LawfulBEq renaming eq_of_beq->zDb
open LawfulMonad renaming bind_assoc->zJV
open List renaming getElem?_eq_getElem->zAB,length_map->zAE,map_cons->zAG,getElem?_eq_some_iff->zAH,mem_cons_self->zAI,mem_cons_of_mem->zAL,replicate->zAM,mem_cons->zAN,size_toArray->zAP,getElem?_map->zAT,mem_append_left->zAX,length_cons->zAY,getD_eq_getElem?_getD->zA1,length_append->zA5,mem_append_right->zA6,mem_singleton->zA8,map_map->zAb,pairwise_cons->zAf,append_nil->zAi,all_eq_true->zAj,lookup_cons->zAk,mem_append->zAm,mem_map->zAn,mem_of_getElem?->zAo,range->zAp,map_append->zAq,getElem?_cons_succ->zAz,length_set->zBA,getElem?_append_left->zBB,getElem?_cons_zero->zBC,drop_eq_getElem_cons->zBI,flatten_cons->zBJ,getElem?_set_ne->zBK,zip_cons_cons->zBM,mem_filter->zBN,mem_range->zBO,getElem_mem->zBR,filterMap_cons->zBS,append_assoc->zBT,length_filter_le->zBU,length_replicate->zBV,nodup_append->zBW,nodup_cons->zB1,getElem?_set_self->zB3,replicate_succ->zB7,pairwise_iff_getElem->zB9,foldl_cons->zBj,drop_length->zBo,not_mem_nil->zBp,mem_filterMap->zBs,length_nil->zBz,getElem?_replicate->zCF,map_congr_left->zCG,any_cons->zC0,getElem?_append_right->zC3,nodup_iff_pairwise_ne->zC4,cons_append->zCd,getElem_of_mem->zCh,all_cons->zCr,find?_cons->zCs,of_mem_zip->zCt,length_singleton->zDJ,any_eq_true->zDN,getElem_map->zDO,length_take->zDP,getElem_toArray->zDR,length_pos_iff->zDW,nil_append->zDX,pairwise_map->zDg,filter_cons_of_neg->zDo,filter_cons_of_pos->zDp,filter_cons->zDu,getElem?_eq_none->zEF,getElem?_range->zE3,map_id->zE4,contains_cons->zEf,lookup_append->zEg,mem_replicate->zEh,all_eq_false->zEo,length_range->zEp,map_nil->zFA,countP_cons->zFQ,ext_getElem->zFR,exists_mem_of_ne_nil->zGg,length_eq_zero_iff->zHV,range_succ_eq_map->zHY,all_map->zH8,range_eq_range'->zHe,flatten_append->zHn,length->zHo,mem_map_of_mem->zHp,range'->zHq,filter_append->zHw,getElem_range->zHx,zip_nil_right->zHy,foldl->zIN,foldl_append->zIO,zip_nil_left->zIP,getLast_mem->zI4,map_fst_zip->zI5,map_snd_zip->zI6,mem_flatMap->zI7,mem_reverse->zI8,nodup_range->zI9,range'_succ->zIa,length_zip->zIn,range_succ->zIo,nodup_nil->zIs,map_set->zJP
open List.Pairwise renaming nil->zGF
open List.Perm renaming refl->zBE,swap->zDU
open Nat renaming le_refl->zAS,lt_of_lt_of_le->zAU,ne_of_lt->zA0,zero_le->zA9,le_trans->zAg,lt_irrefl->zBP,le_of_lt->zBX,le_of_ble_eq_true->zBa,lt_succ_self->zBt,ne_of_gt->zCH,le_succ->zCM,le_of_lt_succ->zC5,lt_succ_of_lt->zC6,lt_of_le_of_lt->zCx,min_self->zD6,succ_pos->zD7,mod_lt->zDk,le_max_right->zDw,le_of_not_lt->zDx,le_max_left->zEO,not_lt_zero->zEP,not_lt->zFB,le_of_eq->zFS,lt_trans->zFT,sub_self->zFU,zero_add->zHf,succ_eq_add_one->zHz,lt_trichotomy->zIb,succ_min_succ->zIc,add_one_inj->zIt
open Nat.succ renaming inj->zGh
open Ne renaming symm->zDL
open Option renaming map_eq_some_iff->zBh,map_some->zCm,bind_some->zIA,map_none->zIQ,none->zJD,map->zJR
open Option.some renaming inj->zAa
open Or renaming inr->zBw,inl->zCi
open PyProof.Rows renaming step_dedup->zAs,IntsAre->zBD,seqObj->zBi,callWith_type1->zCI,envOfC->zCo,get?_update_seq->zDc,firstMet->zDs,kindOf->zEU,AllBare->zE5,KeyOrd->zFm,lt_int->zFn,sortedHeap->zGd,listUpdate_at->zIF,subscriptTail_builtinR->zIY,seqEpoch_at->zIw,boot_range->zJW
open PyProof.Rows.F renaming plain_set_update_loop->zCQ,entry_set_update_loop->zD8
open PyProof.Rows.IntsAre renaming int_at->zDq,length->zFc
open PyProof.Rows.KeyOrd renaming kle_refl->zCl,kle_trans->zDj,kle_of_klt->zEe,kle_antisymm->zH7
open PySem renaming wpAny_bind->zAD,Shared->zAF,wpAny_pure->zAR,sizeLine->zAW,starEach->zAZ,Program->zA2,mainGlobals->zA4,FuncData->zAc,Around->zAe,mem_of_lookup->zAh,compareOp->zAr,bootBuiltins->zAv,foldedSetIterable->zAw,wpAny_mono->zAy,behindInMarks->zBY,wpAny_holding->zBb,wpAny_Call_Name_kw->zBe,wpAny_truthy_bool->zBm,codeAny->zBq,sizeLine_eq->zBr,intKind->zBy,binaryOp->zCK,wpAny_loadPart_at->zCO,wpAny_newObj_type->zCP,wpAny_call_entry->zCT,assignEach->zCV,callerA->zCX,backTo->zC1,codeAny_builtin->zC9,wpAny_passesOwn->zCa,sysModules->zCe,wpAny_setState_of->zCf,wpAny_standAt->zCg,holding->zCk,cellsFrom->zCn,wpAny_askSetting->zCv,codeAny_mono->zDA,Arguments->zDE,SetTable->zDG,letOwnedTupleGo->zDH,swapsWith->zDI,Keyword->zD1,NameKind->zD3,keywordEach->zDd,wpAny_execs_nil->zDe,wpAny_isSubtype_exc->zDf,wpAny_newFunctionEnv_cells->zDn,assign->zEB,wpAny_comprehension_free->zEC,wpAny_pyIter_list->zED,Builtin->zEM,attributeBase->zEQ,excClassObj->zER,standAt->zES,wpAny_callSpecial?_slot->zET,Result->zE8,codeAny_call_function->zEa,scanBound->zEb,wpAny_loadPart'->zEc,closureFor->zEi,wpAny_Name->zEj,codeAny_call_builtin->zEm,wpAny_loadName_local->zEn,Paired->zEq,newFunctionEnv->zEx,pyNext->zEy,recursionLimit->zEz,wpAny_loadName_cell->zFP,backToKw->zFj,codeAmong->zFk,call_meets->zG9,intKind_is->zGa,newList->zGb,relabel->zGc,typeLookup->zGe,checkBuiltinCall->zHQ,noFill_tuple_add->zHR,wpAny_isInstance->zHS,GenState->zHU,codeAny_of_tree->zH2,subscripted->zH3,valueAt->zH4,isSubtype_type->zHk,wpAny_setField->zHl,pyIter->zHr,wpAny_call->zHs,BindsTo->zHt,call->zIB,compTurn->zIE,plainId_quiet->zIG,seq_tuple_add->zIH,swappedStores->zII,swapsWithSole->zIJ,wpAny_attempt->zIK,wpAny_newList->zIL,richCompare_meets_room->zIX,PassesOwn->zIe,builtinLookup_eq_fast->zIg,codeAny_func->zIh,concat_meets->zIi,lastMarks->zIj,seqIndex_neg->zIk,tupleKind->zIl,wpAny_isTrue_Compare1->zIm,boot_len->zIq,getItem->zIv,seqIndex_of->zIx,wpAny_loadName_free->zIy,wpAny_of_eq->zIz,Operator->zJC,Within->zJE,rawInt->zJG,tupleKind_room_in1->zJH,wpAny_pyIter_tuple->zJI,builtinsNs->zJX,defaultsOf->zJY,setsByText->zJZ,typeIs_int->zJ0,wpAny_assign_Name->zJ1,wpAny_pyIter_enum->zJ2,wpAny_pyIter_slot->zJ3,wpAny_rule->zJ4
open PySem.Around renaming under_plainId->zCY,frames_deeper->zHW
open PySem.AutoSeq1 renaming sub_tuple_tuple->zFa
open PySem.Builtin.Frozenset renaming addrOf->zIZ,newClass->zI0,sizeOf->zI1,slot0->zI2,updateFrom->zI3
open PySem.Builtin.List renaming listTooLong->zDS,listLengthHint->zE1
open PySem.Builtin.Range renaming rangeSize->zDT,rangeFitsLong->zEW,small->zJK
open PySem.Builtin.Tuple renaming tupleCompareSizes->zDy,tupleHashOf->zJL
open PySem.Calls renaming Name_function_global->zFl,evalArgs_plain->zH6
open PySem.CmpOp renaming NotIn->zJM
open PySem.Code renaming quiet_builtin->zHu
open PySem.F renaming plainAttrs_list->zCB,called_set->zCq,args_tuple_add_2->zD4,entry_tuple_add->zD9,slot_list_index->zDa,slot_tuple_add->zDl,slot_list_append->zDt,typeOf_object_class->zEX,type_list_append->zFo,plain_list_iadd->zGG,slot_list_count->zGH,type_list_index->zGI,plain_set_new->zHI,slot_set_iter->zHJ,slot_gs_get->zHd,slot_enumerate_next->zHv,sub_list_frozenset->zIM,slot_int_rmul->zJN
open PySem.Heap renaming get?_push_of_some->zAC,lt_size->zAQ,get?_push_size->zAV,size_push->zB8,get?_update_ne->zCE,SameBut->zD2,get?_update_self->zEE,get?_update_other->zHX,FlyingW->zJO
open PySem.Heap.SameBut renaming update->zBv
open PySem.NameKind renaming free->zBk,cell->zDK
open PySem.Obj renaming mapSeq->zCA,putSet->zId,mapFields->zJQ
open PySem.Paired renaming length->zGi
open PySem.SeqAt renaming EqAt->zDB,RcNeAt->zJF
open PySem.SeqAt.EqAt renaming of_refs->zCD,same->zCc,int_int->zEH,int_str->zEI,str_int->zEJ,bool_tuple->zFp,list_tuple->zFq,none_tuple->zFr,tuple_bool->zFs,tuple_list->zFt,tuple_none->zFu,bool_bool->zGJ,bool_list->zGK,bool_none->zGL,int_tuple->zGM,list_bool->zGN,list_none->zGO,none_bool->zGP,none_list->zGQ,str_tuple->zGR,tuple_int->zGS,tuple_str->zGT,bool_int->zGk,bool_str->zGl,int_bool->zGm,int_list->zGn,int_none->zGo,list_int->zGp,list_str->zGq,none_int->zGr,none_str->zGs,str_bool->zGt,str_list->zGu,str_none->zGv,str_str->zHL
open PySem.SeqAt.RcAt renaming lists_lengths->zC7,tuples->zDZ,lists->zD5,bool_tuple->zFv,list_tuple->zFw,none_tuple->zFx,tuple_bool->zFy,tuple_list->zFz,tuple_none->zGA,bool_bool->zGU,bool_list->zGV,bool_none->zGW,int_tuple->zGX,list_bool->zGY,list_none->zGZ,none_bool->zG0,none_list->zG1,none_none->zG2,str_tuple->zG3,tuple_int->zG4,tuple_str->zG5,bool_int->zGw,bool_str->zGx,int_bool->zGy,int_list->zGz,int_none->zHA,list_int->zHB,list_str->zHC,none_int->zHD,none_str->zHE,str_bool->zHF,str_list->zHG,str_none->zHH,int_int->zHM,int_str->zHN,str_int->zHO,str_str->zHP
open PySem.SeqAt.RcNeAt renaming lists_lengths->zE9,bool_tuple->zEr,list_tuple->zEs,none_tuple->zEt,tuple_bool->zEu,tuple_list->zEv,tuple_none->zEw,bool_bool->zFD,bool_list->zFE,bool_none->zFF,int_tuple->zFG,list_bool->zFH,list_none->zFI,none_bool->zFJ,none_list->zFK,none_none->zFL,str_tuple->zFM,tuple_int->zFN,tuple_str->zFO,bool_int->zFV,bool_str->zFW,int_bool->zFX,int_list->zFY,int_none->zFZ,list_int->zF0,list_str->zF1,none_int->zF2,none_str->zF3,str_bool->zF4,str_list->zF5,str_none->zF6,int_int->zFe,int_str->zFf,str_int->zFg,str_str->zFh,tuples->zGB,lists->zG6
open PySem.SetTable renaming below->zAl,bits->zAx,insertAt->zBG,leap->zBQ,runEnd->zBZ,turns->zCy,has->zDr,Probe->zF7,grown->zF8,insertAt_perm->zG7,layClean->zHa,advance->zHi,fresh->zIC,fill->zIU,fits->zIV,slot->zIW
open PySem.SetTable.below renaming go->zDQ
open PySem.SetTable.layClean renaming free->zBu
open PySem.SetTable.probe renaming go->zBl
open PySem.Str renaming ofString->zHj
open PySem.Value renaming ref->zB0,none->zB6,int->zCS,type->zCj,builtin->zDm,bool->zEK,isInt->zFi,str->zH1,notImplemented->zHb,isStrOf->zIu,float->zJU
open PySem.W renaming Frag->zAA,mg_of->zAJ,nsIn->zAd,mg_none_of->zAt,kia_one->zBF,findIn->zBH,excIn->zBL,emptyDict->zB2,keepIn->zB5,fnOf->zBc,kitOne->zBd,hideAll->zBf,instObj->zBx,hideAll_get->zCC,tabObj->zCJ,kla_obj->zCR,envX->zCb,cellsFrom_some->zCu,codeIn->zCz,looks_findIn->zDM,of_hideAll->zDY,codeHdIn->zDh,ksm_same->zDi,kas_rev->zDv,hideAll_none->zDz,hideAll_size->zEA,lookIn->zEG,Looks->zEY,callWith_K->zEZ,codeRec_of->zE0,kitx_dict->zE6,methodObj->zE7,plainGet->zEl,OpenLaw->zFC,kla_fn->zFd,funFrames_hide->zGj,KasT->zHK,codeHd_of_K->zHZ,plainGet_of->zH0,kitx_tuple->zH9,kas_place->zHg,kitx_list->zHh,CodeHd->zIR,InstAt->zIS,KdlSrc->zIT,WalkO->zIf,isFn->zIp
open PySem.W.Looks renaming ld->zJS,now->zJT
open PySem.Walks renaming list->zID
open Sum renaming inl->zCN,inr->zG8
open True renaming intro->zDD
noncomputable section
namespace PySem.W.Fast
theorem tw9979917251971445824:True:=⟨⟩
theorem tw2967197328919460192:True:=⟨⟩
theorem tw3746069475668005088:True:=⟨⟩
theorem tw14169992028027172736:True:=⟨⟩
theorem tw233194109241179232:True:=⟨⟩
theorem tw2973154058056043552:True:=⟨⟩
theorem tw4802422250971123328:True:=⟨⟩
theorem tw3554827831851259808:True:=⟨⟩
theorem tw14234220804570775040:True:=⟨⟩
theorem tw1853395271136332576:True:=⟨⟩
theorem tw15449587628460050208:True:=⟨⟩
theorem tw17406816045991748032:True:=⟨⟩
theorem tw423247285922444544:True:=⟨⟩
theorem tw13530918775119602945:True:=⟨⟩
theorem tw1022791669274517697:True:=⟨⟩
theorem tw12572370979628170433:True:=⟨⟩
theorem tw8885290950877857921:True:=⟨⟩
theorem tw2897873347601258273:True:=⟨⟩
theorem tw3385637347439474433:True:=⟨⟩
theorem tw17603182790286418337:True:=⟨⟩
theorem tw13630237517520512705:True:=⟨⟩
theorem tw7384499771680044673:True:=⟨⟩
theorem tw16714994804404792481:True:=⟨⟩
theorem tw6265513072563334882:True:=⟨⟩
theorem tw18100028806664062914:True:=⟨⟩
theorem tw4179405263427907106:True:=⟨⟩
theorem tw11842202895395611202:True:=⟨⟩
theorem tw18406593676618688674:True:=⟨⟩
theorem tw14305703635708188834:True:=⟨⟩
theorem tw5692195161308406210:True:=⟨⟩
theorem tw4123512829503098978:True:=⟨⟩
theorem tw11855861479129910114:True:=⟨⟩
theorem tw15217205460975694531:True:=⟨⟩
theorem tw3513199925749021027:True:=⟨⟩
theorem tw6155934029036221667:True:=⟨⟩
theorem tw3297661917216416259:True:=⟨⟩
theorem tw12138722423255164003:True:=⟨⟩
theorem tw16986065583854594147:True:=⟨⟩
theorem tw3999127619441689987:True:=⟨⟩
theorem tw6255616374545819683:True:=⟨⟩
theorem tw14200426231732336547:True:=⟨⟩
theorem tw3798365514381093667:True:=⟨⟩
theorem tw2347600946843472963:True:=⟨⟩
theorem tw1758301762930486339:True:=⟨⟩
theorem tw7000083888802688003:True:=⟨⟩
theorem tw1506466038752033795:True:=⟨⟩
theorem tw16583510942504633827:True:=⟨⟩
theorem tw2012999096039293699:True:=⟨⟩
theorem tw18414014403187998852:True:=⟨⟩
theorem tw16415920382540116708:True:=⟨⟩
theorem tw10726008150166391140:True:=⟨⟩
theorem tw8670981439923793476:True:=⟨⟩
theorem tw10974300178492294372:True:=⟨⟩
theorem tw10885873775367754980:True:=⟨⟩
theorem tw11819829036631457156:True:=⟨⟩
theorem tw12195109032258063396:True:=⟨⟩
theorem tw13218506522183720837:True:=⟨⟩
theorem tw259789803535058469:True:=⟨⟩
theorem tw2041843549496612677:True:=⟨⟩
theorem tw2095576420303456485:True:=⟨⟩
theorem tw2918329317776527525:True:=⟨⟩
theorem tw177100997688821189:True:=⟨⟩
theorem tw1675171488109714469:True:=⟨⟩
theorem tw15092245605823197381:True:=⟨⟩
theorem tw13126651322927850693:True:=⟨⟩
theorem tw1653353958697919654:True:=⟨⟩
theorem tw7542894493865590150:True:=⟨⟩
theorem tw10349019660074009574:True:=⟨⟩
theorem tw17317457351985924230:True:=⟨⟩
theorem tw14338114972047345734:True:=⟨⟩
theorem tw15550490441757287430:True:=⟨⟩
theorem tw9223539634303182374:True:=⟨⟩
theorem tw249292881600328230:True:=⟨⟩
theorem tw10555717288442266438:True:=⟨⟩
theorem tw5994327647495063014:True:=⟨⟩
theorem tw4646355292193934022:True:=⟨⟩
theorem tw14454044148382602598:True:=⟨⟩
theorem tw1235787171005941094:True:=⟨⟩
theorem tw3103265209762492551:True:=⟨⟩
theorem tw9391017109839368935:True:=⟨⟩
theorem tw8046949376847930375:True:=⟨⟩
theorem tw13709068360469805543:True:=⟨⟩
theorem tw9081168171492434343:True:=⟨⟩
theorem tw16425135582670375207:True:=⟨⟩
theorem tw7017982722602217575:True:=⟨⟩
theorem tw56657518441678215:True:=⟨⟩
theorem tw6226575156796084551:True:=⟨⟩
theorem tw2405467660479786247:True:=⟨⟩
theorem tw3169601200139037607:True:=⟨⟩
theorem tw8653992931386461000:True:=⟨⟩
theorem tw4653436576080104264:True:=⟨⟩
theorem tw15423457353427709704:True:=⟨⟩
theorem tw6941131682658626184:True:=⟨⟩
theorem tw12624487562373150024:True:=⟨⟩
theorem tw2642976476394549224:True:=⟨⟩
theorem tw8986280208078906216:True:=⟨⟩
theorem tw1636103477481272040:True:=⟨⟩
theorem tw4922246780235727464:True:=⟨⟩
theorem tw15369992226141059624:True:=⟨⟩
theorem tw3095668771750630441:True:=⟨⟩
theorem tw17320404326271656873:True:=⟨⟩
theorem tw14468337527190238409:True:=⟨⟩
theorem tw3029001886492348073:True:=⟨⟩
theorem tw10846170172449983081:True:=⟨⟩
theorem tw5566927962329069449:True:=⟨⟩
theorem tw183772731770699241:True:=⟨⟩
theorem tw6572842184395454089:True:=⟨⟩
theorem tw6643875664673911081:True:=⟨⟩
theorem tw4234379042943279178:True:=⟨⟩
theorem tw14615546406809489130:True:=⟨⟩
theorem tw5190691000913342058:True:=⟨⟩
theorem tw17151243356878077546:True:=⟨⟩
theorem tw10652921178833114666:True:=⟨⟩
theorem tw17719888224486601194:True:=⟨⟩
theorem tw15281108099725999530:True:=⟨⟩
theorem tw9497606350608156074:True:=⟨⟩
theorem tw2215242152353956490:True:=⟨⟩
theorem tw13654578462247093834:True:=⟨⟩
theorem tw6946229000770824778:True:=⟨⟩
theorem tw13224982918409527530:True:=⟨⟩
theorem tw12315024407995903210:True:=⟨⟩
theorem tw17307473242856260842:True:=⟨⟩
theorem tw6495234240376693258:True:=⟨⟩
theorem tw1707716711582979050:True:=⟨⟩
theorem tw12172596695782337802:True:=⟨⟩
theorem tw730481965673683531:True:=⟨⟩
theorem tw17870404330053499755:True:=⟨⟩
theorem tw15347749351865173739:True:=⟨⟩
theorem tw6818579414879209131:True:=⟨⟩
theorem tw13283590956701589835:True:=⟨⟩
theorem tw1161847924945638667:True:=⟨⟩
theorem tw3618400732595076651:True:=⟨⟩
theorem tw12096871315880288331:True:=⟨⟩
theorem tw13197562953639261195:True:=⟨⟩
theorem tw12084211838155210763:True:=⟨⟩
theorem tw8294199045673899979:True:=⟨⟩
theorem tw2470064911941339979:True:=⟨⟩
theorem tw18079201464452534379:True:=⟨⟩
theorem tw12104989294366568044:True:=⟨⟩
theorem tw15628251985082230988:True:=⟨⟩
theorem tw951197475023434156:True:=⟨⟩
theorem tw18013158653303942572:True:=⟨⟩
theorem tw11204977268191511564:True:=⟨⟩
theorem tw5430120513816818700:True:=⟨⟩
theorem tw17467027235949734796:True:=⟨⟩
theorem tw16918476580707267404:True:=⟨⟩
theorem tw15494309690141232908:True:=⟨⟩
theorem tw17726239939058986028:True:=⟨⟩
theorem tw12496828660928620588:True:=⟨⟩
theorem tw7939272848135058412:True:=⟨⟩
theorem tw11209207102954860524:True:=⟨⟩
theorem tw6421507091230416524:True:=⟨⟩
theorem tw704896619547623340:True:=⟨⟩
theorem tw14838748658006123405:True:=⟨⟩
theorem tw16673486837900533933:True:=⟨⟩
theorem tw9199244699832825677:True:=⟨⟩
theorem tw7812035239200050157:True:=⟨⟩
theorem tw4792229996382491981:True:=⟨⟩
theorem tw15344933425760770669:True:=⟨⟩
theorem tw14776528482363210285:True:=⟨⟩
theorem tw847535016119508558:True:=⟨⟩
theorem tw13513238794922548974:True:=⟨⟩
theorem tw7828150491967535790:True:=⟨⟩
theorem tw16522304114286613774:True:=⟨⟩
theorem tw2676152821613568494:True:=⟨⟩
theorem tw2547143666406213102:True:=⟨⟩
theorem tw11031361890020404238:True:=⟨⟩
theorem tw10054883392112796622:True:=⟨⟩
theorem tw11443428032760127310:True:=⟨⟩
theorem tw10619238984230567918:True:=⟨⟩
theorem tw1768724751640568750:True:=⟨⟩
theorem tw789277206634850735:True:=⟨⟩
theorem tw17178223921231311951:True:=⟨⟩
theorem tw7759956315468650863:True:=⟨⟩
theorem tw6283611042321372175:True:=⟨⟩
theorem tw8977412650650984687:True:=⟨⟩
theorem tw14906793183547648239:True:=⟨⟩
theorem tw11718270263948743567:True:=⟨⟩
theorem tw12578171369356190351:True:=⟨⟩
theorem tw13549704766979490735:True:=⟨⟩
theorem tw143320039004794383:True:=⟨⟩
theorem tw10359441494639343055:True:=⟨⟩
theorem tw17368927695477360303:True:=⟨⟩
theorem tw5843422490039833199:True:=⟨⟩
theorem tw5037665075706478863:True:=⟨⟩
theorem tw816530971576913167:True:=⟨⟩
theorem tw16593885102624866863:True:=⟨⟩
theorem tw13817622094312780624:True:=⟨⟩
theorem tw6204630741773635632:True:=⟨⟩
theorem tw3777861036274041488:True:=⟨⟩
theorem tw2457923881640101456:True:=⟨⟩
theorem tw13878324540572159504:True:=⟨⟩
theorem tw2904673887822262064:True:=⟨⟩
theorem tw2123766062273223120:True:=⟨⟩
theorem tw6414045216755803536:True:=⟨⟩
theorem tw16574504916707010224:True:=⟨⟩
theorem tw12730398443537955152:True:=⟨⟩
theorem tw9415089938642870544:True:=⟨⟩
theorem tw5983210552976699600:True:=⟨⟩
theorem tw12654737482406191312:True:=⟨⟩
theorem tw10123756919422595216:True:=⟨⟩
theorem tw3539823126826057136:True:=⟨⟩
theorem tw5566053675130946992:True:=⟨⟩
theorem tw12941203114949497936:True:=⟨⟩
theorem tw9547724479812402192:True:=⟨⟩
theorem tw2955003814386265104:True:=⟨⟩
theorem tw9410280130152832976:True:=⟨⟩
theorem tw6869190055679894480:True:=⟨⟩
theorem tw2966526396001736656:True:=⟨⟩
theorem tw3248250140586746096:True:=⟨⟩
theorem tw2753255063781489552:True:=⟨⟩
theorem tw2427552597925220817:True:=⟨⟩
theorem tw16130429231472666353:True:=⟨⟩
theorem tw17558107157499415281:True:=⟨⟩
theorem tw7096213284275356273:True:=⟨⟩
theorem tw1274326024049722929:True:=⟨⟩
theorem tw9543820223759971825:True:=⟨⟩
theorem tw11374941059166199889:True:=⟨⟩
theorem tw10889405509593506897:True:=⟨⟩
theorem tw5529156682042073201:True:=⟨⟩
theorem tw17248192699964359665:True:=⟨⟩
theorem tw10720215670249336817:True:=⟨⟩
theorem tw13404554539500367857:True:=⟨⟩
theorem tw7389671484954357329:True:=⟨⟩
theorem tw14899693874329604466:True:=⟨⟩
theorem tw8896240210057266194:True:=⟨⟩
theorem tw3941474616631157810:True:=⟨⟩
theorem tw17514100069636353618:True:=⟨⟩
theorem tw5867649678826132882:True:=⟨⟩
theorem tw14346088385551185106:True:=⟨⟩
theorem tw18253934666030781874:True:=⟨⟩
theorem tw9167927914874314387:True:=⟨⟩
theorem tw17591128112322596371:True:=⟨⟩
theorem tw3409468925907612467:True:=⟨⟩
theorem tw14134497575347092947:True:=⟨⟩
theorem tw748833613754384051:True:=⟨⟩
theorem tw4776388098353051987:True:=⟨⟩
theorem tw1842964246328046195:True:=⟨⟩
theorem tw15043274169673256563:True:=⟨⟩
theorem tw438439937454807315:True:=⟨⟩
theorem tw2618943828749205043:True:=⟨⟩
theorem tw1303906113430532307:True:=⟨⟩
theorem tw946666724593347731:True:=⟨⟩
theorem tw880784204695658579:True:=⟨⟩
theorem tw12544891319566110003:True:=⟨⟩
theorem tw9390275000508599539:True:=⟨⟩
theorem tw4032665389365517075:True:=⟨⟩
theorem tw3535788210501832916:True:=⟨⟩
theorem tw7671120641952857236:True:=⟨⟩
theorem tw18199770748956670132:True:=⟨⟩
theorem tw11301320928032998580:True:=⟨⟩
theorem tw10000882280794615444:True:=⟨⟩
theorem tw6713048054599567956:True:=⟨⟩
theorem tw16287586343849859604:True:=⟨⟩
theorem tw13636336313695496660:True:=⟨⟩
theorem tw17479416646171869940:True:=⟨⟩
theorem tw3576249634858084309:True:=⟨⟩
theorem tw3274553947048385717:True:=⟨⟩
theorem tw13580238752889452597:True:=⟨⟩
theorem tw15744760323765733365:True:=⟨⟩
theorem tw10661866817088994965:True:=⟨⟩
theorem tw5063564527126675029:True:=⟨⟩
theorem tw16357028733690292085:True:=⟨⟩
theorem tw4401635301263327029:True:=⟨⟩
theorem tw4789203067977825749:True:=⟨⟩
theorem tw1382390993251337685:True:=⟨⟩
theorem tw2791576549714316021:True:=⟨⟩
theorem tw13747227266923424149:True:=⟨⟩
theorem tw9112595181433052789:True:=⟨⟩
theorem tw4854659167276357237:True:=⟨⟩
theorem tw17809724466939007253:True:=⟨⟩
theorem tw6606483505981959669:True:=⟨⟩
theorem tw4005648884799497301:True:=⟨⟩
theorem tw10705345262034163061:True:=⟨⟩
theorem tw9680465651484290806:True:=⟨⟩
theorem tw10697070845908717590:True:=⟨⟩
theorem tw8209074798417621910:True:=⟨⟩
theorem tw6571814428897876534:True:=⟨⟩
theorem tw16887111466148983350:True:=⟨⟩
theorem tw11828846468843095894:True:=⟨⟩
theorem tw2692124669441738582:True:=⟨⟩
theorem tw11307050537303088630:True:=⟨⟩
theorem tw4277384461592567222:True:=⟨⟩
theorem tw6540449071851179382:True:=⟨⟩
theorem tw1867414208948387062:True:=⟨⟩
theorem tw14066212163539949014:True:=⟨⟩
theorem tw11541931740579201142:True:=⟨⟩
theorem tw18385960966439978390:True:=⟨⟩
theorem tw7941824691564206134:True:=⟨⟩
theorem tw14474897670994415958:True:=⟨⟩
theorem tw8665534849496024054:True:=⟨⟩
theorem tw1590161661424962550:True:=⟨⟩
theorem tw16160765629360612183:True:=⟨⟩
theorem tw7309713848609304407:True:=⟨⟩
theorem tw7732516894899415479:True:=⟨⟩
theorem tw4643015305120415319:True:=⟨⟩
theorem tw8294362982655007319:True:=⟨⟩
theorem tw3805733615704443351:True:=⟨⟩
theorem tw12027778343065948631:True:=⟨⟩
theorem tw14496025885059426359:True:=⟨⟩
theorem tw1691840309213553655:True:=⟨⟩
theorem tw17292231275723229335:True:=⟨⟩
theorem tw5098953774033797207:True:=⟨⟩
theorem tw345209963146147927:True:=⟨⟩
theorem tw12390151436148645559:True:=⟨⟩
theorem tw13024365374609297367:True:=⟨⟩
theorem tw10865379238070760856:True:=⟨⟩
theorem tw11717023703957855096:True:=⟨⟩
theorem tw4032294888753419416:True:=⟨⟩
theorem tw12801338845355509496:True:=⟨⟩
theorem tw2137205768877657784:True:=⟨⟩
theorem tw3292004393152557752:True:=⟨⟩
theorem tw10182313100676781976:True:=⟨⟩
theorem tw6439104448519059288:True:=⟨⟩
theorem tw3492284825175899928:True:=⟨⟩
theorem tw1491234386551711096:True:=⟨⟩
theorem tw2587322098969695608:True:=⟨⟩
theorem tw176469642849122616:True:=⟨⟩
theorem tw959185623388815544:True:=⟨⟩
theorem tw12826306761639485113:True:=⟨⟩
theorem tw8217797880234650297:True:=⟨⟩
theorem tw14392919461968405945:True:=⟨⟩
theorem tw2111175692387835609:True:=⟨⟩
theorem tw2814072763543020921:True:=⟨⟩
theorem tw5626765409126218041:True:=⟨⟩
theorem tw2367633284898112025:True:=⟨⟩
theorem tw1864488900127332889:True:=⟨⟩
theorem tw10574621110278109369:True:=⟨⟩
theorem tw12509109770410524121:True:=⟨⟩
theorem tw15663997538968912953:True:=⟨⟩
theorem tw1847100878471288153:True:=⟨⟩
theorem tw15249304003745841145:True:=⟨⟩
theorem tw11069901491833358617:True:=⟨⟩
theorem tw14341525004941742458:True:=⟨⟩
theorem tw13443156786437101818:True:=⟨⟩
theorem tw1716764784263165946:True:=⟨⟩
theorem tw5661256190434289818:True:=⟨⟩
theorem tw8986564165981230586:True:=⟨⟩
theorem tw16803690865579896314:True:=⟨⟩
theorem tw17516446429965629787:True:=⟨⟩
theorem tw8315527364870197243:True:=⟨⟩
theorem tw13861575574251867227:True:=⟨⟩
theorem tw4840368370462800923:True:=⟨⟩
theorem tw3855365750126778331:True:=⟨⟩
theorem tw12291493096261138395:True:=⟨⟩
theorem tw134280461786921883:True:=⟨⟩
theorem tw16047336520349554043:True:=⟨⟩
theorem tw13023414065012795643:True:=⟨⟩
theorem tw2139741089424063739:True:=⟨⟩
theorem tw4778066739875381307:True:=⟨⟩
theorem tw14837879524021302908:True:=⟨⟩
theorem tw10204380816095858044:True:=⟨⟩
theorem tw4494058910824938876:True:=⟨⟩
theorem tw7935896562908678684:True:=⟨⟩
theorem tw14355898872446910940:True:=⟨⟩
theorem tw17677538858239700444:True:=⟨⟩
theorem tw16391263622488563036:True:=⟨⟩
theorem tw14585606296387333884:True:=⟨⟩
theorem tw7217577983719377948:True:=⟨⟩
theorem tw6166603380031341085:True:=⟨⟩
theorem tw2680024621619118269:True:=⟨⟩
theorem tw14949408201963470301:True:=⟨⟩
theorem tw15876237268890888669:True:=⟨⟩
theorem tw2762209379609696605:True:=⟨⟩
theorem tw8600298023332203869:True:=⟨⟩
theorem tw7268708586878925629:True:=⟨⟩
theorem tw3672051325908556477:True:=⟨⟩
theorem tw3151858721739205117:True:=⟨⟩
theorem tw15874157340210275837:True:=⟨⟩
theorem tw7400540703008008861:True:=⟨⟩
theorem tw12699855467426616542:True:=⟨⟩
theorem tw16825844312293521278:True:=⟨⟩
theorem tw3583603908114338974:True:=⟨⟩
theorem tw12743876717259374398:True:=⟨⟩
theorem tw13177121296014328574:True:=⟨⟩
theorem tw12211151913705982718:True:=⟨⟩
theorem tw15911332447594182398:True:=⟨⟩
theorem tw12686671722533382846:True:=⟨⟩
theorem tw11629406544446609086:True:=⟨⟩
theorem tw13186191709316745918:True:=⟨⟩
theorem tw7904173716189852286:True:=⟨⟩
theorem tw12637119722945327742:True:=⟨⟩
theorem tw18251957030192520830:True:=⟨⟩
theorem tw1808457441590719998:True:=⟨⟩
theorem tw13199710014897710878:True:=⟨⟩
theorem tw7886993228309450462:True:=⟨⟩
theorem tw7495376308867551966:True:=⟨⟩
theorem tw589661784408467038:True:=⟨⟩
theorem tw13126878223916042718:True:=⟨⟩
theorem tw1093952511352493534:True:=⟨⟩
theorem tw1175676190411504766:True:=⟨⟩
theorem tw12130858035854070174:True:=⟨⟩
theorem tw1388562295491228062:True:=⟨⟩
theorem tw3197133728651727870:True:=⟨⟩
theorem tw51775123189732638:True:=⟨⟩
theorem tw15907399323523749311:True:=⟨⟩
theorem tw14825515307865343647:True:=⟨⟩
theorem tw4469828416707052127:True:=⟨⟩
theorem tw14753527257289151007:True:=⟨⟩
theorem tw3388434850402986175:True:=⟨⟩
theorem tw5987097702754977183:True:=⟨⟩
theorem tw13751649856521745471:True:=⟨⟩
theorem tw7901261536792502559:True:=⟨⟩
theorem tw9614701020905316511:True:=⟨⟩
theorem tw15197614866472120479:True:=⟨⟩
theorem tw9964764706710362207:True:=⟨⟩
theorem tw5050748569711654591:True:=⟨⟩
theorem tw5942942432636000159:True:=⟨⟩
theorem tw7050024418034067007:True:=⟨⟩
theorem tw3876621369350884449:True:=⟨⟩
theorem tw3853034717545558855:True:=⟨⟩
end PySem.W.Fast
set_option bootstrap.genMatcherCode false
set_option compiler.extract_closed false
set_option Elab.async false
set_option linter.all false
set_option maxRecDepth 100000
namespace L2
open PySem PySem.Spec PyProof.Rows
abbrev Key:=Sum Int Str
def aAe:Key->Value->Bool
 | .inl k,v=>zFi k v
 | .inr x,v=>zIu x v
def aPD(w:World):Key->Int
 | .inl k=>hashInt k
 | .inr x=>hashStr w x
theorem dO:∀{k:Key} {v:Value},aAe k v=true->(∃i t,k=zCN i/\v=zCS i t)\/(∃x t,k=zG8 x/\v=zH1 x t)
 | .inl i,v,h=>by
  obtain⟨t,e⟩:=Value.isInt_shape (k:=i) (v:=v) h;exact .inl ⟨i,t,rfl,e⟩
 | .inr x,v,h=>by
  obtain⟨t,e⟩:=Value.isStrOf_shape (x:=x) (v:=v) h;exact .inr ⟨x,t,rfl,e⟩
theorem aG9(i:Int)(t:Tok):aAe (.inl i) (.int i t)=true:=by simp[aAe,zFi]
theorem aG8(x:Str)(t:Tok):aAe (.inr x) (.str x t)=true:=by simp[aAe,zIu]
theorem aNQ(a b:Int):decide ((zCN a:Key)=zCN b)=(a==b):=by
 by_cases e:a=b
 ·subst e;simp
 ·have h:¬(zCN a:Key)=zCN b:=λ q=>e (Sum.inl.inj q)
  rw[decide_eq_false h];exact(beq_eq_false_iff_ne.mpr e).symm
theorem aNN(a b:Str):decide ((zG8 a:Key)=zG8 b)=decide (a=b):=by
 by_cases e:a=b
 ·subst e;simp
 ·have h:¬(zG8 a:Key)=zG8 b:=λ q=>e (Sum.inr.inj q)
  rw[decide_eq_false h,decide_eq_false e]
theorem aNP(a:Int)(b:Str):decide ((zCN a:Key)=zG8 b)=false:=decide_eq_false (λ q=>nomatch q)
theorem aNO(a:Str)(b:Int):decide ((zG8 a:Key)=zCN b)=false:=decide_eq_false (λ q=>nomatch q)
def fQ(prog:zA2)(w:World):PySem.KeyKind prog w Key where
 is:=aAe
 hash:=aPD w
 inj:=λ v a b ha hb=>by
  rcases dO ha with ⟨i,t,rfl,rfl⟩|⟨x,t,rfl,rfl⟩
  ·rcases dO hb with ⟨j,u,rfl,e⟩|⟨y,u,rfl,e⟩
   ·injection e with e1 _;rw[e1]
   ·exact nomatch e
  ·rcases dO hb with ⟨j,u,rfl,e⟩|⟨y,u,rfl,e⟩
   ·exact nomatch e
   ·injection e with e1 _;rw[e1]
 byValue:=λ k v h=>by
  rcases dO h with ⟨i,t,rfl,rfl⟩|⟨x,t,rfl,rfl⟩<;>rfl
 pyHash:=λ hv h=>by
  rcases dO hv with ⟨i,t,rfl,rfl⟩|⟨x,t,rfl,rfl⟩
  ·exact wpAny_pyHash_int h
  ·exact wpAny_pyHash_str h
 eqBool:=λ hu hv h=>by
  rcases dO hu with ⟨i,t,rfl,rfl⟩|⟨x,t,rfl,rfl⟩
  ·rcases dO hv with ⟨j,u,rfl,rfl⟩|⟨y,u,rfl,rfl⟩
   ·rw[aNQ]at h;exact wpAny_eqBool_int h
   ·rw[aNP]at h;exact zEI i t y u _ _ _ _ h
  ·rcases dO hv with ⟨j,u,rfl,rfl⟩|⟨y,u,rfl,rfl⟩
   ·rw[aNO]at h;exact zEJ x t j u _ _ _ _ h
   ·rw[aNN]at h;exact wpAny_eqBool_str h
 «strs»:=λ k x t v h=>by
  rcases dO h with ⟨i,u,rfl,e⟩|⟨y,u,rfl,e⟩
  ·exact nomatch e
  ·injection e with e1 _
   subst e1;cases v<;>rfl
theorem aCx(prog:zA2)(w:World)(i:Int)(t:Tok):(fQ prog w).is (.inl i) (.int i t)=true:=aG9 i t
theorem aCw(prog:zA2)(w:World)(x:Str)(t:Tok):(fQ prog w).is (.inr x) (.str x t)=true:=aG8 x t
inductive V where
 |non|bl (b:Bool)|int (i:Int)|str (x:Str)|byt (b:Array UInt8)|flt (b:UInt64)|ref (a:Addr)|ty (n:String)
 deriving DecidableEq
def RelV:V->Value->Prop
 | .non,u=>u=zB6
 | .bl b,u=>u=zEK b
 | .int i,u=>∃t,u=zCS i t
 | .str x,u=>∃t,u=zH1 x t
 | .byt b,u=>∃t,u=Value.bytes b t
 | .flt b,u=>∃t,u=zJU b t
 | .ref a,u=>u=zB0 a
 | .ty n,u=>u=zCj n
abbrev Vals:List V->List Value->Prop:=zEq RelV
theorem Vals.length{xs:List V}{us:List Value}(r:Vals xs us):xs.length=us.length:=zGi r
theorem Vals.get:∀{xs:List V} {us:List Value} {i:Nat} {x:V},Vals xs us->xs[i]? =some x->∃u,us[i]? =some u/\RelV x u
 |_,_,_,_,.nil,e=>by simp at e
 |_,_,0,_,.cons r _,e=>by simp at e;subst e;exact⟨_,rfl,r⟩
 |_,_,i+1,x,.cons _ t,e=>by
  obtain⟨u,h1,h2⟩:=Vals.get (i:=i) (x:=x) t (by simpa using e);exact⟨u,by simpa using h1,h2⟩
theorem Vals.set{x:V}{u:Value}(r:RelV x u):∀{xs:List V} {us:List Value} (i:Nat),Vals xs us->Vals (xs.set i x) (us.set i u)
 |_,_,_,.nil=>.nil
 |_,_,0,.cons _ t=>.cons r t
 |_,_,i+1,.cons q t=>.cons q (Vals.set r i t)
theorem Vals.append:∀{xs ys:List V} {us ws:List Value},Vals xs us->Vals ys ws->Vals (xs++ys) (us++ws)
 |_,_,_,_,.nil,s=>s
 |_,_,_,_,.cons r t,s=>.cons r (Vals.append t s)
def uf:Option V->Option Value->Prop
 |some v,some u=>RelV v u
 |none,none=>True
 |_,_=>False
def KV{κ:Type}:List (κ×V)->List (κ×Value)->Prop:=zEq λ(p:κ×V) (q:κ×Value)=>p.1=q.1/\RelV p.2 q.2
def kV:Key->V
 | .inl i=>.int i
 | .inr x=>.str x
inductive HO where
 |lst (xs:List V)
 |tup (xs:List V)
 |dK (kvs:List (Key×V))|dT (kvs:List (List Key×V))
 |set (S:Int->Bool) (n:Nat)
 |ins (C dx:Addr) (fs:List (Str×V))
 |own (x:Addr)
 |xd (fs:List (Str×V))
 |met (f x:Addr)
 |rng (lo hi:Int)
 |frz (o:Obj) (u:HO)
 |tbl (ps:Array Value)
 |ext (φ:Heap->Prop)
abbrev Hp:=Addr->Option HO
def upd(H:Hp)(a:Addr)(o:HO):Hp:=λ b=>if b=a then some o else H b
theorem bH{H:Hp}{a:Addr}{o:HO}:upd H a o a=some o:=by unfold upd;rw[if_pos rfl]
theorem aj{H:Hp}{a b:Addr}{o:HO}(h:b≠a):upd H a o b=H b:=by unfold upd;rw[if_neg h]
theorem bc{H:Hp}{a b:Addr}{o:HO}(h:H a=some o)(h':H b=none):a≠b:=by
 intro e;subst e;rw[h]at h';cases h'
section
variable(P:zA2)(w:World)
def cj(H:Hp)(h:Heap)(a:Addr):HO->Prop
 | .lst xs=>xs.length<=zAW/\∃(its:List Value) (n:Nat),Vals xs its/\h.get? a=some {cls:=.type "list",data:=.seq its.toArray n}
 | .tup xs=>xs.length<=zAW/\∃its:List Value,Vals xs its/\IsTup h a its.toArray
 | .dK kvs=>kvs.length<=zAW/\(a==zCe)=false/\∃vs,KV kvs vs/\h.DictOf (fQ P w) a vs
 | .dT kvs=>kvs.length<=zAW/\(a==zCe)=false/\∃xs:List (List Key×Addr×Value),
   zEq (λ(p:List Key×V) (q:List Key×Addr×Value)=>p.1=q.1/\H q.2.1=some (.tup (p.1.map kV))/\RelV p.2 q.2.2) kvs xs/\
   ∃o es ep,h.get? a=some o/\o.ExactDict/\o.data= .dict es ep/\es.toList=xs.map (entryOfKey (zIl (fQ P w)))/\(xs.map (·.1)).Nodup
 | .set S n=>h.SetOf (zBy P w) a S n
 | .ins C dx fs=>H dx=some (.own a)/\fs.length<=1000/\dx≠a/\h.get? a=some (zBx C dx)/\
   ∃mA,h.Ns1 dx mA/\(∀f,uf (fs.lookup f) (mA f))/\zJE mA (fs.map (·.1))
 | .own _=>∃o,h.get? a=some o
 | .xd fs=>∃mA,h.Ns1 a mA/\∀f,uf (fs.lookup f) (mA f)
 | .rng lo hi=>∃t u v,h.get? a=some {cls:=.type "range",data:=.fields #[.int lo t,.int hi u,.int 1 v]}
 | .frz o u=>h.get? a=some o/\cj H h a u
 | .tbl ps=>h.get? a=some {cls:=.none,data:=.fields ps}
 | .met f x=>h.get? a=some (zE7 (.ref f) (.ref x))
 | .ext φ=>φ h/\(∃o,h.get? a=some o)/\∀h1 h2:Heap,φ h1->(∀o,h1.get? a=some o->h2.get? a=some o)->φ h2
def HOk(H:Hp)(h:Heap):Prop:=∀a o,H a=some o->cj P w H h a o
end
section
variable{P:zA2}{w:World}{H H':Hp}{h h':Heap}{a:Addr}{o:HO}
theorem cj.lt(x:cj P w H h a o):a<h.objs.size:=by
 cases o with
 |lst xs=>obtain⟨_,_,_,_,e⟩:=x;exact zAQ e
 |tup xs=>obtain⟨_,_,_,p⟩:=x;exact p.lt
 |dK kvs=>obtain⟨_,_,_,_,o,_,_,e,_⟩:=x;exact zAQ e
 |dT kvs=>obtain⟨_,_,_,_,o,_,_,e,_⟩:=x;exact zAQ e
 |set S n=>obtain⟨o,_,_,_,e,_⟩:=x;exact zAQ e
 |ins C dx fs=>obtain⟨_,_,_,e,_⟩:=x;exact zAQ e
 |own y=>obtain⟨_,e⟩:=x;exact zAQ e
 |xd fs=>obtain⟨_,⟨_,_,_,e,_⟩,_⟩:=x;exact zAQ e
 |rng lo hi=>obtain⟨_,_,_,e⟩:=x;exact zAQ e
 |frz ob u=>obtain⟨e,_⟩:=x;exact zAQ e
 |tbl ps=>exact zAQ (show h.get? a=some _ from x)
 |met f y=>exact zAQ (show h.get? a=some _ from x)
 |ext φ=>obtain⟨_,⟨_,e⟩,_⟩:=x;exact zAQ e
theorem Paired.mapP{α β:Type}{F G:α->β->Prop}:∀{l₁:List α} {l₂:List β},zEq F l₁ l₂->(∀a b,F a b->G a b)->zEq G l₁ l₂
 |_,_,.nil,_=>.nil
 |_,_,.cons r t,f=>.cons (f _ _ r) (Paired.mapP t f)
theorem cj.stay(x:cj P w H h a o)(k:∀b u,(b=a\/H b=some (.own a))->h.get? b=some u->h'.get? b=some u)
  (ho:∀b,H b=some (.own a)->H' b=some (.own a))(ht:∀b xs,H b=some (.tup xs)->H' b=some (.tup xs)):cj P w H' h' a o:=by
 induction o with
 |lst xs=>obtain⟨z,its,n,r,e⟩:=x;exact⟨z,its,n,r,k _ _ (.inl rfl) e⟩
 |tup xs=>obtain⟨z,its,r,ob,e,c⟩:=x;exact⟨z,its,r,ob,k _ _ (.inl rfl) e,c⟩
 |dK kvs=>obtain⟨z,y,vs,r,ob,es,ep,e,c⟩:=x;exact⟨z,y,vs,r,ob,es,ep,k _ _ (.inl rfl) e,c⟩
 |dT kvs=>
  obtain⟨z,y,xs,r,ob,es,ep,e,c⟩:=x;exact⟨z,y,xs,Paired.mapP r λ p q z=>⟨z.1,ht _ _ z.2.1,z.2.2⟩,ob,es,ep,k _ _ (.inl rfl) e,c⟩
 |set S n=>obtain⟨ob,es,ep,t,e,c⟩:=x;exact⟨ob,es,ep,t,k _ _ (.inl rfl) e,c⟩
 |ins C dx fs=>
  obtain⟨d,z,ne,e,mA,⟨od,es,ep,e2,c⟩,r⟩:=x;exact⟨ho _ d,z,ne,k _ _ (.inl rfl) e,mA,⟨od,es,ep,k _ _ (.inr d) e2,c⟩,r⟩
 |own y=>obtain⟨ob,e⟩:=x;exact⟨ob,k _ _ (.inl rfl) e⟩
 |xd fs=>obtain⟨mA,⟨od,es,ep,e,c⟩,r⟩:=x;exact⟨mA,⟨od,es,ep,k _ _ (.inl rfl) e,c⟩,r⟩
 |rng lo hi=>obtain⟨t,u,v,e⟩:=x;exact⟨t,u,v,k _ _ (.inl rfl) e⟩
 |frz ob u ih=>obtain⟨e,q⟩:=x;exact⟨k _ _ (.inl rfl) e,ih q⟩
 |tbl ps=>
  have e:h.get? a=some {cls:=.none,data:=.fields ps}:=x;show h'.get? a=some {cls:=.none,data:=.fields ps};exact k a _ (.inl rfl) e
 |met f y=>
  have e:h.get? a=some (zE7 (.ref f) (.ref y)):=x;show h'.get? a=some (zE7 (.ref f) (.ref y));exact k a _ (.inl rfl) e
 |ext φ=>obtain⟨p,⟨o,e⟩,st⟩:=x;exact⟨st _ _ p λ o q=>k _ _ (.inl rfl) q,⟨o,k _ _ (.inl rfl) e⟩,st⟩
theorem HOk.lt(x:HOk P w H h)(e:H a=some o):a<h.objs.size:=(x a o e).lt
theorem HOk.fresh(x:HOk P w H h)(e:h.objs.size<=a):H a=none:=by
 cases q:H a with
 |none=>rfl
 |some u=>exact absurd (zAU (x.lt q) e) (zBP _)
theorem HOk.kept(x:HOk P w H h)(k:∀b u,h.get? b=some u->h'.get? b=some u):HOk P w H h':=λ a o e=>
 (x a o e).stay (λ b u _ q=>k b u q) (λ _ q=>q) λ _ _ q=>q
theorem HOk.laid(x:HOk P w H h)(k:∀b u,h.get? b=some u->h'.get? b=some u)(hp:h.objs.size<=a)(new:cj P w (upd H a o) h' a o):HOk P w (upd H a o) h':=λ b u e=>by
 have hn:=x.fresh hp;by_cases hb:b=a
 ·subst hb;rw[bH]at e;cases e;exact new
 ·rw[aj hb]at e
  exact(x b u e).stay (λ c v _ q=>k c v q) (λ c q=>by rw[aj (bc q hn)];exact q) λ c xs q=>by rw[aj (bc q hn)];exact q
end
def Rd(H:Hp)(a:Addr)(u:HO):Prop:=H a=some u\/∃o,H a=some (.frz o u)
theorem Rd.ok{P:zA2}{w:World}{H:Hp}{h:Heap}{a:Addr}{u:HO}(r:Rd H a u)(x:HOk P w H h):cj P w H h a u:=by
 rcases r with r|⟨o,r⟩
 ·exact x a u r
 ·obtain⟨_,q⟩:=x a _ r
  exact q
def Mut:Option HO->Prop
 |some (.lst _)=>True
 |some (.dK _)=>True
 |some (.dT _)=>True
 |some (.set _ _)=>True
 |some (.ins _ _ _)=>True
 |some (.ext _)=>True
 |_=>False
section
variable{P:zA2}{w:World}{H:Hp}{h h':Heap}{x e:Addr}{o':HO}
theorem HOk.write(ok:HOk P w H h)(mu:Mut (H x))(he:e=x\/H e=some (.own x))(k:∀b u,b≠e->h.get? b=some u->h'.get? b=some u)(heo:∃u,h'.get? e=some u)
  (new:cj P w (upd H x o') h' x o'):HOk P w (upd H x o') h':=λ b u q=>by
 have nown:∀c y,H c=some (.own y)->c≠x:=λ c y r z=>by subst z;rw[r]at mu;exact mu
 have ntup:∀c xs,H c=some (.tup xs)->c≠x:=λ c xs r z=>by subst z;rw[r]at mu;exact mu
 by_cases hb:b=x
 ·subst hb;rw[bH]at q;cases q;exact new
 ·rw[aj hb]at q
  by_cases hbe:b=e
  ·have q':H b=some (.own x):=by
    rcases he with z|z
    ·exact absurd (hbe.trans z) hb
    ·rw[hbe];exact z
   rw[q]at q';cases q';obtain⟨v,hv⟩:=heo;exact⟨v,by rw[hbe];exact hv⟩
  ·refine(ok b u q).stay (λ c v hc r=>k c v ?_ r) (λ c r=>by rw[aj (nown c b r)];exact r) λ c xs r=>by rw[aj (ntup c xs r)];exact r
   rcases hc with rfl|hc
   ·exact hbe
   ·rintro rfl
    rcases he with z|z
    ·exact nown c b hc z
    ·rw[hc]at z;cases z;exact hb rfl
end
structure Un(fs ex:List Addr)(H H':Hp)(h h':Heap):Prop where
 keep:∀b o,h.get? b=some o->H b=none->b∉fs->b∉ex->h'.get? b=some o
 slot:∀b o,h.get? b=some o->H b=none->b∈fs->b∉ex->∃sl,h'.get? b=some {o with slots:=sl}
 free:∀b o,h.get? b=some o->H b=none->b∉ex->H' b=none
 there:∀b o,h.get? b=some o->b∉ex->∃o',h'.get? b=some o'
 tups:∀b xs,H b=some (.tup xs)->H' b=some (.tup xs)
 frzs:∀b o u,H b=some (.frz o u)->H' b=some (.frz o u)
 tbls:∀b ps,H b=some (.tbl ps)->∃more,H' b=some (.tbl (ps++more))
section
variable{fs fs' ex ex':List Addr}{H H1 H2:Hp}{h h1 h2 h':Heap}{a x e:Addr}{o:HO}
theorem Un.any(u:Un fs ex H H1 h h1){b:Addr}{ob:Obj}(q:h.get? b=some ob)(n:H b=none)(hx:b∉ex):∃sl,h1.get? b=some {ob with slots:=sl}:=by
 by_cases hb:b∈fs
 ·exact u.slot b ob q n hb hx
 ·exact⟨ob.slots,u.keep b ob q n hb hx⟩
theorem Un.kept(k:∀b u,h.get? b=some u->h'.get? b=some u):Un fs ex H H h h':=
 ⟨λ b ob q _ _ _=>k b ob q,λ b ob q _ _ _=>⟨ob.slots,k b ob q⟩,λ _ _ _ n _=>n,λ b ob q _=>⟨ob,k b ob q⟩,λ _ _ q=>q,λ _ _ _ q=>q,λ _ ps q=>⟨#[],by rw[q];simp⟩⟩
theorem Un.refl:Un fs ex H H h h:=Un.kept λ _ _ q=>q
theorem Un.laid(k:∀b u,h.get? b=some u->h'.get? b=some u)(hp:h.objs.size<=a)(hn:H a=none):Un fs ex H (upd H a o) h h' where
 keep:=λ b u q _ _ _=>k b u q
 slot:=λ b u q _ _ _=>⟨u.slots,k b u q⟩
 free:=λ b u q n _=>by rw[aj (zA0 (zAU (zAQ q) hp))];exact n
 there:=λ b u q _=>⟨u,k b u q⟩
 tups:=λ b xs q=>by rw[aj (bc q hn)];exact q
 frzs:=λ b u xs q=>by rw[aj (bc q hn)];exact q
 tbls:=λ b ps q=>⟨#[],by rw[aj (bc q hn),q];simp⟩
theorem Un.write(mu:Mut (H x))(he:e=x\/H e=some (.own x))(k:∀b u,b≠e->h.get? b=some u->h'.get? b=some u)(heo:∃u,h'.get? e=some u):Un fs ex H (upd H x o) h h':=by
 have hx:∀b,H b=none->b≠x:=λ b n z=>by subst z;rw[n]at mu;exact mu
 have hb:∀b,H b=none->b≠e:=λ b n z=>by
  subst z;rcases he with r|r
  ·exact hx b n r
  ·rw[n]at r;cases r
 have hm:∀b u,H b=some u->¬Mut (some u)->b≠x:=λ b u q nm z=>by subst z;rw[q]at mu;exact nm mu
 refine⟨λ b u q n _ _=>k b u (hb b n) q,λ b u q n _ _=>⟨u.slots,k b u (hb b n) q⟩,λ b u q n _=>by rw[aj (hx b n)];exact n,λ b u q _=>?_,
  λ b xs q=>by rw[aj (hm b _ q λ z=>z)];exact q,λ b u xs q=>by rw[aj (hm b _ q λ z=>z)];exact q,λ b ps q=>⟨#[],by rw[aj (hm b _ q λ z=>z),q];simp⟩⟩
 by_cases hbe:b=e
 ·subst hbe;exact heo
 ·exact⟨u,k b u hbe q⟩
theorem Un.mono(u:Un fs ex H H1 h h1)(hs:∀b∈fs,b∈fs')(hx:∀b∈ex,b∈ex'):Un fs' ex' H H1 h h1:=
 ⟨λ b ob q n hb he=>u.keep b ob q n (λ z=>hb (hs b z)) λ z=>he (hx b z),λ _ _ q n _ he=>u.any q n λ z=>he (hx _ z),λ b ob q n he=>u.free b ob q n λ z=>he (hx b z),λ b ob q he=>u.there b ob q λ z=>he (hx b z),u.tups,u.frzs,u.tbls⟩
end
def trk(h:Heap)(H:Hp):List Addr:=(zAp h.objs.size).filter λ a=>(H a).isSome
def aIz(h:Heap)(H:Hp):Heap:=zBf h (trk h H)
theorem aGd(h:Heap)(H:Hp):(aIz h H).objs.size=h.objs.size:=zEA _ _
theorem aIy{h:Heap}{H:Hp}{b:Addr}{o:Obj}(e:h.get? b=some o)(n:H b=none):(aIz h H).get? b=some o:=
 zCC _ e λ hm=>by
  have q:(H b).isSome=true:=(zBN.mp hm).2;rw[n]at q;simp at q
theorem aK1{h:Heap}{H:Hp}{b:Addr}{o:Obj}(e:(aIz h H).get? b=some o):h.get? b=some o/\H b=none:=by
 have e':h.get? b=some o:=zDY (trk h H) e;refine⟨e',?_⟩;cases q:H b with
 |none=>rfl
 |some x=>
  have hm:b∈trk h H:=zBN.mpr ⟨zBO.mpr (zAQ e'),by simp[q]⟩;have z:(aIz h H).get? b=none:=zDz (trk h H) hm;rw[z]at e;cases e
def aLR(g h:Heap)(L:Addr):List (Addr×Obj):=(zAp h.objs.size).filterMap λ a=>if a=L\/(g.get? a).isSome=true then none else(h.get? a).map λ o=>(a,o)
def rest(g h:Heap)(L d:Addr):List (Addr×Obj):=(aLR g h L).filter λ p=>decide (p.1≠d)
structure Mod(K:zAA)(mg:Str->Option Value)(base:Heap):Prop where
 kin:K.In base
 glob:base.Ns zA4 mg
 blt:∃mb,base.Ns zJX mb/\∀x:Str,x≠"__name__"->mb x=zAv x
 nolimit:base.NoLimit
structure Cx where
 prog:zA2
 w:World
 K:zAA
 mg:Str->Option Value
 base:Heap
 A:zAe
 N:List Str
 s₀:zAF
 H₀:Hp
 env:Env
 outer:List Env
 stack:List Env
 ex:List Addr
 fn:Str->Bool
 calm:Bool
 pn:List (Addr×Obj)
 xe:Value->zAF->Prop
 ta:List (Addr×Obj):=[]
 tq:Str:=""
def frs(l:List Env):List Addr:=l.filterMap (·.frame)
abbrev Cx.fs(X:Cx):List Addr:=frs X.outer
def Vis(sc:Scope)(x:Str):Prop:=sc.names.lookup x=some .local\/sc.names.lookup x=some .cell\/sc.names.lookup x=some .free
def Loc(sc:Scope)(x:Str):Prop:=sc.names.lookup x=some .local\/sc.names.lookup x=some .cell
def Look(env:Env)(h:Heap)(m:Str->Option Value)(x:Str)(u:Value):Prop:=
 (env.kindOf x=some .local/\m x=some u)\/((env.kindOf x=some .cell\/env.kindOf x=some .free)/\∃c,env.cells.lookup x=some c/\h.IsCell c (some u))
structure Cx.Ok(X:Cx):Prop where
 mod:Mod X.K X.mg X.base
 kind:X.env.scope.kind= .function
 glob:X.env.globals=zA4
 blt:X.env.builtins=zJX
 above:X.s₀.heap.objs.size<=X.env.locals
 inj:∀x y c,X.env.cells.lookup x=some c->X.env.cells.lookup y=some c->x=y
 has:∀x,(X.env.kindOf x=some .cell\/X.env.kindOf x=some .free)->∃c,X.env.cells.lookup x=some c
 cab:∀x c,X.fn x=true->X.env.cells.lookup x=some c->X.s₀.heap.objs.size<=c
 hd:X.calm=true->X.A.handled=none
 frames:X.A.frames=some X.stack
 stk:X.stack=X.outer\/(X.stack=X.env::X.outer/\X.env.frame=some X.env.locals)
 exf:∀b∈X.ex,b≠X.env.locals/\∀x c,X.env.cells.lookup x=some c->c≠b
 bs:∀b o,X.base.get? b=some o->X.s₀.heap.get? b=some o/\X.H₀ b=none
 bsz:X.base.objs.size<=X.s₀.heap.objs.size
 noex:∀b o,X.base.get? b=some o->b∉X.ex
 exfs:∀b∈X.ex,b∉X.fs
 funs:X.s₀.heap.FunFrames X.base X.outer
 frf:∀b∈X.fs,X.H₀ b=none
def aLv(q:Str)(oc:Obj):Prop:=∃vs t,oc.data= .fields vs/\vs[1]? =some (.str q t)
def TabOk(q:Str)(H:Hp)(ps:Array Value):Prop:=TriplesOk ps.toList/\∀pos cv,zFk pos ps.toList=some cv->∃c' oc,cv= .ref c'/\H c'=some (.frz oc (.own c'))/\aLv q oc
theorem TabOk.mono(t:TabOk q H ps)(f:∀b o u,H b=some (.frz o u)->H' b=some (.frz o u)):TabOk q H' ps:=⟨t.1,λ pos cv hc=>let⟨c',oc,z,a,b⟩:=t.2 pos cv hc;⟨c',oc,z,f _ _ _ a,b⟩⟩
structure Inv(X:Cx)(pins:List (Addr×Obj))(σ:List (Option V))(H:Hp)(s:zAF):Prop where
 ok:X.Ok
 os:s.os=X.s₀.os
 bare:zE5 s.gens
 base:Un X.fs X.ex X.H₀ H X.s₀.heap s.heap
 loc:∃m,s.heap.Ns X.env.locals m/\∀(i:Nat) (x:Str) (v:V),X.N[i]? =some x->σ[i]? =some (some v)->Vis X.env.scope x->∃u,RelV v u/\Look X.env s.heap m x u
 cell:∀x c,X.env.cells.lookup x=some c->∃v,s.heap.IsCell c v
 free:H X.env.locals=none
 freeC:∀x c,X.env.cells.lookup x=some c->H c=none
 pin:∀p∈X.pn++pins,s.heap.get? p.1=some p.2/\H p.1=none/\p.1≠X.env.locals/\p.1∉X.fs/\∀v,p.2.data≠.cell v
 hok:HOk X.prog X.w H s.heap
 len:σ.length=X.N.length
 tab:∀p∈X.ta,H p.1=none/\p.1≠X.env.locals/\p.1∉X.fs/\(∀q∈X.pn++pins,q.1≠p.1)/\∃ps,s.heap.get? p.1=some {cls:=.none,data:=.fields ps}/\TabOk X.tq H ps
section
variable{X:Cx}{pins:List (Addr×Obj)}{σ:List (Option V)}{H H':Hp}{s:zAF}{h':Heap}
theorem Cx.Ok.nofr(ok:X.Ok){b:Addr}{o:Obj}(e:X.base.get? b=some o):b∉X.fs:=λ hb=>by
 have:=(ok.funs.mem hb).1
 rw[e]at this;cases this
theorem Inv.bs(I:Inv X pins σ H s):∀b o,X.base.get? b=some o->s.heap.get? b=some o/\H b=none:=λ b o e=>
 ⟨I.base.keep b o (I.ok.bs b o e).1 (I.ok.bs b o e).2 (I.ok.nofr e) (I.ok.noex b o e),I.base.free b o (I.ok.bs b o e).1 (I.ok.bs b o e).2 (I.ok.noex b o e)⟩
theorem Inv.bk(I:Inv X pins σ H s):∀b o,X.base.get? b=some o->s.heap.get? b=some o:=λ b o e=>(I.bs b o e).1
theorem Inv.mod(I:Inv X pins σ H s):Mod X.K X.mg X.base:=I.ok.mod
theorem Inv.kIn(I:Inv X pins σ H s):X.K.In s.heap:=I.ok.mod.kin.keeps I.bk
theorem Inv.fr(I:Inv X pins σ H s):∃m,Fr X.base X.env.locals s.heap m:=
 let⟨m,hn,_⟩:=I.loc
 ⟨m,hn,I.bk,zAg I.ok.bsz I.ok.above⟩
theorem Inv.lt(I:Inv X pins σ H s):X.env.locals<s.heap.objs.size:=let⟨_,hn,_⟩:=I.loc;hn.lt
theorem Inv.sz(I:Inv X pins σ H s):X.s₀.heap.objs.size<=s.heap.objs.size:=zAg I.ok.above (zBX I.lt)
theorem Inv.nofs(I:Inv X pins σ H s){a:Addr}(h:s.heap.objs.size<=a):a∉X.fs:=λ hb=>by
 obtain⟨_,o,ho,_⟩:=I.ok.funs.mem hb;exact absurd (zAU (zAQ ho) (zAg I.sz h)) (zBP _)
theorem Inv.cne(I:Inv X pins σ H s):∀x c,X.env.cells.lookup x=some c->c≠X.env.locals:=λ x c e z=>by
 obtain⟨v,o,ho,hd⟩:=I.cell x c e;obtain⟨m,⟨o',es,ep,ho',hd',_⟩,_⟩:=I.loc;rw[z,ho']at ho;cases ho;rw[hd']at hd;cases hd
theorem Inv.funs(I:Inv X pins σ H s):s.heap.FunFrames X.base X.outer:=by
 have all:∀(l:List Env),(∀b∈frs l,b∈X.fs)->X.s₀.heap.FunFrames X.base l->s.heap.FunFrames X.base l:=by
  intro l;induction l with
  |nil=>intro _ _;trivial
  |cons env r ih=>
   intro hs hl;obtain⟨hk,⟨L,o,hf,hn,ho,hd⟩,hr⟩:=hl;have hL:L∈X.fs:=hs L (by unfold frs;rw[zBS,hf];exact zAI);obtain⟨sl,e⟩:=I.base.slot L o ho (I.ok.frf L hL) hL λ z=>I.ok.exfs L z hL
   exact⟨hk,⟨L,_,hf,hn,e,hd⟩,ih (λ b hb=>hs b (by unfold frs;rw[zBS,hf];exact zAL _ hb)) hr⟩
 exact all X.outer (λ _ hb=>hb) I.ok.funs
theorem Inv.stack(I:Inv X pins σ H s):s.heap.FunFrames X.base X.stack:=by
 rcases I.ok.stk with e|⟨e,hf⟩
 ·rw[e];exact I.funs
 ·rw[e]
  obtain⟨m,hn,_⟩:=I.loc;refine .cons (by rw[I.ok.kind];decide) hf hn ?_ I.funs;exact Heap.get?_none_of_le (zAg I.ok.bsz I.ok.above)
theorem Inv.stkSub(I:Inv X pins σ H s):∀b∈frs X.stack,b∈X.env.locals::X.fs:=λ b hb=>by
 rcases I.ok.stk with e|⟨e,hf⟩
 ·rw[e]at hb;exact zAL _ hb
 ·rw[e]at hb
  unfold frs at hb;rw[zBS,hf]at hb;exact hb
theorem Inv.stkFree(I:Inv X pins σ H s):∀b∈frs X.stack,H b=none:=λ b hb=>by
 rcases zAN.mp (I.stkSub b hb)with e|hb
 ·rw[e];exact I.free
 ·obtain⟨_,o,ho,_⟩:=I.ok.funs.mem hb
  exact I.base.free b o ho (I.ok.frf b hb) λ z=>I.ok.exfs b z hb
theorem Inv.step{g':Array zHU}{t':Nat}{d':Drawn}{ch:List Addr}(I:Inv X pins σ H s)
  (hch:∀b∈ch,(b∈X.ex\/X.s₀.heap.objs.size<=b)/\b≠X.env.locals/\(∀x c,X.env.cells.lookup x=some c->c≠b)/\∀p∈X.ta++(X.pn++pins),p.1≠b)
  (keep:∀b o,b≠X.env.locals->b∉X.fs->b∉ch->s.heap.get? b=some o->H b=none->h'.get? b=some o)
  (slot:∀b o,b≠X.env.locals->b∈X.fs->b∉ch->s.heap.get? b=some o->H b=none->∃sl,h'.get? b=some {o with slots:=sl})(free:∀b o,b∉ch->s.heap.get? b=some o->H b=none->H' b=none)
  (there:∀b o,b∉ch->s.heap.get? b=some o->∃o',h'.get? b=some o')
  (tups:∀b xs,H b=some (.tup xs)->H' b=some (.tup xs))(frzs:∀b o u,H b=some (.frz o u)->H' b=some (.frz o u))(tbls:∀b ps,H b=some (.tbl ps)->∃more,H' b=some (.tbl (ps++more)))
  (ns:∀m,s.heap.Ns X.env.locals m->h'.Ns X.env.locals m)(hok:HOk X.prog X.w H' h')(hg:zE5 g'):
  Inv X pins σ H' {s with heap:=h',gens:=g',drawn:=d',toks:=t'}:=by
 have neL:∀b o,X.s₀.heap.get? b=some o->b≠X.env.locals:=λ b o e=>zA0 (zAU (zAQ e) I.ok.above)
 have neC:∀b o,X.s₀.heap.get? b=some o->b∉X.ex->b∉ch:=λ b o e hx hb=>by
  rcases(hch b hb).1 with z|z
  ·exact hx z
  ·exact absurd (zAU (zAQ e) z) (zBP _)
 have cellK:∀x c,X.env.cells.lookup x=some c->∀v,s.heap.IsCell c v->h'.IsCell c v:=λ x c e v ⟨o,ho,hd⟩=>by
  have nch:c∉ch:=λ z=>(hch c z).2.2.1 x c e rfl
  by_cases hc:c∈X.fs
  ·obtain⟨sl,q⟩:=slot c o (I.cne x c e) hc nch ho (I.freeC x c e)
   exact⟨_,q,hd⟩
  ·exact⟨o,keep c o (I.cne x c e) hc nch ho (I.freeC x c e),hd⟩
 refine⟨I.ok,I.os,hg,⟨λ b o e n hb hx=>?_,λ b o e n hb hx=>?_,λ b o e n hx=>?_,λ b o e hx=>?_,λ b xs e=>tups b xs (I.base.tups b xs e),λ b o xs e=>frzs b o xs (I.base.frzs b o xs e),λ b ps e=>?_⟩,?_,λ x c e=>?_,?_,λ x c e=>?_,λ p hp=>?_,hok,I.len,λ p hp=>?_⟩
 ·exact keep b o (neL b o e) hb (neC b o e hx) (I.base.keep b o e n hb hx) (I.base.free b o e n hx)
 ·obtain⟨sl,e1⟩:=I.base.slot b o e n hb hx
  obtain⟨sl',e2⟩:=slot b _ (neL b o e) hb (neC b o e hx) e1 (I.base.free b o e n hx);exact⟨sl',e2⟩
 ·obtain⟨o',e1⟩:=I.base.there b o e hx
  exact free b o' (neC b o e hx) e1 (I.base.free b o e n hx)
 ·obtain⟨o',e1⟩:=I.base.there b o e hx
  exact there b o' (neC b o e hx) e1
 ·obtain⟨m1,e1⟩:=I.base.tbls b ps e
  obtain⟨m2,e2⟩:=tbls b _ e1;exact⟨m1++m2,by rw[e2,zHm]⟩
 ·obtain⟨m,hn,hl⟩:=I.loc
  refine⟨m,ns m hn,λ i x v e1 e2 e3=>?_⟩;obtain⟨u,r,l⟩:=hl i x v e1 e2 e3;refine⟨u,r,?_⟩;rcases l with l|⟨k,c,e,z⟩
  ·exact .inl l
  ·exact .inr ⟨k,c,e,cellK x c e _ z⟩
 ·obtain⟨v,z⟩:=I.cell x c e
  exact⟨v,cellK x c e v z⟩
 ·obtain⟨m,⟨o,_,_,ho,_⟩,_⟩:=I.loc
  exact free _ o (λ z=>(hch _ z).2.1 rfl) ho I.free
 ·obtain⟨v,o,ho,hd⟩:=I.cell x c e
  exact free c o (λ z=>(hch c z).2.2.1 x c e rfl) ho (I.freeC x c e)
 ·obtain⟨e,n,ne,nf,d⟩:=I.pin p hp
  have nch:p.1∉ch:=λ z=>(hch p.1 z).2.2.2 p (zA6 _ hp) rfl
  exact⟨keep p.1 p.2 ne nf nch e n,free p.1 p.2 nch e n,ne,nf,d⟩
 ·obtain⟨n,ne,nf,np,ps,e,t⟩:=I.tab p hp
  have nch:p.1∉ch:=λ z=>(hch p.1 z).2.2.2 p (zAX _ hp) rfl
  exact⟨free p.1 _ nch e n,ne,nf,np,ps,keep p.1 _ ne nf nch e n,t.mono frzs⟩
theorem Inv.pinL(I:Inv X pins σ H s)(hp:p∈X.ta++(X.pn++pins)):p.1<s.heap.objs.size:=by
 rcases zAm.mp hp with z|z
 ·obtain⟨_,_,_,_,_,e,_⟩:=I.tab p z
  exact zAQ e
 ·exact zAQ (I.pin p z).1
theorem Inv.un{t':Nat}(I:Inv X pins σ H s)(u:Un X.fs [] H H' s.heap h')(hok:HOk X.prog X.w H' h'):Inv X pins σ H' {s with heap:=h',toks:=t'}:=by
 obtain⟨m,⟨o,es,ep,ho,r⟩,_⟩:=id I.loc;obtain⟨sl,hL⟩:=u.any ho I.free (by simp);exact I.step (g':=s.gens) (d':=s.drawn) (ch:=[]) (λ _ z=>nomatch z) (λ b o _ hb _ e n=>u.keep b o e n hb (by simp)) (λ b o _ hb _ e n=>u.slot b o e n hb (by simp)) (λ b o _ e n=>u.free b o e n (by simp)) (λ b o _ e=>u.there b o e (by simp)) u.tups u.frzs u.tbls (λ m' hm=>by
  obtain⟨o',es',ep',ho',r'⟩:=hm;rw[ho]at ho';cases ho';exact⟨_,es',ep',hL,r'⟩) hok I.bare
theorem Inv.call{g':Array zHU}{t':Nat}{d':Drawn}{ch:List Addr}(I:Inv X pins σ H s)(u:Un (frs X.stack) ch H H' s.heap h')(hok:HOk X.prog X.w H' h')(hg:zE5 g')
  (hch:∀b∈ch,(b∈X.ex\/X.s₀.heap.objs.size<=b)/\b≠X.env.locals/\(∀x c,X.env.cells.lookup x=some c->c≠b)/\∀p∈X.ta++(X.pn++pins),p.1≠b):
  Inv X pins σ H' {s with heap:=h',gens:=g',drawn:=d',toks:=t'}:=by
 obtain⟨m,⟨o,es,ep,ho,r⟩,_⟩:=id I.loc;obtain⟨sl,hL⟩:=u.any ho I.free λ z=>(hch _ z).2.1 rfl
 exact I.step (ch:=ch) hch (λ b o hL hb hc e n=>u.keep b o e n (λ z=>(zAN.mp (I.stkSub b z)).elim hL hb) hc) (λ b o _ _ hc e n=>u.any e n hc) (λ b o hc e n=>u.free b o e n hc) (λ b o hc e=>u.there b o e hc) u.tups u.frzs u.tbls (λ m' hm=>by
  obtain⟨o',es',ep',ho',r'⟩:=hm;rw[ho]at ho';cases ho';exact⟨_,es',ep',hL,r'⟩) hok hg
theorem Inv.turned{t':Nat}{it:Addr}(I:Inv X pins σ H s)(k:∀b o,b≠it->s.heap.get? b=some o->h'.get? b=some o)(hn:H it=none)(hL:it≠X.env.locals)
  (h1:it∈X.ex\/X.s₀.heap.objs.size<=it)(h2:∀x c,X.env.cells.lookup x=some c->c≠it)(h3:∀p∈X.ta++(X.pn++pins),p.1≠it):Inv X pins σ H {s with heap:=h',toks:=t'}:=by
 have nit:∀b u,H b=some u->b≠it:=λ b u e z=>by rw[z,hn]at e;cases e
 refine I.step (g':=s.gens) (d':=s.drawn) (ch:=[it]) (λ b hb=>?_) (λ b o _ _ hc e _=>k b o (λ z=>hc (by simp[z])) e) (λ b o _ _ hc e _=>⟨o.slots,k b o (λ z=>hc (by simp[z])) e⟩) (λ _ _ _ _ n=>n)
  (λ b o hc e=>⟨o,k b o (λ z=>hc (by simp[z])) e⟩) (λ _ _ e=>e) (λ _ _ _ e=>e) (λ b ps e=>⟨#[],by rw[e];simp⟩) (λ m hm=>?_) (λ b u e=>?_) I.bare
 ·have e:b=it:=by simpa using hb
  subst e;exact⟨h1,hL,h2,h3⟩
 ·obtain⟨o,es,ep,ho,r⟩:=hm
  exact⟨o,es,ep,k _ o (zDL hL) ho,r⟩
 ·refine(I.hok b u e).stay (λ c v hc q=>k c v ?_ q) (λ _ q=>q) λ _ _ q=>q
  rcases hc with z|z
  ·rw[z];exact nit b u e
  ·exact nit c _ z
theorem Inv.tok(I:Inv X pins σ H s)(t:Nat):Inv X pins σ H {s with toks:=t}:=I.un (h':=s.heap) (t':=t) Un.refl I.hok
theorem Inv.kept{t':Nat}(I:Inv X pins σ H s)(k:∀b u,s.heap.get? b=some u->h'.get? b=some u):Inv X pins σ H {s with heap:=h',toks:=t'}:=I.un (Un.kept k) (I.hok.kept k)
theorem Inv.laid{a:Addr}{o:HO}{t':Nat}(I:Inv X pins σ H s)(k:∀b u,s.heap.get? b=some u->h'.get? b=some u)(hp:s.heap.objs.size<=a)(new:cj X.prog X.w (upd H a o) h' a o):
  Inv X pins σ (upd H a o) {s with heap:=h',toks:=t'}:=I.un (Un.laid k hp (I.hok.fresh hp)) (I.hok.laid k hp new)
theorem Inv.write{x e:Addr}{o:HO}{t':Nat}(I:Inv X pins σ H s)(mu:Mut (H x))(he:e=x\/H e=some (.own x))(k:∀b u,b≠e->s.heap.get? b=some u->h'.get? b=some u)(heo:∃u,h'.get? e=some u)
  (new:cj X.prog X.w (upd H x o) h' x o):Inv X pins σ (upd H x o) {s with heap:=h',toks:=t'}:=I.un (Un.write mu he k heo) (I.hok.write mu he k heo new)
theorem Inv.weak{σ':List (Option V)}(I:Inv X pins σ H s)(hl:σ'.length=σ.length)(w:∀(i:Nat) v,σ'[i]? =some (some v)->σ[i]? =some (some v)):Inv X pins σ' H s:=
 ⟨I.ok,I.os,I.bare,I.base,let⟨m,hn,hl'⟩:=I.loc;⟨m,hn,λ i x v e1 e2 e3=>hl' i x v e1 (w i v e2) e3⟩,I.cell,I.free,I.freeC,I.pin,I.hok,hl.trans I.len,I.tab⟩
theorem Inv.pins_of{pins':List (Addr×Obj)}(I:Inv X pins σ H s)(h:∀p∈pins',s.heap.get? p.1=some p.2/\H p.1=none/\p.1≠X.env.locals/\p.1∉X.fs/\∀v,p.2.data≠.cell v)(h2:∀q∈pins',∀p∈X.ta,q.1≠p.1):Inv X pins' σ H s:=
 ⟨I.ok,I.os,I.bare,I.base,I.loc,I.cell,I.free,I.freeC,λ p hp=>(zAm.mp hp).elim (λ z=>I.pin p (zAX _ z)) (h p),I.hok,I.len,λ p hp=>let⟨a,b,c,d,e⟩:=I.tab p hp;⟨a,b,c,λ q hq=>(zAm.mp hq).elim (λ z=>d q (zAX _ z)) (λ z=>h2 q z p hp),e⟩⟩
theorem yV{N:List Str}(hN:N.Nodup){i j:Nat}{x:Str}(a:N[i]? =some x)(b:N[j]? =some x):i=j:=by
 obtain⟨h1,e1⟩:=zAH.mp a;obtain⟨h2,e2⟩:=zAH.mp b;exact(List.getElem_inj hN).mp (e1.trans e2.symm)
theorem aAY{M:Model}{A:zAe}{E:Value->zAF->Prop}{i:Nat}{x:Str}{v:V}{u:Value}{Q:Unit->zAF->Prop}(I:Inv X pins σ H s)(hN:X.N.Nodup)(hi:X.N[i]? =some x)(hx:Loc X.env.scope x)(r:RelV v u)
  (h:∀s',Inv X pins (σ.set i (some v)) H s'->(∃a,zD2 a s.heap s'.heap/\(a=X.env.locals\/X.env.cells.lookup x=some a))->Q () s')(hf:X.fn x=true\/X.env.scope.names.lookup x=some .local:=by first|exact .inl rfl|exact .inr rfl|assumption):wpAny M A (storeName X.env x u) Q E s:=by
 obtain⟨m,hn,hl⟩:=id I.loc;have hcls:(X.env.scope.kind== .class||(X.env.scope.kind== .module&&X.env.locals !=X.env.globals))=false:=by rw[I.ok.kind];rfl
 have hiσ:i<σ.length:=by rw[I.len];exact(zAH.mp hi).1
 have cne:=I.cne;have tracked:∀{a:Addr} {h':Heap},(∃o,s.heap.get? a=some o/\H a=none)->zD2 a s.heap h'->HOk X.prog X.w H h':=λ{a h'} ha hs b ob e=>by
  obtain⟨_,_,hfree⟩:=ha;refine(I.hok b ob e).stay (λ c w' hc q=>(hs.2 c ?_).trans q) (λ _ q=>q) λ _ _ q=>q
  rintro rfl;rcases hc with rfl|hc
  ·rw[hfree]at e;cases e
  ·rw[hfree]at hc;cases hc
 rcases hx with hk|hk
 ·refine wpAny_storeName_local hk hn (λ h' hn' hs=>?_) hcls
  obtain⟨oL,_,_,hoL,_⟩:=id hn;refine h _ ⟨I.ok,I.os,I.bare,⟨λ b o e n hb hx=>?_,λ b o e n hb hx=>?_,I.base.free,λ b o e hx=>?_,I.base.tups,I.base.frzs,I.base.tbls⟩,⟨_,hn',λ j y v' e1 e2 e3=>?_⟩,λ y c e=>?_,I.free,I.freeC,λ p hp=>?_,tracked ⟨oL,hoL,I.free⟩ hs,by simpa using I.len,λ p hp=>?_⟩ ⟨_,hs,.inl rfl⟩
  ·exact(hs.2 b (zA0 (zAU (zAQ e) I.ok.above))).trans (I.base.keep b o e n hb hx)
  ·obtain⟨sl,e1⟩:=I.base.slot b o e n hb hx
   exact⟨sl,(hs.2 b (zA0 (zAU (zAQ e) I.ok.above))).trans e1⟩
  ·obtain⟨o',e1⟩:=I.base.there b o e hx
   exact⟨o',(hs.2 b (zA0 (zAU (zAQ e) I.ok.above))).trans e1⟩
  ·by_cases hj:j=i
   ·subst hj
    rw[hi]at e1;cases e1;rw[zB3 hiσ]at e2;cases e2;exact⟨u,r,.inl ⟨hk,by simp⟩⟩
   ·rw[zBK (zDL hj)]at e2
    obtain⟨u',r',q⟩:=hl j y v' e1 e2 e3;refine⟨u',r',?_⟩;rcases q with ⟨k,e⟩|⟨k,c,e,z⟩
    ·refine .inl ⟨k,?_⟩
     have:y≠x:=λ e=>hj (yV hN e1 (e▸hi))
     simp[this,e]
    ·exact .inr ⟨k,c,e,z.sameBut hs (cne y c e)⟩
  ·obtain⟨w',z⟩:=I.cell y c e
   exact⟨w',z.sameBut hs (cne y c e)⟩
  ·obtain⟨e,n,ne,nf,d⟩:=I.pin p hp
   exact⟨(hs.2 p.1 ne).trans e,n,ne,nf,d⟩
  ·obtain⟨n,ne,nf,np,ps,e,t⟩:=I.tab p hp
   exact⟨n,ne,nf,np,ps,(hs.2 p.1 ne).trans e,t⟩
 ·have hfn:X.fn x=true:=by
   rcases hf with z|z
   ·exact z
   ·rw[z]at hk;cases hk
  obtain⟨c,hc⟩:=I.ok.has x (.inl hk);obtain⟨w',z⟩:=I.cell x c hc;refine wpAny_storeName_cell I.ok.kind hk hc z (λ h' hc' hs=>?_);obtain⟨oc,hoc,hocd⟩:=id z;refine h {s with heap:=h'} ⟨I.ok,I.os,I.bare,⟨λ b o e n hb hx=>?_,λ b o e n hb hx=>?_,I.base.free,λ b o e hx=>?_,I.base.tups,I.base.frzs,I.base.tbls⟩,⟨m,hn.sameBut hs (zDL (cne x c hc)),λ j y v' e1 e2 e3=>?_⟩,λ y c' e=>?_,I.free,I.freeC,λ p hp=>?_,tracked ⟨oc,hoc,I.freeC x c hc⟩ hs,by simpa using I.len,λ p hp=>?_⟩ ⟨c,hs,.inr hc⟩
  ·exact(hs.2 b (zA0 (zAU (zAQ e) (I.ok.cab x c hfn hc)))).trans (I.base.keep b o e n hb hx)
  ·obtain⟨sl,e1⟩:=I.base.slot b o e n hb hx
   exact⟨sl,(hs.2 b (zA0 (zAU (zAQ e) (I.ok.cab x c hfn hc)))).trans e1⟩
  ·obtain⟨o',e1⟩:=I.base.there b o e hx
   exact⟨o',(hs.2 b (zA0 (zAU (zAQ e) (I.ok.cab x c hfn hc)))).trans e1⟩
  ·by_cases hj:j=i
   ·subst hj
    rw[hi]at e1;cases e1;rw[zB3 hiσ]at e2;cases e2;exact⟨u,r,.inr ⟨.inl hk,c,hc,hc'⟩⟩
   ·rw[zBK (zDL hj)]at e2
    obtain⟨u',r',q⟩:=hl j y v' e1 e2 e3;refine⟨u',r',?_⟩;rcases q with q|⟨k,c',e,z'⟩
    ·exact .inl q
    ·refine .inr ⟨k,c',e,z'.sameBut hs ?_⟩
     rintro rfl;exact hj (yV hN e1 (I.ok.inj _ _ _ e hc▸hi))
  ·by_cases hcc:c'=c
   ·subst hcc;exact⟨_,hc'⟩
   ·obtain⟨w2,z2⟩:=I.cell y c' e
    exact⟨w2,z2.sameBut hs hcc⟩
  ·obtain⟨e,n,ne,nf,d⟩:=I.pin p hp
   refine⟨(hs.2 p.1 ?_).trans e,n,ne,nf,d⟩;intro q;rw[q,hoc]at e;have q':oc=p.2:=zAa e;exact d w' (by rw[<-q'];exact hocd)
  ·obtain⟨n,ne,nf,np,ps,e,t⟩:=I.tab p hp
   refine⟨n,ne,nf,np,ps,(hs.2 p.1 ?_).trans e,t⟩;intro q;rw[q,hoc]at e;rw[zAa e]at hocd;cases hocd
theorem tM{M:Model}{A:zAe}{E:Value->zAF->Prop}{i:Nat}{x:Str}{v:V}{u:Value}{Q:Unit->zAF->Prop}(I:Inv X pins σ H s)(hN:X.N.Nodup)(hi:X.N[i]? =some x)(hx:Loc X.env.scope x)(r:RelV v u)
  (h:∀s',Inv X pins (σ.set i (some v)) H s'->Q () s')(hf:X.fn x=true\/X.env.scope.names.lookup x=some .local:=by first|exact .inl rfl|exact .inr rfl|assumption):wpAny M A (storeName X.env x u) Q E s:=
 aAY I hN hi hx r (λ s' I' _=>h s' I') hf
theorem Inv.call'{s':zAF}{ch:List Addr}(I:Inv X pins σ H s)(ho:s'.os=s.os)(u:Un (frs X.stack) ch H H' s.heap s'.heap)(hok:HOk X.prog X.w H' s'.heap)(hg:zE5 s'.gens)
  (hch:∀b∈ch,(b∈X.ex\/X.s₀.heap.objs.size<=b)/\b≠X.env.locals/\(∀x c,X.env.cells.lookup x=some c->c≠b)/\∀p∈X.ta++(X.pn++pins),p.1≠b):Inv X pins σ H' s':=by
 obtain⟨h',g',d',t',o'⟩:=s';have e:o'=s.os:=ho;subst e;exact I.call (g':=g') (t':=t') (d':=d') u hok hg hch
end
abbrev XK:=Value->Option Addr->Hp->Prop
abbrev St:=List (Option V)
abbrev VK:=V->Hp->Prop
abbrev TE:=St->Hp->VK->Prop
abbrev TT:=St->Hp->(Bool->Hp->Prop)->Prop
abbrev TA:=St->Hp->(List V->Hp->Prop)->Prop
structure Ends where
 nx:St->Hp->Prop
 rt:VK
 bk:St->Hp->Prop:=λ _ _=>False
 ct:St->Hp->Prop:=λ _ _=>False
abbrev TS:=Ends->St->Hp->Prop
def EP(X:Cx)(pins:List (Addr×Obj))(σ:St)(Q:VK)(u:Value)(s':zAF):Prop:=∃v H',Inv X pins σ H' s'/\RelV v u/\Q v H'
def TP(X:Cx)(pins:List (Addr×Obj))(σ:St)(Q:Bool->Hp->Prop)(b:Bool)(s':zAF):Prop:=∃H',Inv X pins σ H' s'/\Q b H'
def AP(X:Cx)(pins:List (Addr×Obj))(σ:St)(Q:List V->Hp->Prop)(us:List Value)(s':zAF):Prop:=∃vs H',Inv X pins σ H' s'/\Vals vs us/\Q vs H'
def SP(X:Cx)(pins:List (Addr×Obj))(D:Ends)(f:Flow)(s':zAF):Prop:=
 match f with
 | .next=>∃σ' H',Inv X pins σ' H' s'/\D.nx σ' H'
 | .brk=>∃σ' H',Inv X pins σ' H' s'/\D.bk σ' H'
 | .cont=>∃σ' H',Inv X pins σ' H' s'/\D.ct σ' H'
 | .ret u=>∃v σ' H',Inv X pins σ' H' s'/\RelV v u/\D.rt v H'
def PE(X:Cx)(e:Expr)(t:TE):Prop:=
 ∀(pins:List (Addr×Obj)) (s:zAF) (σ:St) (H:Hp) (Q:VK),Inv X pins σ H s->t σ H Q->wpAny (model X.prog X.w) X.A (eval e X.env) (EP X pins σ Q) X.xe s
def PT(X:Cx)(e:Expr)(t:TT):Prop:=
 ∀(pins:List (Addr×Obj)) (s:zAF) (σ:St) (H:Hp) (Q:Bool->Hp->Prop),Inv X pins σ H s->t σ H Q->wpAny (model X.prog X.w) X.A (isTrue e X.env (eval e X.env)) (TP X pins σ Q) X.xe s
def PW(X:Cx)(e:Expr)(t:TT):Prop:=
 ∀(whole:Sem Value) (pins:List (Addr×Obj)) (s:zAF) (σ:St) (H:Hp) (Q:Bool->Hp->Prop),Inv X pins σ H s->t σ H Q->wpAny (model X.prog X.w) X.A (isTrue e X.env whole) (TP X pins σ Q) X.xe s
theorem PW.pt{X:Cx}{e:Expr}{t:TT}(h:PW X e t):PT X e t:=h _
def PA(X:Cx)(es:List Expr)(t:TA):Prop:=
 ∀(pos:Pos) (pins:List (Addr×Obj)) (s:zAF) (σ:St) (H:Hp) (Q:List V->Hp->Prop),Inv X pins σ H s->t σ H Q->wpAny (model X.prog X.w) X.A (spliced (zC1 pos (zAZ es X.env))) (AP X pins σ Q) X.xe s
def PS(X:Cx)(st:Stmt)(t:TS):Prop:=
 ∀(pins:List (Addr×Obj)) (s:zAF) (σ:St) (H:Hp) (D:Ends),Inv X pins σ H s->t D σ H->wpAny (model X.prog X.w) X.A (exec st X.env) (SP X pins D) X.xe s
def PSs(X:Cx)(st:List Stmt)(t:TS):Prop:=
 ∀(pins:List (Addr×Obj)) (s:zAF) (σ:St) (H:Hp) (D:Ends),Inv X pins σ H s->t D σ H->wpAny (model X.prog X.w) X.A (execs st X.env) (SP X pins D) X.xe s
theorem thn{α:Type}{t:Sem α}{Q Q':α->zAF->Prop}{M:Model}{A:zAe}{E:Value->zAF->Prop}{s:zAF}(h:wpAny M A t Q E s)(hQ:∀a s,Q a s->Q' a s):wpAny M A t Q' E s:=zAy h hQ λ _ _ x=>x
section
variable{X:Cx}
theorem bin{a b:Expr}{ta tb:TE}(ha:PE X a ta)(hb:PE X b tb){pins:List (Addr×Obj)}{s:zAF}{σ:St}{H:Hp}{R:V->V->Hp->Prop}(I:Inv X pins σ H s)(h:ta σ H λ x H1=>tb σ H1 λ y H2=>R x y H2)
  {α:Type}{Q:α->zAF->Prop}{f:Value->Value->Sem α}
  (hf:∀v u s2 x y H2,Inv X pins σ H2 s2->RelV x v->RelV y u->R x y H2->wpAny (model X.prog X.w) X.A (f v u) Q X.xe s2):
  wpAny (model X.prog X.w) X.A (eval a X.env) (λ v s₁=>wpAny (model X.prog X.w) X.A (eval b X.env) (λ u s₂=>wpAny (model X.prog X.w) X.A (f v u) Q X.xe s₂) X.xe s₁) X.xe s:=by
 refine thn (ha pins s σ H _ I h) λ v s1 ⟨x,H1,I1,r1,q1⟩=>?_
 refine thn (hb pins s1 σ H1 _ I1 q1) λ u s2 ⟨y,H2,I2,r2,q2⟩=>?_
 exact hf v u s2 x y H2 I2 r1 r2 q2
def qt(i:Nat):TE:=λ σ H Q=>∃v,σ[i]? =some (some v)/\Q v H
def tC(v:V):TE:=λ _ H Q=>Q v H
theorem jC{i:Nat}{x:Str}{pos:Pos}(hN:X.N[i]? =some x)(hv:Vis X.env.scope x)(hd:(x==("__debug__":Str))=false:=by decide)(hcd:(x==("__classdict__":Str))=false:=by decide):PE X (.Name x pos) (qt i):=by
 intro pins s σ H Q I h;obtain⟨v,e,h⟩:=h;obtain⟨m,hn,hl⟩:=I.loc;obtain⟨u,r,l⟩:=hl i x v hN e hv;have fin:EP X pins σ Q u s:=⟨v,H,I,r,h⟩;rcases l with ⟨hk,hm⟩|⟨hk,c,hc,hcell⟩
 ·exact zEj (zEn I.ok.kind hk hn hm fin) hd
 ·rcases hk with hk|hk
  ·exact zEj (zFP I.ok.kind hk hc hcell fin) hd
  ·exact zEj (zIy I.ok.kind hk hc hcell fin hcd) hd
theorem aIA{i j pos}:PE X (.Constant (.int i) j pos) (tC (.int i)):=λ _ _ _ H _ I h=>wpAny_Constant_int ⟨.int i,H,I.tok _,⟨_,rfl⟩,h⟩
theorem aIF{b j pos}:PE X (.Constant (.bool b) j pos) (tC (.bl b)):=λ _ _ _ H _ I h=>Constant_bool ⟨.bl b,H,I,rfl,h⟩
theorem aMd{j pos}:PE X (.Constant .none j pos) (tC .non):=λ _ _ _ H _ I h=>Constant_none ⟨.non,H,I,rfl,h⟩
theorem gG{x j pos}:PE X (.Constant (.str x) j pos) (tC (.str x)):=λ _ _ _ H _ I h=>Calls.Constant_str ⟨.str x,H,I.tok _,⟨_,rfl⟩,h⟩
def Gl(X:Cx)(x:Str):Prop:=X.env.kindOf x=some .globalImplicit
theorem qb{E:Value->zAF->Prop}{pins:List (Addr×Obj)}{s:zAF}{σ:St}{H:Hp}{x:Str}{u:Value}{pos:Pos}{Q:Value->zAF->Prop}(I:Inv X pins σ H s)(hg:Gl X x)(hm:X.mg x=some u)(h:Q u s)
  (hd:(x==("__debug__":Str))=false:=by decide):wpAny (model X.prog X.w) X.A (eval (.Name x pos) X.env) Q E s:=
 zFl I.ok.kind hg (Calls.loadGlobal_global (by rw[I.ok.glob];exact I.mod.glob.keeps I.bk) hm h) hd
theorem sX{E:Value->zAF->Prop}{pins:List (Addr×Obj)}{s:zAF}{σ:St}{H:Hp}{x:Str}{u:Value}{pos:Pos}{Q:Value->zAF->Prop}(I:Inv X pins σ H s)(hg:Gl X x)(hm:X.mg x=none)(hv:zAv x=some u)(h:Q u s)
  (hn:x≠"__name__":=by decide)(hd:(x==("__debug__":Str))=false:=by decide):wpAny (model X.prog X.w) X.A (eval (.Name x pos) X.env) Q E s:=by
 obtain⟨mb,h1,h2⟩:=I.mod.blt;exact zFl I.ok.kind hg (Calls.loadGlobal_builtin (by rw[I.ok.glob];exact I.mod.glob.keeps I.bk) hm (by rw[I.ok.blt];exact h1.keeps I.bk) ((h2 x hn).trans hv) h) hd
theorem fP{x:Str}{v:V}{u:Value}{pos:Pos}(hg:Gl X x)(hm:X.mg x=some u)(r:RelV v u)(hd:(x==("__debug__":Str))=false:=by decide):PE X (.Name x pos) (tC v):=
 λ _ _ _ H _ I h=>qb I hg hm ⟨v,H,I,r,h⟩ hd
theorem aFV{x:Str}{v:V}{u:Value}{pos:Pos}(hg:Gl X x)(hm:X.mg x=none)(hv:zAv x=some u)(r:RelV v u)(hn:x≠"__name__":=by decide)(hd:(x==("__debug__":Str))=false:=by decide):PE X (.Name x pos) (tC v):=
 λ _ _ _ H _ I h=>sX I hg hm hv ⟨v,H,I,r,h⟩ hn hd
def t2I(ta tb:TE)(k:Int->Int->Hp->Prop):St->Hp->Prop:=λ σ H=>ta σ H λ x H1=>tb σ H1 λ y H2=>∃i j,x= .int i/\y= .int j/\k i j H2
variable{a b:Expr}{ta tb:TE}{pos:Pos}
def PC(X:Cx)(op:CmpOp)(a b:Expr)(t:TE):Prop:=
 ∀(pins:List (Addr×Obj)) (s:zAF) (σ:St) (H:Hp) (Q:VK),Inv X pins σ H s->t σ H Q->
  wpAny (model X.prog X.w) X.A (eval a X.env) (λ v s₁=>wpAny (model X.prog X.w) X.A (eval b X.env) (λ u s₂=>wpAny (model X.prog X.w) X.A (zAr op v u) (EP X pins σ Q) X.xe s₂) X.xe s₁) X.xe s
theorem aIT(b:Expr){op:CmpOp}(h:op≠.In)(h2:op≠.NotIn):zBY op b=false:=by
 have e1:(op==CmpOp.In)=false:=by cases op<;>first|rfl|exact absurd rfl h
 have e2:(op==zJM)=false:=by cases op<;>first|rfl|exact absurd rfl h2
 cases b<;>simp[zBY,e1,e2]
def aNs(p:Int->Int->Bool)(ta tb:TE):TE:=λ σ H Q=>t2I ta tb (λ i j H2=>Q (.bl (p i j)) H2) σ H
abbrev aOs:TE->TE->TE:=aNs λ i j=>!decide (i=j)
theorem aMl{op:CmpOp}{p:Int->Int->Bool}(ha:PE X a ta)(hb:PE X b tb)
  (rule:∀(i j:Int) (t u:Tok) (Q:Value->zAF->Prop) (s:zAF),Q (.bool (p i j)) s->wpAny (model X.prog X.w) X.A (zAr op (.int i t) (.int j u)) Q X.xe s):PC X op a b (aNs p ta tb):=by
 intro pins s σ H Q I h;refine bin ha hb I h λ v u s2 x y H2 I2 rx ry q=>?_
 obtain⟨i,j,rfl,rfl,q⟩:=q;obtain⟨t,rfl⟩:=rx;obtain⟨t',rfl⟩:=ry;exact rule i j t t' _ s2 ⟨.bl _,H2,I2,rfl,q⟩
theorem aMk(ha:PE X a ta)(hb:PE X b tb):PC X .NotEq a b (aOs ta tb):=aMl ha hb λ _ _ _ _ _ _ h=>ne_int (by rw[bne,Bool.beq_eq_decide_eq];exact h)
def tB(t:TE):TT:=λ σ H Q=>t σ H λ x H1=>∃c,x= .bl c/\Q c H1
theorem aM1{op:CmpOp}{t:TE}(h:PC X op a b t)(h1:zBY op b=false:=by first|exact aIT _ (by decide) (by decide)|rfl):PT X (.Compare a [op] [b] pos) (tB t):=by
 intro pins s σ H Q I hw;refine zIm (thn (h pins s σ H _ I hw) λ v s1 h1=>thn h1 λ u s2 h2=>thn h2 λ c s3 ⟨x,H1,I1,r1,q1⟩=>?_) h1;obtain⟨d,rfl,q⟩:=q1;cases r1;exact zBm ⟨H1,I1,q⟩
theorem aHm{e:Expr}{t:TE}(h:PE X e t)(he:∀whole,isTrue e X.env whole=(do let v <-whole;zES e.pos;zCk [v] (truthy v)):=by intro _;rfl):PT X e (tB t):=by
 intro pins s σ H Q I hw;refine isTrue_plain (thn (h pins s σ H _ I hw) λ v s1 ⟨x,H1,I1,r1,q1⟩=>?_) (he _);obtain⟨d,rfl,q⟩:=q1;cases r1;exact zBm ⟨H1,I1,q⟩
variable{tA tB':TT}{rest:List Expr}
def aOy(t u:TT):TT:=λ σ H Q=>t σ H λ c H1=>if c=true then u σ H1 Q else Q false H1
def tOr(t u:TT):TT:=λ σ H Q=>t σ H λ c H1=>if c=true then Q true H1 else u σ H1 Q
def aOr(t:TT):TT:=λ σ H Q=>t σ H λ c H1=>Q (!c) H1
theorem aKD(ha:PT X a tA):PW X (.BoolOp .And [a] pos) tA:=by
 intro wh pins s σ H Q I h;refine isTrue_and (thn (ha pins s σ H Q I h) λ c s1 e=>?_);cases c with
 |true=>exact isTrue_and_nil e
 |false=>exact e
theorem aHi(ha:PT X a tA):PW X (.BoolOp .Or [a] pos) tA:=by
 intro wh pins s σ H Q I h;refine isTrue_or (thn (ha pins s σ H Q I h) λ c s1 e=>?_);cases c with
 |false=>exact isTrue_or_nil e
 |true=>exact e
theorem aMZ(ha:PT X a tA)(hb:PW X (.BoolOp .And (b::rest) pos) tB'):PW X (.BoolOp .And (a::b::rest) pos) (aOy tA tB'):=by
 intro wh pins s σ H Q I h;refine isTrue_and (thn (ha pins s σ H _ I h) λ c s1 ⟨H1,I1,q1⟩=>?_);cases c with
 |true=>exact hb wh pins s1 σ H1 Q I1 q1
 |false=>exact⟨H1,I1,q1⟩
theorem aLf(ha:PT X a tA)(hb:PW X (.BoolOp .Or (b::rest) pos) tB'):PW X (.BoolOp .Or (a::b::rest) pos) (tOr tA tB'):=by
 intro wh pins s σ H Q I h;refine isTrue_or (thn (ha pins s σ H _ I h) λ c s1 ⟨H1,I1,q1⟩=>?_);cases c with
 |true=>exact⟨H1,I1,q1⟩
 |false=>exact hb wh pins s1 σ H1 Q I1 q1
theorem aEN(ha:PT X a tA):PT X (.UnaryOp .Not a pos) (aOr tA):=by
 intro pins s σ H Q I h;exact isTrue_not (ha pins s σ H (λ c H1=>Q (!c) H1) I h)
def aNt(ta tb:TE):TE:=λ σ H Q=>ta σ H λ x H1=>∃c,x= .bl c/\if c=true then tb σ H1 Q else Q (.bl false) H1
def aNo(ta:TE):TE:=λ σ H Q=>ta σ H λ x H1=>∃c,x= .bl c/\Q (.bl (!c)) H1
theorem aMb{op}{t:TE}(h:PE X a t):PE X (.BoolOp op [a] pos) t:=λ pins s σ H Q I hw=>BoolOp_one (h pins s σ H Q I hw)
theorem aMg(ha:PE X a ta)(hb:PE X (.BoolOp .And (b::rest) pos) tb):PE X (.BoolOp .And (a::b::rest) pos) (aNt ta tb):=by
 intro pins s σ H Q I h;refine BoolOp_and (thn (ha pins s σ H _ I h) λ v s1 ⟨x,H1,I1,r1,q1⟩=>?_);obtain⟨c,rfl,q1⟩:=q1;cases r1;refine zBm ?_;cases c with
 |true=>exact hb pins s1 σ H1 Q I1 q1
 |false=>exact⟨.bl false,H1,I1,rfl,q1⟩
theorem aMc(ha:PE X a ta):PE X (.UnaryOp .Not a pos) (aNo ta):=by
 intro pins s σ H Q I h;refine UnaryOp_ (thn (ha pins s σ H _ I h) λ v s1 ⟨x,H1,I1,r1,q1⟩=>?_);obtain⟨c,rfl,q1⟩:=q1;cases r1;exact not_of (zBm ⟨.bl (!c),H1,I1,rfl,q1⟩)
end
def SqL(K:zAA)(H:Hp)(a:Addr)(xs:List V):Prop:=
 Rd H a (.lst xs)\/
  ∃(o:Obj) (its:Array Value) (n:Nat),K.lookup a=some o/\o.cls= .type "list"/\o.dict=none/\o.data= .seq its n/\its.size<=zAW/\Vals xs its.toList
def SqT(K:zAA)(H:Hp)(a:Addr)(xs:List V):Prop:=
 Rd H a (.tup xs)\/
  ∃(o:Obj) (its:Array Value) (n:Nat),K.lookup a=some o/\o.cls= .type "tuple"/\o.data= .seq its n/\its.size<=zAW/\Vals xs its.toList
def aPI:Value->Option V
 | .none=>some .non
 | .bool b=>some (.bl b)
 | .int i _=>some (.int i)
 | .str x _=>some (.str x)
 | .bytes b _=>some (.byt b)
 | .float b _=>some (.flt b)
 | .ref a=>some (.ref a)
 | .type n=>some (.ty n)
 |_=>none
theorem RelV.abs{x:V}{u:Value}(r:RelV x u):aPI u=some x:=by
 cases x with
 |non=>cases r;rfl
 |bl _=>cases r;rfl
 |int _=>obtain⟨t,rfl⟩:=r;rfl
 |str _=>obtain⟨t,rfl⟩:=r;rfl
 |byt _=>obtain⟨t,rfl⟩:=r;rfl
 |flt _=>obtain⟨t,rfl⟩:=r;rfl
 |ref _=>cases r;rfl
 |ty _=>cases r;rfl
theorem RelV.inj{x y:V}{u:Value}(r:RelV x u)(q:RelV y u):x=y:=zAa (r.abs.symm.trans q.abs)
theorem Vals.inj:∀{xs ys:List V} {us:List Value},Vals xs us->Vals ys us->xs=ys
 |_,_,_,.nil,.nil=>rfl
 |_,_,_,.cons r t,.cons r' t'=>by rw[r.inj r',Vals.inj t t']
section
variable{X:Cx}{pins:List (Addr×Obj)}{σ:St}{H:Hp}{s:zAF}{a:Addr}{xs ys:List V}
theorem SqL.of{K:zAA}(h:H a=some (.lst xs)):SqL K H a xs:=.inl (.inl h)
theorem SqT.of{K:zAA}(h:H a=some (.tup xs)):SqT K H a xs:=.inl (.inl h)
theorem Inv.list(I:Inv X pins σ H s)(h:SqL X.K H a xs):∃its:List Value,Vals xs its/\PlainL s.heap a its.toArray/\xs.length<=zAW:=by
 rcases h with h|⟨o,its,n,hk,hc,hd,hs,hz,r⟩
 ·obtain⟨z,its,n,r,e⟩:=h.ok I.hok
  exact⟨its,r,⟨_,n,e,rfl,rfl,rfl⟩,z⟩
 ·refine⟨its.toList,r,⟨o,n,I.kIn a o hk,hc,hd,by simpa using hs⟩,?_⟩
  have e:=r.length;simp only[zA7]at e;omega
theorem Inv.tuple(I:Inv X pins σ H s)(h:SqT X.K H a xs):∃its:List Value,Vals xs its/\IsTup s.heap a its.toArray/\xs.length<=zAW:=by
 rcases h with h|⟨o,its,n,hk,hc,hs,hz,r⟩
 ·obtain⟨z,its,r,p⟩:=h.ok I.hok
  exact⟨its,r,p,z⟩
 ·refine⟨its.toList,r,⟨o,I.kIn a o hk,hc,n,by simpa using hs⟩,?_⟩
  have e:=r.length;simp only[zA7]at e;omega
theorem Inv.list_inj(I:Inv X pins σ H s)(h:SqL X.K H a xs)(h':SqL X.K H a ys):xs=ys:=by
 obtain⟨its,r,⟨o,n,e,_,_,d⟩,_⟩:=I.list h;obtain⟨its',r',⟨o',n',e',_,_,d'⟩,_⟩:=I.list h';rw[e]at e';cases e';rw[d]at d';injection d' with d1 _
 have:its=its':=by simpa using congrArg zJA d1
 subst this;exact r.inj r'
theorem Inv.tuple_inj(I:Inv X pins σ H s)(h:SqT X.K H a xs)(h':SqT X.K H a ys):xs=ys:=by
 obtain⟨its,r,⟨o,e,_,n,d⟩,_⟩:=I.tuple h;obtain⟨its',r',⟨o',e',_,n',d'⟩,_⟩:=I.tuple h';rw[e]at e';cases e';rw[d]at d';injection d' with d1 _
 have:its=its':=by simpa using congrArg zJA d1
 subst this;exact r.inj r'
end
section
variable{X:Cx}{pins:List (Addr×Obj)}{σ:St}{H:Hp}{s:zAF}{E:Value->zAF->Prop}
end
section
variable{X:Cx}{st:Stmt}{rest:List Stmt}{t u:TS}{e:Expr}{te:TE}{pos:Pos}
def aNp:TS:=λ D σ H=>D.nx σ H
def aOq(t u:TS):TS:=λ D σ H=>t {D with nx:=u D} σ H
theorem aB7:PSs X [] aNp:=λ _ _ σ H _ I h=>zDe ⟨σ,H,I,h⟩
theorem gQ(h1:PS X st t)(h2:PSs X rest u):PSs X (st::rest) (aOq t u):=by
 intro pins s σ H D I h;refine wpAny_execs_cons (thn (h1 pins s σ H {D with nx:=u D} I h) λ f s1 q=>?_);cases f with
 |next=>
  obtain⟨σ',H',I',q⟩:=q;exact h2 pins s1 σ' H' D I' q
 |ret v=>exact q
 |brk=>exact q
 |cont=>exact q
theorem oR(h1:PS X st t):PSs X [st] t:=by
 intro pins s σ H D I h;refine wpAny_execs_cons (thn (h1 pins s σ H D I h) λ f s1 q=>?_);cases f with
 |next=>exact zDe q
 |ret v=>exact q
 |brk=>exact q
 |cont=>exact q
theorem Inv.quiet{pins:List (Addr×Obj)}{σ:St}{H:Hp}{s:zAF}(I:Inv X pins σ H s):interactive X.env=false:=by simp[interactive,I.ok.kind]
def aAX(te:TE):TS:=λ D σ H=>te σ H λ _ H1=>D.nx σ H1
theorem tV(he:PE X e te)(hs:zDI e none pos.line X.env=pure false:=by rfl):PS X (.Expr e pos) (aAX te):=by
 intro pins s σ H D I h;exact wpAny_Expr_any (thn (he pins s σ H _ I h) λ v s1 ⟨x,H1,I1,r1,q1⟩=>⟨σ,H1,I1,q1⟩) I.quiet hs
def aMG(te:TE):TS:=λ D σ H=>te σ H D.rt
theorem yN(he:PE X e te):PS X (.Return (some e) pos) (aMG te):=by
 intro pins s σ H D I h;exact wpAny_Return_some (thn (he pins s σ H _ I h) λ v s1 ⟨x,H1,I1,r1,q1⟩=>⟨x,σ,H1,I1,r1,q1⟩)
def aOv(c:TT)(t u:TS):TS:=λ D σ H=>c σ H λ b H1=>if b=true then t D σ H1 else u D σ H1
theorem aHr{c:Expr}{a b:List Stmt}{tc:TT}(hc:PT X c tc)(ha:PSs X a t)(hb:PSs X b u):PS X (.If c a b pos) (aOv tc t u):=by
 intro pins s σ H D I h;refine wpAny_If (thn (hc pins s σ H _ I h) λ d s1 ⟨H1,I1,q1⟩=>?_);cases d with
 |true=>exact ha pins s1 σ H1 D I1 q1
 |false=>exact hb pins s1 σ H1 D I1 q1
end
abbrev TG:=V->St->Hp->(St->Hp->Prop)->Prop
abbrev TGs:=List V->St->Hp->(St->Hp->Prop)->Prop
def PG(X:Cx)(target:Expr)(t:TG):Prop:=
 ∀(pins:List (Addr×Obj)) (s:zAF) (σ:St) (H:Hp) (v:V) (u:Value) (Q:St->Hp->Prop),Inv X pins σ H s->RelV v u->t v σ H Q->
  wpAny (model X.prog X.w) X.A (zEB target X.env u) (λ _ s'=>∃σ' H',Inv X pins σ' H' s'/\Q σ' H') X.xe s
def PGs(X:Cx)(ts:List Expr)(t:TGs):Prop:=
 ∀(pins:List (Addr×Obj)) (s:zAF) (σ:St) (H:Hp) (vs:List V) (us:List Value) (Q:St->Hp->Prop),Inv X pins σ H s->Vals vs us->t vs σ H Q->
  wpAny (model X.prog X.w) X.A (assignInOrder ((zCV ts X.env).map (·.2)) us) (λ _ s'=>∃σ' H',Inv X pins σ' H' s'/\Q σ' H') X.xe s
abbrev aNg:=V->V->V->Hp->(Hp->Prop)->Prop
def aOj(X:Cx)(t:aNg):Prop:=
 ∀(pins:List (Addr×Obj)) (s:zAF) (σ:St) (H:Hp) (o i v:V) (ov iv u:Value) (Q:Hp->Prop),Inv X pins σ H s->RelV o ov->RelV i iv->RelV v u->t o i v H Q->
  wpAny (model X.prog X.w) X.A (setItem ov iv u) (λ _ s'=>∃H',Inv X pins σ H' s'/\Q H') X.xe s
abbrev TIp:=V->V->Hp->VK->Prop
def PIp(X:Cx)(op:zJC)(t:TIp):Prop:=
 ∀(pins:List (Addr×Obj)) (s:zAF) (σ:St) (H:Hp) (x y:V) (v u:Value) (Q:VK),Inv X pins σ H s->RelV x v->RelV y u->t x y H Q->
  wpAny (model X.prog X.w) X.A (inplaceOp op v u) (EP X pins σ Q) X.xe s
section
variable{X:Cx}{pos:Pos}
def rK(i:Nat):TG:=λ v σ H Q=>Q (σ.set i (some v)) H
theorem aKH{i:Nat}{x:Str}(hN:X.N.Nodup)(hi:X.N[i]? =some x)(hx:Loc X.env.scope x)(hf:X.fn x=true\/X.env.scope.names.lookup x=some .local:=by first|exact .inl rfl|exact .inr rfl|assumption):PG X (.Name x pos) (rK i):=by
 intro pins s σ H v u Q I r h;exact zJ1 (tM I hN hi hx r (λ s' I'=>⟨_,H,I',h⟩) hf)
def aN2:TGs:=λ vs σ H Q=>vs=[]/\Q σ H
def aJH(t:TG)(u:TGs):TGs:=λ vs σ H Q=>∃v r,vs=v::r/\t v σ H λ σ' H'=>u r σ' H' Q
theorem aKG:PGs X [] aN2:=by
 intro pins s σ H vs us Q I r h;obtain⟨e,h⟩:=h;subst e;cases r;exact assignInOrder_nil ⟨σ,H,I,h⟩
theorem aHw{e:Expr}{es:List Expr}{t:TG}{u:TGs}(h1:PG X e t)(h2:PGs X es u)
  (hs:(zCV (e::es) X.env).map (·.2)=zEB e X.env::(zCV es X.env).map (·.2):=by rfl):PGs X (e::es) (aJH t u):=by
 intro pins s σ H vs us Q I r h;obtain⟨v,vr,e1,h⟩:=h;subst e1;cases r with
 |cons r rr=>
  rw[hs];refine assignInOrder_cons (thn (h1 pins s σ H _ _ _ I r h) λ _ s1 ⟨σ1,H1,I1,q1⟩=>?_);exact h2 pins s1 σ1 H1 _ _ Q I1 rr q1
def aKz(K:zAA)(n:Nat)(t:TGs):TG:=λ v σ H Q=>∃a xs,v= .ref a/\SqT K H a xs/\xs.length=n/\t xs σ H Q
theorem aM6{es:List Expr}{k:Nat}{t:TGs}{n:Nat}(hc:X.calm=true)(h:PGs X es t)
  (hn:(zCV es X.env).length=n:=by rfl)(hst:(zCV es X.env).findIdx? (·.1)=none:=by rfl):PG X (.Tuple es k pos) (aKz X.K n t):=by
 intro pins s σ H v u Q I r hw;obtain⟨a,xs,e1,hq,hl,hw⟩:=hw;subst e1;cases r;obtain⟨its,rv,ht,hz⟩:=I.tuple hq;refine assign_Tuple_tuple (I.ok.hd hc) ht (by simp[hn,<-hl,rv.length]) hst λ h' hx=>?_
 have I1:Inv X pins σ H {s with heap:=h'}:=I.kept (t':=s.toks) λ b o e=>hx b o (zA0 (zAQ e)) e
 exact h pins _ σ H xs _ Q I1 (by simpa using rv) hw
def aO8(to ti:TE)(t:aNg):TG:=λ v σ H Q=>to σ H λ o H1=>ti σ H1 λ i H2=>t o i v H2 λ H3=>Q σ H3
theorem aM7{o i:Expr}{to ti:TE}{t:aNg}(ho:PE X o to)(hi:PE X i ti)(hs:aOj X t)
  (ha:∀v,zEB (.Subscript o i pos) X.env v=(do
   let ov <-zCk [v] (eval o X.env);let iv <-zCk [v,ov] (eval i X.env)
   zES pos
   zCk [v,ov,iv] (setItem ov iv v)
   release [v,ov,iv] []):=by intro _;rfl):PG X (.Subscript o i pos) (aO8 to ti t):=by
 intro pins s σ H v u Q I r h;rw[ha];refine zAD (zBb (thn (ho pins s σ H _ I h) λ ov s1 ⟨x,H1,I1,r1,q1⟩=>?_));refine zAD (zBb (thn (hi pins s1 σ H1 _ I1 q1) λ iv s2 ⟨y,H2,I2,r2,q2⟩=>?_));refine zAD (zCg (zAD (zBb (thn (hs pins s2 σ H2 x y v ov iv u _ I2 r1 r2 r q2) λ _ s3 ⟨H3,I3,q3⟩=>?_))));exact wpAny_release ⟨σ,H3,I3,q3⟩
def aC0(te:TE)(g:TG):TS:=λ D σ H=>te σ H λ x H1=>g x σ H1 D.nx
theorem aHs{tg e:Expr}{te:TE}{g:TG}(he:PE X e te)(hg:PG X tg g)(hs:zIJ [tg] e pos.line X.env=pure false:=by rfl)(hw:zII [tg] e X.env=pure none:=by rfl)
  (h1:(zCV [tg] X.env).map (·.2)=[zEB tg X.env]:=by rfl):PS X (.Assign [tg] e pos) (aC0 te g):=by
 intro pins s σ H D I h;refine wpAny_Assign_stores (thn (he pins s σ H _ I h) λ v s1 ⟨x,H1,I1,r1,q1⟩=>?_) hs hw;rw[h1];exact thn (hg pins s1 σ H1 x v _ I1 r1 q1) λ _ s2 q=>q
theorem oU{i:Nat}{x:Str}{e:Expr}{te:TE}{pos':Pos}(hN:X.N.Nodup)(hi:X.N[i]? =some x)(hx:Loc X.env.scope x)(he:PE X e te)(hs:zDI e (some (.Name x pos')) pos.line X.env=pure false:=by rfl)(hf:X.fn x=true\/X.env.scope.names.lookup x=some .local:=by first|exact .inl rfl|exact .inr rfl|assumption):
  PS X (.Assign [.Name x pos'] e pos) (aC0 te (rK i)):=by
 intro pins s σ H D I h;refine wpAny_Assign_Name (thn (he pins s σ H _ I h) λ v s1 ⟨y,H1,I1,r1,q1⟩=>?_) hs;exact tM I1 hN hi hx r1 (λ s2 I2=>⟨_,H1,I2,q1⟩) hf
def aOx(i:Nat)(te:TE)(ti:TIp):TS:=λ D σ H=>∃x,σ[i]? =some (some x)/\te σ H λ y H1=>ti x y H1 λ z H2=>D.nx (σ.set i (some z)) H2
theorem aM3{i:Nat}{x:Str}{e:Expr}{te:TE}{op:zJC}{ti:TIp}{pos':Pos}(hN:X.N.Nodup)(hi:X.N[i]? =some x)(hx:Loc X.env.scope x)(he:PE X e te)(ho:PIp X op ti)(hf:X.fn x=true\/X.env.scope.names.lookup x=some .local:=by first|exact .inl rfl|exact .inr rfl|assumption):
  PS X (.AugAssign (.Name x pos') op e pos) (aOx i te ti):=by
 intro pins s σ H D I h;obtain⟨v,e1,h⟩:=h;obtain⟨m,hn,hl⟩:=I.loc;have vis:Vis X.env.scope x:=by rcases hx with k|k;exact .inl k;exact .inr (.inl k)
 obtain⟨u,r,l⟩:=hl i x v hi e1 vis;refine wpAny_AugAssign_Name ?_;have go:wpAny (model X.prog X.w) X.A (eval e X.env) (λ w s₂=>wpAny (model X.prog X.w) X.A (inplaceOp op u w) (λ r s₃=>wpAny (model X.prog X.w) X.A (storeName X.env x r) (λ _=>SP X pins D .next) X.xe s₃) X.xe s₂) X.xe s:=by
  refine thn (he pins s σ H _ I h) λ w s1 ⟨y,H1,I1,r1,q1⟩=>?_
  refine thn (ho pins s1 σ H1 v y u w _ I1 r r1 q1) λ z s2 ⟨zv,H2,I2,r2,q2⟩=>?_
  exact tM I2 hN hi hx r2 (λ s3 I3=>⟨_,H2,I3,q2⟩) hf
 rcases l with ⟨hk,hm⟩|⟨hk,c,hc,hcell⟩
 ·exact zEn I.ok.kind hk hn hm go
 ·rcases hk with hk|hk
  ·exact zFP I.ok.kind hk hc hcell go
  ·rcases hx with k|k
   ·have:X.env.scope.names.lookup x=some .free:=hk
    rw[k]at this;cases this
   ·have:X.env.scope.names.lookup x=some .free:=hk
    rw[k]at this;cases this
def ipI(f:Int->Int->Int):TIp:=λ x y H Q=>∃i j,x= .int i/\y= .int j/\Q (.int (f i j)) H
theorem aNX:PIp X .Add (ipI λ i j=>i+j):=by
 intro pins s σ H x y v u Q I r1 r2 h;obtain⟨i,j,e1,e2,q⟩:=h;subst e1;subst e2;obtain⟨t,rfl⟩:=r1;obtain⟨t',rfl⟩:=r2;exact iadd_int ⟨.int _,H,I.tok _,⟨_,rfl⟩,q⟩
end
section
variable{X:Cx}{pos:Pos}
def aMF(c:TT)(tb:TS):TS:=λ D σ H=>∃W:Nat->St->Hp->Prop,(∃m,W m σ H)/\∀m σ H,W m σ H->
 c σ H λ b H1=>if b=true then∃N:St->Hp->Prop,(∀σ' H',N σ' H'->∃m',m'<m/\W m' σ' H')/\tb {D with nx:=N,ct:=N,bk:=D.nx} σ H1 else D.nx σ H1
theorem aHo{c:Expr}{body:List Stmt}{tc:TT}{tb:TS}(hp:zIe (model X.prog X.w) X.A X.env X.xe)(hc:PT X c tc)(hb:PSs X body tb):PS X (.While c body [] pos) (aMF tc tb):=by
 intro pins s σ H D I h;obtain⟨W,⟨m0,w0⟩,turn⟩:=h;refine wpAny_While (codeAny_whileLoop (λ n s'=>∃σ' H',Inv X pins σ' H' s'/\W n σ' H') ?_ m0 ⟨σ,H,I,w0⟩);rintro n s1 ⟨σ1,H1,I1,w1⟩;refine zCa hp (thn (hc pins s1 σ1 H1 _ I1 (turn n σ1 H1 w1)) λ b s2 ⟨H2,I2,q2⟩=>?_);cases b with
 |true=>
  obtain⟨N,hN,q2⟩:=q2;rw[if_pos rfl];refine zCa hp (thn (hb pins s2 σ1 H2 _ I2 q2) λ f s3 q3=>?_);cases f with
  |next=>
   obtain⟨σ3,H3,I3,n3⟩:=q3;obtain⟨m',hm,w3⟩:=hN σ3 H3 n3;exact⟨m',hm,σ3,H3,I3,w3⟩
  |cont=>
   obtain⟨σ3,H3,I3,n3⟩:=q3;obtain⟨m',hm,w3⟩:=hN σ3 H3 n3;exact⟨m',hm,σ3,H3,I3,w3⟩
  |brk=>exact q3
  |ret v=>exact q3
 |false=>
  rw[if_neg zA3];exact zDe ⟨σ1,H2,I2,q2⟩
end
structure It where
 go:Nat->Hp->Prop
 yld:Nat->Hp->V->Hp->Prop
 stop:Nat->Hp->Prop
def tE(X:Cx)(pins:List (Addr×Obj))(H:Hp)(b:Addr):Prop:=
 H b=none/\b≠X.env.locals/\b∉X.fs/\(b∈X.ex\/X.s₀.heap.objs.size<=b)/\(∀x c,X.env.cells.lookup x=some c->c≠b)/\∀p∈X.ta++(X.pn++pins),p.1≠b
theorem Inv.fpOk{X:Cx}{pins:List (Addr×Obj)}{σ:St}{H H':Hp}{s:zAF}{b:Addr}(I:Inv X pins σ H s)(hb:s.heap.objs.size<=b)(hn:H' b=none):tE X pins H' b:=by
 refine⟨hn,zCH (zAU I.lt hb),I.nofs hb,.inr (zAg I.sz hb),λ x c e z=>?_,λ p hp z=>?_⟩
 ·obtain⟨v,q⟩:=I.cell x c e
  exact absurd (zAU q.lt (by rw[z];exact hb)) (zBP _)
 ·exact absurd (zAU (I.pinL hp) (by rw[z];exact hb)) (zBP _)
structure Turn(P:zA2)(w:World)(K:zAA)(tg:Expr)(J:It)(fp:List Addr)(it:Addr)(tn:Nat->Heap->Prop):Prop where
 mem:it∈fp
 obj:∀i h,tn i h->∀b∈fp,∃o,h.get? b=some o/\∀v,o.data≠.cell v
 keep:∀i h h',tn i h->(∀b∈fp,∀o,h.get? b=some o->h'.get? b=some o)->tn i h'
 item:∀(X:Cx),X.prog=P->X.w=w->X.K=K->X.calm=true->∀(i:Nat) (pins:List (Addr×Obj)) (s:zAF) (σ:St) (H:Hp) (E:Value->zAF->Prop),Inv X pins σ H s->(∀b∈fp,tE X pins H b)->tn i s.heap->J.go i H->
  wpAny (model P w) X.A (zEy (.ref it)) (λ r s1=>∃u,r=some u/\
   wpAny (model P w) X.A (zDH tg (.ref it) u) (λ _ s2=>∃x H',Inv X pins σ H' s2/\RelV x u/\J.yld i H x H'/\tn (i+1) s2.heap/\∀b∈fp,H' b=none) E s1) E s
 done:∀(X:Cx),X.prog=P->X.w=w->X.K=K->X.calm=true->∀(i:Nat) (pins:List (Addr×Obj)) (s:zAF) (σ:St) (H:Hp) (E:Value->zAF->Prop),Inv X pins σ H s->(∀b∈fp,tE X pins H b)->tn i s.heap->J.stop i H->
  wpAny (model P w) X.A (zEy (.ref it)) (λ r s1=>r=none/\Inv X pins σ H s1) E s
 self:∀(A:zAe) (i:Nat) (s:zAF) (Q:Value->zAF->Prop) (E:Value->zAF->Prop),tn i s.heap->Q (.ref it) s->wpAny (model P w) A (zHr (.ref it)) Q E s
abbrev TI:=St->Hp->(It->Hp->Prop)->Prop
def PIE(X:Cx)(pins:List (Addr×Obj))(σ:St)(tg:Expr)(R:It->Hp->Prop)(itv:Value)(s2:zAF):Prop:=
 ∃(it:Addr) (fp:List Addr) (tn:Nat->Heap->Prop) (J:It) (H':Hp),itv= .ref it/\Inv X pins σ H' s2/\Turn X.prog X.w X.K tg J fp it tn/\tn 0 s2.heap/\(∀b∈fp,tE X pins H' b)/\R J H'
def PI(X:Cx)(tg iter:Expr)(wi:TI):Prop:=
 ∀(pins:List (Addr×Obj)) (s:zAF) (σ:St) (H:Hp) (R:It->Hp->Prop),Inv X pins σ H s->wi σ H R->
  wpAny (model X.prog X.w) X.A (eval iter X.env) (λ v s1=>wpAny (model X.prog X.w) X.A (zHr v) (PIE X pins σ tg R) X.xe s1) X.xe s
theorem aJE{M:Model}{A:zAe}{E:Value->zAF->Prop}{s:zAF}{tg:Expr}{it:Addr}{u:Value}{o:Obj}{n:String}{vs:Array Value}{Q:Unit->zAF->Prop}(ho:s.heap.get? it=some o)(hc:o.cls= .type n)(hd:o.data= .fields vs)
    (hn:["enumerate","zip","dict_itemiterator","dict_reverseitemiterator","odict_iterator","itertools.zip_longest","itertools.pairwise"].contains n=false)(hQ:Q () s):wpAny M A (zDH tg (.ref it) u) Q E s:=by
  unfold zDH;cases tg<;>first
    |exact zAR hQ
    | (cases u <;> first
        |exact zAR hQ
        | (refine zAD (wpAny_load ho ?_)
           rw[hc,hd];show wpAny M A (if (["enumerate","zip","dict_itemiterator","dict_reverseitemiterator","odict_iterator","itertools.zip_longest","itertools.pairwise"].contains n&&vs[0]? ==some (zJG _))=true then _ else _) Q E s;rw[if_neg (by intro h;rw[hn,zGf]at h;cases h)];exact zAR hQ))
def Itl(K:zAA)(a:Addr):It:=
 ⟨λ i H=>∃xs x,SqL K H a xs/\xs[i]? =some x,λ i H x H'=>H'=H/\∀xs,SqL K H a xs->xs[i]? =some x,λ i H=>∃xs,SqL K H a xs/\xs.length<=i⟩
def Itt(K:zAA)(a:Addr):It:=
 ⟨λ i H=>∃xs x,SqT K H a xs/\xs[i]? =some x,λ i H x H'=>H'=H/\∀xs,SqT K H a xs->xs[i]? =some x,λ i H=>∃xs,SqT K H a xs/\xs.length<=i⟩
def Itr(lo:Int)(n:Nat):It:=⟨λ i _=>i<n,λ i H x H'=>H'=H/\x= .int (lo+i),λ i _=>n<=i⟩
theorem aGA{P:zA2}{w:World}{K:zAA}{tg:Expr}(a it:Addr):Turn P w K tg (Itl K a) [it] it (λ i h=>h.IsListIter it a i) where
 mem:=by simp
 obj:=λ i h st b hb=>by
  have e:b=it:=by simpa using hb
  subst e;obtain⟨o,e,c,d⟩:=st;exact⟨o,e,λ v z=>by rw[d]at z;cases z⟩
 keep:=λ i h h' st k=>st.at λ o e=>k it (by simp) o e
 item:=by
  intro X hP hw hK hc i pins s σ H E I hf st hg;subst hP hw hK;obtain⟨xs,x,hq,hx⟩:=hg;obtain⟨its,rv,p,hz⟩:=I.list hq;obtain⟨u,hu,ru⟩:=rv.get hx;obtain⟨f0,f1,f2,f3,f4,f5⟩:=hf it (by simp);refine wpAny_pyNext_list_item st p.isList (x:=u) (by simpa using hu) λ h' st' sb=>?_
  have I1:Inv X pins σ H {s with heap:=h'}:=I.turned (t':=s.toks) (λ b o hb e=>(sb.2 b hb).trans e) f0 f1 f3 f4 f5;obtain⟨o,e,c,d⟩:=id st';exact⟨u,rfl,aJE (s:={s with heap:=h'}) e c d (by decide) ⟨x,H,I1,ru,⟨rfl,λ ys hy=>by rw[I.list_inj hy hq];exact hx⟩,st',λ b hb=>(hf b hb).1⟩⟩
 done:=by
  intro X hP hw hK hc i pins s σ H E I hf st hg;subst hP hw hK;obtain⟨xs,hq,hx⟩:=hg;obtain⟨its,rv,p,hz⟩:=I.list hq;obtain⟨f0,f1,f2,f3,f4,f5⟩:=hf it (by simp);have hl:=rv.length;exact wpAny_pyNext_list_end (I.ok.hd hc) st p.isList (by simp;omega) λ h' eb=>⟨rfl,I.turned (t':=s.toks) (λ b o hb e=>eb b o hb e) f0 f1 f3 f4 f5⟩
 self:=λ _ _ _ _ _ st h=>wpAny_pyIter_listiter st h
theorem aDp{P:zA2}{w:World}{K:zAA}{tg:Expr}(a it:Addr):Turn P w K tg (Itt K a) [it] it (λ i h=>h.IsTupleIter it a i) where
 mem:=by simp
 obj:=λ i h st b hb=>by
  have e:b=it:=by simpa using hb
  subst e;obtain⟨o,e,c,d⟩:=st;exact⟨o,e,λ v z=>by rw[d]at z;cases z⟩
 keep:=λ i h h' st k=>st.at λ o e=>k it (by simp) o e
 item:=by
  intro X hP hw hK hc i pins s σ H E I hf st hg;subst hP hw hK;obtain⟨xs,x,hq,hx⟩:=hg;obtain⟨its,rv,p,hz⟩:=I.tuple hq;obtain⟨u,hu,ru⟩:=rv.get hx;obtain⟨f0,f1,f2,f3,f4,f5⟩:=hf it (by simp);refine wpAny_pyNext_tuple_item st (show s.heap.IsTuple a its.toArray from p) (x:=u) (by simpa using hu) λ h' st' sb=>?_
  have I1:Inv X pins σ H {s with heap:=h'}:=I.turned (t':=s.toks) (λ b o hb e=>(sb.2 b hb).trans e) f0 f1 f3 f4 f5;obtain⟨o,e,c,d⟩:=id st';exact⟨u,rfl,aJE (s:={s with heap:=h'}) e c d (by decide) ⟨x,H,I1,ru,⟨rfl,λ ys hy=>by rw[I.tuple_inj hy hq];exact hx⟩,st',λ b hb=>(hf b hb).1⟩⟩
 done:=by
  intro X hP hw hK hc i pins s σ H E I hf st hg;subst hP hw hK;obtain⟨xs,hq,hx⟩:=hg;obtain⟨its,rv,p,hz⟩:=I.tuple hq;obtain⟨f0,f1,f2,f3,f4,f5⟩:=hf it (by simp);have hl:=rv.length;exact wpAny_pyNext_tuple_end (I.ok.hd hc) st (show s.heap.IsTuple a its.toArray from p) (by simp;omega) λ h' eb=>⟨rfl,I.turned (t':=s.toks) (λ b o hb e=>eb b o hb e) f0 f1 f3 f4 f5⟩
 self:=λ _ _ _ _ _ st h=>wpAny_pyIter_tupleiter st h
theorem aDq{P:zA2}{w:World}{K:zAA}{tg:Expr}(it:Addr)(lo:Int)(n:Nat):Turn P w K tg (Itr lo n) [it] it (λ i h=>IsRangeIter h it (lo+(i:Nat)*1) ((n:Int)-(i:Nat)) 1) where
 mem:=by simp
 obj:=λ i h st b hb=>by
  have e:b=it:=by simpa using hb
  subst e;exact⟨_,st,λ v z=>by
   have z':Data.fields _=Data.cell v:=z;cases z'⟩
 keep:=λ i h h' st k=>k it (by simp) _ st
 item:=by
  intro X hP hw hK hc i pins s σ H E I hf st hg;subst hP hw hK;obtain⟨f0,f1,f2,f3,f4,f5⟩:=hf it (by simp);have W:=Walks.range (prog:=X.prog) (w:=X.w) (I.ok.hd hc) it lo 1 n;refine W.item i s _ _ hg st λ v h' tk hv st' kk=>?_
  obtain⟨t,rfl⟩:=hv;have I1:Inv X pins σ H {s with heap:=h',toks:=tk}:=I.turned (λ b o hb e=>kk b o (by simpa using hb) e) f0 f1 f3 f4 f5;refine⟨_,rfl,aJE (s:={s with heap:=h',toks:=tk}) (n:="range_iterator") st' rfl rfl (by decide) ⟨.int (lo+i),H,I1,⟨t,?_⟩,⟨rfl,rfl⟩,st',λ b hb=>(hf b hb).1⟩⟩;rw[Int.mul_one]
 done:=by
  intro X hP hw hK hc i pins s σ H E I hf st hg;subst hP hw hK;obtain⟨f0,f1,f2,f3,f4,f5⟩:=hf it (by simp);exact wpAny_pyNext_range_end (I.ok.hd hc) st (by have:n<=i:=hg;omega) λ h' eb=>⟨rfl,I.turned (t':=s.toks) (λ b o hb e=>eb b o hb e) f0 f1 f3 f4 f5⟩
 self:=λ _ _ _ _ _ st h=>wpAny_pyIter_rangeiter st h
section
variable{X:Cx}{tg:Expr}
theorem aCi{pins:List (Addr×Obj)}{σ:St}{H:Hp}{s:zAF}{R:It->Hp->Prop}{E:Value->zAF->Prop}{lo hi:Int}{t u v:Tok}{tk:Nat}(I:Inv X pins σ H s)(h1: -(2^62)<=lo)(h2:lo<2^62)(h3: -(2^62)<=hi)(h4:hi<2^62)
  (q:R (Itr lo (hi-lo).toNat) H):wpAny (model X.prog X.w) X.A (zHr (.ref s.heap.objs.size)) (PIE X pins σ tg R) E {s with heap:=s.heap.push {cls:=.type "range",data:=.fields #[.int lo t,.int hi u,.int 1 v]},toks:=tk}:=by
 refine wpAny_pyIter_range (IsRange.new ..) (small_one h1 h2 h3 h4) ?_;have I1:Inv X pins σ H {s with heap:=s.heap.push {cls:=.type "range",data:=.fields #[.int lo t,.int hi u,.int 1 v]},toks:=tk}:=I.kept λ b o e=>zAC _ e
 refine⟨(s.heap.push {cls:=.type "range",data:=.fields #[.int lo t,.int hi u,.int 1 v]}).objs.size,[(s.heap.push {cls:=.type "range",data:=.fields #[.int lo t,.int hi u,.int 1 v]}).objs.size],_,_,H,rfl,
  I1.kept (t':=tk) λ b o e=>zAC _ e,aDq _ lo (hi-lo).toNat,?_,λ b hb=>?_,q⟩
 ·have e1:lo+((0:Nat):Int)*1=lo:=by simp
  have e2:(((hi-lo).toNat:Nat):Int)-((0:Nat):Int)=zDT lo hi 1:=by rw[rangeSize_one];split<;>omega
  show IsRangeIter _ _ (lo+((0:Nat):Int)*1) ((((hi-lo).toNat:Nat):Int)-((0:Nat):Int)) 1;rw[e1,e2];exact zAV _ rfl
 ·have e:b=(s.heap.push {cls:=.type "range",data:=.fields #[.int lo t,.int hi u,.int 1 v]}).objs.size:=by simpa using hb
  subst e;exact I1.fpOk (zAS _) (I1.hok.fresh (zAS _))
def aO7(ta:TA):TI:=λ σ H R=>ta σ H λ vs H1=>∃j:Int,vs=[.int j]/\-(2^62)<=j/\j<2^62/\R (Itr 0 j.toNat) H1
def aO6(ta:TA):TI:=λ σ H R=>ta σ H λ vs H1=>∃i j:Int,vs=[.int i,.int j]/\(-(2^62)<=i/\i<2^62/\-(2^62)<=j/\j<2^62)/\R (Itr i (j-i).toNat) H1
theorem aGO{a:Expr}{ta:TA}{p pos:Pos}(hg:Gl X "range")(hm:X.mg "range"=none)(ha:PA X [a] ta)(hs:zAZ [a] X.env=[(false,eval a X.env)]:=by rfl):PI X tg (.Call (.Name "range" p) [a] [] pos) (aO7 ta):=by
 intro pins s σ H R I h;refine Call_ (sX I hg hm zJW (zCI (thn (ha pos pins s σ H _ I h) λ us s1 ⟨vs,H1,I1,r1,q1⟩=>?_) hs rfl));obtain⟨j,e,q1,q2,q⟩:=q1;subst e;cases r1 with
 |cons r rr=>
  cases rr;obtain⟨t,rfl⟩:=r;exact call_range_1 (aCi I1 (by omega) (by omega) q1 q2 (by simpa using q))
theorem aGN{a b:Expr}{ta:TA}{p pos:Pos}(hg:Gl X "range")(hm:X.mg "range"=none)(ha:PA X [a,b] ta)(hs:zAZ [a,b] X.env=[(false,eval a X.env),(false,eval b X.env)]:=by rfl)(hs2:zAZ [b] X.env=[(false,eval b X.env)]:=by rfl):
  PI X tg (.Call (.Name "range" p) [a,b] [] pos) (aO6 ta):=by
 intro pins s σ H R I h;refine Call_ (sX I hg hm zJW (zCI (thn (ha pos pins s σ H _ I h) λ us s1 ⟨vs,H1,I1,r1,q1⟩=>?_) (by rw[hs,hs2]) (by rw[hs2];rfl)));obtain⟨i,j,e,⟨q1,q2,q3,q4⟩,q⟩:=q1;subst e;cases r1 with
 |cons r rr=>
  cases rr with
  |cons r' rr=>
   cases rr;obtain⟨t,rfl⟩:=r;obtain⟨t',rfl⟩:=r';exact call_range_2 (aCi I1 q1 q2 q3 q4 q)
def aOw(wi:TI)(g:TG)(tb:TS):TS:=λ D σ H=>wi σ H λ J H1=>∃W:Nat->Nat->St->Hp->Prop,(∃m,W 0 m σ H1)/\∀i m σ H,W i m σ H->
 (J.stop i H/\D.nx σ H)\/(J.go i H/\∃N:St->Hp->Prop,(∀σ' H',N σ' H'->∃m',m'<m/\W (i+1) m' σ' H')/\∀x H',J.yld i H x H'->g x σ H' λ σ2 H2=>tb {D with nx:=N,ct:=N,bk:=D.nx} σ2 H2)
def sU(fp:List Addr)(h:Heap):List (Addr×Obj):=fp.filterMap λ b=>(h.get? b).map λ o=>(b,o)
theorem lK{fp:List Addr}{h:Heap}{b:Addr}{o:Obj}(hb:b∈fp)(e:h.get? b=some o):(b,o)∈sU fp h:=zBs.mpr ⟨b,hb,by rw[e];rfl⟩
theorem aA9{fp:List Addr}{h:Heap}{p:Addr×Obj}(hp:p∈sU fp h):p.1∈fp/\h.get? p.1=some p.2:=by
 obtain⟨b,hb,e⟩:=zBs.mp hp;cases q:h.get? b with
 |none=>rw[q]at e;cases e
 |some o=>
  rw[q]at e;have e':(b,o)=p:=zAa e;subst e';exact⟨hb,q⟩
theorem Inv.pinned{pins:List (Addr×Obj)}{σ:St}{H:Hp}{s:zAF}{fp:List Addr}(I:Inv X pins σ H s)(hf:∀b∈fp,tE X pins H b)(ho:∀b∈fp,∃o,s.heap.get? b=some o/\∀v,o.data≠.cell v):Inv X (pins++sU fp s.heap) σ H s:=
 I.pins_of (λ p hp=>(zAm.mp hp).elim (λ z=>I.pin p (zA6 _ z)) λ z=>by
  obtain⟨hb,e⟩:=aA9 z;obtain⟨f0,f1,f2,_⟩:=hf p.1 hb;obtain⟨o,e',d⟩:=ho p.1 hb;rw[e]at e';cases e';exact⟨e,f0,f1,f2,d⟩) λ q hq p hp=>(zAm.mp hq).elim (λ z=>(I.tab p hp).2.2.2.1 q (zA6 _ z)) λ z=>((hf q.1 (aA9 z).1).2.2.2.2.2 p (zAX _ hp)).symm
theorem Inv.unpinned{pins pl:List (Addr×Obj)}{σ:St}{H:Hp}{s:zAF}(I:Inv X (pins++pl) σ H s):Inv X pins σ H s:=I.pins_of (λ p hp=>I.pin p (zA6 _ (zAX _ hp))) λ q hq p hp=>(I.tab p hp).2.2.2.1 q (zA6 _ (zAX _ hq))
theorem aM2{iter:Expr}{body:List Stmt}{wi:TI}{g:TG}{tb:TS}{pos:Pos}(hp:zIe (model X.prog X.w) X.A X.env X.xe)(hc:X.calm=true)(hi:PI X tg iter wi)(hg:PG X tg g)(hb:PSs X body tb)
  (hs:∀x,zAw iter X.env x=pure x:=by intro _;rfl):PS X (.For tg iter body [] pos) (aOw wi g tb):=by
 intro pins s σ H D I h;refine wpAny_For (thn (hi pins s σ H _ I h) λ v s1 h1=>thn h1 λ itv s2 h2=>?_) hs;obtain⟨it,fp,tn,J,H2,e,I2,T,st2,f2,W,⟨m0,w0⟩,turn⟩:=h2;subst e;have stat:∀{H':Hp},(∀b∈fp,H' b=none)->∀b∈fp,tE X pins H' b:=λ hn b hb=>⟨hn b hb,(f2 b hb).2⟩
 refine codeAny_forLoop_any (λ n s'=>∃i σ' H',Inv X pins σ' H' s'/\tn i s'.heap/\(∀b∈fp,H' b=none)/\W i n σ' H') ?_ m0 ⟨0,σ,H2,I2,st2,λ b hb=>(f2 b hb).1,w0⟩;rintro n s3 ⟨i,σ3,H3,I3,st3,fr3,w3⟩;rcases turn i n σ3 H3 w3 with ⟨stop,qn⟩|⟨go,N,hN,step⟩
 ·refine zCa hp (thn (T.done X rfl rfl rfl hc i pins s3 σ3 H3 X.xe I3 (stat fr3) st3 stop) λ r s4 ⟨hr,I4⟩=>?_)
  subst hr;exact zDe ⟨σ3,H3,I4,qn⟩
 ·refine zCa hp (thn (T.item X rfl rfl rfl hc i pins s3 σ3 H3 X.xe I3 (stat fr3) st3 go) λ r s4 ⟨u,hr,h4⟩=>?_)
  subst hr;refine zCa hp (thn h4 λ _ s5 ⟨x,H5,I5,r5,y5,st5,fr5⟩=>?_);have I5':=I5.pinned (stat fr5) (T.obj _ _ st5);refine zCa hp (thn (hg _ s5 σ3 H5 x u _ I5' r5 (step x H5 y5)) λ _ s6 ⟨σ6,H6,I6,q6⟩=>?_);refine zCa hp (thn (hb _ s6 σ6 H6 _ I6 q6) λ f s7 q7=>?_);have again:∀{σ7:St} {H7:Hp},Inv X (pins++sU fp s5.heap) σ7 H7 s7->N σ7 H7->∃m,m<n/\∃i σ' H',Inv X pins σ' H' s7/\tn i s7.heap/\(∀b∈fp,H' b=none)/\W i m σ' H':=λ{σ7 H7} I7 n7=>by
   obtain⟨m',hm,w7⟩:=hN σ7 H7 n7;refine⟨m',hm,i+1,σ7,H7,I7.unpinned,T.keep _ _ _ st5 λ b hb o e=>(I7.pin (b,o) (zA6 _ (zA6 _ (lK hb e)))).1,λ b hb=>?_,w7⟩;obtain⟨o,e,d⟩:=T.obj _ _ st5 b hb;exact(I7.pin (b,o) (zA6 _ (zA6 _ (lK hb e)))).2.1
  cases f with
  |next=>obtain⟨σ7,H7,I7,n7⟩:=q7;exact again I7 n7
  |cont=>obtain⟨σ7,H7,I7,n7⟩:=q7;exact again I7 n7
  |brk=>obtain⟨σ7,H7,I7,q7⟩:=q7;exact⟨σ7,H7,I7.unpinned,q7⟩
  |ret v=>obtain⟨x7,σ7,H7,I7,r7,q7⟩:=q7;exact⟨x7,σ7,H7,I7.unpinned,r7,q7⟩
end
abbrev R2:=V->V->Hp->VK->Prop
def OpR(X:Cx)(f:Value->Value->Sem Value)(r:R2):Prop:=
 ∀(pins:List (Addr×Obj)) (s:zAF) (σ:St) (H:Hp) (x y:V) (v u:Value) (Q:VK),Inv X pins σ H s->RelV x v->RelV y u->r x y H Q->
  wpAny (model X.prog X.w) X.A (f v u) (EP X pins σ Q) X.xe s
def UnR(X:Cx)(f:Value->Sem Value)(r:V->Hp->VK->Prop):Prop:=
 ∀(pins:List (Addr×Obj)) (s:zAF) (σ:St) (H:Hp) (x:V) (v:Value) (Q:VK),Inv X pins σ H s->RelV x v->r x H Q->
  wpAny (model X.prog X.w) X.A (f v) (EP X pins σ Q) X.xe s
def dD(X:Cx)(f:Value)(r:List V->Hp->VK->Prop):Prop:=
 ∀(pins:List (Addr×Obj)) (s:zAF) (σ:St) (H:Hp) (xs:List V) (us:List Value) (Q:VK),Inv X pins σ H s->Vals xs us->r xs H Q->
  wpAny (model X.prog X.w) X.A (call f us) (EP X pins σ Q) X.xe s
def aPJ(X:Cx)(r:V->Hp->(Bool->Hp->Prop)->Prop):Prop:=
 ∀(pins:List (Addr×Obj)) (s:zAF) (σ:St) (H:Hp) (x:V) (v:Value) (Q:Bool->Hp->Prop),Inv X pins σ H s->RelV x v->r x H Q->
  wpAny (model X.prog X.w) X.A (truthy v) (TP X pins σ Q) X.xe s
def tOp(r:R2)(ta tb:TE):TE:=λ σ H Q=>ta σ H λ x H1=>tb σ H1 λ y H2=>r x y H2 Q
def tUn(r:V->Hp->VK->Prop)(ta:TE):TE:=λ σ H Q=>ta σ H λ x H1=>r x H1 Q
def rI(C:Int->Int->Prop)(g:Int->Int->V):R2:=λ x y H Q=>∃i j,x= .int i/\y= .int j/\C i j/\Q (g i j) H
def rI0(g:Int->Int->V):R2:=λ x y H Q=>∃i j,x= .int i/\y= .int j/\Q (g i j) H
def rU(g:Int->V):V->Hp->VK->Prop:=λ x H Q=>∃i,x= .int i/\Q (g i) H
section
variable{X:Cx}{a b c:Expr}{ta tb tc:TE}{pos:Pos}
theorem aNc(ha:PE X a ta)(hb:PE X b tb){pins:List (Addr×Obj)}{s:zAF}{σ:St}{H:Hp}{R:V->V->Hp->Prop}(I:Inv X pins σ H s)
  (h:ta σ H λ x H1=>tb σ H1 λ y H2=>R x y H2){Q:Value->zAF->Prop}{f:Value->Value->Sem Value}
  (hf:∀v u s2 x y H2,Inv X pins σ H2 s2->RelV x v->RelV y u->R x y H2->wpAny (model X.prog X.w) X.A (f v u) Q X.xe s2):
  wpAny (model X.prog X.w) X.A (eval a X.env) (λ v s₁=>wpAny (model X.prog X.w) X.A (eval b X.env) (λ u s₂=>wpAny (model X.prog X.w) X.A (f v u) Q X.xe s₂) X.xe s₁) X.xe s:=by
 refine thn (ha pins s σ H _ I h) λ v s1 ⟨x,H1,I1,r1,q1⟩=>?_
 refine thn (hb pins s1 σ H1 _ I1 q1) λ u s2 ⟨y,H2,I2,r2,q2⟩=>?_
 exact hf v u s2 x y H2 I2 r1 r2 q2
theorem aHy{op:zJC}{r:R2}(ho:OpR X (zCK op) r)(ha:PE X a ta)(hb:PE X b tb):PE X (.BinOp a op b pos) (tOp r ta tb):=by
 intro pins s σ H Q I h;exact wpAny_BinOp (aNc ha hb I h λ v u s2 x y H2 I2 rx ry q=>ho pins s2 σ H2 x y v u Q I2 rx ry q)
theorem aOM{op:UnaryOp}{r:V->Hp->VK->Prop}(ho:UnR X (unaryOp op) r)(ha:PE X a ta):PE X (.UnaryOp op a pos) (tUn r ta):=by
 intro pins s σ H Q I h;exact UnaryOp_ (thn (ha pins s σ H _ I h) λ v s1 ⟨x,H1,I1,r1,q1⟩=>ho pins s1 σ H1 x v Q I1 r1 q1)
theorem opI{f:Value->Value->Sem Value}{C:Int->Int->Prop}{g:Int->Int->Int}
  (rule:∀(i j:Int) (t u:Tok) (s:zAF) (Q:Value->zAF->Prop) (E:Value->zAF->Prop),C i j->Q (.int (g i j) s.toks) {s with toks:=s.toks+1}->wpAny (model X.prog X.w) X.A (f (.int i t) (.int j u)) Q E s):
  OpR X f (rI C λ i j=>.int (g i j)):=by
 intro pins s σ H x y v u Q I rx ry h;obtain⟨i,j,rfl,rfl,hc,q⟩:=h;obtain⟨t,rfl⟩:=rx;obtain⟨t',rfl⟩:=ry;exact rule i j t t' s _ _ hc ⟨.int (g i j),H,I.tok _,⟨_,rfl⟩,q⟩
theorem aOT{f:Value->Value->Sem Value}{g:Int->Int->Int}
  (rule:∀(i j:Int) (t u:Tok) (s:zAF) (Q:Value->zAF->Prop) (E:Value->zAF->Prop),Q (.int (g i j) s.toks) {s with toks:=s.toks+1}->wpAny (model X.prog X.w) X.A (f (.int i t) (.int j u)) Q E s):
  OpR X f (rI0 λ i j=>.int (g i j)):=by
 intro pins s σ H x y v u Q I rx ry h;obtain⟨i,j,rfl,rfl,q⟩:=h;obtain⟨t,rfl⟩:=rx;obtain⟨t',rfl⟩:=ry;exact rule i j t t' s _ _ ⟨.int (g i j),H,I.tok _,⟨_,rfl⟩,q⟩
theorem aKZ{f:Value->Value->Sem Value}{g:Int->Int->Bool}
  (rule:∀(i j:Int) (t u:Tok) (s:zAF) (Q:Value->zAF->Prop) (E:Value->zAF->Prop),Q (.bool (g i j)) s->wpAny (model X.prog X.w) X.A (f (.int i t) (.int j u)) Q E s):
  OpR X f (rI0 λ i j=>.bl (g i j)):=by
 intro pins s σ H x y v u Q I rx ry h;obtain⟨i,j,rfl,rfl,q⟩:=h;obtain⟨t,rfl⟩:=rx;obtain⟨t',rfl⟩:=ry;exact rule i j t t' s _ _ ⟨.bl (g i j),H,I,rfl,q⟩
def aOm(i j:Int):Prop:=0<j/\j<1073741824
def aPK(i j:Int):Prop:=0<=j/\j<=1000000/\i.natAbs<2^64
def aL0(i j:Int):Prop:=(-(2^64)<i/\i<2^64)\/(-(2^64)<j/\j<2^64)
theorem aL0.ok{i j:Int}(h:aL0 i j):IntMulOk i j:=by
 rcases h with ⟨h1,h2⟩|⟨h1,h2⟩
 ·exact .of_left (intBits_le_64 h1 h2)
 ·exact .of_right (intBits_le_64 h1 h2)
theorem aNF:OpR X (zCK .Add) (rI0 λ i j=>.int (i+j)):=aOT λ _ _ _ _ _ _ _ q=>add_int q
theorem aMr:OpR X (zCK .Sub) (rI0 λ i j=>.int (i-j)):=aOT λ _ _ _ _ _ _ _ q=>sub_int q
theorem aMv:OpR X (zCK .Mult) (rI aL0 λ i j=>.int (i*j)):=opI λ _ _ _ _ _ _ _ hc q=>mul_int q hc.ok
theorem aKV:OpR X (zCK .FloorDiv) (rI aOm λ i j=>.int (i / j)):=opI λ i j _ _ _ _ _ hc q=>by
 have h1:(0:Int)<j:=hc.1;have h2:j<1073741824:=hc.2;exact floordiv_int (by omega) (by rw[Int.fdiv_eq_ediv_of_nonneg i (by omega)];exact q) (.inl (PyProof.noPylong_small (by omega)))
theorem aMw:OpR X (zCK .Mod) (rI (λ _ j=>0<j) λ i j=>.int (i%j)):=opI λ i j _ _ _ _ _ hc q=>by
 have h1:(0:Int)<j:=hc;exact mod_int' (by omega) (by rw[Int.fmod_eq_emod_of_nonneg i (by omega)];exact q)
theorem aMt:OpR X (zCK .Pow) (rI aPK λ i j=>.int (i^j.toNat)):=opI λ _ _ _ _ _ _ _ hc q=>pow_int_small hc.1 hc.2.1 hc.2.2 q
theorem unI{f:Value->Sem Value}{g:Int->Int}
  (rule:∀(i:Int) (t:Tok) (s:zAF) (Q:Value->zAF->Prop) (E:Value->zAF->Prop),Q (.int (g i) s.toks) {s with toks:=s.toks+1}->wpAny (model X.prog X.w) X.A (f (.int i t)) Q E s):
  UnR X f (rU λ i=>.int (g i)):=by
 intro pins s σ H x v Q I rx h;obtain⟨i,rfl,q⟩:=h;obtain⟨t,rfl⟩:=rx;exact rule i t s _ _ ⟨.int (g i),H,I.tok _,⟨_,rfl⟩,q⟩
theorem aLx:UnR X (unaryOp .USub) (rU λ i=>.int (-i)):=unI λ _ _ _ _ _ q=>neg_int q
end
section
variable{X:Cx}{a b c:Expr}{ta tb tc:TE}{pos:Pos}
theorem aOP:OpR X (zAr .Lt) (rI0 λ i j=>.bl (decide (i<j))):=aKZ λ _ _ _ _ _ _ _ q=>lt_int q
theorem aOQ:OpR X (zAr .LtE) (rI0 λ i j=>.bl (decide (i<=j))):=aKZ λ _ _ _ _ _ _ _ q=>le_int q
theorem aOR:OpR X (zAr .Gt) (rI0 λ i j=>.bl (decide (j<i))):=aKZ λ _ _ _ _ _ _ _ q=>gt_int q
theorem aOS:OpR X (zAr .GtE) (rI0 λ i j=>.bl (decide (j<=i))):=aKZ λ _ _ _ _ _ _ _ q=>ge_int q
def isObj:HO->Bool
 | .lst _=>true
 | .ins _ _ _=>true
 |_=>false
theorem OpR.or{f:Value->Value->Sem Value}{r r':R2}(h:OpR X f r)(h':OpR X f r'):OpR X f (λ x y H Q=>r x y H Q\/r' x y H Q):=by
 intro pins s σ H x y v u Q I rx ry q;rcases q with q|q
 ·exact h pins s σ H x y v u Q I rx ry q
 ·exact h' pins s σ H x y v u Q I rx ry q
theorem aIS(b:Expr){op:CmpOp}(h:op≠.In:=by decide)(h2:op≠.NotIn:=by decide):zBY op b=false:=by
 have e1:(op==CmpOp.In)=false:=by cases op<;>first|rfl|exact absurd rfl h
 have e2:(op==zJM)=false:=by cases op<;>first|rfl|exact absurd rfl h2
 cases b<;>simp[zBY,e1,e2]
theorem aKL{op:CmpOp}{r:R2}(ho:OpR X (zAr op) r)(ha:PE X a ta)(hb:PE X b tb)(hm:zBY op b=false):PE X (.Compare a [op] [b] pos) (tOp r ta tb):=by
 intro pins s σ H Q I h;exact wpAny_Compare1 (aNc ha hb I h λ v u s2 x y H2 I2 rx ry q=>ho pins s2 σ H2 x y v u Q I2 rx ry q) hm
def aL4(t:TE):TT:=λ σ H Q=>t σ H λ x H'=>∃k,x= .bl k/\Q k H'
theorem aKE{op:CmpOp}{r:R2}(ho:OpR X (zAr op) r)(ha:PE X a ta)(hb:PE X b tb)(hm:zBY op b=false):PT X (.Compare a [op] [b] pos) (aL4 (tOp r ta tb)):=by
 intro pins s σ H Q I h;refine zIm (thn (ha pins s σ H _ I h) λ v s1 ⟨x,H1,I1,r1,q1⟩=>thn (hb pins s1 σ H1 _ I1 q1) λ u s2 ⟨y,H2,I2,r2,q2⟩=>
  thn (ho pins s2 σ H2 x y v u _ I2 r1 r2 q2) λ c s3 ⟨z,H3,I3,r3,k,e,q3⟩=>?_) hm
 subst e;cases r3;exact zBm ⟨H3,I3,q3⟩
def aHE(r r':R2)(ta tb tc:TE):TE:=λ σ H Q=>ta σ H λ x H1=>tb σ H1 λ y H2=>r x y H2 λ z H3=>∃k,z= .bl k/\
 (if k=true then tc σ H3 λ w' H4=>r' y w' H4 Q else Q (.bl false) H3)
theorem aIC{op op':CmpOp}{r r':R2}(ho:OpR X (zAr op) r)(ho':OpR X (zAr op') r')(ha:PE X a ta)(hb:PE X b tb)(hc:PE X c tc)
  (hm:zIj [op,op'] [b,c]=false:=by with_unfolding_all rfl):PE X (.Compare a [op,op'] [b,c] pos) (aHE r r' ta tb tc):=by
 intro pins s σ H Q I h;refine Compare_chain (thn (ha pins s σ H _ I h) λ v s1 ⟨x,H1,I1,r1,q1⟩=>chain_link (thn (hb pins s1 σ H1 _ I1 q1) λ u s2 ⟨y,H2,I2,r2,q2⟩=>
  thn (ho pins s2 σ H2 x y v u _ I2 r1 r2 q2) λ d s3 ⟨z,H3,I3,r3,k,e,q3⟩=>?_)) hm
 subst e;cases r3;refine zBm ?_;cases k with
 |false=>exact ite_ff ⟨.bl false,H3,I3,rfl,q3⟩
 |true=>exact ite_tt (chain_last (thn (hc pins s3 σ H3 _ I3 q3) λ w' s4 ⟨z',H4,I4,r4,q4⟩=>ho' pins s4 σ H4 y z' u w' Q I4 r2 r4 q4))
def aNf(K:zAA)(x:V)(H:Hp)(k:Bool):Prop:=
 match x with
 | .non=>k=false
 | .bl b=>k=b
 | .int i=>k=(i !=0)
 | .str y=>y.length<=zAW/\k=((y.length:Int)!=0)
 | .byt y=>y.size<=zAW/\k=((y.size:Int)!=0)
 | .ref p=>(∃xs,SqL K H p xs/\k= !xs.isEmpty)\/(∃xs,SqT K H p xs/\k= !xs.isEmpty)\/∃kvs,H p=some (.dK kvs)/\k= !kvs.isEmpty
 |_=>False
theorem aEj{κ:Type}{kvs:List (κ×V)}{vs:List (κ×Value)}(r:KV kvs vs):(!vs.isEmpty)= !kvs.isEmpty:=by
 cases r<;>rfl
theorem yq{xs:List V}{its:List Value}(r:Vals xs its):(!its.toArray.isEmpty)= !xs.isEmpty:=by
 cases r<;>simp
theorem vL:(zAW:Nat)<2^63:=by rw[zBr];decide
theorem aMC:aPJ X (λ x H Q=>∃k,aNf X.K x H k/\Q k H):=by
 intro pins s σ H x v Q I rx h;obtain⟨k,e,q⟩:=h;have hl:=vL;have hs:zAW=16777216:=zBr;cases x with
 |non=>
  cases rx;have e':k=false:=e;subst e';exact truthy_none ⟨H,I,q⟩
 |bl b=>
  cases rx;have e':k=b:=e;subst e';exact zBm ⟨H,I,q⟩
 |int i=>
  obtain⟨t,rfl⟩:=rx;have e':k=(i !=0):=e;subst e';exact PySem.P.truthy_int ⟨H,I,q⟩
 |str y=>
  obtain⟨t,rfl⟩:=rx;obtain⟨hy,e'⟩:y.length<=zAW/\k=((y.length:Int)!=0):=e;subst e';exact PySem.P.truthy_str (by omega) ⟨H,I.tok _,q⟩
 |byt y=>
  obtain⟨t,rfl⟩:=rx;obtain⟨hy,e'⟩:y.size<=zAW/\k=((y.size:Int)!=0):=e;subst e';exact PySem.W.truthy_bytes (by omega) ⟨H,I.tok _,q⟩
 |ref p=>
  cases rx;have e':(∃xs,SqL X.K H p xs/\k= !xs.isEmpty)\/(∃xs,SqT X.K H p xs/\k= !xs.isEmpty)\/∃kvs,H p=some (.dK kvs)/\k= !kvs.isEmpty:=e
  rcases e' with ⟨xs,hx,e'⟩|⟨xs,hx,e'⟩|⟨kvs,hx,e'⟩
  ·subst e'
   obtain⟨its,r,pl,hz⟩:=I.list hx;have hlen:=r.length;exact wpAny_truthy_list pl.isList (by simp only[zAP];omega) ⟨H,I.tok _,by rw[yq r];exact q⟩
  ·subst e'
   obtain⟨its,r,pl,hz⟩:=I.tuple hx;have hlen:=r.length;exact truthy_tuple pl (by simp only[zAP];omega) ⟨H,I.tok _,by rw[yq r];exact q⟩
  ·subst e'
   obtain⟨hz,hS,vs,r,m⟩:kvs.length<=zAW/\(p==zCe)=false/\∃vs,KV kvs vs/\s.heap.DictOf (fQ X.prog X.w) p vs:=I.hok p _ hx
   have hlen:kvs.length=vs.length:=zGi r;exact wpAny_truthy_dict hS m (by omega) ⟨H,I.tok _,by rw[aEj r];exact q⟩
 |_=>exact(show False from e).elim
theorem aHn(ha:PE X a ta)(he:∀whole,isTrue a X.env whole=(do let v <-whole;zES a.pos;zCk [v] (truthy v))):
  PT X a (λ σ H Q=>ta σ H λ x H'=>∃k,aNf X.K x H' k/\Q k H'):=by
 intro pins s σ H Q I h;exact isTrue_plain (thn (ha pins s σ H _ I h) λ v s1 ⟨x,H1,I1,r1,q1⟩=>aMC pins s1 σ H1 x v Q I1 r1 q1) (he _)
theorem vals1{x:V}{us:List Value}(r:Vals [x] us):∃u,us=[u]/\RelV x u:=by
 cases r with
 |cons r1 r2=>cases r2;exact⟨_,rfl,r1⟩
theorem vals2{x y:V}{us:List Value}(r:Vals [x,y] us):∃u w',us=[u,w']/\RelV x u/\RelV y w':=by
 cases r with
 |cons r1 r2=>
  cases r2 with
  |cons r3 r4=>cases r4;exact⟨_,_,rfl,r1,r3⟩
theorem aGo(hc:X.calm=true):dD X (.builtin "max") (λ xs H Q=>∃i j,xs=[.int i,.int j]/\Q (.int (if j>i then j else i)) H):=by
 intro pins s σ H xs us Q I r h;obtain⟨i,j,rfl,q⟩:=h;obtain⟨u,w',rfl,⟨t,rfl⟩,⟨t',rfl⟩⟩:=vals2 r;refine max_two_ints (I.ok.hd hc) λ h' tk k=>⟨_,H,I.kept k,?_,q⟩
 by_cases hj:j>i
 ·rw[if_pos hj,if_pos hj];exact⟨_,rfl⟩
 ·rw[if_neg hj,if_neg hj];exact⟨_,rfl⟩
theorem aGn(hc:X.calm=true):dD X (.builtin "min") (λ xs H Q=>∃i j,xs=[.int i,.int j]/\Q (.int (if j<i then j else i)) H):=by
 intro pins s σ H xs us Q I r h;obtain⟨i,j,rfl,q⟩:=h;obtain⟨u,w',rfl,⟨t,rfl⟩,⟨t',rfl⟩⟩:=vals2 r;refine min_two_ints (I.ok.hd hc) λ h' tk k=>⟨_,H,I.kept k,?_,q⟩
 by_cases hj:j<i
 ·rw[if_pos hj,if_pos hj];exact⟨_,rfl⟩
 ·rw[if_neg hj,if_neg hj];exact⟨_,rfl⟩
end
structure aLW(h:Heap)(x dx C:Addr)(mA:Str->Option Value):Prop where
 obj:h.get? x=some (zBx C dx)
 ns:h.Ns1 dx mA
 ne:dx≠x
theorem aG0{h:Heap}{dx:Addr}{mA:Str->Option Value}(n:h.Ns1 dx mA):∃od,h.get? dx=some od/\∀name,zEG name od=some (mA name):=by
 obtain⟨o,es,ep,ho,hd,hk,_,hm⟩:=n;refine⟨o,ho,λ name=>?_⟩;have e:=hm name;unfold nsFind findBy at e;rw[<-Array.find?_toList]at e;unfold zEG;rw[hd];dsimp only;split
 ·rename_i y q
  rw[q]at e;exact congrArg some e
 ·rename_i q
  rw[q]at e;have a:es.toList.any (·.refKey)=false:=by
   rw[List.any_eq_false];intro y hy;obtain⟨z,t,hkey⟩:=hk y (Array.mem_toList_iff.mp hy);simp[DictEntry.refKey,hkey]
  have a':¬es.toList.any (·.refKey)=true:=by rw[a];exact zA3
  rw[if_neg a'];exact congrArg some e
theorem aLW.look{h:Heap}{x dx C:Addr}{mA:Str->Option Value}(I:aLW h x dx C mA):∃od,zIS h x (zBx C dx) C (some od)/\∀name,zEG name od=some (mA name):=
 let⟨od,ho,hl⟩:=aG0 I.ns
 ⟨od,⟨I.obj,rfl,rfl,ho⟩,hl⟩
section
variable{prog:zA2}{w:World}{A:zAe}{E:Value->zAF->Prop}{s:zAF}{K:zAA}{x dx C f:Addr}{mA:Str->Option Value}{name:Str}{v:Value}
theorem aJG{pl:Sem Bool}{Q:Value×List Value->zAF->Prop}(X:K.In s.heap)(I:aLW s.heap x dx C mA)(hg:zEl K C name=true)
  (hf:zBH K (.ref C) name=some (some (.ref f)))(ht:zIp K (.ref f)=true)(hv:mA name=none)(h:Q (.ref f,[.ref x]) s):
  wpAny (model prog w) A (getMethod (.ref x) name pl) Q E s:=by
 obtain⟨od,J,hl⟩:=I.look;exact PySem.W.method_fn X J (zH0 hg).1 (zH0 hg).2 hf (beq_iff_eq.mp ht) (by show(zEG name od).map (·.isSome)=some false;rw[hl,hv];rfl) h
theorem make_map{R:zE8->zAF->Prop}{vs:List Value}{kw:List (Str×Value)}(X:K.In s.heap)(hm:PySem.W.makesIn K C=true)
  (hi:zBH K (.ref C) "__init__"=some (some (.ref f)))(hf:PySem.W.typeIn K (.ref f)=some (.type "function"))
  (h:zBq (model prog w) (A.under (.builtin "type.__call__" ⟨.ref C::vs,kw⟩)) (.call (.ref f) ⟨.ref (s.heap.objs.size+1)::vs,kw⟩) (PySem.W.InitBack (s.heap.objs.size+1) R)
   {s with heap:=(s.heap.push zB2).push (zBx C s.heap.objs.size)}):
  zBq (model prog w) A (.call (.ref C) ⟨vs,kw⟩) R s:=by
 obtain⟨hh,g,d,t,os⟩:=s;exact PySem.W.make_core (PySem.W.makes_of X hm) (zDM X hi) (λ self=>PySem.W.bind_fn X self hf) (.inl rfl) h
end
theorem uf.some_of{v:V}{o:Option Value}(r:uf (some v) o):∃u,o=some u/\RelV v u:=by
 cases o with
 |none=>exact(show False from r).elim
 |some u=>exact⟨u,rfl,r⟩
theorem uf.none_of{o:Option Value}(r:uf none o):o=none:=by
 cases o with
 |none=>rfl
 |some u=>exact(show False from r).elim
section
variable{P:zA2}{w:World}{H H':Hp}{h h':Heap}{a C dx:Addr}{fs fs':List (Str×V)}
theorem xO(hok:HOk P w H h)(e:H a=some (.ins C dx fs)):∃mA,aLW h a dx C mA/\(∀f,uf (fs.lookup f) (mA f))/\zJE mA (fs.map (·.1))/\fs.length<=1000/\H dx=some (.own a):=by
 obtain⟨d,z,ne,ob,mA,n,r,q⟩:=(show cj P w H h a (.ins C dx fs)from hok a _ e);exact⟨mA,⟨ob,n,ne⟩,r,q,z,d⟩
end
structure Cls(K:zAA)(C:Addr):Prop where
 pg:zEl K C Str.empty=true
 hd:PySem.W.hasDictIn K C=true
 po:PySem.W.plainOver K C=true
 sa:zBH K (.ref C) "__setattr__"=some (some (.builtin "object.__setattr__"))
theorem Cls.get{K:zAA}{C:Addr}(c:Cls K C)(f:Str):zEl K C f=true:=c.pg
def aNi(K:zAA)(C:Addr)(f:Str):Prop:=zBH K (.ref C) f=some none
structure Meth(K:zAA)(C:Addr)(m:Str)(f:Addr):Prop where
 at_:zBH K (.ref C) m=some (some (.ref f))
 fn:zIp K (.ref f)=true
 kp:zB5 K (.ref f)=true
section
variable{X:Cx}{pins:List (Addr×Obj)}{σ:St}{H:Hp}{s:zAF}{a C dx:Addr}{fs:List (Str×V)}{f:Str}{v:V}{A:zAe}{E:Value->zAF->Prop}
theorem aEm{m:Str}{g:Addr}{pl:Sem Bool}{Q:Value×List Value->zAF->Prop}(I:Inv X pins σ H s)(e:H a=some (.ins C dx fs))(c:Cls X.K C)(k:Meth X.K C m g)(l:fs.lookup m=none)
  (h:Q (.ref g,[.ref a]) s):wpAny (model X.prog X.w) A (getMethod (.ref a) m pl) Q E s:=by
 obtain⟨mA,O,r,_,_,_⟩:=xO I.hok e;have hn:mA m=none:=uf.none_of (by rw[<-l];exact r m);exact aJG I.kIn O (c.get m) k.at_ k.fn hn h
theorem Inv.made(I:Inv X pins σ H s):Inv X pins σ (upd (upd H s.heap.objs.size (.own (s.heap.objs.size+1))) (s.heap.objs.size+1) (.ins C s.heap.objs.size []))
  {s with heap:=(s.heap.push zB2).push (zBx C s.heap.objs.size)}:=by
 have e1:(s.heap.push zB2).get? s.heap.objs.size=some zB2:=zAV s.heap rfl;have e2:((s.heap.push zB2).push (zBx C s.heap.objs.size)).get? (s.heap.objs.size+1)=some (zBx C s.heap.objs.size):=by
  have:=zAV (s.heap.push zB2) (o:=zBx C s.heap.objs.size) rfl
  rwa [zB8]at this
 have e3:(s.heap.push zB2).Ns s.heap.objs.size (λ _=>none):=⟨zB2,#[],_,e1,rfl,(λ e he=>absurd he (by simp)),λ _=>rfl⟩;have I1:=I.laid (a:=s.heap.objs.size) (o:=.own (s.heap.objs.size+1)) (h':=s.heap.push zB2) (t':=s.toks) (λ b u q=>zAC _ q) (zAS _) ⟨_,e1⟩;refine I1.laid (a:=s.heap.objs.size+1) (o:=.ins C s.heap.objs.size []) (t':=s.toks) (λ b u q=>zAC _ q) (zFS (zB8 _ _)) ?_;have ne:s.heap.objs.size≠s.heap.objs.size+1:=zA0 (zBt _);refine⟨by rw[aj ne,bH],zA9 _,ne,e2,λ _=>none,(Heap.Ns1.of_empty e3).at λ o q=>zAC _ q,λ _=>zDD,λ y hy=>absurd rfl hy⟩
end
def tFld(K:zAA)(ta:TE)(f:Str):TE:=λ σ H Q=>ta σ H λ x H1=>∃a C dx fs v,x= .ref a/\H1 a=some (.ins C dx fs)/\Cls K C/\aNi K C f/\fs.lookup f=some v/\Q v H1
section
variable{X:Cx}{o e value:Expr}{f:Str}{pos pos' tpos:Pos}{ta tv:TE}
theorem methcall_of{pl:Sem Bool}{m:Str}{apos:Pos}{args:List Expr}{pins:List (Addr×Obj)}{s:zAF}{σ:St}{H:Hp}{Q:Value->zAF->Prop}{te:TE}(he:PE X e te)(I:Inv X pins σ H s)
  (h:te σ H λ x H1=>∃a C dx fs g,x= .ref a/\H1 a=some (.ins C dx fs)/\Cls X.K C/\Meth X.K C m g/\fs.lookup m=none/\
   ∀s1,Inv X pins σ H1 s1->wpAny (model X.prog X.w) X.A (callWith pos (.ref g) [.ref a] (zC1 pos (zAZ args X.env)) (zFj pos (zDd [] X.env))) Q X.xe s1)
  (ht:eval (.Call (.Attribute e m apos) args [] pos) X.env=(do
   let ov <-eval e X.env
   zES apos.atName
   let(f,first) <-zCk [ov] (getMethod ov m pl)
   callWith pos f first (zC1 pos (zAZ args X.env)) (zFj pos (zDd [] X.env)))):
  wpAny (model X.prog X.w) X.A (eval (.Call (.Attribute e m apos) args [] pos) X.env) Q X.xe s:=by
 refine PySem.W.methodCall_KW (pl:=pl) (thn (he pins s σ H _ I h) λ u s1 ⟨x,H1,I1,rx,a,C,dx,fs,g,ex,ea,c,k,l,q⟩=>?_) ht;subst ex;obtain rfl:u=zB0 a:=rx;exact aEm I1 ea c k l (q s1 I1)
end
section
variable{X:Cx}{pins:List (Addr×Obj)}{σ:St}{H:Hp}{s:zAF}{A:zAe}{E:Value->zAF->Prop}{Q:Value->zAF->Prop}{c:Value}{b:Bool}
inductive vY(K:zAA)(H:Hp):V->Value->Prop where
 |non:vY K H .non (.type "NoneType")
 |bl (x:Bool):vY K H (.bl x) (.type "bool")
 |int (i:Int):vY K H (.int i) (.type "int")
 |str (x:Str):vY K H (.str x) (.type "str")
 |flt (x:UInt64):vY K H (.flt x) (.type "float")
 |lst {a:Addr} {xs:List V} (e:H a=some (.lst xs)):vY K H (.ref a) (.type "list")
 |frz {a:Addr} {o:Obj} {xs:List V} (e:H a=some (.frz o (.lst xs))):vY K H (.ref a) (.type "list")
 |tup {a:Addr} {xs:List V} (e:H a=some (.tup xs)):vY K H (.ref a) (.type "tuple")
 |dK {a:Addr} {kvs:List (Key×V)} (e:H a=some (.dK kvs)):vY K H (.ref a) (.type "dict")
 |dT {a:Addr} {kvs:List (List Key×V)} (e:H a=some (.dT kvs)):vY K H (.ref a) (.type "dict")
 |ins {a C dx:Addr} {fs:List (Str×V)} (e:H a=some (.ins C dx fs)) (cl:Cls K C) (ha:zBH K (.ref C) "__class__"=some (some (.builtin "object.__class__")))
   (hn:PySem.W.specialIn K (.builtin "object.__class__") "__get__"=some (some (.builtin "getset_descriptor.__get__"))) (htk:PySem.W.takesIn K (.builtin "object.__class__")=some true)
   (hm:PySem.W.mroIn K C (.type "object")=some true):vY K H (.ref a) (.ref C)
theorem aGa{x:V}{u t:Value}(I:Inv X pins σ H s)(rx:RelV x u)(ty:vY X.K H x t)(e:zBd X.K t c=some b)(h:∀tk,Q (.bool b) {s with toks:=tk}):
  wpAny (model X.prog X.w) A (call (.builtin "isinstance") [u,c]) Q E s:=by
 cases ty with
 |non=>cases (show u=zB6 from rx);exact zBF PySem.W.kitx_none I.kIn zDD e (λ z=>nomatch z) h
 |bl y=>cases (show u=zEK y from rx);exact zBF PySem.W.kitx_bool I.kIn zDD e (λ z=>nomatch z) h
 |int i=>obtain⟨t,q⟩:=(show∃t,u=zCS i t from rx);cases q;exact zBF PySem.W.kitx_int I.kIn zDD e (λ z=>nomatch z) h
 |str y=>obtain⟨t,q⟩:=(show∃t,u=zH1 y t from rx);cases q;exact zBF PySem.W.kitx_str I.kIn zDD e (λ z=>nomatch z) h
 |flt y=>obtain⟨t,q⟩:=(show∃t,u=zJU y t from rx);cases q;exact zBF PySem.W.kitx_float I.kIn zDD e (λ z=>nomatch z) h
 |@lst a xs ea=>
  cases (show u=zB0 a from rx);obtain⟨_,_,n,_,h1⟩:=(show cj X.prog X.w H s.heap a (.lst xs)from I.hok a _ ea);exact zBF zHh I.kIn ⟨_,h1,rfl⟩ e (λ z=>nomatch z) h
 |@frz a ob xs ea=>
  cases (show u=zB0 a from rx);obtain⟨_,_,_,n,_,h1⟩:=(show cj X.prog X.w H s.heap a (.frz ob (.lst xs))from I.hok a _ ea);exact zBF zHh I.kIn ⟨_,h1,rfl⟩ e (λ z=>nomatch z) h
 |@tup a xs ea=>
  cases (show u=zB0 a from rx);obtain⟨_,_,_,p⟩:=(show cj X.prog X.w H s.heap a (.tup xs)from I.hok a _ ea);obtain⟨o,h1,h2,_⟩:=p;exact zBF zH9 I.kIn ⟨o,h1,h2⟩ e (λ z=>nomatch z) h
 |@dK a kvs ea=>
  cases (show u=zB0 a from rx);obtain⟨_,_,vs,_,p⟩:=(show cj X.prog X.w H s.heap a (.dK kvs)from I.hok a _ ea);obtain⟨o,es,ep,h1,h2,_⟩:=p;exact zBF zE6 I.kIn ⟨o,h1,h2.1⟩ e (λ z=>nomatch z) h
 |@dT a kvs ea=>
  cases (show u=zB0 a from rx);obtain⟨_,_,xs,_,o,es,ep,h1,h2,_⟩:=(show cj X.prog X.w H s.heap a (.dT kvs)from I.hok a _ ea);exact zBF zE6 I.kIn ⟨o,h1,h2.1⟩ e (λ z=>nomatch z) h
 |@ins a C dx fs ea cl ha hn htk hm=>
  cases (show u=zB0 a from rx);obtain⟨mA,O,_⟩:=xO I.hok ea;obtain⟨od,J,_⟩:=O.look;exact zBF (PySem.W.kitx_own (cl.get _) cl.hd ha hn htk hm) I.kIn J e (λ z=>nomatch z) h
end
structure gD(k:Nat)(A:zAe):Prop where
 hd:A.handled=none
 dp:A.depth+3*k+5<zEz
 un:A.units+16*k+200<cLine
theorem gD.mono{j k:Nat}{A:zAe}(r:gD k A)(h:j<=k):gD j A:=⟨r.hd,by have:=r.dp;omega,by have:=r.un;omega⟩
theorem gD.deeper{k:Nat}{A:zAe}(r:gD (k+1) A)(env:Env):gD k (A.deeper env):=
 ⟨r.hd,by have:=r.dp;show A.depth+1+3*k+5<_;omega,by have:=r.un;show A.units+3+16*k+200<_;omega⟩
theorem gD.depth{k:Nat}{A:zAe}(r:gD k A):A.depth<zEz:=by have:=r.dp;omega
theorem gD.units{k:Nat}{A:zAe}(r:gD k A):A.units+64<cLine:=by have:=r.un;omega
theorem gD.units0{k:Nat}{A:zAe}(r:gD k A):A.units<cLine:=by have:=r.un;omega
def pM:TA:=λ _ H Q=>Q [] H
def jk(ta:TE)(tr:TA):TA:=λ σ H Q=>ta σ H λ x H1=>tr σ H1 λ xs H2=>Q (x::xs) H2
section
variable{X:Cx}{e:Expr}{es:List Expr}{te:TE}{t:TA}{pos:Pos}
theorem dg:PA X [] pM:=λ _ _ _ _ H Q I h=>Calls.spliced_nil ⟨[],H,I,.nil,h⟩
theorem bG(ha:PE X e te)(hr:PA X es t)(hs:zAZ (e::es) X.env=(false,eval e X.env)::zAZ es X.env:=by rfl):PA X (e::es) (jk te t):=by
 intro pos pins s σ H Q I h;rw[hs];show wpAny _ _ (spliced ((false,eval e X.env)::zC1 pos (zAZ es X.env))) _ _ s;refine Calls.spliced_cons (thn (ha pins s σ H _ I h) λ u s1 ⟨x,H1,I1,r1,q1⟩=>?_);exact thn (hr pos pins s1 σ H1 _ I1 q1) λ us s2 ⟨xs,H2,I2,r2,q2⟩=>⟨x::xs,H2,I2,.cons r1 r2,q2⟩
def aOp(t:TA):TE:=λ σ H Q=>t σ H λ xs H1=>xs.length<=zAW/\∀p,H1 p=none->Q (.ref p) (upd H1 p (.tup xs))
def aOt(t:TA):TE:=λ σ H Q=>t σ H λ xs H1=>xs.length<=zAW/\∀p,H1 p=none->Q (.ref p) (upd H1 p (.lst xs))
theorem aMa{x1}(h:PA X es t):PE X (.Tuple es x1 pos) (aOp t):=by
 intro pins s σ H Q I hq;refine wpAny_Tuple_spliced (thn (h pos pins s σ H _ I hq) λ us s1 ⟨xs,H1,I1,r,z,q⟩=>⟨by rw[<-r.length];exact z,?_⟩);have hf:H1 s1.heap.objs.size=none:=I1.hok.fresh (zAS _);refine⟨.ref s1.heap.objs.size,upd H1 s1.heap.objs.size (.tup xs),I1.laid (t':=s1.toks) (λ b u e=>zAC _ e) (zAS _) ?_,rfl,q _ hf⟩;exact⟨z,us,r,⟨_,zAV _ rfl,rfl,_,rfl⟩⟩
theorem aMe(h:PA X es t):PE X (.List es pos) (aOt t):=by
 intro pins s σ H Q I hq;refine wpAny_List_spliced (thn (h pos pins s σ H _ I hq) λ us s1 ⟨xs,H1,I1,r,z,q⟩=>⟨by rw[<-r.length];exact z,?_⟩);have hf:H1 s1.heap.objs.size=none:=I1.hok.fresh (zAS _);refine⟨.ref s1.heap.objs.size,upd H1 s1.heap.objs.size (.lst xs),I1.laid (t':=s1.toks) (λ b u e=>zAC _ e) (zAS _) ?_,rfl,q _ hf⟩;exact⟨z,us,0,r,zAV _ rfl⟩
end
abbrev Sp:=List V->Hp->VK->XK->Prop
abbrev CXT:=List Env->Hp->zAF->XK->Value->zAF->Prop
structure aDk(P:zA2)(w:World)(K:zAA)(mg:Str->Option Value)(base:Heap)(A:zAe)(outer:List Env)(s:zAF)(H:Hp):Prop where
 frames:A.frames=some outer
 mod:Mod K mg base
 bs:∀b o,base.get? b=some o->s.heap.get? b=some o/\H b=none
 bsz:base.objs.size<=s.heap.objs.size
 funs:s.heap.FunFrames base outer
 frf:∀b∈frs outer,H b=none
 hok:HOk P w H s.heap
 bare:zE5 s.gens
def CE(outer:List Env)(P:zA2)(w:World)(H:Hp)(s:zAF)(Q:VK)(u:Value)(s':zAF):Prop:=
 ∃v H',s'.os=s.os/\zE5 s'.gens/\Un (frs outer) [] H H' s.heap s'.heap/\HOk P w H' s'.heap/\RelV v u/\Q v H'
def CR(CX:CXT)(outer:List Env)(P:zA2)(w:World)(H:Hp)(s:zAF)(Q:VK)(E:XK)(r:zE8)(s':zAF):Prop:=
 match r with
 | .ok (.ret u)=>CE outer P w H s Q u s'
 | .ok _=>False
 | .error e=>CX outer H s E e s'
structure cW(P:zA2)(w:World)(K:zAA)(mg:Str->Option Value)(base:Heap)(CX:CXT)(k:Nat)(f:Addr)(fd:zAc)(ps:List Str)(sp:Sp):Prop where
 len:∀vs H Q E,sp vs H Q E->vs.length=ps.length
 run:∀(A:zAe) (outer:List Env) (s:zAF) (H:Hp) (args:Args) (us:List Value) (vs:List V) (Q:VK) (E:XK),gD k A->aDk P w K mg base A outer s H->zHt s fd args (ps.zip us)->Vals vs us->sp vs H Q E->
  zBq (model P w) A (.call (.ref f) args) (CR CX outer P w H s Q E) s
section
variable{X:Cx}{pins:List (Addr×Obj)}{σ:St}{H:Hp}{s s':zAF}
theorem Inv.env0(I:Inv X pins σ H s):aDk X.prog X.w X.K X.mg X.base X.A X.stack s H:=
 ⟨I.ok.frames,I.ok.mod,I.bs,zAg I.ok.bsz I.sz,I.stack,I.stkFree,I.hok,I.bare⟩
theorem Inv.after{Q:VK}{u:Value}(I:Inv X pins σ H s)(h:CE X.stack X.prog X.w H s Q u s'):EP X pins σ Q u s':=by
 obtain⟨v,H',os,bare,un,hok,r,q⟩:=h;obtain⟨hh,g,d,t,os'⟩:=s';obtain rfl:os'=s.os:=os;exact⟨v,H',I.call (h':=hh) (g':=g) (d':=d) (t':=t) (ch:=[]) un hok bare (λ b z=>absurd z (by simp)),r,q⟩
end
def aCZ(sp:Sp)(dvs:List V)(E:XK)(t:TA):TE:=λ σ H Q=>t σ H λ vs H1=>sp (vs++dvs) H1 Q E
def tMeth(C:Addr)(m:Str)(sp:Sp)(dvs:List V)(E:XK)(ta:TE)(t:TA):TE:=λ σ H Q=>ta σ H λ x H1=>∃a dx fs,x= .ref a/\H1 a=some (.ins C dx fs)/\fs.lookup m=none/\
 t σ H1 λ vs H2=>sp (x::(vs++dvs)) H2 Q E
def tMake(C:Addr)(sp:Sp)(dvs:List V)(E:XK)(t:TA):TE:=λ σ H Q=>t σ H λ vs H1=>∀x dx,H1 x=none->H1 dx=none->dx≠x->
 sp (.ref x::(vs++dvs)) (upd (upd H1 dx (.own x)) x (.ins C dx [])) (λ v H2=>v= .non/\Q (.ref x) H2) E
def Binds(K:zAA)(fd:zAc)(ps:List Str)(ds:List Value):Prop:=
 ∀(s:zAF) (us:List Value),K.In s.heap->(us++ds).length=ps.length->zHt s fd ⟨us,[]⟩ (ps.zip (us++ds))
theorem Binds.all{K:zAA}{fd:zAc}{ps:List Str}(h:∀us:List Value,us.length=ps.length->bindArgs fd ⟨us,[]⟩=pure (ps.zip us)):Binds K fd ps []:=λ s us _ hl=>by
 rw[zAi]at hl ⊢;exact .of_eq (h us hl)
def tD(CX:CXT)(X:Cx)(E:XK):Prop:=∀(pins:List (Addr×Obj)) (σ:St) (H:Hp) (s:zAF) (e:Value) (s':zAF),Inv X pins σ H s->CX X.stack H s E e s'->X.xe e s'
section
variable{X:Cx}{CX:CXT}{k:Nat}{f C:Addr}{fd:zAc}{ps:List Str}{sp:Sp}{dvs:List V}{ds:List Value}{E:XK}{x m:Str}{p pos apos:Pos}{e o:Expr}{es:List Expr}{ta:TE}{t:TA}
theorem aH1{pins:List (Addr×Obj)}{σ:St}{H:Hp}{s:zAF}{Q:VK}{us:List Value}{vs:List V}(F:cW X.prog X.w X.K X.mg X.base CX k f fd ps sp)(hr:gD k X.A)(hb:Binds X.K fd ps ds)(hd:Vals dvs ds)(hx:tD CX X E)
  (I:Inv X pins σ H s)(r:Vals vs us)(h:sp (vs++dvs) H Q E):wpAny (model X.prog X.w) X.A (call (.ref f) us) (EP X pins σ Q) X.xe s:=by
 have r2:Vals (vs++dvs) (us++ds):=r.append hd;have hl:(us++ds).length=ps.length:=by rw[<-r2.length];exact F.len _ _ _ _ h
 refine zHs (zDA (F.run X.A X.stack s H ⟨us,[]⟩ (us++ds) (vs++dvs) Q E hr I.env0 (hb s us I.kIn hl) r2 h) λ r s' hq=>?_);cases r with
 |error e=>exact hx pins σ H s e s' I hq
 |ok fl=>
  cases fl with
  |ret u=>exact I.after hq
  |next=>exact zAO hq
  |brk=>exact zAO hq
  |cont=>exact zAO hq
theorem aKM(F:cW X.prog X.w X.K X.mg X.base CX k f fd ps sp)(hr:gD k X.A)(hg:Gl X x)(hm:X.mg x=some (.ref f))(hk:zB5 X.K (.ref f)=true)(hb:Binds X.K fd ps ds)(hd:Vals dvs ds)(hx:tD CX X E)
  (ha:PA X (e::es) t)(hdb:(x==("__debug__":Str))=false:=by decide)(he:zAZ (e::es) X.env=(false,eval e X.env)::zAZ es X.env:=by rfl)(hpl:(zC1 pos (zAZ es X.env)).any (·.1)=false:=by rfl):
  PE X (.Call (.Name x p) (e::es) [] pos) (aCZ sp dvs E t):=by
 intro pins s σ H Q I h;refine zBe (qb I hg hm ?_ hdb);refine zEZ (h₀:=X.base) I.ok.mod.kin hk (thn (ha pos pins s σ H _ I h) λ us s1 ⟨vs,H1,I1,r,q⟩=>⟨I1.kIn,?_⟩) he hpl;exact aH1 F hr hb hd hx I1 r q
end
section
variable{X:Cx}{CX:CXT}{k:Nat}{f C:Addr}{fd:zAc}{ps ks:List Str}{sp:Sp}{E:XK}{x m:Str}{p pos apos kpos:Pos}{e o:Expr}{es:List Expr}{kws:List zD1}{te ta:TE}{t tk:TA}{nm:Option Str}
variable{g:List Value->List Value->List Value}{gV:List V->List V->List V}
end
structure aX(N P:List Str)(sc:Scope):Prop where
 kind:sc.kind= .function
 co:sc.isCoroutine=false
 gen:sc.isGenerator=false
 nd:N.Nodup
 pre:N.take P.length=P
 par:∀x∈P,sc.names.lookup x=some .local\/sc.names.lookup x=some .cell
 nofree:∀y∈sc.names,y.2≠.free
theorem aBC{zEU:Str->Option zD3}{x:Str}:∀{binds:List (Str×Value)} {m:Str->Option Value},(∀v,(x,v)∉binds)->bindL zEU binds m x=m x
 |[],_,_=>rfl
 |(n,v)::r,m,h=>by
  unfold bindL;rw[aBC λ w hw=>h w (zAL _ hw)];split
  ·have:x≠n:=by rintro rfl;exact h v zAI
   simp[this]
  ·rfl
theorem aBE{zEU:Str->Option zD3}{x:Str}:∀{binds:List (Str×Value)} {m:Str->Option Value},(∀v,(x,v)∉binds)->bindC zEU binds m x=m x
 |[],_,_=>rfl
 |(n,v)::r,m,h=>by
  unfold bindC;rw[aBE λ w hw=>h w (zAL _ hw)];split
  ·rfl
  ·have:x≠n:=by rintro rfl;exact h v zAI
   simp[this]
theorem aBD{zEU:Str->Option zD3}{x:Str}{v:Value}:∀{P:List Str} {vs:List Value} {i:Nat} {m:Str->Option Value},P.Nodup->P[i]? =some x->vs[i]? =some v->zEU x=some .local->
  bindL zEU (P.zip vs) m x=some v
 |[],_,_,_,_,h,_,_=>by simp at h
 |_::_,[],_,_,_,_,h,_=>by simp at h
 |p::P,w::vs,0,m,nd,h1,h2,hk=>by
  simp at h1 h2;subst h1;subst h2;show bindL zEU ((p,w)::P.zip vs) m p=_;unfold bindL;rw[aBC λ v hv=>(zB1.mp nd).1 (zCt hv).1,if_pos hk];simp
 |p::P,w::vs,i+1,m,nd,h1,h2,hk=>by
  show bindL zEU ((p,w)::P.zip vs) m x=_;unfold bindL;exact aBD (i:=i) (zB1.mp nd).2 (by simpa using h1) (by simpa using h2) hk
theorem aBF{zEU:Str->Option zD3}{x:Str}{v:Value}:∀{P:List Str} {vs:List Value} {i:Nat} {m:Str->Option Value},P.Nodup->P[i]? =some x->vs[i]? =some v->zEU x≠some .local->
  bindC zEU (P.zip vs) m x=some v
 |[],_,_,_,_,h,_,_=>by simp at h
 |_::_,[],_,_,_,_,h,_=>by simp at h
 |p::P,w::vs,0,m,nd,h1,h2,hk=>by
  simp at h1 h2;subst h1;subst h2;show bindC zEU ((p,w)::P.zip vs) m p=_;unfold bindC;rw[aBE λ v hv=>(zB1.mp nd).1 (zCt hv).1,if_neg hk];simp
 |p::P,w::vs,i+1,m,nd,h1,h2,hk=>by
  show bindC zEU ((p,w)::P.zip vs) m x=_;unfold bindC;exact aBF (i:=i) (zB1.mp nd).2 (by simpa using h1) (by simpa using h2) hk
def start(N:List Str)(vs:List V):St:=vs.map some++zAM (N.length-vs.length) none
def wj(CX:CXT)(P:zA2)(w:World)(K:zAA)(mg:Str->Option Value)(base:Heap)(N:List Str)(qual:Str)(scope:Scope)(f:Addr)(cd:Value)(A:zAe)(outer:List Env)(s:zAF)(H:Hp)(E:XK):Cx where
 prog:=P
 w:=w
 K:=K
 mg:=mg
 base:=base
 A:=A.deeper (zCo qual scope s.heap.objs.size f cd)
 N:=N
 s₀:=s
 H₀:=H
 env:=zCo qual scope s.heap.objs.size f cd
 outer:=outer
 stack:=zCo qual scope s.heap.objs.size f cd::outer
 ex:=[]
 calm:=true
 fn:=λ _=>true
 pn:=[]
 xe:=λ e s'=>wpAny (model P w) (A.deeper (zCo qual scope s.heap.objs.size f cd)) (leaving (zCo qual scope s.heap.objs.size f cd) e) (λ _ s''=>CX outer H s E e s'') (λ e' s''=>CX outer H s E e' s'') s'
theorem uY{sc:Scope}{n:Nat}{x:Str}(h:sc.names.lookup x=some .cell):∃c,(zCn n sc.names []).lookup x=some c:=by
 have q:=zCu sc.names n [] (.inl h);exact Option.isSome_iff_exists.mp q
theorem vP{CX:CXT}{P:zA2}{w:World}{K:zAA}{mg:Str->Option Value}{base:Heap}{N ps:List Str}{qual:Str}{scope:Scope}{f:Addr}{cd:Value}{A:zAe}{outer:List Env}{s s1:zAF}{H:Hp}{E:XK}{us:List Value}{vs:List V}
  (S:aX N ps scope)(hd:A.handled=none)(e0:aDk P w K mg base A outer s H)(hl:vs.length=ps.length)(r:Vals vs us)
  (x:InCallC s s.heap.objs.size (bindL (zCo qual scope s.heap.objs.size f cd).kindOf (ps.zip us) λ _=>none) (zCn (s.heap.objs.size+1) scope.names []) (bindC (zCo qual scope s.heap.objs.size f cd).kindOf (ps.zip us) λ _=>none) s1):
  Inv (wj CX P w K mg base N qual scope f cd A outer s H E) [] (start N vs) H s1:=by
 have hpl:ps.length<=N.length:=by have:=congrArg zHo S.pre;rw[zDP]at this;omega
 obtain⟨h1,tk,rfl,hk⟩:=x.done;have noA:∀b:Addr,b∉(wj CX P w K mg base N qual scope f cd A outer s H E).ex:=λ b z=>absurd (show b∈([]:List Addr)from z) (by simp)
 refine⟨⟨e0.mod,S.kind,rfl,rfl,zAS _,λ y z c h1 h2=>?_,λ y hy=>?_,λ y c _ h=>?_,λ _=>hd,zHW e0.frames,.inr ⟨rfl,rfl⟩,λ b z=>absurd z (noA b),e0.bs,e0.bsz,λ b _ _=>noA b,λ b z=>absurd z (noA b),e0.funs,e0.frf⟩,
  rfl,e0.bare,Un.kept hk,⟨_,x.toInCall.ns,λ i y v h1 h2 h3=>?_⟩,λ y c h=>⟨_,x.cell y c h⟩,e0.hok.fresh (zAS _),λ y c h=>?_,λ p hp=>absurd (show p∈([]:List (Addr×Obj))from hp) (by simp),e0.hok.kept hk,?_,λ p hp=>absurd (show p∈([]:List (Addr×Obj))from hp) (by simp)⟩
 ·exact name_of_addr x.apart (zAh h1) (zAh h2)
 ·have hy:scope.names.lookup y=some .cell\/scope.names.lookup y=some .free:=hy
  rcases hy with hy|hy
  ·exact uY hy
  ·exact absurd rfl (S.nofree _ (zAh hy))
 ·exact zBX (x.above y c (zAh h))
 ·have hi:i<vs.length:=by
   unfold start at h2;by_cases hi:i<vs.length
   ·exact hi
   ·rw[zC3 (by simpa using hi)]at h2
    rw[zCF]at h2;split at h2<;>cases h2
  have ha:vs[i]? =some v:=by
   unfold start at h2;rw[zBB (by simpa using hi),zAT]at h2;cases e:vs[i]? with
   |none=>rw[e]at h2;cases h2
   |some a=>rw[e]at h2;cases h2;rfl
  obtain⟨u,hu,rv⟩:=r.get ha;have hp:ps[i]? =some y:=by
   rw[<-S.pre,List.getElem?_take_of_lt (by omega)];exact h1
  have ndP:ps.Nodup:=by rw[<-S.pre];exact S.nd.sublist (List.take_sublist _ _)
  refine⟨u,rv,?_⟩;rcases S.par y (zAo hp)with k|k
  ·exact .inl ⟨k,aBD ndP hp hu k⟩
  ·obtain⟨c,e⟩:=uY (n:=s.heap.objs.size+1) k
   refine .inr ⟨.inl k,c,e,?_⟩;have q:=x.cell y c e;rw[aBF ndP hp hu (by show scope.names.lookup y≠_;rw[k];decide)]at q;exact q
 ·exact e0.hok.fresh (zBX (x.above y c (zAh h)))
 ·unfold start
  show _=N.length;rw[zA5,zAE,zBV];omega
theorem aO9{CX:CXT}{P:zA2}{w:World}{K:zAA}{mg:Str->Option Value}{base:Heap}{k:Nat}{f:Addr}{name qual:Str}{params:zDE}{body:List Stmt}{scope:Scope}{dV kV doc pm cdv ct oc:Value}{an od:Option Addr}
  {osl:Array (Option Value)}{N ps:List Str}{sp:Sp}(lk:K.lookup f=some ⟨oc,od,.func (zBc name qual params body scope dV kV doc pm an cdv ct),osl⟩)(hcd:zCz K cdv qual=true)(S:aX N ps scope)
  (len:∀vs H Q E,sp vs H Q E->vs.length=ps.length)
  (hbody:∀(A:zAe) (outer:List Env) (s:zAF) (H:Hp) (vs:List V) (Q:VK) (E:XK),gD k (A.deeper (zCo qual scope s.heap.objs.size f cdv))->sp vs H Q E->
   ∃t,PSs (wj CX P w K mg base N qual scope f cdv A outer s H E) body t/\t {nx:=λ _ H'=>Q .non H',rt:=Q} (start N vs) H):
  cW P w K mg base CX (k+1) f (zBc name qual params body scope dV kV doc pm an cdv ct) ps sp:=by
 refine⟨len,λ A outer s H args us vs Q E hr e0 hb r hsp=>?_⟩;have hl:=len _ _ _ _ hsp;have KX:K.In s.heap:=e0.mod.kin.keeps λ b o e=>(e0.bs b o e).1
 have lim:s.heap.NoLimit:=e0.mod.nolimit.keeps λ b o e=>(e0.bs b o e).1
 have hkind:∀y∈ps.zip us,scope.names.lookup y.1=some .local\/(scope.names.lookup y.1=some .cell/\((zCn (s.heap.objs.size+1) scope.names []).lookup y.1).isSome=true):=λ⟨n,v⟩ hy=>by
  rcases S.par n (zCt hy).1 with q|q
  ·exact .inl q
  ·exact .inr ⟨q,zCu _ _ _ (.inl q)⟩
 refine zEa hr.depth (KX _ _ lk) rfl S.co S.gen rfl (zE0 KX hcd) (hb _ _ _ _ ?_);refine zDn S.kind hkind λ env he s1 x=>?_
 subst he;refine⟨lim.keeps x.toInCall.keep,zIh ?_⟩;obtain⟨t,ht,hq⟩:=hbody A outer s H vs Q E (hr.deeper _) hsp;have I:Inv (wj CX P w K mg base N qual scope f cdv A outer s H E) [] (start N vs) H s1:=vP S hr.hd e0 hl r x;refine zAy (ht [] s1 (start N vs) H _ I hq) (λ fl s' hs=>?_) λ e s' hs=>hs
 have fin:∀{σ':St} {H':Hp} {v:V} {u:Value},Inv (wj CX P w K mg base N qual scope f cdv A outer s H E) [] σ' H' s'->RelV v u->Q v H'->CE outer P w H s Q u s':=
  λ{σ' H' v u} J rv q=>⟨v,H',J.os,J.bare,J.base,J.hok,rv,q⟩
 cases fl with
 |ret u=>
  obtain⟨v,σ',H',J,rv,q⟩:=hs;exact fin J rv q
 |next=>
  obtain⟨σ',H',J,q⟩:=hs;exact fin (v:=V.non) (u:=zB6) J rfl q
 |brk=>
  obtain⟨_,_,_,q⟩:=hs;exact zAO q
 |cont=>
  obtain⟨_,_,_,q⟩:=hs;exact zAO q
section
variable{X:Cx}{x:Str}{p pos:Pos}{e:Expr}{es:List Expr}{t:TA}{id T:String}{r:List V->Hp->VK->Prop}
def tCB(r:List V->Hp->VK->Prop)(t:TA):TE:=λ σ H Q=>t σ H λ vs H1=>r vs H1 Q
theorem qF(hc:dD X (.builtin id) r)(hg:Gl X x)(hm:X.mg x=none)(hv:zAv x=some (.builtin id))(ha:PA X (e::es) t)(hn:x≠"__name__":=by decide)(hdb:(x==("__debug__":Str))=false:=by decide)
  (he:zAZ (e::es) X.env=(false,eval e X.env)::zAZ es X.env:=by rfl)(hpl:(zC1 pos (zAZ es X.env)).any (·.1)=false:=by rfl):PE X (.Call (.Name x p) (e::es) [] pos) (tCB r t):=by
 intro pins s σ H Q I h;refine zBe (sX I hg hm hv ?_ hn hdb);exact PyProof.Rows.callWith_builtin1 (thn (ha pos pins s σ H _ I h) λ us s1 ⟨vs,H1,I1,r1,q1⟩=>hc pins s1 σ H1 vs us Q I1 r1 q1) he hpl
theorem nD(hc:dD X (.type T) r)(hg:Gl X x)(hm:X.mg x=none)(hv:zAv x=some (.type T))(ha:PA X (e::es) t)(hn:x≠"__name__":=by decide)(hdb:(x==("__debug__":Str))=false:=by decide)
  (he:zAZ (e::es) X.env=(false,eval e X.env)::zAZ es X.env:=by rfl)(hpl:(zC1 pos (zAZ es X.env)).any (·.1)=false:=by rfl):PE X (.Call (.Name x p) (e::es) [] pos) (tCB r t):=by
 intro pins s σ H Q I h;refine zBe (sX I hg hm hv ?_ hn hdb);exact zCI (thn (ha pos pins s σ H _ I h) λ us s1 ⟨vs,H1,I1,r1,q1⟩=>hc pins s1 σ H1 vs us Q I1 r1 q1) he hpl
theorem aER(hc:dD X (.type T) r)(hg:Gl X x)(hm:X.mg x=none)(hv:zAv x=some (.type T))(hn:x≠"__name__":=by decide)(hdb:(x==("__debug__":Str))=false:=by decide):
  PE X (.Call (.Name x p) [] [] pos) (tCB r pM):=by
 intro pins s σ H Q I h;refine zBe (sX I hg hm hv ?_ hn hdb);exact PyProof.Rows.callWith_type0 (hc pins s σ H [] [] Q I .nil h)
end
end L2
namespace HT
open PySem PyProof.Rows
def lexLt:List Int->List Int->Bool
 |[],[]=>false
 |[],_::_=>true
 |_::_,[]=>false
 |x::xs,y::ys=>if x=y then lexLt xs ys else decide (x<y)
theorem lL(x y:Int)(xs ys:List Int):lexLt (x::xs) (y::ys)=if x=y then lexLt xs ys else decide (x<y):=rfl
theorem aAG:lexLt [] []=false:=rfl
theorem yg(y:Int)(ys:List Int):lexLt [] (y::ys)=true:=rfl
theorem yh(x:Int)(xs:List Int):lexLt (x::xs) []=false:=rfl
theorem aD0(A:zAe)(s:zAF)(a:Int)(t:Tok)(c:Int)(u:Tok):∃e,zDB A s (.int a t) (.int c u) e/\(e=true↔a=c):=
 ⟨(a==c),zEH a t c u,by simp⟩
theorem aHb(A:zAe)(s:zAF)(a:Int)(t:Tok)(c:Int)(u:Tok)(prog:zA2)(w:World)(E:Value->zAF->Prop)(Q:Value->zAF->Prop)(h:Q (.bool (decide (a<c))) s):
  wpAny (model prog w) A (richCompare .Lt (.int a t) (.int c u)) Q E s:=
 (zFn h:wpAny (model prog w) A (zAr .Lt (.int a t) (.int c u)) Q E s)
section
open PySem.SeqAt
open PySem.AutoSeq1(wpAny_loadPart')
open PySem.MeetsSeq PySem.MeetsSeq2 PySem.MeetsSeq3
theorem zg(l b:Addr)(items items2:Array Value)(n n2:Nat)(dd dd2:Option Addr)(sl sl2:Array (Option Value))(ns ms:List Int)(hi:zBD items.toList ns)(hj:zBD items2.toList ms):
  Meets (zEM.«tuple.__lt__» ⟨[.ref l,.ref b],[]⟩)
   (λ _ R s=>s.heap.get? l=some {cls:=.type "tuple",dict:=dd,data:=.seq items n,slots:=sl}/\s.heap.get? b=some {cls:=.type "tuple",dict:=dd2,data:=.seq items2 n2,slots:=sl2}/\
    R (.ok (.ret (.bool (lexLt ns ms)))) s):=
 .of_wp λ prog w A R s h=>by
  obtain⟨hp,g,d,tk,os⟩:=s;obtain⟨hl,hb,h⟩:=h;have f2:=zFa;have z1:items.size=ns.length:=by rw[<-hi.length];simp
  have z2:items2.size=ms.length:=by rw[<-hj.length];simp
  wp_walk using zEc hl,zEc hb,wpAny_forIn_list _ (λ rest b s'=>b.1=none/\s'=⟨hp,g,d,tk,os⟩/\∃(vs ws:List Value) (ns' ms':List Int),rest=vs.zip ws/\
   zBD vs ns'/\zBD ws ms'/\ns'.length+items2.size=ms'.length+items.size/\R (.ok (.ret (.bool (lexLt ns' ms')))) ⟨hp,g,d,tk,os⟩) _
  case turn=>
   rintro⟨y,x⟩ rest b s' ⟨hb',rfl,vs,ws,ns',ms',hz,hvi,hwi,hlen,hR⟩;cases hvi with
   |nil=>rw[zIP]at hz;cases hz
   |cons a t hvi'=>
    cases hwi with
    |nil=>rw[zHy]at hz;cases hz
    |cons c u hwi'=>
     rw[zBM]at hz;injection hz with hyx hrest
     injection hyx with hy hx
     subst hy hx;rw[lL]at hR;simp only[zAY]at hlen;obtain⟨e,he,hiff⟩:=aD0 A.in1 ⟨hp,g,d,tk,os⟩ a t c u;refine zAD (he prog w _ _ ?_);cases e with
     |true=>
      rw[if_pos (hiff.mp rfl)]at hR;wp_walk;exact⟨rfl,rfl,_,_,_,_,hrest,hvi',hwi',by omega,hR⟩
     |false=>
      rw[if_neg (λ q=>absurd (hiff.mpr q) zA3)]at hR;have hri:=aHb A.in1 ⟨hp,g,d,tk,os⟩ a t c u prog w;wp_walk using hri;exact⟨_,rfl,by simpa using hR⟩
  case fin=>
   rintro⟨b1,b2⟩ s' ⟨hb',rfl,vs,ws,ns',ms',hz,hvi,hwi,hlen,hR⟩;simp only at hb';subst hb';have hv:lexLt ns' ms'=decide (items.size<items2.size):=by
    cases hvi with
    |nil=>
     cases hwi with
     |nil=>
      simp only[zBz]at hlen;rw[aAG];exact(decide_eq_false (by omega)).symm
     |cons c u hw=>
      simp only[zBz,zAY]at hlen;rw[yg];exact(decide_eq_true (by omega)).symm
    |cons a t hv=>
     cases hwi with
     |nil=>
      simp only[zBz,zAY]at hlen;rw[yh];exact(decide_eq_false (by omega)).symm
     |cons c u hw=>
      rw[zBM]at hz;cases hz
   rw[hv]at hR;wp_walk;exact⟨_,rfl,by simpa[zDy]using hR⟩
  case h=>
   exact⟨rfl,rfl,items.toList,items2.toList,ns,ms,rfl,hi,hj,by omega,h⟩
end
section
variable{prog:zA2}{w:World}{A:zAe}{E:Value->zAF->Prop}{s:zAF}
theorem aE3{l b:Addr}{items items2:Array Value}{ns ms:List Int}{Q:Value->zAF->Prop}(hl:IsTup s.heap l items)(hb:IsTup s.heap b items2)(hi:zBD items.toList ns)(hj:zBD items2.toList ms)
  (hu:A.units<cLine)(h:Q (.bool (lexLt ns ms)) s):wpAny (model prog w) A (zAr .Lt (.ref l) (.ref b)) Q E s:=by
 obtain⟨⟨cls,dd,data,sl⟩,ho,hc,n,hd⟩:=id hl;obtain⟨⟨cls2,dd2,data2,sl2⟩,ho2,hc2,n2,hd2⟩:=id hb;simp only at hc hd hc2 hd2;subst hc hd hc2 hd2;exact zIX (op:=.Lt) ⟨_,ho,rfl⟩ ⟨_,ho2,rfl⟩ PySem.F.slot_tuple_lt PySem.F.entry_tuple_lt (PySem.F.args_tuple_lt_2 _ _) (zg l b items items2 n n2 dd dd2 sl sl2 ns ms hi hj)
  ⟨ho,ho2,show zEK (lexLt ns ms)≠zHb/\Q (.bool (lexLt ns ms)) s from⟨(λ x=>nomatch x),h⟩⟩ hu
theorem aLM{t b:Addr}{vs ws:List Value}{Q:Value->zAF->Prop}(ht:IsTup s.heap t vs.toArray)(hb:IsTup s.heap b ws.toArray)(hv:vs≠[])
  (h1:ws=[]->Q (.ref t) s)(h2:ws≠[]->Q (.ref s.heap.objs.size) {s with heap:=s.heap.push {cls:=.type "tuple",data:=.seq (vs++ws).toArray}})
  (hsz:vs.length+ws.length<=zAW):wpAny (model prog w) A (zCK .Add (.ref t) (.ref b)) Q E s:=by
 obtain⟨⟨cls,dd,data,sl⟩,ho,hc,n,hd⟩:=id ht;obtain⟨⟨cls2,dd2,data2,sl2⟩,ho2,hc2,n2,hd2⟩:=id hb;simp only at hc hd hc2 hd2;subst hc hd hc2 hd2;have e:vs.toArray++ws.toArray=(vs++ws).toArray:=by simp
 by_cases hw:ws=[]
 ·exact zIi ⟨_,ho,rfl⟩ ⟨_,ho2,rfl⟩ zHR zIH zDl zD9 (zD4 _ _)
   (tuple_addW1 t b vs.toArray ws.toArray n n2 dd dd2 sl sl2 (by simpa using hv) (by simp[hw])) ⟨ho,ho2,h1 hw⟩
 ·refine zIi ⟨_,ho,rfl⟩ ⟨_,ho2,rfl⟩ zHR zIH zDl zD9 (zD4 _ _)
   (tuple_addW2 t b vs.toArray ws.toArray n n2 dd dd2 sl sl2 (by simpa using hv) (by simpa using hw) (by rw[zAP,zAP];exact hsz)) ⟨ho,ho2,?_⟩
  rw[e];exact h2 hw
end
end HT
namespace L2
open PySem PySem.Spec PyProof.Rows
abbrev TO:=St->Hp->(Option Int->Hp->Prop)->Prop
theorem intsAre_of{ns:List Int}:∀{us:List Value},Vals (ns.map V.int) us->zBD us ns:=by
 induction ns with
 |nil=>intro us r;rw[zFA]at r;cases r;exact .nil
 |cons n ns ih=>
  intro us r;rw[zAG]at r;cases r with
  |cons r1 r2=>
   obtain⟨t,e⟩:=r1;subst e;exact .cons n t (ih r2)
section
variable{X:Cx}{e:Expr}{te:TE}{lo hi:Option Expr}{tl th:TO}{pos p2:Pos}
def aJz(K:zAA):R2:=λ x y H Q=>∃a b ns ms,x= .ref a/\y= .ref b/\SqT K H a (ns.map V.int)/\SqT K H b (ms.map V.int)/\Q (.bl (HT.lexLt ns ms)) H
theorem aMy(hu:X.A.units<cLine):OpR X (zAr .Lt) (aJz X.K):=by
 intro pins s σ H x y v u Q I rx ry h;obtain⟨a,b,ns,ms,rfl,rfl,ha,hb,q⟩:=h;cases rx;cases ry;obtain⟨its,r1,p1,_⟩:=I.tuple ha;obtain⟨its2,r2,p2,_⟩:=I.tuple hb;have i1:zBD its.toArray.toList ns:=intsAre_of r1;have i2:zBD its2.toArray.toList ms:=intsAre_of r2;exact HT.aE3 p1 p2 i1 i2 hu ⟨.bl (HT.lexLt ns ms),H,I,rfl,q⟩
def aOL(K:zAA):R2:=λ x y H Q=>∃a b xs ys,x= .ref a/\y= .ref b/\SqT K H a xs/\SqT K H b ys/\xs≠[]/\xs.length+ys.length<=zAW/\
 (ys=[]->Q (.ref a) H)/\(ys≠[]->∀p,H p=none->Q (.ref p) (upd H p (.tup (xs++ys))))
theorem Vals.nil_iff{xs:List V}{us:List Value}(r:Vals xs us):us=[]↔xs=[]:=by
 cases r with
 |nil=>simp
 |cons _ _=>simp
theorem aKX:OpR X (zCK .Add) (aOL X.K):=by
 intro pins s σ H x y v u Q I rx ry h;obtain⟨a,b,xs,ys,rfl,rfl,ha,hb,hx,hz,q1,q2⟩:=h;cases rx;cases ry;obtain⟨its,r1,p1,_⟩:=I.tuple ha;obtain⟨its2,r2,p2,_⟩:=I.tuple hb;refine HT.aLM p1 p2 (λ z=>hx (r1.nil_iff.mp z)) (λ z=>⟨.ref a,H,I,rfl,q1 (r2.nil_iff.mp z)⟩) (λ z=>?_) (by rw[<-r1.length,<-r2.length];exact hz);refine⟨.ref s.heap.objs.size,_,I.laid (t':=s.toks) (o:=.tup (xs++ys)) (λ b ob q=>zAC _ q) (zAS _) ?_,rfl,q2 (λ w=>z (r2.nil_iff.mpr w)) _ (I.hok.fresh (zAS _))⟩;exact⟨by rw[zA5];exact hz,_,r1.append r2,IsTup.new _ _⟩
end
def ixN(n:Nat)(i:Int):Option Nat:=if 0<=i then(if i<n then some i.toNat else none)else if -(n:Int)<=i then some (i+n).toNat else none
def atI{α:Type}(xs:List α)(i:Int):Option α:=(ixN xs.length i).bind λ j=>xs[j]?
theorem aFe{n:Nat}{i:Int}{j:Nat}(h:ixN n i=some j):seqIndex? i n=some j/\j<n/\-(n:Int)<=i/\i<n:=by
 unfold ixN at h;by_cases h0:0<=i
 ·rw[if_pos h0]at h
  by_cases h1:i<n
  ·rw[if_pos h1]at h
   have e:i.toNat=j:=zAa h;exact⟨by rw[zIx h0 h1,e],by omega,by omega,h1⟩
  ·rw[if_neg h1]at h;cases h
 ·rw[if_neg h0]at h
  by_cases h1: -(n:Int)<=i
  ·rw[if_pos h1]at h
   have e:(i+n).toNat=j:=zAa h;exact⟨by rw[zIk (by omega) h1,e],by omega,h1,by omega⟩
  ·rw[if_neg h1]at h;cases h
theorem aCO{α:Type}{xs:List α}{i:Int}{v:α}(h:atI xs i=some v):∃j,seqIndex? i xs.length=some j/\xs[j]? =some v/\j<xs.length/\-(xs.length:Int)<=i/\i<xs.length:=by
 unfold atI at h;cases e:ixN xs.length i with
 |none=>rw[e]at h;cases h
 |some j=>
  rw[e]at h;obtain⟨h1,h2,h3,h4⟩:=aFe e;exact⟨j,h1,h,h2,h3,h4⟩
def xT(b:Expr):Prop:=∀o i,zH3 b false o i=operate [o,i] (zIv o i)
def IxR(X:Cx)(r:R2):Prop:=
 ∀(value slice:Expr) (pins:List (Addr×Obj)) (s:zAF) (σ:St) (H:Hp) (x y:V) (v u:Value) (Q:VK),Inv X pins σ H s->RelV x v->RelV y u->r x y H Q->
  zH3 slice false v u=operate [v,u] (zIv v u)->wpAny (model X.prog X.w) X.A (subscriptTail value slice v u) (EP X pins σ Q) X.xe s
def MtR(X:Cx)(id:String)(r:V->List V->Hp->VK->Prop):Prop:=
 ∀(pins:List (Addr×Obj)) (s:zAF) (σ:St) (H:Hp) (x:V) (xs:List V) (v:Value) (us:List Value) (Q:VK),Inv X pins σ H s->RelV x v->Vals xs us->r x xs H Q->
  wpAny (model X.prog X.w) X.A (call (.builtin id) (v::us)) (EP X pins σ Q) X.xe s
section
variable{X:Cx}{a b:Expr}{ta tb:TE}{pos:Pos}
theorem IxR.or{r r':R2}(h:IxR X r)(h':IxR X r'):IxR X (λ x y H Q=>r x y H Q\/r' x y H Q):=by
 intro value slice pins s σ H x y v u Q I rx ry q hs;rcases q with q|q
 ·exact h value slice pins s σ H x y v u Q I rx ry q hs
 ·exact h' value slice pins s σ H x y v u Q I rx ry q hs
theorem aHz{r:R2}(hr:IxR X r)(ha:PE X a ta)(hb:PE X b tb)(hs:xT b):PE X (.Subscript a b pos) (tOp r ta tb):=by
 intro pins s σ H Q I h;exact Subscript_ (aNc ha hb I h λ v u s2 x y H2 I2 rx ry q=>hr a b pins s2 σ H2 x y v u Q I2 rx ry q (hs _ _))
def aMX(K:zAA):R2:=λ x y H Q=>∃p xs i v,x= .ref p/\y= .int i/\SqL K H p xs/\atI xs i=some v/\Q v H
def aOI(K:zAA):R2:=λ x y H Q=>∃p xs i v,x= .ref p/\y= .int i/\SqT K H p xs/\atI xs i=some v/\Q v H
def aOJ:R2:=λ x y H Q=>∃z i c,x= .str z/\y= .int i/\z.length<=zAW/\atI z.cps.toList i=some c/\Q (.str ⟨#[c]⟩) H
theorem aBu:IxR X (aMX X.K):=by
 intro value slice pins s σ H x y v u Q I rx ry h hs;obtain⟨p,xs,i,z,rfl,rfl,hq,he,q⟩:=h;cases rx;obtain⟨t,rfl⟩:=ry;obtain⟨its,r,pl,hz⟩:=I.list hq;obtain⟨j,h1,h2,h3,h4,h5⟩:=aCO he;obtain⟨w,ew,rw'⟩:=r.get h2;have hl:=r.length;have hn:=vL;have fin:EP X pins σ Q w s:=⟨z,H,I,rw',q⟩;by_cases h0:0<=i
 ·have hj:i.toNat=j:=by
   rw[zIx h0 h5]at h1;exact zAa h1
  exact item_listR pl.isList h0 (by omega) (by rw[hj];simpa using ew) fin hs
 ·have hj:(i+(its.toArray.size:Int)).toNat=j:=by
   rw[zIk (by omega) h4]at h1;rw[zAP,<-hl];exact zAa h1
  exact zIY (x:=w) pl.isList.typeIs slot_list_getitem.lookup
   (wpAny_getItem_list_neg (Q:=λ r s'=>r=w/\EP X pins σ Q r s') pl.isList (by omega) (by rw[zAP]<;>omega) (by omega) (by rw[hj];simpa using ew) ⟨rfl,fin⟩) hs
theorem aNT:IxR X (aOI X.K):=by
 intro value slice pins s σ H x y v u Q I rx ry h hs;obtain⟨p,xs,i,z,rfl,rfl,hq,he,q⟩:=h;cases rx;obtain⟨t,rfl⟩:=ry;obtain⟨its,r,pl,hz⟩:=I.tuple hq;obtain⟨j,h1,h2,h3,h4,h5⟩:=aCO he;obtain⟨w,ew,rw'⟩:=r.get h2;have hl:=r.length;have hn:=vL;have fin:EP X pins σ Q w s:=⟨z,H,I,rw',q⟩;exact zIY (x:=w) pl.typeIs slot_tuple_getitem.lookup
  (getItem_tuple (j:=j) (Q:=λ r s'=>r=w/\EP X pins σ Q r s') pl (by omega) (by omega) (by rw[zAP,<-hl];exact h1) (by simpa using ew) ⟨rfl,fin⟩) hs
theorem aNU:IxR X aOJ:=by
 intro value slice pins s σ H x y v u Q I rx ry h hs;obtain⟨z,i,c,rfl,rfl,hz,he,q⟩:=h;obtain⟨t,rfl⟩:=rx;obtain⟨t',rfl⟩:=ry;obtain⟨j,h1,h2,h3,h4,h5⟩:=aCO he;have hl:z.cps.toList.length=z.length:=by simp[Str.length]
 rw[hl]at h1 h4 h5;have hn:=vL;exact tail_any (typeIs_str s z t) slot_str_getitem.lookup (getItem_str (c:=c) (by
  have e1:decide (i < -(2^63:Int))=false:=decide_eq_false (by omega);have e2:decide (i ≥ 2^63)=false:=decide_eq_false (by omega);rw[e1,e2,Bool.or_false]) (by rw[h1];simpa using h2) ⟨.str ⟨#[c]⟩,H,I.tok _,⟨_,rfl⟩,q⟩) hs
def rIx(K:zAA):R2:=λ x y H Q=>aMX K x y H Q\/aOI K x y H Q\/aOJ x y H Q
theorem aNV:IxR X (rIx X.K):=aBu.or (aNT.or aNU)
theorem aE0(its:List Value)(n j:Nat)(u:Value):zCA (·.setIfInBounds j u) {cls:=.type "list",data:=.seq its.toArray n}={cls:=.type "list",data:=.seq (its.set j u).toArray n}:=by
 simp[zCA]
theorem Inv.lst{pins:List (Addr×Obj)}{σ:St}{H:Hp}{s:zAF}{p:Addr}{xs:List V}(I:Inv X pins σ H s)(h:H p=some (.lst xs)):
  ∃(its:List Value) (n:Nat),Vals xs its/\s.heap.get? p=some {cls:=.type "list",data:=.seq its.toArray n}/\xs.length<=zAW:=by
 obtain⟨z,its,n,r,e⟩:=I.hok p _ h;exact⟨its,n,r,e,z⟩
theorem Inv.lstUpd{pins:List (Addr×Obj)}{σ:St}{H:Hp}{s:zAF}{p:Addr}{xs ys:List V}{its its':List Value}{n n':Nat}{f:Obj->Obj}(I:Inv X pins σ H s)(h:H p=some (.lst xs))
  (ho:s.heap.get? p=some {cls:=.type "list",data:=.seq its.toArray n})(hf:f {cls:=.type "list",data:=.seq its.toArray n}={cls:=.type "list",data:=.seq its'.toArray n'})(r:Vals ys its')(hz:ys.length<=zAW)(t:Nat):
  Inv X pins σ (upd H p (.lst ys)) {s with heap:=s.heap.update p f,toks:=t}:=by
 have e:(s.heap.update p f).get? p=some {cls:=.type "list",data:=.seq its'.toArray n'}:=by
  rw[zEE f ho (by rw[hf]<;>rfl),hf]
 refine I.write (x:=p) (e:=p) (by rw[h];trivial) (.inl rfl) (λ b u hb q=>(zHX _ _ (zDL hb)).trans q) ⟨_,e⟩ ?_;exact⟨hz,its',n',r,e⟩
def aL7:V->V->V->Hp->(Hp->Prop)->Prop:=λ o i v H Q=>∃p xs k j,o= .ref p/\i= .int k/\H p=some (.lst xs)/\ixN xs.length k=some j/\Q (upd H p (.lst (xs.set j v)))
theorem set_list:aOj X aL7:=by
 intro pins s σ H o i v ov iv u Q I ro ri rv h;obtain⟨p,xs,k,j,rfl,rfl,hp,hj,q⟩:=h;cases ro;obtain⟨t,rfl⟩:=ri;obtain⟨its,n,r,ho,hz⟩:=I.lst hp;obtain⟨h1,h2,h3,h4⟩:=aFe hj;have hl:=r.length;have hn:=vL;have I':Inv X pins σ (upd H p (.lst (xs.set j v))) {s with heap:=s.heap.update p (zCA (·.setIfInBounds j u))}:=
  I.lstUpd hp ho (aE0 its n j u) (r.set rv j) (by rw[zBA];exact hz) s.toks
 by_cases h0:0<=k
 ·have hk:k.toNat=j:=by
   rw[zIx h0 h4]at h1;exact zAa h1
  exact PySem.W.ki_setAt ho h0 (by omega) (by rw[zAP,<-hl];exact h4) (by rw[hk];exact⟨_,I',q⟩)
 ·have hk:(k+(its.toArray.size:Int)).toNat=j:=by
   rw[zIk (by omega) h3]at h1;rw[zAP,<-hl];exact zAa h1
  exact PySem.W.ki_setBack ho (by omega) (by rw[zAP,<-hl];exact h3) (by omega) (by rw[hk];exact⟨_,I',q⟩)
theorem u5:dD X (.builtin "len") (λ xs H Q=>∃p ys,xs=[.ref p]/\(SqL X.K H p ys\/SqT X.K H p ys)/\Q (.int ys.length) H):=by
 intro pins s σ H xs us Q I r h;obtain⟨p,ys,rfl,hq,q⟩:=h;obtain⟨u,rfl,rx⟩:=vals1 r;cases rx;have hn:=vL;rcases hq with hq|hq
 ·obtain⟨its,r',pl,hz⟩:=I.list hq
  have hlen:=r'.length;exact Calls.call_len_list pl.isList (by simp only[zAP]<;>omega) ⟨.int ys.length,H,I.tok _,⟨s.toks+1,by rw[zAP,hlen]⟩,q⟩
 ·obtain⟨its,r',pl,hz⟩:=I.tuple hq
  have hlen:=r'.length;exact len_tuple pl (by simp only[zAP]<;>omega) ⟨.int ys.length,H,I.tok _,⟨s.toks+1,by rw[zAP,hlen]⟩,q⟩
theorem dD.or{f:Value}{r r':List V->Hp->VK->Prop}(h:dD X f r)(h':dD X f r'):dD X f (λ xs H Q=>r xs H Q\/r' xs H Q):=by
 intro pins s σ H xs us Q I rs q;rcases q with q|q
 ·exact h pins s σ H xs us Q I rs q
 ·exact h' pins s σ H xs us Q I rs q
theorem aAP:dD X (.type "tuple") (λ xs H Q=>∃p ys,xs=[.ref p]/\((SqL X.K H p ys/\∀l,H l=none->Q (.ref l) (upd H l (.tup ys)))\/(SqT X.K H p ys/\Q (.ref p) H))):=by
 intro pins s σ H xs us Q I r h;obtain⟨p,ys,rfl,h⟩:=h;obtain⟨u,rfl,rx⟩:=vals1 r;cases rx;rcases h with ⟨hq,q⟩|⟨hq,q⟩
 ·obtain⟨its,r',pl,hz⟩:=I.list hq
  have hlen:=r'.length;refine call_tuple_list pl.isList (λ h' kp=>?_) (by simp only[zAP]<;>omega);have I1:Inv X pins σ H {s with heap:=h'}:=I.kept (t':=s.toks) kp;have I2:Inv X pins σ (upd H h'.objs.size (.tup ys)) {s with heap:=h'.push {cls:=.type "tuple",data:=.seq its.toArray}}:=
   I1.laid (t':=s.toks) (λ b o e=>zAC _ e) (zAS _) (show cj X.prog X.w _ _ _ (.tup ys)from⟨hz,its,r',IsTup.new _ _⟩)
  exact⟨.ref h'.objs.size,_,I2,rfl,q _ (I1.hok.fresh (zAS _))⟩
 ·obtain⟨its,r',pl,hz⟩:=I.tuple hq
  exact call_tuple_same pl ⟨.ref p,H,I,rfl,q⟩
def tyV(K:zAA)(T:String)(x:V)(H:Hp):Prop:=match x with
 | .str _=>T="str"
 | .int _=>T="int"
 | .ref p=>(T="list"/\∃xs,SqL K H p xs)\/(T="tuple"/\∃o,K.lookup p=some o/\o.cls= .type "tuple"/\o.dict=none)\/
   (T="dict"/\((∃kvs,H p=some (.dK kvs))\/∃kvs,H p=some (.dT kvs)))\/(T="set"/\∃S n,H p=some (.set S n))
 |_=>False
theorem aLy{pins:List (Addr×Obj)}{σ:St}{H:Hp}{s:zAF}{T:String}{x:V}{v:Value}(I:Inv X pins σ H s)(r:RelV x v)(ty:tyV X.K T x H):
  s.TypeIs v T/\∀a,v= .ref a->∃ob,s.heap.get? a=some ob/\ob.dict=none:=by
 cases x with
 |str z=>
  obtain⟨t,rfl⟩:=r;cases (show T="str" from ty);exact⟨typeIs_str s z t,λ _ e=>nomatch e⟩
 |int i=>
  obtain⟨t,rfl⟩:=r;cases (show T="int" from ty);exact⟨zJ0 s i t,λ _ e=>nomatch e⟩
 |ref p=>
  cases r;rcases ty with ⟨rfl,xs,hq⟩|⟨rfl,o,hk,hc,hd⟩|⟨rfl,hk⟩|⟨rfl,S,n,hk⟩
  ·obtain⟨its,_,pl,_⟩:=I.list hq
   refine⟨pl.isList.typeIs,λ a e=>?_⟩;cases e;obtain⟨o,n,e,c,hd,_⟩:=pl;exact⟨o,e,hd⟩
  ·refine⟨⟨o,I.kIn p o hk,hc⟩,λ a e=>?_⟩
   cases e;exact⟨o,I.kIn _ o hk,hd⟩
  ·have z:∃o,s.heap.get? p=some o/\o.ExactDict:=by
    rcases hk with ⟨kvs,hk⟩|⟨kvs,hk⟩
    ·obtain⟨_,_,_,_,o,_,_,e,ex,_⟩:=I.hok p _ hk
     exact⟨o,e,ex⟩
    ·obtain⟨_,_,_,_,o,_,_,e,ex,_⟩:=I.hok p _ hk
     exact⟨o,e,ex⟩
   obtain⟨o,e,ex⟩:=z;refine⟨⟨o,e,ex.1⟩,λ a e2=>?_⟩;cases e2;exact⟨o,e,ex.2.1⟩
  ·obtain⟨o,_,_,_,e,ex,_⟩:=I.hok p _ hk
   refine⟨⟨o,e,ex.1⟩,λ a e2=>?_⟩;cases e2;exact⟨o,e,ex.2.1⟩
 |_=>exact zAO ty
def tBM(K:zAA)(T:String)(r:V->List V->Hp->VK->Prop)(to:TE)(t:TA):TE:=λ σ H Q=>to σ H λ x H1=>tyV K T x H1/\t σ H1 λ xs H2=>r x xs H2 Q
variable{o e:Expr}{es:List Expr}{to:TE}{t:TA}{name:Str}{apos cpos:Pos}{T id:String}{r:V->List V->Hp->VK->Prop}
theorem aA8(pa:PlainAttrs T)(slot:Slot T name id)(hty:typeOf (.builtin id)=pure (.type "method_descriptor"))(hm:MtR X id r)(ho:PE X o to)(ha:PA X (e::es) t)
  (hbase:zEQ o name X.env (eval o X.env)=eval o X.env:=by rfl)
  (hfew:((zC1 cpos (zAZ (e::es) X.env)).all (λ x=>!x.1)&&(zFj cpos (zDd [] X.env)).all (λ x=>x.1.isSome)
   &&decide ((e::es).length+([]:List zD1).length+(if ([]:List zD1).isEmpty then 0 else 1)<30))=true:=by rfl)
  (hline:(apos.endLine==cpos.line)=true:=by rfl)(hs:zAZ (e::es) X.env=(false,eval e X.env)::zAZ es X.env:=by rfl)(hplain:(zC1 cpos (zAZ es X.env)).any (·.1)=false:=by rfl):
  PE X (.Call (.Attribute o name apos) (e::es) [] cpos) (tBM X.K T r to t):=by
 intro pins s σ H Q I h;refine wpAny_Call_method_late hbase hfew hline rfl (thn (ho pins s σ H _ I h) λ v s1 ⟨x,H1,I1,r1,ty,q1⟩=>?_);obtain⟨h1,h2⟩:=aLy I1 r1 ty;refine⟨T,id,pa,slot,hty,h1,h2,?_⟩;have hA:=ha cpos pins s1 σ H1 _ I1 q1;rw[hs]at hA ⊢;refine Calls.callWith_builtin (by show(false||(zC1 cpos (zAZ es X.env)).any (·.1))=false;rw[hplain]<;>rfl) (zH6 ?_);exact thn hA λ us s2 ⟨vs,H2,I2,r2,q2⟩=>hm pins s2 σ H2 x vs v us Q I2 r1 r2 q2
end
def MtM(X:Cx)(id:String)(r:V->List V->Hp->VK->Prop):Prop:=
 ∀(pins:List (Addr×Obj)) (s:zAF) (σ:St) (H:Hp) (x:V) (xs:List V) (v:Value) (us:List Value) (Q:VK),Inv X pins σ H s->RelV x v->Vals xs us->r x xs H Q->
  wpAny (model X.prog X.w) X.A (call (.builtin id) (v::us)) (EP X pins σ Q) X.xe s
theorem Vals.one:∀{x:V} {us:List Value},Vals [x] us->∃u,us=[u]/\RelV x u
 |_,_,.cons r .nil=>⟨_,rfl,r⟩
theorem Vals.rep{xs:List V}{us:List Value}(h:Vals xs us):∀k:Nat,Vals (zAM k xs).flatten (zAM k us).flatten
 |0=>.nil
 |k+1=>by
  rw[zB7,zB7,zBJ,zBJ];exact Vals.append h (Vals.rep h k)
theorem foldl_rep(its:List Value):∀(k:Nat) (acc:List Value),
  zIN (λ x1 x2=>x1++x2) acc.toArray (zAM k its.toArray)=(acc++(zAM k its).flatten).toArray
 |0,acc=>by simp
 |k+1,acc=>by
  have e:acc.toArray++its.toArray=(acc++its).toArray:=by simp
  have e2:(acc++its)++(zAM k its).flatten=acc++(zAM (k+1) its).flatten:=by
   rw[zB7,zBJ,zBT]
  rw[<-e2,<-foldl_rep its k (acc++its),<-e,zB7,zBj]
section
variable{X:Cx}{pins:List (Addr×Obj)}{σ:St}{H:Hp}{s:zAF}{l b:Addr}{xs ys zs:List V}
theorem Inv.lset{its its':List Value}{n:Nat}{f:Array Value->Array Value}{t':Nat}(I:Inv X pins σ H s)(hH:H l=some (.lst xs))
  (e:s.heap.get? l=some {cls:=.type "list",data:=.seq its.toArray n})(hf:f its.toArray=its'.toArray)(hv:Vals ys its')(hz:ys.length<=zAW):
  Inv X pins σ (upd H l (.lst ys)) {s with heap:=s.heap.update l (zCA f),toks:=t'}:=by
 have q:=PySem.IsL.update e f;rw[hf]at q;refine I.write (x:=l) (e:=l) (by rw[hH];exact trivial) (.inl rfl) (λ b' u hb hu=>(zHX s.heap (zCA f) (zDL hb)).trans hu) ⟨_,q⟩ ?_;exact⟨hz,its',_,hv,q⟩
theorem Inv.lnew{its:List Value}{t':Nat}(I:Inv X pins σ H s)(hv:Vals ys its)(hz:ys.length<=zAW):
  Inv X pins σ (upd H s.heap.objs.size (.lst ys)) {s with heap:=s.heap.push {cls:=.type "list",data:=.seq its.toArray},toks:=t'}:=
 I.laid (λ _ _ q=>zAC _ q) (zAS _) ⟨hz,its,0,hv,zAV _ rfl⟩
theorem Inv.fresh(I:Inv X pins σ H s):H s.heap.objs.size=none:=I.hok.fresh (zAS _)
theorem Inv.lstM(I:Inv X pins σ H s)(hH:H l=some (.lst xs)):xs.length<=zAW/\∃(its:List Value) (n:Nat),Vals xs its/\xs.length=its.length/\s.heap.get? l=some {cls:=.type "list",data:=.seq its.toArray n}:=by
 obtain⟨z,its,n,r,e⟩:=I.hok l _ hH;exact⟨z,its,n,r,r.length,e⟩
theorem aIR{n:Nat}(h:n<=zAW):zDS n=false:=by
 unfold zDS;exact decide_eq_false (by omega)
end
section
variable{X:Cx}
def aKC:V->List V->Hp->VK->Prop:=λ x vs H Q=>∃l xs y,x= .ref l/\vs=[y]/\H l=some (.lst xs)/\xs.length<zAW/\Q .non (upd H l (.lst (xs++[y])))
theorem vJ:MtM X "list.append" aKC:=by
 intro pins s σ H x vs v us Q I rx rv h;obtain⟨l,xs,y,rfl,rfl,hH,hz,q⟩:=h;cases rx;obtain⟨u,rfl,ru⟩:=rv.one;obtain⟨z,its,n,r,hl,e⟩:=I.lstM hH;refine zG9 zDt ⟨_,e,rfl⟩ F.entry_list_append (F.args_list_append_2 _ _) (PySem.list_append l its.toArray n u (by rw[zAP];omega)) ⟨e,?_⟩;refine⟨.non,_,I.lset (its':=its++[u]) hH e (by simp) (r.append (.cons ru .nil)) ?_,rfl,q⟩;rw[zA5,zDJ];omega
def aPB:R2:=λ x y H Q=>∃l b xs zs,x= .ref l/\y= .ref b/\H l=some (.lst xs)/\H b=some (.lst zs)/\xs.length+zs.length<=zAW/\∀p,H p=none->Q (.ref p) (upd H p (.lst (xs++zs)))
theorem aNE:OpR X (zCK .Add) aPB:=by
 intro pins s σ H x y v u Q I rx ry h;obtain⟨l,b,xs,zs,rfl,rfl,hH,hB,hz,q⟩:=h;cases rx;cases ry;obtain⟨z,its,n,r,hl,e⟩:=I.lstM hH;obtain⟨z2,its2,n2,r2,hl2,e2⟩:=I.lstM hB;refine PySem.P.add_list e e2 ?_ (by rw[zAP,zAP];omega);have ea:its.toArray++its2.toArray=(its++its2).toArray:=by simp
 rw[ea];exact⟨.ref _,_,I.lnew (t':=s.toks) (r.append r2) (by rw[zA5];omega),rfl,q _ I.fresh⟩
def aOH:R2:=λ x y H Q=>∃l k xs,x= .ref l/\y= .int k/\H l=some (.lst xs)/\-(2^63)<=k/\k<2^63/\xs.length*k.toNat<=zAW/\
 ∀p,H p=none->Q (.ref p) (upd H p (.lst (zAM k.toNat xs).flatten))
theorem len_rep{α:Type}(xs:List α)(k:Nat):(zAM k xs).flatten.length=k*xs.length:=by
 induction k with
 |zero=>simp
 |succ k ih=>rw[zB7,zBJ,zA5,ih,Nat.succ_mul,Nat.add_comm]
theorem aMs:OpR X (zCK .Mult) aOH:=by
 intro pins s σ H x y v u Q I rx ry h;obtain⟨l,k,xs,rfl,rfl,hH,h1,h2,hz,q⟩:=h;cases rx;obtain⟨t,rfl⟩:=ry;obtain⟨z,its,n,r,hl,e⟩:=I.lstM hH;have hlen:its.toArray.size*k.toNat<=zAW:=by rw[zAP,<-hl];exact hz
 have hcap:¬its.toArray.size*k.toNat>(2^63-1) / 8:=by
  have:(zAW:Nat)<=(2^63-1) / 8:=by decide
  omega
 have hfit:¬(!Builtin.List.listFitsIndex k)=true:=by
  rw[fitsIndex_both h1 h2];exact zA3
 have hlong:¬zDS (its.toArray.size*k.toNat)=true:=by
  rw[aIR hlen];exact zA3
 have hnew:zIN (λ x1 x2=>x1++x2) #[] (zAM (if its.toArray.isEmpty=true then 0 else k.toNat) its.toArray)=(zAM k.toNat its).flatten.toArray:=by
  have f0:∀m:Nat,zIN (λ x1 x2=>x1++x2) #[] (zAM m its.toArray)=(zAM m its).flatten.toArray:=λ m=>by
   have:=foldl_rep its m []
   rw[zDX]at this;exact this
  rw[f0];cases its with
  |nil=>simp
  |cons a r'=>rw[if_neg (by simp)]
 refine wpAny_binaryOp_repeat_ref (T:="list") (U:="int") (by decide) ⟨_,e,rfl⟩ (λ s'=>zJ0 s' k t) noFill_list_mul F.fills_int_mul zJN repeat_list F.slot_int_index.lookup
  (zG9 zJN (zJ0 s k t) F.entry_int_rmul (F.args_int_rmul_2 _ _) (int___rmul___int_list k t l its.toArray n)
   ⟨e,rfl,⟨_,e,rfl⟩,zG9 F.slot_list_mul ⟨_,e,rfl⟩ F.entry_list_mul (F.args_list_mul_2 _ _) (AutoListH.list___mul___list_int_3 l its.toArray n k t hfit hcap hlong) ⟨e,?_⟩⟩)
 rw[hnew];exact⟨.ref _,_,I.lnew (t':=s.toks) (r.rep k.toNat) (by rw[len_rep,Nat.mul_comm];exact hz),rfl,q _ I.fresh⟩
end
section
variable{prog:zA2}{w:World}{A:zAe}{E:Value->zAF->Prop}{s:zAF}
end
section
variable{X:Cx}
end
end L2
namespace Att
open PySem PySem.W PySem.Calls PyProof.Rows
theorem w6{P:Params}{h:Heap}:∀(ns:List Int) (vs:List Value),WellAll P h vs (ns.map WData.int)->zBD vs ns:=by
 intro ns;induction ns with
 |nil=>
  intro vs w;rw[zFA]at w;cases w;exact .nil
 |cons n ns ih=>
  intro vs w;rw[zAG]at w;cases w with
  |cons a b=>
   cases a;exact .cons _ _ (ih _ b)
theorem aGH{l:OpenLaw}{n:Nat}(hn:l.most=some n){P:Params}{h:Heap}{args:List WData}{vals:List Value}
  (hpre:l.row.toRowW.claim.pre args=true)(hwl:WellAll P h vals args):
  ∃a vs ns,vals=[zB0 a]/\args=[WData.list (ns.map WData.int)]/\h.get? a=some {cls:=.type "list",data:=.seq vs.toArray}/\zBD vs ns/\ns.length<=n:=by
 have hsh:WShape.hasAll [] args [.list .int]=true:=(pre_splitW hpre).1;have hc:l.pre.holds [] {args:=args}=true:=(pre_splitW hpre).2;obtain⟨d,r,rfl,h1,h2⟩:=hasAllW_cons hsh;obtain rfl:=hasAllW_nil h2;obtain⟨xs,rfl,h3⟩:=hasW_list h1;obtain⟨ns,rfl⟩:=items_int h3;have hlen:ns.length<=n:=by
  unfold OpenLaw.pre at hc;have h4:(WTm.not (.lt (.lit (.int (n:Int))) (.len (.arg 0)))).holds [] {args:=[.list (ns.map .int)]}=true:=by
   have h4:=(holds_andW hc).1;rw[hn]at h4;exact h4
  have h5:=condW_of h4 (w_not (w_lt w_lit (w_len_list (w_arg rfl))));rw[zAE]at h5;refine zDx λ q=>?_
  have q':(n:Int)<((ns.length:Nat):Int):=by omega
  first
   |(rw[decide_eq_true q']at h5;exact absurd h5 (by decide))
   |(simp at h5;omega)
 cases hwl with
 |cons w1 w2=>
  cases w2;cases w1 with
  |list ho hall=>exact⟨_,_,ns,rfl,rfl,ho,w6 ns _ hall,hlen⟩
theorem aGL(l:OpenLaw)(args:List WData):l.row.toRowW.claim.post args (.bool true) args=true:=
 postW_of (r:=l.row.toRowW) (X:=(true==true))
  (show WShape.has [] (.bool true) .bool=true by first|rfl|decide|simp[WShape.has,WShape.arms,WShape.armsAll])
  (show(WTm.eq .res (.lit (.bool true))).value [] {args:=args,res:=some (.bool true),after:=args}=some (.bool (true==true))from w_eq_bool (w_res rfl) w_lit) rfl
theorem aDa{l:OpenLaw}{n:Nat}{q:zA2}{loose:List Str}{XP:(Str->Option Value)->Heap->Prop}{YP:World->Heap->Prop}{d:DefRec}
  (hn:l.most=some n)(hdf:d.params.defaults=[])
  (call:∀(w:World) (s₀ s₁:zAF) (mg mb:Str->Option Value) (fa:Addr) (o:Obj) (pm cd doc:Value) (a:Addr) (vs:List Value) (ns:List Int),
   Ground q loose [] XP w s₀ mg mb s₁.heap->YP w s₁.heap->
   s₁.heap.get? fa=some o->o.data= .func (docDef d.name d.params d.body d.scope pm cd doc)->s₁.heap.CodeRec cd d.name->mg d.name=some (.ref fa)->
   s₁.heap.get? a=some {cls:=.type "list",data:=.seq vs.toArray}->zBD vs ns->ns.length<=n->s₁.gens=#[]->
   zBq (model l.prog w) zCX (.call (.ref fa) ⟨[.ref a],[]⟩) (λ r s'=>r= .ok (.ret (.bool true))/\OldK s₁.heap s'.heap/\s'.os=s₁.os/\zE5 s'.gens) s₁):
  WalkO q loose XP YP l.row.toRowW d [] (λ f vs=>zIB f vs):=by
 intro w s₀ s₁ mg mb G Y fa o pm cd doc dV kV ho hd hcd hD hmg hg args vals as hpre hlay hrd hwl hlo;obtain rfl:dV= .none:=Dflts.none hD hdf;obtain rfl:kV= .none:=Dflts.noKw hD;obtain⟨a,vs,ns,rfl,rfl,hobj,hints,hlen⟩:=aGH hn hpre hwl;refine enter_call (zDA (call w s₀ s₁ mg mb fa o pm cd doc a vs ns G Y ho (fd_plain hd) hcd hmg hobj hints hlen hg) λ r s' hq=>?_);obtain⟨rfl,h2,h3,h4⟩:=hq;exact⟨.inl ⟨.bool true,.bool true,[],rfl,λ _=>rfl,.bool true,aGL l _,λ _=>⟨zGF,λ _ hm=>(nomatch hm)⟩⟩,h2,h3,h4⟩
section
variable{prog:zA2}{w:World}{A:zAe}{E:Value->zAF->Prop}{s:zAF}{K:Frag}
theorem make_obj{R:zE8->zAF->Prop}{C fI:Addr}{rest:List Value}{kw:List (Str×Value)}
  (X:K.In s.heap)(hm:makesIn K C=true)(hi:findIn K (.ref C) "__init__"=some (some (.ref fI)))(hf:isFn K (.ref fI)=true)
  (h:zBq (model prog w) (A.under (.builtin "type.__call__" ⟨.ref C::rest,kw⟩)) (.call (.ref fI) ⟨.ref (s.heap.objs.size+1)::rest,kw⟩) (InitBack (s.heap.objs.size+1) R)
   {s with heap:=(s.heap.push emptyDict).push (instObj C s.heap.objs.size)}):zBq (model prog w) A (.call (.ref C) ⟨rest,kw⟩) R s:=by
 obtain⟨hh,g,d,t,os⟩:=s;exact make_core (makes_of X hm) (looks_findIn X hi) (λ self=>bind_fn X self (beq_iff_eq.mp hf)) (.inl rfl) h
theorem get_field{x C:Addr}{ox:Obj}{es:List DictEntry}{n:Nat}{name:Str}{expr:Bool}{v:Value}{Q:Value->zAF->Prop}
  (X:K.In s.heap)(I:zIS s.heap x ox C (some (dictOf es n)))(hg:plainGet K C name=true)(hh:hasDictIn K C=true)(ha:findIn K (.ref C) name=some none)
  (hl:getL name es=some (some v))(hv:handedIn v=true)(h:Q v {s with toks:=s.toks+1}):wpAny (model prog w) A (getAttr (.ref x) name expr) Q E s:=
 get_value X I (plainGet_of hg).1 (findObj_own hh ha rfl hl) hv h
def ledger(h:Heap)(L d:Addr):List (Addr×Obj):=(zAp h.objs.size).filterMap λ a=>if a=L\/a=d then none else(h.get? a).map λ o=>(a,o)
end
end Att
namespace L2
open PySem PySem.Spec PyProof.Rows
theorem aAU:∀{vs:List Value} {ns:List Int},zBD vs ns->Vals (ns.map V.int) vs
 |_,_,.nil=>.nil
 |_,_,.cons n t h=>.cons ⟨t,rfl⟩ (aAU h)
def Only(H:Hp):Prop:=∀b,H b=none\/∃o xs,H b=some (.frz o (.lst xs))
def qg(s:Stmt):zDE:=match s with
 | .FunctionDef _ a _ _ _ _ _ _ _ _=>a
 |_=>{posonlyargs:=[],args:=[],vararg:=none,kwonlyargs:=[],kw_defaults:=[],kwarg:=none,defaults:=[]}
def eZ(s:Stmt):List Stmt:=match s with
 | .FunctionDef _ _ b _ _ _ _ _ _ _=>b
 |_=>[]
def aH(s:Stmt):Scope:=match s with
 | .FunctionDef _ _ _ _ _ _ sc _ _ _=>sc
 |_=>{kind:=.function,names:=[],isGenerator:=false,isCoroutine:=false}
abbrev CX0:CXT:=λ _ _ _ _ _ _=>False
abbrev E0:XK:=λ _ _ _=>False
structure Fun(K:zAA)(x qual:Str)(st:Stmt)(f:Addr)(fd:zAc):Prop where
 ex:∃(oc:Value) (od:Option Addr) (kV doc pm:Value) (an:Option Addr) (cdv ct:Value) (osl:Array (Option Value)),
  fd=zBc x qual (qg st) (eZ st) (aH st) .none kV doc pm an cdv ct/\K.lookup f=some ⟨oc,od,.func fd,osl⟩/\zCz K cdv qual=true
 kp:zB5 K (.ref f)=true
section
variable{P:zA2}{w:World}{K:zAA}{mg:Str->Option Value}{base:Heap}
theorem Fun.binds{x qual:Str}{st:Stmt}{f:Addr}{fd:zAc}{ps:List Str}(F:Fun K x qual st f fd)
  (h:∀(kV doc pm:Value) (an:Option Addr) (cdv ct:Value) (us:List Value),us.length=ps.length->bindArgs (zBc x qual (qg st) (eZ st) (aH st) .none kV doc pm an cdv ct) ⟨us,[]⟩=pure (ps.zip us)):Binds K fd ps []:=by
 obtain⟨oc,od,kV,doc,pm,an,cdv,ct,osl,rfl,lk,hcd⟩:=F.ex;exact .all (h kV doc pm an cdv ct)
theorem aN3{x qual:Str}{st:Stmt}{f:Addr}{oc:Value}{od an:Option Addr}{osl:Array (Option Value)}{kV doc pm cdv ct:Value}(l:K.lookup f=some ⟨oc,od,.func (zBc x qual (qg st) (eZ st) (aH st) .none kV doc pm an cdv ct),osl⟩)
  (c:zCz K cdv qual=true)(k:zB5 K (.ref f)=true):Fun K x qual st f (zBc x qual (qg st) (eZ st) (aH st) .none kV doc pm an cdv ct):=⟨⟨oc,od,kV,doc,pm,an,cdv,ct,osl,rfl,l,c⟩,k⟩
end
section
variable{X:Cx}
end
def aY(H H':Hp):Prop:=∀b o,H b=some o->H' b=some o
theorem aY.refl(H:Hp):aY H H:=λ _ _ h=>h
theorem aY.trans{H H1 H2:Hp}(a:aY H H1)(b:aY H1 H2):aY H H2:=λ c o h=>b c o (a c o h)
theorem aY.free{H H':Hp}(e:aY H H'){l:Addr}(h:H' l=zJD):H l=zJD:=by
 cases q:H l with
 |none=>rfl
 |some o=>
  rw[e l o q]at h;cases h
end L2
set_option maxHeartbeats 4000000
namespace HT
open PySem PyProof.Rows
def lexLe:List Int->List Int->Bool
 |[],_=>true
 |_::_,[]=>false
 |x::xs,y::ys=>if x=y then lexLe xs ys else decide (x<=y)
theorem aE7(x y:Int)(xs ys:List Int):lexLe (x::xs) (y::ys)=if x=y then lexLe xs ys else decide (x<=y):=rfl
theorem aHc(A:zAe)(s:zAF)(a:Int)(t:Tok)(c:Int)(u:Tok)(prog:zA2)(w:World)(E:Value->zAF->Prop)(Q:Value->zAF->Prop)(h:Q (.bool (decide (a<=c))) s):
  wpAny (model prog w) A (richCompare .LtE (.int a t) (.int c u)) Q E s:=
 (PyProof.Rows.le_int h:wpAny (model prog w) A (zAr .LtE (.int a t) (.int c u)) Q E s)
section
open PySem.SeqAt
open PySem.AutoSeq1(wpAny_loadPart')
open PySem.MeetsSeq PySem.MeetsSeq2 PySem.MeetsSeq3
theorem zj(l b:Addr)(items items2:Array Value)(n n2:Nat)(dd dd2:Option Addr)(sl sl2:Array (Option Value))(ns ms:List Int)(hi:zBD items.toList ns)(hj:zBD items2.toList ms):
  Meets (zEM.«tuple.__le__» ⟨[.ref l,.ref b],[]⟩)
   (λ _ R s=>s.heap.get? l=some {cls:=.type "tuple",dict:=dd,data:=.seq items n,slots:=sl}/\s.heap.get? b=some {cls:=.type "tuple",dict:=dd2,data:=.seq items2 n2,slots:=sl2}/\
    R (.ok (.ret (.bool (lexLe ns ms)))) s):=
 .of_wp λ prog w A R s h=>by
  obtain⟨hp,g,d,tk,os⟩:=s;obtain⟨hl,hb,h⟩:=h;have f2:=zFa;have z1:items.size=ns.length:=by rw[<-hi.length];simp
  have z2:items2.size=ms.length:=by rw[<-hj.length];simp
  wp_walk using zEc hl,zEc hb,wpAny_forIn_list _ (λ rest b s'=>b.1=none/\s'=⟨hp,g,d,tk,os⟩/\∃(vs ws:List Value) (ns' ms':List Int),rest=vs.zip ws/\
   zBD vs ns'/\zBD ws ms'/\ns'.length+items2.size=ms'.length+items.size/\R (.ok (.ret (.bool (lexLe ns' ms')))) ⟨hp,g,d,tk,os⟩) _
  case turn=>
   rintro⟨y,x⟩ rest b s' ⟨hb',rfl,vs,ws,ns',ms',hz,hvi,hwi,hlen,hR⟩;cases hvi with
   |nil=>rw[zIP]at hz;cases hz
   |cons a t hvi'=>
    cases hwi with
    |nil=>rw[zHy]at hz;cases hz
    |cons c u hwi'=>
     rw[zBM]at hz;injection hz with hyx hrest
     injection hyx with hy hx
     subst hy hx;rw[aE7]at hR;simp only[zAY]at hlen;obtain⟨e,he,hiff⟩:=aD0 A.in1 ⟨hp,g,d,tk,os⟩ a t c u;refine zAD (he prog w _ _ ?_);cases e with
     |true=>
      rw[if_pos (hiff.mp rfl)]at hR;wp_walk;exact⟨rfl,rfl,_,_,_,_,hrest,hvi',hwi',by lia,hR⟩
     |false=>
      rw[if_neg (λ q=>absurd (hiff.mpr q) zA3)]at hR;have hri:=aHc A.in1 ⟨hp,g,d,tk,os⟩ a t c u prog w;wp_walk using hri;exact⟨_,rfl,by simpa using hR⟩
  case fin=>
   rintro⟨b1,b2⟩ s' ⟨hb',rfl,vs,ws,ns',ms',hz,hvi,hwi,hlen,hR⟩;simp only at hb';subst hb';have hv:lexLe ns' ms'=decide (items.size<=items2.size):=by
    cases hvi with
    |nil=>
     simp only[zBz]at hlen;have e:lexLe [] ms'=true:=by cases ms'<;>rfl
     rw[e];exact(decide_eq_true (by lia)).symm
    |cons a t hv=>
     cases hwi with
     |nil=>
      simp only[zBz,zAY]at hlen;show false=_;exact(decide_eq_false (by lia)).symm
     |cons c u hw=>
      rw[zBM]at hz;cases hz
   rw[hv]at hR;wp_walk;exact⟨_,rfl,by simpa[zDy]using hR⟩
  case h=>
   exact⟨rfl,rfl,items.toList,items2.toList,ns,ms,rfl,hi,hj,by lia,h⟩
end
section
variable{prog:zA2}{w:World}{A:zAe}{E:Value->zAF->Prop}{s:zAF}
theorem aE8(hl:IsTup s.heap l items)(hb:IsTup s.heap b items2)(hi:zBD items.toList ns)(hj:zBD items2.toList ms)
  (hu:A.units<cLine)(h:Q (.bool (lexLe ns ms)) s):wpAny (model prog w) A (zAr .LtE (.ref l) (.ref b)) Q E s:=by
 obtain⟨⟨cls,dd,data,sl⟩,ho,hc,n,hd⟩:=id hl;obtain⟨⟨cls2,dd2,data2,sl2⟩,ho2,hc2,n2,hd2⟩:=id hb;simp only at hc hd hc2 hd2;subst hc hd hc2 hd2;exact zIX (op:=.LtE) ⟨_,ho,rfl⟩ ⟨_,ho2,rfl⟩ PySem.F.slot_tuple_le PySem.F.entry_tuple_le (PySem.F.args_tuple_le_2 _ _) (zj l b items items2 n n2 dd dd2 sl sl2 ns ms hi hj)
  ⟨ho,ho2,show zEK (lexLe ns ms)≠zHb/\Q (.bool (lexLe ns ms)) s from⟨(λ x=>nomatch x),h⟩⟩ hu
theorem aJU{ws:List Value}(ht:IsTup s.heap t #[])(hb:IsTup s.heap b ws.toArray)(h1:Q (.ref b) s):wpAny (model prog w) A (zCK .Add (.ref t) (.ref b)) Q E s:=by
 obtain⟨⟨cls,dd,data,sl⟩,ho,hc,n,hd⟩:=id ht;obtain⟨⟨cls2,dd2,data2,sl2⟩,ho2,hc2,n2,hd2⟩:=id hb;simp only at hc hd hc2 hd2;subst hc hd hc2 hd2;exact zIi ⟨_,ho,rfl⟩ ⟨_,ho2,rfl⟩ zHR zIH zDl zD9 (zD4 _ _)
   (tuple_addW0 t b #[] ws.toArray n n2 dd dd2 sl sl2 (by simp)) ⟨ho,ho2,h1⟩
end
end HT
namespace L2
open PySem PySem.Spec PyProof.Rows
def aKj(t T:String):Bool:=decide (t=T)||(decide (t="bool")&&decide (T="int"))
theorem aKg{K:zAA}(ht:t∈["NoneType","bool","int","str","list","tuple","dict"])(hT:T∈["bool","int","str","list","tuple","dict"]):
  zBd K (.type t) (.type T)=some (aKj t T):=by
 simp only[zAN,zBp,or_false]at ht hT;rcases ht with rfl|rfl|rfl|rfl|rfl|rfl|rfl<;>rcases hT with rfl|rfl|rfl|rfl|rfl|rfl<;>kernel_rfl
def rH(t T:String)(b:Bool):Bool:=decide (t∈["NoneType","bool","int","str","list","tuple","dict"])&&decide (T∈["bool","int","str","list","tuple","dict"])&&(aKj t T==b)
theorem aEe{K:zAA}(h:rH t T b=true):zBd K (.type t) (.type T)=some b:=by
 unfold rH at h;rw[zAK,zAK]at h;rw[aKg (of_decide_eq_true h.1.1) (of_decide_eq_true h.1.2),zDb h.2]
theorem bZ(h:H p=none)(o:HO):aY H (upd H p o):=λ b u q=>by rw[aj (bc q h)];exact q
section
variable{X:Cx}
def aOz(K:zAA):List V->Hp->VK->Prop:=λ xs H Q=>∃x T t b,xs=[x,.ty T]/\vY K H x (.type t)/\rH t T b=true/\Q (.bl b) H
theorem nW:dD X (.builtin "isinstance") (aOz X.K):=by
 intro pins s σ H xs us Q I r h;obtain⟨x,T,t,b,rfl,ty,ok,q⟩:=h;obtain⟨u,w',rfl,r1,r2⟩:=vals2 r;obtain rfl:w'=zCj T:=r2;exact aGa I r1 ty (aEe ok) λ tk=>⟨.bl b,H,I.tok tk,rfl,q⟩
def aKA(K:zAA):R2:=λ x y H Q=>∃a b ns ms,x= .ref a/\y= .ref b/\SqT K H a (ns.map V.int)/\SqT K H b (ms.map V.int)/\Q (.bl (HT.lexLe ns ms)) H
theorem aNA(hu:X.A.units<cLine):OpR X (zAr .LtE) (aKA X.K):=by
 intro pins s σ H x y v u Q I rx ry h;obtain⟨a,b,ns,ms,rfl,rfl,ha,hb,q⟩:=h;cases rx;cases ry;obtain⟨its,r1,p1,_⟩:=I.tuple ha;obtain⟨its2,r2,p2,_⟩:=I.tuple hb;have i1:zBD its.toArray.toList ns:=intsAre_of r1;have i2:zBD its2.toArray.toList ms:=intsAre_of r2;exact HT.aE8 p1 p2 i1 i2 hu ⟨.bl (HT.lexLe ns ms),H,I,rfl,q⟩
theorem Inv.big'(I:Inv X pins σ H s):zCe<s.heap.objs.size:=by
 have h:zA4<s.heap.objs.size:=(I.mod.glob.keeps I.bk).lt;exact zFT (by decide) h
def aNq:TE:=λ _ H Q=>∀p,H p=none->Q (.ref p) (upd H p (.dK []))
theorem aKJ:PE X (.Dict [] [] pos) aNq:=λ pins s σ H Q I h=>
 wpAny_Dict_empty ⟨.ref s.heap.objs.size,_,I.laid (a:=s.heap.objs.size) (o:=.dK []) (t':=s.toks) (λ _ _ q=>zAC _ q) (zAS _)
  ⟨zA9 _,beq_eq_false_iff_ne.mpr (zDL (zA0 I.big')),[],.nil,Heap.DictOf.new s.heap⟩,rfl,h _ (I.hok.fresh (zAS _))⟩
end
def lw(l:Addr)(H H':Hp):Prop:=∀b o,b≠l->H b=some o->H' b=some o
theorem aY.sqt{K:zAA}(e:aY H H')(h:SqT K H a xs):SqT K H' a xs:=by
 rcases h with (h|⟨o,h⟩)|h
 ·exact .inl (.inl (e _ _ h))
 ·exact .inl (.inr ⟨o,e _ _ h⟩)
 ·exact .inr h
inductive D where
 |non|bl (b:Bool)|int (i:Int)|str (x:Str)|tup (l:List D)|lst (l:List D)|dct
mutual
inductive Rep(H:Hp):V->D->Prop where
 |non:Rep H .non .non
 |bl (b:Bool):Rep H (.bl b) (.bl b)
 |int (i:Int):Rep H (.int i) (.int i)
 |str (x:Str):Rep H (.str x) (.str x)
 |tup {a:Addr} {xs:List V} {ds:List D} (h:H a=some (.tup xs)) (r:gw H xs ds):Rep H (.ref a) (.tup ds)
 |lst {a:Addr} {xs:List V} {ds:List D} (h:H a=some (.lst xs)) (r:gw H xs ds):Rep H (.ref a) (.lst ds)
 |dct {a:Addr} (h:H a=some (.dK [])):Rep H (.ref a) .dct
inductive gw(H:Hp):List V->List D->Prop where
 |nil:gw H [] []
 |cons {x:V} {d:D} {xs:List V} {ds:List D} (h:Rep H x d) (r:gw H xs ds):gw H (x::xs) (d::ds)
end
mutual
theorem Rep.mono(s:aY H H'):∀{x:V} {d:D},Rep H x d->Rep H' x d
 |_,_,.non=>.non
 |_,_,.bl b=>.bl b
 |_,_,.int i=>.int i
 |_,_,.str x=>.str x
 |_,_,.tup h r=>.tup (s _ _ h) (gw.mono s r)
 |_,_,.lst h r=>.lst (s _ _ h) (gw.mono s r)
 |_,_,.dct h=>.dct (s _ _ h)
theorem gw.mono(s:aY H H'):∀{xs:List V} {ds:List D},gw H xs ds->gw H' xs ds
 |_,_,.nil=>.nil
 |_,_,.cons h r=>.cons (Rep.mono s h) (gw.mono s r)
end
theorem gw.length:∀{xs:List V} {ds:List D},gw H xs ds->xs.length=ds.length
 |_,_,.nil=>rfl
 |_,_,.cons _ r=>by rw[zAY,zAY,gw.length r]
theorem gw.get:∀{xs:List V} {ds:List D} {i:Nat} {x:V},gw H xs ds->xs[i]? =some x->∃d,ds[i]? =some d/\Rep H x d
 |_,_,_,_,.nil,e=>by simp at e
 |_,_,0,_,.cons h _,e=>by simp at e;subst e;exact⟨_,rfl,h⟩
 |_,_,i+1,x,.cons _ r,e=>by
  obtain⟨d,h1,h2⟩:=gw.get (i:=i) (x:=x) r (by simpa using e);exact⟨d,by simpa using h1,h2⟩
def tyD:D->String
 | .non=>"NoneType"| .bl _=>"bool"| .int _=>"int"| .str _=>"str"| .tup _=>"tuple"| .lst _=>"list"| .dct=>"dict"
theorem PE.weaken(h:PE X e t)(imp:∀σ H Q,t' σ H Q->t σ H Q):PE X e t':=λ pins s σ H Q I q=>h pins s σ H Q I (imp σ H Q q)
theorem OpR.weaken(h:OpR X f r)(imp:∀x y H Q,r' x y H Q->r x y H Q):OpR X f r':=λ pins s σ H x y v u Q I rx ry q=>h pins s σ H x y v u Q I rx ry (imp x y H Q q)
def New(H:Hp)(o:HO)(Q:VK):Prop:=∀p H',aY H H'->H' p=some o->H p=none->Q (.ref p) H'
theorem New.at(n:New H o Q)(hp:H p=none):Q (.ref p) (upd H p o):=n p _ (bZ hp o) bH hp
section
variable{X:Cx}{e:Expr}{es:List Expr}{te:TE}{t:TA}{pos:Pos}
def aNm(t:TA):TE:=λ σ H Q=>t σ H λ xs H1=>xs.length<=zAW/\New H1 (.tup xs) Q
def aHD(t:TA):TE:=λ σ H Q=>t σ H λ xs H1=>xs.length<=zAW/\New H1 (.lst xs) Q
theorem aKI{x1}(h:PA X es t):PE X (.Tuple es x1 pos) (aNm t):=by
 have h':PA X es (λ σ H Q=>∃R:List V->Hp->Prop,t σ H R/\∀xs H',R xs H'->Q xs H'):=by
  intro pos pins s σ H Q I ⟨R,q,imp⟩;exact thn (h pos pins s σ H R I q) λ us s' ⟨vs,H',I',r,q'⟩=>⟨vs,H',I',r,imp _ _ q'⟩
 exact(aMa h').weaken λ σ H Q q=>⟨_,q,λ xs H' ⟨z,n⟩=>⟨z,λ p hp=>n.at hp⟩⟩
theorem oW(h:PA X es t):PE X (.List es pos) (aHD t):=by
 have h':PA X es (λ σ H Q=>∃R:List V->Hp->Prop,t σ H R/\∀xs H',R xs H'->Q xs H'):=by
  intro pos pins s σ H Q I ⟨R,q,imp⟩;exact thn (h pos pins s σ H R I q) λ us s' ⟨vs,H',I',r,q'⟩=>⟨vs,H',I',r,imp _ _ q'⟩
 exact(aMe h').weaken λ σ H Q q=>⟨_,q,λ xs H' ⟨z,n⟩=>⟨z,λ p hp=>n.at hp⟩⟩
def aMI:TE:=λ _ H Q=>New H (.dK []) Q
theorem aIB:PE X (.Dict [] [] pos) aMI:=aKJ.weaken λ σ H Q n p hp=>n.at hp
def aHg:R2:=λ x y H Q=>∃l b xs zs,x= .ref l/\y= .ref b/\H l=some (.lst xs)/\H b=some (.lst zs)/\xs.length+zs.length<=zAW/\New H (.lst (xs++zs)) Q
theorem aBb:OpR X (zCK .Add) aHg:=aNE.weaken λ x y H Q ⟨l,b,xs,zs,e1,e2,h1,h2,z,n⟩=>⟨l,b,xs,zs,e1,e2,h1,h2,z,λ p hp=>n.at hp⟩
def yK:V->List V->Hp->VK->Prop:=λ x vs H Q=>∃l xs y,x= .ref l/\vs=[y]/\H l=some (.lst xs)/\xs.length<zAW/\∀H',lw l H H'->H' l=some (.lst (xs++[y]))->Q .non H'
theorem yZ:MtM X "list.append" yK:=λ pins s σ H x xs v us Q I rx rv ⟨l,ys,y,e1,e2,h,z,n⟩=>
 vJ pins s σ H x xs v us Q I rx rv ⟨l,ys,y,e1,e2,h,z,n _ (λ b o ne hb=>by rw[aj ne];exact hb) bH⟩
end
section
variable{X:Cx}{a b c:Expr}{ta tb:TE}{tt:TT}{pos:Pos}
end
def bF(scope:Scope)(env:Env):List (Str×Addr):=(scope.names.filterMap λ y=>if y.2== .free then(env.cells.lookup y.1).map λ c=>(y.1,c)else none).reverse
theorem zW(env:Env):∀(names:List (Str×zD3)) (acc:List (Str×Addr)),(∀y∈names,y.2= .free->∃c,env.cells.lookup y.1=some c)->
  (forIn names acc λ(x:Str×zD3) r=>if (x.2== .free)=true then do let c <-cellOf env x.1;pure (zB4 ((x.1,c)::r))else pure (zB4 r):Sem (List (Str×Addr)))=
   pure ((names.filterMap λ y=>if y.2== .free then(env.cells.lookup y.1).map λ c=>(y.1,c)else none).reverse++acc)
 |[],acc,_=>rfl
 |(n,k)::r,acc,h=>by
  rw[List.forIn_cons];have ih:=λ acc'=>zW env r acc' λ y hy=>h y (zAL _ hy)
  by_cases hk:k= .free
  ·subst hk
   obtain⟨c,hc⟩:=h (n,.free) zAI rfl;have hc':env.cells.lookup n=some c:=hc;simp only[beq_self_eq_true,if_true,cellOf,hc',zBS,zCm,List.reverse_cons,zBT,List.singleton_append];exact ih _
  ·have hb:(k==zBk)=false:=by simpa using hk
   simp only[hb,zAu,if_false,zBS];exact ih _
theorem jZ(h:∀y∈scope.names,y.2= .free->∃c,env.cells.lookup y.1=some c):zEi scope env=pure (bF scope env):=by
 have e:=zW env scope.names [] h;rw[zAi]at e;have e2:zEi scope env=((forIn scope.names ([]:List (Str×Addr)) λ(x:Str×zD3) r=>if (x.2== .free)=true then do let c <-cellOf env x.1;pure (zB4 ((x.1,c)::r))else pure (zB4 r):Sem (List (Str×Addr)))>>=λ r=>pure r):=rfl;rw[e2,e];rfl
theorem iM(h:(bF scope env).lookup x=some c):env.cells.lookup x=some c:=by
 have hm:=zAh h;unfold bF at hm;rw[zI8,zBs]at hm;obtain⟨y,hy,e⟩:=hm;split at e
 ·cases q:env.cells.lookup y.1 with
  |none=>rw[q]at e;cases e
  |some c'=>
   rw[q]at e;have e':=zAa e;injection e' with e1 e2
   subst e1 e2;exact q
 ·cases e
theorem uX(hx:scope.names.lookup x=some .free)(h:env.cells.lookup x=some c):(bF scope env).lookup x=some c:=by
 have hm:(x,zBk)∈scope.names:=zAh hx
 have:(x,c)∈bF scope env:=by
  unfold bF;rw[zI8,zBs];exact⟨_,hm,by simp[h]⟩
 cases q:(bF scope env).lookup x with
 |none=>
  exact absurd this (by
   intro hm'
   have:=List.lookup_eq_none_iff.mp q _ hm'
   simp at this)
 |some c'=>
  have:=iM q
  rw[h]at this;exact this.symm▸rfl
def wZ(scope:Scope)(C:Addr):List (Str×Addr):=zCn (C+1) scope.names []
theorem nU:∀(names:List (Str×zD3)) (n:Nat) (acc:List (Str×Addr)),zCn n names acc=zCn n names []++acc
 |[],_,_=>rfl
 |(x,k)::r,n,acc=>by
  unfold zCn;split
  ·rw[nU r (n+1) ((x,n)::acc),nU r (n+1) [(x,n)],zBT];rfl
  ·exact nU r n acc
theorem su:∀{names:List (Str×zD3)} {n:Nat} {x:Str} {c:Addr},(x,c)∈zCn n names []->(x,zDK)∈names
 |(y,k)::r,n,x,c,h=>by
  unfold zCn at h;split at h
  ·rename_i hk
   rw[nU,zAm]at h;rcases h with h|h
   ·exact zAL _ (su h)
   ·have e:=zA8.mp h
    cases e;rw[zDb hk];exact zAI
  ·exact zAL _ (su h)
 |[],_,_,_,h=>by cases h
theorem nH{l m:List (Str×Addr)}(h:(l++m).lookup x=some c):l.lookup x=some c\/(l.lookup x=none/\m.lookup x=some c):=by
 rw[zEg]at h;cases e:l.lookup x with
 |some c'=>rw[e]at h;exact .inl h
 |none=>rw[e]at h;exact .inr ⟨rfl,h⟩
theorem aF0{M:Model}{A:zAe}{E:Value->zAF->Prop}{s:zAF}{scope:Scope}{globals:Addr}{cl:List (Str×Addr)}{qual:Str}{env:Env}{Q:Env->zAF->Prop}
  (h:∀h':Heap,h'.Ns s.heap.objs.size (λ _=>none)->(∀b o,s.heap.get? b=some o->h'.get? b=some o)->CellsOk h' (s.heap.objs.size+1) (wZ scope s.heap.objs.size)->
   Q {scope:=scope,locals:=s.heap.objs.size,globals:=globals,cells:=wZ scope s.heap.objs.size++cl,qual:=qual,func:=none,code:=env.code,frame:=env.frame,builtins:=env.builtins} {s with heap:=h'}):
  wpAny M A (zEx scope globals cl [] qual none .none (some env)) Q E s:=by
 simp only[zEx,Option.isSome_some,if_true];refine zAD (wpAny_alloc ?_);refine zAD (wpAny_layCells _ (λ name kind cells=>by cases hkc:kind==zDK<;>simp[hkc]) _ _ _ _ ?_);have ok:=cellsFrom_ok scope.names (s.heap.push {cls:=.type "dict",data:=.dict #[]}) (s.heap.objs.size+1) [] ⟨λ _ _ hm=>(nomatch hm),zGF⟩ (by rw[zB8];exact zAS _);rw[zB8]at ok;rw[show({s with heap:=s.heap.push {cls:=.type "dict",data:=.dict #[]}}:zAF).heap.objs.size=s.heap.objs.size+1 from zB8 ..,nU];refine zAR ?_;exact h _ ((Heap.Ns.new s.heap (.type "dict")).keeps (pushCells_keeps _ _)) (λ b o e=>pushCells_keeps _ _ b o (zAC _ e)) ok
def Cx.block(X:Cx)(scope:Scope)(C:Addr)(N:List Str)(fp:List Addr)(s₀:zAF)(H₀:Hp):Cx:=
  {prog:=X.prog,w:=X.w,K:=X.K,mg:=X.mg,base:=X.base,A:=X.A,N:=N,s₀:=s₀,H₀:=H₀,env:=compEnvC scope (wZ scope C++bF scope X.env) C X.env,outer:=X.stack,stack:=X.stack,ex:=fp,
    fn:=λ x=>scope.names.lookup x==some .cell,calm:=X.calm,pn:=[],xe:=λ _ _=>False}
structure eU(X:Cx)(scope:Scope)(N:List Str)(st:St->St)(ks:List Nat):Prop where
 kind:scope.kind= .function
 sep:∀y∈scope.names,y.2= .cell->scope.names.lookup y.1=some .cell
 loc:∀y∈scope.names,y.2= .local->scope.names.lookup y.1=some .local
 free:∀y∈scope.names,y.2= .free->X.env.kindOf y.1=some .cell\/X.env.kindOf y.1=some .free
 len:∀σ,(st σ).length=N.length
 val:∀σ (i:Nat) x v,N[i]? =some x->(st σ)[i]? =some (some v)->scope.names.lookup x=some .free/\i∉ks/\∃j:Nat,X.N[j]? =some x/\σ[j]? =some (some v)
theorem aB5(h:(zGc scope env).names.lookup x=some .cell\/(zGc scope env).names.lookup x=some .free):scope.names.lookup x=some .free\/scope.names.lookup x=some .cell:=by
 have go:∀names:List (Str×zD3),((names.map λ(n,k)=>if (k==zBk&&env.scope.kind== .function&&env.kindOf n==some .cell)then(n,zDK)else(n,k)).lookup x=some .cell\/
   (names.map λ(n,k)=>if (k==zBk&&env.scope.kind== .function&&env.kindOf n==some .cell)then(n,zDK)else(n,k)).lookup x=some .free)->names.lookup x=some .free\/names.lookup x=some .cell:=by
  intro names;induction names with
  |nil=>intro h;simp at h
  |cons y r ih=>
   obtain⟨n,k⟩:=y;intro h;rw[zAG]at h;by_cases hx:x==n
   ·rw[zAk,hx]
    show some k=some .free\/some k=some .cell;by_cases hcc:(k==zBk&&env.scope.kind== .function&&env.kindOf n==some .cell)=true
    ·rw[zAK,zAK]at hcc
     rw[zDb hcc.1.1];exact .inl rfl
    ·simp only[if_neg hcc,zAk,hx]at h
     exact h.elim .inr .inl
   ·have hx':(x==n)=false:=by simpa using hx
    rw[zAk,hx'];refine ih ?_;by_cases hcc:(k==zBk&&env.scope.kind== .function&&env.kindOf n==some .cell)=true
    ·simp only[if_pos hcc,zAk,hx']at h
     exact h
    ·simp only[if_neg hcc,zAk,hx']at h
     exact h
 exact go scope.names h
theorem aB6(h:scope.names.lookup x=some .free):(zGc scope env).names.lookup x=some .cell\/(zGc scope env).names.lookup x=some .free:=by
 have go:∀names:List (Str×zD3),names.lookup x=some .free->((names.map λ(n,k)=>if (k==zBk&&env.scope.kind== .function&&env.kindOf n==some .cell)then(n,zDK)else(n,k)).lookup x=some .cell\/
   (names.map λ(n,k)=>if (k==zBk&&env.scope.kind== .function&&env.kindOf n==some .cell)then(n,zDK)else(n,k)).lookup x=some .free):=by
  intro names;induction names with
  |nil=>intro h;simp at h
  |cons y r ih=>
   obtain⟨n,k⟩:=y;intro h;rw[zAG];by_cases hx:x==n
   ·rw[zAk,hx]at h
    have hk:k= .free:=zAa h;by_cases hcc:(k==zBk&&env.scope.kind== .function&&env.kindOf n==some .cell)=true
    ·simp only[if_pos hcc,zAk,hx]
     exact .inl trivial
    ·simp only[if_neg hcc,zAk,hx]
     exact .inr (by rw[hk])
   ·have hx':(x==n)=false:=by simpa using hx
    rw[zAk,hx']at h;by_cases hcc:(k==zBk&&env.scope.kind== .function&&env.kindOf n==some .cell)=true
    ·simp only[if_pos hcc,zAk,hx']
     exact ih h
    ·simp only[if_neg hcc,zAk,hx']
     exact ih h
 exact go scope.names h
section
variable{X:Cx}{pins:List (Addr×Obj)}{σ:St}{H H':Hp}{s:zAF}
theorem Inv.block{st:St->St}{D C:Addr}(I:Inv X pins σ H s)(B:eU X scope N st ks)
  (hfp:∀b∈fp,tE X pins H b)(hob:∀b∈fp,∃ob,s.heap.get? b=some ob)
  (hD:s.heap.objs.size<=D)(hC:s.heap.objs.size<=C)(hDC:D≠C)(keep:∀b u,s.heap.get? b=some u->h'.get? b=some u)(hns:h'.Ns C λ _=>none)(hcs:CellsOk h' (C+1) (wZ scope C))(hDo:∀c,C<c->D≠c)(hacc:cj X.prog X.w (upd H D o) h' D o):
  Inv (X.block scope C N fp s H) [] (st σ) (upd H D o) {s with heap:=h',toks:=tk}:=by
 have hHD:H D=none:=I.hok.fresh hD;have hcl:∀x c,(bF scope X.env).lookup x=some c->X.env.cells.lookup x=some c:=λ x c e=>iM e
 have hol:∀x c,(wZ scope C).lookup x=some c->C<c/\h'.IsCell c none:=λ x c e=>let⟨q1,q2⟩:=hcs.empty x c (zAh e);⟨q2,q1⟩
 have hlt:∀x c,(bF scope X.env).lookup x=some c->c<s.heap.objs.size:=λ x c e=>let⟨v,ic⟩:=I.cell x c (hcl x c e);ic.lt
 have hfresh:∀b∈fp,b<s.heap.objs.size:=λ b hb=>by
  obtain⟨ob,e⟩:=hob b hb;exact zAQ e
 refine⟨⟨I.mod,?_,I.ok.glob,I.ok.blt,hC,λ x y c e1 e2=>?_,λ x hx=>?_,λ x c hf e=>?_,I.ok.hd,I.ok.frames,.inl rfl,λ b hb=>⟨?_,λ x c e z=>?_⟩,
  I.bs,?_,λ b ob e hb=>?_,λ b hb hs=>?_,I.stack,I.stkFree⟩,rfl,I.bare,Un.laid keep hD hHD,⟨_,hns,λ i x v e1 e2 hv=>?_⟩,λ x c e=>?_,?_,λ x c e=>?_,λ p hp=>absurd (show p∈([]:List (Addr×Obj))from hp) (by simp),I.hok.laid keep hD hacc,B.len σ,λ p hp=>absurd (show p∈([]:List (Addr×Obj))from hp) (by simp)⟩
 ·show(zGc scope X.env).kind= .function
  exact B.kind
 ·rcases nH e1 with a1|⟨_,a1⟩<;>rcases nH e2 with a2|⟨_,a2⟩
  ·exact PySem.name_of_addr hcs.apart (zAh a1) (zAh a2)
  ·exact absurd (hlt y c a2) (zFB.mpr (zAg hC (zBX (hol x c a1).1)))
  ·exact absurd (hlt x c a1) (zFB.mpr (zAg hC (zBX (hol y c a2).1)))
  ·exact I.ok.inj x y c (hcl x c a1) (hcl y c a2)
 ·show∃c,(wZ scope C++bF scope X.env).lookup x=some c
  rw[zEg];cases e:(wZ scope C).lookup x with
  |some c=>exact⟨c,rfl⟩
  |none=>
   rcases aB5 hx with hfree|hcell
   ·obtain⟨c,hc⟩:=I.ok.has x (B.free (x,.free) (zAh hfree) rfl)
    exact⟨c,uX hfree hc⟩
   ·obtain⟨c,hc⟩:=uY (n:=C+1) hcell
    rw[show(wZ scope C).lookup x=some c from hc]at e;cases e
 ·rcases nH e with a1|⟨a0,_⟩
  ·exact zAg hC (zBX (hol x c a1).1)
  ·obtain⟨c',hc'⟩:=uY (n:=C+1) (zDb hf)
   rw[show(wZ scope C).lookup x=some c' from hc']at a0;cases a0
 ·exact zA0 (zAU (hfresh b hb) hC)
 ·rcases nH e with a1|⟨_,a1⟩
  ·exact absurd (hfresh b hb) (zFB.mpr (by rw[<-z];exact zAg hC (zBX (hol x c a1).1)))
  ·exact(hfp b hb).2.2.2.2.1 x c (hcl x c a1) z
 ·exact zAg I.ok.bsz I.sz
 ·rcases(hfp b hb).2.2.2.1 with z|z
  ·exact I.ok.noex b ob e z
  ·exact absurd (zAU (zAQ (I.ok.bs b ob e).1) z) (zBP _)
 ·rcases zAN.mp (I.stkSub b hs)with z|z
  ·exact(hfp b hb).2.1 z
  ·exact(hfp b hb).2.2.1 z
 ·obtain⟨hfree,_,j,f1,f2⟩:=B.val σ i x v e1 e2
  obtain⟨m,hn,hl⟩:=I.loc;have hk:=B.free (x,.free) (zAh hfree) rfl;obtain⟨u,ru,hu⟩:=hl j x v f1 f2 (hk.elim (λ z=>.inr (.inl z)) λ z=>.inr (.inr z));rcases hu with ⟨k,_⟩|⟨_,c,ec,ic⟩
  ·rcases hk with z|z
   ·exact absurd (k.symm.trans z) (by decide)
   ·exact absurd (k.symm.trans z) (by decide)
  ·have hno:(wZ scope C).lookup x=none:=by
    cases e:(wZ scope C).lookup x with
    |none=>rfl
    |some c'=>
     have:=B.sep _ (su (zAh e)) rfl
     rw[hfree]at this;cases this
   refine⟨u,ru,.inr ⟨?_,c,by show(wZ scope C++bF scope X.env).lookup x=some c;rw[zEg,hno];exact uX hfree ec,ic.keeps keep⟩⟩;rcases hv with z|z|z
   ·have z':(zGc scope X.env).names.lookup x=some .local:=z
    rcases aB6 (env:=X.env) hfree with y|y
    ·exact absurd (z'.symm.trans y) (by decide)
    ·exact absurd (z'.symm.trans y) (by decide)
   ·exact .inl z
   ·exact .inr z
 ·rcases nH e with a1|⟨_,a1⟩
  ·exact⟨_,(hol x c a1).2⟩
  ·obtain⟨v,ic⟩:=I.cell x c (hcl x c a1)
   exact⟨v,ic.keeps keep⟩
 ·show upd H D o C=none
  rw[aj (zDL hDC)];exact I.hok.fresh hC
 ·show upd H D o c=none
  rcases nH e with a1|⟨_,a1⟩
  ·rw[aj (zDL (hDo c (hol x c a1).1))]
   exact I.hok.fresh (zAg hC (zBX (hol x c a1).1))
  ·obtain⟨v,ic⟩:=I.cell x c (hcl x c a1)
   rw[aj (zA0 (zAU ic.lt hD))];exact I.freeC x c (hcl x c a1)
end
section
variable{prog:zA2}{w:World}{A:zAe}{R:zE8->zAF->Prop}{s:zAF}
theorem aCG(I:Nat->zAF->Prop)
  (turn:∀n s,I n s->wpAny (model prog w) A (zEy it) (λ r s₁=>match r with
   |none=>R (.ok .next) s₁
   |some v=>wpAny (model prog w) A (zDH target it v) (λ _ s₁=>wpAny (model prog w) A (zEB target env v) (λ _ s₂=>
     wpAny (model prog w) A (forIn ifs true λ c r=>if r=true then do let ok <-isTrue c env (eval c env);pure (zB4 ok)else pure (zB4 r)) (λ ok s₃=>
      if ok=true then wpAny (model prog w) A (eval elt env) (λ x s₄=>
       wpAny (model prog w) A (call (.builtin "list.append") [acc,x]) (λ _ s₅=>∃m,m<n/\I m s₅) (λ _ _=>False) s₄) (λ _ _=>False) s₃
      else∃m,m<n/\I m s₃) (λ _ _=>False) s₂) (λ _ _=>False) s₁) (λ _ _=>False) s₁) (λ _ _=>False) s)
  (n:Nat)(h:I n s):zBq (model prog w) A (.compLoop (.ListComp elt [⟨target,iter,ifs,0⟩] scope pos) 0 it acc env) R s:=by
 refine codeAny_loop rfl I (λ n s hI=>?_) n h;show wpAny _ A ((zIE (.ListComp elt [⟨target,iter,ifs,0⟩] scope pos) 0 it acc env).onRaise (λ x=>do noteFrame x env;theTreesLotGoes x)) _ _ s;refine wpAny_noted ?_;rw[compTurn_list];refine zAD (zCg (zAD (zAy (turn n s hI) (λ r s₁ h₁=>?_) λ _ _ h'=>h'.elim)));cases r with
 |none=>exact zAR h₁
 |some v=>
  refine zAD (zAy h₁ (λ _ s₁ h₁=>?_) λ _ _ h'=>h'.elim);refine zAD (zAy h₁ (λ _ s₂ h₂=>zAD (zAy h₂ (λ ok s₃ h₃=>?_) λ _ _ h'=>h'.elim)) λ _ _ h'=>h'.elim);cases ok with
  |false=>exact zAR ⟨rfl,h₃⟩
  |true=>
   exact zAD (zAD (zAy h₃ (λ x s₄ h₄=>zAD (zAy h₄ (λ _ s₅ h₅=>zAR (zAR ⟨rfl,h₅⟩)) λ _ _ h'=>h'.elim)) λ _ _ h'=>h'.elim))
end
def mU(g:TG)(ks:List Nat):Prop:=∀v σ H (Q:St->Hp->Prop),g v σ H Q->g v σ H (λ σ' H'=>Q σ' H'/\σ'.length=σ.length/\∀k,k∉ks->σ'[k]? =σ[k]?)
def zb(g:TGs)(ks:List Nat):Prop:=∀vs σ H (Q:St->Hp->Prop),g vs σ H Q->g vs σ H (λ σ' H'=>Q σ' H'/\σ'.length=σ.length/\∀k,k∉ks->σ'[k]? =σ[k]?)
theorem aKw(h:i∈ks):mU (rK i) ks:=λ v σ H Q q=>⟨q,zBA,λ k hk=>zBK (λ(e:i=k)=>hk (e▸h))⟩
theorem aKv:zb aN2 ks:=λ vs σ H Q ⟨e,q⟩=>⟨e,q,rfl,λ _ _=>rfl⟩
def zc(g:TG):Prop:=∀v σ H (Q Q':St->Hp->Prop),(∀σ' H',Q σ' H'->Q' σ' H')->g v σ H Q->g v σ H Q'
def vZ(g:TGs):Prop:=∀v σ H (Q Q':St->Hp->Prop),(∀σ' H',Q σ' H'->Q' σ' H')->g v σ H Q->g v σ H Q'
theorem aKy:zc (rK i):=λ v σ H Q Q' imp q=>imp _ _ q
theorem aKx:vZ aN2:=λ v σ H Q Q' imp ⟨e,q⟩=>⟨e,imp _ _ q⟩
theorem aJF(h1:zc t)(h2:vZ u):vZ (aJH t u):=λ vs σ H Q Q' imp ⟨v,r,e,q⟩=>⟨v,r,e,h1 _ _ _ _ _ (λ σ' H' q'=>h2 _ _ _ _ _ imp q') q⟩
theorem aJB(h1:mU t ks)(m1:zc t)(h2:zb u ks)(m2:vZ u):zb (aJH t u) ks:=λ vs σ H Q ⟨v,r,e,q⟩=>
 ⟨v,r,e,m1 _ _ _ _ _ (λ σ' H' ⟨q',l',k'⟩=>m2 _ _ _ _ _ (λ σ2 H2 ⟨q2,l2,k2⟩=>⟨q2,l2.trans l',λ k hk=>(k2 k hk).trans (k' k hk)⟩) (h2 _ _ _ _ q')) (h1 _ _ _ _ q)⟩
theorem aN0{K:zAA}(h:zb t ks):mU (aKz K n t) ks:=λ v σ H Q ⟨a,xs,e1,e2,e3,q⟩=>⟨a,xs,e1,e2,e3,h _ _ _ _ q⟩
theorem aN1{K:zAA}(h:vZ t):zc (aKz K n t):=λ v σ H Q Q' imp ⟨a,xs,e1,e2,e3,q⟩=>⟨a,xs,e1,e2,e3,h _ _ _ _ _ imp q⟩
def aCR(X:Cx)(ifs:List Expr)(t:TT):Prop:=
 ∀(pins:List (Addr×Obj)) (s:zAF) (σ:St) (H:Hp) (Q:Bool->Hp->Prop),Inv X pins σ H s->t σ H Q->
  wpAny (model X.prog X.w) X.A (forIn ifs true λ c r=>if r=true then do let ok <-isTrue c X.env (eval c X.env);pure (zB4 ok)else pure (zB4 r)) (TP X pins σ Q) X.xe s
def aOo:TT:=λ _ H Q=>Q true H
theorem aM9:aCR X [] aOo:=λ _ _ _ H _ I h=>wpAny_tests_nil ⟨H,I,h⟩
theorem aM8(h:PT X c t):aCR X [c] t:=λ pins s σ H Q I q=>wpAny_tests_one (h pins s σ H Q I q)
def tLC(wi:TI)(st:St->St)(g:TG)(tt:TT)(te:TE):TE:=λ σ H Q=>wi σ H λ J H1=>∀l,H1 l=none->∃W:Nat->Nat->List V->Hp->Prop,(∃m,W 0 m [] (upd H1 l (.lst [])))/\
 ∀i m acc H2,W i m acc H2->H2 l=some (.lst acc)/\acc.length<zAW/\((J.stop i H2/\Q (.ref l) H2)\/(J.go i H2/\∀x H3,J.yld i H2 x H3->g x (st σ) H3 λ σ4 H4=>tt σ4 H4 λ ok H5=>
  if ok=true then te σ4 H5 λ y H6=>H6 l=some (.lst acc)/\∃m',m'<m/\W (i+1) m' (acc++[y]) (upd H6 l (.lst (acc++[y])))else∃m',m'<m/\W (i+1) m' acc H5))
section
variable{X:Cx}{elt tg iter:Expr}{ifs:List Expr}{scope:Scope}{pos:Pos}{N:List Str}{st:St->St}{ks:List Nat}{wi:TI}{g:TG}{tt:TT}{te:TE}
theorem aDI(B:eU X scope N st ks)(hc:X.calm=true)(hg:∀C fp s₀ H₀,PG (X.block scope C N fp s₀ H₀) tg g)(hgo:mU g ks)(ht:∀C fp s₀ H₀,aCR (X.block scope C N fp s₀ H₀) ifs tt)
  (he:∀C fp s₀ H₀,PE (X.block scope C N fp s₀ H₀) elt te){H1:Hp}{Q:VK}{RR:Value->Addr->zE8->zAF->Prop}
  (I:Inv X pins σ H1 s₂)(T:Turn X.prog X.w X.K tg J fp it tn)(h0:tn 0 s₂.heap)(hfp:∀b∈fp,tE X pins H1 b)
  (h:∀l,H1 l=none->∃W:Nat->Nat->List V->Hp->Prop,(∃m,W 0 m [] (upd H1 l (.lst [])))/\
   ∀i m acc H2,W i m acc H2->H2 l=some (.lst acc)/\acc.length<zAW/\((J.stop i H2/\Q (.ref l) H2)\/(J.go i H2/\∀x H3,J.yld i H2 x H3->g x (st σ) H3 λ σ4 H4=>tt σ4 H4 λ ok H5=>
    if ok=true then te σ4 H5 λ y H6=>H6 l=some (.lst acc)/\∃m',m'<m/\W (i+1) m' (acc++[y]) (upd H6 l (.lst (acc++[y])))else∃m',m'<m/\W (i+1) m' acc H5)))
  (hRR:∀D C H' s',(∃σ',Inv (X.block scope C N fp s₂ H1) [] σ' H' s')->s₂.heap.objs.size<=C->Q (.ref D) H'->RR (.ref D) C (.ok .next) s'):
  wpAny (model X.prog X.w) X.A (zGb []) (λ acc s₃=>wpAny (model X.prog X.w) X.A (zEx scope X.env.globals (bF scope X.env) [] X.env.qual none .none (some X.env)) (λ cenv s₄=>
   zBq (model X.prog X.w) X.A (.compStart (.ListComp elt [⟨tg,iter,ifs,0⟩] scope pos) 0 (.ref it) acc {cenv with scope:=zGc scope X.env}) (RR acc cenv.locals) s₄) E s₃) E s₂:=by
 refine zCP (aF0 λ h₁ hns₁ hold₁ hcs₁=>?_);dsimp only at hns₁ hold₁ hcs₁ ⊢;generalize hH2:s₂.heap.push {cls:=.type "list",dict:=none,data:=.seq ([]:List Value).toArray}=P2 at hns₁ hold₁ hcs₁ ⊢;have hC:P2.objs.size=s₂.heap.objs.size+1:=by rw[<-hH2,zB8]
 have hDC:s₂.heap.objs.size≠P2.objs.size:=by rw[hC];exact zA0 (zBt _)
 have hCle:s₂.heap.objs.size<=P2.objs.size:=by rw[hC];exact zCM _
 have old:∀b o,s₂.heap.get? b=some o->h₁.get? b=some o:=λ b o e=>hold₁ b o (hH2▸zAC _ e)
 have hacc:h₁.get? s₂.heap.objs.size=some {cls:=.type "list",dict:=none,data:=.seq ([]:List Value).toArray}:=hold₁ _ _ (hH2▸zAV _ rfl);generalize hCe:P2.objs.size=C at hns₁ hold₁ hcs₁ hDC hCle hC ⊢;have hHD:H1 s₂.heap.objs.size=none:=I.hok.fresh (zAS _);have I0:Inv (X.block scope C N fp s₂ H1) [] (st σ) (upd H1 s₂.heap.objs.size (.lst [])) {s₂ with heap:=h₁,toks:=s₂.toks}:=
  I.block B hfp (λ b hb=>by obtain⟨o,e,_⟩:=T.obj 0 _ h0 b hb;exact⟨o,e⟩) (zAS _) hCle hDC old hns₁ hcs₁ (λ c hc=>zA0 (zCx hCle hc)) ⟨zA9 _,[],0,.nil,hacc⟩
 obtain⟨W,⟨m0,w0⟩,step⟩:=h _ hHD;have h01:tn 0 h₁:=T.keep 0 _ _ h0 λ b _ o e=>old b o e
 have stat:∀{H':Hp},(∀b∈fp,H' b=none)->∀b∈fp,tE (X.block scope C N fp s₂ H1) [] H' b:=λ{H'} hn b hb=>
  ⟨hn b hb,(I0.ok.exf b hb).1,I0.ok.exfs b hb,.inl hb,λ x c e=>(I0.ok.exf b hb).2 x c e,λ p hp=>absurd (show p∈([]:List (Addr×Obj))from hp) (by simp)⟩
 have fr0:∀b∈fp,upd H1 s₂.heap.objs.size (.lst []) b=none:=λ b hb=>by
  obtain⟨o,e,_⟩:=T.obj 0 _ h0 b hb;rw[aj (zA0 (zAQ e))];exact(hfp b hb).1
 have loop:∀s₃:zAF,s₃={s₂ with heap:=h₁,toks:=s₂.toks}->
   zBq (model X.prog X.w) X.A (.compLoop (.ListComp elt [⟨tg,iter,ifs,0⟩] scope pos) 0 (.ref it) (.ref s₂.heap.objs.size) (X.block scope C N fp s₂ H1).env) (RR (.ref s₂.heap.objs.size) C) s₃:=by
  rintro s₃ rfl;refine aCG (λ n s'=>∃i acc H2,Inv (X.block scope C N fp s₂ H1) [] (st σ) H2 s'/\tn i s'.heap/\(∀b∈fp,H2 b=none)/\W i n acc H2) ?_ m0 ⟨0,[],_,I0,h01,fr0,w0⟩;rintro n s3 ⟨i,acc,H2,I2,st2,fr2,w2⟩;obtain⟨hl,hz,alt⟩:=step i n acc H2 w2;rcases alt with ⟨stop,q⟩|⟨go,nxt⟩
  ·refine thn (T.done (X.block scope C N fp s₂ H1) rfl rfl rfl hc i [] s3 (st σ) H2 _ I2 (stat fr2) st2 stop) λ r s4 ⟨hr,I4⟩=>?_
   subst hr;exact hRR _ C H2 s4 ⟨_,I4⟩ hCle q
  ·refine thn (T.item (X.block scope C N fp s₂ H1) rfl rfl rfl hc i [] s3 (st σ) H2 _ I2 (stat fr2) st2 go) λ r s4 ⟨u,hr,h4⟩=>?_
   subst hr;refine thn h4 λ _ s5 ⟨x,H5,I5,r5,y5,st5,fr5⟩=>?_
   have I5':=I5.pinned (stat fr5) (T.obj _ _ st5);refine thn (hg C fp s₂ H1 _ s5 (st σ) H5 x u _ I5' r5 (hgo _ _ _ _ (nxt x H5 y5))) λ _ s6 ⟨σ6,H6,I6,q6,aG1,ag6⟩=>?_
   refine thn (ht C fp s₂ H1 _ s6 σ6 H6 _ I6 q6) λ ok s7 ⟨H7,I7,q7⟩=>?_
   have again:∀{H9:Hp} {s9:zAF} {acc':List V},Inv (X.block scope C N fp s₂ H1) ([]++sU fp s5.heap) σ6 H9 s9->(∃m',m'<n/\W (i+1) m' acc' H9)->
     ∃m,m<n/\∃i acc H2,Inv (X.block scope C N fp s₂ H1) [] (st σ) H2 s9/\tn i s9.heap/\(∀b∈fp,H2 b=none)/\W i m acc H2:=λ{H9 s9 acc'} I9 ⟨m',hm,w9⟩=>by
    have pin9:∀b∈fp,∀o,s5.heap.get? b=some o->s9.heap.get? b=some o/\H9 b=none:=λ b hb o e=>by
     have z:=I9.pin (b,o) (zA6 _ (zA6 _ (lK hb e)));exact⟨z.1,z.2.1⟩
    refine⟨m',hm,i+1,acc',H9,I9.unpinned.weak (by rw[aG1]) (λ k v e=>?_),T.keep _ _ _ st5 λ b hb o e=>(pin9 b hb o e).1,λ b hb=>?_,w9⟩
    ·have hk:k<(st σ).length:=(zAH.mp e).1
     have hkN:k<N.length:=by rw[<-B.len σ];exact hk
     obtain⟨_,hks,_⟩:=B.val σ k _ v (zAB hkN) e;rw[ag6 k hks];exact e
    ·obtain⟨o,e,_⟩:=T.obj _ _ st5 b hb
     exact(pin9 b hb o e).2
   cases ok with
   |false=>
    rw[if_neg zA3]at q7 ⊢;exact again I7 q7
   |true=>
    rw[if_pos rfl]at q7 ⊢;refine thn (he C fp s₂ H1 _ s7 σ6 H7 _ I7 q7) λ u8 s8 ⟨y,H8,I8,r8,hl8,q8⟩=>?_
    refine thn (vJ _ s8 σ6 H8 (.ref s₂.heap.objs.size) [y] (.ref s₂.heap.objs.size) [u8] (λ _ H9=>H9=upd H8 s₂.heap.objs.size (.lst (acc++[y]))) I8 rfl (.cons r8 .nil) ⟨_,acc,y,rfl,rfl,hl8,hz,rfl⟩) λ _ s9 ⟨_,H9,I9,_,e9⟩=>?_
    subst e9;exact again I9 q8
 exact codeAny_compStart_list (loop _ rfl) (T.self X.A 0 _ _ _ h01 (loop _ rfl))
theorem aCN(I:Inv X pins σ H1 s₂)(hfp:∀b∈fp,tE X pins H1 b)(h:∃σ',Inv (X.block scope C N fp s₂ H1) [] σ' H' s'):Inv X pins σ H' s':=by
 obtain⟨σ',J⟩:=h;exact I.call' (ch:=fp) J.os J.base J.hok J.bare λ b hb=>⟨(hfp b hb).2.2.2.1,(hfp b hb).2.1,(hfp b hb).2.2.2.2.1,(hfp b hb).2.2.2.2.2⟩
theorem aON(B:eU X scope N st ks)(hc:X.calm=true)(hi:PI X tg iter wi)(hg:∀C fp s₀ H₀,PG (X.block scope C N fp s₀ H₀) tg g)(hgo:mU g ks)(ht:∀C fp s₀ H₀,aCR (X.block scope C N fp s₀ H₀) ifs tt)
  (he:∀C fp s₀ H₀,PE (X.block scope C N fp s₀ H₀) elt te)(hs:∀x,zAw iter X.env x=pure x:=by intro _;rfl):PE X (.ListComp elt [⟨tg,iter,ifs,0⟩] scope pos) (tLC wi st g tt te):=by
 intro pins s σ H Q I h;have hcl:zEi scope X.env=pure (bF scope X.env):=jZ λ y hy hk=>I.ok.has _ (B.free y hy hk)
 rw[eval_ListComp];refine zEC (use:=none) rfl hs hcl B.kind B.loc (thn (hi pins s σ H _ I h) λ v s1 h1=>thn h1 λ itv s2 h2=>?_);obtain⟨it,fp,tn,J,H2,e,I2,T,st2,f2,hq⟩:=h2;subst e;refine aDI (RR:=λ acc C=>compPost (model X.prog X.w) X.A X.xe none (EP X pins σ Q) acc C) B hc hg hgo ht he I2 T st2 f2 hq ?_;intro D C H' s' hJ hCle q;have I3:=aCN I2 f2 hJ;obtain⟨σ',J'⟩:=hJ;obtain⟨m,hn,_⟩:=id J'.loc;have hHC:H' C=none:=J'.free;refine⟨m,hn,λ h'' hs''=>⟨.ref D,H',?_,rfl,q⟩⟩;exact I3.turned (t':=s'.toks) (λ b o ne e=>(hs''.2 b ne).trans e) hHC (zCH (zAU I2.lt hCle)) (.inr (zAg I2.sz hCle))
  (λ x c e z=>by obtain⟨v,ic⟩:=I2.cell x c e;exact absurd (zAU ic.lt (by rw[z];exact hCle)) (zBP _))
  (λ p hp z=>absurd (zAU (I2.pinL hp) (by rw[z];exact hCle)) (zBP _))
theorem aCk(hN:X.N.Nodup)(hx1:X.N[i]? =some x)(hx2:Loc X.env.scope x)(B:eU X scope N st ks)(hc:X.calm=true)(hi:PI X tg iter wi)(hg:∀C fp s₀ H₀,PG (X.block scope C N fp s₀ H₀) tg g)(hgo:mU g ks)
  (ht:∀C fp s₀ H₀,aCR (X.block scope C N fp s₀ H₀) ifs tt)(he:∀C fp s₀ H₀,PE (X.block scope C N fp s₀ H₀) elt te)(hsw:zDI (.ListComp elt [⟨tg,iter,ifs,0⟩] scope pos) (some (.Name x pos')) spos.line X.env=pure true)
  (hs:∀x,zAw iter X.env x=pure x:=by intro _;rfl)(hf:X.fn x=true\/X.env.scope.names.lookup x=some .local:=by first|exact .inl rfl|exact .inr rfl|assumption):
  PS X (.Assign [.Name x pos'] (.ListComp elt [⟨tg,iter,ifs,0⟩] scope pos) spos) (aC0 (tLC wi st g tt te) (rK i)):=by
 intro pins s σ H D I h;have hcl:zEi scope X.env=pure (bF scope X.env):=jZ λ y hy hk=>I.ok.has _ (B.free y hy hk)
 rw[exec_Assign_Name_used _ _ _ _ hsw];refine zAD (zCg (zAD ?_));show wpAny _ _ (do let _ <-comprehension (.ListComp elt [⟨tg,iter,ifs,0⟩] scope pos) scope X.env _ (zGb []) false (eval iter X.env) (some (zEB (.Name x pos') X.env))) _ _ s;refine zAD (zAy (zEC (use:=some (zEB (.Name x pos') X.env)) (Q:=λ _ s'=>SP X pins D .next s') rfl hs hcl B.kind B.loc (thn (hi pins s σ H _ I h) λ v s1 h1=>thn h1 λ itv s2 h2=>?_)) (λ _ s' hq=>zAR (zAR hq)) λ _ _ e=>e);obtain⟨it,fp,tn,J,H2,e,I2,T,st2,f2,hq⟩:=h2;subst e;refine aDI (Q:=λ x H1=>rK i x σ H1 D.nx) (RR:=λ acc C=>compPost (model X.prog X.w) X.A X.xe (some (zEB (.Name x pos') X.env)) (λ _ s'=>SP X pins D .next s') acc C) B hc hg hgo ht he I2 T st2 f2 hq ?_;intro DD C H' s' hJ hCle q;have I3:=aCN I2 f2 hJ;obtain⟨σ',J'⟩:=hJ;obtain⟨m,hn,_⟩:=id J'.loc;have hHC:H' C=none:=J'.free;have neL:C≠X.env.locals:=zCH (zAU I2.lt hCle);have neC:∀x c,X.env.cells.lookup x=some c->c≠C:=λ x c e z=>by obtain⟨v,ic⟩:=I2.cell x c e;exact absurd (zAU ic.lt (by rw[z];exact hCle)) (zBP _)
 show wpAny _ _ (zEB (.Name x pos') X.env (.ref DD)) _ _ _;refine zJ1 ?_;refine aAY I3 hN hx1 hx2 (show RelV (.ref DD) (.ref DD)from rfl) (λ s4 I4 ⟨a,hsa,ha⟩=>?_) hf;have nea:C≠a:=by
  rcases ha with z|z
  ·rw[z];exact neL
  ·exact zDL (neC _ _ z)
 refine⟨m,hn.sameBut hsa nea,λ h'' hs''=>⟨_,H',?_,q⟩⟩;exact I4.turned (t':=s4.toks) (λ b o ne e=>(hs''.2 b ne).trans e) hHC neL (.inr (zAg I2.sz hCle)) neC
  (λ p hp z=>absurd (zAU (I2.pinL hp) (by rw[z];exact hCle)) (zBP _))
end
def CX1(P:zA2)(w:World):CXT:=λ outer H s E e s'=>∃(ea:Addr) (cls a0:Value) (B:Heap) (H':Hp),e= .ref ea/\s'.os=s.os/\zE5 s'.gens/\Un (frs outer) [] H H' s.heap s'.heap/\HOk P w H' B/\zJO B outer ea cls a0 s'.heap/\
 (∀b o,s.heap.get? b=some o->H b=none->b∉frs outer->B.get? b=some o)/\(∀b o,s.heap.get? b=some o->b∉frs outer->∃o',B.get? b=some o')/\E cls none H'
structure fJ(X:Cx)(E:XK):Prop where
 stk:X.stack=X.env::X.outer
 fr:X.env.frame=some X.env.locals
 ex:X.ex=[]
 xe:X.xe=λ e s'=>wpAny (model X.prog X.w) X.A (leaving X.env e) (λ _ s''=>CX1 X.prog X.w X.outer X.H₀ X.s₀ E e s'') (λ e' s''=>CX1 X.prog X.w X.outer X.H₀ X.s₀ E e' s'') s'
theorem fJ.of{K:zAA}:
  fJ (wj (CX1 P w) P w K mg base N qual scope f cd A outer s₀ H₀ E) E:=⟨rfl,rfl,rfl,rfl⟩
section
variable{X:Cx}{E:XK}
theorem aJJ{B h':Heap}(hX:X.ex=[])(I:Inv X pins σ H s)
  (a1:∀b o,s.heap.get? b=some o->H b=none->b∉frs X.stack->B.get? b=some o)(a2:∀b o,s.heap.get? b=some o->b∉frs X.stack->∃o',B.get? b=some o')
  (a3:B.StaysIn h')(a4:∀b o,b∈frs X.outer->s.heap.get? b=some o->H b=none->(∀vs,o.data≠.fields vs)->∃sl,h'.get? b=some {o with slots:=sl})
  (a5:∀b o,s.heap.get? b=some o->H b=none->H' b=none)(a6:∀b xs,H b=some (.tup xs)->H' b=some (.tup xs))(a7:∀b o u,H b=some (.frz o u)->H' b=some (.frz o u))(a8:∀b ps,H b=some (.tbl ps)->∃more,H' b=some (.tbl (ps++more))):
  Un (frs X.outer) [] X.H₀ H' X.s₀.heap h'/\(∀b o,X.s₀.heap.get? b=some o->X.H₀ b=none->b∉frs X.outer->B.get? b=some o)/\(∀b o,X.s₀.heap.get? b=some o->b∉frs X.outer->∃o',B.get? b=some o'):=by
 have nx:∀b,b∉X.ex:=λ b z=>by rw[hX]at z;cases z
 have noS:∀b o,X.s₀.heap.get? b=some o->b∉frs X.outer->b∉frs X.stack:=λ b o e nf hb=>by
  rcases zAN.mp (I.stkSub b hb)with z|z
  ·exact absurd z (zA0 (zAU (zAQ e) I.ok.above))
  ·exact nf z
 have bk:∀b o,X.s₀.heap.get? b=some o->X.H₀ b=none->b∉frs X.outer->B.get? b=some o:=λ b o e n nf=>
  a1 b o (I.base.keep b o e n nf (nx b)) (I.base.free b o e n (nx b)) (noS b o e nf)
 have ba:∀b o,X.s₀.heap.get? b=some o->b∉frs X.outer->∃o',B.get? b=some o':=λ b o e nf=>by
  obtain⟨o1,e1⟩:=I.base.there b o e (nx b);exact a2 b o1 e1 (noS b o e nf)
 have sl:∀b o,X.s₀.heap.get? b=some o->X.H₀ b=none->b∈frs X.outer->∃sl,h'.get? b=some {o with slots:=sl}:=λ b o e n hb=>by
  obtain⟨sl1,e1⟩:=I.base.slot b o e n hb (nx b);obtain⟨_,o2,ho2,hnf⟩:=I.ok.funs.mem hb;rw[e]at ho2;cases ho2;obtain⟨sl2,e2⟩:=a4 b _ hb e1 (I.base.free b o e n (nx b)) hnf;exact⟨sl2,e2⟩
 refine⟨⟨λ b o e n nf _=>a3 b o (bk b o e n nf),λ b o e n hb _=>sl b o e n hb,λ b o e n _=>?_,λ b o e _=>?_,λ b xs e=>a6 b xs (I.base.tups b xs e),λ b o u e=>a7 b o u (I.base.frzs b o u e),λ b ps e=>?_⟩,bk,ba⟩
 ·obtain⟨o1,e1⟩:=I.base.there b o e (nx b)
  exact a5 b o1 e1 (I.base.free b o e n (nx b))
 ·by_cases hb:b∈frs X.outer
  ·obtain⟨s2,e2⟩:=sl b o e (I.ok.frf b hb) hb
   exact⟨_,e2⟩
  ·obtain⟨o',e'⟩:=ba b o e hb
   exact⟨o',a3 b o' e'⟩
 ·obtain⟨m1,e1⟩:=I.base.tbls b ps e
  obtain⟨m2,e2⟩:=a8 b _ e1;exact⟨m1++m2,by rw[e2,zHm]⟩
theorem fJ.pass(D:fJ X E):tD (CX1 X.prog X.w) X E:=by
 intro pins σ H s e s' I h;obtain⟨ea,cls,a0,B,H',rfl,os,bare,un,hok,fly,bk,ba,hE⟩:=h;rw[D.xe];have fly':=fly;rw[D.stk]at fly';have hfr:=I.ok.frames;rw[D.stk]at hfr;refine wpAny_leaves_onW (L:=X.env.locals) hfr D.fr fly' λ h' fl up=>?_
 have a4:∀b o,b∈frs X.outer->s.heap.get? b=some o->H b=none->(∀vs,o.data≠.fields vs)->∃sl,h'.get? b=some {o with slots:=sl}:=λ b o hb e n nf=>by
  have hb':b∈frs X.stack:=by
   rw[D.stk];unfold frs;rw[zBS,D.fr];exact zAL _ hb
  obtain⟨s1,e1⟩:=un.slot b o e n hb' (λ z=>nomatch z);obtain⟨s2,e2⟩:=up b _ e1 nf;exact⟨s2,e2⟩
 obtain⟨u1,u2,u3⟩:=aJJ (B:=B) (h':=h') (H':=H') D.ex I bk ba fl.1 a4 (λ b o e n=>un.free b o e n (λ z=>nomatch z)) un.tups un.frzs un.tbls;exact⟨ea,cls,a0,B,H',rfl,os.trans I.os,bare,u1,hok,fl,u2,u3,hE⟩
theorem fJ.raise(D:fJ X E){ea:Addr}(I:Inv X pins σ H s)
  (hx:Heap.MadeExcOf s.heap h1 ea cls vs)(hE:E cls none H):X.xe (.ref ea) {s with heap:=h1}:=by
 rw[D.xe];have stk:s.heap.FunFrames X.base X.stack:=I.stack;have hin:∀env∈X.stack,∀a,env.frame=some a->a∈frs X.stack:=λ env he a ha=>zBs.mpr ⟨env,he,ha⟩
 have stk2:=zGj stk hin;have hfr:=I.ok.frames;rw[D.stk]at hfr;have stk3:s.heap.FunFrames (zBf s.heap (frs X.stack)) (X.env::X.outer):=by rw[<-D.stk];exact stk2
 refine wpAny_leaves_madeW (L:=X.env.locals) (base:=zBf s.heap (frs X.stack)) hfr D.fr (λ b o q=>zDY _ q) stk3 hx λ h' t fl tup bn up=>?_
 have hok:HOk X.prog X.w H (zBf s.heap (frs X.stack)):=λ a o e=>by
  refine(I.hok a o e).stay (λ b u hb q=>zCC _ q λ hm=>?_) (λ _ z=>z) λ _ _ z=>z
  have hn:=I.stkFree b hm;rcases hb with z|z
  ·rw[z,e]at hn;cases hn
  ·rw[z]at hn;cases hn
 obtain⟨u1,u2,u3⟩:=aJJ (B:=zBf s.heap (frs X.stack)) (h':=h') (H':=H) D.ex I (λ b o e n nf=>zCC _ e nf) (λ b o e nf=>⟨o,zCC _ e nf⟩) fl.1
  (λ b o hb e n nf=>up b o (hx.keeps b o e) nf) (λ b o e n=>n) (λ _ _ e=>e) (λ _ _ _ e=>e) (λ b ps e=>⟨#[],by rw[e];simp⟩)
 exact⟨ea,cls,.ref t,_,H,rfl,I.os,I.bare,u1,hok,fl,u2,u3,hE⟩
theorem fJ.own(D:fJ X E):zIe (model X.prog X.w) X.A X.env X.xe:=λ e s' h=>by
 rw[D.xe]at h ⊢;exact wpAny_leaving_again (SameStack.refl _) h
end
section
variable{P:zA2}{w:World}{K:zAA}{mg:Str->Option Value}{base:Heap}
theorem Fun.okX{st:Stmt}(F:Fun K x q st f fd)(S:aX N ps (aH st))(len:∀vs H Q E,sp vs H Q E->vs.length=ps.length)
  (hbody:∀(cdv:Value) (A:zAe) (outer:List Env) (s:zAF) (H:Hp) (vs:List V) (Q:VK) (E:XK),gD k (A.deeper (zCo q (aH st) s.heap.objs.size f cdv))->sp vs H Q E->
   ∃t,PSs (wj (CX1 P w) P w K mg base N q (aH st) f cdv A outer s H E) (eZ st) t/\t {nx:=λ _ H'=>Q .non H',rt:=Q} (start N vs) H):cW P w K mg base (CX1 P w) (k+1) f fd ps sp:=by
 obtain⟨oc,od,kV,doc,pm,an,cdv,ct,osl,rfl,lk,hcd⟩:=F.ex;exact aO9 lk hcd S len λ A outer s H vs Q E hr hsp=>hbody cdv A outer s H vs Q E hr hsp
end
def jd(K:zAA)(C:Addr):Prop:=zBL K C [.type "ValueError",.type "Exception",.type "BaseException",.type "object"] "ValueError.__new__"=true
theorem vD{K:zAA}(X:K.In h)(hm:mg x=some (.ref C))(q:jd K C):OwnCls x C [.type "ValueError",.type "Exception",.type "BaseException",.type "object"] "ValueError.__new__" mg h:=by
 refine⟨hm,?_⟩;unfold jd zBL at q;split at q
 ·rename_i dd cd sl ho
  split at q
  ·rename_i C' bm k0 k1 k2 k3 n k5 hm' hs
   simp only[zAK,beq_iff_eq,zDC]at q;obtain⟨⟨⟨⟨⟨rfl,rfl⟩,hdel⟩,ht⟩,hok⟩,hni⟩:=q;obtain⟨nm,bs,mro,ns,qn,hd,sn,sub,ab,col,del⟩:=cd;dsimp only at hm' hdel hok hni;subst hm' hdel;have hsl:sl=#[k0,k1,k2,k3,some (.builtin "ValueError.__new__"),k5]:=by
    obtain⟨l⟩:=sl;simp only at hs;rw[hs]
   subst hsl;exact⟨bm,ns,nm,qn,bs,hd,sn,sub,ab,col,dd,k0,k1,k2,k3,k5,_,X _ _ ho,.of_isNs (PySem.W.isNs_of_in X hok),PySem.W.nsMap_none_of_in X hok hni,PySem.W.tail_of_in X ht⟩
  ·cases q
 ·cases q
def aMH(C:Addr)(E:XK)(ta:TA):TS:=λ _ σ H=>ta σ H λ vs H1=>vs.length<=zAW/\E (.ref C) none H1
section
variable{X:Cx}{E:XK}
theorem aHq(D:fJ X E)(hc:X.calm=true){rest:List Expr}(hm:X.mg x=some (.ref C))(hC:jd X.K C)(hg:Gl X x)
  (ha:PA X (e₀::rest) ta)(he:zAZ (e₀::rest) X.env=(false,eval e₀ X.env)::zAZ rest X.env:=by rfl)
  (hplain:(zC1 cpos (zAZ rest X.env)).any (·.1)=false:=by rfl)(hd:(x==("__debug__":Str))=false:=by decide):
  PS X (.Raise (some (.Call (.Name x np) (e₀::rest) [] cpos)) none pos) (aMH C E ta):=by
 intro pins s σ H DD I h;obtain⟨tl,NN,nm,q,bs,hdct,sn,sub,ab,col,dd,k0,k1,k2,k3,k5,mN,hCo,hN,hni,T⟩:=(vD (h:=X.base) I.mod.kin hm hC).obj;have FB:=PySem.F.excBase_ValueError;refine wpAny_Raise_call_subU (C:=C) (nm:=nm) (q:=q) (N:=NN) (bs:=bs) (bm:=tl) (hdct:=hdct) (sn:=sn) (sub:=sub) (ab:=ab) (col:=col) (dd:=dd) (k0:=k0) (k1:=k1) (k2:=k2) (k3:=k3) (k5:=k5)
  FB FB.hasB FB (mN:=mN) (T.hasType FB.hasBase) (I.ok.hd hc) (by rw[he];show(false||(zC1 cpos (zAZ rest X.env)).any (·.1))=false;rw[hplain];rfl) hni
  (qb I hg hm ⟨rfl,?_⟩ hd)
 have harg:=ha cpos pins s σ H _ I h;rw[he]at harg ⊢;refine zH6 (zAy harg (λ vs s₂ h₂=>?_) λ _ _ y=>y);obtain⟨xs,H2,I2,rv,hz,hE⟩:=h₂;refine⟨rfl,by show vs.length<=zAW;rw[<-rv.length];exact hz,I2.bk _ _ hCo,hN.keeps I2.bk,T.keeps I2.bk,λ h' ea hx=>D.raise I2 hx hE⟩
end
section
variable(P:zA2)(w:World)
end
section
variable{P:zA2}{w:World}{H H':Hp}{h h':Heap}{a:Addr}{o:HO}
end
section
variable{P:zA2}{w:World}{H:Hp}{h h':Heap}{x e:Addr}{o':HO}
end
section
variable{fs fs' ex ex':List Addr}{H H1 H2:Hp}{h h1 h2 h':Heap}{a x e:Addr}{o:HO}
end
section
variable{X:Cx}{pins:List (Addr×Obj)}{σ:List (Option V)}{H H':Hp}{s:zAF}{h':Heap}
end
section
variable{X:Cx}
variable{a b:Expr}{ta tb:TE}{pos:Pos}
variable{tA tB':TT}{rest:List Expr}
end
section
variable{X:Cx}{pins:List (Addr×Obj)}{σ:St}{H:Hp}{s:zAF}{a:Addr}{xs ys:List V}
end
section
variable{X:Cx}{pins:List (Addr×Obj)}{σ:St}{H:Hp}{s:zAF}{E:Value->zAF->Prop}
end
section
variable{X:Cx}{st:Stmt}{rest:List Stmt}{t u:TS}{e:Expr}{te:TE}{pos:Pos}
end
section
variable{X:Cx}{pos:Pos}
end
section
variable{X:Cx}{pos:Pos}
end
section
variable{X:Cx}{tg:Expr}
end
section
variable{X:Cx}{a b c:Expr}{ta tb tc:TE}{pos:Pos}
end
section
variable{X:Cx}{a b c:Expr}{ta tb tc:TE}{pos:Pos}
end
section
variable{prog:zA2}{w:World}{A:zAe}{E:Value->zAF->Prop}{s:zAF}{K:zAA}{x dx C f:Addr}{mA:Str->Option Value}{name:Str}{v:Value}
end
section
variable{P:zA2}{w:World}{H H':Hp}{h h':Heap}{a C dx:Addr}{fs fs':List (Str×V)}
end
section
variable{X:Cx}{pins:List (Addr×Obj)}{σ:St}{H:Hp}{s:zAF}{a C dx:Addr}{fs:List (Str×V)}{f:Str}{v:V}{A:zAe}{E:Value->zAF->Prop}
end
section
variable{X:Cx}{o e value:Expr}{f:Str}{pos pos' tpos:Pos}{ta tv:TE}
end
section
variable{X:Cx}{pins:List (Addr×Obj)}{σ:St}{H:Hp}{s:zAF}{A:zAe}{E:Value->zAF->Prop}{Q:Value->zAF->Prop}{c:Value}{b:Bool}
end
section
variable{X:Cx}{e:Expr}{es:List Expr}{te:TE}{t:TA}{pos:Pos}
end
section
variable{X:Cx}{pins:List (Addr×Obj)}{σ:St}{H:Hp}{s s':zAF}
end
section
variable{X:Cx}{CX:CXT}{k:Nat}{f C:Addr}{fd:zAc}{ps:List Str}{sp:Sp}{dvs:List V}{ds:List Value}{E:XK}{x m:Str}{p pos apos:Pos}{e o:Expr}{es:List Expr}{ta:TE}{t:TA}
end
section
variable{X:Cx}{CX:CXT}{k:Nat}{f C:Addr}{fd:zAc}{ps ks:List Str}{sp:Sp}{E:XK}{x m:Str}{p pos apos kpos:Pos}{e o:Expr}{es:List Expr}{kws:List zD1}{te ta:TE}{t tk:TA}{nm:Option Str}
variable{g:List Value->List Value->List Value}{gV:List V->List V->List V}
end
section
variable{X:Cx}{x:Str}{p pos:Pos}{e:Expr}{es:List Expr}{t:TA}{id T:String}{r:List V->Hp->VK->Prop}
end
section
variable{κ:Type}[DecidableEq κ]
def wW(kvs:List (κ×V))(k:κ):Option V:=(kvs.find? λ kv=>decide (kv.1=k)).map (·.2)
def putK(kvs:List (κ×V))(k:κ)(v:V):List (κ×V):=
 if (kvs.any λ kv=>decide (kv.1=k))=true then kvs.map (λ kv=>if kv.1=k then(kv.1,v)else kv)else kvs++[(k,v)]
theorem xV{p:κ×V}{r:List (κ×V)}{k:κ}(e:p.1=k):wW (p::r) k=some p.2:=by simp[wW,zCs,e]
theorem xW{p:κ×V}{r:List (κ×V)}{k:κ}(e:¬p.1=k):wW (p::r) k=wW r k:=by simp[wW,zCs,e]
theorem qJ(kvs:List (κ×V))(k:κ)(v:V):(putK kvs k v).length<=kvs.length+1:=by
 unfold putK;split
 ·rw[zAE];omega
 ·rw[zA5,zAY,zBz];omega
theorem uf.isSome_eq{o:Option V}{u:Option Value}(r:uf o u):o.isSome=u.isSome:=by
 cases o with
 |none=>cases u with
  |none=>rfl
  |some _=>exact(show False from r).elim
 |some _=>cases u with
  |none=>exact(show False from r).elim
  |some _=>rfl
theorem KV.val{kvs:List (κ×V)}{vs:List (κ×Value)}(r:KV kvs vs)(k:κ):uf (wW kvs k) (zH4 vs k):=by
 unfold KV at r;induction r with
 |nil=>exact zDD
 |@cons p q ps qs h t ih=>
  obtain⟨h1,h2⟩:=h;by_cases e:p.1=k
  ·have e':q.1=k:=h1.symm.trans e
   have b:zH4 (q::qs) k=some q.2:=by simp[zH4,zCs,e']
   rw[xV e,b];exact h2
  ·have e':¬q.1=k:=λ z=>e (h1.trans z)
   have b:zH4 (q::qs) k=zH4 qs k:=by simp[zH4,zCs,e']
   rw[xW e,b];exact ih
theorem KV.any{kvs:List (κ×V)}{vs:List (κ×Value)}(r:KV kvs vs)(k:κ):(kvs.any λ kv=>decide (kv.1=k))=vs.any λ kv=>decide (kv.1=k):=by
 unfold KV at r;induction r with
 |nil=>rfl
 |cons h t ih=>rw[zC0,zC0,ih,h.1]
theorem KV.repl{kvs:List (κ×V)}{vs:List (κ×Value)}(r:KV kvs vs)(k:κ){y:V}{u:Value}(ry:RelV y u):
  KV (kvs.map λ kv=>if kv.1=k then(kv.1,y)else kv) (vs.map λ kv=>if kv.1=k then(kv.1,u)else kv):=by
 unfold KV at r ⊢;induction r with
 |nil=>exact .nil
 |@cons p q ps qs h t ih=>
  rw[zAG,zAG];refine .cons ?_ ih;obtain⟨h1,h2⟩:=h;by_cases e:p.1=k
  ·rw[if_pos e,if_pos (h1.symm.trans e)];exact⟨h1,ry⟩
  ·rw[if_neg e,if_neg (λ z=>e (h1.trans z))];exact⟨h1,h2⟩
theorem KV.put{kvs:List (κ×V)}{vs:List (κ×Value)}(r:KV kvs vs)(k:κ){y:V}{u:Value}(ry:RelV y u):KV (putK kvs k y) (stored vs k u):=by
 unfold putK stored;rw[r.any k];by_cases e:(vs.any λ kv=>decide (kv.1=k))=true
 ·rw[if_pos e,if_pos e];exact r.repl k ry
 ·rw[if_neg e,if_neg e];exact Paired.snoc r ⟨rfl,ry⟩
theorem KV.length{kvs:List (κ×V)}{vs:List (κ×Value)}(r:KV kvs vs):kvs.length=vs.length:=zGi r
end
theorem aFc{P:zA2}{w:World}{k:Key}{u:Value}(r:RelV (kV k) u):(fQ P w).is k u=true:=by
 cases k with
 |inl i=>obtain⟨t,e⟩:=(show∃t,u=zCS i t from r);subst e;exact aCx P w i t
 |inr x=>obtain⟨t,e⟩:=(show∃t,u=zH1 x t from r);subst e;exact aCw P w x t
theorem aAg{P:zA2}{w:World}:∀{ks:List Key} {us:List Value},Vals (ks.map kV) us->ItemsAre (fQ P w) ks us
 |[],_,r=>by rw[zFA]at r;cases r;exact .nil
 |k::ks,_,r=>by
  rw[zAG]at r;cases r with
  |cons h t=>exact .cons (aFc h) (aAg t)
abbrev KT(H:Hp):List (List Key×V)->List (List Key×Addr×Value)->Prop:=zEq λ p q=>p.1=q.1/\H q.2.1=some (.tup (p.1.map kV))/\RelV p.2 q.2.2
theorem KT.val{H:Hp}{kvs:List (List Key×V)}{xs:List (List Key×Addr×Value)}(r:KT H kvs xs)(k:List Key):uf (wW kvs k) ((atKey xs k).map (·.2)):=by
 induction r with
 |nil=>exact zDD
 |@cons p q ps qs h t ih=>
  obtain⟨h1,_,h2⟩:=h;by_cases e:p.1=k
  ·have e':q.1=k:=h1.symm.trans e
   have b:atKey (q::qs) k=some q.2:=by simp[atKey,zCs,e']
   rw[xV e,b];exact h2
  ·have e':¬q.1=k:=λ z=>e (h1.trans z)
   have b:atKey (q::qs) k=atKey qs k:=by simp[atKey,zCs,e']
   rw[xW e,b];exact ih
section
variable{P:zA2}{w:World}{H:Hp}{h:Heap}{a:Addr}
theorem aL6{u:HO}(ok:HOk P w H h)(e:Rd H a u):cj P w H h a u:=e.ok ok
theorem aFr{kvs:List (Key×V)}(ok:HOk P w H h)(e:Rd H a (.dK kvs)):kvs.length<=zAW/\(a==zCe)=false/\∃vs,KV kvs vs/\h.DictOf (fQ P w) a vs:=
 show cj P w H h a (.dK kvs)from aL6 ok e
theorem aOa{kvs:List (Key×V)}(ok:HOk P w H h)(e:H a=some (.dK kvs)):kvs.length<=zAW/\(a==zCe)=false/\∃vs,KV kvs vs/\h.DictOf (fQ P w) a vs:=aFr ok (.inl e)
theorem aEf{ks:List Key}(ok:HOk P w H h)(e:H a=some (.tup (ks.map kV))):(zIl (fQ P w)).is h ks a:=by
 obtain⟨_,its,r,o,h1,h2,n,h3⟩:=(show cj P w H h a (.tup (ks.map kV))from ok a _ e);exact⟨o,its.toArray,n,h1,h2,h3,by simpa using aAg r⟩
theorem aJM{kvs:List (List Key×V)}(ok:HOk P w H h)(e:Rd H a (.dT kvs)):kvs.length<=zAW/\(a==zCe)=false/\
  ∃xs,KT H kvs xs/\h.DictOfH (zIl (fQ P w)) a xs:=by
 obtain⟨z,y,xs,r,o,es,ep,h1,h2,h3,h4,h5⟩:=(show cj P w H h a (.dT kvs)from aL6 ok e);refine⟨z,y,xs,r,o,es,ep,h1,h2,h3,h4,λ x hx=>?_,h5⟩;have all:∀{l:List (List Key×V)} {m:List (List Key×Addr×Value)},KT H l m->∀x∈m,(zIl (fQ P w)).is h x.1 x.2.1:=by
  intro l m q;induction q with
  |nil=>intro x hx;exact nomatch hx
  |@cons p q ps qs hq t ih=>
   intro x hx;rcases zAN.mp hx with e|hx
   ·subst e
    exact aEf ok (by rw[<-hq.1];exact hq.2.1)
   ·exact ih x hx
 exact all r x hx
end
def zf(H:Hp)(a:Addr)(y:V)(r:Option V):Prop:=
 (∃kvs k,Rd H a (.dK kvs)/\y=kV k/\r=wW kvs k)\/∃kvs k b,Rd H a (.dT kvs)/\y= .ref b/\H b=some (.tup (k.map kV))/\r=wW kvs k
theorem zf.k{H:Hp}{a:Addr}{kvs:List (Key×V)}{k:Key}(e:H a=some (.dK kvs)):zf H a (kV k) (wW kvs k):=.inl ⟨kvs,k,.inl e,rfl,rfl⟩
section
variable{X:Cx}{pins:List (Addr×Obj)}{σ:St}{H:Hp}{s:zAF}{a:Addr}{y v:V}{u r:Value}{o:Option V}{A:zAe}{E:Value->zAF->Prop}
theorem aGi{Q:Value->zAF->Prop}(hu:A.units+1<cLine)(I:Inv X pins σ H s)(g:zf H a y (some v))(ry:RelV y u)(h:∀w' s',Inv X pins σ H s'->RelV v w'->Q w' s'):
  wpAny (model X.prog X.w) A (zIv (.ref a) u) Q E s:=by
 rcases g with ⟨kvs,k,e,ey,l⟩|⟨kvs,k,b,e,ey,eb,l⟩
 ·subst ey
  obtain⟨z,hd,vs,rel,dd⟩:=aFr I.hok e;obtain⟨w',hw,rw'⟩:=uf.some_of (v:=v) (o:=zH4 vs k) (by rw[l];exact rel.val k);exact wpAny_getItem_of (aFc ry) dd.mapOf hw (h w' _ (I.tok _) rw')
 ·subst ey
  cases (show u=zB0 b from ry);obtain⟨z,hd,xs,rel,dd⟩:=aJM I.hok e;obtain⟨w',hw,rw'⟩:=uf.some_of (v:=v) (o:=(atKey xs k).map (·.2)) (by rw[l];exact rel.val k);obtain⟨p,hp,hp2⟩:=zBh.mp hw;refine wpAny_getItem_heap (zJH hu) (aEf I.hok eb) dd hp ?_;rw[hp2];exact h w' _ (I.tok _) rw'
theorem aPE{Q:Value->zAF->Prop}(hu:A.units+1<cLine)(I:Inv X pins σ H s)(g:zf H a y o)(ry:RelV y u)(h:∀s',Inv X pins σ H s'->Q (.bool o.isSome) s'):
  wpAny (model X.prog X.w) A (zAr .In u (.ref a)) Q E s:=by
 rcases g with ⟨kvs,k,e,ey,l⟩|⟨kvs,k,b,e,ey,eb,l⟩
 ·subst ey
  obtain⟨z,hd,vs,rel,dd⟩:=aFr I.hok e;refine wpAny_in_of (aFc ry) hd dd.mapOf ?_;rw[<-(rel.val k).isSome_eq,<-l];exact h _ (I.tok _)
 ·subst ey
  cases (show u=zB0 b from ry);obtain⟨z,hd,xs,rel,dd⟩:=aJM I.hok e;refine wpAny_in_heap (zJH hu) (aEf I.hok eb) hd dd ?_;have q:=(rel.val k).isSome_eq;rw[Option.isSome_map]at q;rw[<-q,<-l];exact h _ (I.tok _)
theorem aLI{h':Heap}{t':Nat}{ob:HO}(I:Inv X pins σ H s)(mu:Mut (H a))(hs:zD2 a s.heap h')(he:∃q,h'.get? a=some q)(new:cj X.prog X.w (upd H a ob) h' a ob):
  Inv X pins σ (upd H a ob) {s with heap:=h',toks:=t'}:=
 I.write (x:=a) (e:=a) mu (.inl rfl) (λ b q hb z=>(hs.2 b hb).trans z) he new
theorem aN6{P:zA2}{w:World}{H':Hp}{h':Heap}{kvs:List (Key×V)}{vs:List (Key×Value)}(z:kvs.length<=zAW)(hd:(a==zCe)=false)(rel:KV kvs vs)(dd:h'.DictOf (fQ P w) a vs):
  cj P w H' h' a (.dK kvs):=⟨z,hd,vs,rel,dd⟩
end
section
variable{X:Cx}{pins:List (Addr×Obj)}{σ:St}{H:Hp}{s:zAF}{a:Addr}{kvs:List (Key×V)}{k:Key}{u:Value}{A:zAe}{E:Value->zAF->Prop}
end
def aOk(i:Expr):Prop:=∀ov iv,zH3 i false ov iv=operate [ov,iv] (zIv ov iv)
theorem aJh{prog:zA2}{w:World}{A:zAe}{E:Value->zAF->Prop}{s:zAF}{env:Env}{value slice:Expr}{pos:Pos}{T id:String}{Q:Value->zAF->Prop}
  (hl:zGe (.type T) "__getitem__"=pure (some (.builtin id)))(hs:aOk slice)
  (h:wpAny (model prog w) A (eval value env) (λ o s₁=>wpAny (model prog w) A (eval slice env) (λ i s₂=>s₂.TypeIs o T/\wpAny (model prog w) A (zIv o i) Q E s₂) E s₁) E s):
  wpAny (model prog w) A (eval (.Subscript value slice pos) env) Q E s:=by
 refine Subscript_ (zAy h (λ o s₁ h₁=>zAy h₁ (λ i s₂ h₂=>?_) λ _ _ x=>x) λ _ _ x=>x);obtain⟨hT,h₂⟩:=h₂;unfold subscriptTail;refine zAD ?_;rw[getitemInPython_of_ne hT.not_modules];refine zAD (wpAny_specialOf hT hl ?_);have fin:wpAny (model prog w) A (zH3 slice false o i) (λ r s₃=>wpAny (model prog w) A (letTemporaryGo value o r>>=λ _=>pure r) Q E s₃) E s₂:=by
  rw[hs o i];exact wpAny_operating (zAy h₂ (λ r s₃ h₃=>zAD (wpAny_letTemporaryGo (zAR h₃))) λ _ _ x=>x)
 first
  |exact zAR (zAD fin)
  |exact zAD (zAR (zAD fin))
  |exact zAD fin
theorem aD3{X:Cx}{pins:List (Addr×Obj)}{σ:St}{H:Hp}{s:zAF}{a:Addr}{y:V}{o:Option V}(I:Inv X pins σ H s)(g:zf H a y o):s.TypeIs (.ref a) "dict":=by
 rcases g with ⟨kvs,k,e,_,_⟩|⟨kvs,k,b,e,_,_,_⟩
 ·obtain⟨_,_,vs,_,dd⟩:=aFr I.hok e
  exact dd.typeIs
 ·obtain⟨_,_,xs,_,dd⟩:=aJM I.hok e
  exact dd.typeIs
def aNr(td ty:TE):TE:=λ σ H Q=>td σ H λ x H1=>ty σ H1 λ y H2=>∃a v,x= .ref a/\zf H2 a y (some v)/\Q v H2
section
variable{X:Cx}{o i e value:Expr}{pos pos' tpos:Pos}{td ty tv:TE}
theorem aKK(hu:X.A.units+1<cLine)(ho:PE X o td)(hi:PE X i ty)(hs:aOk i):PE X (.Subscript o i pos) (aNr td ty):=by
 intro pins s σ H Q I h;refine aJh PySem.F.slot_dict_getitem.lookup hs (thn (ho pins s σ H _ I h) λ u s1 ⟨x,H1,I1,rx,q1⟩=>thn (hi pins s1 σ H1 _ I1 q1) λ iv s2 ⟨y,H2,I2,ry,a,v,ex,g,q2⟩=>?_);subst ex;obtain rfl:u=zB0 a:=rx;exact⟨aD3 I2 g,aGi hu I2 g ry λ w' s3 I3 rw'=>⟨v,H2,I3,rw',q2⟩⟩
end
section
variable{X:Cx}{pos:Pos}
end
section
variable{X:Cx}{pins:List (Addr×Obj)}{σ:St}{H:Hp}{s:zAF}{a:Addr}{y d:V}{u r:Value}{o:Option V}{A:zAe}{E:Value->zAF->Prop}
end
section
variable{X:Cx}{o e f:Expr}{apos cpos:Pos}{td ty tx:TE}
end
section
variable{X:Cx}{pins:List (Addr×Obj)}{σ:St}{H:Hp}{s:zAF}{a:Addr}{kvs:List (Key×V)}{A:zAe}{E:Value->zAF->Prop}
end
section
variable{X:Cx}{pins:List (Addr×Obj)}{σ:St}{H:Hp}{s:zAF}{a:Addr}{y:V}{u:Value}{A:zAe}{E:Value->zAF->Prop}
end
end L2
namespace Att
open PySem PySem.W PySem.Calls PyProof.Rows
section
variable{prog:zA2}{w:World}{A:zAe}{E:Value->zAF->Prop}{s:zAF}{K:Frag}
end
end Att
namespace L2
open PySem PySem.Spec PyProof.Rows
section
variable{P:zA2}{w:World}{K:zAA}{mg:Str->Option Value}{base:Heap}
end
section
variable{X:Cx}
end
section
variable{κ:Type}[DecidableEq κ]
end
theorem aAN{pos:Pos}{a b:Int}{c cv:Value}(l:List Value)(h:TriplesOk l)(e:zFk pos (l++[zJG a,zJG b,c])=some cv):zFk pos l=some cv\/cv=c:=by
 fun_induction TriplesOk l with
 |case1=>
  simp only[zDX,zFk,zJG]at e;split at e
  ·exact .inr (zAa e).symm
  ·cases e
 |case2 a' t b' u x rest ih=>
  simp only[zCd,zFk]at e ⊢;split at e
  ·rename_i hc;rw[if_pos hc];exact .inl e
  ·rename_i hc;rw[if_neg hc];exact ih h e
 |case3 l h1 h2=>exact h.elim
abbrev Cx.noT(X:Cx):Cx:={X with ta:=[]}
section
variable{X:Cx}{pins:List (Addr×Obj)}{σ:St}{H:Hp}{s:zAF}
theorem Inv.noT(I:Inv X pins σ H s):Inv X.noT pins σ H s:=
 ⟨⟨I.ok.mod,I.ok.kind,I.ok.glob,I.ok.blt,I.ok.above,I.ok.inj,I.ok.has,I.ok.cab,I.ok.hd,I.ok.frames,I.ok.stk,I.ok.exf,I.ok.bs,I.ok.bsz,I.ok.noex,I.ok.exfs,I.ok.funs,I.ok.frf⟩,
  I.os,I.bare,I.base,I.loc,I.cell,I.free,I.freeC,I.pin,I.hok,I.len,λ p hp=>absurd (show p∈([]:List (Addr×Obj))from hp) (by simp)⟩
theorem Inv.ofT{H':Hp}{s':zAF}(I:Inv X pins σ H s)(J:Inv X.noT pins σ H' s')(t:∀p∈X.ta,H' p.1=none/\p.1≠X.env.locals/\p.1∉X.fs/\(∀q∈X.pn++pins,q.1≠p.1)/\∃ps,s'.heap.get? p.1=some {cls:=.none,data:=.fields ps}/\TabOk X.tq H' ps):Inv X pins σ H' s':=
 ⟨I.ok,J.os,J.bare,J.base,J.loc,J.cell,J.free,J.freeC,J.pin,J.hok,J.len,t⟩
structure wU(X:Cx)(P:Addr):Prop where
 ta:∃o,X.ta=[(P,o)]
 ex:P∈X.ex
 tq:X.tq=X.env.qual++"<lambda>"
 code:∃c,X.env.code= .ref c/\zIR X.base c P
 blt:X.base.BuiltinsAt X.mg P
 gne:zA4≠P
def aDi(q:Str)(params:zDE)(body:Expr)(scope:Scope)(cl:List (Str×Addr))(pm:Value)(H:Hp)(f c':Addr)(ctv:Value):Prop:=
 H f=some (.frz (zCR "<lambda>" q params body scope cl pm c' ctv) (.own f))/\∃oc,H c'=some (.frz oc (.own c'))/\aLv q oc
theorem aI7{P:Addr}{params:zDE}{body:Expr}{scope:Scope}{pos:Pos}{Q:Value->zAF->Prop}{E:Value->zAF->Prop}(Lx:wU X P)(I:Inv X pins σ H s)(hdef:zJY params X.env=([],[]))
  (hfree:∀y∈scope.names,y.2= .free->X.env.kindOf y.1=some .cell\/X.env.kindOf y.1=some .free)
  (h:∀(f c':Addr) (ctv:Value) (H':Hp) (s':zAF),Inv X pins σ H' s'->aY H H'->aDi X.tq params body scope (bF scope X.env) ((X.mg "__name__").getD .none) H' f c' ctv->Q (.ref f) s'):
  wpAny (model X.prog X.w) X.A (eval (.Lambda params body scope pos) X.env) Q E s:=by
 obtain⟨o0,hta⟩:=Lx.ta;obtain⟨c,hcode,hC⟩:=Lx.code;obtain⟨hPn,hPL,hPf,hPp,ps,hP,ht⟩:=I.tab (P,o0) (by rw[hta];exact zAI);dsimp only at hPn hPL hPf hPp hP;have hcl:zEi scope X.env=pure (bF scope X.env):=jZ λ y hy hk=>I.ok.has _ (hfree y hy hk)
 have hgs:s.heap.Ns zA4 X.mg:=by
  obtain⟨o,es,ep,e,r⟩:=I.ok.mod.glob;exact⟨o,es,ep,I.bk _ _ e,r⟩
 have hC':zIR s.heap c P:=hC.keeps I.bk;have hb:s.heap.BuiltinsAt X.mg P:=by
  obtain⟨bm,ob,b1,b2,b3,b4,b5,b6⟩:=Lx.blt;exact⟨bm,ob,b1,b2,b3,b4,I.bk _ _ b5,b6⟩
 refine PySem.W.kla_eval hdef ?_;rw[<-Lx.tq];cases hf:zFk pos ps.toList with
 |some cv=>
  obtain⟨c',oc,rfl,hc',hco⟩:=ht.2 pos cv hf;refine PySem.W.kla_makeFunctionHit hcl I.ok.glob hgs hcode hC' hP ht.1 hf hb λ ctv h' tk k hsz=>?_
  have hfr:H h'.objs.size=none:=I.hok.fresh hsz;have sm:aY H (upd H h'.objs.size (.frz (zCR "<lambda>" X.tq params body scope (bF scope X.env) ((X.mg "__name__").getD .none) c' ctv) (.own h'.objs.size))):=λ b u e=>by rw[aj (bc e hfr)];exact e
  have I':=I.laid (h':=h'.push (zCR "<lambda>" X.tq params body scope (bF scope X.env) ((X.mg "__name__").getD .none) c' ctv)) (t':=tk) (a:=h'.objs.size) (o:=.frz (zCR "<lambda>" X.tq params body scope (bF scope X.env) ((X.mg "__name__").getD .none) c' ctv) (.own h'.objs.size)) (λ b u e=>zAC _ (k b u e)) hsz
   ⟨zAV _ rfl,_,zAV _ rfl⟩
  exact h _ c' ctv _ _ I' sm ⟨bH,oc,sm _ _ hc',hco⟩
 |none=>
  refine PySem.W.kla_makeFunction hcl I.ok.glob hgs hcode hC' hP ht.1 hf Lx.gne hb λ c' ctv h' tk hx hge hlt hrec htb=>?_
  obtain⟨c2,oc,vs,t,e2,hoc,hd,hv⟩:=hrec;cases e2;have hcn:H c'=none:=I.hok.fresh hge;have hfn:H h'.objs.size=none:=I.hok.fresh (zAg hge (zBX hlt));have neT:∀b u,H b=some u->b≠c':=λ b u e=>bc e hcn
  have neP:∀b u,H b=some u->b≠P:=λ b u e=>bc e hPn
  have sm:aY H (upd H c' (.frz oc (.own c'))):=λ b u e=>by rw[aj (neT b u e)];exact e
  have hcne:∀x a,X.env.cells.lookup x=some a->a≠P:=λ x a e z=>by
   obtain⟨v,o,ho,hdd⟩:=I.cell x a e;rw[z,hP]at ho;cases ho;cases hdd
  have J:Inv X.noT pins σ (upd H c' (.frz oc (.own c'))) {s with heap:=h',toks:=tk}:=by
   refine I.noT.step (g':=s.gens) (d':=s.drawn) (ch:=[P]) (λ b hb'=>?_) (λ b o _ _ hc e _=>hx b o (λ z=>hc (by simp[z])) e) (λ b o _ _ hc e _=>⟨o.slots,hx b o (λ z=>hc (by simp[z])) e⟩)
    (λ b o _ e n=>by rw[aj (zA0 (zAU (zAQ e) hge))];exact n) (λ b o hc e=>⟨o,hx b o (λ z=>hc (by simp[z])) e⟩)
    (λ b xs e=>sm _ _ e) (λ b o u e=>sm _ _ e) (λ b ps e=>⟨#[],by rw[sm _ _ e];simp⟩) (λ m hm=>hm.extBut hx (λ z=>hPL z.symm)) (λ b u e=>?_) I.bare
   ·have e:b=P:=by simpa using hb'
    subst e;exact⟨.inl Lx.ex,hPL,λ x c e=>hcne x c e,λ p hp=>hPp p hp⟩
   ·by_cases hbc:b=c'
    ·subst hbc
     rw[bH]at e;cases e;exact⟨hoc,oc,hoc⟩
    ·rw[aj hbc]at e
     refine(I.hok b u e).stay (λ d v hd' q=>hx d v ?_ q) (λ d q=>sm _ _ q) λ d xs q=>sm _ _ q
     rcases hd' with z|z
     ·rw[z];exact neP b u e
     ·exact neP d _ z
  have I':=I.ofT J λ p hp=>by
   rw[hta]at hp;have e:p=(P,o0):=by simpa using hp
   subst e;refine⟨by rw[aj (zA0 (zAU (zAQ hP) hge))];exact hPn,hPL,hPf,hPp,_,htb,?_⟩;refine⟨?_,λ pos2 cv e=>?_⟩
   ·rw[zHc]
    exact TriplesOk_snoc _ _ _ _ ht.1
   ·rw[zHc]at e
    rcases aAN _ ht.1 e with z|z
    ·obtain⟨c2,oc2,z1,z2,z3⟩:=ht.2 pos2 cv z
     exact⟨c2,oc2,z1,sm _ _ z2,z3⟩
    ·exact⟨c',oc,z,bH,vs,t,hd,hv⟩
  have hfr:upd H c' (.frz oc (.own c')) h'.objs.size=none:=by rw[aj (zCH hlt)];exact hfn
  have sm2:aY (upd H c' (.frz oc (.own c'))) (upd (upd H c' (.frz oc (.own c'))) h'.objs.size (.frz (zCR "<lambda>" X.tq params body scope (bF scope X.env) ((X.mg "__name__").getD .none) c' ctv) (.own h'.objs.size))):=λ b u e=>by rw[aj (bc e hfr)];exact e
  have I2:=I'.laid (h':=h'.push (zCR "<lambda>" X.tq params body scope (bF scope X.env) ((X.mg "__name__").getD .none) c' ctv)) (t':=tk) (a:=h'.objs.size) (o:=.frz (zCR "<lambda>" X.tq params body scope (bF scope X.env) ((X.mg "__name__").getD .none) c' ctv) (.own h'.objs.size)) (λ b u e=>zAC _ e) (zAS _)
   ⟨zAV _ rfl,_,zAV _ rfl⟩
  exact h _ c' ctv _ _ I2 (sm.trans sm2) ⟨bH,oc,sm2 _ _ bH,vs,t,hd,hv⟩
def aOu(q:Str)(params:zDE)(body:Expr)(scope:Scope)(cl:List (Str×Addr))(pm:Value):TE:=λ σ H Q=>∀f c' ctv H',aY H H'->aDi q params body scope cl pm H' f c' ctv->Q (.ref f) H'
theorem aMf{P:Addr}{params:zDE}{body:Expr}{scope:Scope}{pos:Pos}(Lx:wU X P)(hdef:zJY params X.env=([],[]))
  (hfree:∀y∈scope.names,y.2= .free->X.env.kindOf y.1=some .cell\/X.env.kindOf y.1=some .free):PE X (.Lambda params body scope pos) (aOu X.tq params body scope (bF scope X.env) ((X.mg "__name__").getD .none)):=
 λ pins s σ H Q I h=>aI7 Lx I hdef hfree λ f c' ctv H' s' I' sm l=>⟨.ref f,H',I',rfl,h f c' ctv H' sm l⟩
end
def aDt(X:Cx)(k0:Nat)(i:Nat)(E:XK):TE:=λ σ H Q=>∃f cls dd sl fd k sp,σ[i]? =some (some (.ref f))/\H f=some (.frz ⟨cls,dd,.func fd,sl⟩ (.own f))/\cW X.prog X.w X.K X.mg X.base (CX1 X.prog X.w) k f fd [] sp/\k<=k0/\Binds X.K fd [] []/\sp [] H Q E
theorem aHx{X:Cx}{k0 i:Nat}{y:Str}{p pos:Pos}{E:XK}(hr:gD k0 X.A)(hx:tD (CX1 X.prog X.w) X E)(hN:X.N[i]? =some y)(hv:Vis X.env.scope y)(hd:(y==("__debug__":Str))=false:=by decide)(hcd:(y==("__classdict__":Str))=false:=by decide):
  PE X (.Call (.Name y p) [] [] pos) (aDt X k0 i E):=by
 intro pins s σ H Q I ⟨f,cls,dd,sl,fd,k,sp,hs,hf,F,hk,hb,h⟩;have fin:wpAny (model X.prog X.w) X.A (eval (.Name y p) X.env) (λ v s'=>v= .ref f/\s'=s) X.xe s:=by
  obtain⟨mm,hnn,hl⟩:=I.loc;obtain⟨u,ru,l⟩:=hl i y _ hN hs hv;cases ru;rcases l with ⟨hk2,hm⟩|⟨hk2,c,hc,hcell⟩
  ·exact zEj (zEn I.ok.kind hk2 hnn hm ⟨rfl,rfl⟩) hd
  ·rcases hk2 with hk2|hk2
   ·exact zEj (zFP I.ok.kind hk2 hc hcell ⟨rfl,rfl⟩) hd
   ·exact zEj (zIy I.ok.kind hk2 hc hcell ⟨rfl,rfl⟩ hcd) hd
 refine zBe (thn fin λ v s' ⟨ev,es'⟩=>?_);subst ev es';obtain⟨ho,_⟩:s'.heap.get? f=some _/\_:=I.hok f _ hf;have KX:PySem.W.Frag.In [(f,⟨cls,dd,.func fd,sl⟩)] s'.heap:=λ b o e=>by
  rw[zAk]at e;by_cases hbf:b=f
  ·subst hbf
   simp only[beq_self_eq_true]at e;cases e;exact ho
  ·simp only[beq_eq_false_iff_ne.mpr hbf]at e
   cases e
 exact PySem.W.callWith_K0 (K:=[(f,⟨cls,dd,.func fd,sl⟩)]) KX (by simp[zB5,zAk]) (aH1 (us:=[]) F (hr.mono hk) hb .nil hx I .nil h)
def cxL(P:zA2)(w:World)(K:zAA)(mg:Str->Option Value)(base:Heap)(N:List Str)(q:Str)(scope:Scope)(cl:List (Str×Addr))(f:Addr)(cd:Value)(A:zAe)(outer:List Env)(s:zAF)(H:Hp)(E:XK):Cx where
 prog:=P
 w:=w
 K:=K
 mg:=mg
 base:=base
 A:=A.deeper (zCb q scope s.heap.objs.size f cd cl)
 N:=N
 s₀:=s
 H₀:=H
 env:=zCb q scope s.heap.objs.size f cd cl
 outer:=outer
 stack:=zCb q scope s.heap.objs.size f cd cl::outer
 ex:=[]
 calm:=true
 fn:=λ _=>false
 pn:=[]
 xe:=λ e s'=>wpAny (model P w) (A.deeper (zCb q scope s.heap.objs.size f cd cl)) (leaving (zCb q scope s.heap.objs.size f cd cl) e) (λ _ s''=>CX1 P w outer H s E e s'') (λ e' s''=>CX1 P w outer H s E e' s'') s'
theorem fJ.ofL{P:zA2}{w:World}{K:zAA}{mg:Str->Option Value}{base:Heap}{N:List Str}{q:Str}{scope:Scope}{cl:List (Str×Addr)}{f:Addr}{cd:Value}{A:zAe}{outer:List Env}{s:zAF}{H:Hp}{E:XK}:
  fJ (cxL P w K mg base N q scope cl f cd A outer s H E) E:=⟨rfl,rfl,rfl,rfl⟩
structure za(scope:Scope):Prop where
 kind:scope.kind= .function
 co:scope.isCoroutine=false
 gen:scope.isGenerator=false
 cell:∀y∈scope.names,y.2≠.cell
 loc:∀y∈scope.names,y.2≠.local
structure aJ8(base:Heap)(N:List Str)(σ:St)(scope:Scope)(cl:List (Str×Addr)):Prop where
 inj:∀x y c,cl.lookup x=some c->cl.lookup y=some c->x=y
 has:∀x,scope.names.lookup x=some .free->∃c,cl.lookup x=some c
 cell:∀x c,cl.lookup x=some c->∃v,base.IsCell c v
 val:∀(i:Nat) x v,N[i]? =some x->σ[i]? =some (some v)->scope.names.lookup x=some .free->∃c u,cl.lookup x=some c/\RelV v u/\base.IsCell c (some u)
 len:σ.length=N.length
theorem aNM{P:zA2}{w:World}{K:zAA}{mg:Str->Option Value}{base:Heap}{N:List Str}{q:Str}{params:zDE}{scope:Scope}{cl:List (Str×Addr)}{f c':Addr}{pm ctv:Value}{body:Expr}{k:Nat}{σ:St}{H1:Hp}{sp:Sp}
  (la:aDi q params body scope cl pm H1 f c' ctv)(S:za scope)(cp:aJ8 base N σ scope cl)
  (len:∀vs H Q E,sp vs H Q E->vs=[]/\aY H1 H)
  (hbody:∀(A:zAe) (outer:List Env) (s:zAF) (H:Hp) (Q:VK) (E:XK),gD k (A.deeper (zCb q scope s.heap.objs.size f (.ref c') cl))->sp [] H Q E->∃te,PE (cxL P w K mg base N q scope cl f (.ref c') A outer s H E) body te/\te σ H Q):
  cW P w K mg base (CX1 P w) (k+1) f (zFd "<lambda>" q params body scope cl pm (.ref c') ctv) [] sp:=by
 refine⟨λ vs H Q E h=>by rw[(len vs H Q E h).1];rfl,λ A outer s H args us vs Q E hr e0 hb r hsp=>?_⟩;obtain⟨rfl,hsm⟩:=len _ _ _ _ hsp;obtain⟨te,hpe,hte⟩:=hbody A outer s H Q E (hr.deeper _) hsp;have hlim:s.heap.NoLimit:=e0.mod.nolimit.keeps λ b o e=>(e0.bs b o e).1
 obtain⟨hf,oc,hc,hco⟩:=la;obtain⟨ho,_⟩:s.heap.get? f=some _/\_:=e0.hok f _ (hsm _ _ hf);obtain⟨hoc,_⟩:s.heap.get? c'=some oc/\_:=e0.hok c' _ (hsm _ _ hc);obtain⟨vs,t,hd,hv⟩:=hco;refine PySem.W.kla_callFunE hr.depth ho rfl S.co S.gen rfl ⟨c',oc,vs,t,rfl,hoc,hd,hv⟩ (hb _ _ _ _ ?_);refine wpAny_newFunctionEnv S.cell (by intro y hy;simp at hy) (λ h₁ hns hsb=>?_) S.kind;have hk₁:∀b o,s.heap.get? b=some o->h₁.get? b=some o:=λ b o e=>hsb.extBut b o (zA0 (zAQ e)) (zAC _ e)
 refine⟨hlim.keeps hk₁,?_⟩;show zBq _ _ (.expr body (zCb q scope s.heap.objs.size f (.ref c') cl)) _ _;have kb:∀b o,base.get? b=some o->h₁.get? b=some o:=λ b o e=>hk₁ b o (e0.bs b o e).1
 have I:Inv (cxL P w K mg base N q scope cl f (.ref c') A outer s H E) [] σ H {s with heap:=h₁,toks:=s.toks+(([]:List Str).zip us).length}:=by
  refine⟨⟨e0.mod,S.kind,rfl,rfl,zAS _,cp.inj,λ x hx=>?_,λ x c z=>absurd z zA3,λ _=>hr.hd,zHW e0.frames,.inr ⟨rfl,rfl⟩,λ b z=>(nomatch z),e0.bs,e0.bsz,λ b _ _=>λ z=>(nomatch z),λ b z=>(nomatch z),e0.funs,e0.frf⟩,
   rfl,e0.bare,Un.kept hk₁,⟨_,hns,λ i x v e1 e2 e3=>?_⟩,λ x c e=>?_,e0.hok.fresh (zAS _),λ x c e=>?_,λ p hp=>(nomatch hp),e0.hok.kept hk₁,cp.len,λ p hp=>(nomatch hp)⟩
  ·rcases hx with z|z
   ·exact absurd rfl (S.cell _ (zAh z))
   ·exact cp.has x z
  ·rcases e3 with z|z|z
   ·exact absurd rfl (S.loc _ (zAh z))
   ·exact absurd rfl (S.cell _ (zAh z))
   ·obtain⟨c,u,c1,c2,c3⟩:=cp.val i x v e1 e2 z
    exact⟨u,c2,.inr ⟨.inr z,c,c1,c3.keeps kb⟩⟩
  ·obtain⟨v,z⟩:=cp.cell x c e
   exact⟨v,z.keeps kb⟩
  ·obtain⟨v,o,z,_⟩:=cp.cell x c e
   exact(e0.bs c o z).2
 refine PySem.W.kla_codeExpr (zAy (hpe [] _ σ H _ I hte) (λ u s' hq=>?_) λ e s' hq=>hq);obtain⟨v,H',J,rv,q⟩:=hq;exact⟨v,H',J.os,J.bare,J.base,J.hok,rv,q⟩
def bse(X:Cx)(s:zAF)(H:Hp):Heap:=zBf s.heap (trk s.heap H++frs X.stack)
section
variable{X:Cx}{pins:List (Addr×Obj)}{σ:St}{H:Hp}{s:zAF}
theorem aFu{b:Addr}{o:Obj}(e:s.heap.get? b=some o)(n:H b=none)(nf:b∉frs X.stack):(bse X s H).get? b=some o:=
 zCC _ e λ hm=>by
  rcases zAm.mp hm with z|z
  ·have q:(H b).isSome=true:=(zBN.mp z).2
   rw[n]at q;cases q
  ·exact nf z
theorem aNb{b:Addr}{o:Obj}(e:(bse X s H).get? b=some o):s.heap.get? b=some o/\H b=none:=by
 have e1:=zDY _ e;refine⟨e1,?_⟩;cases q:H b with
 |none=>rfl
 |some u=>
  have hm:b∈trk s.heap H++frs X.stack:=zAX _ (zBN.mpr ⟨zBO.mpr (zAQ e1),by rw[q];rfl⟩);have z:(zBf s.heap (trk s.heap H++frs X.stack)).get? b=none:=zDz _ hm;have e2:(zBf s.heap (trk s.heap H++frs X.stack)).get? b=some o:=e;rw[z]at e2;cases e2
theorem Inv.env1(I:Inv X pins σ H s):aDk X.prog X.w X.K X.mg (bse X s H) X.A X.stack s H:=by
 have kb:∀b o,X.base.get? b=some o->(bse X s H).get? b=some o:=λ b o e=>aFu (I.bs b o e).1 (I.bs b o e).2 λ hb=>by
  have z:=(I.stack.mem hb).1;rw[e]at z;cases z
 have ns:∀{b:Addr} {m:Str->Option Value},X.base.Ns b m->(bse X s H).Ns b m:=λ{b m} ⟨o,es,ep,e,r⟩=>⟨o,es,ep,kb _ _ e,r⟩
 refine⟨I.ok.frames,⟨I.mod.kin.keeps kb,ns I.mod.glob,?_,I.mod.nolimit.keeps kb⟩,λ b o e=>aNb e,zFS (zEA _ _),zGj I.stack λ env he a ha=>zA6 _ (zBs.mpr ⟨env,he,ha⟩),I.stkFree,I.hok,I.bare⟩;obtain⟨mb,h1,h2⟩:=I.mod.blt;exact⟨mb,ns h1,h2⟩
theorem aJx{CX:CXT}{k:Nat}{f:Addr}{fd:zAc}{ps:List Str}{sp:Sp}{E:XK}{Q:VK}{vs:List V}{us:List Value}(I:Inv X pins σ H s)(F:cW X.prog X.w X.K X.mg (bse X s H) CX k f fd ps sp)(hr:gD k X.A)(hb:Binds X.K fd ps [])(hx:tD CX X E)
  (r:Vals vs us)(h:sp vs H Q E):wpAny (model X.prog X.w) X.A (call (.ref f) us) (EP X pins σ Q) X.xe s:=by
 have hl:(us++[]).length=ps.length:=by rw[zAi,<-r.length];exact F.len _ _ _ _ h
 have hb':=hb s us I.kIn hl;rw[zAi]at hb';refine zHs (zDA (F.run X.A X.stack s H ⟨us,[]⟩ us vs Q E hr I.env1 hb' r h) λ r s' hq=>?_);cases r with
 |error e=>exact hx pins σ H s e s' I hq
 |ok fl=>
  cases fl with
  |ret u=>exact I.after hq
  |next=>exact zAO hq
  |brk=>exact zAO hq
  |cont=>exact zAO hq
theorem aNa{scope:Scope}(I:Inv X pins σ H s)(ho:X.outer=[])(S:za scope)(hfree:∀y∈scope.names,y.2= .free->X.env.kindOf y.1=some .cell\/X.env.kindOf y.1=some .free):aJ8 (bse X s H) X.N σ scope (bF scope X.env):=by
 have cb:∀x c v,X.env.cells.lookup x=some c->s.heap.IsCell c v->(bse X s H).IsCell c v:=λ x c v e ⟨o,h1,h2⟩=>⟨o,aFu h1 (I.freeC x c e) λ hb=>by
  rcases zAN.mp (I.stkSub c hb)with z|z
  ·exact I.cne x c e z
  ·have z2:c∈frs X.outer:=z
   rw[ho]at z2;exact absurd z2 (by simp[frs]),h2⟩
 have hk:∀x,scope.names.lookup x=some .free->X.env.kindOf x=some .cell\/X.env.kindOf x=some .free:=λ x hx=>hfree (x,.free) (zAh hx) rfl
 refine⟨λ x y c e1 e2=>I.ok.inj x y c (iM e1) (iM e2),λ x hx=>?_,λ x c e=>?_,λ i x v e1 e2 hx=>?_,I.len⟩
 ·obtain⟨c,hc⟩:=I.ok.has x (hk x hx)
  exact⟨c,uX hx hc⟩
 ·obtain⟨v,z⟩:=I.cell x c (iM e)
  exact⟨v,cb x c v (iM e) z⟩
 ·obtain⟨m,hn,hl⟩:=I.loc
  obtain⟨u,ru,hu⟩:=hl i x v e1 e2 ((hk x hx).elim (λ z=>.inr (.inl z)) λ z=>.inr (.inr z));rcases hu with ⟨k,_⟩|⟨_,c,ec,ic⟩
  ·rcases hk x hx with z|z
   ·exact absurd (k.symm.trans z) (by decide)
   ·exact absurd (k.symm.trans z) (by decide)
  ·exact⟨c,u,uX hx ec,ru,cb x c _ ec ic⟩
end
abbrev bmV:List Value:=[.type "ValueError",.type "Exception",.type "BaseException",.type "object"]
section
variable{prog:zA2}{w:World}{A:zAe}{E:Value->zAF->Prop}{h:Heap}{g:Array zHU}{d:Drawn}{t:Nat}{os:OsState}{a:Addr}{o:Obj}
 {nm q:Str}{C N:Addr}{bs bm:List Value}{hdct:Bool}{sn:List Str}{sub:List Value}{ab:Bool}{col:Option Bool}{dd:Option Addr}{k0 k1 k2 k3 k5:Option Value}{newId:String}{K:zAA}
theorem aD7{R:zE8->zAF->Prop}(hC:h.get? C=some (zER nm q C N bs bm hdct sn sub ab col dd k0 k1 k2 k3 k5 newId))(T:OwnTail h bmV bm)
  (hx:h.get? a=some o)(hc:o.cls= .ref C)(hq:R (.ok (.ret (.ref C))) ⟨h,g,d,t,os⟩):
  zBq (model prog w) A (.call (.builtin "getset_descriptor.__get__") ⟨[.builtin "object.__class__",.ref a,.ref C],[]⟩) R ⟨h,g,d,t,os⟩:=by
 have hT5:(⟨h,g,d,t,os⟩:zAF).TypeIs (.builtin "object.__class__") "getset_descriptor":=zEX;have hcB:(zB0 C::bm).contains (.type (".".intercalate ("object.__class__".cutAt '.').dropLast))=true:=by
  rw[F.owner_object_class,zEf,T.hasType (X:="object") (b:=true) (by decide+kernel)];rfl
 refine zEm zHd.plain F.entry_gs_get (zHd.check _ _ _ _ _ _ _ _ hT5 (F.args_gs_get _ _ _) ?_)
 repeat (any_goals (first|assumption|(with_reducible refine zCO hx ?_;rw[hc])|(with_reducible refine zDf hC ?_;rw[hcB])|wp_step))
 refine⟨zHu _ (by decide+kernel),zC9 F.entry_object_class ?_⟩
 repeat (any_goals (first|assumption|(with_reducible refine zCO hx ?_;rw[hc])|wp_step))
theorem aCI{M:Model}{nameV:Value}{Q:Unit->zAF->Prop}(hC:h.get? C=some (zER nm q C N bs bm hdct sn sub ab col dd k0 k1 k2 k3 k5 newId))(T:OwnTail h bmV bm)
  (hx:h.get? a=some o)(hc:o.cls= .ref C)(hq:Q () ⟨h,g,d,t,os⟩):wpAny M A (zHQ "BaseException.__getattribute__" ⟨[.ref a,nameV],[]⟩) Q E ⟨h,g,d,t,os⟩:=by
 have hk:builtinKind "BaseException.__getattribute__"=some .slot:=by decide+kernel
 have hsplit:splitId "BaseException.__getattribute__"=some ("BaseException","__getattribute__"):=by decide+kernel
 have hcB:(zB0 C::bm).contains (.type "BaseException")=true:=by rw[zEf,T.hasType (X:="BaseException") (b:=true) (by decide+kernel)];rfl
 have ha:=F.args_bexc_ga (.ref a) nameV;simp only[zHQ,hk,hsplit];refine zAD ?_
 ·unfold isInstance
  repeat (first|(with_reducible refine zCO hx ?_;rw[hc])|(with_reducible refine zDf hC ?_;rw[hcB])|wp_step)
  exact hq
theorem aAO{tk:Tok}{Q:Fin->zAF->Prop}(hC:h.get? C=some (zER nm q C N bs bm hdct sn sub ab col dd k0 k1 k2 k3 k5 newId))(T:OwnTail h bmV bm)(lk:∀M:Model,zEY M h (zGe (.ref C) "__class__") (some (.builtin "object.__class__")))
  (hx:h.get? a=some o)(hc:o.cls= .ref C)(hq:Q (.done (.ret (.ref C))) ⟨h,g,d,t,os⟩):
  wpAny (model prog w) A (zEM.«object.__getattribute__» ⟨[.ref a,.str "__class__" tk],[]⟩) Q E ⟨h,g,d,t,os⟩:=by
 have hT5:(⟨h,g,d,t,os⟩:zAF).TypeIs (.builtin "object.__class__") "getset_descriptor":=zEX;have f5:=zEX;have f6:=zHd.lookup;have f7:=F.slot_gs_set.lookup
 repeat (any_goals (first|assumption|(with_reducible refine zCO hx ?_;rw[hc])|with_reducible refine(lk _).here ?_|wp_step))
 refine aD7 hC T hx hc ?_
 repeat (any_goals (first|assumption|wp_step))
theorem aCH{Q:Option Value->zAF->Prop}(hC:h.get? C=some (zER nm q C N bs bm hdct sn sub ab col dd k0 k1 k2 k3 k5 newId))(T:OwnTail h bmV bm)(lk:∀M:Model,zEY M h (zGe (.ref C) "__class__") (some (.builtin "object.__class__")))
  (lg:∀M:Model,zEY M h (zGe (.ref C) "__getattribute__") (some (.builtin "BaseException.__getattribute__")))(ln:∀M:Model,zEY M h (zGe (.ref C) "__getattr__") none)
  (hx:h.get? a=some o)(hc:o.cls= .ref C)(hq:Q (some (.ref C)) ⟨h,g,d,t+1,os⟩):wpAny (model prog w) A (getAttr? (.ref a) "__class__") Q E ⟨h,g,d,t,os⟩:=by
 have by_exc:∀{E:Value->zAF->Prop} {t:Nat} {tk:Tok} {Q:Value->zAF->Prop},Q (.ref C) ⟨h,g,d,t,os⟩->wpAny (model prog w) A (getAttrBy (.ref a) (.str "__class__" tk) false) Q E ⟨h,g,d,t,os⟩:=by
  intro E t tk Q hq;have FB:=PySem.F.excAttr_ValueError;have f3:=FB.ga.bind (.ref a);have hx0:(false&&onTheHeap (zDm "BaseException.__getattribute__"))=false:=rfl;have hx2:(zDm "BaseException.__getattribute__"==zDm "object.__getattribute__")=false:=by decide+kernel
  have hx1:(onTheHeap (zB0 C)&&zDm "BaseException.__getattribute__"==zDm "object.__getattribute__")=false:=by rw[hx2];rfl
  repeat (any_goals (first|assumption|(with_reducible refine zCO hx ?_;rw[hc])|with_reducible refine(lg _).here ?_|with_reducible refine(ln _).here ?_|wp_step))
  refine zEm FB.ga.plain F.entry_bexc_ga (aCI hC T hx hc (aAO hC T lk hx hc ?_))
  repeat (any_goals (first|assumption|wp_step))
 unfold getAttr? getAttrBy?
 repeat (any_goals (first|assumption|with_reducible apply by_exc|wp_step))
theorem aIc(hE:jd K C)(ha:zBH K (.ref C) "__class__"=some (some (.builtin "object.__class__")))(hgt:zBH K (.ref C) "__getattribute__"=some (some (.builtin "BaseException.__getattribute__")))
  (hga:zBH K (.ref C) "__getattr__"=some none):PySem.W.KitX K (.ref a) (.ref C) (λ h=>∃o,h.get? a=some o/\o.cls= .ref C) where
 ty:=λ M h _ ⟨o,h1,h2⟩=>h2▸(zJS h1).andThen .now
 it:=λ M h X _=>by
  obtain⟨bm,NN,nm,q,bs,hdct,sn,sub,ab,col,dd,k0,k1,k2,k3,k5,mN,hC,_⟩:=(vD (h:=h) (mg:=λ _=>some (.ref C)) (x:="x") X rfl hE).obj;intro A' Q' E' s' k q;unfold isType loadHead;exact zAD (wpAny_loadPart (k _ _ hC) (zAR q))
 ne:=λ h tp dd its n sl X htp=>by
  obtain⟨bm,NN,nm,q,bs,hdct,sn,sub,ab,col,dd,k0,k1,k2,k3,k5,mN,hC,_⟩:=(vD (h:=h) (mg:=λ _=>some (.ref C)) (x:="x") X rfl hE).obj;refine Bool.eq_false_iff.mpr λ z=>?_
  have e:C=tp:=Value.ref.inj (beq_iff_eq.mp z);subst e;rw[hC]at htp;exact absurd (congrArg Obj.cls (zAa htp)) (by show zCj "type"≠zCj "tuple";decide+kernel)
 ca:=λ{prog w A E Q s} X ⟨o,h1,h2⟩ k=>by
  obtain⟨h,g,d,t,os⟩:=s;obtain⟨bm,NN,nm,q,bs,hdct,sn,sub,ab,col,dd,k0,k1,k2,k3,k5,mN,hC,hN,hni,T⟩:=(vD (h:=h) (mg:=λ _=>some (.ref C)) (x:="x") X rfl hE).obj;exact aCH hC T (λ M=>zDM X ha) (λ M=>zDM X hgt) (λ M=>zDM X hga) h1 h2 k
end
def excφ(a C:Addr):Heap->Prop:=λ h=>∃o,h.get? a=some o/\o.cls= .ref C
theorem excφ_stay{a C:Addr}:∀h1 h2:Heap,excφ a C h1->(∀o,h1.get? a=some o->h2.get? a=some o)->excφ a C h2:=λ h1 h2 ⟨o,e,c⟩ k=>⟨o,k o e,c⟩
structure aLZ(K:zAA)(C:Addr):Prop where
 ex:jd K C
 ca:zBH K (.ref C) "__class__"=some (some (.builtin "object.__class__"))
 gt:zBH K (.ref C) "__getattribute__"=some (some (.builtin "BaseException.__getattribute__"))
 ga:zBH K (.ref C) "__getattr__"=some none
section
variable{X:Cx}
def aLc(K:zAA):List V->Hp->VK->Prop:=λ xs H Q=>∃a C y c b,xs=[.ref a,y]/\RelV y c/\H a=some (.ext (excφ a C))/\aLZ K C/\zBd K (.ref C) c=some b/\Q (.bl b) H
theorem aGr:dD X (.builtin "isinstance") (aLc X.K):=by
 intro pins s σ H xs us Q I r h;obtain⟨a,C,y,c,b,rfl,ry,ha,kc,e,q⟩:=h;obtain⟨u,w',rfl,r1,r2⟩:=vals2 r;cases r1;have hc:w'=c:=by
  cases y<;>first
   |(cases r2;cases ry;rfl)
   |(obtain⟨t1,rfl⟩:=r2;obtain⟨t2,rfl⟩:=ry;exact absurd e (by simp[zBd,PySem.W.kitCls]))
 subst hc;obtain⟨p,_⟩:excφ a C s.heap/\_:=I.hok a _ ha;exact zBF (aIc kc.ex kc.ca kc.gt kc.ga) I.kIn p e (λ z=>nomatch z) λ tk=>⟨.bl b,H,I.tok tk,rfl,q⟩
end
abbrev Cx.re(X:Cx)(A:zAe)(c:Bool)(pl:List (Addr×Obj))(E:Value->zAF->Prop):Cx:={X with A:=A,calm:=c,pn:=X.pn++pl,xe:=E}
section
variable{X:Cx}{pins:List (Addr×Obj)}{σ:St}{H:Hp}{s:zAF}
theorem Inv.re{A:zAe}{c:Bool}{E:Value->zAF->Prop}(I:Inv X pins σ H s)(hf:A.frames=X.A.frames)(hd:c=true->A.handled=none):Inv (X.re A c pins E) [] σ H s:=
 ⟨⟨I.ok.mod,I.ok.kind,I.ok.glob,I.ok.blt,I.ok.above,I.ok.inj,I.ok.has,I.ok.cab,hd,hf.trans I.ok.frames,I.ok.stk,I.ok.exf,I.ok.bs,I.ok.bsz,I.ok.noex,I.ok.exfs,I.ok.funs,I.ok.frf⟩,
  I.os,I.bare,I.base,I.loc,I.cell,I.free,I.freeC,λ p hp=>I.pin p (by rw[zAi]at hp;exact hp),I.hok,I.len,λ p hp=>let⟨a,b,c,d,e⟩:=I.tab p hp;⟨a,b,c,λ q hq=>d q (by rw[zAi]at hq;exact hq),e⟩⟩
theorem Inv.unre{A:zAe}{c:Bool}{E:Value->zAF->Prop}{pins2:List (Addr×Obj)}{σ2:St}{H2:Hp}{s2:zAF}(ok:X.Ok)(J:Inv (X.re A c pins E) pins2 σ2 H2 s2):Inv X pins σ2 H2 s2:=
 ⟨ok,J.os,J.bare,J.base,J.loc,J.cell,J.free,J.freeC,λ p hp=>J.pin p (zAX _ hp),J.hok,J.len,λ p hp=>let⟨a,b,c,d,e⟩:=J.tab p hp;⟨a,b,c,λ q hq=>d q (zAX _ hq),e⟩⟩
theorem Inv.track{a:Addr}{o:HO}(I:Inv X pins σ H s)(ha:H a=none)(h0:X.s₀.heap.get? a=none)(hL:X.env.locals≠a)(hc:∀x c,X.env.cells.lookup x=some c->c≠a)(hp:∀p∈X.ta++(X.pn++pins),p.1≠a)
  (new:cj X.prog X.w (upd H a o) s.heap a o):Inv X pins σ (upd H a o) s:=by
 have ne:∀b u,H b=some u->b≠a:=λ b u e=>bc e ha
 refine⟨I.ok,I.os,I.bare,⟨I.base.keep,I.base.slot,λ b ob e n nx=>?_,I.base.there,λ b xs e=>?_,λ b ob u e=>?_,λ b ps e=>?_⟩,I.loc,I.cell,?_,λ x c e=>?_,λ p hp'=>?_,λ b u e=>?_,I.len,λ p hp'=>?_⟩
 ·rw[aj (λ z=>by rw[z,h0]at e;cases e)]
  exact I.base.free b ob e n nx
 ·have e1:=I.base.tups b xs e
  rw[aj (ne b _ e1)];exact e1
 ·have e1:=I.base.frzs b ob u e
  rw[aj (ne b _ e1)];exact e1
 ·obtain⟨m,e1⟩:=I.base.tbls b ps e
  exact⟨m,by rw[aj (ne b _ e1)];exact e1⟩
 ·rw[aj hL];exact I.free
 ·rw[aj (hc x c e)];exact I.freeC x c e
 ·obtain⟨p1,p2,p3⟩:=I.pin p hp'
  exact⟨p1,by rw[aj (hp p (zA6 _ hp'))];exact p2,p3⟩
 ·by_cases hb:b=a
  ·subst hb;rw[bH]at e;cases e;exact new
  ·rw[aj hb]at e
   exact(I.hok b u e).stay (λ c v _ q=>q) (λ c q=>by rw[aj (ne c _ q)];exact q) λ c xs q=>by rw[aj (ne c _ q)];exact q
 ·obtain⟨n1,n2,n3,n0,ps,n4,n5⟩:=I.tab p hp'
  exact⟨by rw[aj (hp p (zAX _ hp'))];exact n1,n2,n3,n0,ps,n4,n5.mono λ b o u e=>by rw[aj (ne b _ e)];exact e⟩
theorem Inv.gone{i:Nat}{n:Str}{h':Heap}{m:Str->Option Value}{v:Option Value}{tk:Nat}(I:Inv X pins σ H s)(hN:X.N.Nodup)(hi:X.N[i]? =some n)(hm:s.heap.Ns X.env.locals m)(hn:h'.Ns X.env.locals λ x=>if x=n then v else m x)(hs:zD2 X.env.locals s.heap h'):
  Inv X pins (σ.set i none) H {s with heap:=h',toks:=tk}:=by
 obtain⟨m0,hm0,hl⟩:=id I.loc;have cne:=I.cne;have em:m0=m:=by
  obtain⟨o1,es1,ep1,e1,d1,k1⟩:=hm0;obtain⟨o2,es2,ep2,e2,d2,k2⟩:=hm;rw[e1]at e2;cases e2;rw[d1]at d2;cases d2;funext x;exact(k1.2 x).symm.trans (k2.2 x)
 subst em;obtain⟨oL,_,_,hoL,_⟩:=id hm0;have keep:∀b o,b≠X.env.locals->s.heap.get? b=some o->h'.get? b=some o:=λ b o nb e=>(hs.2 b nb).trans e
 refine⟨I.ok,I.os,I.bare,⟨λ b o e n' hb hx=>?_,λ b o e n' hb hx=>?_,I.base.free,λ b o e hx=>?_,I.base.tups,I.base.frzs,I.base.tbls⟩,⟨_,hn,λ j y v' e1 e2 e3=>?_⟩,λ y c e=>?_,I.free,I.freeC,λ p hp=>?_,λ b u e=>?_,by simpa using I.len,λ p hp=>?_⟩
 ·exact keep b o (zA0 (zAU (zAQ e) I.ok.above)) (I.base.keep b o e n' hb hx)
 ·obtain⟨sl,e1⟩:=I.base.slot b o e n' hb hx
  exact⟨sl,keep b _ (zA0 (zAU (zAQ e) I.ok.above)) e1⟩
 ·obtain⟨o',e1⟩:=I.base.there b o e hx
  exact⟨o',keep b _ (zA0 (zAU (zAQ e) I.ok.above)) e1⟩
 ·have hj:j≠i:=λ z=>by
   subst z;rw[List.getElem?_set]at e2;simp at e2
  rw[zBK (zDL hj)]at e2;obtain⟨u,r,q⟩:=hl j y v' e1 e2 e3;refine⟨u,r,?_⟩;have yn:y≠n:=λ z=>hj (yV hN e1 (z▸hi))
  rcases q with ⟨k,e⟩|⟨k,c,e,z⟩
  ·exact .inl ⟨k,by simp[yn,e]⟩
  ·exact .inr ⟨k,c,e,z.sameBut hs (cne y c e)⟩
 ·obtain⟨v',z⟩:=I.cell y c e
  exact⟨v',z.sameBut hs (cne y c e)⟩
 ·obtain⟨p1,p2,p3,p4⟩:=I.pin p hp
  exact⟨keep _ _ p3 p1,p2,p3,p4⟩
 ·refine(I.hok b u e).stay (λ c v' hc q=>keep c v' ?_ q) (λ _ q=>q) λ _ _ q=>q
  rintro rfl;rcases hc with z|z
  ·rw[<-z,I.free]at e;cases e
  ·rw[I.free]at z;cases z
 ·obtain⟨n1,n2,n3,n0,ps,n4,n5⟩:=I.tab p hp
  exact⟨n1,n2,n3,n0,ps,keep _ _ n2 n4,n5⟩
end
section
variable{M:Model}{A:zAe}{E:Value->zAF->Prop}{h:Heap}{g:Array zHU}{d:Drawn}{t:Nat}{os:OsState}
variable{nm q:Str}{C N:Addr}{bs bm:List Value}{hdct:Bool}{sn:List Str}{sub:List Value}{ab:Bool}{col:Option Bool}{dd:Option Addr}{k0 k1 k2 k3 k5:Option Value}{newId:String}
variable{nm' q':Str}{C' N':Addr}{bs' bm':List Value}{hdct':Bool}{sn':List Str}{sub':List Value}{ab':Bool}{col':Option Bool}{dd':Option Addr}{k0' k1' k2' k3' k5':Option Value}{newId':String}
theorem zM{e:Addr}{oe:Obj}{Q:Bool->zAF->Prop}(hC:h.get? C=some (zER nm q C N bs bm hdct sn sub ab col dd k0 k1 k2 k3 k5 newId))(hC':h.get? C'=some (zER nm' q' C' N' bs' bm' hdct' sn' sub' ab' col' dd' k0' k1' k2' k3' k5' newId'))
  (he:h.get? e=some oe)(hcls:oe.cls= .ref C)(hb':bm'.contains (.type "BaseException")=true)(hs:(zB0 C::bm).contains (.ref C')=true)
  (hq:Q true ⟨h,g,d,t,os⟩):wpAny M A (excMatches (.ref e) (.ref C')) Q E ⟨h,g,d,t,os⟩:=by
 have hcB:(zB0 C'::bm').contains (.type "BaseException")=true:=by rw[zEf,hb',zJJ]
 have f:=tc_notTuple;unfold excMatches
 repeat (first|(with_reducible refine zCO he ?_;rw[hcls])|with_reducible refine zCO hC' ?_|(with_reducible refine zDf hC' ?_;rw[hcB])|(with_reducible refine zDf hC ?_;rw[hs])|wp_step)
 exact hq
end
theorem cj.there{P:zA2}{w:World}{H:Hp}{h:Heap}{a:Addr}{o:HO}(x:cj P w H h a o):∃ob,h.get? a=some ob:=by
 cases o with
 |lst xs=>obtain⟨_,_,_,_,e⟩:=x;exact⟨_,e⟩
 |tup xs=>
  obtain⟨_,_,_,p⟩:=x;obtain⟨o,e,_⟩:=p;exact⟨_,e⟩
 |dK kvs=>obtain⟨_,_,_,_,o,_,_,e,_⟩:=x;exact⟨_,e⟩
 |dT kvs=>obtain⟨_,_,_,_,o,_,_,e,_⟩:=x;exact⟨_,e⟩
 |set S n=>obtain⟨o,_,_,_,e,_⟩:=x;exact⟨_,e⟩
 |ins C dx fs=>obtain⟨_,_,_,e,_⟩:=x;exact⟨_,e⟩
 |own y=>exact x
 |xd fs=>obtain⟨_,⟨_,_,_,e,_⟩,_⟩:=x;exact⟨_,e⟩
 |rng lo hi=>obtain⟨_,_,_,e⟩:=x;exact⟨_,e⟩
 |frz ob u=>obtain⟨e,_⟩:=x;exact⟨_,e⟩
 |tbl ps=>exact⟨_,show h.get? a=some _ from x⟩
 |met f y=>exact⟨_,show h.get? a=some _ from x⟩
 |ext φ=>obtain⟨_,e,_⟩:=x;exact e
def vV(K:zAA)(C C':Addr):Bool:=
 match K.lookup C with
 |some ⟨_,_,.cls cd,_⟩=>cd.mro.contains (.ref C')
 |_=>false
abbrev Cx.tr(X:Cx)(pins:List (Addr×Obj))(E':XK):Cx:=X.re X.A true pins λ e s'=>∃σ H s,Inv X pins σ H s/\CX1 X.prog X.w X.stack H s E' e s'
abbrev Cx.ha(X:Cx)(pins:List (Addr×Obj))(ea:Addr):Cx:=X.re (X.A.mark (some (.ref ea))) false pins λ _ _=>False
def aHC(X:Cx)(i:Nat)(C':Addr)(E':XK)(tb th:TS):TS:=λ D σ H=>tb D σ H/\∀cls H1,E' cls none H1->∃C,cls= .ref C/\jd X.K C/\vV X.K C C'=true/\∀(σ1:St) (ea:Addr),σ1.length=X.N.length->H1 ea=none->
 th {nx:=λ σ' H'=>D.nx (σ'.set i none) H',rt:=D.rt,bk:=λ σ' H'=>D.bk (σ'.set i none) H',ct:=λ σ' H'=>D.ct (σ'.set i none) H'} (σ1.set i (some (.ref ea))) (upd H1 ea (.ext (excφ ea C)))
section
variable{X:Cx}{E E':XK}
theorem Cx.tr_ok{pins:List (Addr×Obj)}(J:(X.tr pins E').Ok):X.Ok:=
 ⟨J.mod,J.kind,J.glob,J.blt,J.above,J.inj,J.has,J.cab,λ _=>J.hd rfl,J.frames,J.stk,J.exf,J.bs,J.bsz,J.noex,J.exfs,J.funs,J.frf⟩
theorem Cx.tr_pass{pins:List (Addr×Obj)}:tD (CX1 X.prog X.w) (X.tr pins E') E':=λ pins2 σ H s e s' I h=>⟨σ,H,s,Inv.unre (Cx.tr_ok I.ok) I,h⟩
theorem aHp(D:fJ X E)(hc:X.calm=true)(hN:X.N.Nodup){i:Nat}{n:Str}(hi:X.N[i]? =some n)(hl:X.env.scope.names.lookup n=some .local){x:Str}{C':Addr}(hm:X.mg x=some (.ref C'))(hg:Gl X x)(hC':jd X.K C')
  {body suite:List Stmt}{b₀:Stmt}{tb th:TS}{np hpos pos:Pos}(hb:∀pins,PSs (X.tr pins E') body tb)(hs:∀pins ea,PSs (X.ha pins ea) (b₀::suite) th)(hdb:(x==("__debug__":Str))=false:=by decide):
  PS X (.Try body [.ExceptHandler (some (.Name x np)) (some n) (b₀::suite) hpos] [] [] pos) (aHC X i C' E' tb th):=by
 intro pins s σ H DD I hh;obtain⟨h1,h2⟩:=hh;refine wpAny_Try_except (zAy (hb pins [] s σ H DD (I.re rfl λ _=>I.ok.hd hc) h1) (λ f s1 q=>?_) λ e s1 q=>?_)
 ·cases f with
  |next=>
   obtain⟨σ',H',J,q⟩:=q;exact zDe ⟨σ',H',Inv.unre I.ok J,q⟩
  |brk=>obtain⟨σ',H',J,q⟩:=q;exact⟨σ',H',Inv.unre I.ok J,q⟩
  |cont=>obtain⟨σ',H',J,q⟩:=q;exact⟨σ',H',Inv.unre I.ok J,q⟩
  |ret u=>obtain⟨v,σ',H',J,r,q⟩:=q;exact⟨v,σ',H',Inv.unre I.ok J,r,q⟩
 ·obtain⟨σ1,H1,s0,J,ea,cls,a0,B,H2,rfl,os,bare,un,hok,fly,bk,ba,hE⟩:=q
  obtain⟨C,rfl,hC,hsub,hth⟩:=h2 cls H2 hE;have hfr:=I.ok.frames;rw[D.stk]at hfr;have fly':=fly;rw[D.stk]at fly';have mk:∀hh:Heap,zJO B X.stack ea (.ref C) a0 hh->s1.heap.UpToSlots hh->Inv X pins σ1 H2 {s1 with heap:=hh}:=λ hh fl up=>by
   refine J.call' (ch:=[]) os ⟨λ b o e n nf _=>fl.1 b o (bk b o e n nf),λ b o e n hb _=>?_,un.free,λ b o e _=>?_,un.tups,un.frzs,un.tbls⟩ (λ a o e=>(hok a o e).stay (λ b u _ q=>fl.1 b u q) (λ _ z=>z) λ _ _ z=>z) bare (λ b z=>nomatch z)
   ·obtain⟨s2,e2⟩:=un.slot b o e n hb (λ z=>nomatch z)
    obtain⟨_,o3,e3,nf⟩:=fly.2.2.1.mem hb;rw[e2]at e3;cases e3;obtain⟨s4,e4⟩:=up b _ e2 nf;exact⟨s4,e4⟩
   ·by_cases hb:b∈frs X.stack
    ·obtain⟨_,o3,e3,nf⟩:=fl.2.2.1.mem hb
     exact⟨o3,e3⟩
    ·obtain⟨o',e'⟩:=ba b o e hb
     exact⟨o',fl.1 b o' e'⟩
  refine wpAny_looks_onW hfr D.fr fly' λ h3 held up3=>?_
  refine wpAny_landsW held λ h4 fly4 up4=>?_
  rw[<-D.stk]at fly4;have J4:=mk h4 fly4 (up3.trans up4);have K4:Inv (X.ha pins ea) [] σ1 H2 {s1 with heap:=h4}:=J4.re rfl (λ z=>nomatch z);obtain⟨ob4,he4,hc4⟩:=fly4.there;obtain⟨tl,NN,nm,q,bs,hdct,sn,sub,ab,col,dd,k0,k1,k2,k3,k5,mN,hCo,hNn,hni,T⟩:=(vD (h:=h4) (mg:=λ _=>some (.ref C)) (x:="x") J4.kIn rfl hC).obj;obtain⟨tl',NN',nm',q',bs',hdct',sn',sub',ab',col',dd',k0',k1',k2',k3',k5',mN',hCo',hNn',hni',T'⟩:=(vD (h:=h4) (mg:=λ _=>some (.ref C')) (x:="x") J4.kIn rfl hC').obj;have hmro:(zB0 C::tl).contains (.ref C')=true:=by
   unfold vV at hsub;split at hsub
   ·rename_i oc od cd sl ho
    have e:=J4.kIn _ _ ho;have e2:(some _:Option Obj)=some _:=e.symm.trans hCo;injection e2 with e2
    have e3:=congrArg Obj.data e2;injection e3 with e3
    subst e3;exact hsub
   ·cases hsub
  refine wpAny_handleBy_cons (codeAny_handlers_test (qb (X:=X.ha pins ea) K4 hg hm ?_ hdb)) (by intro q;cases q);refine zM hCo hCo' he4 hc4 (T'.hasType (X:="BaseException") (b:=true) (by decide+kernel)) hmro ?_;refine codeAny_handlers_suite_as ?_;refine lands_againW fly4 λ h5 fly5 up5=>?_
  have J5:=mk h5 fly5 ((up3.trans up4).trans up5);obtain⟨f1,f2,f3,oe,vs,T5,oT,ts,he5,⟨hcl5,h05⟩,hd5,_⟩:=id fly5;have nof:ea∉frs X.stack:=λ z=>by
   obtain⟨_,o3,e3,nf⟩:=f3.mem z;rw[he5]at e3;cases e3;exact nf vs hd5
  have inB:∀b o,s0.heap.get? b=some o->b∉frs X.stack->b≠ea:=λ b o e nf z=>by
   obtain⟨o',e'⟩:=ba b o e nf;rw[z,f2]at e';cases e'
  have hL:X.env.locals∈frs X.stack:=by
   rw[D.stk];unfold frs;rw[zBS,D.fr];exact zAI
  have h2n:H2 ea=none:=by
   cases e:H2 ea with
   |none=>rfl
   |some o=>
    obtain⟨ob,e'⟩:=(hok ea o e).there;rw[f2]at e';cases e'
  have J6:Inv X pins σ1 (upd H2 ea (.ext (excφ ea C))) {s1 with heap:=h5}:=by
   refine J5.track h2n ?_ (λ z=>nof (z▸hL)) (λ y c e z=>?_) (λ p hp z=>?_) ⟨⟨oe,he5,hcl5⟩,⟨oe,he5⟩,excφ_stay⟩
   ·cases e:X.s₀.heap.get? ea with
    |none=>rfl
    |some o=>
     obtain⟨o',e'⟩:=J.base.there ea o e (by rw[D.ex];exact λ z=>nomatch z);exact absurd rfl (inB ea o' e' nof)
   ·obtain⟨v,o,ho,hd⟩:=J5.cell y c e
    rw[z]at ho;have e2:some o=some oe:=ho.symm.trans he5;cases e2;rw[hd]at hd5;cases hd5
   ·have hh:∃o,s0.heap.get? p.1=some o/\p.1≠X.env.locals/\p.1∉X.fs:=by
     rcases zAm.mp hp with z|z
     ·obtain⟨_,a,b,_,_,c,_⟩:=J.tab p z
      exact⟨_,c,a,b⟩
     ·obtain⟨p1,p2,p3,p4,_⟩:=J.pin p z
      exact⟨_,p1,p3,p4⟩
    obtain⟨o,p1,p3,p4⟩:=hh;refine inB p.1 o p1 (λ w=>?_) z;rcases zAN.mp (J.stkSub p.1 w)with z|z
    ·exact p3 z
    ·exact p4 z
  have K6:Inv (X.ha pins ea) [] σ1 (upd H2 ea (.ext (excφ ea C))) {s1 with heap:=h5}:=J6.re rfl (λ z=>nomatch z);refine tM (X:=X.ha pins ea) (v:=.ref ea) K6 hN hi (.inl hl) rfl (λ s7 I7=>?_) (.inr hl);refine zAy (hs pins ea [] s7 _ _ _ I7 (hth σ1 ea J.len h2n)) (λ f s8 q8=>?_) λ _ _ z=>z.elim
  have goes:∀{σ':St} {H':Hp} {Q:zAF->Prop},Inv (X.ha pins ea) [] σ' H' s8->(∀s9,Inv X pins (σ'.set i none) H' s9->Q s9)->
    wpAny (model X.prog X.w) X.A (do bindName X.env n .none;unbindBehindTheSuite X.env n hpos) (λ _ s9=>Q s9) X.xe s8:=λ{σ' H' Q} K8 k=>by
   have J8:Inv X pins σ' H' s8:=Inv.unre I.ok K8;obtain⟨m,hmm,_⟩:=id J8.loc;refine wpAny_nameGoes_keeps hl hmm (by rw[I.ok.kind];rfl) λ h' v hn hsb=>k _ (Inv.gone J8 hN hi hmm hn hsb)
  cases f with
  |next=>obtain⟨σ',H',K8,q⟩:=q8;exact goes K8 λ s9 J9=>⟨_,_,J9,q⟩
  |brk=>obtain⟨σ',H',K8,q⟩:=q8;exact goes K8 λ s9 J9=>⟨_,_,J9,q⟩
  |cont=>obtain⟨σ',H',K8,q⟩:=q8;exact goes K8 λ s9 J9=>⟨_,_,J9,q⟩
  |ret u=>obtain⟨v,σ',H',K8,r,q⟩:=q8;exact goes K8 λ s9 J9=>⟨v,_,_,J9,r,q⟩
end
structure lY(k:Nat)(A:zAe):Prop where
 dp:A.depth+3*k+5<zEz
 un:A.units+16*k+200<cLine
theorem gD.h{k:Nat}{A:zAe}(r:gD k A):lY k A:=⟨r.dp,r.un⟩
theorem lY.mark{k:Nat}{A:zAe}{v:Option Value}(r:lY k A):lY k (A.mark v):=⟨r.dp,r.un⟩
theorem lY.mono{j k:Nat}{A:zAe}(r:lY k A)(h:j<=k):lY j A:=⟨by have:=r.dp;omega,by have:=r.un;omega⟩
theorem lY.deeper{k:Nat}{A:zAe}(r:lY (k+1) A)(env:Env):lY k (A.deeper env):=
 ⟨by have:=r.dp;show A.depth+1+3*k+5<_;omega,by have:=r.un;show A.units+3+16*k+200<_;omega⟩
theorem lY.depth{k:Nat}{A:zAe}(r:lY k A):A.depth<zEz:=by have:=r.dp;omega
abbrev aJV(A:zAe):zAe:={A with handled:=none}
structure FnH(P:zA2)(w:World)(K:zAA)(mg:Str->Option Value)(base:Heap)(k:Nat)(f:Addr)(fd:zAc)(ps:List Str)(sp:Sp):Prop where
 len:∀vs H Q E,sp vs H Q E->vs.length=ps.length
 run:∀(A:zAe) (outer:List Env) (s:zAF) (H:Hp) (args:Args) (us:List Value) (vs:List V) (Q:VK) (E:XK),lY k A->aDk P w K mg base A outer s H->zHt s fd args (ps.zip us)->Vals vs us->sp vs H Q E->
  zBq (model P w) A (.call (.ref f) args) (CR CX0 outer P w H s Q E) s
abbrev cxH(P:zA2)(w:World)(K:zAA)(mg:Str->Option Value)(base:Heap)(N:List Str)(q:Str)(scope:Scope)(f:Addr)(cd:Value)(A:zAe)(outer:List Env)(s:zAF)(H:Hp):Cx:=
 (wj CX0 P w K mg base N q scope f cd (aJV A) outer s H λ _ _ _=>False).re (A.deeper (zCo q scope s.heap.objs.size f cd)) false [] λ _ _=>False
section
variable{P:zA2}{w:World}{K:zAA}{mg:Str->Option Value}{base:Heap}
theorem Fun.okH{x q:Str}{st:Stmt}{f:Addr}{fd:zAc}{N ps:List Str}{k:Nat}{sp:Sp}(F:Fun K x q st f fd)(S:aX N ps (aH st))(len:∀vs H Q E,sp vs H Q E->vs.length=ps.length)
  (hbody:∀(cdv:Value) (A:zAe) (outer:List Env) (s:zAF) (H:Hp) (vs:List V) (Q:VK) (E:XK),lY k (A.deeper (zCo q (aH st) s.heap.objs.size f cdv))->sp vs H Q E->
   ∃t,PSs (cxH P w K mg base N q (aH st) f cdv A outer s H) (eZ st) t/\t {nx:=λ _ H'=>Q .non H',rt:=Q} (start N vs) H):FnH P w K mg base (k+1) f fd ps sp:=by
 obtain⟨oc,od,kV,doc,pm,an,cdv,ct,osl,rfl,lk,hcd⟩:=F.ex;refine⟨len,λ A outer s H args us vs Q E hr e0 hb r hsp=>?_⟩;have KX:K.In s.heap:=e0.mod.kin.keeps λ b o e=>(e0.bs b o e).1
 have par:∀y∈ps.zip us,(aH st).names.lookup y.1=some .local\/((aH st).names.lookup y.1=some .cell/\((zCn (s.heap.objs.size+1) (aH st).names []).lookup y.1).isSome=true):=λ y hy=>
  (S.par y.1 (zCt (a:=y.1) (b:=y.2) hy).1).imp id λ z=>⟨z,zCu _ _ _ (.inl z)⟩
 refine zEa hr.depth (KX _ _ lk) rfl S.co S.gen rfl (zE0 KX hcd) (hb _ _ _ _ (zDn S.kind par λ env he s1 x=>?_));cases he;refine⟨(e0.mod.nolimit.keeps λ b o e=>(e0.bs b o e).1).keeps x.toInCall.keep,zIh ?_⟩;obtain⟨t,ht,hq⟩:=hbody cdv A outer s H vs Q E (hr.deeper _) hsp;have e1:aDk P w K mg base (aJV A) outer s H:=⟨e0.frames,e0.mod,e0.bs,e0.bsz,e0.funs,e0.frf,e0.hok,e0.bare⟩;have I0:Inv (wj CX0 P w K mg base N q (aH st) f cdv (aJV A) outer s H λ _ _ _=>False) [] (start N vs) H s1:=vP S rfl e1 (len _ _ _ _ hsp) r x;have I1:Inv (cxH P w K mg base N q (aH st) f cdv A outer s H) [] (start N vs) H s1:=I0.re rfl (λ z=>nomatch z);refine zAy (ht [] s1 (start N vs) H _ I1 hq) (λ fl s' hs=>?_) λ e s' hs=>hs.elim
 cases fl with
 |ret u=>obtain⟨v,σ',H',J,rv,q⟩:=hs;exact⟨v,H',J.os,J.bare,J.base,J.hok,rv,q⟩
 |next=>obtain⟨σ',H',J,q⟩:=hs;exact⟨.non,H',J.os,J.bare,J.base,J.hok,rfl,q⟩
 |brk=>obtain⟨_,_,_,q⟩:=hs;exact q.elim
 |cont=>obtain⟨_,_,_,q⟩:=hs;exact q.elim
end
section
variable{X:Cx}{k:Nat}{f:Addr}{fd:zAc}{ps:List Str}{sp:Sp}{dvs:List V}{ds:List Value}{E:XK}{x:Str}{p pos:Pos}{e:Expr}{es:List Expr}{t:TA}
theorem aIE(F:FnH X.prog X.w X.K X.mg X.base k f fd ps sp)(hr:lY k X.A)(hg:Gl X x)(hm:X.mg x=some (.ref f))(hk:zB5 X.K (.ref f)=true)(hb:Binds X.K fd ps ds)(hd:Vals dvs ds)
  (ha:PA X (e::es) t)(hdb:(x==("__debug__":Str))=false:=by decide)(he:zAZ (e::es) X.env=(false,eval e X.env)::zAZ es X.env:=by rfl)(hpl:(zC1 pos (zAZ es X.env)).any (·.1)=false:=by rfl):
  PE X (.Call (.Name x p) (e::es) [] pos) (aCZ sp dvs E t):=by
 intro pins s σ H Q I h;refine zBe (qb I hg hm (zEZ (h₀:=X.base) I.ok.mod.kin hk (thn (ha pos pins s σ H _ I h) λ us s1 hz=>?_) he hpl) hdb);obtain⟨vs,H1,I1,r,q⟩:=hz;refine⟨I1.kIn,zHs (zDA (F.run X.A X.stack s1 H1 ⟨us,[]⟩ (us++ds) (vs++dvs) Q E hr I1.env0 (hb s1 us I1.kIn ?_) (r.append hd) q) λ r' s' hq=>?_)⟩
 ·rw[<-(r.append hd).length];exact F.len _ _ _ _ q
 ·cases r' with
  |error e=>exact zAO hq
  |ok fl=>
   cases fl with
   |ret u=>exact I1.after hq
   |next=>exact zAO hq
   |brk=>exact zAO hq
   |cont=>exact zAO hq
end
def spW(wd:Addr->Option Str):Sp:=λ vs H Q _=>∃ea C w,vs=[.ref ea]/\H ea=some (.ext (excφ ea C))/\wd C=some w/\∀H',aY H H'->Q (.str w) H'
def spR(P:zA2)(w:World)(K:zAA)(mg:Str->Option Value)(base:Heap)(k0:Nat)(told:Str)(wd:Addr->Option Str):Sp:=λ vs H Q _=>∃f cls dd sl fd k sp,vs=[.ref f]/\H f=some (.frz ⟨cls,dd,.func fd,sl⟩ (.own f))/\cW P w K mg base (CX1 P w) k f fd [] sp/\k<=k0/\Binds K fd [] []/\
 sp [] H (λ _ H'=>Q (.str told) H') (λ c _ H1=>∃C wo,c= .ref C/\wd C=some wo/\∀H',aY H1 H'->Q (.str wo) H')
section
variable{X:Cx}{E:XK}{n0 n1 n2 few cn pe told:Str}{C' fc:Addr}{fdc:zAc}{kc k0:Nat}{wd:Addr->Option Str}
theorem aHa(D:fJ X E)(hc:X.calm=true)(hN:X.N=[n0,n1,n2])(nd:X.N.Nodup)(l0:X.env.scope.names.lookup n0=some .local)(l1:X.env.scope.names.lookup n1=some .local)(l2:X.env.scope.names.lookup n2=some .local)(hf:∀x,X.fn x=true)
  (hm:X.mg few=some (.ref C'))(hg:Gl X few)(hC':jd X.K C')(FC:FnH X.prog X.w X.K X.mg X.base kc fc fdc [pe] (spW wd))(hgc:Gl X cn)(hmc:X.mg cn=some (.ref fc))(hkc:zB5 X.K (.ref fc)=true)(hbc:Binds X.K fdc [pe] [])
  (hr:gD k0 X.A)(hkk:kc<=k0)(hw:∀C w,wd C=some w->jd X.K C/\vV X.K C C'=true){p1 p2 p3 p4 p5 p6 p7 p8 p9 p10 p11 p12 p13 p14 p15 p16:Pos}{j1:Nat}{vs:List V}{H:Hp}{Q:VK}{E0:XK}(h:spR X.prog X.w X.K X.mg X.base k0 told wd vs H Q E0)
  (d1:(few==("__debug__":Str))=false:=by decide)(d2:(cn==("__debug__":Str))=false:=by decide)(d3:(n0==("__debug__":Str))=false:=by decide)(d4:(n1==("__debug__":Str))=false:=by decide)(d5:(n2==("__debug__":Str))=false:=by decide)
  (d6:(n0==("__classdict__":Str))=false:=by decide)(d7:(n1==("__classdict__":Str))=false:=by decide)(d8:(n2==("__classdict__":Str))=false:=by decide):
  ∃t,PSs X [.Assign [.Name n1 p1] (.Constant (.str told) j1 p2) p3,.Try [.Expr (.Call (.Name n0 p4) [] [] p5) p6] [.ExceptHandler (some (.Name few p7)) (some n2) [.Assign [.Name n1 p8] (.Call (.Name cn p9) [.Name n2 p10] [] p11) p12] p13] [] [] p14,.Return (some (.Name n1 p15)) p16] t/\
   t {nx:=λ _ H'=>Q .non H',rt:=Q} (start X.N vs) H:=by
 obtain⟨f,cls,dd,sl,fd,k,sp,rfl,hH,F,hk,hb,hsp⟩:=h;have i0:X.N[0]? =some n0:=by rw[hN];rfl
 have i1:X.N[1]? =some n1:=by rw[hN];rfl
 have i2:X.N[2]? =some n2:=by rw[hN];rfl
 refine⟨_,gQ (oU nd i1 (.inl l1) gG (hf:=.inl (hf _))) (gQ (aHp (E':=λ c _ H1=>∃C wo,c= .ref C/\wd C=some wo/\∀H',aY H1 H'->Q (.str wo) H') D hc nd i2 l2 hm hg hC' (tb:=aAX (aDt X k0 0 λ c _ H1=>∃C wo,c= .ref C/\wd C=some wo/\∀H',aY H1 H'->Q (.str wo) H')) (th:=aC0 (aCZ (spW wd) [] E (jk (qt 2) pM)) (rK 1))
  (λ pins=>oR (tV (aHx (X:=X.tr pins _) hr Cx.tr_pass i0 (.inl l0) d3 d6))) (λ pins ea=>oR (oU (X:=X.ha pins ea) nd i1 (.inl l1) (aIE (X:=X.ha pins ea) FC ((hr.h.mono hkk).mark) hgc hmc hkc hbc .nil (bG (jC (X:=X.ha pins ea) i2 (.inl l2) d5 d8) dg) d2) (hf:=.inl (hf _)))) d1) (oR (yN (jC i1 (.inl l1) d4 d7)))),?_⟩
 have hs:start X.N [.ref f]=[some (.ref f),none,none]:=by rw[hN];rfl
 rw[hs];have e:(λ(_:V) H1=>Q (.str told) H1)=λ(_:V) H1=>aMG (qt 1) {nx:=λ _ H'=>Q .non H',rt:=Q} [some (.ref f),some (.str told),none] H1:=by
  funext v H1;exact propext ⟨λ q=>⟨_,rfl,q⟩,λ⟨v',e',q⟩=>by cases e';exact q⟩
 rw[e]at hsp;have key:aHC X 2 C' (λ c _ H1=>∃C wo,c= .ref C/\wd C=some wo/\∀H',aY H1 H'->Q (.str wo) H') (aAX (aDt X k0 0 λ c _ H1=>∃C wo,c= .ref C/\wd C=some wo/\∀H',aY H1 H'->Q (.str wo) H')) (aC0 (aCZ (spW wd) [] E (jk (qt 2) pM)) (rK 1))
  {nx:=aMG (qt 1) {nx:=λ _ H'=>Q .non H',rt:=Q},rt:=Q} [some (.ref f),some (.str told),none] H:=?_
 ·exact key
 refine⟨⟨f,cls,dd,sl,fd,k,sp,rfl,hH,F,hk,hb,hsp⟩,λ c H1 ⟨C,wo,ec,hwd,hq⟩=>⟨C,ec,(hw C wo hwd).1,(hw C wo hwd).2,λ σ1 ea hl hn=>?_⟩⟩
 ·rw[hN]at hl
  obtain⟨a,b,c,rfl⟩:∃a b c,σ1=[a,b,c]:=by
   match σ1,hl with
   |[a,b,c],_=>exact⟨a,b,c,rfl⟩
  refine⟨.ref ea,rfl,ea,C,wo,rfl,bH,hwd,λ H' sm=>⟨.str wo,rfl,hq H' λ b o e=>sm b o ?_⟩⟩;rw[aj (bc e hn)];exact e
end
mutual
def eqD:D->D->Bool
 | .non,.non=>true
 | .bl a,.bl b=>a==b
 | .bl a,.int b=>(if a then 1 else 0)==b
 | .int a,.bl b=>a==(if b then 1 else 0)
 | .int a,.int b=>a==b
 | .str a,.str b=>a==b
 | .tup l,.tup m=>gR l m
 | .lst l,.lst m=>gR l m
 |_,_=>false
def gR:List D->List D->Bool
 |[],[]=>true
 |x::xs,y::ys=>eqD x y&&gR xs ys
 |_,_=>false
end
mutual
def iT:D->Nat
 | .tup l=>cg l+1
 | .lst l=>cg l+1
 |_=>0
def cg:List D->Nat
 |[]=>0
 |d::r=>max (iT d) (cg r)
end
mutual
def aU:D->Bool
 | .tup l=>bB l
 | .lst l=>bB l
 | .dct=>false
 |_=>true
def bB:List D->Bool
 |[]=>true
 |d::r=>aU d&&bB r
end
mutual
theorem lO:∀d:D,aU d=true->eqD d d=true
 | .non,_=>by simp[eqD]
 | .bl b,_=>by simp[eqD]
 | .int i,_=>by simp[eqD]
 | .str x,_=>by simp[eqD]
 | .tup l,h=>by simp only[eqD];exact jE l (by simpa[aU]using h)
 | .lst l,h=>by simp only[eqD];exact jE l (by simpa[aU]using h)
 | .dct,h=>by simp[aU]at h
theorem jE:∀l:List D,bB l=true->gR l l=true
 |[],_=>by simp[gR]
 |d::r,h=>by
  simp only[bB,zAK]at h;simp only[gR,zAK];exact⟨lO d h.1,jE r h.2⟩
end
mutual
theorem Rep.inj{H:Hp}:∀{x:V} {d e:D},Rep H x d->Rep H x e->d=e
 |_,_,_,.non,h=>by cases h;rfl
 |_,_,_,.bl b,h=>by cases h;rfl
 |_,_,_,.int i,h=>by cases h;rfl
 |_,_,_,.str x,h=>by cases h;rfl
 |_,_,_,.tup ha r,h=>by
  cases h with
  |tup hb r'=>rw[ha]at hb;cases hb;rw[gw.inj r r']
  |lst hb _=>rw[ha]at hb;cases hb
  |dct hb=>rw[ha]at hb;cases hb
 |_,_,_,.lst ha r,h=>by
  cases h with
  |tup hb _=>rw[ha]at hb;cases hb
  |lst hb r'=>rw[ha]at hb;cases hb;rw[gw.inj r r']
  |dct hb=>rw[ha]at hb;cases hb
 |_,_,_,.dct ha,h=>by
  cases h with
  |tup hb _=>rw[ha]at hb;cases hb
  |lst hb _=>rw[ha]at hb;cases hb
  |dct hb=>rfl
theorem gw.inj{H:Hp}:∀{xs:List V} {ds es:List D},gw H xs ds->gw H xs es->ds=es
 |_,_,_,.nil,h=>by cases h;rfl
 |_,_,_,.cons h r,h'=>by
  cases h' with
  |cons k r'=>rw[Rep.inj h k,gw.inj r r']
end
theorem qN:∀(l m:List D),gR l m=((zAp (min l.length m.length)).all (λ j=>match l[j]?,m[j]? with|some a,some b=>eqD a b|_,_=>true)&&l.length==m.length)
 |[],[]=>by simp[gR]
 |[],y::ys=>by simp[gR]
 |x::xs,[]=>by simp[gR]
 |x::xs,y::ys=>by
  have ih:=qN xs ys;simp only[gR,ih,zAY,zIc,zHY,zCr,zH8,zBC,zE2,zAz,zHz,zIt,zEV];congr 1;congr 1;simp
theorem nQ:∀{l:List D} {d:D},d∈l->iT d<=cg l
 |x::r,d,h=>by
  simp only[cg];rcases zAN.mp h with rfl|h
  ·exact zEO _ _
  ·exact zAg (nQ h) (zDw _ _)
theorem gm:∀{l:List D} {d:D},d∈l->bB l=true->aU d=true
 |x::r,d,h,n=>by
  simp only[bB,zAK]at n;rcases zAN.mp h with rfl|h
  ·exact n.1
  ·exact gm h n.2
theorem dB{ds es:List D}{n m:Nat}(hn:n=ds.length)(hm:m=es.length):((zAp (min n m)).all (λ j=>match ds[j]?,es[j]? with|some a,some b=>eqD a b|_,_=>true)&&n==m)=gR ds es:=by
 subst hn hm;exact(qN ds es).symm
theorem iV{P:zA2}{w:World}{H:Hp}{h:Heap}(hok:HOk P w H h){a:Addr}{xs:List V}(e:H a=some (.tup xs)):∃its:List Value,Vals xs its/\h.IsTuple a its.toArray:=by
 obtain⟨_,its,r,p⟩:=hok a _ e;exact⟨its,r,p⟩
theorem gH{P:zA2}{w:World}{H:Hp}{h:Heap}(hok:HOk P w H h){a:Addr}{xs:List V}(e:H a=some (.lst xs)):∃its:List Value,Vals xs its/\h.IsList a its.toArray:=by
 obtain⟨_,its,n,r,p⟩:=hok a _ e;exact⟨its,r,_,p,rfl,n,rfl⟩
section
variable{P:zA2}{w:World}{H:Hp}{s:zAF}
mutual
theorem aCA(hok:HOk P w H s.heap):∀{x y:V} {d e:D} (n:Nat) {A:zAe} {u v:Value},Rep H x d->Rep H y e->RelV x u->RelV y v->iT d<=n->aU d=true->aU e=true->A.units+n<cLine->zDB A s u v (eqD d e)
 |_,_,_,_,n,A,u,v,r1,r2,ru,rv,hd,nd,ne,hu=>by
  have hu0:A.units<cLine:=by omega
  cases r1 with
  |tup h1 q1=>
   rename_i a xs ds;cases ru;obtain⟨its,w1,t1⟩:=iV hok h1;cases r2 with
   |tup h2 q2=>
    rename_i b ys es;cases rv;obtain⟨its2,w2,t2⟩:=iV hok h2;by_cases hab:a=b
    ·subst hab
     have e:=Rep.inj (Rep.tup h1 q1) (Rep.tup h2 q2);rw[<-e,lO _ nd];exact zCc _
    ·simp only[iT]at hd
     obtain⟨k,rfl⟩:∃k,n=k+1:=⟨n-1,by omega⟩
     have z:=zDZ t1 t2 hu0 (zO hok k q1 q2 w1 w2 (by omega) (by simpa[aU]using nd) (by simpa[aU]using ne) (by show A.units+1+k<cLine;omega));rw[dB (by rw[zAP,<-w1.length,q1.length]) (by rw[zAP,<-w2.length,q2.length])]at z;simp only[eqD];exact zCD hab z
   |lst h2 q2=>
    cases rv;obtain⟨its2,w2,t2⟩:=gH hok h2;simp only[eqD];exact zFt t1 t2 hu0
   |dct h2=>simp[aU]at ne
   |non=>cases rv;simp only[eqD];exact zFu t1 hu0
   |bl b=>cases rv;simp only[eqD];exact zFs b t1 hu0
   |int i=>obtain⟨tk,rfl⟩:=rv;simp only[eqD];exact zGS i tk t1 hu0
   |str i=>obtain⟨tk,rfl⟩:=rv;simp only[eqD];exact zGT i tk t1 hu0
  |lst h1 q1=>
   rename_i a xs ds;cases ru;obtain⟨its,w1,t1⟩:=gH hok h1;cases r2 with
   |lst h2 q2=>
    rename_i b ys es;cases rv;obtain⟨its2,w2,t2⟩:=gH hok h2;by_cases hab:a=b
    ·subst hab
     have e:=Rep.inj (Rep.lst h1 q1) (Rep.lst h2 q2);rw[<-e,lO _ nd];exact zCc _
    ·simp only[iT]at hd
     obtain⟨k,rfl⟩:∃k,n=k+1:=⟨n-1,by omega⟩
     have l1:its.toArray.size=ds.length:=by rw[zAP,<-w1.length,q1.length]
     have l2:its2.toArray.size=es.length:=by rw[zAP,<-w2.length,q2.length]
     by_cases hl:its.toArray.size=its2.toArray.size
     ·have z:=zD5 t1 t2 hl hu0 (zO hok k q1 q2 w1 w2 (by omega) (by simpa[aU]using nd) (by simpa[aU]using ne) (by show A.units+1+k<cLine;omega))
      have z':=dB (ds:=ds) (es:=es) l1 l2;rw[<-hl,zD6,beq_self_eq_true,zCp]at z';rw[z']at z;simp only[eqD];exact zCD hab z
     ·have z:=zC7 t1 t2 (by simpa using hl) hu0
      have z':=dB (ds:=ds) (es:=es) l1 l2;rw[beq_eq_false_iff_ne.mpr hl,zDF]at z';simp only[eqD];rw[<-z'];exact zCD hab z
   |tup h2 q2=>
    cases rv;obtain⟨its2,w2,t2⟩:=iV hok h2;simp only[eqD];exact zFq t1 t2 hu0
   |dct h2=>simp[aU]at ne
   |non=>cases rv;simp only[eqD];exact zGO t1 hu0
   |bl b=>cases rv;simp only[eqD];exact zGN b t1 hu0
   |int i=>obtain⟨tk,rfl⟩:=rv;simp only[eqD];exact zGp i tk t1 hu0
   |str i=>obtain⟨tk,rfl⟩:=rv;simp only[eqD];exact zGq i tk t1 hu0
  |dct h1=>simp[aU]at nd
  |non=>
   cases ru;cases r2 with
   |tup h2 q2=>cases rv;obtain⟨_,_,t2⟩:=iV hok h2;simp only[eqD];exact zFr t2 hu0
   |lst h2 q2=>cases rv;obtain⟨_,_,t2⟩:=gH hok h2;simp only[eqD];exact zGQ t2 hu0
   |dct h2=>simp[aU]at ne
   |non=>cases rv;simp only[eqD];exact zCc _
   |bl b=>cases rv;simp only[eqD];exact zGP b
   |int i=>obtain⟨tk,rfl⟩:=rv;simp only[eqD];exact zGr i tk
   |str i=>obtain⟨tk,rfl⟩:=rv;simp only[eqD];exact zGs i tk
  |bl a=>
   cases ru;cases r2 with
   |tup h2 q2=>cases rv;obtain⟨_,_,t2⟩:=iV hok h2;simp only[eqD];exact zFp a t2 hu0
   |lst h2 q2=>cases rv;obtain⟨_,_,t2⟩:=gH hok h2;simp only[eqD];exact zGK a t2 hu0
   |dct h2=>simp[aU]at ne
   |non=>cases rv;simp only[eqD];exact zGL a
   |bl b=>cases rv;simp only[eqD];exact zGJ a b
   |int i=>obtain⟨tk,rfl⟩:=rv;simp only[eqD];exact zGk a i tk
   |str i=>obtain⟨tk,rfl⟩:=rv;simp only[eqD];exact zGl a i tk
  |int a=>
   obtain⟨tu,rfl⟩:=ru;cases r2 with
   |tup h2 q2=>cases rv;obtain⟨_,_,t2⟩:=iV hok h2;simp only[eqD];exact zGM a tu t2 hu0
   |lst h2 q2=>cases rv;obtain⟨_,_,t2⟩:=gH hok h2;simp only[eqD];exact zGn a tu t2 hu0
   |dct h2=>simp[aU]at ne
   |non=>cases rv;simp only[eqD];exact zGo a tu
   |bl b=>cases rv;simp only[eqD];exact zGm a tu b
   |int i=>obtain⟨tk,rfl⟩:=rv;simp only[eqD];exact zEH a tu i tk
   |str i=>obtain⟨tk,rfl⟩:=rv;simp only[eqD];exact zEI a tu i tk
  |str a=>
   obtain⟨tu,rfl⟩:=ru;cases r2 with
   |tup h2 q2=>cases rv;obtain⟨_,_,t2⟩:=iV hok h2;simp only[eqD];exact zGR a tu t2 hu0
   |lst h2 q2=>cases rv;obtain⟨_,_,t2⟩:=gH hok h2;simp only[eqD];exact zGu a tu t2 hu0
   |dct h2=>simp[aU]at ne
   |non=>cases rv;simp only[eqD];exact zGv a tu
   |bl b=>cases rv;simp only[eqD];exact zGt a tu b
   |int i=>obtain⟨tk,rfl⟩:=rv;simp only[eqD];exact zEJ a tu i tk
   |str i=>obtain⟨tk,rfl⟩:=rv;simp only[eqD];exact zHL a tu i tk
 termination_by _ _ _ _ n=>(n,0)
theorem zO(hok:HOk P w H s.heap):∀{xs ys:List V} {ds es:List D} (n:Nat) {A:zAe} {us vs:List Value},gw H xs ds->gw H ys es->Vals xs us->Vals ys vs->cg ds<=n->bB ds=true->bB es=true->A.units+n<cLine->
  ∀(j:Nat) (h1:j<us.toArray.size) (h2:j<vs.toArray.size),zDB A s us.toArray[j] vs.toArray[j] (match ds[j]?,es[j]? with|some a,some b=>eqD a b|_,_=>true)
 |xs,ys,ds,es,n,A,us,vs,q1,q2,w1,w2,hd,nd,ne,hu,j,h1,h2=>by
  have hj1:j<us.length:=by simpa using h1
  have hj2:j<vs.length:=by simpa using h2
  have hx:j<xs.length:=by rw[w1.length];exact hj1
  have hy:j<ys.length:=by rw[w2.length];exact hj2
  have ex:=zAB hx;have ey:=zAB hy;obtain⟨d,ed,rd⟩:=q1.get ex;obtain⟨e,ee,re⟩:=q2.get ey;obtain⟨u,eu,ru⟩:=w1.get ex;obtain⟨v,ev,rv⟩:=w2.get ey;have e1:us.toArray[j]=u:=by
   rw[zDR];exact zAa ((zAB hj1).symm.trans eu)
  have e2:vs.toArray[j]=v:=by
   rw[zDR];exact zAa ((zAB hj2).symm.trans ev)
  rw[e1,e2,ed,ee];exact aCA hok n rd re ru rv (zAg (nQ (zAo ed)) hd) (gm (zAo ed) nd) (gm (zAo ee) ne) hu
 termination_by _ _ _ _ n=>(n,1)
end
theorem aEI(hok:HOk P w H s.heap){x y:V}{d e:D}(n:Nat){A:zAe}{u v:Value}(r1:Rep H x d)(r2:Rep H y e)(ru:RelV x u)(rv:RelV y v)(hd:iT d<=n)(nd:aU d=true)(ne:aU e=true)(hu:A.units+n<cLine):
  SeqAt.RcAt A s u v (eqD d e)/\zJF A s u v (!eqD d e):=by
 have hu0:A.units<cLine:=by omega
 cases r1 with
 |tup h1 q1=>
  rename_i a xs ds;cases ru;obtain⟨its,w1,t1⟩:=iV hok h1;cases r2 with
  |tup h2 q2=>
   rename_i b ys es;cases rv;obtain⟨its2,w2,t2⟩:=iV hok h2;simp only[iT]at hd;obtain⟨k,rfl⟩:∃k,n=k+1:=⟨n-1,by omega⟩
   have he:=zO hok (A:=A.in1) k q1 q2 w1 w2 (by omega) (by simpa[aU]using nd) (by simpa[aU]using ne) (by show A.units+1+k<cLine;omega);have z:=zDZ t1 t2 hu0 he;have z2:=zGB t1 t2 hu0 he;rw[dB (by rw[zAP,<-w1.length,q1.length]) (by rw[zAP,<-w2.length,q2.length])]at z z2;simp only[eqD];exact⟨z,z2⟩
  |lst h2 q2=>
   cases rv;obtain⟨its2,w2,t2⟩:=gH hok h2;simp only[eqD];exact⟨zFz t1 t2 hu0,zEv t1 t2 hu0⟩
  |dct h2=>simp[aU]at ne
  |non=>cases rv;simp only[eqD];exact⟨zGA t1 hu0,zEw t1 hu0⟩
  |bl b=>cases rv;simp only[eqD];exact⟨zFy b t1 hu0,zEu b t1 hu0⟩
  |int i=>obtain⟨tk,rfl⟩:=rv;simp only[eqD];exact⟨zG4 i tk t1 hu0,zFN i tk t1 hu0⟩
  |str i=>obtain⟨tk,rfl⟩:=rv;simp only[eqD];exact⟨zG5 i tk t1 hu0,zFO i tk t1 hu0⟩
 |lst h1 q1=>
  rename_i a xs ds;cases ru;obtain⟨its,w1,t1⟩:=gH hok h1;cases r2 with
  |lst h2 q2=>
   rename_i b ys es;cases rv;obtain⟨its2,w2,t2⟩:=gH hok h2;simp only[iT]at hd;obtain⟨k,rfl⟩:∃k,n=k+1:=⟨n-1,by omega⟩
   have l1:its.toArray.size=ds.length:=by rw[zAP,<-w1.length,q1.length]
   have l2:its2.toArray.size=es.length:=by rw[zAP,<-w2.length,q2.length]
   have z':=dB (ds:=ds) (es:=es) l1 l2;by_cases hl:its.toArray.size=its2.toArray.size
   ·have he:=zO hok (A:=A.in1) k q1 q2 w1 w2 (by omega) (by simpa[aU]using nd) (by simpa[aU]using ne) (by show A.units+1+k<cLine;omega)
    have z:=zD5 t1 t2 hl hu0 he;have z2:=zG6 t1 t2 hl hu0 he;rw[<-hl,zD6,beq_self_eq_true,zCp]at z';rw[z']at z z2;simp only[eqD];exact⟨z,z2⟩
   ·rw[beq_eq_false_iff_ne.mpr hl,zDF]at z'
    simp only[eqD];rw[<-z'];exact⟨zC7 t1 t2 (by simpa using hl) hu0,zE9 t1 t2 (by simpa using hl) hu0⟩
  |tup h2 q2=>
   cases rv;obtain⟨its2,w2,t2⟩:=iV hok h2;simp only[eqD];exact⟨zFw t1 t2 hu0,zEs t1 t2 hu0⟩
  |dct h2=>simp[aU]at ne
  |non=>cases rv;simp only[eqD];exact⟨zGZ t1 hu0,zFI t1 hu0⟩
  |bl b=>cases rv;simp only[eqD];exact⟨zGY b t1 hu0,zFH b t1 hu0⟩
  |int i=>obtain⟨tk,rfl⟩:=rv;simp only[eqD];exact⟨zHB i tk t1 hu0,zF0 i tk t1 hu0⟩
  |str i=>obtain⟨tk,rfl⟩:=rv;simp only[eqD];exact⟨zHC i tk t1 hu0,zF1 i tk t1 hu0⟩
 |dct h1=>simp[aU]at nd
 |non=>
  cases ru;cases r2 with
  |tup h2 q2=>cases rv;obtain⟨_,_,t2⟩:=iV hok h2;simp only[eqD];exact⟨zFx t2 hu0,zEt t2 hu0⟩
  |lst h2 q2=>cases rv;obtain⟨_,_,t2⟩:=gH hok h2;simp only[eqD];exact⟨zG1 t2 hu0,zFK t2 hu0⟩
  |dct h2=>simp[aU]at ne
  |non=>cases rv;simp only[eqD];exact⟨zG2,zFL⟩
  |bl b=>cases rv;simp only[eqD];exact⟨zG0 b,zFJ b⟩
  |int i=>obtain⟨tk,rfl⟩:=rv;simp only[eqD];exact⟨zHD i tk,zF2 i tk⟩
  |str i=>obtain⟨tk,rfl⟩:=rv;simp only[eqD];exact⟨zHE i tk,zF3 i tk⟩
 |bl a=>
  cases ru;cases r2 with
  |tup h2 q2=>cases rv;obtain⟨_,_,t2⟩:=iV hok h2;simp only[eqD];exact⟨zFv a t2 hu0,zEr a t2 hu0⟩
  |lst h2 q2=>cases rv;obtain⟨_,_,t2⟩:=gH hok h2;simp only[eqD];exact⟨zGV a t2 hu0,zFE a t2 hu0⟩
  |dct h2=>simp[aU]at ne
  |non=>cases rv;simp only[eqD];exact⟨zGW a,zFF a⟩
  |bl b=>cases rv;simp only[eqD];exact⟨zGU a b,zFD a b⟩
  |int i=>obtain⟨tk,rfl⟩:=rv;simp only[eqD];exact⟨zGw a i tk,zFV a i tk⟩
  |str i=>obtain⟨tk,rfl⟩:=rv;simp only[eqD];exact⟨zGx a i tk,zFW a i tk⟩
 |int a=>
  obtain⟨tu,rfl⟩:=ru;cases r2 with
  |tup h2 q2=>cases rv;obtain⟨_,_,t2⟩:=iV hok h2;simp only[eqD];exact⟨zGX a tu t2 hu0,zFG a tu t2 hu0⟩
  |lst h2 q2=>cases rv;obtain⟨_,_,t2⟩:=gH hok h2;simp only[eqD];exact⟨zGz a tu t2 hu0,zFY a tu t2 hu0⟩
  |dct h2=>simp[aU]at ne
  |non=>cases rv;simp only[eqD];exact⟨zHA a tu,zFZ a tu⟩
  |bl b=>cases rv;simp only[eqD];exact⟨zGy a tu b,zFX a tu b⟩
  |int i=>obtain⟨tk,rfl⟩:=rv;simp only[eqD];exact⟨zHM a tu i tk,zFe a tu i tk⟩
  |str i=>obtain⟨tk,rfl⟩:=rv;simp only[eqD];exact⟨zHN a tu i tk,zFf a tu i tk⟩
 |str a=>
  obtain⟨tu,rfl⟩:=ru;cases r2 with
  |tup h2 q2=>cases rv;obtain⟨_,_,t2⟩:=iV hok h2;simp only[eqD];exact⟨zG3 a tu t2 hu0,zFM a tu t2 hu0⟩
  |lst h2 q2=>cases rv;obtain⟨_,_,t2⟩:=gH hok h2;simp only[eqD];exact⟨zHG a tu t2 hu0,zF5 a tu t2 hu0⟩
  |dct h2=>simp[aU]at ne
  |non=>cases rv;simp only[eqD];exact⟨zHH a tu,zF6 a tu⟩
  |bl b=>cases rv;simp only[eqD];exact⟨zHF a tu b,zF4 a tu b⟩
  |int i=>obtain⟨tk,rfl⟩:=rv;simp only[eqD];exact⟨zHO a tu i tk,zFg a tu i tk⟩
  |str i=>obtain⟨tk,rfl⟩:=rv;simp only[eqD];exact⟨zHP a tu i tk,zFh a tu i tk⟩
end
section
variable{X:Cx}
def inD(d:D)(es:List D):Bool:=es.any λ e=>eqD e d
end
theorem fu:∀{us:List Value} {ns:List Int},zBD us ns->Vals (ns.map V.int) us
 |_,_,.nil=>.nil
 |_,_,.cons n t r=>.cons ⟨t,rfl⟩ (fu r)
section
variable{X:Cx}
theorem uZ:dD X (.builtin "sorted") (λ xs H Q=>∃p ns,xs=[.ref p]/\SqL X.K H p (ns.map V.int)/\ns.length<64/\∀ns':List Int,ns'.Perm ns->ns'.Pairwise (·<=·)->New H (.lst (ns'.map V.int)) Q):=by
 intro pins s σ H xs us Q I r h;obtain⟨p,ns,rfl,hp,h64,q⟩:=h;obtain⟨u,rfl,ru⟩:=vals1 r;cases ru;obtain⟨its,rv,pl,hz⟩:=I.list hp;have hI:zBD its ns:=intsAre_of rv;have hlen:its.length<64:=by
  have:=rv.length
  rw[zAE]at this;omega
 refine sorted_ints pl.isList hI hlen λ out ns' h1 h2 h3=>?_
 obtain⟨e,he⟩:=sortedAll_at s.heap its out;have hfr:H (s.heap.objs.size+1)=none:=I.hok.fresh (zCM _);refine⟨.ref (s.heap.objs.size+1),upd H (s.heap.objs.size+1) (.lst (ns'.map V.int)),I.laid (t':=s.toks) (λ b o q=>sortedAll_old q) (zCM _) ?_,rfl,(q ns' h2 h3).at hfr⟩;refine⟨?_,out.toList,e,fu h1,?_⟩
 ·rw[zAE,h2.length_eq]
  exact zAg (zBX h64) (by decide)
 ·rw[zEL]
  exact he
end
section
variable{P:zA2}{w:World}{H:Hp}{s:zAF}
open Classical in
def ji(H:Hp)(d:D)(u:Value):Bool:=if h:∃e,∃y,RelV y u/\Rep H y e then eqD (choose h) d else false
theorem o7{d e:D}{y:V}{u:Value}(r:RelV y u)(h:Rep H y e):ji H d u=eqD e d:=by
 have hx:∃e,∃y,RelV y u/\Rep H y e:=⟨e,y,r,h⟩
 unfold ji;rw[dif_pos hx];obtain⟨y',r',h'⟩:=zGD hx;have e1:=RelV.inj r r';subst e1;rw[Rep.inj h' h]
theorem nY{d:D}:∀{xs:List V} {es:List D} {us:List Value},gw H xs es->Vals xs us->us.any (ji H d)=inD d es
 |_,_,_,.nil,.nil=>rfl
 |_,_,_,.cons h r,.cons k t=>by
  unfold inD;rw[zC0,zC0,o7 k h,nY r t];rfl
theorem mQ(hok:HOk P w H s.heap){d:D}{x:V}{v:Value}(rx:Rep H x d)(rv:RelV x v){n:Nat}{A:zAe}(hu:A.units+n<cLine)(nd:aU d=true):∀{xs:List V} {es:List D} {us:List Value},gw H xs es->Vals xs us->cg es<=n->bB es=true->∀u∈us,zDB A s u v (ji H d u)
 |_,_,_,.nil,.nil,_,_,u,hm=>by cases hm
 |_,_,_,.cons h r,.cons k t,hd,ne,u,hm=>by
  simp only[cg]at hd;simp only[bB,zAK]at ne;rcases zAN.mp hm with z|z
  ·subst z
   rw[o7 k h];exact aCA hok n h rx k rv (zAg (zEO _ _) hd) ne.1 nd hu
  ·exact mQ hok rx rv hu nd r t (zAg (zDw _ _) hd) ne.2 u z
end
section
variable{X:Cx}
end
section
variable{H:Hp}{d:D}
theorem wO:∀{xs:List V} {es:List D} {us:List Value},gw H xs es->Vals xs us->us.countP (ji H d)=es.countP (λ e=>eqD e d)
 |_,_,_,.nil,.nil=>rfl
 |_,_,_,.cons h r,.cons k t=>by rw[zFQ,zFQ,o7 k h,wO r t]
theorem zY:∀{xs:List V} {es:List D} {us:List Value},gw H xs es->Vals xs us->us.map (ji H d)=es.map (λ e=>eqD e d)
 |_,_,_,.nil,.nil=>rfl
 |_,_,_,.cons h r,.cons k t=>by rw[zAG,zAG,o7 k h,zY r t]
end
section
variable{X:Cx}
def aKB:V->List V->Hp->VK->Prop:=λ x xs H Q=>∃a y d es,x= .ref a/\xs=[y]/\Rep H (.ref a) (.lst es)/\Rep H y d/\cg es<=60/\aU d=true/\bB es=true/\Q (.int (es.countP (λ e=>eqD e d):Nat)) H
theorem aGX(hu:X.A.units+64<cLine):MtR X "list.count" aKB:=by
 intro pins s σ H x xs v us Q I rx rxs h;obtain⟨a,y,d,es,rfl,rfl,ra,rd,hd,nd,ne,q⟩:=h;cases rx;obtain⟨u,rfl,ru⟩:=Vals.one rxs;have hu1:X.A.in1.units+60<cLine:=by show X.A.units+1+60<cLine;omega
 cases ra with
 |lst ha r=>
  obtain⟨its,rv,tl⟩:=gH I.hok ha;obtain⟨⟨cls,dd,data,sl⟩,ho,hc,n,hdd⟩:=id tl;simp only at hc hdd;subst hc hdd;refine zG9 zGH ⟨_,ho,rfl⟩ PySem.F.entry_list_count (PySem.F.args_list_count_2 _ _) (SeqAt.list_countAt a its.toArray n dd sl u (ji H d))
   ⟨ho,λ w hw=>mQ I.hok rd ru hu1 nd r rv hd ne w (by simpa using hw),?_⟩
  rw[show its.toArray.toList=its from rfl,wO r rv];exact⟨.int _,H,I.tok _,⟨_,rfl⟩,q⟩
def aFQ:V->List V->Hp->VK->Prop:=λ x xs H Q=>∃a y d es j,x= .ref a/\xs=[y]/\Rep H (.ref a) (.lst es)/\Rep H y d/\cg es<=60/\aU d=true/\bB es=true/\
 (es.map λ e=>eqD e d)[j]? =some true/\(∀m,m<j->(es.map λ e=>eqD e d)[m]? =some false)/\Q (.int (j:Nat)) H
theorem aAa(hu:X.A.units+64<cLine):MtR X "list.index" aFQ:=by
 intro pins s σ H x xs v us Q I rx rxs h;obtain⟨a,y,d,es,j,rfl,rfl,ra,rd,hd,nd,ne,e1,e2,q⟩:=h;cases rx;obtain⟨u,rfl,ru⟩:=Vals.one rxs;have hu1:X.A.in1.units+60<cLine:=by show X.A.units+1+60<cLine;omega
 cases ra with
 |lst ha r=>
  obtain⟨its,rv,tl⟩:=gH I.hok ha;obtain⟨⟨cls,dd,data,sl⟩,ho,hc,n,hdd⟩:=id tl;simp only at hc hdd;subst hc hdd;have em:=zY (d:=d) r rv;rw[<-em]at e1 e2;have hj:j<its.length:=by
   have:=(zAH.mp e1).1
   simpa using this
  have hlen:its.length<=zAW:=by
   have h1:=(I.hok a _ ha).1;rw[rv.length]at h1;exact h1
  have hz:zAW<2^62:=by decide
  refine zG9 zDa ⟨_,ho,rfl⟩ PySem.F.entry_list_index (PySem.F.args_list_index_2 _ _) (SeqAt.list_indexAt a its.toArray n dd sl u (ji H d) j (by simpa using hj) (by omega) ?_ λ m hm hmj=>?_)
   ⟨ho,λ w hw=>mQ I.hok rd ru hu1 nd r rv hd ne w (by simpa using hw),⟨.int _,H,I.tok _,⟨_,rfl⟩,q⟩⟩
  ·rw[zAT,zAB hj]at e1
   simpa using e1
  ·have h2:=e2 m hmj
   have hm':m<its.length:=by simpa using hm
   rw[zAT,zAB hm']at h2;simpa using h2
end
def aDu(K:zAA)(c:V):TE:=tCB (aLc K) (jk (qt 0) (jk (tC c) pM))
def pC(K:zAA):List V->TA
 |[]=>pM
 |c::cs=>jk (aDu K c) (pC K cs)
def aAW:List Str->TA
 |[]=>pM
 |x::xs=>jk (tC (.str x)) (aAW xs)
def Kt(K:zAA)(C:Addr)(c:V)(b:Bool):Prop:=∃u,RelV c u/\zBd K (.ref C) u=some b
section
variable{K:zAA}{σ:St}{H:Hp}{ea C:Addr}
theorem aBJ{c:V}{b:Bool}{Q:VK}(hs:σ[0]? =some (some (.ref ea)))(hH:H ea=some (.ext (excφ ea C)))(hk:aLZ K C)(h:Kt K C c b)(q:Q (.bl b) H):aDu K c σ H Q:=by
 obtain⟨u,r,e⟩:=h;exact⟨.ref ea,hs,ea,C,c,u,b,rfl,r,hH,hk,e,q⟩
theorem pN(hs:σ[0]? =some (some (.ref ea)))(hH:H ea=some (.ext (excφ ea C)))(hk:aLZ K C):∀{cs:List V} {bs:List Bool} {Q:List V->Hp->Prop},zEq (Kt K C) cs bs->Q (bs.map V.bl) H->pC K cs σ H Q
 |_,_,_,.nil,q=>q
 |_,_,_,.cons h r,q=>aBJ hs hH hk h (pN hs hH hk r q)
theorem xY:∀{l:List Str} {Q:List V->Hp->Prop},Q (l.map V.str) H->aAW l σ H Q
 |[],_,q=>q
 |x::l,_,q=>xY (l:=l) (Q:=λ xs H2=>_) q
end
structure Wd(K:zAA)(c1 c2:V)(ks:List (List V))(ws:List Str)(C:Addr)(w:Str):Prop where
 k:aLZ K C
 q1:Kt K C c1 true
 q2:Kt K C c2 true
 bs:∃(b1 b2 b3 b4:List Bool) (j:Nat) (k1 k2 k3 k4:List V),ks=[k1,k2,k3,k4]/\zEq (Kt K C) k1 b1/\zEq (Kt K C) k2 b2/\zEq (Kt K C) k3 b3/\zEq (Kt K C) k4 b4/\(b1++b2++b3++b4).length<=100/\(b1++b2++b3++b4).count true=1/\
  (b1++b2++b3++b4)[j]? =some true/\(∀m,m<j->(b1++b2++b3++b4)[m]? =some false)/\ws[j]? =some w
theorem aB4{H:Hp}:∀bs:List Bool,gw H (bs.map V.bl) (bs.map D.bl)
 |[]=>.nil
 |b::bs=>.cons (.bl b) (aB4 bs)
theorem aEs:∀bs:List Bool,cg (bs.map D.bl)=0
 |[]=>rfl
 |b::bs=>by
  have h:=aEs bs;simp only[zAG,cg,iT,h];rfl
theorem yW:∀bs:List Bool,bB (bs.map D.bl)=true
 |[]=>rfl
 |b::bs=>by simp only[zAG,bB,aU,yW bs];rfl
theorem aJK(b:Bool):eqD (.bl b) (.bl true)=b:=by cases b<;>simp[eqD]
theorem aD5:∀bs:List Bool,(bs.map D.bl).countP (λ e=>eqD e (.bl true))=bs.count true
 |[]=>rfl
 |b::bs=>by
  rw[zAG,zFQ,aJK,aD5 bs,List.count_cons];cases b<;>rfl
section
variable{X:Cx}{n0 n1 n2 odd:Str}{c1 c2:V}{k1 k2 k3 k4:List V}{l1 l2:List Str}{a1 a2:Expr}{as1 as2 e1 e2 e3 e4 w1 w2:List Expr}{kw1 kw2:List zD1}{Q:VK}{H:Hp}{vs:List V}
 {p1 p2 p3 p4 p5 p6 p7 p8 p9 p10 p11 p12 p13 p14 p15 p16 p17 p18 p19 p20 p21 p22 p23 p24 p25 p26 p27 p28 p29 p30 p31 p32 p33 p34 p35 p36 p37 p38 p39 p40:Pos}{q1 q2 q3 q4 q5 q6 q7:Pos}{j1 j2 j3 j4 j5:Nat}{E0:XK}{wd:Addr->Option Str}
theorem aEx(hN:X.N=[n0,n1,n2])(nd:X.N.Nodup)(m0:X.env.scope.names.lookup n0=some .local)(m1:X.env.scope.names.lookup n1=some .local)(m2:X.env.scope.names.lookup n2=some .local)(hu:X.A.units+64<cLine)
  (h1:PE X (.Call a1 as1 kw1 p1) (aDu X.K c1))(h2:PE X (.Call a2 as2 kw2 p2) (aDu X.K c2))(g1:PA X e1 (pC X.K k1))(g2:PA X e2 (pC X.K k2))(g3:PA X e3 (pC X.K k3))(g4:PA X e4 (pC X.K k4))(g5:PA X w1 (aAW l1))(g6:PA X w2 (aAW l2))
  (hl1:(p20.endLine==p21.line)=true)(hl2:(p30.endLine==p31.line)=true)(hz:(l1++l2).length<=100)(h:spW wd vs H Q E0)(hw:∀C w,wd C=some w->Wd X.K c1 c2 [k1,k2,k3,k4] (l1++l2) C w)
  (d0:(n0==("__debug__":Str))=false:=by decide)(d1:(n1==("__debug__":Str))=false:=by decide)(d2:(n2==("__debug__":Str))=false:=by decide)
  (f0:(n0==("__classdict__":Str))=false:=by decide)(f1:(n1==("__classdict__":Str))=false:=by decide)(f2:(n2==("__classdict__":Str))=false:=by decide):
  ∃t,PSs X [.If (.BoolOp .Or [.UnaryOp .Not (.Call a1 as1 kw1 p1) p3,.UnaryOp .Not (.Call a2 as2 kw2 p2) p4] p5) [.Return (some (.Constant (.str odd) j1 p6)) p7] [] p8,
   .Assign [.Name n1 p9] (.List e1 p10) p11,.Assign [.Name n1 p12] (.BinOp (.Name n1 p13) .Add (.List e2 p14) p15) p16,.Assign [.Name n1 p17] (.BinOp (.Name n1 p18) .Add (.List e3 p19) p22) p23,.Assign [.Name n1 p24] (.BinOp (.Name n1 p25) .Add (.List e4 p26) p27) p28,
   .If (.Compare (.Call (.Attribute (.Name n1 p29) "count" p20) [.Constant (.bool true) j2 p32] [] p21) [.NotEq] [.Constant (.int 1) j3 p33] p34) [.Return (some (.Constant (.str odd) j4 p35)) p36] [] p37,
   .Assign [.Name n2 p38] (.List w1 p39) p40,.Return (some (.Subscript (.BinOp (.Name n2 q1) .Add (.List w2 q2) q3) (.Call (.Attribute (.Name n1 q4) "index" p30) [.Constant (.bool true) j5 q5] [] p31) q6)) q7] t/\
   t {nx:=λ _ H'=>Q .non H',rt:=Q} (start X.N vs) H:=by
 obtain⟨ea,C,w,rfl,hH,hwd,hq⟩:=h;obtain⟨hk,hq1,hq2,b1,b2,b3,b4,j,k1',k2',k3',k4',ek,r1,r2,r3,r4,hlen,hcnt,hj,hjm,hjw⟩:=hw C w hwd;cases ek;have i0:X.N[0]? =some n0:=by rw[hN];rfl
 have i1:X.N[1]? =some n1:=by rw[hN];rfl
 have i2:X.N[2]? =some n2:=by rw[hN];rfl
 have v1:∀{pos:Pos},PE X (.Name n1 pos) (qt 1):=λ{pos}=>jC i1 (.inl m1) d1 f1
 have cat:∀{pp pq pr:Pos} {es:List Expr} {ks:List V},PA X es (pC X.K ks)->PE X (.BinOp (.Name n1 pp) .Add (.List es pq) pr) (tOp aHg (qt 1) (aHD (pC X.K ks))):=λ g=>aHy aBb v1 (oW g)
 refine⟨_,gQ (aHr (aLf (aEN (aHm h1)) (aHi (aEN (aHm h2)))).pt (oR (yN gG)) aB7)
  (gQ (oU nd i1 (.inl m1) (oW g1) (hf:=.inr m1)) (gQ (oU nd i1 (.inl m1) (cat g2) (hf:=.inr m1)) (gQ (oU nd i1 (.inl m1) (cat g3) (hf:=.inr m1)) (gQ (oU nd i1 (.inl m1) (cat g4) (hf:=.inr m1))
  (gQ (aHr (aM1 (aMk (aA8 zCB zGH PySem.F.type_list_count (aGX hu) v1 (bG aIF dg) (hline:=hl1)) aIA)) (oR (yN gG)) aB7)
  (gQ (oU nd i2 (.inl m2) (oW g5) (hf:=.inr m2)) (oR (yN (aHz aBu (aHy aBb (jC i2 (.inl m2) d2 f2) (oW g6)) (aA8 zCB zDa zGI (aAa hu) v1 (bG aIF dg) (hline:=hl2)) λ _ _=>rfl))))))))),?_⟩
 have hs:start X.N [.ref ea]=[some (.ref ea),none,none]:=by rw[hN];rfl
 rw[hs];have sz:∀{n:Nat},n<=100->n<=zAW:=λ h=>zAg h (by decide)
 simp only[zA5]at hlen hz;refine aBJ (ea:=ea) rfl hH hk hq1 ⟨true,rfl,aBJ (ea:=ea) rfl hH hk hq2 ⟨true,rfl,?_⟩⟩;refine pN (ea:=ea) rfl hH hk r1 ⟨sz (by rw[zAE];omega),λ a1 H1 s1 ha1 _=>?_⟩;refine⟨.ref a1,rfl,pN (ea:=ea) rfl (s1 _ _ hH) hk r2 ⟨sz (by rw[zAE];omega),λ x2 G2 t2 hx2 _=>⟨a1,x2,_,_,rfl,rfl,t2 _ _ ha1,hx2,sz (by simp only[zAE];omega),λ a2 H2 s2 ha2 _=>?_⟩⟩⟩;have hH2:=s2 _ _ (t2 _ _ (s1 _ _ hH));refine⟨.ref a2,rfl,pN (ea:=ea) rfl hH2 hk r3 ⟨sz (by rw[zAE];omega),λ x3 G3 t3 hx3 _=>⟨a2,x3,_,_,rfl,rfl,t3 _ _ ha2,hx3,sz (by simp only[zAE,zA5];omega),λ a3 H3 s3 ha3 _=>?_⟩⟩⟩;have hH3:=s3 _ _ (t3 _ _ hH2);refine⟨.ref a3,rfl,pN (ea:=ea) rfl hH3 hk r4 ⟨sz (by rw[zAE];omega),λ x4 G4 t4 hx4 _=>⟨a3,x4,_,_,rfl,rfl,t4 _ _ ha3,hx4,sz (by simp only[zAE,zA5];omega),λ a4 H4 s4 ha4 _=>?_⟩⟩⟩;rw[<-zAq,<-zAq,<-zAq]at ha4;generalize hbs:b1++b2++b3++b4=bs at hcnt hj hjm ha4;have hc1:(bs.map D.bl).countP (λ e=>eqD e (.bl true))=1:=(aD5 bs).trans hcnt;refine⟨.ref a4,rfl,.inl ⟨rfl,_,.inl (.inl ha4)⟩,a4,.bl true,.bl true,bs.map D.bl,rfl,rfl,.lst ha4 (aB4 bs),.bl true,by rw[aEs];exact zA9 _,rfl,yW bs,1,1,by rw[hc1];rfl,rfl,false,rfl,?_⟩;refine xY ⟨sz (by rw[zAE];omega),λ a5 H5 s5 ha5 _=>?_⟩;refine⟨.ref a5,rfl,xY ⟨sz (by rw[zAE];omega),λ x6 G6 t6 hx6 _=>⟨a5,x6,_,_,rfl,rfl,t6 _ _ ha5,hx6,sz (by simp only[zAE];omega),λ a7 H7 s7 ha7 _=>?_⟩⟩⟩;have ha4':=s7 _ _ (t6 _ _ (s5 _ _ ha4));refine⟨.ref a4,rfl,.inl ⟨rfl,_,.inl (.inl ha4')⟩,a4,.bl true,.bl true,bs.map D.bl,j,rfl,rfl,.lst ha4' (aB4 bs),.bl true,by rw[aEs];exact zA9 _,rfl,yW bs,?_,λ m hm=>?_,a7,_,_,.str w,rfl,rfl,.inl (.inl ha7),?_,?_⟩
 ·rw[zAb,zAT,hj];exact congrArg some (aJK true)
 ·rw[zAb,zAT,hjm m hm];exact congrArg some (aJK false)
 ·rw[<-zAq]
  have hjl:j<(l1++l2).length:=(zAH.mp hjw).1;unfold atI ixN;rw[if_pos (Int.natCast_nonneg j),zAE,if_pos (by omega),zC2]
  show((l1++l2).map V.str)[j]? =_
  rw[zAT,hjw];rfl
 ·exact hq _ λ b o e=>s7 _ _ (t6 _ _ (s5 _ _ (s4 _ _ (t4 _ _ (s3 _ _ (t3 _ _ (s2 _ _ (t2 _ _ (s1 _ _ e)))))))))
end
structure pA(d:Nat)(e tg iter:Expr)(ifs:List Expr)(body:Env->Addr->Sem Unit):Prop where
 under:∀(A:zAe) (it:Value) (D:Addr) (env:Env),A.under (.compLoop e d it (.ref D) env)=A
 den:∀(prog:zA2) (w:World) (it:Value) (D:Addr) (env:Env),(model prog w).den (.compLoop e d it (.ref D) env)=(zIE e d it (.ref D) env).onRaise (λ x=>do noteFrame x env;theTreesLotGoes x)
 turn:∀(it:Value) (D:Addr) (env:Env),zIE e d it (.ref D) env=(do
   zES iter.pos
   match <-zEy it with
   |none=>pure (.done .next)
   |some v=>
    zDH tg it v
    zEB tg env v
    let mut ok:=true
    for c in ifs do if ok then ok <-isTrue c env (eval c env)
    if ok then
     body env D
    again (.compLoop e d it (.ref D) env))
section
variable{s:zAF}{A:zAe}{prog:zA2}{w:World}{R:zE8->zAF->Prop}
theorem uW{D:Addr}(hb:pA d e tg iter ifs body)(I:Nat->zAF->Prop)
  (one:∀n s,I n s->wpAny (model prog w) A (zEy it) (λ r s₁=>match r with
   |none=>R (.ok .next) s₁
   |some v=>wpAny (model prog w) A (zDH tg it v) (λ _ s₁=>wpAny (model prog w) A (zEB tg env v) (λ _ s₂=>
     wpAny (model prog w) A (forIn ifs true λ c r=>if r=true then do let ok <-isTrue c env (eval c env);pure (zB4 ok)else pure (zB4 r)) (λ ok s₃=>if ok=true then wpAny (model prog w) A (body env D) (λ _ s₅=>∃m,m<n/\I m s₅) (λ _ _=>False) s₃
      else∃m,m<n/\I m s₃) (λ _ _=>False) s₂) (λ _ _=>False) s₁) (λ _ _=>False) s₁) (λ _ _=>False) s)
  (n:Nat)(h:I n s):zBq (model prog w) A (.compLoop e d it (.ref D) env) R s:=by
 refine codeAny_loop rfl I (λ n s hJ=>?_) n h;rw[hb.under,hb.den];refine wpAny_noted ?_;rw[hb.turn];refine zAD (zCg (zAD (zAy (one n s hJ) (λ r s₁ h₁=>?_) λ _ _ h'=>h'.elim)));cases r with
 |none=>exact zAR h₁
 |some v=>
  refine zAD (zAy h₁ (λ _ s₁ h₁=>?_) λ _ _ h'=>h'.elim);refine zAD (zAy h₁ (λ _ s₂ h₂=>zAD (zAy h₂ (λ ok s₃ h₃=>?_) λ _ _ h'=>h'.elim)) λ _ _ h'=>h'.elim);cases ok with
  |false=>exact zAR (zGC rfl h₃)
  |true=>exact zAD (zAy h₃ (λ _ s₄ h₄=>zAR ⟨rfl,h₄⟩) λ _ _ h'=>h'.elim)
end
def ud(d:Nat)(e:Expr):Prop:=∀{prog:zA2} {w:World} {A:zAe} {R:zE8->zAF->Prop} {s:zAF} {it acc:Value} {env:Env},
  zBq (model prog w) A (.compLoop e d it acc env) R s->
  wpAny (model prog w) A (zHr it) (λ it' s'=>zBq (model prog w) A (.compLoop e d it' acc env) R s') (notedBy (model prog w) A env λ x s'=>R (.error x) s') s->
  zBq (model prog w) A (.compStart e d it acc env) R s
structure aFy(mk:Sem Value)(obs:Obj->Prop)(o:Addr->HO):Prop where
 make:∀{prog:zA2} {w:World} {A:zAe} {Q:Value->zAF->Prop} {E:Value->zAF->Prop} {s:zAF},(∀ob,obs ob->Q (.ref s.heap.objs.size) {s with heap:=s.heap.push ob})->wpAny (model prog w) A mk Q E s
 live:∀ob,obs ob->ob.isFreed=false
 ok:∀{P:zA2} {w:World} {H:Hp} {h:Heap} {a:Addr} {ob:Obj},obs ob->h.get? a=some ob->zCe<a->cj P w H h a (o a)
def PB(X:Cx)(body:Env->Addr->Sem Unit)(tb:Addr->St->Hp->(Hp->Prop)->Prop):Prop:=
 ∀(D:Addr) (pins:List (Addr×Obj)) (s:zAF) (σ:St) (H:Hp) (Q:Hp->Prop),Inv X pins σ H s->tb D σ H Q->wpAny (model X.prog X.w) X.A (body X.env D) (λ _ s'=>∃H',Inv X pins σ H' s'/\Q H') X.xe s
theorem aPG(I:Inv X pins σ H s):zCe<s.heap.objs.size:=
 zFT (by decide) (I.mod.glob.keeps I.bk).lt
def aJg(o:Addr->HO)(wi:TI)(st:St->St)(g:TG)(tt:TT)(tb:Addr->St->Hp->(Hp->Prop)->Prop):TE:=λ σ H Q=>wi σ H λ J H1=>∀l,H1 l=none->∃W:Nat->Nat->Hp->Prop,(∃m,W 0 m (upd H1 l (o l)))/\
 ∀i m H2,W i m H2->((J.stop i H2/\Q (.ref l) H2)\/(J.go i H2/\∀x H3,J.yld i H2 x H3->g x (st σ) H3 λ σ4 H4=>tt σ4 H4 λ ok H5=>
  if ok=true then tb l σ4 H5 λ H6=>∃m',m'<m/\W (i+1) m' H6 else∃m',m'<m/\W (i+1) m' H5))
section
variable{X:Cx}{e tg iter:Expr}{ifs:List Expr}{scope:Scope}{N:List Str}{st:St->St}{ks:List Nat}{wi:TI}{g:TG}{tt:TT}{body:Env->Addr->Sem Unit}{tb:Addr->St->Hp->(Hp->Prop)->Prop}{pos:Pos}{mk:Sem Value}{obs:Obj->Prop}{o:Addr->HO}
theorem aJT(B:eU X scope N st ks)(hc:X.calm=true)(hT:pA 0 e tg iter ifs body)(hS:ud 0 e)(hA:aFy mk obs o)(hg:∀C fp s₀ H₀,PG (X.block scope C N fp s₀ H₀) tg g)(hgo:mU g ks)(ht:∀C fp s₀ H₀,aCR (X.block scope C N fp s₀ H₀) ifs tt)
  (he:∀C fp s₀ H₀,PB (X.block scope C N fp s₀ H₀) body tb){Q:VK}{RR:Value->Addr->zE8->zAF->Prop}
  (I:Inv X pins σ H1 s₂)(T:Turn X.prog X.w X.K tg J fp it tn)(h0:tn 0 s₂.heap)(hfp:∀b∈fp,tE X pins H1 b)
  (h:∀l,H1 l=none->∃W:Nat->Nat->Hp->Prop,(∃m,W 0 m (upd H1 l (o l)))/\
   ∀i m H2,W i m H2->((J.stop i H2/\Q (.ref l) H2)\/(J.go i H2/\∀x H3,J.yld i H2 x H3->g x (st σ) H3 λ σ4 H4=>tt σ4 H4 λ ok H5=>
    if ok=true then tb l σ4 H5 λ H6=>∃m',m'<m/\W (i+1) m' H6 else∃m',m'<m/\W (i+1) m' H5)))
  (hRR:∀D C H' s',(∃σ',Inv (X.block scope C N fp s₂ H1) [] σ' H' s')->s₂.heap.objs.size<=C->Q (.ref D) H'->RR (.ref D) C (.ok .next) s'):
  wpAny (model X.prog X.w) X.A mk (λ acc s₃=>wpAny (model X.prog X.w) X.A (zEx scope X.env.globals (bF scope X.env) [] X.env.qual none .none (some X.env)) (λ cenv s₄=>
   zBq (model X.prog X.w) X.A (.compStart e 0 (.ref it) acc {cenv with scope:=zGc scope X.env}) (RR acc cenv.locals) s₄) E s₃) E s₂:=by
 refine hA.make λ ob hob=>aF0 λ h₁ hns₁ hold₁ hcs₁=>?_
 dsimp only at hns₁ hold₁ hcs₁ ⊢;generalize hH2:s₂.heap.push ob=P2 at hns₁ hold₁ hcs₁ ⊢;have hC:P2.objs.size=s₂.heap.objs.size+1:=by rw[<-hH2,zB8]
 have hDC:s₂.heap.objs.size≠P2.objs.size:=by rw[hC];exact zA0 (zBt _)
 have hCle:s₂.heap.objs.size<=P2.objs.size:=by rw[hC];exact zCM _
 have old:∀b o,s₂.heap.get? b=some o->h₁.get? b=some o:=λ b o e=>hold₁ b o (hH2▸zAC _ e)
 have hacc:h₁.get? s₂.heap.objs.size=some ob:=hold₁ _ _ (hH2▸zAV _ (hA.live ob hob));generalize hCe:P2.objs.size=C at hns₁ hold₁ hcs₁ hDC hCle hC ⊢;have hHD:H1 s₂.heap.objs.size=none:=I.hok.fresh (zAS _);have I0:Inv (X.block scope C N fp s₂ H1) [] (st σ) (upd H1 s₂.heap.objs.size (o s₂.heap.objs.size)) {s₂ with heap:=h₁,toks:=s₂.toks}:=
  I.block B hfp (λ b hb=>by obtain⟨o,e,_⟩:=T.obj 0 _ h0 b hb;exact⟨o,e⟩) (zAS _) hCle hDC old hns₁ hcs₁ (λ c hc=>zA0 (zCx hCle hc)) (hA.ok hob hacc (aPG I))
 obtain⟨W,⟨m0,w0⟩,step⟩:=h _ hHD;have h01:tn 0 h₁:=T.keep 0 _ _ h0 λ b _ o e=>old b o e
 have stat:∀{H':Hp},(∀b∈fp,H' b=none)->∀b∈fp,tE (X.block scope C N fp s₂ H1) [] H' b:=λ{H'} hn b hb=>
  ⟨hn b hb,(I0.ok.exf b hb).1,I0.ok.exfs b hb,.inl hb,λ x c e=>(I0.ok.exf b hb).2 x c e,λ p hp=>absurd (show p∈([]:List (Addr×Obj))from hp) (by simp)⟩
 have fr0:∀b∈fp,upd H1 s₂.heap.objs.size (o s₂.heap.objs.size) b=none:=λ b hb=>by
  obtain⟨o,e,_⟩:=T.obj 0 _ h0 b hb;rw[aj (zA0 (zAQ e))];exact(hfp b hb).1
 have loop:∀sx:zAF,sx={s₂ with heap:=h₁,toks:=s₂.toks}->
   zBq (model X.prog X.w) X.A (.compLoop e 0 (.ref it) (.ref s₂.heap.objs.size) (X.block scope C N fp s₂ H1).env) (RR (.ref s₂.heap.objs.size) C) sx:=by
  rintro sx rfl;refine uW hT (λ n s'=>∃i H2,Inv (X.block scope C N fp s₂ H1) [] (st σ) H2 s'/\tn i s'.heap/\(∀b∈fp,H2 b=none)/\W i n H2) ?_ m0 ⟨0,_,I0,h01,fr0,w0⟩;rintro n s3 ⟨i,H2,I2,st2,fr2,w2⟩;rcases step i n H2 w2 with ⟨stop,q⟩|⟨go,nxt⟩
  ·refine thn (T.done (X.block scope C N fp s₂ H1) rfl rfl rfl hc i [] s3 (st σ) H2 _ I2 (stat fr2) st2 stop) λ r s4 ⟨hr,I4⟩=>?_
   subst hr;exact hRR _ C H2 s4 ⟨_,I4⟩ hCle q
  ·refine thn (T.item (X.block scope C N fp s₂ H1) rfl rfl rfl hc i [] s3 (st σ) H2 _ I2 (stat fr2) st2 go) λ r s4 ⟨u,hr,h4⟩=>?_
   subst hr;refine thn h4 λ _ s5 ⟨x,H5,I5,r5,y5,st5,fr5⟩=>?_
   have I5p:=I5.pinned (stat fr5) (T.obj _ _ st5);refine thn (hg C fp s₂ H1 _ s5 (st σ) H5 x u _ I5p r5 (hgo _ _ _ _ (nxt x H5 y5))) λ _ s6 ⟨σ6,H6,I6,q6,aG1,ag6⟩=>?_
   refine thn (ht C fp s₂ H1 _ s6 σ6 H6 _ I6 q6) λ ok s7 ⟨H7,I7,q7⟩=>?_
   have again:∀{H9:Hp} {s9:zAF},Inv (X.block scope C N fp s₂ H1) ([]++sU fp s5.heap) σ6 H9 s9->(∃m',m'<n/\W (i+1) m' H9)->
     ∃m,m<n/\∃i H2,Inv (X.block scope C N fp s₂ H1) [] (st σ) H2 s9/\tn i s9.heap/\(∀b∈fp,H2 b=none)/\W i m H2:=λ{H9 s9} I9 ⟨m',hm,w9⟩=>by
    have pin9:∀b∈fp,∀o,s5.heap.get? b=some o->s9.heap.get? b=some o/\H9 b=none:=λ b hb o e=>by
     have z:=I9.pin (b,o) (zA6 _ (zA6 _ (lK hb e)));exact⟨z.1,z.2.1⟩
    refine⟨m',hm,i+1,H9,I9.unpinned.weak (by rw[aG1]) (λ k v e=>?_),T.keep _ _ _ st5 λ b hb o e=>(pin9 b hb o e).1,λ b hb=>?_,w9⟩
    ·have hk:k<(st σ).length:=(zAH.mp e).1
     have hkN:k<N.length:=by rw[<-B.len σ];exact hk
     obtain⟨_,hks,_⟩:=B.val σ k _ v (zAB hkN) e;rw[ag6 k hks];exact e
    ·obtain⟨o,e,_⟩:=T.obj _ _ st5 b hb
     exact(pin9 b hb o e).2
   cases ok with
   |false=>
    rw[if_neg zA3]at q7 ⊢;exact again I7 q7
   |true=>
    rw[if_pos rfl]at q7 ⊢;exact thn (he C fp s₂ H1 _ _ s7 σ6 H7 _ I7 q7) λ _ s8 ⟨H8,I8,q8⟩=>again I8 q8
 exact hS (loop _ rfl) (T.self X.A 0 _ _ _ h01 (loop _ rfl))
theorem aID(B:eU X scope N st ks)(hc:X.calm=true)(hi:PI X tg iter wi)(hg:∀C fp s₀ H₀,PG (X.block scope C N fp s₀ H₀) tg g)(hgo:mU g ks)(ht:∀C fp s₀ H₀,aCR (X.block scope C N fp s₀ H₀) ifs tt)
  (hT:pA 0 e tg iter ifs body)(hS:ud 0 e)(hA:aFy mk obs o)(he:∀C fp s₀ H₀,PB (X.block scope C N fp s₀ H₀) body tb)(hcs:clausesOf e=⟨tg,iter,ifs,0⟩::gs)(hev:eval e X.env=comprehension e scope X.env (firstIterPos (⟨tg,iter,ifs,0⟩::gs) pos) mk false (eval iter X.env))(hs:∀x,zAw iter X.env x=pure x:=by intro _;rfl):PE X e (aJg o wi st g tt tb):=by
 intro pins s σ H Q I h;have hcl:zEi scope X.env=pure (bF scope X.env):=jZ λ y hy hk=>I.ok.has _ (B.free y hy hk)
 rw[hev];refine zEC (use:=none) hcs hs hcl B.kind B.loc (thn (hi pins s σ H _ I h) λ v s1 h1=>thn h1 λ itv s2 h2=>?_);obtain⟨it,fp,tn,J,H2,e,I2,T,st2,f2,hq⟩:=h2;subst e;refine aJT (RR:=λ acc C=>compPost (model X.prog X.w) X.A X.xe none (EP X pins σ Q) acc C) B hc hT hS hA hg hgo ht he I2 T st2 f2 hq ?_;intro D C H' s' hJ hCle q;have I3:=aCN I2 f2 hJ;obtain⟨σ',J'⟩:=hJ;obtain⟨m,hn,_⟩:=id J'.loc;have hHC:H' C=none:=J'.free;refine⟨m,hn,λ h'' hs''=>⟨.ref D,H',?_,rfl,q⟩⟩;exact I3.turned (t':=s'.toks) (λ b o ne e=>(hs''.2 b ne).trans e) hHC (zCH (zAU I2.lt hCle)) (.inr (zAg I2.sz hCle))
  (λ x c e z=>by obtain⟨v,ic⟩:=I2.cell x c e;exact absurd (zAU ic.lt (by rw[z];exact hCle)) (zBP _))
  (λ p hp z=>absurd (zAU (I2.pinL hp) (by rw[z];exact hCle)) (zBP _))
end
def uV(kx vx:Expr)(env:Env)(D:Addr):Sem Unit:=do
 let kv <-eval kx env;let vv <-zCk [kv] (eval vx env);zES {kx.pos with endLine:=vx.pos.endLine,endCol:=vx.pos.endCol}
 zCk [kv,vv] (dictSet D kv vv)
theorem aGB(kx vx tg iter:Expr)(ifs:List Expr)(scope:Scope)(pos:Pos):pA 0 (.DictComp kx vx [⟨tg,iter,ifs,0⟩] scope pos) tg iter ifs (uV kx vx):=
 ⟨λ _ _ _ _=>rfl,λ _ _ _ _ _=>rfl,λ _ _ _=>rfl⟩
theorem aDv(kx vx tg iter:Expr)(ifs:List Expr)(scope:Scope)(pos:Pos):ud 0 (.DictComp kx vx [⟨tg,iter,ifs,0⟩] scope pos):=λ h0 h=>codeAny_compStart_dict h0 h
section
variable{X:Cx}{elt tg iter:Expr}{ifs:List Expr}{scope:Scope}{pos:Pos}{N:List Str}{st:St->St}{ks:List Nat}{wi:TI}{g:TG}{tt:TT}{te:TE}
end
def aBp(elt:Expr)(env:Env)(D:Addr):Sem Unit:=do let _ <-call (.builtin "list.append") [.ref D,<-eval elt env]
def aL3(te:TE):Addr->St->Hp->(Hp->Prop)->Prop:=λ D σ H Q=>te σ H λ y H1=>∃acc,H1 D=some (.lst acc)/\acc.length<zAW/\Q (upd H1 D (.lst (acc++[y])))
theorem aMm(he:PE X elt te):PB X (aBp elt) (aL3 te):=by
 intro D pins s σ H Q I h;unfold aBp;refine zAD (thn (he pins s σ H _ I h) λ u s1 ⟨y,H1,I1,r1,acc,hD,hz,q⟩=>zAD ?_);refine thn (vJ _ s1 σ H1 (.ref D) [y] (.ref D) [u] (λ _ H9=>H9=upd H1 D (.lst (acc++[y]))) I1 rfl (.cons r1 .nil) ⟨_,acc,y,rfl,rfl,hD,hz,rfl⟩) λ _ s2 ⟨_,H2,I2,_,e⟩=>?_
 subst e;exact zAR ⟨_,I2,q⟩
theorem aLT:aFy (zGb []) (λ ob=>ob={cls:=.type "list",data:=.seq #[]}) (λ _=>.lst []) where
 make:=λ h=>zCP (h _ rfl)
 live:=by rintro ob rfl;rfl
 ok:=by
  rintro P w H h a ob rfl hg hb;exact⟨zA9 _,[],_,.nil,hg⟩
def nF(e iter2:Expr)(env:Env)(D:Addr):Sem Unit:=do
 let x <-eval iter2 env
 zES iter2.pos
 let x <-zAw iter2 env x;let _ <-runOwn (.compStart e 1 (<-zCk [x] (zHr x)) (.ref D) env) env
theorem aGy(elt tg iter tg2 iter2:Expr)(ifs ifs2:List Expr)(scope:Scope)(pos:Pos):pA 0 (.ListComp elt [⟨tg,iter,ifs,0⟩,⟨tg2,iter2,ifs2,0⟩] scope pos) tg iter ifs (nF (.ListComp elt [⟨tg,iter,ifs,0⟩,⟨tg2,iter2,ifs2,0⟩] scope pos) iter2):=
 ⟨λ _ _ _ _=>rfl,λ _ _ _ _ _=>rfl,λ _ _ _=>by unfold nF zIE;simp only[zJV];rfl⟩
theorem aGx(elt tg iter tg2 iter2:Expr)(ifs ifs2:List Expr)(scope:Scope)(pos:Pos):pA 1 (.ListComp elt [⟨tg,iter,ifs,0⟩,⟨tg2,iter2,ifs2,0⟩] scope pos) tg2 iter2 ifs2 (aBp elt):=
 ⟨λ _ _ _ _=>rfl,λ _ _ _ _ _=>rfl,λ _ _ _=>rfl⟩
theorem tQ(hcl:(clausesOf e)[d]? =some ⟨tg,iter,ifs,0⟩)(hu:∀(A:zAe) (it acc:Value) (env:Env),A.under (.compStart e d it acc env)=A)
  (hd:∀(prog:zA2) (w:World) (it acc:Value) (env:Env),(model prog w).den (.compStart e d it acc env)=(compStart e d it acc env).onRaise (λ x=>do noteFrame x env;zES theWindowsPlace)):ud d e:=by
 intro prog w A R s it acc env h0 h;refine zH2 ?_;rw[hu,hd];refine wpAny_notedAt ?_;unfold compStart;rw[hcl];show wpAny _ A (ask>>=_) _ _ s;refine zAD (zCv (wpAny_ite ?_));split
 ·first|exact zAD (zAR (zAR (zGC rfl h0)))|exact zAR (zGC rfl h0)
 ·first
   |exact zAD (zJ4 (zAD (zCg (zAD (zAy h (λ it2 s2 h2=>zAR (zGC rfl h2)) λ _ _ x=>x)))))
   |(refine zAD (zJ4 ?_);(show wpAny _ _ (zES iter.pos>>=_) _ _ s);exact zAD (zCg (zAD (zAy h (λ it2 s2 h2=>zAR (zGC rfl h2)) λ _ _ x=>x))))
def aDs(ks:List Nat)(wi:TI)(g:TG)(tt:TT)(tb:Addr->St->Hp->(Hp->Prop)->Prop):Addr->St->Hp->(Hp->Prop)->Prop:=λ D σ H Q=>(∀k∈ks,∀v,σ[k]?≠some (some v))/\wi σ H λ J H1=>∃W:Nat->Nat->Hp->Prop,(∃m,W 0 m H1)/\
 ∀i m H2,W i m H2->((J.stop i H2/\Q H2)\/(J.go i H2/\∀x H3,J.yld i H2 x H3->g x σ H3 λ σ4 H4=>tt σ4 H4 λ ok H5=>
  if ok=true then tb D σ4 H5 λ H6=>∃m',m'<m/\W (i+1) m' H6 else∃m',m'<m/\W (i+1) m' H5))
theorem aFW(hc:X.calm=true)(hx:∀v s,X.xe v s->False)(hT:pA 1 e tg iter ifs body)(hS:ud 1 e)
  (hi:PI X tg iter wi)(hg:PG X tg g)(hgo:mU g ks)(ht:aCR X ifs tt)(he:PB X body tb)(hs:∀x,zAw iter X.env x=pure x:=by intro _;rfl):PB X (nF e iter) (aDs ks wi g tt tb):=by
 have nf:∀{α:Type} {m:Sem α} {Q:α->zAF->Prop} {s:zAF},wpAny (model X.prog X.w) X.A m Q X.xe s->wpAny (model X.prog X.w) X.A m Q (λ _ _=>False) s:=λ h=>zAy h (λ _ _ q=>q) hx
 intro D pins s σ H Q I h;obtain⟨hno,h⟩:=h;unfold nF;refine zAD (thn (hi pins s σ H _ I h) λ v s1 h1=>zAD (zCg (zAD (zIz (hs v) (zAD (zBb (thn h1 λ itv s2 h2=>zAD ?_)))))));obtain⟨it,fp,tn,J,H1,e1,I1,T,st1,f1,W,⟨m0,w0⟩,step⟩:=h2;subst e1;have stat:∀{H':Hp},(∀b∈fp,H' b=none)->∀b∈fp,tE X pins H' b:=λ{H'} hn b hb=>⟨hn b hb,(f1 b hb).2⟩
 have loop:zBq (model X.prog X.w) X.A (.compLoop e 1 (.ref it) (.ref D) X.env) (λ r s'=>match r with| .ok _=>(∃H',Inv X pins σ H' s'/\Q H')| .error _=>False) s2:=by
  refine uW hT (λ n s'=>∃i H2,Inv X pins σ H2 s'/\tn i s'.heap/\(∀b∈fp,H2 b=none)/\W i n H2) ?_ m0 ⟨0,H1,I1,st1,λ b hb=>(f1 b hb).1,w0⟩;rintro n s3 ⟨i,H2,I2,st2,fr2,w2⟩;rcases step i n H2 w2 with ⟨stop,q⟩|⟨go,nxt⟩
  ·refine thn (T.done X rfl rfl rfl hc i pins s3 σ H2 _ I2 (stat fr2) st2 stop) λ r s4 ⟨hr,I4⟩=>?_
   subst hr;exact⟨H2,I4,q⟩
  ·refine thn (T.item X rfl rfl rfl hc i pins s3 σ H2 _ I2 (stat fr2) st2 go) λ r s4 ⟨u,hr,h4⟩=>?_
   subst hr;refine thn h4 λ _ s5 ⟨x,H5,I5,r5,y5,st5,fr5⟩=>?_
   have I5p:=I5.pinned (stat fr5) (T.obj _ _ st5);refine thn (nf (hg _ s5 σ H5 x u _ I5p r5 (hgo _ _ _ _ (nxt x H5 y5)))) λ _ s6 ⟨σ6,H6,I6,q6,aG1,ag6⟩=>?_
   refine thn (nf (ht _ s6 σ6 H6 _ I6 q6)) λ ok s7 ⟨H7,I7,q7⟩=>?_
   have again:∀{H9:Hp} {s9:zAF},Inv X (pins++sU fp s5.heap) σ6 H9 s9->(∃m',m'<n/\W (i+1) m' H9)->∃m,m<n/\∃i H2,Inv X pins σ H2 s9/\tn i s9.heap/\(∀b∈fp,H2 b=none)/\W i m H2:=λ{H9 s9} I9 ⟨m',hm,w9⟩=>by
    have pin9:∀b∈fp,∀o,s5.heap.get? b=some o->s9.heap.get? b=some o/\H9 b=none:=λ b hb o e=>by
     have z:=I9.pin (b,o) (zA6 _ (zA6 _ (lK hb e)));exact⟨z.1,z.2.1⟩
    refine⟨m',hm,i+1,H9,I9.unpinned.weak (by rw[aG1]) (λ k v e=>?_),T.keep _ _ _ st5 λ b hb o e=>(pin9 b hb o e).1,λ b hb=>?_,w9⟩
    ·by_cases hk:k∈ks
     ·exact absurd e (hno k hk v)
     ·rw[ag6 k hk];exact e
    ·obtain⟨o,e,_⟩:=T.obj _ _ st5 b hb
     exact(pin9 b hb o e).2
   cases ok with
   |false=>
    rw[if_neg zA3]at q7 ⊢;exact again I7 q7
   |true=>
    rw[if_pos rfl]at q7 ⊢;exact thn (nf (he D _ s7 σ6 H7 _ I7 q7)) λ _ s8 ⟨H8,I8,q8⟩=>again I8 q8
 refine wpAny_runOwn (h:=none) (zDA (hS loop (T.self X.A 0 _ _ _ st1 loop)) λ r s' hr=>?_);cases r with
 |ok f=>exact zAR hr
 |error x=>exact hr.elim
end L2
namespace VL
open PySem PySem.Spec PyProof.Rows L2
inductive D where
 |non|bl (b:Bool)|int (i:Int)|str (x:Str)|tup (l:List D)|lst (l:List D)|dct (ks vs:List D)|set (l:List Int)|scr (l:List Int)|fn (x:Str)
instance:Inhabited D:=⟨.non⟩
def kD:Key->D
 | .inl i=>.int i
 | .inr x=>.str x
variable{K:zAA}
def rT(K:zAA)(H:Hp)(a:Addr)(ns:List Int):Prop:=(∃o,H a=some (.frz o (.lst (ns.map V.int))))\/
 ∃(o:Obj) (its:Array Value) (n:Nat),K.lookup a=some o/\o.cls= .type "list"/\o.dict=none/\o.data= .seq its n/\its.size<=zAW/\Vals (ns.map V.int) its.toList
theorem rT.sq(h:rT K H a ns):SqL K H a (ns.map V.int):=by
 rcases h with h|h
 ·exact .inl (.inr h)
 ·exact .inr h
def hsh(ns:List Int):Int:=reduceHash (zJL (ns.map hashInt))
def dxO(a:Addr)(es:List (List Int×Addr×V)):HO:=.ext λ h=>es.length<=zAW/\(a==zCe)=false/\∃(xs:List (List Int×Addr×Value)) (o:Obj) (ts:Array DictEntry) (ep:Nat),zEq (λ e x=>e.1=x.1/\e.2.1=x.2.1/\RelV e.2.2 x.2.2) es xs/\
 h.get? a=some o/\o.ExactDict/\o.data= .dict ts ep/\ts.toList=xs.map λ x=>⟨hsh x.1,.ref x.2.1,x.2.2⟩
structure DxK(K:zAA)(H:Hp)(a:Addr)(es:List (List Int×Addr×V)):Prop where
 at_:H a=some (dxO a es)
 ks:∀e∈es,SqT K H e.2.1 (e.1.map V.int)
 nd:(es.map (·.1)).Nodup
mutual
inductive Rp(K:zAA):(Addr->Prop)->Hp->V->D->Prop where
 |non {A:Addr->Prop} {H:Hp}:Rp K A H .non .non
 |bl {A:Addr->Prop} {H:Hp} (b:Bool):Rp K A H (.bl b) (.bl b)
 |int {A:Addr->Prop} {H:Hp} (i:Int):Rp K A H (.int i) (.int i)
 |str {A:Addr->Prop} {H:Hp} (x:Str):Rp K A H (.str x) (.str x)
 |tup {A:Addr->Prop} {H:Hp} {a:Addr} {xs:List V} {ds:List D} (h:SqT K H a xs) (r:Rps K A H xs ds):Rp K A H (.ref a) (.tup ds)
 |lst {A:Addr->Prop} {H:Hp} {a:Addr} {xs:List V} {ds:List D} (h:H a=some (.lst xs)) (m:A a) (r:Rps K (λ p=>A p/\p≠a) H xs ds):Rp K A H (.ref a) (.lst ds)
 |dK {A:Addr->Prop} {H:Hp} {a:Addr} {kvs:List (Key×V)} {ds:List D} (h:H a=some (.dK kvs)) (m:A a) (r:Rps K (λ p=>A p/\p≠a) H (kvs.map (·.2)) ds):Rp K A H (.ref a) (.dct (kvs.map λ p=>kD p.1) ds)
 |dT {A:Addr->Prop} {H:Hp} {a:Addr} {es:List (List Int×Addr×V)} {ds:List D} (h:DxK K H a es) (m:A a) (r:Rps K (λ p=>A p/\p≠a) H (es.map (·.2.2)) ds):Rp K A H (.ref a) (.dct (.non::es.map λ e=>.tup (e.1.map .int)) ds)
 |set {A:Addr->Prop} {H:Hp} {a:Addr} {S:Int->Bool} {l:List Int} (h:H a=some (.set S l.length)) (m:A a) (hS:∀i,S i=decide (i∈l)) (nd:l.Nodup):Rp K A H (.ref a) (.set l)
 |scr {A:Addr->Prop} {H:Hp} {a:Addr} {ns:List Int} (h:rT K H a ns):Rp K A H (.ref a) (.scr ns)
 |fn {A:Addr->Prop} {H:Hp} {a:Addr} {x:Str} (h:zAd K zA4 x=some (some (.ref a))):Rp K A H (.ref a) (.fn x)
inductive Rps(K:zAA):(Addr->Prop)->Hp->List V->List D->Prop where
 |nil {A:Addr->Prop} {H:Hp}:Rps K A H [] []
 |cons {A:Addr->Prop} {H:Hp} {x:V} {d:D} {xs:List V} {ds:List D} (h:Rp K A H x d) (r:Rps K A H xs ds):Rps K A H (x::xs) (d::ds)
end
theorem rT.mono(s:aY H H')(h:rT K H a ns):rT K H' a ns:=by
 rcases h with ⟨o,h⟩|h
 ·exact .inl ⟨o,s _ _ h⟩
 ·exact .inr h
theorem DxK.mono(h:DxK K H a es)(s:aY H H'):DxK K H' a es:=⟨s _ _ h.at_,λ e he=>s.sqt (h.ks e he),h.nd⟩
theorem Rp.mono'(s:aY H H')(r:Rp K A H x d)(hA:∀p o,H p=some o->A p->A' p):Rp K A' H' x d:=
 Rp.rec (motive_1:=λ A H x d _=>∀H',aY H H'->∀A':Addr->Prop,(∀p o,H p=some o->A p->A' p)->Rp K A' H' x d) (motive_2:=λ A H xs ds _=>∀H',aY H H'->∀A':Addr->Prop,(∀p o,H p=some o->A p->A' p)->Rps K A' H' xs ds)
  (λ _ _ _ _=>.non) (λ b _ _ _ _=>.bl b) (λ i _ _ _ _=>.int i) (λ x _ _ _ _=>.str x) (λ h _ ih _ s _ hA=>.tup (s.sqt h) (ih _ s _ hA))
  (λ h m _ ih _ s _ hA=>.lst (s _ _ h) (hA _ _ h m) (ih _ s _ λ p o e z=>⟨hA p o e z.1,z.2⟩)) (λ h m _ ih _ s _ hA=>.dK (s _ _ h) (hA _ _ h m) (ih _ s _ λ p o e z=>⟨hA p o e z.1,z.2⟩))
  (λ h m _ ih _ s _ hA=>.dT (h.mono s) (hA _ _ h.at_ m) (ih _ s _ λ p o e z=>⟨hA p o e z.1,z.2⟩)) (λ h m hS nd _ s _ hA=>.set (s _ _ h) (hA _ _ h m) hS nd) (λ h _ s _ _=>.scr (h.mono s)) (λ h _ _ _ _=>.fn h) (λ _ _ _ _=>.nil) (λ _ _ ih ir _ s _ hA=>.cons (ih _ s _ hA) (ir _ s _ hA)) r H' s A' hA
theorem Rps.mono'(s:aY H H')(r:Rps K A H xs ds)(hA:∀p o,H p=some o->A p->A' p):Rps K A' H' xs ds:=
 Rps.rec (motive_1:=λ A H x d _=>∀H',aY H H'->∀A':Addr->Prop,(∀p o,H p=some o->A p->A' p)->Rp K A' H' x d) (motive_2:=λ A H xs ds _=>∀H',aY H H'->∀A':Addr->Prop,(∀p o,H p=some o->A p->A' p)->Rps K A' H' xs ds)
  (λ _ _ _ _=>.non) (λ b _ _ _ _=>.bl b) (λ i _ _ _ _=>.int i) (λ x _ _ _ _=>.str x) (λ h _ ih _ s _ hA=>.tup (s.sqt h) (ih _ s _ hA))
  (λ h m _ ih _ s _ hA=>.lst (s _ _ h) (hA _ _ h m) (ih _ s _ λ p o e z=>⟨hA p o e z.1,z.2⟩)) (λ h m _ ih _ s _ hA=>.dK (s _ _ h) (hA _ _ h m) (ih _ s _ λ p o e z=>⟨hA p o e z.1,z.2⟩))
  (λ h m _ ih _ s _ hA=>.dT (h.mono s) (hA _ _ h.at_ m) (ih _ s _ λ p o e z=>⟨hA p o e z.1,z.2⟩)) (λ h m hS nd _ s _ hA=>.set (s _ _ h) (hA _ _ h m) hS nd) (λ h _ s _ _=>.scr (h.mono s)) (λ h _ _ _ _=>.fn h) (λ _ _ _ _=>.nil) (λ _ _ ih ir _ s _ hA=>.cons (ih _ s _ hA) (ir _ s _ hA)) r H' s A' hA
theorem Rp.mono(s:aY H H')(hA:∀p o,H p=some o->A p->A' p)(r:Rp K A H x d):Rp K A' H' x d:=r.mono' s hA
theorem Rps.mono(s:aY H H')(hA:∀p o,H p=some o->A p->A' p)(r:Rps K A H x d):Rps K A' H' x d:=r.mono' s hA
theorem Rp.up(s:aY H H')(r:Rp K A H x d):Rp K A H' x d:=r.mono s λ _ _ _ h=>h
theorem Rp.wk(hA:∀p o,H p=some o->A p->A' p)(r:Rp K A H x d):Rp K A' H x d:=r.mono (aY.refl H) hA
theorem Rps.up(s:aY H H')(r:Rps K A H x d):Rps K A H' x d:=r.mono s λ _ _ _ h=>h
theorem Rps.wk(hA:∀p o,H p=some o->A p->A' p)(r:Rps K A H x d):Rps K A' H x d:=r.mono (aY.refl H) hA
def lM:HO->Bool
 | .lst _=>true| .dK _=>true| .dT _=>true| .set _ _=>true| .ext _=>true|_=>false
theorem aBL(s:lw l H H')(hl:H l=some o)(ho:lM o=true)(h:SqT K H a xs):SqT K H' a xs:=by
 rcases h with (h|⟨u,h⟩)|h
 ·refine .inl (.inl (s _ _ (λ e=>?_) h))
  subst e;rw[hl]at h;cases h;cases ho
 ·refine .inl (.inr ⟨u,s _ _ (λ e=>?_) h⟩)
  subst e;rw[hl]at h;cases h;cases ho
 ·exact .inr h
theorem aFL(s:lw l H H')(hl:H l=some o)(ho:lM o=true)(h:rT K H a ns):rT K H' a ns:=by
 rcases h with ⟨u,h⟩|h
 ·exact .inl ⟨u,s _ _ (λ e=>by subst e;rw[hl]at h;cases h;cases ho) h⟩
 ·exact .inr h
theorem DxK.but(h:DxK K H a es)(s:lw l H H')(hl:H l=some o)(ho:lM o=true)(ne:a≠l):DxK K H' a es:=
 ⟨s _ _ ne h.at_,λ e he=>aBL s hl ho (h.ks e he),h.nd⟩
theorem Rp.but'(s:lw l H H')(hl:H l=some o)(ho:lM o=true)(r:Rp K A H x d)(hA:¬A l):Rp K A H' x d:=
 Rp.rec (motive_1:=λ A H x d _=>∀H',lw l H H'->∀o:HO,H l=some o->lM o=true->¬A l->Rp K A H' x d) (motive_2:=λ A H xs ds _=>∀H',lw l H H'->∀o:HO,H l=some o->lM o=true->¬A l->Rps K A H' xs ds)
  (λ _ _ _ _ _ _=>.non) (λ b _ _ _ _ _ _=>.bl b) (λ i _ _ _ _ _ _=>.int i) (λ x _ _ _ _ _ _=>.str x) (λ h _ ih _ s o hl ho hA=>.tup (aBL s hl ho h) (ih _ s o hl ho hA))
  (λ h m _ ih _ s o hl ho hA=>.lst (s _ _ (λ e=>hA (e▸m)) h) m (ih _ s o hl ho λ z=>hA z.1)) (λ h m _ ih _ s o hl ho hA=>.dK (s _ _ (λ e=>hA (e▸m)) h) m (ih _ s o hl ho λ z=>hA z.1))
  (λ h m _ ih _ s o hl ho hA=>.dT (h.but s hl ho λ e=>hA (e▸m)) m (ih _ s o hl ho λ z=>hA z.1)) (λ h m hS nd _ s o hl ho hA=>.set (s _ _ (λ e=>hA (e▸m)) h) m hS nd) (λ h _ s o hl ho _=>.scr (aFL s hl ho h)) (λ h _ _ _ _ _ _=>.fn h) (λ _ _ _ _ _ _=>.nil) (λ _ _ ih ir _ s o hl ho hA=>.cons (ih _ s o hl ho hA) (ir _ s o hl ho hA)) r H' s o hl ho hA
theorem Rps.but'(s:lw l H H')(hl:H l=some o)(ho:lM o=true)(r:Rps K A H xs ds)(hA:¬A l):Rps K A H' xs ds:=
 Rps.rec (motive_1:=λ A H x d _=>∀H',lw l H H'->∀o:HO,H l=some o->lM o=true->¬A l->Rp K A H' x d) (motive_2:=λ A H xs ds _=>∀H',lw l H H'->∀o:HO,H l=some o->lM o=true->¬A l->Rps K A H' xs ds)
  (λ _ _ _ _ _ _=>.non) (λ b _ _ _ _ _ _=>.bl b) (λ i _ _ _ _ _ _=>.int i) (λ x _ _ _ _ _ _=>.str x) (λ h _ ih _ s o hl ho hA=>.tup (aBL s hl ho h) (ih _ s o hl ho hA))
  (λ h m _ ih _ s o hl ho hA=>.lst (s _ _ (λ e=>hA (e▸m)) h) m (ih _ s o hl ho λ z=>hA z.1)) (λ h m _ ih _ s o hl ho hA=>.dK (s _ _ (λ e=>hA (e▸m)) h) m (ih _ s o hl ho λ z=>hA z.1))
  (λ h m _ ih _ s o hl ho hA=>.dT (h.but s hl ho λ e=>hA (e▸m)) m (ih _ s o hl ho λ z=>hA z.1)) (λ h m hS nd _ s o hl ho hA=>.set (s _ _ (λ e=>hA (e▸m)) h) m hS nd) (λ h _ s o hl ho _=>.scr (aFL s hl ho h)) (λ h _ _ _ _ _ _=>.fn h) (λ _ _ _ _ _ _=>.nil) (λ _ _ ih ir _ s o hl ho hA=>.cons (ih _ s o hl ho hA) (ir _ s o hl ho hA)) r H' s o hl ho hA
theorem Rp.but(s:lw l H H')(hl:H l=some o)(ho:lM o=true)(hA:¬A l)(r:Rp K A H x d):Rp K A H' x d:=r.but' s hl ho hA
theorem Rps.but(s:lw l H H')(hl:H l=some o)(ho:lM o=true)(hA:¬A l)(r:Rps K A H x d):Rps K A H' x d:=r.but' s hl ho hA
mutual
def imm:D->Bool
 | .tup l=>aAL l
 | .lst _=>false
 | .dct _ _=>false
 | .set _=>false
 |_=>true
def aAL:List D->Bool
 |[]=>true
 |d::r=>imm d&&aAL r
end
theorem aAh(e:aAL (d::r)=true):imm d=true/\aAL r=true:=by
 simp only[aAL,zAK]at e;exact e
theorem aKo(e:imm (.tup l)=true):aAL l=true:=by simpa[imm]using e
theorem aKs(e:imm (.lst l)=true):False:=by simp[imm]at e
theorem aFj(e:imm (.dct l k)=true):False:=by simp[imm]at e
theorem aKp(e:imm (.set l)=true):False:=by simp[imm]at e
theorem Rp.imm'(r:Rp K A H x d)(e:VL.imm d=true):Rp K A' H x d:=
 Rp.rec (motive_1:=λ _ H x d _=>VL.imm d=true->Rp K A' H x d) (motive_2:=λ _ H xs ds _=>aAL ds=true->Rps K A' H xs ds)
  (λ _=>.non) (λ b _=>.bl b) (λ i _=>.int i) (λ x _=>.str x) (λ h _ ih e=>.tup h (ih (aKo e)))
  (λ _ _ _ _ e=>(aKs e).elim) (λ _ _ _ _ e=>(aFj e).elim) (λ _ _ _ _ e=>(aFj e).elim) (λ _ _ _ _ e=>(aKp e).elim) (λ h _=>.scr h) (λ h _=>.fn h) (λ _=>.nil) (λ _ _ ih ir e=>.cons (ih (aAh e).1) (ir (aAh e).2)) r e
theorem Rp.imm(r:Rp K A H x d)(h:VL.imm d=true):Rp K A' H x d:=r.imm' h
theorem Rp.int_inv(r:Rp K A H v (.int i)):v= .int i:=by cases r;rfl
theorem Rp.bl_inv(r:Rp K A H v (.bl b)):v= .bl b:=by cases r;rfl
theorem Rp.tup_inv(r:Rp K A H v (.tup ds)):∃a xs,v= .ref a/\SqT K H a xs/\Rps K A H xs ds:=by cases r with|tup h r=>exact⟨_,_,rfl,h,r⟩
theorem Rp.lst_inv(r:Rp K A H v (.lst ds)):∃a xs,v= .ref a/\H a=some (.lst xs)/\A a/\Rps K (λ p=>A p/\p≠a) H xs ds:=by cases r with|lst h m r=>exact⟨_,_,rfl,h,m,r⟩
theorem Rp.scr_inv(r:Rp K A H v (.scr ns)):∃a,v= .ref a/\rT K H a ns:=by cases r with|scr h=>exact⟨_,rfl,h⟩
theorem Rps.one_inv(r:Rps K A H vs [d]):∃v,vs=[v]/\Rp K A H v d:=by cases r with|cons h r=>cases r;exact⟨_,rfl,h⟩
section
variable{A:Addr->Prop}{H:Hp}
theorem Rps.length:∀{xs:List V} {ds:List D},Rps K A H xs ds->xs.length=ds.length:=by
 intro xs ds h;induction xs generalizing ds with
 |nil=>cases h;rfl
 |cons x xs ih=>cases h with|cons _ r=>exact congrArg (·+1) (ih r)
theorem Rps.get:∀{xs:List V} {ds:List D} {i:Nat} {x:V},Rps K A H xs ds->xs[i]? =some x->∃d,ds[i]? =some d/\Rp K A H x d
 |_,_,_,_,.nil,e=>by simp at e
 |_,_,0,_,.cons h _,e=>by simp at e;subst e;exact⟨_,rfl,h⟩
 |_,_,i+1,x,.cons _ r,e=>by
  obtain⟨d,h1,h2⟩:=Rps.get (i:=i) (x:=x) r (by simpa using e);exact⟨d,by simpa using h1,h2⟩
theorem Rps.getD:∀{xs:List V} {ds:List D} {i:Nat} {d:D},Rps K A H xs ds->ds[i]? =some d->∃x,xs[i]? =some x/\Rp K A H x d
 |_,_,_,_,.nil,e=>by simp at e
 |_,_,0,_,.cons h _,e=>by simp at e;subst e;exact⟨_,rfl,h⟩
 |_,_,i+1,d,.cons _ r,e=>by
  obtain⟨x,h1,h2⟩:=Rps.getD (i:=i) (d:=d) r (by simpa using e);exact⟨x,by simpa using h1,h2⟩
theorem Rps.append:∀{xs ys:List V} {ds es:List D},Rps K A H xs ds->Rps K A H ys es->Rps K A H (xs++ys) (ds++es):=by
 intro xs ys ds es h s;induction xs generalizing ds with
 |nil=>cases h;exact s
 |cons x xs ih=>cases h with|cons h r=>exact .cons h (ih r)
theorem Rps.set(h:Rp K A H x d):∀{xs:List V} {ds:List D} (n:Nat),Rps K A H xs ds->Rps K A H (xs.set n x) (ds.set n d)
 |_,_,_,.nil=>.nil
 |_,_,0,.cons _ r=>.cons h r
 |_,_,n+1,.cons k r=>.cons k (Rps.set h n r)
theorem Rps.ints:∀{ns:List Int},Rps K A H (ns.map V.int) (ns.map D.int)
 |[]=>.nil
 |n::ns=>.cons (.int n) Rps.ints
theorem Rps.ints_of:∀{xs:List V} {ns:List Int},Rps K A H xs (ns.map D.int)->xs=ns.map V.int
 |_,[],.nil=>rfl
 |_,n::ns,.cons h r=>by
  cases h;rw[zAG,Rps.ints_of r]
end
theorem aR(h:a=b):a=b:=h
inductive Rs(α:Type) where
 |ok (a:α)|ex (c:Str)|st
def Rs.bd{α β:Type}:Rs α->(α->Rs β)->Rs β
 | .ok a,f=>f a
 | .ex c,_=>.ex c
 | .st,_=>.st
@[simp] theorem bD(a:α)(f:α->Rs β):(Rs.ok a).bd f=f a:=aR rfl
theorem cL{r:Rs α}(h:r.bd f= .ok b):∃a,r= .ok a/\f a= .ok b:=by
 cases r with
 |ok a=>exact⟨a,rfl,h⟩
 |ex c=>cases h
 |st=>cases h
inductive Slot where
 |no|sh (d:D)|nw (d:D)|ow (d:D)|oz (d:D)|o2 (l:List (List D))
abbrev En:=List Slot
abbrev Lab:=Addr->Nat×Nat
abbrev Mode:=Option (List Nat)
def inM(m:Mode)(n:Nat):Prop:=match m with
 |none=>True
 |some L=>n∈L
def jn:Mode->Mode->Mode
 |some a,some b=>some (a++b)
 |_,_=>none
theorem aO4(h:inM a n):inM (jn a b) n:=by
 cases a with
 |none=>cases b<;>exact trivial
 |some L=>
  cases b with
  |none=>exact trivial
  |some M=>exact zAX _ h
theorem aO3(h:inM b n):inM (jn a b) n:=by
 cases a with
 |none=>cases b<;>exact trivial
 |some L=>
  cases b with
  |none=>exact trivial
  |some M=>exact zA6 _ h
def fpM(m:Mode)(lab:Lab)(H:Hp):Addr->Prop:=λ p=>H p=none\/inM m (lab p).1
theorem aLo(h:fpM a lab H p):fpM (jn a b) lab H p:=h.imp id aO4
theorem aLn(h:fpM b lab H p):fpM (jn a b) lab H p:=h.imp id aO3
theorem yz(s:aY H H')(h:fpM m lab H' p):fpM m lab H p:=h.imp (λ z=>s.free z) id
structure Gx where
 H0:Hp
 E:XK
 cl:Str->Addr
def aGW:D->Bool
 | .lst _=>true
 | .dct _ _=>true
 | .set _=>true
 |_=>false
def gJ(K:zAA)(H:Hp)(lab:Lab)(i:Nat)(v:V):Slot->Prop
 | .no=>True
 | .sh d=>Rp K (λ p=>(lab p).1<=1) H v d
 | .nw d=>Rp K (λ p=>(lab p).1=1) H v d
 | .ow d=>Rp K (λ p=>(lab p).1=1\/(lab p).1=i+2) H v d/\(aGW d=true->∃a,v= .ref a/\(lab a).1=i+2)
 | .oz d=>∃a xs ds,v= .ref a/\d= .lst ds/\H a=some (.lst xs)/\(lab a).1=i+2/\Rps K (λ p=>(lab p).1<=1) H xs ds
 | .o2 l=>∃a xs,v= .ref a/\H a=some (.lst xs)/\lab a=(i+2,0)/\xs.length=l.length/\∀(j:Nat) x ds,xs[j]? =some x->l[j]? =some ds->Rp K (λ p=>lab p=(i+2,j+1)) H x (.lst ds)
structure RR(K:zAA)(G:Gx)(τ:List (V×D))(ρ:En)(σ:L2.St)(H:Hp)(lab:Lab):Prop where
 len:σ.length=ρ.length
 sl:∀(i:Nat) (s:Slot),ρ[i]? =some s->s= .no\/∃v,σ[i]? =some (some v)/\gJ K H lab i v s
 old:aY G.H0 H
 new:∀p,(lab p).1≠0->G.H0 p=none
 tm:∀q∈τ,Rp K (λ p=>(lab p).1<=1) H q.1 q.2
theorem gJ.up(s:aY H H')(h:gJ K H lab i v x):gJ K H' lab i v x:=by
 cases x with
 |no=>exact trivial
 |sh d=>exact Rp.up s h
 |nw d=>exact Rp.up s h
 |ow d=>exact⟨Rp.up s h.1,h.2⟩
 |oz d=>
  obtain⟨a,xs,ds,e1,e2,e3,e4,e5⟩:=h;exact⟨a,xs,ds,e1,e2,s _ _ e3,e4,e5.up s⟩
 |o2 l=>
  obtain⟨a,xs,e1,e2,e3,e4,e5⟩:=h;exact⟨a,xs,e1,s _ _ e2,e3,e4,λ j x ds f1 f2=>(e5 j x ds f1 f2).up s⟩
theorem aH3(r:Rp K A H (.ref a) d)(hm:aGW d=true):∃o,H a=some o/\lM o=true/\A a:=by
 cases r with
 |lst h m _=>exact⟨_,h,rfl,m⟩
 |dK h m _=>exact⟨_,h,rfl,m⟩
 |dT h m _=>exact⟨_,h.at_,rfl,m⟩
 |set h m _ _=>exact⟨_,h,rfl,m⟩
 |tup _ _=>cases hm
 |scr _=>cases hm
 |fn _=>cases hm
theorem aMV(r:Rp K A H v d)(hm:aGW d=true):∃a,v= .ref a:=by
 cases r with
 |lst h m _=>exact⟨_,rfl⟩
 |dK h m _=>exact⟨_,rfl⟩
 |dT h m _=>exact⟨_,rfl⟩
 |set h m _ _=>exact⟨_,rfl⟩
 |_=>cases hm
theorem gJ.lab{lab lab':Lab}(hl:∀p o,H p=some o->lab' p=lab p)(h:gJ K H lab i v x):gJ K H lab' i v x:=by
 cases x with
 |no=>exact trivial
 |sh d=>exact Rp.wk (λ p o e q=>(hl p o e).symm▸q) h
 |nw d=>exact Rp.wk (λ p o e q=>(hl p o e).symm▸q) h
 |ow d=>
  obtain⟨h,t⟩:=h;refine⟨Rp.wk (λ p o e q=>(hl p o e).symm▸q) h,λ m=>?_⟩;obtain⟨a,rfl,ea⟩:=t m;obtain⟨o,ho,_⟩:=aH3 h m;exact⟨a,rfl,(congrArg (·.1) (hl a o ho)).trans ea⟩
 |oz d=>
  obtain⟨a,xs,ds,e1,e2,e3,e4,e5⟩:=h;exact⟨a,xs,ds,e1,e2,e3,(congrArg (·.1) (hl _ _ e3)).trans e4,Rps.wk (λ p o e q=>(hl p o e).symm▸q) e5⟩
 |o2 l=>
  obtain⟨a,xs,e1,e2,e3,e4,e5⟩:=h;exact⟨a,xs,e1,e2,(hl _ _ e2).trans e3,e4,λ j x ds f1 f2=>Rp.wk (λ p o e q=>(hl p o e).symm▸q) (e5 j x ds f1 f2)⟩
section
variable{G:Gx}{τ:List (V×D)}{ρ:En}{σ:L2.St}{H H':Hp}{lab lab':Lab}
theorem RR.up(R:RR K G τ ρ σ H lab)(s:aY H H'):RR K G τ ρ σ H' lab:=
 ⟨R.len,λ i x e=>(R.sl i x e).imp id λ⟨v,e1,e2⟩=>⟨v,e1,e2.up s⟩,R.old.trans s,R.new,λ q hq=>(R.tm q hq).up s⟩
theorem RR.relab(R:RR K G τ ρ σ H lab)(hl:∀p o,H p=some o->lab' p=lab p)(hn:∀p,(lab' p).1≠0->G.H0 p=none):RR K G τ ρ σ H lab':=
 ⟨R.len,λ i x e=>(R.sl i x e).imp id λ⟨v,e1,e2⟩=>⟨v,e1,e2.lab hl⟩,R.old,hn,λ q hq=>Rp.wk (λ p o e z=>by rw[hl p o e];exact z) (R.tm q hq)⟩
theorem RR.drop(R:RR K G (τ'++τ) ρ σ H lab):RR K G τ ρ σ H lab:=⟨R.len,R.sl,R.old,R.new,λ z hz=>R.tm z (zA6 _ hz)⟩
theorem RR.put(R:RR K G τ ρ σ H lab)(h:gJ K H lab i v s):RR K G τ (ρ.set i s) (σ.set i (some v)) H lab:=by
 refine⟨by rw[zBA,zBA,R.len],λ j x e=>?_,R.old,R.new,R.tm⟩;by_cases hj:i=j
 ·subst hj
  have hi:i<ρ.length:=by
   have:=(zAH.mp e).1
   rwa [zBA]at this
  rw[zB3 hi]at e;cases e;exact .inr ⟨v,by rw[zB3 (by rw[R.len];exact hi)],h⟩
 ·rw[zBK hj]at e
  rcases R.sl j x e with z|⟨u,e1,e2⟩
  ·exact .inl z
  ·exact .inr ⟨u,by rw[zBK hj];exact e1,e2⟩
def eE(H:Hp)(n:Nat)(lab:Lab):Lab:=λ p=>match H p with
 |none=>(n,0)
 |some _=>lab p
theorem cN(h:H p=some o):eE H n lab p=lab p:=by unfold eE;rw[h]
theorem yX(h:H p=none):eE H n lab p=(n,0):=by unfold eE;rw[h]
theorem RR.fresh{P:Nat->Prop}(h1:P 1)(hm:∀k,inM m k->P k)(R:RR K G τ ρ σ H lab)(s:aY H H')(r:Rp K (fpM m lab H) H' v d):
  RR K G τ ρ σ H' (eE H 1 lab)/\Rp K (λ p=>P (eE H 1 lab p).1) H' v d:=by
 refine⟨(R.relab (λ p o e=>cN e) λ p hp=>?_).up s,Rp.wk (λ p o e z=>?_) r⟩
 ·cases e:H p with
  |none=>exact R.old.free e
  |some o=>rw[cN e]at hp;exact R.new p hp
 ·rcases z with z|z
  ·rw[yX z];exact h1
  ·cases e:H p with
   |none=>rw[yX e];exact h1
   |some o=>rw[cN e];exact hm _ z
theorem RR.freshO(i:Nat)(hm:∀k,inM m k->k=1\/k=i+2)(R:RR K G τ ρ σ H lab)(s:aY H H')(r:Rp K (fpM m lab H) H' v d)(ht:aGW d=true->∃a,v= .ref a/\H a=none):
  ∃lab',RR K G τ ρ σ H' lab'/\gJ K H' lab' i v (.ow d):=by
 obtain⟨R',r'⟩:=R.fresh (P:=λ k=>k=1\/k=i+2) (.inl rfl) hm s r;cases hd:aGW d with
 |false=>exact⟨_,R',r',λ z=>absurd z (by simp[hd])⟩
 |true=>
  obtain⟨a,rfl,ha⟩:=ht hd;refine⟨λ p=>if p=a then(i+2,0)else eE H 1 lab p,?_,Rp.wk (λ p o e z=>?_) r',λ _=>⟨a,rfl,by show(if a=a then((i+2,0):Nat×Nat)else eE H 1 lab a).1=i+2;rw[if_pos rfl]⟩⟩
  ·refine(R.relab (lab':=λ p=>if p=a then(i+2,0)else eE H 1 lab p) (λ p o e=>?_) λ p hp=>?_).up s
   ·rw[if_neg (λ z=>by subst z;rw[ha]at e;cases e),cN e]
   ·by_cases z:p=a
    ·subst z;exact R.old.free ha
    ·rw[if_neg z]at hp;exact R'.new p hp
  ·dsimp only
   by_cases q:p=a
   ·rw[if_pos q];exact .inr rfl
   ·rw[if_neg q];exact z
theorem aLi(h:gJ K H lab i v (.oz d)):Rp K (λ p=>(lab p).1<=1\/(lab p).1=i+2) H v d:=by
 obtain⟨a,xs,ds,rfl,rfl,h1,h2,h3⟩:=h;exact .lst h1 (.inr h2) (h3.wk λ p o e z=>⟨.inl z,λ q=>by subst q;lia⟩)
end
structure Ct where
 ι:Type
 X:ι->Cx
 prog:zA2
 w:World
 K:zAA
 mg:Str->Option Value
 base:Heap
 k:Nat
 G:Gx
 cx:∀i,(X i).prog=prog/\(X i).w=w/\(X i).K=K/\(X i).mg=mg/\(X i).base=base
 calm:∀i,(X i).calm=true
 room:∀i,gD k (X i).A
 own:∀i,zIe (model (X i).prog (X i).w) (X i).A (X i).env (X i).xe
 pass:∀i,tD (CX1 (X i).prog (X i).w) (X i) G.E
 dOk:Bool
 dcx:dOk=true->∀i,fJ (X i) G.E
theorem Ct.hK(C:Ct)(i:C.ι):(C.X i).K=C.K:=(C.cx i).2.2.1
def WR{α:Type}(G:Gx)(r:Rs α)(P:α->Prop):Prop:=match r with
 | .ok a=>P a
 | .ex c=>∀H',aY G.H0 H'->G.E (.ref (G.cl c)) none H'
 | .st=>False
theorem WR.bd(h:WR G (r.bd k) P):WR G r (λ a=>WR G (k a) P):=by
 cases r with
 |ok a=>exact h
 |ex c=>exact h
 |st=>exact h
theorem WR.imp(h:WR G r P)(f:∀a,r= .ok a->P a->P' a):WR G r P':=by
 cases r with
 |ok a=>exact f a rfl h
 |ex c=>exact h
 |st=>exact h
abbrev QE(K:zAA)(m:Mode)(lab:Lab)(H:Hp)(Q:VK):D->Prop:=λ d=>∀v H',aY H H'->Rp K (fpM m lab H) H' v d->Q v H'
abbrev QA(K:zAA)(m:Mode)(lab:Lab)(H:Hp)(Q:List V->Hp->Prop):List D->Prop:=λ ds=>∀vs H',aY H H'->Rps K (fpM m lab H) H' vs ds->Q vs H'
abbrev QT(H:Hp)(Q:Bool->Hp->Prop):Bool->Prop:=λ b=>∀H',aY H H'->Q b H'
def gr(K:zAA)(G:Gx)(m:Mode)(t:TE)(f:En->Rs D):Prop:=∀τ σ H ρ lab (Q:VK),RR K G τ ρ σ H lab->WR G (f ρ) (QE K m lab H Q)->t σ H Q
def aLU(K:zAA)(G:Gx)(m:Mode)(t:TA)(f:En->Rs (List D)):Prop:=∀τ σ H ρ lab (Q:List V->Hp->Prop),RR K G τ ρ σ H lab->WR G (f ρ) (QA K m lab H Q)->t σ H Q
def z9(K:zAA)(G:Gx)(t:TT)(f:En->Rs Bool):Prop:=∀τ σ H ρ lab (Q:Bool->Hp->Prop),RR K G τ ρ σ H lab->WR G (f ρ) (QT H Q)->t σ H Q
def SE(C:Ct)(m:Mode)(e:Expr)(f:En->Rs D):Prop:=∃t,(∀i,PE (C.X i) e t)/\gr C.K C.G m t f
def SA(C:Ct)(m:Mode)(es:List Expr)(f:En->Rs (List D)):Prop:=∃t,(∀i,PA (C.X i) es t)/\aLU C.K C.G m t f
def ST(C:Ct)(e:Expr)(f:En->Rs Bool):Prop:=∃t,(∀i,PT (C.X i) e t)/\z9 C.K C.G t f
def SW(C:Ct)(e:Expr)(f:En->Rs Bool):Prop:=∃t,(∀i,PW (C.X i) e t)/\z9 C.K C.G t f
theorem SW.st(h:SW C e f):ST C e f:=let⟨t,h1,h2⟩:=h;⟨t,λ i=>(h1 i).pt,h2⟩
def jA(i:Nat):En->Rs D:=λ ρ=>match ρ[i]? with
 |some (.sh d)=>.ok d
 |some (.nw d)=>.ok d
 |some (.ow d)=>.ok d
 |some (.oz d)=>.ok d
 |some (.o2 l)=>.ok (.lst (l.map .lst))
 |_=>.st
def aB(i:Nat):En->Rs D:=λ ρ=>match ρ[i]? with
 |some (.sh d)=>.ok d
 |some (.nw d)=>.ok d
 |_=>.st
def fG(i:Nat):En->Rs D:=λ ρ=>match ρ[i]? with
 |some (.nw d)=>.ok d
 |_=>.st
def pJ(i:Nat):En->Rs D:=λ ρ=>match ρ[i]? with
 |some (.ow d)=>.ok d
 |some (.o2 l)=>.ok (.lst (l.map .lst))
 |_=>.st
def cD(d:D):En->Rs D:=λ _=>.ok d
theorem aFZ{K:zAA}{H:Hp}{lab:Lab}{i:Nat}{v:V}{l:List (List D)}(h:gJ K H lab i v (.o2 l)):Rp K (λ p=>(lab p).1=i+2) H v (.lst (l.map .lst)):=by
 obtain⟨a,xs,rfl,ha,hla,hlen,hin⟩:=h;refine .lst ha (by rw[hla]) ?_;have go:∀(xs:List V) (l:List (List D)) (n:Nat),xs.length=l.length->0<n->(∀(j:Nat) x ds,xs[j]? =some x->l[j]? =some ds->Rp K (λ p=>lab p=(i+2,n+j)) H x (.lst ds))->Rps K (λ p=>(lab p).1=i+2/\p≠a) H xs (l.map .lst):=by
  intro xs;induction xs with
  |nil=>intro l n hl _ _;cases l with|nil=>exact .nil|cons _ _=>simp at hl
  |cons x xs ih=>
   intro l n hl hn h;cases l with
   |nil=>simp at hl
   |cons ds l=>
    refine .cons (Rp.wk (λ p o e z=>⟨by rw[z],λ e=>by rw[e,hla]at z;have z2:(0:Nat)=n+0:=congrArg Prod.snd z;lia⟩) (h 0 x ds rfl rfl)) (ih l (n+1) (by simpa using hl) (by lia) λ j y es e1 e2=>?_);have z:=h (j+1) y es (by simpa using e1) (by simpa using e2);rw[show n+1+j=n+(j+1)by lia];exact z
 exact go xs l 1 hlen (by lia) λ j x ds e1 e2=>by have z:=hin j x ds e1 e2;rw[show 1+j=j+1 by lia];exact z
section
variable{C:Ct}{pos:Pos}
theorem aFF(K:zAA)(G:Gx)(i:Nat):gr K G (some [0,1,i+2]) (qt i) (jA i):=by
 intro τ σ H ρ lab Q R W;unfold jA at W;cases e:ρ[i]? with
 |none=>rw[e]at W;exact W.elim
 |some s=>
  rw[e]at W;rcases R.sl i s e with rfl|⟨v,ev,hv⟩
  ·exact zAO W
  ·cases s with
   |no=>exact zAO W
   |sh d=>exact⟨v,ev,W v H (aY.refl H) (Rp.wk (λ p o e z=>.inr (by show(lab p).1∈[0,1,i+2];rcases(show(lab p).1=0\/(lab p).1=1 by lia)with q|q<;>rw[q]<;>simp)) hv)⟩
   |nw d=>exact⟨v,ev,W v H (aY.refl H) (Rp.wk (λ p o e z=>.inr (by show(lab p).1∈[0,1,i+2];rw[z];simp)) hv)⟩
   |ow d=>exact⟨v,ev,W v H (aY.refl H) (Rp.wk (λ p o e z=>.inr (by show(lab p).1∈[0,1,i+2];rcases z with q|q<;>rw[q]<;>simp)) hv.1)⟩
   |oz d=>exact⟨v,ev,W v H (aY.refl H) (Rp.wk (λ p o e z=>.inr (by show(lab p).1∈[0,1,i+2];rcases(show(lab p).1=0\/(lab p).1=1\/(lab p).1=i+2 by lia)with q|q|q<;>rw[q]<;>simp)) (aLi hv))⟩
   |o2 l=>exact⟨v,ev,W v H (aY.refl H) (Rp.wk (λ p o e z=>.inr (by show(lab p).1∈[0,1,i+2];rw[z];simp)) (aFZ hv))⟩
theorem aHN(K:zAA)(G:Gx)(i:Nat):gr K G (some [0,1]) (qt i) (aB i):=by
 intro τ σ H ρ lab Q R W;unfold aB at W;cases e:ρ[i]? with
 |none=>rw[e]at W;exact W.elim
 |some s=>
  rw[e]at W;rcases R.sl i s e with rfl|⟨v,ev,hv⟩
  ·exact zAO W
  ·cases s with
   |sh d=>exact⟨v,ev,W v H (aY.refl H) (Rp.wk (λ p o e z=>.inr (by show(lab p).1∈[0,1];rcases(show(lab p).1=0\/(lab p).1=1 by lia)with q|q<;>rw[q]<;>simp)) hv)⟩
   |nw d=>exact⟨v,ev,W v H (aY.refl H) (Rp.wk (λ p o e z=>.inr (by show(lab p).1∈[0,1];rw[z];simp)) hv)⟩
   |_=>exact zAO W
theorem aHP(K:zAA)(G:Gx)(i:Nat):gr K G (some [1]) (qt i) (fG i):=by
 intro τ σ H ρ lab Q R W;unfold fG at W;cases e:ρ[i]? with
 |none=>rw[e]at W;exact W.elim
 |some s=>
  rw[e]at W;rcases R.sl i s e with rfl|⟨v,ev,hv⟩
  ·exact zAO W
  ·cases s with
   |nw d=>exact⟨v,ev,W v H (aY.refl H) (Rp.wk (λ p o e z=>.inr (by show(lab p).1∈[1];rw[z];simp)) hv)⟩
   |_=>exact zAO W
theorem aHO(K:zAA)(G:Gx)(i:Nat):gr K G (some [1,i+2]) (qt i) (pJ i):=by
 intro τ σ H ρ lab Q R W;unfold pJ at W;cases e:ρ[i]? with
 |none=>rw[e]at W;exact W.elim
 |some s=>
  rw[e]at W;rcases R.sl i s e with rfl|⟨v,ev,hv⟩
  ·exact zAO W
  ·cases s with
   |ow d=>exact⟨v,ev,W v H (aY.refl H) (Rp.wk (λ p o e z=>.inr (by show(lab p).1∈[1,i+2];rcases z with q|q<;>rw[q]<;>simp)) hv.1)⟩
   |o2 l=>exact⟨v,ev,W v H (aY.refl H) (Rp.wk (λ p o e z=>.inr (by show(lab p).1∈[1,i+2];rw[z];simp)) (aFZ hv))⟩
   |_=>exact zAO W
theorem pQ(i:Nat)(hN:∀j,(C.X j).N[i]? =some x:=by intro _;rfl)(hv:∀j,Vis (C.X j).env.scope x:=by intro _;first|exact zCi rfl|exact zBw (zCi rfl)|exact zBw (zBw rfl))(hd:(x==("__debug__":Str))=false:=by decide)
  (hcd:(x==("__classdict__":Str))=false:=by decide):SE C (some [0,1,i+2]) (.Name x pos) (jA i):=⟨_,λ j=>jC (hN j) (hv j) hd hcd,aFF _ _ i⟩
theorem aC(i:Nat)(hN:∀j,(C.X j).N[i]? =some x:=by intro _;rfl)(hv:∀j,Vis (C.X j).env.scope x:=by intro _;first|exact zCi rfl|exact zBw (zCi rfl)|exact zBw (zBw rfl))(hd:(x==("__debug__":Str))=false:=by decide)
  (hcd:(x==("__classdict__":Str))=false:=by decide):SE C (some [0,1]) (.Name x pos) (aB i):=⟨_,λ j=>jC (hN j) (hv j) hd hcd,aHN _ _ i⟩
theorem fO(i:Nat)(hN:∀j,(C.X j).N[i]? =some x:=by intro _;rfl)(hv:∀j,Vis (C.X j).env.scope x:=by intro _;first|exact zCi rfl|exact zBw (zCi rfl)|exact zBw (zBw rfl))(hd:(x==("__debug__":Str))=false:=by decide)
  (hcd:(x==("__classdict__":Str))=false:=by decide):SE C (some [1]) (.Name x pos) (fG i):=⟨_,λ j=>jC (hN j) (hv j) hd hcd,aHP _ _ i⟩
theorem qY(i:Nat)(hN:∀j,(C.X j).N[i]? =some x:=by intro _;rfl)(hv:∀j,Vis (C.X j).env.scope x:=by intro _;first|exact zCi rfl|exact zBw (zCi rfl)|exact zBw (zBw rfl))(hd:(x==("__debug__":Str))=false:=by decide)
  (hcd:(x==("__classdict__":Str))=false:=by decide):SE C (some [1,i+2]) (.Name x pos) (pJ i):=⟨_,λ j=>jC (hN j) (hv j) hd hcd,aHO _ _ i⟩
theorem aM:SE C (some []) (.Constant (.int i) j pos) (cD (.int i)):=⟨_,λ _=>aIA,λ τ σ H ρ lab Q R W=>W _ H (aY.refl H) (.int i)⟩
theorem dq:SE C (some []) (.Constant (.bool b) j pos) (cD (.bl b)):=⟨_,λ _=>aIF,λ τ σ H ρ lab Q R W=>W _ H (aY.refl H) (.bl b)⟩
theorem aBQ:SE C (some []) (.Constant .none j pos) (cD .non):=⟨_,λ _=>aMd,λ τ σ H ρ lab Q R W=>W _ H (aY.refl H) .non⟩
theorem mX:SE C (some []) (.Constant (.str x) j pos) (cD (.str x)):=⟨_,λ _=>gG,λ τ σ H ρ lab Q R W=>W _ H (aY.refl H) (.str x)⟩
theorem aJu(hm:C.mg x=some u)(r:RelV v u)(hd:∀A H,Rp C.K A H v d)(hdb:(x==("__debug__":Str))=false:=by decide)(hg:∀i,Gl (C.X i) x:=by intro _;rfl):SE C (some []) (.Name x pos) (cD d):=
 ⟨_,λ i=>fP (hg i) (by rw[(C.cx i).2.2.2.1];exact hm) r hdb,λ τ σ H ρ lab Q R W=>W _ H (aY.refl H) (hd _ _)⟩
def yx(d:D):Rs D:=if imm d=true then .ok d else .st
def bC(f:En->Rs D):En->Rs D:=λ ρ=>(f ρ).bd yx
theorem bV(h:SE C m e f):SE C (some []) e (bC f):=by
 obtain⟨t,h1,h2⟩:=h;refine⟨t,h1,λ τ σ H ρ lab Q R W=>h2 τ σ H ρ lab Q R (W.bd.imp λ d _ w v H' s r=>?_)⟩;unfold yx at w;by_cases hd:imm d=true
 ·rw[if_pos hd]at w
  exact w v H' s (r.imm hd)
 ·rw[if_neg hd]at w
  exact zAO w
def aF:En->Rs (List D):=λ _=>.ok []
def aA(f:En->Rs D)(g:En->Rs (List D)):En->Rs (List D):=λ ρ=>(f ρ).bd λ d=>(g ρ).bd λ ds=>.ok (d::ds)
variable{m m1 m2:Mode}{e a b:Expr}{es:List Expr}{f fa fb:En->Rs D}{g:En->Rs (List D)}
theorem aG:SA C (some []) [] aF:=⟨_,λ _=>dg,λ τ σ H ρ lab Q R W=>W _ H (aY.refl H) .nil⟩
theorem aD(h:SE C m1 e f)(hr:SA C m2 es g)(hs:∀i,zAZ (e::es) (C.X i).env=(false,eval e (C.X i).env)::zAZ es (C.X i).env:=by intro _;rfl):SA C (jn m1 m2) (e::es) (aA f g):=by
 obtain⟨t,h1,h2⟩:=h;obtain⟨u,k1,k2⟩:=hr;refine⟨_,λ i=>bG (h1 i) (k1 i) (hs i),λ τ σ H ρ lab Q R W=>?_⟩;refine h2 τ σ H ρ lab _ R (W.bd.imp λ d _ w x H1 s1 r1=>?_);refine k2 τ σ H1 ρ lab _ (R.up s1) (w.bd.imp λ ds _ w xs H2 s2 r2=>?_);exact w (x::xs) H2 (s1.trans s2) (.cons (r1.mono s2 λ p o _ z=>aLo z) (r2.wk λ p o _ z=>aLn (yz s1 z)))
def cM(g:En->Rs (List D)):En->Rs D:=λ ρ=>(g ρ).bd λ ds=>if ds.length<=zAW then .ok (.tup ds)else .st
def iz(g:En->Rs (List D)):En->Rs D:=λ ρ=>(g ρ).bd λ ds=>if ds.length<=zAW then .ok (.lst ds)else .st
theorem cR{x1}(h:SA C m es g):SE C m (.Tuple es x1 pos) (cM g):=by
 obtain⟨t,h1,h2⟩:=h;refine⟨_,λ i=>aKI (h1 i),λ τ σ H ρ lab Q R W=>h2 τ σ H ρ lab _ R (W.bd.imp λ ds _ w xs H1 s1 r1=>?_)⟩;by_cases hz:ds.length<=zAW
 ·rw[if_pos hz]at w
  exact⟨by rw[r1.length];exact hz,λ p H' s hp _=>w _ H' (s1.trans s) (.tup (SqT.of hp) (r1.up s))⟩
 ·rw[if_neg hz]at w
  exact zAO w
theorem rY(h:SA C m es g):SE C m (.List es pos) (iz g):=by
 obtain⟨t,h1,h2⟩:=h;refine⟨_,λ i=>oW (h1 i),λ τ σ H ρ lab Q R W=>h2 τ σ H ρ lab _ R (W.bd.imp λ ds _ w xs H1 s1 r1=>?_)⟩;by_cases hz:ds.length<=zAW
 ·rw[if_pos hz]at w
  exact⟨by rw[r1.length];exact hz,λ p H' s hp hn=>w _ H' (s1.trans s) (.lst hp (.inl (s1.free hn)) ((r1.wk λ q o e z=>⟨z,λ e'=>by subst e';rw[hn]at e;cases e⟩).up s))⟩
 ·rw[if_neg hz]at w
  exact zAO w
theorem aJv:SE C (some []) (.Dict [] [] pos) (cD (.dct [] [])):=
 ⟨_,λ _=>aIB,λ τ σ H ρ lab Q R W p H' s hp hn=>W _ H' s (.dK (kvs:=[]) hp (.inl hn) .nil)⟩
def aOn(H:Hp)(v:V)(d:D):Prop:=aGW d=true->∃a,v= .ref a/\H a=none
def aNh(K:zAA)(G:Gx)(m:Mode)(t:TE)(f:En->Rs D):Prop:=∀τ σ H ρ lab (Q:VK),RR K G τ ρ σ H lab->WR G (f ρ) (λ d=>∀v H',aY H H'->Rp K (fpM m lab H) H' v d->aOn H v d->Q v H')->t σ H Q
def SF(C:Ct)(m:Mode)(e:Expr)(f:En->Rs D):Prop:=∃t,(∀i,PE (C.X i) e t)/\aNh C.K C.G m t f
theorem gr.toF{K:zAA}{G:Gx}{t:TE}{f:En->Rs D}(h:gr K G (some []) t f):aNh K G (some []) t f:=λ τ σ H ρ lab Q R W=>
 h τ σ H ρ lab Q R (W.imp λ d _ w v H' s r=>w v H' s r λ hm=>by
  obtain⟨a,rfl⟩:=aMV r hm;obtain⟨o,_,_,z⟩:=aH3 r hm;rcases z with z|z
  ·exact⟨a,rfl,z⟩
  ·cases z)
theorem aNx(h:SE C (some []) e f):SF C (some []) e f:=let⟨t,h1,h2⟩:=h;⟨t,h1,h2.toF⟩
theorem xr(h:SA C m es g):SF C m (.List es pos) (iz g):=by
 obtain⟨t,h1,h2⟩:=h;refine⟨_,λ i=>oW (h1 i),λ τ σ H ρ lab Q R W=>h2 τ σ H ρ lab _ R (W.bd.imp λ ds _ w xs H1 s1 r1=>?_)⟩;by_cases hz:ds.length<=zAW
 ·rw[if_pos hz]at w
  exact⟨by rw[r1.length];exact hz,λ p H' s hp hn=>w _ H' (s1.trans s) (.lst hp (.inl (s1.free hn)) ((r1.wk λ q o e z=>⟨z,λ e'=>by subst e';rw[hn]at e;cases e⟩).up s)) λ _=>⟨p,rfl,s1.free hn⟩⟩
 ·rw[if_neg hz]at w
  exact zAO w
def OpS(K:zAA)(r:R2)(fd:D->D->Rs D):Prop:=∀(A:Addr->Prop) x y d e H (Q:VK) z,Rp K A H x d->Rp K A H y e->fd d e= .ok z->(∀v H',aY H H'->Rp K (λ p=>H p=none\/A p) H' v z->Q v H')->r x y H Q
def UnS(K:zAA)(r:V->Hp->VK->Prop)(fd:D->Rs D):Prop:=∀(A:Addr->Prop) x d H (Q:VK) z,Rp K A H x d->fd d= .ok z->(∀v H',aY H H'->Rp K (λ p=>H p=none\/A p) H' v z->Q v H')->r x H Q
def wV(K:zAA)(r:List V->Hp->VK->Prop)(fd:List D->Rs D):Prop:=∀(A:Addr->Prop) xs ds H (Q:VK) z,Rps K A H xs ds->fd ds= .ok z->(∀v H',aY H H'->Rp K (λ p=>H p=none\/A p) H' v z->Q v H')->r xs H Q
def okD(r:Rs D):Rs D:=match r with
 | .ok d=>.ok d
 |_=>.st
def op2(fd:D->D->Rs D)(fa fb:En->Rs D):En->Rs D:=λ ρ=>(fa ρ).bd λ x=>(fb ρ).bd λ y=>okD (fd x y)
def op1(fd:D->Rs D)(fa:En->Rs D):En->Rs D:=λ ρ=>(fa ρ).bd λ x=>okD (fd x)
def opA(fd:List D->Rs D)(fa:En->Rs (List D)):En->Rs D:=λ ρ=>(fa ρ).bd λ x=>okD (fd x)
theorem WR.okD(h:WR G (okD r) P):∃z,r= .ok z/\P z:=by
 cases r with
 |ok z=>exact⟨z,rfl,h⟩
 |ex c=>exact zAO h
 |st=>exact zAO h
theorem aBN{K:zAA}{G:Gx}{r:R2}{ta tb:TE}{fd:D->D->Rs D}(hs:OpS K r fd)(h1:gr K G m1 ta fa)(h2:gr K G m2 tb fb):gr K G (jn m1 m2) (tOp r ta tb) (op2 fd fa fb):=by
 intro τ σ H ρ lab Q R W;refine h1 τ σ H ρ lab _ R (W.bd.imp λ d _ w x H1 s1 r1=>?_);refine h2 τ σ H1 ρ lab _ (R.up s1) (w.bd.imp λ e _ w y H2 s2 r2=>?_);obtain⟨z,ez,w⟩:=w.okD;refine hs (fpM (jn m1 m2) lab H) x y d e H2 Q z (r1.mono s2 λ p o _ q=>aLo q) (r2.wk λ p o _ q=>aLn (yz s1 q)) ez λ v H' s r=>w v H' ((s1.trans s2).trans s) (r.wk λ p o _ q=>?_)
 rcases q with q|q
 ·exact .inl ((s1.trans s2).free q)
 ·exact q
theorem aJl{K:zAA}{G:Gx}{r:V->Hp->VK->Prop}{ta:TE}{fd:D->Rs D}(hs:UnS K r fd)(h1:gr K G m ta fa):gr K G m (tUn r ta) (op1 fd fa):=by
 intro τ σ H ρ lab Q R W;refine h1 τ σ H ρ lab _ R (W.bd.imp λ d _ w x H1 s1 r1=>?_);obtain⟨z,ez,w⟩:=w.okD;refine hs (fpM m lab H) x d H1 Q z r1 ez λ v H' s r=>w v H' (s1.trans s) (r.wk λ p o _ q=>?_)
 rcases q with q|q
 ·exact .inl (s1.free q)
 ·exact q
theorem aFH{K:zAA}{G:Gx}{r:List V->Hp->VK->Prop}{ta:TA}{fd:List D->Rs D}(hs:wV K r fd)(h1:aLU K G m ta g):gr K G m (tCB r ta) (opA fd g):=by
 intro τ σ H ρ lab Q R W;refine h1 τ σ H ρ lab _ R (W.bd.imp λ d _ w x H1 s1 r1=>?_);obtain⟨z,ez,w⟩:=w.okD;refine hs (fpM m lab H) x d H1 Q z r1 ez λ v H' s r=>w v H' (s1.trans s) (r.wk λ p o _ q=>?_)
 rcases q with q|q
 ·exact .inl (s1.free q)
 ·exact q
theorem ie(h:SE C m e f)(hi:∀ρ d,f ρ= .ok d->imm d=true):SE C (some []) e f:=by
 obtain⟨t,h1,h2⟩:=h;exact⟨t,h1,λ τ σ H ρ lab Q R W=>h2 τ σ H ρ lab Q R (W.imp λ d ed w v H' s r=>w v H' s (r.imm (hi ρ d ed)))⟩
theorem mL(h:∀x y z,fd x y= .ok z->imm z=true)(e:op2 fd fa fb ρ= .ok d):imm d=true:=by
 obtain⟨x,_,e⟩:=cL e;obtain⟨y,_,e⟩:=cL e;unfold okD at e;split at e
 ·rename_i z hz
  cases e;exact h x y _ hz
 ·cases e
theorem aKq(h:∀x z,fd x= .ok z->imm z=true)(e:op1 fd fa ρ= .ok d):imm d=true:=by
 obtain⟨x,_,e⟩:=cL e;unfold okD at e;split at e
 ·rename_i z hz
  cases e;exact h x _ hz
 ·cases e
theorem uI(h:∀x z,fd x= .ok z->imm z=true)(e:opA fd g ρ= .ok d):imm d=true:=by
 obtain⟨x,_,e⟩:=cL e;unfold okD at e;split at e
 ·rename_i z hz
  cases e;exact h x _ hz
 ·cases e
theorem aA2(ro:∀i,OpR (C.X i) (zCK op) r)(hs:OpS C.K r fd)(ha:SE C m1 a fa)(hb:SE C m2 b fb):SE C (jn m1 m2) (.BinOp a op b pos) (op2 fd fa fb):=by
 obtain⟨t,h1,h2⟩:=ha;obtain⟨u,k1,k2⟩:=hb;exact⟨_,λ i=>aHy (ro i) (h1 i) (k1 i),aBN hs h2 k2⟩
theorem aNy(ro:∀i,UnR (C.X i) (unaryOp op) r)(hs:UnS C.K r fd)(ha:SE C m a fa):SE C m (.UnaryOp op a pos) (op1 fd fa):=by
 obtain⟨t,h1,h2⟩:=ha;exact⟨_,λ i=>aOM (ro i) (h1 i),aJl hs h2⟩
theorem aBR(ro:∀i,OpR (C.X i) (zAr op) r)(hs:OpS C.K r fd)(ha:SE C m1 a fa)(hb:SE C m2 b fb)(hm:zBY op b=false:=by first|exact aIS _|(with_unfolding_all rfl)):
  SE C (jn m1 m2) (.Compare a [op] [b] pos) (op2 fd fa fb):=by
 obtain⟨t,h1,h2⟩:=ha;obtain⟨u,k1,k2⟩:=hb;exact⟨_,λ i=>aKL (ro i) (h1 i) (k1 i) hm,aBN hs h2 k2⟩
variable{p:Pos}{x:Str}{id T:String}
theorem pR(ro:∀i,dD (C.X i) (.builtin id) r)(hs:wV C.K r fd)(hg:∀i,Gl (C.X i) x)(hm:C.mg x=none)(hv:zAv x=some (.builtin id))(ha:SA C m (e::es) g)
  (hn:x≠"__name__":=by decide)(hdb:(x==("__debug__":Str))=false:=by decide)(he:∀i,zAZ (e::es) (C.X i).env=(false,eval e (C.X i).env)::zAZ es (C.X i).env:=by intro _;rfl)
  (hpl:∀i,(zC1 pos (zAZ es (C.X i).env)).any (·.1)=false:=by intro _;rfl):SE C m (.Call (.Name x p) (e::es) [] pos) (opA fd g):=by
 obtain⟨t,h1,h2⟩:=ha;exact⟨_,λ i=>qF (ro i) (hg i) (by rw[(C.cx i).2.2.2.1];exact hm) hv (h1 i) hn hdb (he i) (hpl i),aFH hs h2⟩
theorem aHX(ro:∀i,dD (C.X i) (.type T) r)(hs:wV C.K r fd)(hg:∀i,Gl (C.X i) x)(hm:C.mg x=none)(hv:zAv x=some (.type T))(ha:SA C m (e::es) g)
  (hn:x≠"__name__":=by decide)(hdb:(x==("__debug__":Str))=false:=by decide)(he:∀i,zAZ (e::es) (C.X i).env=(false,eval e (C.X i).env)::zAZ es (C.X i).env:=by intro _;rfl)
  (hpl:∀i,(zC1 pos (zAZ es (C.X i).env)).any (·.1)=false:=by intro _;rfl):SE C m (.Call (.Name x p) (e::es) [] pos) (opA fd g):=by
 obtain⟨t,h1,h2⟩:=ha;exact⟨_,λ i=>nD (ro i) (hg i) (by rw[(C.cx i).2.2.2.1];exact hm) hv (h1 i) hn hdb (he i) (hpl i),aFH hs h2⟩
def z7(f g:En->Rs D):En->Rs D:=λ ρ=>(f ρ).bd λ d=>match d with
 | .bl true=>g ρ
 | .bl false=>.ok (.bl false)
 |_=>.st
def aNH:D->Rs D
 | .bl b=>.ok (.bl (!b))
 |_=>.st
variable{rest:List Expr}
theorem um{op}(h:SE C m a fa):SE C m (.BoolOp op [a] pos) fa:=by
 obtain⟨t,h1,h2⟩:=h;exact⟨_,λ i=>aMb (h1 i),h2⟩
theorem rZ(ha:SE C m1 a fa)(hb:SE C m2 (.BoolOp .And (b::rest) pos) fb):SE C m2 (.BoolOp .And (a::b::rest) pos) (z7 fa fb):=by
 obtain⟨t,h1,h2⟩:=ha;obtain⟨u,k1,k2⟩:=hb;refine⟨_,λ i=>aMg (h1 i) (k1 i),λ τ σ H ρ lab Q R W=>h2 τ σ H ρ lab _ R (W.bd.imp λ d _ w x H1 s1 r1=>?_)⟩;cases r1 with
 |bl c=>
  refine⟨c,rfl,?_⟩;cases c with
  |true=>
   rw[if_pos rfl];exact k2 τ σ H1 ρ lab Q (R.up s1) (w.imp λ z _ w v H' s r=>w v H' (s1.trans s) (r.wk λ p o _ q=>yz s1 q))
  |false=>
   rw[if_neg zA3];exact w _ H1 s1 (.bl false)
 |_=>exact zAO w
theorem aMR(ha:SE C m a fa):SE C (some []) (.UnaryOp .Not a pos) (op1 aNH fa):=by
 obtain⟨t,h1,h2⟩:=ha;refine⟨_,λ i=>aMc (h1 i),λ τ σ H ρ lab Q R W=>h2 τ σ H ρ lab _ R (W.bd.imp λ d _ w x H1 s1 r1=>?_)⟩;obtain⟨z,ez,w⟩:=w.okD;cases r1 with
 |bl c=>cases ez;exact⟨c,rfl,w _ H1 s1 (.bl _)⟩
 |_=>cases ez
def chD(fd fd':D->D->Rs D)(fa fb fc:En->Rs D):En->Rs D:=λ ρ=>(fa ρ).bd λ x=>(fb ρ).bd λ y=>(okD (fd x y)).bd λ z=>match z with
 | .bl true=>(fc ρ).bd λ w=>okD (fd' y w)
 | .bl false=>.ok (.bl false)
 |_=>.st
theorem aGC{K:zAA}{G:Gx}{r r':R2}{ta tb tc:TE}{fd fd':D->D->Rs D}{fc:En->Rs D}{m3:Mode}(hs:OpS K r fd)(hs':OpS K r' fd')(hi:∀x y z,fd' x y= .ok z->imm z=true)(h1:gr K G m1 ta fa)(h2:gr K G m2 tb fb)(h3:gr K G m3 tc fc):
  gr K G (some []) (aHE r r' ta tb tc) (chD fd fd' fa fb fc):=by
 intro τ σ H ρ lab Q R W;refine h1 τ σ H ρ lab _ R (W.bd.imp λ d _ w x H1 s1 r1=>?_);refine h2 τ σ H1 ρ lab _ (R.up s1) (w.bd.imp λ e _ w y H2 s2 r2=>?_);obtain⟨z,ez,w⟩:=w.bd.okD;refine hs (λ _=>True) x y d e H2 _ z (r1.mono s2 λ p o _ q=>trivial) (r2.wk λ p o _ q=>trivial) ez λ v H3 s3 r3=>?_
 cases r3 with
 |bl c=>
  refine⟨c,rfl,?_⟩;cases c with
  |false=>
   rw[if_neg zA3];exact w _ H3 ((s1.trans s2).trans s3) (.bl false)
  |true=>
   rw[if_pos rfl];refine h3 τ σ H3 ρ lab _ ((R.up s1).up (s2.trans s3)) (w.bd.imp λ e' _ w y' H4 s4 r4=>?_);obtain⟨z',ez',w⟩:=w.okD;exact hs' (λ _=>True) y y' e e' H4 Q z' (r2.mono (s3.trans s4) λ p o _ q=>trivial) (r4.wk λ p o _ q=>trivial) ez' λ v H5 s5 r5=>w v H5 ((((s1.trans s2).trans s3).trans s4).trans s5) (r5.imm (hi _ _ _ ez'))
 |_=>exact zAO w
theorem aC6(ro:∀i,OpR (C.X i) (zAr op) r)(hs:OpS C.K r fd)(ro':∀i,OpR (C.X i) (zAr op') r')(hs':OpS C.K r' fd')(hi:∀x y z,fd' x y= .ok z->imm z=true)
  (ha:SE C m1 a fa)(hb:SE C m2 b fb)(hc:SE C m3 c fc)(hm:zIj [op,op'] [b,c]=false:=by with_unfolding_all rfl):SE C (some []) (.Compare a [op,op'] [b,c] pos) (chD fd fd' fa fb fc):=by
 obtain⟨t,h1,h2⟩:=ha;obtain⟨u,k1,k2⟩:=hb;obtain⟨v,l1,l2⟩:=hc;exact⟨_,λ i=>aIC (ro i) (ro' i) (h1 i) (k1 i) (l1 i) hm,aGC hs hs' hi h2 k2 l2⟩
def aMD:D->Rs Bool
 | .non=>.ok false
 | .bl b=>.ok b
 | .int i=>.ok (i !=0)
 | .tup l=>.ok (!l.isEmpty)
 | .lst l=>.ok (!l.isEmpty)
 |_=>.st
def blD:D->Rs Bool
 | .bl b=>.ok b
 |_=>.st
def tst(f:En->Rs D):En->Rs Bool:=λ ρ=>(f ρ).bd aMD
def tsb(f:En->Rs D):En->Rs Bool:=λ ρ=>(f ρ).bd blD
theorem yp{K:zAA}{A:Addr->Prop}{H:Hp}{xs:List V}{ds:List D}(r:Rps K A H xs ds):(!ds.isEmpty)= !xs.isEmpty:=by cases r<;>rfl
theorem gZ(ha:SE C m a fa)(he:∀i whole,isTrue a (C.X i).env whole=(do let v <-whole;zES a.pos;zCk [v] (truthy v)):=by intro _ _;rfl):ST C a (tst fa):=by
 obtain⟨t,h1,h2⟩:=ha;refine⟨λ σ H Q=>t σ H λ x H'=>∃k,aNf C.K x H' k/\Q k H',λ i=>by rw[<-C.hK i];exact aHn (h1 i) (he i),λ τ σ H ρ lab Q R W=>h2 τ σ H ρ lab _ R (W.bd.imp λ d _ w x H1 s1 r1=>?_)⟩;cases r1 with
 |non=>exact⟨false,rfl,w H1 s1⟩
 |bl b=>exact⟨b,rfl,w H1 s1⟩
 |int i=>exact⟨i !=0,rfl,w H1 s1⟩
 |tup h r=>exact⟨_,.inr (.inl ⟨_,h,rfl⟩),by rw[<-yp r];exact w H1 s1⟩
 |lst h m r=>exact⟨_,.inl ⟨_,SqL.of h,rfl⟩,by rw[<-yp r];exact w H1 s1⟩
 |_=>exact zAO w
theorem aJk{K:zAA}{G:Gx}{t:TE}{f:En->Rs D}(h:gr K G m t f):z9 K G (aL4 t) (tsb f):=λ τ σ H ρ lab Q R W=>h τ σ H ρ lab _ R (W.bd.imp λ d _ w x H1 s1 r1=>by
 cases r1 with
 |bl b=>exact⟨b,rfl,w H1 s1⟩
 |_=>exact zAO w)
theorem nu(ro:∀i,OpR (C.X i) (zAr op) r)(hs:OpS C.K r fd)(ha:SE C m1 a fa)(hb:SE C m2 b fb)(hm:zBY op b=false:=by first|exact aIS _|(with_unfolding_all rfl)):
  ST C (.Compare a [op] [b] pos) (tsb (op2 fd fa fb)):=by
 obtain⟨t,h1,h2⟩:=ha;obtain⟨u,k1,k2⟩:=hb;exact⟨_,λ i=>aKE (ro i) (h1 i) (k1 i) hm,aJk (aBN hs h2 k2)⟩
variable{ga gb:En->Rs Bool}
def wu(f g:En->Rs Bool):En->Rs Bool:=λ ρ=>(f ρ).bd λ k=>if k=true then g ρ else .ok false
def orT(f g:En->Rs Bool):En->Rs Bool:=λ ρ=>(f ρ).bd λ k=>if k=true then .ok true else g ρ
def iu(f:En->Rs Bool):En->Rs Bool:=λ ρ=>(f ρ).bd λ k=>.ok (!k)
theorem xH(ha:ST C a ga):SW C (.BoolOp .And [a] pos) ga:=let⟨t,h1,h2⟩:=ha;⟨t,λ i=>aKD (h1 i),h2⟩
theorem rW(ha:ST C a ga):SW C (.BoolOp .Or [a] pos) ga:=let⟨t,h1,h2⟩:=ha;⟨t,λ i=>aHi (h1 i),h2⟩
theorem aBK(ha:ST C a ga)(hb:SW C (.BoolOp .And (b::rest) pos) gb):SW C (.BoolOp .And (a::b::rest) pos) (wu ga gb):=by
 obtain⟨t,h1,h2⟩:=ha;obtain⟨u,k1,k2⟩:=hb;refine⟨_,λ i=>aMZ (h1 i) (k1 i),λ τ σ H ρ lab Q R W=>h2 τ σ H ρ lab _ R (W.bd.imp λ k _ w H1 s1=>?_)⟩;cases k with
 |true=>
  rw[if_pos rfl]at w ⊢;exact k2 τ σ H1 ρ lab Q (R.up s1) (w.imp λ z _ w H' s=>w H' (s1.trans s))
 |false=>
  rw[if_neg zA3]at w ⊢;exact w H1 s1
theorem xZ(ha:ST C a ga)(hb:SW C (.BoolOp .Or (b::rest) pos) gb):SW C (.BoolOp .Or (a::b::rest) pos) (orT ga gb):=by
 obtain⟨t,h1,h2⟩:=ha;obtain⟨u,k1,k2⟩:=hb;refine⟨_,λ i=>aLf (h1 i) (k1 i),λ τ σ H ρ lab Q R W=>h2 τ σ H ρ lab _ R (W.bd.imp λ k _ w H1 s1=>?_)⟩;cases k with
 |false=>
  rw[if_neg zA3]at w ⊢;exact k2 τ σ H1 ρ lab Q (R.up s1) (w.imp λ z _ w H' s=>w H' (s1.trans s))
 |true=>
  rw[if_pos rfl]at w ⊢;exact w H1 s1
theorem gf(ha:ST C a ga):ST C (.UnaryOp .Not a pos) (iu ga):=by
 obtain⟨t,h1,h2⟩:=ha;exact⟨_,λ i=>aEN (h1 i),λ τ σ H ρ lab Q R W=>h2 τ σ H ρ lab _ R (W.bd.imp λ k _ w H1 s1=>w H1 s1)⟩
end
inductive Ou where
 |nx (ρ:En)|rt (d:D)|bk (ρ:En)|ct (ρ:En)|ex (c:Str)|st
def Rs.bo{α:Type}:Rs α->(α->Ou)->Ou
 | .ok a,f=>f a
 | .ex c,_=>.ex c
 | .st,_=>.st
@[simp] theorem cC(a:α)(f:α->Ou):(Rs.ok a).bo f=f a:=aR rfl
@[simp] theorem bo_ex(c:Str)(f:α->Ou):(Rs.ex c:Rs α).bo f= .ex c:=aR rfl
def Ou.sq:Ou->(En->Ou)->Ou
 | .nx ρ,f=>f ρ
 |o,_=>o
@[simp] theorem bI(ρ:En)(f:En->Ou):(Ou.nx ρ).sq f=f ρ:=aR rfl
@[simp] theorem sq_rt(d:D)(f:En->Ou):(Ou.rt d).sq f= .rt d:=aR rfl
@[simp] theorem sq_ex(c:Str)(f:En->Ou):(Ou.ex c).sq f= .ex c:=aR rfl
def WS(K:zAA)(G:Gx)(τ:List (V×D))(o:Ou)(De:Ends):Prop:=match o with
 | .nx ρ=>∀σ H lab,RR K G τ ρ σ H lab->De.nx σ H
 | .bk ρ=>∀σ H lab,RR K G τ ρ σ H lab->De.bk σ H
 | .ct ρ=>∀σ H lab,RR K G τ ρ σ H lab->De.ct σ H
 | .rt d=>∀v H,aY G.H0 H->Rp K (λ p=>G.H0 p=none) H v d->De.rt v H
 | .ex c=>∀H',aY G.H0 H'->G.E (.ref (G.cl c)) none H'
 | .st=>False
theorem WS.bo{K:zAA}(h:WS K G τ (r.bo k) De):WR G r (λ a=>WS K G τ (k a) De):=by
 cases r with
 |ok a=>exact h
 |ex c=>exact h
 |st=>exact h
def aOg(K:zAA)(G:Gx)(t:TS)(f:En->Ou):Prop:=∀τ σ H ρ lab (De:Ends),RR K G τ ρ σ H lab->WS K G τ (f ρ) De->t De σ H
def SS(C:Ct)(s:Stmt)(f:En->Ou):Prop:=∃t,(∀i,PS (C.X i) s t)/\aOg C.K C.G t f
def SSs(C:Ct)(s:List Stmt)(f:En->Ou):Prop:=∃t,(∀i,PSs (C.X i) s t)/\aOg C.K C.G t f
section
variable{C:Ct}{pos:Pos}{s:Stmt}{ss:List Stmt}{f g:En->Ou}{e:Expr}{m:Mode}{fe:En->Rs D}
theorem bR:SSs C [] .nx:=⟨_,λ _=>aB7,λ τ σ H ρ lab De R W=>W σ H lab R⟩
def aQ(f g:En->Ou):En->Ou:=λ ρ=>(f ρ).sq g
theorem aL(h:SS C s f):SSs C [s] f:=let⟨t,h1,h2⟩:=h;⟨t,λ i=>oR (h1 i),h2⟩
theorem aJ(h:SS C s f)(k:SSs C ss g):SSs C (s::ss) (aQ f g):=by
 obtain⟨t,h1,h2⟩:=h;obtain⟨u,k1,k2⟩:=k;refine⟨_,λ i=>gQ (h1 i) (k1 i),λ τ σ H ρ lab De R W=>h2 τ σ H ρ lab _ R ?_⟩;unfold aQ at W;cases h:f ρ with
 |nx ρ'=>rw[h]at W;exact λ σ' H' lab' R'=>k2 τ σ' H' ρ' lab' De R' W
 |rt d=>rw[h]at W;exact W
 |bk ρ'=>rw[h]at W;exact W
 |ct ρ'=>rw[h]at W;exact W
 |ex c=>rw[h]at W;exact W
 |st=>rw[h]at W;exact W
def frz(i:Nat)(ρ:En):En:=match ρ[i]? with
 |some (.ow d)=>ρ.set i (.nw d)
 |some (.o2 l)=>ρ.set i (.nw (.lst (l.map .lst)))
 |_=>ρ
def aOU:Mode->Bool
 |some L=>L.all (·!=0)
 |none=>false
def retS(fe:En->Rs D):En->Ou:=λ ρ=>(fe ρ).bo .rt
theorem ak(he:SE C m e fe)(hm:aOU m=true:=by rfl):SS C (.Return (some e) pos) (retS fe):=by
 obtain⟨t,h1,h2⟩:=he;refine⟨_,λ i=>yN (h1 i),λ τ σ H ρ lab De R W=>h2 τ σ H ρ lab _ R (W.bo.imp λ d _ w v H' s r=>w v H' (R.old.trans s) (r.wk λ p o _ z=>?_))⟩;rcases z with z|z
 ·exact R.old.free z
 ·cases m with
  |none=>cases hm
  |some L=>
   refine R.new p λ e0=>?_
   have:=zAj.mp hm _ z
   rw[e0]at this;simp at this
def dW(fe:En->Rs D):En->Ou:=λ ρ=>(fe ρ).bo λ _=>.nx ρ
theorem jV(he:SE C m e fe)(hs:∀i,zDI e none pos.line (C.X i).env=pure false:=by intro _;rfl):SS C (.Expr e pos) (dW fe):=by
 obtain⟨t,h1,h2⟩:=he;exact⟨_,λ i=>tV (h1 i) (hs i),λ τ σ H ρ lab De R W=>h2 τ σ H ρ lab _ R (W.bo.imp λ d _ w v H' s r=>w σ H' lab (R.up s))⟩
def ifS(c:En->Rs Bool)(f g:En->Ou):En->Ou:=λ ρ=>(c ρ).bo λ k=>if k=true then f ρ else g ρ
theorem cX{a b:List Stmt}(hc:ST C c fc)(ha:SSs C a f)(hb:SSs C b g):SS C (.If c a b pos) (ifS fc f g):=by
 obtain⟨tc,c1,c2⟩:=hc;obtain⟨t,h1,h2⟩:=ha;obtain⟨u,k1,k2⟩:=hb;refine⟨_,λ i=>aHr (c1 i) (h1 i) (k1 i),λ τ σ H ρ lab De R W=>c2 τ σ H ρ lab _ R (W.bo.imp λ k _ w H1 s1=>?_)⟩;cases k with
 |true=>rw[if_pos rfl]at w ⊢;exact h2 τ σ H1 ρ lab De (R.up s1) w
 |false=>rw[if_neg zA3]at w ⊢;exact k2 τ σ H1 ρ lab De (R.up s1) w
def SV(C:Ct)(i:Nat)(s:Stmt)(m:Mode)(f:En->Rs D):Prop:=∃t,(∀j,PS (C.X j) s (aC0 t (rK i)))/\gr C.K C.G m t f
theorem iW(he:SE C m e fe)(hN:∀j,(C.X j).N[i]? =some x:=by intro _;rfl)(hx:∀j,Loc (C.X j).env.scope x:=by intro _;first|exact zCi rfl|exact zBw rfl)(hs:∀j,zDI e (some (.Name x pos')) pos.line (C.X j).env=pure false:=by intro _;rfl)(hf:∀j,(C.X j).fn x=true\/(C.X j).env.scope.names.lookup x=some .local:=by intro _;first|exact .inl rfl|exact .inr rfl)(nd:∀j,(C.X j).N.Nodup:=by intro _;assumption):
  SV C i (.Assign [.Name x pos'] e pos) m fe:=by
 obtain⟨t,h1,h2⟩:=he;exact⟨t,λ j=>oU (nd j) (hN j) (hx j) (h1 j) (hs j) (hf j),h2⟩
def SVF(C:Ct)(i:Nat)(s:Stmt)(m:Mode)(f:En->Rs D):Prop:=∃t,(∀j,PS (C.X j) s (aC0 t (rK i)))/\aNh C.K C.G m t f
theorem xf(he:SF C m e fe)(hN:∀j,(C.X j).N[i]? =some x:=by intro _;rfl)(hx:∀j,Loc (C.X j).env.scope x:=by intro _;first|exact zCi rfl|exact zBw rfl)(hs:∀j,zDI e (some (.Name x pos')) pos.line (C.X j).env=pure false:=by intro _;rfl)(hf:∀j,(C.X j).fn x=true\/(C.X j).env.scope.names.lookup x=some .local:=by intro _;first|exact .inl rfl|exact .inr rfl)(nd:∀j,(C.X j).N.Nodup:=by intro _;assumption):
  SVF C i (.Assign [.Name x pos'] e pos) m fe:=by
 obtain⟨t,h1,h2⟩:=he;exact⟨t,λ j=>oU (nd j) (hN j) (hx j) (h1 j) (hs j) (hf j),h2⟩
def aFY(P:Nat->Bool):Mode->Bool
 |some L=>L.all P
 |none=>false
theorem t7(h:aFY P m=true):∀k,inM m k->P k=true:=by
 intro k hk;cases m with
 |none=>cases h
 |some L=>exact zAj.mp h k hk
abbrev okS:Mode->Bool:=aFY λ k=>decide (k<=1)
abbrev okN:Mode->Bool:=aFY λ k=>k==1
abbrev okO(i:Nat):Mode->Bool:=aFY λ k=>k==1||k==i+2
def cJ(i:Nat)(fe:En->Rs D):En->Ou:=λ ρ=>(fe ρ).bo λ d=>.nx (ρ.set i (.sh d))
def lF(i:Nat)(fe:En->Rs D):En->Ou:=λ ρ=>(fe ρ).bo λ d=>.nx (ρ.set i (.nw d))
def mW(i:Nat)(fe:En->Rs D):En->Ou:=λ ρ=>(fe ρ).bo λ d=>.nx (ρ.set i (.ow d))
theorem RR.shared{K:zAA}(hm:okS m=true)(R:RR K G τ ρ σ H lab)(s:aY H H')(r:Rp K (fpM m lab H) H' v d):
  RR K G τ ρ σ H' (eE H 1 lab)/\Rp K (λ p=>(eE H 1 lab p).1<=1) H' v d:=R.fresh (P:=λ k=>k<=1) (by decide) (λ k hk=>of_decide_eq_true (t7 hm k hk)) s r
theorem cF{i:Nat}(h:SV C i s m fe)(hm:okS m=true:=by rfl):SS C s (cJ i fe):=by
 obtain⟨t,h1,h2⟩:=h;refine⟨_,h1,λ τ σ H ρ lab De R W=>h2 τ σ H ρ lab _ R (W.bo.imp λ d _ w v H' s r=>?_)⟩;obtain⟨R',r'⟩:=R.shared hm s r;exact w _ _ _ (R'.put (s:=.sh d) r')
theorem jq(h:SV C i s m fe)(hm:okN m=true:=by rfl):SS C s (lF i fe):=by
 obtain⟨t,h1,h2⟩:=h;refine⟨_,h1,λ τ σ H ρ lab De R W=>h2 τ σ H ρ lab _ R (W.bo.imp λ d _ w v H' s r=>?_)⟩;obtain⟨R',r'⟩:=R.fresh (P:=λ k=>k=1) rfl (λ k hk=>beq_iff_eq.mp (t7 hm k hk)) s r;exact w _ _ _ (R'.put (s:=.nw d) r')
theorem oA(h:SVF C i s m fe)(hm:okO i m=true:=by rfl):SS C s (mW i fe):=by
 obtain⟨t,h1,h2⟩:=h;refine⟨_,h1,λ τ σ H ρ lab De R W=>h2 τ σ H ρ lab _ R (W.bo.imp λ d _ w v H' s r ht=>?_)⟩;obtain⟨lab',R',r'⟩:=R.freshO i (λ k hk=>by have:=t7 hm k hk;simpa using this) s r ht;exact w _ _ _ (R'.put (s:=.ow d) r')
def aDg(K:zAA)(G:Gx)(g:TG)(fg:D->En->Rs En):Prop:=∀τ v d σ H ρ lab (Q:L2.St->Hp->Prop) ρ',RR K G τ ρ σ H lab->Rp K (λ p=>(lab p).1<=1) H v d->fg d ρ= .ok ρ'->(∀σ',RR K G τ ρ' σ' H lab->Q σ' H)->g v σ H Q
def aOh(K:zAA)(G:Gx)(g:TGs)(fg:List D->En->Rs En):Prop:=∀τ vs ds σ H ρ lab (Q:L2.St->Hp->Prop) ρ',RR K G τ ρ σ H lab->Rps K (λ p=>(lab p).1<=1) H vs ds->fg ds ρ= .ok ρ'->(∀σ',RR K G τ ρ' σ' H lab->Q σ' H)->g vs σ H Q
def SG(C:Ct)(tg:Expr)(ks:List Nat)(fg:D->En->Rs En):Prop:=∃g,(∀i,PG (C.X i) tg g)/\aDg C.K C.G g fg/\mU g ks/\zc g
def SGs(C:Ct)(tg:List Expr)(ks:List Nat)(fg:List D->En->Rs En):Prop:=∃g,(∀i,PGs (C.X i) tg g)/\aOh C.K C.G g fg/\zb g ks/\vZ g
def gnm(i:Nat):D->En->Rs En:=λ d ρ=>.ok (ρ.set i (.sh d))
def dh:List D->En->Rs En:=λ ds ρ=>match ds with
 |[]=>.ok ρ
 |_=>.st
def aW(f:D->En->Rs En)(g:List D->En->Rs En):List D->En->Rs En:=λ ds ρ=>match ds with
 |d::r=>(f d ρ).bd (g r)
 |_=>.st
def dU(n:Nat)(g:List D->En->Rs En):D->En->Rs En:=λ d ρ=>match d with
 | .tup ds=>if ds.length=n then g ds ρ else .st
 |_=>.st
variable{ks:List Nat}{fg:D->En->Rs En}{fgs:List D->En->Rs En}{tg:Expr}{tgs:List Expr}
theorem bU(hN:∀j,(C.X j).N[i]? =some x:=by intro _;rfl)(hx:∀j,Loc (C.X j).env.scope x:=by intro _;first|exact zCi rfl|exact zBw rfl)(hf:∀j,(C.X j).fn x=true\/(C.X j).env.scope.names.lookup x=some .local:=by intro _;first|exact .inl rfl|exact .inr rfl)(nd:∀j,(C.X j).N.Nodup:=by intro _;assumption)(hk:i∈ks:=by decide):SG C (.Name x pos) ks (gnm i):=
 ⟨_,λ j=>aKH (nd j) (hN j) (hx j) (hf j),λ τ v d σ H ρ lab Q ρ' R r e q=>by cases e;exact q _ (R.put (s:=.sh d) r),aKw hk,aKy⟩
theorem jr:SGs C [] ks dh:=by
 refine⟨_,λ _=>aKG,λ τ vs ds σ H ρ lab Q ρ' R r e q=>?_,aKv,aKx⟩;cases r with
 |nil=>cases e;exact⟨rfl,q _ R⟩
 |cons _ _=>cases e
theorem cI(h:SG C tg ks fg)(k:SGs C tgs ks fgs)(hs:∀i,(zCV (tg::tgs) (C.X i).env).map (·.2)=zEB tg (C.X i).env::(zCV tgs (C.X i).env).map (·.2):=by intro _;rfl):SGs C (tg::tgs) ks (aW fg fgs):=by
 obtain⟨g,h1,h2,h3,h4⟩:=h;obtain⟨u,k1,k2,k3,k4⟩:=k;refine⟨_,λ i=>aHw (h1 i) (k1 i) (hs i),λ τ vs ds σ H ρ lab Q ρ' R r e q=>?_,aJB h3 h4 k3 k4,aJF h4 k4⟩;cases r with
 |nil=>cases e
 |cons h r=>
  obtain⟨ρ1,e1,e2⟩:=cL e;exact⟨_,_,rfl,h2 τ _ _ σ H ρ lab _ ρ1 R h e1 λ σ1 R1=>k2 τ _ _ σ1 H ρ1 lab Q ρ' R1 r e2 q⟩
theorem oF(h:SGs C tgs ks fgs)(hn:∀i,(zCV tgs (C.X i).env).length=n:=by intro _;rfl)(hst:∀i,(zCV tgs (C.X i).env).findIdx? (·.1)=none:=by intro _;rfl):SG C (.Tuple tgs k pos) ks (dU n fgs):=by
 obtain⟨u,k1,k2,k3,k4⟩:=h;refine⟨aKz C.K n u,λ i=>by rw[<-C.hK i];exact aM6 (C.calm i) (k1 i) (hn i) (hst i),λ τ v d σ H ρ lab Q ρ' R r e q=>?_,aN0 k3,aN1 k4⟩;cases r with
 |tup h r=>
  unfold dU at e;dsimp only at e;split at e
  ·rename_i hl
   exact⟨_,_,rfl,h,by rw[r.length];exact hl,k2 τ _ _ σ H ρ lab Q ρ' R r e q⟩
  ·cases e
 |_=>cases e
def aDc(fe:En->Rs D)(fg:D->En->Rs En):En->Ou:=λ ρ=>(fe ρ).bo λ d=>match fg d ρ with
 | .ok ρ'=>.nx ρ'
 |_=>.st
theorem aHK(he:SE C m e fe)(hg:SG C tg ks fg)(hm:okS m=true:=by rfl)(hs:∀i,zIJ [tg] e pos.line (C.X i).env=pure false:=by intro _;rfl)(hw:∀i,zII [tg] e (C.X i).env=pure none:=by intro _;rfl)
  (h1:∀i,(zCV [tg] (C.X i).env).map (·.2)=[zEB tg (C.X i).env]:=by intro _;rfl):SS C (.Assign [tg] e pos) (aDc fe fg):=by
 obtain⟨t,p1,p2⟩:=he;obtain⟨g,q1,q2,_,_⟩:=hg;refine⟨_,λ i=>aHs (p1 i) (q1 i) (hs i) (hw i) (h1 i),λ τ σ H ρ lab De R W=>p2 τ σ H ρ lab _ R (W.bo.imp λ d _ w v H' s r=>?_)⟩;obtain⟨R',r'⟩:=R.shared hm s r;cases hgd:fg d ρ with
 |ok ρ'=>rw[hgd]at w;exact q2 τ v d σ H' ρ _ _ ρ' R' r' hgd λ σ' R2=>w σ' H' _ R2
 |ex c=>rw[hgd]at w;exact zAO w
 |st=>rw[hgd]at w;exact zAO w
def JL(K:zAA)(lab:Lab)(J:It)(H:Hp)(ds:List D):Prop:=∀i,(ds.length<=i->J.stop i H)/\(i<ds.length->J.go i H/\∀x H',J.yld i H x H'->aY H H'/\∃d,ds[i]? =some d/\Rp K (λ p=>(lab p).1<=1) H' x d)
def aDf(K:zAA)(G:Gx)(wi:TI)(f:En->Rs (List D)):Prop:=∀τ σ H ρ lab (Rr:It->Hp->Prop),RR K G τ ρ σ H lab->
 WR G (f ρ) (λ ds=>∀J H1 lab1 τ1,aY H H1->(∀p o,H p=some o->lab1 p=lab p)->RR K G (τ1++τ) ρ σ H1 lab1->(∀lab' H',(∀q∈τ1,Rp K (λ p=>(lab' p).1<=1) H' q.1 q.2)->JL K lab' J H' ds)->Rr J H1)->wi σ H Rr
def SI(C:Ct)(tg iter:Expr)(f:En->Rs (List D)):Prop:=∃wi,(∀i,PI (C.X i) tg iter wi)/\aDf C.K C.G wi f
def aO5(K:zAA)(tl:TE):TI:=λ σ H R=>tl σ H λ x H1=>∃a,x= .ref a/\(((∃xs,SqL K H1 a xs)/\R (Itl K a) H1)\/((∃xs,SqT K H1 a xs)/\R (Itt K a) H1))
theorem aM5(hl:PE X l tl):PI X tg l (aO5 X.K tl):=by
 intro pins s σ H R I h;refine thn (hl pins s σ H _ I h) λ v s1 ⟨x,H1,I1,r1,a,e,q1⟩=>?_
 subst e;cases r1;have hp:∀b∈[s1.heap.objs.size],tE X pins H1 b:=λ b hb=>by
  have e:b=s1.heap.objs.size:=by simpa using hb
  rw[e];exact I1.fpOk (zAS _) (I1.hok.fresh (zAS _))
 rcases q1 with ⟨⟨xs,hq⟩,q⟩|⟨⟨xs,hq⟩,q⟩
 ·obtain⟨its,rv,p,hz⟩:=I1.list hq
  refine zED p.isList ?_;exact⟨_,_,_,_,H1,rfl,I1.kept (t':=s1.toks) λ b o e=>zAC _ e,aGA a _,⟨_,zAV _ rfl,rfl,rfl⟩,hp,q⟩
 ·obtain⟨its,rv,p,hz⟩:=I1.tuple hq
  refine zJI (show s1.heap.IsTuple a its.toArray from p) ?_;exact⟨_,_,_,_,H1,rfl,I1.kept (t':=s1.toks) λ b o e=>zAC _ e,aDp a _,⟨_,zAV _ rfl,rfl,rfl⟩,hp,q⟩
def itD:D->Rs (List D)
 | .tup l=>.ok l
 | .lst l=>.ok l
 | .scr l=>.ok (l.map .int)
 |_=>.st
def bK(fe:En->Rs D):En->Rs (List D):=λ ρ=>(fe ρ).bd itD
theorem aFd{K:zAA}(h:SqL K H a xs)(r:Rps K (λ p=>(lab p).1<=1) H xs ds):JL K lab (Itl K a) H ds:=by
 have hl:=r.length;refine λ i=>⟨λ hi=>⟨xs,h,by lia⟩,λ hi=>⟨⟨xs,xs[i]'(by lia),h,by simp[hl,hi]⟩,λ x H' y=>?_⟩⟩
 obtain⟨e,y⟩:=y;subst e;obtain⟨d,h1,h2⟩:=r.get (y xs h);exact⟨aY.refl _,d,h1,h2⟩
theorem aNS{K:zAA}(h:SqT K H a xs)(r:Rps K (λ p=>(lab p).1<=1) H xs ds):JL K lab (Itt K a) H ds:=by
 have hl:=r.length;refine λ i=>⟨λ hi=>⟨xs,h,by lia⟩,λ hi=>⟨⟨xs,xs[i]'(by lia),h,by simp[hl,hi]⟩,λ x H' y=>?_⟩⟩
 obtain⟨e,y⟩:=y;subst e;obtain⟨d,h1,h2⟩:=r.get (y xs h);exact⟨aY.refl _,d,h1,h2⟩
theorem cB(he:SE C m e fe)(hm:okS m=true:=by rfl):SI C tg e (bK fe):=by
 obtain⟨t,p1,p2⟩:=he;refine⟨aO5 C.K t,λ i=>by rw[<-C.hK i];exact aM5 (p1 i),λ τ σ H ρ lab Rr R W=>p2 τ σ H ρ lab _ R (W.bd.imp λ d _ w v H1 s r=>?_)⟩;obtain⟨R',r'⟩:=R.shared hm s r;cases d with
 |tup l=>
  cases r' with
  |tup h q=>
   rename_i a xs;refine⟨_,rfl,.inr ⟨⟨_,h⟩,w _ H1 _ [(.ref a,.tup l)] s (λ p o e=>cN e) ⟨R'.len,R'.sl,R'.old,R'.new,λ z hz=>?_⟩ λ lab' H' hq=>?_⟩⟩
   ·rcases zAN.mp hz with rfl|hz
    ·exact .tup h q
    ·exact R'.tm z hz
   ·have z:=hq _ (zAI ..)
    cases z with
    |tup h' q'=>exact aNS h' q'
 |lst l=>
  cases r' with
  |lst h mm q=>
   rename_i a xs;refine⟨_,rfl,.inl ⟨⟨_,SqL.of h⟩,w _ H1 _ [(.ref a,.lst l)] s (λ p o e=>cN e) ⟨R'.len,R'.sl,R'.old,R'.new,λ z hz=>?_⟩ λ lab' H' hq=>?_⟩⟩
   ·rcases zAN.mp hz with rfl|hz
    ·exact .lst h mm q
    ·exact R'.tm z hz
   ·have z:=hq _ (zAI ..)
    cases z with
    |lst h' _ q'=>exact aFd (SqL.of h') (q'.wk λ _ _ _ z=>z.1)
 |scr l=>
  cases r' with
  |scr h=>
   rename_i a;refine⟨_,rfl,.inl ⟨⟨_,h.sq⟩,w _ H1 _ [(.ref a,.scr l)] s (λ p o e=>cN e) ⟨R'.len,R'.sl,R'.old,R'.new,λ z hz=>?_⟩ λ lab' H' hq=>?_⟩⟩
   ·rcases zAN.mp hz with rfl|hz
    ·exact .scr h
    ·exact R'.tm z hz
   ·have z:=hq _ (zAI ..)
    cases z with
    |scr h'=>exact aFd h'.sq Rps.ints
 |_=>exact zAO w
end
section
variable{C:Ct}{pos:Pos}{s:Stmt}{ss:List Stmt}{f g:En->Ou}{e a b:Expr}{es:List Expr}{m m1 m2:Mode}{fe fa fb:En->Rs D}{ks:List Nat}{fg:D->En->Rs En}{tg:Expr}{fi:En->Rs (List D)}{ga:En->Rs (List D)}
def bT(lo hi:Int):List D:=(zAp (hi-lo).toNat).map λ(k:Nat)=>.int (lo+(k:Int))
def gO:List D->Rs (List D)
 |[.int j]=>if -(2^62)<=j/\j<2^62 then .ok (bT 0 j)else .st
 |_=>.st
def yH:List D->Rs (List D)
 |[.int i,.int j]=>if (-(2^62)<=i/\i<2^62)/\(-(2^62)<=j/\j<2^62)then .ok (bT i j)else .st
 |_=>.st
def du(r:List D->Rs (List D))(ga:En->Rs (List D)):En->Rs (List D):=λ ρ=>(ga ρ).bd r
theorem aIi{K:zAA}{lo hi:Int}:JL K lab (Itr lo (hi-lo).toNat) H (bT lo hi):=by
 have hl:(bT lo hi).length=(hi-lo).toNat:=by unfold bT;simp
 refine λ i=>⟨λ h=>by show(hi-lo).toNat<=i;lia,λ h=>⟨by show i<(hi-lo).toNat;lia,λ x H' y=>?_⟩⟩
 obtain⟨e,rfl⟩:=y;subst e;refine⟨aY.refl _,.int (lo+i),?_,.int _⟩;unfold bT;rw[zAT,zE3 (by lia)];rfl
theorem iY(ha:SA C m [a] ga)(hm:C.mg "range"=none)(hs:∀i,zAZ [a] (C.X i).env=[(false,eval a (C.X i).env)]:=by intro _;rfl)(hg:∀i,Gl (C.X i) "range":=by intro _;rfl):SI C tg (.Call (.Name "range" p) [a] [] pos) (du gO ga):=by
 obtain⟨t,h1,h2⟩:=ha;refine⟨_,λ i=>aGO (hg i) (by rw[(C.cx i).2.2.2.1];exact hm) (h1 i) (hs i),λ τ σ H ρ lab Rr R W=>h2 τ σ H ρ lab _ R (W.bd.imp λ ds _ w vs H1 s r=>?_)⟩;unfold gO at w;split at w
 ·rename_i j _
  split at w
  ·rename_i hj
   cases r with
   |cons h r=>
    cases h;cases r;refine⟨j,rfl,hj.1,hj.2,?_⟩;have z:=w (Itr 0 (j-0).toNat) H1 lab [] s (λ _ _ _=>rfl) (R.up s) λ lab' H' _=>aIi
    rwa [Int.sub_zero]at z
  ·exact zAO w
 ·exact zAO w
theorem aBO(ha:SA C m [a,b] ga)(hm:C.mg "range"=none)(hs:∀i,zAZ [a,b] (C.X i).env=[(false,eval a (C.X i).env),(false,eval b (C.X i).env)]:=by intro _;rfl)(hs2:∀i,zAZ [b] (C.X i).env=[(false,eval b (C.X i).env)]:=by intro _;rfl)(hg:∀i,Gl (C.X i) "range":=by intro _;rfl):SI C tg (.Call (.Name "range" p) [a,b] [] pos) (du yH ga):=by
 obtain⟨t,h1,h2⟩:=ha;refine⟨_,λ i=>aGN (hg i) (by rw[(C.cx i).2.2.2.1];exact hm) (h1 i) (hs i) (hs2 i),λ τ σ H ρ lab Rr R W=>h2 τ σ H ρ lab _ R (W.bd.imp λ ds _ w vs H1 s r=>?_)⟩;unfold yH at w;split at w
 ·rename_i i j _
  split at w
  ·rename_i hj
   cases r with
   |cons h r=>
    cases h;cases r with
    |cons h r=>
     cases h;cases r;exact⟨i,j,rfl,⟨hj.1.1,hj.1.2,hj.2.1,hj.2.2⟩,w (Itr i (j-i).toNat) H1 lab [] s (λ _ _ _=>rfl) (R.up s) λ lab' H' _=>aIi⟩
  ·exact zAO w
 ·exact zAO w
def forL(fg:D->En->Rs En)(b:En->Ou):List D->En->Ou
 |[],ρ=>.nx ρ
 |d::ds,ρ=>match fg d ρ with
  | .ok ρ1=>match b ρ1 with
   | .nx ρ2=>forL fg b ds ρ2
   | .ct ρ2=>forL fg b ds ρ2
   | .bk ρ2=>.nx ρ2
   |o=>o
  |_=>.st
def cz(fi:En->Rs (List D))(fg:D->En->Rs En)(b:En->Ou):En->Ou:=λ ρ=>(fi ρ).bo λ ds=>forL fg b ds ρ
theorem dY(hi:SI C tg e fi)(hg:SG C tg ks fg)(hb:SSs C ss f)(hs:∀i,∀x,zAw e (C.X i).env x=pure x:=by intro _ _;rfl):SS C (.For tg e ss [] pos) (cz fi fg f):=by
 obtain⟨wi,i1,i2⟩:=hi;obtain⟨gg,g1,g2,_,g4⟩:=hg;obtain⟨tb,b1,b2⟩:=hb;refine⟨_,λ i=>aM2 (C.own i) (C.calm i) (i1 i) (g1 i) (b1 i) (hs i),λ τ σ H ρ lab De R W=>i2 τ σ H ρ lab _ R (W.bo.imp λ ds _ w J H1 lab1 τ1 s1 _ R1 jl=>?_)⟩;refine⟨λ i n σ' H'=>∃ρ' lab',RR C.K C.G (τ1++τ) ρ' σ' H' lab'/\n=ds.length-i/\i<=ds.length/\WS C.K C.G τ (forL fg f (ds.drop i) ρ') De,⟨ds.length,ρ,lab1,R1,by lia,by lia,w⟩,?_⟩;rintro i n σ' H' ⟨ρ',lab',R',rfl,hi,w'⟩;have jj:=jl lab' H' λ q hq=>R'.tm q (zAX _ hq)
 by_cases hlt:i<ds.length
 ·obtain⟨go,yl⟩:=(jj i).2 hlt
  refine .inr ⟨go,λ σ2 H2=>∃ρ2 lab2,RR C.K C.G (τ1++τ) ρ2 σ2 H2 lab2/\WS C.K C.G τ (forL fg f (ds.drop (i+1)) ρ2) De,λ σ2 H2 ⟨ρ2,lab2,R2,w2⟩=>⟨ds.length-(i+1),by lia,ρ2,lab2,R2,rfl,hlt,w2⟩,λ x H2 hy=>?_⟩;obtain⟨s2,d,ed,rx⟩:=yl x H2 hy;replace R':=R'.up s2;have ed2:ds.drop i=d::ds.drop (i+1):=by
   rw[zBI hlt]
   have:=zAB hlt
   rw[ed]at this;cases this;rfl
  rw[ed2]at w';unfold forL at w';cases eg:fg d ρ' with
  |ex c=>rw[eg]at w';exact zAO w'
  |st=>rw[eg]at w';exact zAO w'
  |ok ρ1=>
   rw[eg]at w';refine g2 (τ1++τ) x d σ' H2 ρ' lab' _ ρ1 R' rx eg λ σ1 R1'=>b2 (τ1++τ) σ1 H2 ρ1 lab' _ R1' ?_
   dsimp only at w';cases eb:f ρ1 with
   |nx ρ2=>rw[eb]at w';exact λ σ2 H3 lab2 R2=>⟨ρ2,lab2,R2,w'⟩
   |ct ρ2=>rw[eb]at w';exact λ σ2 H3 lab2 R2=>⟨ρ2,lab2,R2,w'⟩
   |bk ρ2=>rw[eb]at w';exact λ σ2 H3 lab2 R2=>w' σ2 H3 lab2 R2.drop
   |rt d=>rw[eb]at w';exact w'
   |ex c=>rw[eb]at w';exact w'
   |st=>rw[eb]at w';exact w'
 ·have e:i=ds.length:=by lia
  subst e;rw[zBo]at w';exact .inl ⟨(jj _).1 (zAS _),w' σ' H' lab' R'.drop⟩
def itW(c:En->Rs Bool)(b:En->Ou):Nat->En->Ou
 |0,_=>.st
 |n+1,ρ=>(c ρ).bo λ k=>if k=true then(match b ρ with
   | .nx ρ2=>itW c b n ρ2
   | .ct ρ2=>itW c b n ρ2
   | .bk ρ2=>.nx ρ2
   |o=>o)else .nx ρ
def fuel:Nat:=1000000
def uh(c:En->Rs Bool)(b:En->Ou):En->Ou:=itW c b fuel
theorem aC1(hc:ST C c fc)(hb:SSs C ss f):SS C (.While c ss [] pos) (uh fc f):=by
 obtain⟨tc,c1,c2⟩:=hc;obtain⟨tb,b1,b2⟩:=hb;refine⟨_,λ i=>aHo (C.own i) (c1 i) (b1 i),λ τ σ H ρ lab De R W=>?_⟩;refine⟨λ n σ' H'=>∃ρ' lab',RR C.K C.G τ ρ' σ' H' lab'/\WS C.K C.G τ (itW fc f n ρ') De,⟨fuel,ρ,lab,R,W⟩,?_⟩;rintro n σ' H' ⟨ρ',lab',R',w'⟩;cases n with
 |zero=>exact zAO w'
 |succ n=>
  refine c2 τ σ' H' ρ' lab' _ R' (WS.bo (show WS C.K C.G τ ((fc ρ').bo _) De from w') |>.imp λ k _ w H1 s1=>?_);cases k with
  |false=>
   rw[if_neg zA3]at w ⊢;exact w σ' H1 lab' (R'.up s1)
  |true=>
   rw[if_pos rfl]at w ⊢;refine⟨λ σ2 H2=>∃ρ2 lab2,RR C.K C.G τ ρ2 σ2 H2 lab2/\WS C.K C.G τ (itW fc f n ρ2) De,λ σ2 H2 ⟨ρ2,lab2,R2,w2⟩=>⟨n,zBt n,ρ2,lab2,R2,w2⟩,?_⟩;refine b2 τ σ' H1 ρ' lab' _ (R'.up s1) ?_;cases eb:f ρ' with
   |nx ρ2=>rw[eb]at w;exact λ σ2 H3 lab2 R2=>⟨ρ2,lab2,R2,w⟩
   |ct ρ2=>rw[eb]at w;exact λ σ2 H3 lab2 R2=>⟨ρ2,lab2,R2,w⟩
   |bk ρ2=>rw[eb]at w;exact w
   |rt d=>rw[eb]at w;exact w
   |ex c=>rw[eb]at w;exact w
   |st=>rw[eb]at w;exact w
def vB(x:Str)(ga:En->Rs (List D)):En->Ou:=λ ρ=>(ga ρ).bo λ ds=>if ds.length<=zAW then .ex x else .st
theorem xg{rest:List Expr}(hd:C.dOk=true)(hm:C.mg x=some (.ref Ca))(hcl:C.G.cl x=Ca)(hC:jd C.K Ca)(ha:SA C m (e₀::rest) ga)(he:∀i,zAZ (e₀::rest) (C.X i).env=(false,eval e₀ (C.X i).env)::zAZ rest (C.X i).env:=by intro _;rfl)(hplain:∀i,(zC1 cpos (zAZ rest (C.X i).env)).any (·.1)=false:=by intro _;rfl)(hdb:(x==("__debug__":Str))=false:=by decide)(hg:∀i,Gl (C.X i) x:=by intro _;rfl):SS C (.Raise (some (.Call (.Name x np) (e₀::rest) [] cpos)) none pos) (vB x ga):=by
 obtain⟨t,h1,h2⟩:=ha;refine⟨_,λ i=>aHq (C.dcx hd i) (C.calm i) (by rw[(C.cx i).2.2.2.1];exact hm) (by rw[C.hK i];exact hC) (hg i) (h1 i) (he i) (hplain i) hdb,λ τ σ H ρ lab De R W=>h2 τ σ H ρ lab _ R (W.bo.imp λ ds _ w vs H1 s r=>?_)⟩;by_cases hz:ds.length<=zAW
 ·rw[if_pos hz]at w
  refine⟨by rw[r.length];exact hz,?_⟩
  have:=w H1 (R.old.trans s)
  rwa [hcl]at this
 ·rw[if_neg hz]at w
  exact zAO w
def spF(K:zAA)(cl:Str->Addr)(n:Nat)(F:List D->Rs D):Sp:=λ vs H Q E=>∃ds,vs.length=n/\Rps K (λ _=>True) H vs ds/\WR ⟨H,E,cl⟩ (F ds) (λ d=>∀v H',aY H H'->Rp K (λ p=>H p=none) H' v d->Q v H')
def aK(F:List D->Rs D)(ga:En->Rs (List D)):En->Rs D:=λ ρ=>(ga ρ).bd F
theorem aHR{K:zAA}(hn:∀ρ ds,ga ρ= .ok ds->ds.length=n)(h:aLU K G m t ga):gr K G (some []) (aCZ (spF K G.cl n F) [] G.E t) (aK F ga):=by
 intro τ σ H ρ lab Q R W;refine h τ σ H ρ lab _ R (W.bd.imp λ ds eds w vs H1 s r=>⟨ds,by rw[zAi,r.length];exact hn ρ ds eds,by rw[zAi];exact r.wk λ _ _ _ _=>trivial,?_⟩);cases hF:F ds with
 |ok d=>
  rw[hF]at w;exact λ v H' s' r'=>w v H' (s.trans s') (r'.wk λ p o _ z=>.inl (s.free z))
 |ex c=>rw[hF]at w;exact λ H' s'=>w H' ((R.old.trans s).trans s')
 |st=>rw[hF]at w;exact w
variable{k:Nat}{fn:Addr}{fd:zAc}{ps:List Str}{x:Str}{p:Pos}{F:List D->Rs D}{n:Nat}
theorem aJw(hF:cW C.prog C.w C.K C.mg C.base (CX1 C.prog C.w) k fn fd ps (spF C.K C.G.cl n F))(hr:k<=C.k)(hm:C.mg x=some (.ref fn))(hk:zB5 C.K (.ref fn)=true)(hb:Binds C.K fd ps [])(ha:SA C m (e::es) ga)(hn:∀ρ ds,ga ρ= .ok ds->ds.length=n)(hdb:(x==("__debug__":Str))=false:=by decide)(he:∀i,zAZ (e::es) (C.X i).env=(false,eval e (C.X i).env)::zAZ es (C.X i).env:=by intro _;rfl)(hpl:∀i,(zC1 pos (zAZ es (C.X i).env)).any (·.1)=false:=by intro _;rfl)(hg:∀i,Gl (C.X i) x:=by intro _;rfl):SE C (some []) (.Call (.Name x p) (e::es) [] pos) (aK F ga):=by
 obtain⟨t,h1,h2⟩:=ha;refine⟨_,λ i=>?_,aHR hn h2⟩;obtain⟨e1,e2,e3,e4,e5⟩:=C.cx i;refine aKM (CX:=CX1 (C.X i).prog (C.X i).w) (by rw[e1,e2,e3,e4,e5];exact hF) ((C.room i).mono hr) (hg i) (by rw[e4];exact hm) (by rw[e3];exact hk) (by rw[e3];exact hb) .nil (C.pass i) (h1 i) hdb (he i) (hpl i)
theorem aKa(h:aF ρ= .ok ds):ds.length=0:=by cases h;rfl
theorem aI1(h:∀ρ ds,ga ρ= .ok ds->ds.length=n):∀ρ ds,aA fa ga ρ= .ok ds->ds.length=n+1:=λ ρ ds e=>by
 obtain⟨d,_,e⟩:=cL e;obtain⟨r,er,e⟩:=cL e;cases e;rw[zAY,h ρ r er]
end
def bF(mg:Str->Option Value):Str->Addr:=λ x=>match mg x with
 |some (.ref a)=>a
 |_=>0
abbrev ctD(P:zA2)(w:World)(K:zAA)(mg:Str->Option Value)(base:Heap)(N:List Str)(q:Str)(sc:Scope)(f:Addr)(cdv:Value)(A:zAe)(outer:List Env)(s:zAF)(H:Hp)(E:XK)(k:Nat)(hr:gD k (A.deeper (zCo q sc s.heap.objs.size f cdv))):Ct where
 ι:=Unit
 X:=λ _=>wj (CX1 P w) P w K mg base N q sc f cdv A outer s H E
 prog:=P
 w:=w
 K:=K
 mg:=mg
 base:=base
 k:=k
 G:=⟨H,E,bF mg⟩
 cx:=λ _=>⟨rfl,rfl,rfl,rfl,rfl⟩
 calm:=λ _=>rfl
 room:=λ _=>hr
 own:=λ _=>fJ.own fJ.of
 pass:=λ _=>fJ.pass fJ.of
 dOk:=true
 dcx:=λ _ _=>fJ.of
def az(n:Nat)(ds:List D):En:=ds.map .sh++zAM (n-ds.length) .no
def dZ(n:Nat)(f:En->Ou):List D->Rs D:=λ ds=>match f (az n ds)with
 | .nx _=>.ok .non
 | .rt d=>.ok d
 | .ex c=>.ex c
 |_=>.st
theorem RR.start{K:zAA}(r:Rps K (λ _=>True) H vs ds):RR K ⟨H,E,cl⟩ [] (az N.length ds) (start N vs) H (λ _=>(0,0)):=by
 have hl:=r.length;refine⟨by unfold az L2.start;simp[hl],λ i s e=>?_,aY.refl H,λ p hp=>absurd rfl hp,λ q hq=>by cases hq⟩;unfold az at e;by_cases hi:i<ds.length
 ·rw[zBB (by simpa using hi),zAT]at e
  cases ed:ds[i]? with
  |none=>rw[ed]at e;cases e
  |some d=>
   rw[ed]at e;cases e;obtain⟨x,ex,rx⟩:=r.getD ed;refine .inr ⟨x,?_,rx.wk λ _ _ _ _=>zA9 _⟩;unfold L2.start;rw[zBB (by simpa[hl]using hi),zAT,ex];rfl
 ·rw[zC3 (by simpa using hi),zCF]at e
  split at e
  ·cases e;exact .inl rfl
  ·cases e
section
variable{P:zA2}{w:World}{K:zAA}{mg:Str->Option Value}{base:Heap}
theorem aN4{x q:Str}{st:Stmt}(F:L2.Fun K x q st fn fd)(S:aX N ps (aH st))
  (hb:∀cdv A outer s H E hr,SSs (ctD P w K mg base N q (aH st) fn cdv A outer s H E k hr) (eZ st) f):
  cW P w K mg base (CX1 P w) (k+1) fn fd ps (spF K (bF mg) ps.length (dZ N.length f)):=by
 refine F.okX S (λ vs H Q E ⟨ds,hl,_⟩=>hl) λ cdv A outer s H vs Q E hr ⟨ds,hl,r,W⟩=>?_
 obtain⟨t,h1,h2⟩:=hb cdv A outer s H E hr;refine⟨t,h1 (),h2 [] _ H _ _ _ (RR.start r) ?_⟩;unfold dZ at W;cases e:f (az N.length ds)with
 |nx ρ=>rw[e]at W;exact λ σ' H' lab R=>W .non H' R.old .non
 |rt d=>rw[e]at W;exact λ v H' s r=>W v H' s r
 |ex c=>rw[e]at W;exact W
 |bk ρ=>rw[e]at W;exact zAO W
 |ct ρ=>rw[e]at W;exact zAO W
 |st=>rw[e]at W;exact zAO W
theorem aLC{st:Stmt}(F:L2.Fun K x q st fn fd)(S:aX N ps (aH st))
  (hb:∀cdv A outer s H E hr,SSs (ctD P w K mg base N q (aH st) fn cdv A outer s H E k hr) (eZ st) f)(hn:ps.length=n)(hF:dZ N.length f=FF):
  cW P w K mg base (CX1 P w) (k+1) fn fd ps (spF K (bF mg) n FF):=by
 subst hn hF;exact aN4 F S hb
end
theorem OpR.or(h:OpR X f r)(h':OpR X f r'):OpR X f (λ x y H Q=>r x y H Q\/r' x y H Q):=by
 intro pins s σ H x y v u Q I rx ry q;rcases q with q|q
 ·exact h pins s σ H x y v u Q I rx ry q
 ·exact h' pins s σ H x y v u Q I rx ry q
theorem OpS.or{K:zAA}(h:OpS K r fd)(h':OpS K r' fd'):OpS K (λ x y H Q=>r x y H Q\/r' x y H Q) (λ d e=>match fd d e with
  | .ok z=>.ok z
  |_=>fd' d e):=by
 intro A x y d e H Q z rx ry ez q;dsimp only at ez;cases hd:fd d e with
 |ok w=>rw[hd]at ez;cases ez;exact .inl (h A x y d e H Q _ rx ry hd q)
 |ex c=>rw[hd]at ez;exact .inr (h' A x y d e H Q z rx ry ez q)
 |st=>rw[hd]at ez;exact .inr (h' A x y d e H Q z rx ry ez q)
section
variable{K:zAA}
def i2(p:Int->Int->Bool)(g:Int->Int->D):D->D->Rs D
 | .int i,.int j=>if p i j=true then .ok (g i j)else .st
 |_,_=>.st
theorem aEU{g:Int->Int->Int}(hp:∀i j,p i j=true->c i j):OpS K (rI c λ i j=>.int (g i j)) (i2 p λ i j=>.int (g i j)):=by
 intro A x y d e H Q z rx ry ez q;unfold i2 at ez;split at ez
 ·rename_i i j
  split at ez
  ·rename_i h
   cases ez;obtain rfl:=rx.int_inv;obtain rfl:=ry.int_inv;exact⟨i,j,rfl,rfl,hp i j h,q _ H (aY.refl H) (.int _)⟩
  ·cases ez
 ·cases ez
theorem aKR{g:Int->Int->Int}:OpS K (rI0 λ i j=>.int (g i j)) (i2 (λ _ _=>true) λ i j=>.int (g i j)):=by
 intro A x y d e H Q z rx ry ez q;unfold i2 at ez;split at ez
 ·rename_i i j
  cases ez;obtain rfl:=rx.int_inv;obtain rfl:=ry.int_inv;exact⟨i,j,rfl,rfl,q _ H (aY.refl H) (.int _)⟩
 ·cases ez
theorem aBa{g:Int->Int->Bool}:OpS K (rI0 λ i j=>.bl (g i j)) (i2 (λ _ _=>true) λ i j=>.bl (g i j)):=by
 intro A x y d e H Q z rx ry ez q;unfold i2 at ez;split at ez
 ·rename_i i j
  cases ez;obtain rfl:=rx.int_inv;obtain rfl:=ry.int_inv;exact⟨i,j,rfl,rfl,q _ H (aY.refl H) (.bl _)⟩
 ·cases ez
theorem aBx{g:Int->Int->Int}:∀x y z,i2 p (λ i j=>.int (g i j)) x y= .ok z->imm z=true:=by
 intro x y z e;unfold i2 at e;split at e
 ·split at e
  ·cases e;rfl
  ·cases e
 ·cases e
theorem aIv{g:Int->Int->Bool}:∀x y z,i2 p (λ i j=>.bl (g i j)) x y= .ok z->imm z=true:=by
 intro x y z e;unfold i2 at e;split at e
 ·split at e
  ·cases e;rfl
  ·cases e
 ·cases e
def bh:D->D->Rs D
 | .int i,.int j=>.ok (.int (i+j))
 | .lst l,.lst m=>if l.length+m.length<=zAW then .ok (.lst (l++m))else .st
 | .tup l,.tup m=>if l.length+m.length<=zAW then .ok (.tup (l++m))else .st
 |_,_=>.st
def aLd(K:zAA):R2:=λ x y H Q=>∃a b xs ys,x= .ref a/\y= .ref b/\SqT K H a xs/\SqT K H b ys/\xs.length+ys.length<=zAW/\
 (xs=[]->Q (.ref b) H)/\(ys=[]->Q (.ref a) H)/\New H (.tup (xs++ys)) Q
theorem aKW:OpR X (zCK .Add) (aLd X.K):=by
 intro pins s σ H x y v u Q I rx ry h;obtain⟨a,b,xs,ys,rfl,rfl,ha,hb,hz,q0,q1,q2⟩:=h;by_cases hx:xs=[]
 ·subst hx
  cases rx;cases ry;obtain⟨its,r1,p1,_⟩:=I.tuple ha;obtain⟨its2,r2,p2,_⟩:=I.tuple hb;cases r1;exact HT.aJU p1 p2 ⟨.ref b,H,I,rfl,q0 rfl⟩
 ·exact aKX pins s σ H _ _ v u Q I rx ry ⟨a,b,xs,ys,rfl,rfl,ha,hb,hx,hz,q1,λ _ p hp=>q2.at hp⟩
def aHh(K:zAA):R2:=λ x y H Q=>rI0 (λ i j=>.int (i+j)) x y H Q\/(aHg x y H Q\/aLd K x y H Q)
theorem aKY:OpR X (zCK .Add) (aHh X.K):=OpR.or aNF (OpR.or aBb aKW)
theorem aMp:OpS K (aHh K) bh:=by
 intro A x y d e H Q z rx ry ez q;unfold bh at ez;split at ez
 ·cases ez;obtain rfl:=rx.int_inv;obtain rfl:=ry.int_inv;exact .inl ⟨_,_,rfl,rfl,q _ H (aY.refl H) (.int _)⟩
 ·split at ez
  ·rename_i hl
   cases ez;obtain⟨_,_,rfl,h1,m1,r1⟩:=rx.lst_inv;obtain⟨_,_,rfl,h2,m2,r2⟩:=ry.lst_inv;refine .inr (.inl ⟨_,_,_,_,rfl,rfl,h1,h2,by rw[r1.length,r2.length];exact hl,λ p H' s hp hn=>q _ H' s (.lst hp (.inl hn) ?_)⟩);exact(((r1.wk λ _ _ _ z=>z.1).append (r2.wk λ _ _ _ z=>z.1)).wk (A':=λ q=>(H q=none\/A q)/\q≠p) λ q o e z=>⟨.inr z,λ e'=>by subst e';rw[hn]at e;cases e⟩).up s
  ·cases ez
 ·split at ez
  ·rename_i hl
   cases ez;obtain⟨_,_,rfl,h1,r1⟩:=rx.tup_inv;obtain⟨_,_,rfl,h2,r2⟩:=ry.tup_inv;have r1':=r1.wk (A':=λ p=>H p=none\/A p) λ _ _ _ z=>.inr z
   have r2':=r2.wk (A':=λ p=>H p=none\/A p) λ _ _ _ z=>.inr z
   refine .inr (.inr ⟨_,_,_,_,rfl,rfl,h1,h2,by rw[r1.length,r2.length];exact hl,λ e=>?_,λ e=>?_,λ p H' s hp hn=>q _ H' s (.tup (SqT.of hp) ((r1'.append r2').up s))⟩)
   ·subst e
    cases r1';exact q _ H (aY.refl H) (.tup h2 r2')
   ·subst e
    cases r2';rw[zAi]at q;exact q _ H (aY.refl H) (.tup h1 r1')
  ·cases ez
 ·cases ez
def nG:D->D->Rs D
 | .int i,.int j=>if (decide (-(2^64)<i)&&decide (i<2^64))||(decide (-(2^64)<j)&&decide (j<2^64))then .ok (.int (i*j))else .st
 | .lst l,.int k=>if decide (-(2^63)<=k)&&decide (k<2^63)&&decide (l.length*k.toNat<=zAW)&&aAL l then .ok (.lst (zAM k.toNat l).flatten)else .st
 |_,_=>.st
theorem Rps.rep(r:Rps K A H xs ds):∀k:Nat,Rps K A H (zAM k xs).flatten (zAM k ds).flatten
 |0=>.nil
 |k+1=>by
  rw[zB7,zB7,zBJ,zBJ];exact r.append (Rps.rep r k)
def aLa:R2:=λ x y H Q=>rI aL0 (λ i j=>.int (i*j)) x y H Q\/aOH x y H Q
theorem aKU:OpR X (zCK .Mult) aLa:=OpR.or aMv aMs
theorem aMn:OpS K aLa nG:=by
 intro A x y d e H Q z rx ry ez q;unfold nG at ez;split at ez
 ·split at ez
  ·rename_i hc
   cases ez;obtain rfl:=rx.int_inv;obtain rfl:=ry.int_inv;refine .inl ⟨_,_,rfl,rfl,?_,q _ H (aY.refl H) (.int _)⟩;simp only[zDV,zAK,decide_eq_true_eq]at hc;exact hc
  ·cases ez
 ·split at ez
  ·rename_i hc
   simp only[zAK,decide_eq_true_eq]at hc;cases ez;obtain⟨_,_,rfl,h1,m1,r1⟩:=rx.lst_inv;obtain rfl:=ry.int_inv;refine .inr ⟨_,_,_,rfl,rfl,h1,hc.1.1.1,hc.1.1.2,by rw[r1.length];exact hc.1.2,λ p hp=>q _ _ (bZ hp _) (.lst bH (.inl hp) ?_)⟩;exact((r1.rep _).wk (A':=λ q=>(H q=none\/A q)/\q≠p) λ q o e z=>⟨.inr z.1,λ e'=>by subst e';rw[hp]at e;cases e⟩).up (bZ hp _)
  ·cases ez
 ·cases ez
def intsOf:List D->Option (List Int)
 |[]=>some []
 | .int i::r=>(intsOf r).map (i::·)
 |_=>none
theorem dR:∀{l:List D} {ns:List Int},intsOf l=some ns->l=ns.map .int
 |[],ns,h=>by cases h;rfl
 | .int i::r,ns,h=>by
  simp only[intsOf,zBh]at h;obtain⟨ms,h1,rfl⟩:=h;rw[dR h1];rfl
 | .non::_,_,h=>by cases h
 | .bl _::_,_,h=>by cases h
 | .str _::_,_,h=>by cases h
 | .tup _::_,_,h=>by cases h
 | .lst _::_,_,h=>by cases h
 | .dct _ _::_,_,h=>by cases h
 | .set _::_,_,h=>by cases h
 | .scr _::_,_,h=>by cases h
theorem fW:∀ns:List Int,intsOf (ns.map .int)=some ns
 |[]=>rfl
 |n::ns=>by simp only[zAG,intsOf,fW ns,zCm]
def ltT(p:List Int->List Int->Bool):D->D->Rs D
 | .tup l,.tup m=>match intsOf l,intsOf m with
  |some ns,some ms=>.ok (.bl (p ns ms))
  |_,_=>.st
 |_,_=>.st
theorem aFN(r:Rp K A H x (.tup l))(e:intsOf l=some ns):∃a,x= .ref a/\SqT K H a (ns.map V.int):=by
 have:=dR e
 subst this;cases r with
 |tup h r=>
  have:=r.ints_of
  subst this;exact⟨_,rfl,h⟩
theorem aFX(hr:∀x y H Q,(∃a b ns ms,x= .ref a/\y= .ref b/\SqT K H a (ns.map V.int)/\SqT K H b (ms.map V.int)/\Q (.bl (p ns ms)) H)->r x y H Q):OpS K r (ltT p):=by
 intro A x y d e H Q z rx ry ez q;unfold ltT at ez;split at ez
 ·split at ez
  ·rename_i ns ms e1 e2
   cases ez;obtain⟨a,rfl,ha⟩:=aFN rx e1;obtain⟨b,rfl,hb⟩:=aFN ry e2;exact hr _ _ _ _ ⟨a,b,ns,ms,rfl,rfl,ha,hb,q _ H (aY.refl H) (.bl _)⟩
  ·cases ez
 ·cases ez
def ltD:D->D->Rs D:=λ d e=>match i2 (λ _ _=>true) (λ i j=>.bl (decide (i<j))) d e with
 | .ok z=>.ok z
 |_=>ltT HT.lexLt d e
def leD:D->D->Rs D:=λ d e=>match i2 (λ _ _=>true) (λ i j=>.bl (decide (i<=j))) d e with
 | .ok z=>.ok z
 |_=>ltT HT.lexLe d e
def gtD:D->D->Rs D:=i2 (λ _ _=>true) (λ i j=>.bl (decide (j<i)))
def geD:D->D->Rs D:=i2 (λ _ _=>true) (λ i j=>.bl (decide (j<=i)))
theorem aMx(hu:X.A.units<cLine):OpR X (zAr .Lt) (λ x y H Q=>rI0 (λ i j=>.bl (decide (i<j))) x y H Q\/aJz X.K x y H Q):=OpR.or aOP (aMy hu)
theorem aMz(hu:X.A.units<cLine):OpR X (zAr .LtE) (λ x y H Q=>rI0 (λ i j=>.bl (decide (i<=j))) x y H Q\/aKA X.K x y H Q):=OpR.or aOQ (aNA hu)
theorem aIK:OpS K (λ x y H Q=>rI0 (λ i j=>.bl (decide (i<j))) x y H Q\/aJz K x y H Q) ltD:=OpS.or aBa (aFX λ _ _ _ _ h=>h)
theorem aIL:OpS K (λ x y H Q=>rI0 (λ i j=>.bl (decide (i<=j))) x y H Q\/aKA K x y H Q) leD:=OpS.or aBa (aFX λ _ _ _ _ h=>h)
theorem aFh(e:ltT p x y= .ok z):imm z=true:=by
 unfold ltT at e;split at e
 ·split at e
  ·cases e;rfl
  ·cases e
 ·cases e
theorem aIs:∀x y z,ltD x y= .ok z->imm z=true:=by
 intro x y z e;unfold ltD at e;split at e
 ·rename_i w hw;cases e;exact aIv _ _ _ hw
 ·exact aFh e
theorem aNZ:∀x y z,leD x y= .ok z->imm z=true:=by
 intro x y z e;unfold leD at e;split at e
 ·rename_i w hw;cases e;exact aIv _ _ _ hw
 ·exact aFh e
def sW:D->Rs D
 | .int i=>.ok (.int (-i))
 |_=>.st
theorem aLw:UnS K (rU λ i=>.int (-i)) sW:=by
 intro A x d H Q z rx ez q;cases rx with
 |int i=>cases ez;exact⟨i,rfl,q _ H (aY.refl H) (.int _)⟩
 |_=>cases ez
theorem aKr:∀x z,sW x= .ok z->imm z=true:=by
 intro x z e;cases x with
 |int i=>cases e;rfl
 |_=>cases e
def atD(l:List D)(i:Int):Rs D:=match atI l i with
 |some d=>.ok d
 |none=>.st
def ixD:D->D->Rs D
 | .tup l,.int i=>atD l i
 | .lst l,.int i=>atD l i
 | .scr l,.int i=>atD (l.map .int) i
 |_,_=>.st
theorem Rps.at(r:Rps K A H xs ds)(e:atI ds i=some d):∃x,atI xs i=some x/\Rp K A H x d:=by
 unfold atI at e ⊢;rw[r.length];cases h:ixN ds.length i with
 |none=>rw[h]at e;cases e
 |some j=>
  rw[h]at e;obtain⟨x,e1,e2⟩:=r.getD (i:=j) (d:=d) e;exact⟨x,e1,e2⟩
theorem aOO:OpS K (rIx K) ixD:=by
 intro A x y d e H Q z rx ry ez q;unfold ixD at ez;split at ez
 ·unfold atD at ez
  split at ez
  ·rename_i w hw
   cases ez;obtain⟨_,_,rfl,h,r⟩:=rx.tup_inv;obtain rfl:=ry.int_inv;obtain⟨v,e1,e2⟩:=r.at hw;exact .inr (.inl ⟨_,_,_,v,rfl,rfl,h,e1,q v H (aY.refl H) (e2.wk λ _ _ _ z=>.inr z)⟩)
  ·cases ez
 ·unfold atD at ez
  split at ez
  ·rename_i w hw
   cases ez;obtain⟨_,_,rfl,h,m,r⟩:=rx.lst_inv;obtain rfl:=ry.int_inv;obtain⟨v,e1,e2⟩:=r.at hw;exact .inl ⟨_,_,_,v,rfl,rfl,SqL.of h,e1,q v H (aY.refl H) (e2.wk λ _ _ _ z=>.inr z.1)⟩
  ·cases ez
 ·unfold atD at ez
  split at ez
  ·rename_i w hw
   cases ez;obtain⟨_,rfl,h⟩:=rx.scr_inv;obtain rfl:=ry.int_inv;obtain⟨v,e1,e2⟩:=(Rps.ints (K:=K) (A:=A) (H:=H)).at hw;exact .inl ⟨_,_,_,v,rfl,rfl,h.sq,e1,q v H (aY.refl H) (e2.wk λ _ _ _ z=>.inr z)⟩
  ·cases ez
 ·cases ez
def bu:List D->Rs D
 |[.tup l]=>.ok (.int l.length)
 |[.lst l]=>.ok (.int l.length)
 |[.scr l]=>.ok (.int l.length)
 |_=>.st
theorem aJR:wV K (λ xs H Q=>∃p ys,xs=[.ref p]/\(SqL K H p ys\/SqT K H p ys)/\Q (.int ys.length) H) bu:=by
 intro A xs ds H Q z r ez q;unfold bu at ez;split at ez
 ·cases ez
  obtain⟨_,rfl,h0⟩:=r.one_inv;obtain⟨_,_,rfl,h,r⟩:=h0.tup_inv;exact⟨_,_,rfl,.inr h,by rw[r.length];exact q _ H (aY.refl H) (.int _)⟩
 ·cases ez
  obtain⟨_,rfl,h0⟩:=r.one_inv;obtain⟨_,_,rfl,h,m,r⟩:=h0.lst_inv;exact⟨_,_,rfl,.inl (SqL.of h),by rw[r.length];exact q _ H (aY.refl H) (.int _)⟩
 ·cases ez
  obtain⟨_,rfl,h0⟩:=r.one_inv;obtain⟨_,rfl,h⟩:=h0.scr_inv;exact⟨_,_,rfl,.inl h.sq,by rw[zAE];exact q _ H (aY.refl H) (.int _)⟩
 ·cases ez
theorem aFi:∀x z,bu x= .ok z->imm z=true:=by
 intro x z e;unfold bu at e;split at e<;>first|(cases e;rfl)|cases e
def tyD:D->String
 | .non=>"NoneType"| .bl _=>"bool"| .int _=>"int"| .str _=>"str"| .tup _=>"tuple"| .lst _=>"list"| .dct _ _=>"dict"| .set _=>"set"| .scr _=>"script"| .fn _=>"function"
def jD(T:String):D->Rs D:=λ d=>if rH (tyD d) T true=true then .ok (.bl true)else if rH (tyD d) T false=true then .ok (.bl false)else .st
def aLb(K:zAA)(T:String):List V->Hp->VK->Prop:=λ xs H Q=>∃x d A b,xs=[x,.ty T]/\Rp K A H x d/\rH (tyD d) T b=true/\Q (.bl b) H
theorem aGq:dD X (.builtin "isinstance") (aLb X.K T):=by
 intro pins s σ H xs us Q I rv h;obtain⟨x,d,A,b,rfl,rd,ok,q⟩:=h;cases rd with
 |tup h r=>
  obtain⟨u,w',rfl,ru,rw'⟩:=vals2 rv;cases ru;cases rw';obtain⟨its,_,⟨o,h1,h2,_⟩,_⟩:=I.tuple h;exact zBF zH9 I.kIn ⟨o,h1,h2⟩ (aEe ok) (λ z=>nomatch z) λ tk=>⟨.bl b,H,I.tok _,rfl,q⟩
 |set h m hS nd=>cases b<;>simp[rH,tyD]at ok
 |scr h=>cases b<;>simp[rH,tyD]at ok
 |fn h=>cases b<;>simp[rH,tyD]at ok
 |non=>exact nW pins s σ H _ us Q I rv ⟨_,T,_,b,rfl,.non,ok,q⟩
 |bl c=>exact nW pins s σ H _ us Q I rv ⟨_,T,_,b,rfl,.bl c,ok,q⟩
 |int c=>exact nW pins s σ H _ us Q I rv ⟨_,T,_,b,rfl,.int c,ok,q⟩
 |str c=>exact nW pins s σ H _ us Q I rv ⟨_,T,_,b,rfl,.str c,ok,q⟩
 |lst h m r=>exact nW pins s σ H _ us Q I rv ⟨_,T,_,b,rfl,.lst h,ok,q⟩
 |dK h m r=>exact nW pins s σ H _ us Q I rv ⟨_,T,_,b,rfl,.dK h,ok,q⟩
 |dT h m r=>
  obtain⟨u,w',rfl,ru,rw'⟩:=vals2 rv;cases ru;cases rw';obtain⟨⟨_,_,_,o,_,_,_,h1,h2,_⟩,_⟩:=(show cj X.prog X.w H s.heap _ (dxO _ _)from I.hok _ _ h.at_);exact zBF zE6 I.kIn ⟨o,h1,h2.1⟩ (aEe ok) (λ z=>nomatch z) λ tk=>⟨.bl b,H,I.tok _,rfl,q⟩
end
section
variable{C:Ct}{pos p p2:Pos}{m:Mode}{a:Expr}{fa:En->Rs D}
theorem mY(ha:SE C m a fa)(hm:C.mg "isinstance"=none)(hmT:C.mg x=none)(hn:x≠"__name__":=by decide)(hd:(x==("__debug__":Str))=false:=by decide)(he:∀i,zAZ [a,.Name x p2] (C.X i).env=(false,eval a (C.X i).env)::zAZ [.Name x p2] (C.X i).env:=by intro _;rfl)(hpl:∀i,(zC1 pos (zAZ [.Name x p2] (C.X i).env)).any (·.1)=false:=by intro _;rfl)(hg:∀i,Gl (C.X i) "isinstance":=by intro _;rfl)(hv:zAv "isinstance"=some (.builtin "isinstance"):=by decide+kernel)(hgT:∀i,Gl (C.X i) x:=by intro _;rfl)(hvT:zAv x=some (.type T):=by decide+kernel):
  SE C (some []) (.Call (.Name "isinstance" p) [a,.Name x p2] [] pos) (op1 (jD T) fa):=by
 obtain⟨t,h1,h2⟩:=ha;refine⟨tCB (aLb C.K T) (jk t (jk (tC (.ty T)) pM)),λ i=>?_,λ τ σ H ρ lab Q R W=>?_⟩
 ·rw[<-C.hK i]
  exact qF aGq (hg i) (by rw[(C.cx i).2.2.2.1];exact hm) hv (bG (h1 i) (bG (aFV (v:=.ty T) (hgT i) (by rw[(C.cx i).2.2.2.1];exact hmT) hvT rfl hn hd) dg) (he i)) (by decide) (by decide) (he i) (hpl i)
 ·refine h2 τ σ H ρ lab _ R (W.bd.imp λ d _ w x H1 s1 r1=>?_)
  obtain⟨z,ez,w⟩:=w.okD;unfold jD at ez;split at ez
  ·rename_i h;cases ez;exact⟨x,d,_,true,rfl,r1,h,w _ H1 s1 (.bl _)⟩
  ·split at ez
   ·rename_i h;cases ez;exact⟨x,d,_,false,rfl,r1,h,w _ H1 s1 (.bl _)⟩
   ·cases ez
end
def jo:Slot->Slot
 | .ow d=>.sh d
 | .nw d=>.sh d
 | .oz d=>.sh d
 | .o2 l=>.sh (.lst (l.map .lst))
 |s=>s
def shE(ρ:En):En:=ρ.map jo
def stV(js:List (Option Nat))(σ:L2.St):L2.St:=js.map λ o=>o.bind λ j=>(σ[j]?).join
def stE(js:List (Option Nat))(ρ:En):En:=js.map λ o=>match o with
 |none=>.no
 |some j=>(ρ[j]?).getD .no
theorem aJy{K:zAA}(h:gJ K H lab i v s):∃d,(s= .no\/jo s= .sh d)/\(s= .no\/Rp K (λ _=>True) H v d):=by
 cases s with
 |no=>exact⟨.non,.inl rfl,.inl rfl⟩
 |sh d=>exact⟨d,.inr rfl,.inr (Rp.wk (λ _ _ _ _=>trivial) h)⟩
 |nw d=>exact⟨d,.inr rfl,.inr (Rp.wk (λ _ _ _ _=>trivial) h)⟩
 |ow d=>exact⟨d,.inr rfl,.inr (Rp.wk (λ _ _ _ _=>trivial) h.1)⟩
 |oz d=>exact⟨d,.inr rfl,.inr (Rp.wk (λ _ _ _ _=>trivial) (aLi h))⟩
 |o2 l=>exact⟨_,.inr rfl,.inr (Rp.wk (λ _ _ _ _=>trivial) (aFZ h))⟩
theorem RR.shE{K:zAA}(R:RR K G τ ρ σ H lab):RR K G τ (shE ρ) σ H (λ _=>(0,0)):=by
 refine⟨by unfold VL.shE;rw[zAE];exact R.len,λ i s e=>?_,R.old,λ p hp=>absurd rfl hp,λ q hq=>(R.tm q hq).wk λ _ _ _ _=>zA9 _⟩;unfold VL.shE at e;rw[zAT]at e;cases e0:ρ[i]? with
 |none=>rw[e0]at e;cases e
 |some s0=>
  rw[e0]at e;cases e;rcases R.sl i s0 e0 with rfl|⟨v,ev,hv⟩
  ·exact .inl rfl
  ·obtain⟨d,h1,h2⟩:=aJy hv
   rcases h1 with rfl|h1
   ·exact .inl rfl
   ·rcases h2 with rfl|h2
    ·exact .inl rfl
    ·exact .inr ⟨v,ev,by rw[h1];exact h2.wk λ _ _ _ _=>zA9 _⟩
theorem aHJ{i:Nat}(e:(stE js ρ)[i]? =some s):s= .no\/∃j,js[i]? =some (some j)/\ρ[j]? =some s:=by
 unfold stE at e;rw[zAT]at e;cases ej:js[i]? with
 |none=>rw[ej]at e;cases e
 |some o=>
  rw[ej]at e;cases o with
  |none=>cases e;exact .inl rfl
  |some j=>
   cases er:ρ[j]? with
   |none=>simp[er]at e;exact .inl e.symm
   |some s'=>simp[er]at e;subst e;exact .inr ⟨j,rfl,er⟩
theorem RR.block{K:zAA}{τ:List (V×D)}(R:RR K G τ (VL.shE ρ) σ H lab)(hz:∀p,(lab p).1<=1)(hl:H l=none):
  RR K G τ (stE js (VL.shE ρ)) (stV js σ) H (λ p=>if p=l then(2,0)else(0,0)):=by
 have nl:∀p o,H p=some o->p≠l:=λ p o e z=>by subst z;rw[hl]at e;cases e
 refine⟨by unfold stE stV;rw[zAE,zAE],λ i s e=>?_,R.old,λ p hp=>?_,λ q hq=>(R.tm q hq).wk λ p o e _=>by rw[if_neg (nl p o e)];exact zA9 _⟩
 ·rcases aHJ e with rfl|⟨j,ej,es⟩
  ·exact .inl rfl
  ·rcases R.sl j s es with rfl|⟨v,ev,hv⟩
   ·exact .inl rfl
   ·refine .inr ⟨v,?_,?_⟩
    ·unfold stV
     rw[zAT,ej];simp[ev]
    ·unfold VL.shE at es
     rw[zAT]at es;cases e0:ρ[j]? with
     |none=>rw[e0]at es;cases es
     |some s0=>
      rw[e0]at es;cases es;cases s0 with
      |no=>trivial
      |oz d=>exact Rp.wk (λ p o e _=>by show(if p=l then((2,0):Nat×Nat)else(0,0)).1<=1;rw[if_neg (nl p o e)];exact zA9 _) hv
      |nw d=>exact Rp.wk (λ p o e _=>by show(if p=l then((2,0):Nat×Nat)else(0,0)).1<=1;rw[if_neg (nl p o e)];exact zA9 _) hv
      |sh d=>exact Rp.wk (λ p o e _=>by show(if p=l then((2,0):Nat×Nat)else(0,0)).1<=1;rw[if_neg (nl p o e)];exact zA9 _) hv
      |ow d=>exact Rp.wk (λ p o e _=>by show(if p=l then((2,0):Nat×Nat)else(0,0)).1<=1;rw[if_neg (nl p o e)];exact zA9 _) hv
      |o2 d=>exact Rp.wk (λ p o e _=>by show(if p=l then((2,0):Nat×Nat)else(0,0)).1<=1;rw[if_neg (nl p o e)];exact zA9 _) hv
 ·by_cases hp':p=l
  ·subst hp';exact R.old.free hl
  ·exact absurd (show(if p=l then((2,0):Nat×Nat)else(0,0)).1=0 by rw[if_neg hp']) hp
def aPF(XN N:List Str)(js:List (Option Nat))(ks:List Nat)(sc:Scope):Bool:=(zAp js.length).all λ i=>match js[i]? with
 |some (some j)=>match N[i]?,XN[j]? with
  |some x,some y=>x==y&&sc.names.lookup x==some .free&& !ks.contains i
  |_,_=>false
 |_=>true
theorem vW(h1:sc.kind= .function)(h2:(sc.names.all λ y=>y.2 != .cell||sc.names.lookup y.1==some .cell)=true)(h3:(sc.names.all λ y=>y.2 != .local||sc.names.lookup y.1==some .local)=true)
  (h4:(sc.names.all λ y=>y.2 != .free||(X.env.kindOf y.1==some .cell||X.env.kindOf y.1==some .free))=true)(h5:js.length=N.length)(h6:aPF X.N N js ks sc=true):eU X sc N (stV js) ks:=by
 refine⟨h1,λ y hy e=>?_,λ y hy e=>?_,λ y hy e=>?_,λ σ=>by unfold stV;rw[zAE];exact h5,λ σ i x v e1 e2=>?_⟩
 ·have:=zAj.mp h2 y hy
  rw[e]at this;simpa using this
 ·have:=zAj.mp h3 y hy
  rw[e]at this;simpa using this
 ·have:=zAj.mp h4 y hy
  rw[e]at this;simpa using this
 ·unfold stV at e2
  rw[zAT]at e2;cases ej:js[i]? with
  |none=>rw[ej]at e2;cases e2
  |some o=>
   rw[ej]at e2;cases o with
   |none=>cases e2
   |some j=>
    have hi:i<js.length:=(zAH.mp ej).1
    have:=zAj.mp h6 i (zBO.mpr hi)
    rw[ej,e1]at this;dsimp only at this;cases ey:X.N[j]? with
    |none=>rw[ey]at this;cases this
    |some y=>
     rw[ey]at this;simp only[zAK,beq_iff_eq,zDC]at this;obtain⟨⟨h,h'⟩,h''⟩:=this;subst h;refine⟨h',λ hk=>?_,j,ey,?_⟩
     ·rw[List.contains_iff_mem.mpr hk]at h'';cases h''
     ·simp only[zCm,zIA,Option.some.injEq]at e2
      cases es:σ[j]? with
      |none=>rw[es]at e2;cases e2
      |some w=>rw[es]at e2;simp at e2;subst e2;rfl
abbrev Ct.blk(C:Ct)(sc:Scope)(N:List Str):Ct where
 ι:=C.ι×Addr×List Addr×zAF×Hp
 X:=λ i=>(C.X i.1).block sc i.2.1 N i.2.2.1 i.2.2.2.1 i.2.2.2.2
 prog:=C.prog
 w:=C.w
 K:=C.K
 mg:=C.mg
 base:=C.base
 k:=C.k
 G:={C.G with E:=λ _ _ _=>False}
 cx:=λ i=>C.cx i.1
 calm:=λ i=>C.calm i.1
 room:=λ i=>C.room i.1
 own:=λ i=>PassesOwn.never
 pass:=λ i pins σ H s e s' I h=>by obtain⟨_,_,_,_,_,_,_,_,_,_,_,_,_,hE⟩:=h;exact hE
 dOk:=false
 dcx:=λ h=>absurd h zA3
def lcL(ρ:En)(fg:D->En->Rs En)(ft:En->Rs Bool)(fe:En->Rs D):List D->Rs (List D)
 |[]=>.ok []
 |d::ds=>(fg d ρ).bd λ ρ1=>(ft ρ1).bd λ k=>if k=true then(fe ρ1).bd λ y=>(lcL ρ fg ft fe ds).bd λ ys=>.ok (y::ys)else lcL ρ fg ft fe ds
def lcD(fi:En->Rs (List D))(js:List (Option Nat))(fg:D->En->Rs En)(ft:En->Rs Bool)(fe:En->Rs D):En->Rs D:=λ ρ=>(fi (shE ρ)).bd λ ds=>
 if ds.length<zAW then(match lcL (stE js (shE ρ)) fg ft fe ds with
  | .ok l=>.ok (.lst l)
  |_=>.st)else .st
def aCQ(C:Ct)(ifs:List Expr)(f:En->Rs Bool):Prop:=∃t,(∀i,aCR (C.X i) ifs t)/\z9 C.K C.G t f
def cU:En->Rs Bool:=λ _=>.ok true
theorem jB:aCQ C [] cU:=⟨_,λ _=>aM9,λ τ σ H ρ lab Q R W=>W H (aY.refl H)⟩
theorem mV(h:ST C c f):aCQ C [c] f:=let⟨t,h1,h2⟩:=h;⟨t,λ i=>aM8 (h1 i),h2⟩
theorem uG(h:lcL ρ fg ft fe (d::ds)= .ok l):
  ∃ρ1 k,fg d ρ= .ok ρ1/\ft ρ1= .ok k/\((k=true/\∃y ys,fe ρ1= .ok y/\lcL ρ fg ft fe ds= .ok ys/\l=y::ys)\/(k=false/\lcL ρ fg ft fe ds= .ok l)):=by
 unfold lcL at h;obtain⟨ρ1,e1,h⟩:=cL h;obtain⟨k,e2,h⟩:=cL h;refine⟨ρ1,k,e1,e2,?_⟩;cases k with
 |true=>
  rw[if_pos rfl]at h;obtain⟨y,e3,h⟩:=cL h;obtain⟨ys,e4,h⟩:=cL h;cases h;exact .inl ⟨rfl,y,ys,e3,e4,rfl⟩
 |false=>
  rw[if_neg zA3]at h;exact .inr ⟨rfl,h⟩
theorem RR.but_blk{K:zAA}{τ:List (V×D)}(R:RR K G τ (stE js (VL.shE ρ)) σ H (λ p=>if p=l then(2,0)else(0,0)))(B:lw l H H')(hl:H l=some o)(ho:lM o=true)(h0:G.H0 l=none):
  RR K G τ (stE js (VL.shE ρ)) σ H' (λ p=>if p=l then(2,0)else(0,0)):=by
 have lab1l:¬((λ p=>if p=l then((2,0):Nat×Nat)else(0,0)) l).1<=1:=by simp
 refine⟨R.len,λ j s e=>?_,λ b o hb=>?_,R.new,λ q hq=>(R.tm q hq).but B hl ho lab1l⟩
 ·rcases R.sl j s e with z|⟨u,e1,e2⟩
  ·exact .inl z
  ·refine .inr ⟨u,e1,?_⟩
   rcases aHJ e with rfl|⟨jx,ej,es⟩
   ·trivial
   ·unfold VL.shE at es
    rw[zAT]at es;cases e0:ρ[jx]? with
    |none=>rw[e0]at es;cases es
    |some s0=>rw[e0]at es;cases es;cases s0<;>first|trivial|exact Rp.but B hl ho lab1l e2
 ·exact B b o (λ z=>by subst z;rw[h0]at hb;cases hb) (R.old b o hb)
theorem RR.blk0{K:zAA}(R:RR K G τ (VL.shE ρ) σ H lab)(hG:G'.H0=G.H0):RR K G' τ (VL.shE ρ) σ H (λ _=>(0,0)):=by
 refine⟨R.len,λ i s e=>?_,by rw[hG];exact R.old,λ p hp=>absurd rfl hp,λ q hq=>(R.tm q hq).wk λ _ _ _ _=>zA9 _⟩;rcases R.sl i s e with rfl|⟨v,ev,hv⟩
 ·exact .inl rfl
 ·unfold VL.shE at e
  rw[zAT]at e;cases e0:ρ[i]? with
  |none=>rw[e0]at e;cases e
  |some s0=>rw[e0]at e;cases e;cases s0<;>first|exact .inl rfl|exact .inr ⟨v,ev,Rp.wk (λ _ _ _ _=>zA9 _) hv⟩
section
variable{K:zAA}{G:Gx}{wi:TI}{fi:En->Rs (List D)}{js:List (Option Nat)}{g:TG}{fg:D->En->Rs En}{tt:TT}{ft:En->Rs Bool}{te:TE}{fe:En->Rs D}
theorem aHQ(hi:aDf K G wi fi)(hg:aDg K {G with E:=λ _ _ _=>False} g fg)(ht:z9 K {G with E:=λ _ _ _=>False} tt ft)(he:gr K {G with E:=λ _ _ _=>False} (some []) te fe):
  gr K G (some []) (tLC wi (stV js) g tt te) (lcD fi js fg ft fe):=by
 intro τ σ H ρ lab Q R W;refine hi τ σ H _ _ _ R.shE (W.bd.imp λ ds _ w J H1 lab1 τ1 s1 _ R1 jl=>?_);intro l hl;obtain⟨hlen,out,hout,w⟩:ds.length<zAW/\∃out,lcL (stE js (VL.shE ρ)) fg ft fe ds= .ok out/\QE K (some []) lab H Q (.lst out):=by
  by_cases hlen:ds.length<zAW
  ·rw[if_pos hlen]at w
   cases hout:lcL (stE js (VL.shE ρ)) fg ft fe ds with
   |ok out=>rw[hout]at w;exact⟨hlen,out,rfl,w⟩
   |ex c=>rw[hout]at w;exact zAO w
   |st=>rw[hout]at w;exact zAO w
  ·rw[if_neg hlen]at w
   exact zAO w
 have R0:RR K {G with E:=λ _ _ _=>False} (τ1++τ) (VL.shE ρ) σ H1 (λ _=>(0,0)):=R1.blk0 rfl;have RB:=R0.block (js:=js) (λ _=>zA9 _) hl;have hHl:H l=none:=s1.free hl;have lab1l:¬((λ p=>if p=l then((2,0):Nat×Nat)else(0,0)) l).1<=1:=by simp
 refine⟨λ i n acc H2=>∃pre,n=ds.length-i/\i<=ds.length/\H2 l=some (.lst acc)/\RR K {G with E:=λ _ _ _=>False} (τ1++τ) (stE js (VL.shE ρ)) (stV js σ) H2 (λ p=>if p=l then(2,0)else(0,0))/\aY H H2/\acc.length<=i/\
  Rps K (λ p=>H p=none/\p≠l) H2 acc pre/\∃post,lcL (stE js (VL.shE ρ)) fg ft fe (ds.drop i)= .ok post/\out=pre++post,⟨ds.length,[],by lia,by lia,bH,RB.up (bZ hl _),s1.trans (bZ hl _),zAS _,.nil,out,hout,rfl⟩,?_⟩
 rintro i n acc H2 ⟨pre,rfl,hi,hH2,R2,s2,hacc,rpre,post,hpost,eout⟩;refine⟨hH2,by lia,?_⟩;have jj:=jl _ H2 λ q hq=>R2.tm q (zAX _ hq)
 by_cases hlt:i<ds.length
 ·obtain⟨go,yl⟩:=(jj i).2 hlt
  refine .inr ⟨go,λ x H3 hy=>?_⟩;obtain⟨s3,d,ed,rx⟩:=yl x H3 hy;replace R2:=R2.up s3;replace hH2:=s3 _ _ hH2;replace s2:=s2.trans s3;replace rpre:=rpre.up s3;have ed2:ds.drop i=d::ds.drop (i+1):=by
   rw[zBI hlt]
   have:=zAB hlt
   rw[ed]at this;cases this;rfl
  rw[ed2]at hpost;obtain⟨ρ1,k,e1,e2,e3⟩:=uG hpost;refine hg (τ1++τ) x d _ H3 _ _ _ ρ1 R2 rx e1 λ σ4 R4=>?_
  refine ht (τ1++τ) σ4 H3 ρ1 _ _ R4 ?_;rw[e2];intro H5 s5;rcases e3 with ⟨rfl,y,ys,e3,e4,rfl⟩|⟨rfl,e4⟩
  ·rw[if_pos rfl]
   refine he (τ1++τ) σ4 H5 ρ1 _ _ (R4.up s5) ?_;rw[e3];intro v H6 s6 r6;have hl6:H6 l=some (.lst acc):=s6 _ _ (s5 _ _ hH2);have B:lw l H6 (upd H6 l (.lst (acc++[v]))):=λ b o ne hb=>by rw[aj ne];exact hb
   refine⟨hl6,ds.length-(i+1),by lia,pre++[y],rfl,hlt,bH,?_,?_,by rw[zA5];simp;lia,?_,ys,e4,by rw[eout];simp⟩
   ·exact(R2.up (s5.trans s6)).but_blk B hl6 rfl (R1.old.free hl)
   ·exact λ b o hb=>B b o (λ z=>by subst z;rw[hHl]at hb;cases hb) (((s2.trans s5).trans s6) b o hb)
   ·refine((rpre.up (s5.trans s6)).append (.cons (r6.wk λ p o _ z=>?_) .nil)).but B hl6 rfl λ z=>z.2 rfl
    rcases z with z|z
    ·exact⟨(s2.trans s5).free z,λ e=>by subst e;rw[s5 _ _ hH2]at z;cases z⟩
    ·cases z
  ·rw[if_neg zA3]
   exact⟨ds.length-(i+1),by lia,pre,rfl,hlt,s5 _ _ hH2,R2.up s5,s2.trans s5,by lia,rpre.up s5,post,e4,eout⟩
 ·have ei:i=ds.length:=by lia
  subst ei;rw[zBo]at hpost;cases hpost;rw[zAi]at eout;subst eout;exact .inl ⟨(jj _).1 (zAS _),w _ H2 s2 (.lst hH2 (.inl hHl) (rpre.wk λ p o _ z=>⟨.inl z.1,z.2⟩))⟩
end
section
variable{C:Ct}{pos:Pos}{elt tg iter:Expr}{ifs:List Expr}{sc:Scope}{N:List Str}{js:List (Option Nat)}{ks:List Nat}{fi:En->Rs (List D)}{fg:D->En->Rs En}{ft:En->Rs Bool}{fe:En->Rs D}
theorem bN{C:Ct}(nd:N.Nodup:=by decide+kernel)(hk:i∈ks:=by decide)(hN:∀j,((C.blk sc N).X j).N[i]? =some x:=by intro _;rfl)(hx:∀j,Loc ((C.blk sc N).X j).env.scope x:=by intro _;first|exact zCi rfl|exact zBw rfl)
  (hf:∀j,((C.blk sc N).X j).fn x=true\/((C.blk sc N).X j).env.scope.names.lookup x=some .local:=by intro _;first|exact .inl rfl|exact .inr rfl):SG (C.blk sc N) (.Name x pos) ks (gnm i):=
 bU hN hx hf (λ _=>nd) hk
theorem mC(hi:SI C tg iter fi)(hg:SG (C.blk sc N) tg ks fg)(ht:aCQ (C.blk sc N) ifs ft)(he:SE (C.blk sc N) (some []) elt fe)(hs:∀i x,zAw iter (C.X i).env x=pure x:=by intro _ _;rfl)(hB:∀i,eU (C.X i) sc N (stV js) ks:=by intro _;exact vW rfl rfl rfl rfl rfl rfl):SE C (some []) (.ListComp elt [⟨tg,iter,ifs,0⟩] sc pos) (lcD fi js fg ft fe):=by
 obtain⟨wi,i1,i2⟩:=hi;obtain⟨g,g1,g2,g3,g4⟩:=hg;obtain⟨tt,t1,t2⟩:=ht;obtain⟨te,e1,e2⟩:=he;exact⟨_,λ i=>aON (hB i) (C.calm i) (i1 i) (λ c fp s₀ H₀=>g1 (i,c,fp,s₀,H₀)) g3 (λ c fp s₀ H₀=>t1 (i,c,fp,s₀,H₀)) (λ c fp s₀ H₀=>e1 (i,c,fp,s₀,H₀)) (hs i),aHQ i2 g2 t2 e2⟩
theorem aHF(hi:SI C tg iter fi)(hg:SG (C.blk sc N) tg ks fg)(ht:aCQ (C.blk sc N) ifs ft)(he:SE (C.blk sc N) (some []) elt fe)(hN:∀j,(C.X j).N[i]? =some x:=by intro _;rfl)(hx:∀j,Loc (C.X j).env.scope x:=by intro _;first|exact zCi rfl|exact zBw rfl)(hsw:∀j,zDI (.ListComp elt [⟨tg,iter,ifs,0⟩] sc pos) (some (.Name x pos')) spos.line (C.X j).env=pure true:=by intro _;rfl)(hs:∀i x,zAw iter (C.X i).env x=pure x:=by intro _ _;rfl)(hf:∀j,(C.X j).fn x=true\/(C.X j).env.scope.names.lookup x=some .local:=by intro _;first|exact .inl rfl|exact .inr rfl)(nd:∀j,(C.X j).N.Nodup:=by intro _;assumption)(hB:∀i,eU (C.X i) sc N (stV js) ks:=by intro _;exact vW rfl rfl rfl rfl rfl rfl):
  SV C i (.Assign [.Name x pos'] (.ListComp elt [⟨tg,iter,ifs,0⟩] sc pos) spos) (some []) (lcD fi js fg ft fe):=by
 obtain⟨wi,i1,i2⟩:=hi;obtain⟨g,g1,g2,g3,g4⟩:=hg;obtain⟨tt,t1,t2⟩:=ht;obtain⟨te,e1,e2⟩:=he;exact⟨_,λ j=>aCk (nd j) (hN j) (hx j) (hB j) (C.calm j) (i1 j) (λ c fp s₀ H₀=>g1 (j,c,fp,s₀,H₀)) g3 (λ c fp s₀ H₀=>t1 (j,c,fp,s₀,H₀)) (λ c fp s₀ H₀=>e1 (j,c,fp,s₀,H₀)) (hsw j) (hs j) (hf j),aHQ i2 g2 t2 e2⟩
end
section
variable{K:zAA}{G:Gx}{wi:TI}{fi:En->Rs (List D)}{js:List (Option Nat)}{g:TG}{fg:D->En->Rs En}{tt:TT}{ft:En->Rs Bool}{te:TE}{fe:En->Rs D}{m:Mode}
end
section
variable{C:Ct}{pos:Pos}{elt tg iter:Expr}{ifs:List Expr}{sc:Scope}{N:List Str}{js:List (Option Nat)}{ks:List Nat}{fi:En->Rs (List D)}{fg:D->En->Rs En}{ft:En->Rs Bool}{fe:En->Rs D}{m:Mode}
end
theorem RR.mut{K:zAA}(R:RR K G τ ρ σ H lab)(ev:σ[i]? =some (some v))(hl:H l=some o)(ho:lM o=true)(hlab:(lab l).1=i+2)
  (B:lw l H H')(h':gJ K H' lab i v s'):RR K G τ (ρ.set i s') σ H' lab:=by
 refine⟨by rw[zBA];exact R.len,λ j x e=>?_,λ b u hb=>B b u (λ z=>?_) (R.old b u hb),R.new,λ q hq=>(R.tm q hq).but B hl ho λ z=>by lia⟩
 ·by_cases hj:i=j
  ·subst hj
   have hi:i<ρ.length:=by
    have:=(zAH.mp e).1
    rwa [zBA]at this
   rw[zB3 hi]at e;cases e;exact .inr ⟨v,ev,h'⟩
  ·rw[zBK hj]at e
   rcases R.sl j x e with z|⟨u,e1,e2⟩
   ·exact .inl z
   ·refine .inr ⟨u,e1,?_⟩
    cases x with
    |no=>trivial
    |sh d=>exact Rp.but B hl ho (λ z=>by lia) e2
    |nw d=>exact Rp.but B hl ho (λ z=>by lia) e2
    |ow d=>exact⟨Rp.but B hl ho (λ z=>by lia) e2.1,e2.2⟩
    |oz d=>
     obtain⟨a,xs,ds,q1,q2,q3,q4,q5⟩:=e2;exact⟨a,xs,ds,q1,q2,B a _ (λ z=>by subst z;exact hj (by lia)) q3,q4,Rps.but B hl ho (λ z=>by lia) q5⟩
    |o2 ll=>
     obtain⟨a,xs,q1,q2,q3,q4,q5⟩:=e2;refine⟨a,xs,q1,B a _ (λ z=>?_) q2,q3,q4,λ jj y ds f1 f2=>(q5 jj y ds f1 f2).but B hl ho λ z=>?_⟩
     ·rw[z]at q3;rw[q3]at hlab;exact hj (by simpa using hlab.symm)
     ·rw[z]at hlab;exact hj (by simpa using hlab.symm)
 ·subst z
  have:=R.new b (by rw[hlab];lia)
  rw[this]at hb;cases hb
section
variable{C:Ct}{pos apos cpos p:Pos}{e a:Expr}{fe fa:En->Rs D}{i:Nat}{x:Str}{m:Mode}
def qT(i:Nat)(fe:En->Rs D):En->Ou:=λ ρ=>match ρ[i]? with
 |some (.ow (.lst ds))=>(fe ρ).bo λ d=>if ds.length<zAW then .nx (ρ.set i (.ow (.lst (ds++[d]))))else .st
 |_=>.st
theorem mz(i:Nat)(he:SE C m e fe)(hm:okN m=true:=by rfl)(hN:∀j,(C.X j).N[i]? =some x:=by intro _;rfl)(hv:∀j,Vis (C.X j).env.scope x:=by intro _;first|exact zCi rfl|exact zBw (zCi rfl)|exact zBw (zBw rfl))(hd:(x==("__debug__":Str))=false:=by decide)
  (hcd:(x==("__classdict__":Str))=false:=by decide)(hs1:∀j,zAZ [e] (C.X j).env=[(false,eval e (C.X j).env)]:=by intro _;rfl)
  (hbase:∀j,zEQ (.Name x p) "append" (C.X j).env (eval (.Name x p) (C.X j).env)=eval (.Name x p) (C.X j).env:=by intro _;rfl)
  (hfew:∀j,((zC1 cpos (zAZ [e] (C.X j).env)).all (λ x=>!x.1)&&(zFj cpos (zDd [] (C.X j).env)).all (λ x=>x.1.isSome)&&decide ([e].length+([]:List zD1).length+(if ([]:List zD1).isEmpty then 0 else 1)<30))=true:=by intro _;rfl)
  (hline:(apos.endLine==cpos.line)=true:=by rfl)
  (hsw:∀j,zDI (.Call (.Attribute (.Name x p) "append" apos) [e] [] cpos) none pos.line (C.X j).env=pure false:=by intro _;rfl):
  SS C (.Expr (.Call (.Attribute (.Name x p) "append" apos) [e] [] cpos) pos) (qT i fe):=by
 obtain⟨t,h1,h2⟩:=he;refine⟨aAX (tBM C.K "list" yK (qt i) (jk t pM)),λ j=>tV (by rw[<-C.hK j];exact aA8 zCB zDt zFo yZ (jC (hN j) (hv j) hd hcd) (bG (h1 j) dg (hs1 j)) (hbase j) (hfew j) hline (hs1 j) rfl) (hsw j),λ τ σ H ρ lab De R W=>?_⟩;unfold qT at W;cases es:ρ[i]? with
 |none=>rw[es]at W;exact zAO W
 |some s=>
  rw[es]at W;split at W
  ·rename_i ds hs
   cases hs;rcases R.sl i _ es with z|⟨v,ev,hv'⟩
   ·cases z
   ·obtain⟨hv1,htop⟩:=hv'
    obtain⟨a0,ea0,la0⟩:=htop rfl;subst ea0;cases hv1 with
    |lst h mm r=>
     rename_i xs;refine⟨.ref a0,ev,.inl ⟨rfl,xs,SqL.of h⟩,h2 τ σ H ρ lab _ R (W.bo.imp λ d _ w y H2 s2 r2=>?_)⟩;by_cases hz:ds.length<zAW
     ·rw[if_pos hz]at w
      refine⟨a0,xs,y,rfl,rfl,s2 _ _ h,by rw[r.length];exact hz,λ H3 B h3=>?_⟩;obtain⟨R',r'⟩:=R.fresh (P:=λ k=>k=1) rfl (λ k hk=>beq_iff_eq.mp (t7 hm k hk)) s2 r2;have la:(eE H 1 lab a0).1=i+2:=by rw[cN h];exact la0
      refine w σ H3 _ (R'.mut ev (s2 _ _ h) rfl la B ⟨.lst h3 (.inr la) ?_,λ _=>⟨a0,rfl,la⟩⟩);have ra:Rps C.K (λ p=>((eE H 1 lab p).1=1\/(eE H 1 lab p).1=i+2)/\p≠a0) H2 (xs++[y]) (ds++[d]):=by
       refine(r.mono s2 λ p o e z=>⟨by rw[cN e];exact z.1,z.2⟩).append (.cons (r'.wk λ p o e z=>⟨.inl z,λ q=>?_⟩) .nil);subst q;rw[la]at z;lia
      exact ra.but B (s2 _ _ h) rfl λ z=>z.2 rfl
     ·rw[if_neg hz]at w
      exact zAO w
  ·exact zAO W
def at2(ll:List (List D)):D->Option (Nat×List D)
 | .int n=>(ixN ll.length n).bind λ j=>(ll[j]?).map λ ds=>(j,ds)
 |_=>none
def jm(i:Nat)(fa fe:En->Rs D):En->Ou:=λ ρ=>match ρ[i]? with
 |some (.o2 ll)=>(fa ρ).bo λ k=>match at2 ll k with
  |some (j,ds)=>(fe ρ).bo λ d=>if ds.length<zAW then .nx (ρ.set i (.o2 (ll.set j (ds++[d]))))else .st
  |none=>.st
 |_=>.st
theorem aJ0(h:at2 ll k=some (j,ds)):∃n,k= .int n/\ixN ll.length n=some j/\ll[j]? =some ds:=by
 cases k with
 |int n=>
  simp only[at2,Option.bind_eq_some_iff,zBh]at h;obtain⟨j',h1,ds',h2,h3⟩:=h;cases h3;exact⟨n,rfl,h1,h2⟩
 |_=>cases h
theorem oE(i:Nat){p2:Pos}(ha:SE C m a fa)(he:SE C (some []) e fe)(hN:∀j,(C.X j).N[i]? =some x:=by intro _;rfl)(hv:∀j,Vis (C.X j).env.scope x:=by intro _;first|exact zCi rfl|exact zBw (zCi rfl)|exact zBw (zBw rfl))(hd:(x==("__debug__":Str))=false:=by decide)
  (hcd:(x==("__classdict__":Str))=false:=by decide)(hs1:∀j,zAZ [e] (C.X j).env=[(false,eval e (C.X j).env)]:=by intro _;rfl)(hp:xT a:=by exact λ _ _=>rfl)
  (hbase:∀j,zEQ (.Subscript (.Name x p) a p2) "append" (C.X j).env (eval (.Subscript (.Name x p) a p2) (C.X j).env)=eval (.Subscript (.Name x p) a p2) (C.X j).env:=by intro _;rfl)
  (hfew:∀j,((zC1 cpos (zAZ [e] (C.X j).env)).all (λ x=>!x.1)&&(zFj cpos (zDd [] (C.X j).env)).all (λ x=>x.1.isSome)&&decide ([e].length+([]:List zD1).length+(if ([]:List zD1).isEmpty then 0 else 1)<30))=true:=by intro _;rfl)
  (hline:(apos.endLine==cpos.line)=true:=by rfl)
  (hsw:∀j,zDI (.Call (.Attribute (.Subscript (.Name x p) a p2) "append" apos) [e] [] cpos) none pos.line (C.X j).env=pure false:=by intro _;rfl):
  SS C (.Expr (.Call (.Attribute (.Subscript (.Name x p) a p2) "append" apos) [e] [] cpos) pos) (jm i fa fe):=by
 obtain⟨t,h1,h2⟩:=he;obtain⟨ta,a1,a2⟩:=ha;refine⟨aAX (tBM C.K "list" yK (tOp (aMX C.K) (qt i) ta) (jk t pM)),λ j=>tV (by rw[<-C.hK j];exact aA8 zCB zDt zFo yZ (aHz aBu (jC (hN j) (hv j) hd hcd) (a1 j) hp) (bG (h1 j) dg (hs1 j)) (hbase j) (hfew j) hline (hs1 j) rfl) (hsw j),λ τ σ H ρ lab De R W=>?_⟩;unfold jm at W;cases es:ρ[i]? with
 |none=>rw[es]at W;exact zAO W
 |some s=>
  rw[es]at W;cases s with
  |o2 ll=>
   dsimp only at W;rcases R.sl i _ es with z|⟨v,ev,top,xs,rfl,ht,hlt,hlen,hin⟩
   ·cases z
   ·refine⟨.ref top,ev,a2 τ σ H ρ lab _ R (W.bo.imp λ k _ w kv H1 s1 r1=>?_)⟩
    cases hk:at2 ll k with
    |none=>rw[hk]at w;exact zAO w
    |some q=>
     obtain⟨j,ds⟩:=q;rw[hk]at w;dsimp only at w;obtain⟨n,rfl,hj,hds⟩:=aJ0 hk;cases r1;have hjx:∃xj,xs[j]? =some xj:=by
      have:j<xs.length:=by rw[hlen];exact(zAH.mp hds).1
      exact⟨_,zAB this⟩
     obtain⟨xj,hxj⟩:=hjx;have hr:=hin j xj ds hxj hds;cases hr with
     |lst hl ml rl=>
      rename_i l ys;refine⟨top,xs,n,.ref l,rfl,rfl,SqL.of (s1 _ _ ht),by unfold atI;rw[hlen,hj];exact hxj,.inl ⟨rfl,ys,SqL.of (s1 _ _ hl)⟩,h2 τ σ H1 ρ lab _ (R.up s1) (w.bo.imp λ d _ w y H2 s2 r2=>?_)⟩;by_cases hz:ds.length<zAW
      ·rw[if_pos hz]at w
       have s12:=s1.trans s2;refine⟨l,ys,y,rfl,rfl,s12 _ _ hl,by rw[rl.length];exact hz,λ H3 B h3=>?_⟩;have ltop:l≠top:=λ e=>by rw[e,hlt]at ml;cases ml
       let lab':Lab:=λ p=>match H1 p with
        |none=>(i+2,j+1)
        |some _=>lab p
       have lo:∀{p o},H1 p=some o->lab' p=lab p:=λ{p o} e=>by show(match H1 p with|none=>_|some _=>_)=_;rw[e]
       have ln:∀{p},H1 p=none->lab' p=(i+2,j+1):=λ{p} e=>by show(match H1 p with|none=>_|some _=>_)=_;rw[e]
       have R':RR C.K C.G τ ρ σ H2 lab':=((R.up s1).relab (λ p o e=>lo e) λ p hp=>by
        cases e:H1 p with
        |none=>exact(R.old.trans s1).free e
        |some o=>rw[lo e]at hp;exact R.new p hp).up s2
       have labl:lab' l=(i+2,j+1):=by rw[lo (s1 _ _ hl)];exact ml
       refine w σ H3 lab' (R'.mut ev (s12 _ _ hl) rfl (by rw[labl]) B ⟨top,xs,rfl,B _ _ (zDL ltop) (s12 _ _ ht),by rw[lo (s1 _ _ ht)];exact hlt,by rw[zBA];exact hlen,λ jj z dz f1 f2=>?_⟩);by_cases hjj:j=jj
       ·subst hjj
        rw[hxj]at f1;cases f1;rw[zB3 (zAH.mp hds).1]at f2;cases f2;refine .lst h3 labl ?_;have ra:Rps C.K (λ p=>lab' p=(i+2,j+1)/\p≠l) H2 (ys++[y]) (ds++[d]):=by
         refine(rl.mono s12 λ p o e z=>⟨by rw[lo (s1 _ _ e)];exact z.1,z.2⟩).append (.cons (r2.wk λ p o e z=>?_) .nil);rcases z with z|z
         ·exact⟨ln z,λ q=>by subst q;rw[s1 _ _ hl]at z;cases z⟩
         ·cases z
        exact ra.but B (s12 _ _ hl) rfl λ z=>z.2 rfl
       ·rw[zBK hjj]at f2
        refine((hin jj z dz f1 f2).mono s12 (A':=λ p=>lab' p=(i+2,jj+1)) λ p o e q=>by rw[lo (s1 _ _ e)];exact q).but B (s12 _ _ hl) rfl λ q=>?_
        rw[labl]at q;simp only[Prod.mk.injEq]at q;lia
      ·rw[if_neg hz]at w
       exact zAO w
  |_=>exact zAO W
end
mutual
def eqD:D->D->Bool
 | .non,.non=>true
 | .bl a,.bl b=>a==b
 | .bl a,.int b=>(if a then 1 else 0)==b
 | .int a,.bl b=>a==(if b then 1 else 0)
 | .int a,.int b=>a==b
 | .str a,.str b=>a==b
 | .tup l,.tup m=>gR l m
 | .lst l,.lst m=>gR l m
 |_,_=>false
def gR:List D->List D->Bool
 |[],[]=>true
 |x::xs,y::ys=>eqD x y&&gR xs ys
 |_,_=>false
end
mutual
def iT:D->Nat
 | .tup l=>cg l+1
 | .lst l=>cg l+1
 |_=>0
def cg:List D->Nat
 |[]=>0
 |d::r=>max (iT d) (cg r)
end
mutual
def aU:D->Bool
 | .tup l=>bB l
 | .lst l=>bB l
 | .dct _ _=>false
 | .set _=>false
 | .scr _=>false
 | .fn _=>false
 |_=>true
def bB:List D->Bool
 |[]=>true
 |d::r=>aU d&&bB r
end
mutual
theorem lO:∀d:D,aU d=true->eqD d d=true
 | .non,_=>by simp[eqD]
 | .bl b,_=>by simp[eqD]
 | .int i,_=>by simp[eqD]
 | .str x,_=>by simp[eqD]
 | .tup l,h=>by simp only[eqD];exact jE l (by simpa[aU]using h)
 | .lst l,h=>by simp only[eqD];exact jE l (by simpa[aU]using h)
 | .dct _ _,h=>by simp[aU]at h
 | .set _,h=>by simp[aU]at h
 | .scr _,h=>by simp[aU]at h
theorem jE:∀l:List D,bB l=true->gR l l=true
 |[],_=>by simp[gR]
 |d::r,h=>by
  simp only[bB,zAK]at h;simp only[gR,zAK];exact⟨lO d h.1,jE r h.2⟩
end
structure nZ(K:zAA)(H:Hp)(s:zAF):Prop where
 tup:∀{a:Addr} {xs:List V},SqT K H a xs->∃its:List Value,Vals xs its/\s.heap.IsTuple a its.toArray
 lst:∀{a:Addr} {xs:List V},H a=some (.lst xs)->∃its:List Value,Vals xs its/\s.heap.IsList a its.toArray
 inj:∀{a:Addr} {xs ys:List V},SqT K H a xs->SqT K H a ys->xs=ys
 ne:∀{a:Addr} {xs ys:List V},SqT K H a xs->H a=some (.lst ys)->False
theorem Inv.seqOk(I:L2.Inv X pins σ H s):nZ X.K H s where
 tup:=λ h=>let⟨its,r,p,_⟩:=I.tuple h;⟨its,r,p⟩
 lst:=λ h=>let⟨its,r,p,_⟩:=I.list (SqL.of h);⟨its,r,p.isList⟩
 inj:=λ h h'=>I.tuple_inj h h'
 ne:=λ h h'=>by
  obtain⟨its,_,⟨o,e,c,_⟩,_⟩:=I.tuple h;obtain⟨its2,_,⟨o2,n2,e2,c2,_⟩,_⟩:=I.list (SqL.of h');rw[e]at e2;cases e2;rw[c]at c2;injection c2 with c3
  exact absurd c3 (by decide)
section
variable{K:zAA}{H:Hp}{s:zAF}
theorem aa(h:aU (.dct a b)=true):False:=by simp[aU]at h
theorem bz(h:aU (.set a)=true):False:=by simp[aU]at h
theorem cA(h:aU (.scr a)=true):False:=by simp[aU]at h
theorem cT(h:aU (.fn a)=true):False:=by simp[aU]at h
theorem kO(h:aU (.tup a)=true):bB a=true:=by simpa[aU]using h
theorem kW(h:aU (.lst a)=true):bB a=true:=by simpa[aU]using h
theorem mF(h:bB (d::a)=true):aU d=true/\bB a=true:=by
 simp only[bB,zAK]at h;exact h
def aLY(K:zAA)(s:zAF)(H:Hp)(x:V)(d:D):Prop:=nZ K H s->∀(A':Addr->Prop) (e:D),Rp K A' H x e->aU d=true->aU e=true->d=e
def aDj(K:zAA)(s:zAF)(H:Hp)(xs:List V)(ds:List D):Prop:=nZ K H s->∀(A':Addr->Prop) (es:List D),Rps K A' H xs es->bB ds=true->bB es=true->ds=es
theorem aKm(ha:SqT K H a xs)(ih:aDj K s H xs ds):aLY K s H (.ref a) (.tup ds):=λ ok A' e h n1 n2=>by
 cases h with
 |tup hb r'=>
  have e:=ok.inj ha hb;subst e;rw[ih ok _ _ r' (kO n1) (kO n2)]
 |lst hb _ _=>exact(ok.ne ha hb).elim
 |dK _ _ _=>exact(aa n2).elim
 |dT _ _ _=>exact(aa n2).elim
 |set _ _ _ _=>exact(bz n2).elim
 |scr _=>exact(cA n2).elim
 |fn _=>exact(cT n2).elim
theorem aKn(ha:H a=some (.lst xs))(ih:aDj K s H xs ds):aLY K s H (.ref a) (.lst ds):=λ ok A' e h n1 n2=>by
 cases h with
 |tup hb r'=>exact(ok.ne hb ha).elim
 |lst hb _ r'=>
  rw[ha]at hb;cases hb;rw[ih ok _ _ r' (kW n1) (kW n2)]
 |dK _ _ _=>exact(aa n2).elim
 |dT _ _ _=>exact(aa n2).elim
 |set _ _ _ _=>exact(bz n2).elim
 |scr _=>exact(cA n2).elim
 |fn _=>exact(cT n2).elim
theorem aIp(h1:aLY K s H x d)(h2:aDj K s H xs ds):aDj K s H (x::xs) (d::ds):=λ ok A' es h n1 n2=>by
 cases h with
 |cons k r'=>rw[h1 ok _ _ k (mF n1).1 (mF n2).1,h2 ok _ _ r' (mF n1).2 (mF n2).2]
theorem Rp.inj(ok:nZ K H s)(r:Rp K A H x d)(h:Rp K A' H x e)(n1:aU d=true)(n2:aU e=true):d=e:=
 Rp.rec (motive_1:=λ _ H x d _=>aLY K s H x d) (motive_2:=λ _ H xs ds _=>aDj K s H xs ds)
  (λ _ _ _ h _ _=>by cases h;rfl) (λ _ _ _ _ h _ _=>by cases h;rfl) (λ _ _ _ _ h _ _=>by cases h;rfl) (λ _ _ _ _ h _ _=>by cases h;rfl) (λ ha _ ih=>aKm ha ih) (λ ha _ _ ih=>aKn ha ih)
  (λ _ _ _ _ _ _ _ _ n1 _=>(aa n1).elim) (λ _ _ _ _ _ _ _ _ n1 _=>(aa n1).elim) (λ _ _ _ _ _ _ _ _ n1 _=>(bz n1).elim) (λ _ _ _ _ _ n1 _=>(cA n1).elim) (λ _ _ _ _ _ n1 _=>(cT n1).elim)
  (λ _ _ _ h _ _=>by cases h;rfl) (λ _ _ h1 h2=>aIp h1 h2) r ok A' e h n1 n2
end
theorem qN:∀(l m:List D),gR l m=((zAp (min l.length m.length)).all (λ j=>match l[j]?,m[j]? with|some a,some b=>eqD a b|_,_=>true)&&l.length==m.length)
 |[],[]=>by simp[gR]
 |[],y::ys=>by simp[gR]
 |x::xs,[]=>by simp[gR]
 |x::xs,y::ys=>by
  have ih:=qN xs ys;simp only[gR,ih,zAY,zIc,zHY,zCr,zH8,zBC,zE2,zAz,zHz,zIt,zEV];congr 1;congr 1;simp
theorem nQ:∀{l:List D} {d:D},d∈l->iT d<=cg l
 |x::r,d,h=>by
  simp only[cg];rcases zAN.mp h with rfl|h
  ·exact zEO _ _
  ·exact zAg (nQ h) (zDw _ _)
theorem gm:∀{l:List D} {d:D},d∈l->bB l=true->aU d=true
 |x::r,d,h,n=>by
  simp only[bB,zAK]at n;rcases zAN.mp h with rfl|h
  ·exact n.1
  ·exact gm h n.2
theorem dB(hn:n=ds.length)(hm:m=es.length):((zAp (min n m)).all (λ j=>match ds[j]?,es[j]? with|some a,some b=>eqD a b|_,_=>true)&&n==m)=gR ds es:=by
 subst hn hm;exact(qN ds es).symm
section
variable{K:zAA}{H:Hp}{s:zAF}
def aJ6(K:zAA)(H:Hp)(s:zAF)(n:Nat):Prop:=∀(A1 A2:Addr->Prop) (x y:V) (d e:D) (A:zAe) (u v:Value),Rp K A1 H x d->Rp K A2 H y e->RelV x u->RelV y v->iT d<=n->aU d=true->aU e=true->A.units+n<cLine->zDB A s u v (eqD d e)
def aJ7(K:zAA)(H:Hp)(s:zAF)(n:Nat):Prop:=∀(A1 A2:Addr->Prop) (xs ys:List V) (ds es:List D) (A:zAe) (us vs:List Value),Rps K A1 H xs ds->Rps K A2 H ys es->Vals xs us->Vals ys vs->cg ds<=n->bB ds=true->bB es=true->A.units+n<cLine->
  ∀(j:Nat) (h1:j<us.toArray.size) (h2:j<vs.toArray.size),zDB A s us.toArray[j] vs.toArray[j] (match ds[j]?,es[j]? with|some a,some b=>eqD a b|_,_=>true)
theorem zN(ok:nZ K H s)(n:Nat)(IH:∀k,n=k+1->aJ7 K H s k):aJ6 K H s n:=by
 intro A1 A2 x y d e A u v r1 r2 ru rv hd nd ne hu;have hu0:A.units<cLine:=by lia
 cases r1 with
 |tup h1 q1=>
  rename_i a xs ds;cases ru;obtain⟨its,w1,t1⟩:=ok.tup h1;cases r2 with
  |tup h2 q2=>
   rename_i b ys es;cases rv;obtain⟨its2,w2,t2⟩:=ok.tup h2;by_cases hab:a=b
   ·subst hab
    have e:=Rp.inj ok (Rp.tup h1 q1) (Rp.tup h2 q2) nd ne;rw[<-e,lO _ nd];exact zCc _
   ·simp only[iT]at hd
    obtain⟨k,rfl⟩:∃k,n=k+1:=⟨n-1,by lia⟩
    have z:=zDZ t1 t2 hu0 (IH k rfl _ _ _ _ _ _ _ _ _ q1 q2 w1 w2 (by lia) (kO nd) (kO ne) (by show A.units+1+k<cLine;lia));rw[dB (by rw[zAP,<-w1.length,q1.length]) (by rw[zAP,<-w2.length,q2.length])]at z;simp only[eqD];exact zCD hab z
  |lst h2 mm2 q2=>
   cases rv;obtain⟨its2,w2,t2⟩:=ok.lst h2;simp only[eqD];exact zFt t1 t2 hu0
  |dK _ _ _=>exact(aa ne).elim
  |dT _ _ _=>exact(aa ne).elim
  |set _ _ _ _=>exact(bz ne).elim
  |scr _=>exact(cA ne).elim
  |fn _=>exact(cT ne).elim
  |non=>cases rv;simp only[eqD];exact zFu t1 hu0
  |bl b=>cases rv;simp only[eqD];exact zFs b t1 hu0
  |int i=>obtain⟨tk,rfl⟩:=rv;simp only[eqD];exact zGS i tk t1 hu0
  |str i=>obtain⟨tk,rfl⟩:=rv;simp only[eqD];exact zGT i tk t1 hu0
 |lst h1 mm1 q1=>
  rename_i a xs ds;cases ru;obtain⟨its,w1,t1⟩:=ok.lst h1;cases r2 with
  |lst h2 mm2 q2=>
   rename_i b ys es;cases rv;obtain⟨its2,w2,t2⟩:=ok.lst h2;by_cases hab:a=b
   ·subst hab
    have e:=Rp.inj ok (Rp.lst h1 mm1 q1) (Rp.lst h2 mm2 q2) nd ne;rw[<-e,lO _ nd];exact zCc _
   ·simp only[iT]at hd
    obtain⟨k,rfl⟩:∃k,n=k+1:=⟨n-1,by lia⟩
    have l1:its.toArray.size=ds.length:=by rw[zAP,<-w1.length,q1.length]
    have l2:its2.toArray.size=es.length:=by rw[zAP,<-w2.length,q2.length]
    by_cases hl:its.toArray.size=its2.toArray.size
    ·have z:=zD5 t1 t2 hl hu0 (IH k rfl _ _ _ _ _ _ _ _ _ q1 q2 w1 w2 (by lia) (kW nd) (kW ne) (by show A.units+1+k<cLine;lia))
     have z':=dB (ds:=ds) (es:=es) l1 l2;rw[<-hl,zD6,beq_self_eq_true,zCp]at z';rw[z']at z;simp only[eqD];exact zCD hab z
    ·have z:=zC7 t1 t2 (by simpa using hl) hu0
     have z':=dB (ds:=ds) (es:=es) l1 l2;rw[beq_eq_false_iff_ne.mpr hl,zDF]at z';simp only[eqD];rw[<-z'];exact zCD hab z
  |tup h2 q2=>
   cases rv;obtain⟨its2,w2,t2⟩:=ok.tup h2;simp only[eqD];exact zFq t1 t2 hu0
  |dK _ _ _=>exact(aa ne).elim
  |dT _ _ _=>exact(aa ne).elim
  |set _ _ _ _=>exact(bz ne).elim
  |scr _=>exact(cA ne).elim
  |fn _=>exact(cT ne).elim
  |non=>cases rv;simp only[eqD];exact zGO t1 hu0
  |bl b=>cases rv;simp only[eqD];exact zGN b t1 hu0
  |int i=>obtain⟨tk,rfl⟩:=rv;simp only[eqD];exact zGp i tk t1 hu0
  |str i=>obtain⟨tk,rfl⟩:=rv;simp only[eqD];exact zGq i tk t1 hu0
 |dK _ _ _=>exact(aa nd).elim
 |dT _ _ _=>exact(aa nd).elim
 |set _ _ _ _=>exact(bz nd).elim
 |scr _=>exact(cA nd).elim
 |fn _=>exact(cT nd).elim
 |non=>
  cases ru;cases r2 with
  |tup h2 q2=>cases rv;obtain⟨_,_,t2⟩:=ok.tup h2;simp only[eqD];exact zFr t2 hu0
  |lst h2 mm2 q2=>cases rv;obtain⟨_,_,t2⟩:=ok.lst h2;simp only[eqD];exact zGQ t2 hu0
  |dK _ _ _=>exact(aa ne).elim
  |dT _ _ _=>exact(aa ne).elim
  |set _ _ _ _=>exact(bz ne).elim
  |scr _=>exact(cA ne).elim
  |fn _=>exact(cT ne).elim
  |non=>cases rv;simp only[eqD];exact zCc _
  |bl b=>cases rv;simp only[eqD];exact zGP b
  |int i=>obtain⟨tk,rfl⟩:=rv;simp only[eqD];exact zGr i tk
  |str i=>obtain⟨tk,rfl⟩:=rv;simp only[eqD];exact zGs i tk
 |bl a=>
  cases ru;cases r2 with
  |tup h2 q2=>cases rv;obtain⟨_,_,t2⟩:=ok.tup h2;simp only[eqD];exact zFp a t2 hu0
  |lst h2 mm2 q2=>cases rv;obtain⟨_,_,t2⟩:=ok.lst h2;simp only[eqD];exact zGK a t2 hu0
  |dK _ _ _=>exact(aa ne).elim
  |dT _ _ _=>exact(aa ne).elim
  |set _ _ _ _=>exact(bz ne).elim
  |scr _=>exact(cA ne).elim
  |fn _=>exact(cT ne).elim
  |non=>cases rv;simp only[eqD];exact zGL a
  |bl b=>cases rv;simp only[eqD];exact zGJ a b
  |int i=>obtain⟨tk,rfl⟩:=rv;simp only[eqD];exact zGk a i tk
  |str i=>obtain⟨tk,rfl⟩:=rv;simp only[eqD];exact zGl a i tk
 |int a=>
  obtain⟨tu,rfl⟩:=ru;cases r2 with
  |tup h2 q2=>cases rv;obtain⟨_,_,t2⟩:=ok.tup h2;simp only[eqD];exact zGM a tu t2 hu0
  |lst h2 mm2 q2=>cases rv;obtain⟨_,_,t2⟩:=ok.lst h2;simp only[eqD];exact zGn a tu t2 hu0
  |dK _ _ _=>exact(aa ne).elim
  |dT _ _ _=>exact(aa ne).elim
  |set _ _ _ _=>exact(bz ne).elim
  |scr _=>exact(cA ne).elim
  |fn _=>exact(cT ne).elim
  |non=>cases rv;simp only[eqD];exact zGo a tu
  |bl b=>cases rv;simp only[eqD];exact zGm a tu b
  |int i=>obtain⟨tk,rfl⟩:=rv;simp only[eqD];exact zEH a tu i tk
  |str i=>obtain⟨tk,rfl⟩:=rv;simp only[eqD];exact zEI a tu i tk
 |str a=>
  obtain⟨tu,rfl⟩:=ru;cases r2 with
  |tup h2 q2=>cases rv;obtain⟨_,_,t2⟩:=ok.tup h2;simp only[eqD];exact zGR a tu t2 hu0
  |lst h2 mm2 q2=>cases rv;obtain⟨_,_,t2⟩:=ok.lst h2;simp only[eqD];exact zGu a tu t2 hu0
  |dK _ _ _=>exact(aa ne).elim
  |dT _ _ _=>exact(aa ne).elim
  |set _ _ _ _=>exact(bz ne).elim
  |scr _=>exact(cA ne).elim
  |fn _=>exact(cT ne).elim
  |non=>cases rv;simp only[eqD];exact zGv a tu
  |bl b=>cases rv;simp only[eqD];exact zGt a tu b
  |int i=>obtain⟨tk,rfl⟩:=rv;simp only[eqD];exact zEJ a tu i tk
  |str i=>obtain⟨tk,rfl⟩:=rv;simp only[eqD];exact zHL a tu i tk
theorem aAs(ok:nZ K H s)(n:Nat)(IH:aJ6 K H s n):aJ7 K H s n:=by
 intro A1 A2 xs ys ds es A us vs q1 q2 w1 w2 hd nd ne hu j h1 h2;have hj1:j<us.length:=by simpa using h1
 have hj2:j<vs.length:=by simpa using h2
 have hx:j<xs.length:=by rw[w1.length];exact hj1
 have hy:j<ys.length:=by rw[w2.length];exact hj2
 have ex:=zAB hx;have ey:=zAB hy;obtain⟨d,ed,rd⟩:=q1.get ex;obtain⟨e,ee,re⟩:=q2.get ey;obtain⟨u,eu,ru⟩:=w1.get ex;obtain⟨v,ev,rv⟩:=w2.get ey;have e1:us.toArray[j]=u:=by
  rw[zDR];exact zAa ((zAB hj1).symm.trans eu)
 have e2:vs.toArray[j]=v:=by
  rw[zDR];exact zAa ((zAB hj2).symm.trans ev)
 rw[e1,e2,ed,ee];exact IH _ _ _ _ _ _ _ _ _ rd re ru rv (zAg (nQ (zAo ed)) hd) (gm (zAo ed) nd) (gm (zAo ee) ne) hu
theorem aJL(ok:nZ K H s):∀n,aJ6 K H s n
 |0=>zN ok 0 λ k h=>absurd h (by simp)
 |n+1=>zN ok (n+1) λ k h=>by
  have h':=zGh h;subst h';exact aAs ok n (aJL ok n)
theorem aCA(ok:nZ K H s):∀{A1 A2:Addr->Prop} {x y:V} {d e:D} (n:Nat) {A:zAe} {u v:Value},Rp K A1 H x d->Rp K A2 H y e->RelV x u->RelV y v->iT d<=n->aU d=true->aU e=true->A.units+n<cLine->zDB A s u v (eqD d e)
 |_,_,_,_,_,_,n,A,u,v,r1,r2,ru,rv,hd,nd,ne,hu=>aJL ok n _ _ _ _ _ _ _ _ _ r1 r2 ru rv hd nd ne hu
theorem zO(ok:nZ K H s):∀{A1 A2:Addr->Prop} {xs ys:List V} {ds es:List D} (n:Nat) {A:zAe} {us vs:List Value},Rps K A1 H xs ds->Rps K A2 H ys es->Vals xs us->Vals ys vs->cg ds<=n->bB ds=true->bB es=true->A.units+n<cLine->
  ∀(j:Nat) (h1:j<us.toArray.size) (h2:j<vs.toArray.size),zDB A s us.toArray[j] vs.toArray[j] (match ds[j]?,es[j]? with|some a,some b=>eqD a b|_,_=>true)
 |_,_,xs,ys,ds,es,n,A,us,vs,q1,q2,w1,w2,hd,nd,ne,hu,j,h1,h2=>aAs ok n (aJL ok n) _ _ _ _ _ _ _ _ _ q1 q2 w1 w2 hd nd ne hu j h1 h2
theorem aEI(ok:nZ K H s)(n:Nat)(r1:Rp K A1 H x d)(r2:Rp K A2 H y e)(ru:RelV x u)(rv:RelV y v)(hd:iT d<=n)(nd:aU d=true)(ne:aU e=true)(hu:A.units+n<cLine):
  SeqAt.RcAt A s u v (eqD d e)/\zJF A s u v (!eqD d e):=by
 have hu0:A.units<cLine:=by lia
 cases r1 with
 |tup h1 q1=>
  rename_i a xs ds;cases ru;obtain⟨its,w1,t1⟩:=ok.tup h1;cases r2 with
  |tup h2 q2=>
   rename_i b ys es;cases rv;obtain⟨its2,w2,t2⟩:=ok.tup h2;simp only[iT]at hd;obtain⟨k,rfl⟩:∃k,n=k+1:=⟨n-1,by lia⟩
   have he:=zO ok (A:=A.in1) k q1 q2 w1 w2 (by lia) (kO nd) (kO ne) (by show A.units+1+k<cLine;lia);have z:=zDZ t1 t2 hu0 he;have z2:=zGB t1 t2 hu0 he;rw[dB (by rw[zAP,<-w1.length,q1.length]) (by rw[zAP,<-w2.length,q2.length])]at z z2;simp only[eqD];exact⟨z,z2⟩
  |lst h2 mm2 q2=>
   cases rv;obtain⟨its2,w2,t2⟩:=ok.lst h2;simp only[eqD];exact⟨zFz t1 t2 hu0,zEv t1 t2 hu0⟩
  |dK _ _ _=>exact(aa ne).elim
  |dT _ _ _=>exact(aa ne).elim
  |set _ _ _ _=>exact(bz ne).elim
  |scr _=>exact(cA ne).elim
  |fn _=>exact(cT ne).elim
  |non=>cases rv;simp only[eqD];exact⟨zGA t1 hu0,zEw t1 hu0⟩
  |bl b=>cases rv;simp only[eqD];exact⟨zFy b t1 hu0,zEu b t1 hu0⟩
  |int i=>obtain⟨tk,rfl⟩:=rv;simp only[eqD];exact⟨zG4 i tk t1 hu0,zFN i tk t1 hu0⟩
  |str i=>obtain⟨tk,rfl⟩:=rv;simp only[eqD];exact⟨zG5 i tk t1 hu0,zFO i tk t1 hu0⟩
 |lst h1 mm1 q1=>
  rename_i a xs ds;cases ru;obtain⟨its,w1,t1⟩:=ok.lst h1;cases r2 with
  |lst h2 mm2 q2=>
   rename_i b ys es;cases rv;obtain⟨its2,w2,t2⟩:=ok.lst h2;simp only[iT]at hd;obtain⟨k,rfl⟩:∃k,n=k+1:=⟨n-1,by lia⟩
   have l1:its.toArray.size=ds.length:=by rw[zAP,<-w1.length,q1.length]
   have l2:its2.toArray.size=es.length:=by rw[zAP,<-w2.length,q2.length]
   have z':=dB (ds:=ds) (es:=es) l1 l2;by_cases hl:its.toArray.size=its2.toArray.size
   ·have he:=zO ok (A:=A.in1) k q1 q2 w1 w2 (by lia) (kW nd) (kW ne) (by show A.units+1+k<cLine;lia)
    have z:=zD5 t1 t2 hl hu0 he;have z2:=zG6 t1 t2 hl hu0 he;rw[<-hl,zD6,beq_self_eq_true,zCp]at z';rw[z']at z z2;simp only[eqD];exact⟨z,z2⟩
   ·rw[beq_eq_false_iff_ne.mpr hl,zDF]at z'
    simp only[eqD];rw[<-z'];exact⟨zC7 t1 t2 (by simpa using hl) hu0,zE9 t1 t2 (by simpa using hl) hu0⟩
  |tup h2 q2=>
   cases rv;obtain⟨its2,w2,t2⟩:=ok.tup h2;simp only[eqD];exact⟨zFw t1 t2 hu0,zEs t1 t2 hu0⟩
  |dK _ _ _=>exact(aa ne).elim
  |dT _ _ _=>exact(aa ne).elim
  |set _ _ _ _=>exact(bz ne).elim
  |scr _=>exact(cA ne).elim
  |fn _=>exact(cT ne).elim
  |non=>cases rv;simp only[eqD];exact⟨zGZ t1 hu0,zFI t1 hu0⟩
  |bl b=>cases rv;simp only[eqD];exact⟨zGY b t1 hu0,zFH b t1 hu0⟩
  |int i=>obtain⟨tk,rfl⟩:=rv;simp only[eqD];exact⟨zHB i tk t1 hu0,zF0 i tk t1 hu0⟩
  |str i=>obtain⟨tk,rfl⟩:=rv;simp only[eqD];exact⟨zHC i tk t1 hu0,zF1 i tk t1 hu0⟩
 |dK _ _ _=>exact(aa nd).elim
 |dT _ _ _=>exact(aa nd).elim
 |set _ _ _ _=>exact(bz nd).elim
 |scr _=>exact(cA nd).elim
 |fn _=>exact(cT nd).elim
 |non=>
  cases ru;cases r2 with
  |tup h2 q2=>cases rv;obtain⟨_,_,t2⟩:=ok.tup h2;simp only[eqD];exact⟨zFx t2 hu0,zEt t2 hu0⟩
  |lst h2 mm2 q2=>cases rv;obtain⟨_,_,t2⟩:=ok.lst h2;simp only[eqD];exact⟨zG1 t2 hu0,zFK t2 hu0⟩
  |dK _ _ _=>exact(aa ne).elim
  |dT _ _ _=>exact(aa ne).elim
  |set _ _ _ _=>exact(bz ne).elim
  |scr _=>exact(cA ne).elim
  |fn _=>exact(cT ne).elim
  |non=>cases rv;simp only[eqD];exact⟨zG2,zFL⟩
  |bl b=>cases rv;simp only[eqD];exact⟨zG0 b,zFJ b⟩
  |int i=>obtain⟨tk,rfl⟩:=rv;simp only[eqD];exact⟨zHD i tk,zF2 i tk⟩
  |str i=>obtain⟨tk,rfl⟩:=rv;simp only[eqD];exact⟨zHE i tk,zF3 i tk⟩
 |bl a=>
  cases ru;cases r2 with
  |tup h2 q2=>cases rv;obtain⟨_,_,t2⟩:=ok.tup h2;simp only[eqD];exact⟨zFv a t2 hu0,zEr a t2 hu0⟩
  |lst h2 mm2 q2=>cases rv;obtain⟨_,_,t2⟩:=ok.lst h2;simp only[eqD];exact⟨zGV a t2 hu0,zFE a t2 hu0⟩
  |dK _ _ _=>exact(aa ne).elim
  |dT _ _ _=>exact(aa ne).elim
  |set _ _ _ _=>exact(bz ne).elim
  |scr _=>exact(cA ne).elim
  |fn _=>exact(cT ne).elim
  |non=>cases rv;simp only[eqD];exact⟨zGW a,zFF a⟩
  |bl b=>cases rv;simp only[eqD];exact⟨zGU a b,zFD a b⟩
  |int i=>obtain⟨tk,rfl⟩:=rv;simp only[eqD];exact⟨zGw a i tk,zFV a i tk⟩
  |str i=>obtain⟨tk,rfl⟩:=rv;simp only[eqD];exact⟨zGx a i tk,zFW a i tk⟩
 |int a=>
  obtain⟨tu,rfl⟩:=ru;cases r2 with
  |tup h2 q2=>cases rv;obtain⟨_,_,t2⟩:=ok.tup h2;simp only[eqD];exact⟨zGX a tu t2 hu0,zFG a tu t2 hu0⟩
  |lst h2 mm2 q2=>cases rv;obtain⟨_,_,t2⟩:=ok.lst h2;simp only[eqD];exact⟨zGz a tu t2 hu0,zFY a tu t2 hu0⟩
  |dK _ _ _=>exact(aa ne).elim
  |dT _ _ _=>exact(aa ne).elim
  |set _ _ _ _=>exact(bz ne).elim
  |scr _=>exact(cA ne).elim
  |fn _=>exact(cT ne).elim
  |non=>cases rv;simp only[eqD];exact⟨zHA a tu,zFZ a tu⟩
  |bl b=>cases rv;simp only[eqD];exact⟨zGy a tu b,zFX a tu b⟩
  |int i=>obtain⟨tk,rfl⟩:=rv;simp only[eqD];exact⟨zHM a tu i tk,zFe a tu i tk⟩
  |str i=>obtain⟨tk,rfl⟩:=rv;simp only[eqD];exact⟨zHN a tu i tk,zFf a tu i tk⟩
 |str a=>
  obtain⟨tu,rfl⟩:=ru;cases r2 with
  |tup h2 q2=>cases rv;obtain⟨_,_,t2⟩:=ok.tup h2;simp only[eqD];exact⟨zG3 a tu t2 hu0,zFM a tu t2 hu0⟩
  |lst h2 mm2 q2=>cases rv;obtain⟨_,_,t2⟩:=ok.lst h2;simp only[eqD];exact⟨zHG a tu t2 hu0,zF5 a tu t2 hu0⟩
  |dK _ _ _=>exact(aa ne).elim
  |dT _ _ _=>exact(aa ne).elim
  |set _ _ _ _=>exact(bz ne).elim
  |scr _=>exact(cA ne).elim
  |fn _=>exact(cT ne).elim
  |non=>cases rv;simp only[eqD];exact⟨zHH a tu,zF6 a tu⟩
  |bl b=>cases rv;simp only[eqD];exact⟨zHF a tu b,zF4 a tu b⟩
  |int i=>obtain⟨tk,rfl⟩:=rv;simp only[eqD];exact⟨zHO a tu i tk,zFg a tu i tk⟩
  |str i=>obtain⟨tk,rfl⟩:=rv;simp only[eqD];exact⟨zHP a tu i tk,zFh a tu i tk⟩
end
section
variable{K:zAA}{H:Hp}{s:zAF}
open Classical in
def ji(K:zAA)(H:Hp)(d:D)(u:Value):Bool:=if h:∃e,aU e=true/\∃y,RelV y u/\Rp K (λ _=>True) H y e then eqD (choose h) d else false
theorem o7(ok:nZ K H s)(r:RelV y u)(h:Rp K A H y e)(ne:aU e=true):ji K H d u=eqD e d:=by
 have hx:∃e,aU e=true/\∃y,RelV y u/\Rp K (λ _=>True) H y e:=⟨e,ne,y,r,h.wk λ _ _ _ _=>trivial⟩
 unfold ji;rw[dif_pos hx];obtain⟨n',y',r',h'⟩:=zGD hx;have e1:=RelV.inj r r';subst e1;rw[Rp.inj ok h' h n' ne]
def inD(d:D)(es:List D):Bool:=es.any λ e=>eqD e d
theorem nY(ok:nZ K H s):∀{A:Addr->Prop} {xs:List V} {es:List D} {us:List Value},Rps K A H xs es->Vals xs us->bB es=true->us.any (ji K H d)=inD d es:=by
 intro A xs es us h v n;induction v generalizing es with
 |nil=>cases h;rfl
 |cons k t ih=>
  cases h with
  |cons h r=>
   simp only[bB,zAK]at n;unfold inD;rw[zC0,zC0,o7 ok k h n.1,ih r n.2];rfl
theorem mQ(ok:nZ K H s)(rx:Rp K A0 H x d)(rv:RelV x v)(hu:A.units+n<cLine)(nd:aU d=true):∀{A1:Addr->Prop} {xs:List V} {es:List D} {us:List Value},Rps K A1 H xs es->Vals xs us->cg es<=n->bB es=true->∀u∈us,zDB A s u v (ji K H d u):=by
 intro A1 xs es us h v' hd ne u hm;induction v' generalizing es with
 |nil=>cases hm
 |cons k t ih=>
  cases h with
  |cons h r=>
   simp only[cg]at hd;simp only[bB,zAK]at ne;rcases zAN.mp hm with z|z
   ·subst z
    rw[o7 ok k h ne.1];exact aCA ok n h rx k rv (zAg (zEO _ _) hd) ne.1 nd hu
   ·exact ih r (zAg (zDw _ _) hd) ne.2 z
end
section
variable{X:Cx}
def aHf(K:zAA)(neg:Bool):R2:=λ x y H Q=>∃A B d e,Rp K A H x d/\Rp K B H y e/\iT d<=60/\aU d=true/\aU e=true/\Q (.bl (if neg then !eqD d e else eqD d e)) H
theorem aNC(hu:X.A.units+64<cLine):OpR X (zAr .Eq) (aHf X.K false):=by
 intro pins s σ H x y v u Q I rx ry h;obtain⟨A,B,d,e,r1,r2,hd,nd,ne,q⟩:=h;exact(aEI (Inv.seqOk I) 60 r1 r2 rx ry hd nd ne (by lia)).1 X.prog X.w X.xe _ ⟨.bl (eqD d e),H,I,rfl,q⟩
theorem aMu(hu:X.A.units+64<cLine):OpR X (zAr .NotEq) (aHf X.K true):=by
 intro pins s σ H x y v u Q I rx ry h;obtain⟨A,B,d,e,r1,r2,hd,nd,ne,q⟩:=h;exact(aEI (Inv.seqOk I) 60 r1 r2 rx ry hd nd ne (by lia)).2 X.prog X.w X.xe _ ⟨.bl (!eqD d e),H,I,rfl,q⟩
def aGJ(K:zAA)(neg:Bool):R2:=λ x y H Q=>∃A B d a es,Rp K A H x d/\y= .ref a/\(Rp K B H (.ref a) (.lst es)\/Rp K B H (.ref a) (.tup es))/\cg es<=60/\aU d=true/\bB es=true/\Q (.bl (if neg then !inD d es else inD d es)) H
theorem aNB(hu:X.A.units+64<cLine):OpR X (zAr .In) (aGJ X.K false):=by
 intro pins s σ H x y v u Q I rx ry h;obtain⟨A,B,d,a,es,rd,rfl,ra,hd,nd,ne,q⟩:=h;cases ry;have ok:=Inv.seqOk I;have hu1:X.A.in1.units+60<cLine:=by show X.A.units+1+60<cLine;lia
 rcases ra with ra|ra
 ·cases ra with
  |lst ha _ r=>
   obtain⟨its,rv,tl⟩:=ok.lst ha;refine SeqAt.in_listAt (ji X.K H d) tl (λ w hw=>mQ ok rd rx hu1 nd r rv hd ne w (by simpa using hw)) ⟨.bl _,H,I,rfl,?_⟩;rw[show its.toArray.any (ji X.K H d)=its.any (ji X.K H d)by simp,nY ok r rv ne];exact q
 ·cases ra with
  |tup ha r=>
   obtain⟨its,rv,tl⟩:=ok.tup ha;refine SeqAt.in_tupleAt (ji X.K H d) tl (λ w hw=>mQ ok rd rx hu1 nd r rv hd ne w (by simpa using hw)) ⟨.bl _,H,I,rfl,?_⟩;rw[show its.toArray.any (ji X.K H d)=its.any (ji X.K H d)by simp,nY ok r rv ne];exact q
theorem aGU(hu:X.A.units+64<cLine):OpR X (zAr .NotIn) (aGJ X.K true):=by
 intro pins s σ H x y v u Q I rx ry h;obtain⟨A,B,d,a,es,rd,rfl,ra,hd,nd,ne,q⟩:=h;cases ry;have ok:=Inv.seqOk I;have hu1:X.A.in1.units+60<cLine:=by show X.A.units+1+60<cLine;lia
 rcases ra with ra|ra
 ·cases ra with
  |lst ha _ r=>
   obtain⟨its,rv,tl⟩:=ok.lst ha;refine SeqAt.notIn_listAt (ji X.K H d) tl (λ w hw=>mQ ok rd rx hu1 nd r rv hd ne w (by simpa using hw)) ⟨.bl _,H,I,rfl,?_⟩;rw[show its.toArray.any (ji X.K H d)=its.any (ji X.K H d)by simp,nY ok r rv ne];exact q
 ·cases ra with
  |tup ha r=>
   obtain⟨its,rv,tl⟩:=ok.tup ha;refine SeqAt.notIn_tupleAt (ji X.K H d) tl (λ w hw=>mQ ok rd rx hu1 nd r rv hd ne w (by simpa using hw)) ⟨.bl _,H,I,rfl,?_⟩;rw[show its.toArray.any (ji X.K H d)=its.any (ji X.K H d)by simp,nY ok r rv ne];exact q
end
section
variable{K:zAA}
def eqR(neg:Bool):D->D->Rs D:=λ d e=>if decide (iT d<=60)&&aU d&&aU e then .ok (.bl (if neg then !eqD d e else eqD d e))else .st
def inR(neg:Bool):D->D->Rs D:=λ d e=>match e with
 | .lst es=>if decide (cg es<=60)&&aU d&&bB es then .ok (.bl (if neg then !inD d es else inD d es))else .st
 | .tup es=>if decide (cg es<=60)&&aU d&&bB es then .ok (.bl (if neg then !inD d es else inD d es))else .st
 |_=>.st
theorem os_eq:OpS K (aHf K n) (eqR n):=by
 intro A x y d e H Q z rx ry ez q;unfold eqR at ez;split at ez
 ·rename_i h
  simp only[zAK,decide_eq_true_eq]at h;cases ez;exact⟨A,A,d,e,rx,ry,h.1.1,h.1.2,h.2,q _ H (aY.refl H) (.bl _)⟩
 ·cases ez
theorem aIM:OpS K (aGJ K n) (inR n):=by
 intro A x y d e H Q z rx ry ez q;unfold inR at ez;split at ez
 ·split at ez
  ·rename_i h
   simp only[zAK,decide_eq_true_eq]at h;cases ez;cases ry with
   |lst ha mm r=>exact⟨A,A,d,_,_,rx,rfl,.inl (.lst ha mm r),h.1.1,h.1.2,h.2,q _ H (aY.refl H) (.bl _)⟩
  ·cases ez
 ·split at ez
  ·rename_i h
   simp only[zAK,decide_eq_true_eq]at h;cases ez;cases ry with
   |tup ha r=>exact⟨A,A,d,_,_,rx,rfl,.inr (.tup ha r),h.1.1,h.1.2,h.2,q _ H (aY.refl H) (.bl _)⟩
  ·cases ez
 ·cases ez
theorem aIu:∀x y z,eqR n x y= .ok z->imm z=true:=by
 intro x y z e;unfold eqR at e;split at e
 ·cases e;rfl
 ·cases e
end
section
variable{K:zAA}
def boolsOf:List D->Option (List Bool)
 |[]=>some []
 | .bl i::r=>(boolsOf r).map (i::·)
 |_=>none
theorem u6:∀{l:List D} {ns:List Bool},boolsOf l=some ns->l=ns.map .bl
 |[],ns,h=>by cases h;rfl
 | .bl i::r,ns,h=>by
  simp only[boolsOf,zBh]at h;obtain⟨ms,h1,rfl⟩:=h;rw[u6 h1];rfl
 | .non::_,_,h=>by cases h
 | .int _::_,_,h=>by cases h
 | .str _::_,_,h=>by cases h
 | .tup _::_,_,h=>by cases h
 | .lst _::_,_,h=>by cases h
 | .dct _ _::_,_,h=>by cases h
 | .set _::_,_,h=>by cases h
 | .scr _::_,_,h=>by cases h
theorem wQ:∀ns:List Bool,boolsOf (ns.map .bl)=some ns
 |[]=>rfl
 |n::ns=>by simp only[zAG,boolsOf,wQ ns,zCm]
theorem aBB{X:Cx}:∀{bs:List Bool} {us:List Value},Vals (bs.map V.bl) us->LSm.BoolsAre us bs
 |[],_,.nil=>.nil
 |b::bs,_,.cons r t=>by
  have e:_=zEK b:=r;subst e;exact .cons b (aBB (X:=X) t)
theorem Rps.bools_of:∀{xs:List V} {bs:List Bool},Rps K A H xs (bs.map D.bl)->xs=bs.map V.bl
 |_,[],.nil=>rfl
 |_,n::ns,.cons h r=>by
  cases h;rw[zAG,Rps.bools_of r]
def ww(f:List Bool->Bool):List D->Rs D
 |[.lst l]=>match boolsOf l with
  |some bs=>.ok (.bl (f bs))
  |none=>.st
 |_=>.st
theorem aJX{X:Cx}(hc:X.calm=true):dD X (.builtin "all") (λ xs H Q=>∃(p:Addr) (bs:List Bool),xs=[.ref p]/\H p=some (.lst (bs.map V.bl))/\Q (.bl (bs.all id)) H):=by
 intro pins s σ H xs us Q I r h;obtain⟨p,bs,rfl,hp,q⟩:=h;obtain⟨u,rfl,ru⟩:=vals1 r;cases ru;obtain⟨its,rv,pl,hz⟩:=I.list (SqL.of hp);have hb:=aBB (X:=X) rv;have hl:=pl.isList;have hlt:p<s.heap.objs.size:=by obtain⟨_,e,_⟩:=hl;exact zAQ e
 refine call_all_walk (zED hl ?_);refine⟨s.heap.objs.size,[s.heap.objs.size,p],[s.heap.objs.size],its.toArray.size,_,_,λ i=>(bs[i]?).getD true,rfl,zID (A:=X.A.in1) (I.ok.hd hc) _ p (zA0 hlt) its.toArray,
  ⟨⟨_,zAV _ rfl,rfl,rfl⟩,hl.push _⟩,λ i v s' Q' E' hP hQ=>?_,λ h' tk hk=>?_⟩
 ·obtain⟨b,e,rfl⟩:=hb.get i v (by simpa using hP)
  simp only[e,Option.getD_some]at hQ;exact zBm hQ
 ·have e:((zAp its.toArray.size).all λ i=>(bs[i]?).getD true)=bs.all id:=by
   rw[zAP,hb.length];exact LSm.range_all bs
  rw[e];exact⟨.bl _,H,I.kept (LSm.kept_iter hk),rfl,q⟩
theorem aN8:wV K (λ xs H Q=>∃(p:Addr) (bs:List Bool),xs=[.ref p]/\H p=some (.lst (bs.map V.bl))/\Q (.bl (f bs)) H) (ww f):=by
 intro A xs ds H Q z r ez q;unfold ww at ez;split at ez
 ·split at ez
  ·rename_i l bs e
   cases ez
   have:=u6 e
   subst this;cases r with
   |cons h r=>
    cases r;cases h with
    |lst h m r=>
     have:=r.bools_of
     subst this;exact⟨_,bs,rfl,h,q _ H (aY.refl H) (.bl _)⟩
  ·cases ez
 ·cases ez
theorem aKu:∀x z,ww f x= .ok z->imm z=true:=by
 intro x z e;unfold ww at e;split at e
 ·split at e
  ·cases e;rfl
  ·cases e
 ·cases e
def mmD(f:Int->Int->Int):List D->Rs D
 |[.int i,.int j]=>.ok (.int (f i j))
 |_=>.st
theorem aLt:wV K (λ xs H Q=>∃i j,xs=[.int i,.int j]/\Q (.int (f i j)) H) (mmD f):=by
 intro A xs ds H Q z r ez q;unfold mmD at ez;split at ez
 ·cases ez
  cases r with
  |cons h r=>
   cases h;cases r with
   |cons h r=>
    cases h;cases r;exact⟨_,_,rfl,q _ H (aY.refl H) (.int _)⟩
 ·cases ez
theorem aIr:∀x z,mmD f x= .ok z->imm z=true:=by
 intro x z e;unfold mmD at e;split at e
 ·cases e;rfl
 ·cases e
def cu:List D->Rs D
 |[.lst l]=>.ok (.tup l)
 |[.tup l]=>.ok (.tup l)
 |_=>.st
theorem aJQ:wV K (λ xs H Q=>∃p ys,xs=[.ref p]/\((SqL K H p ys/\∀l,H l=none->Q (.ref l) (upd H l (.tup ys)))\/(SqT K H p ys/\Q (.ref p) H))) cu:=by
 intro A xs ds H Q z r ez q;unfold cu at ez;split at ez
 ·cases ez
  cases r with
  |cons h r=>
   cases r;cases h with
   |lst h m r=>exact⟨_,_,rfl,.inl ⟨SqL.of h,λ l hl=>q _ _ (bZ hl _) (.tup (SqT.of bH) ((r.wk λ _ _ _ z=>.inr z.1).up (bZ hl _)))⟩⟩
 ·cases ez
  cases r with
  |cons h r=>
   cases r;cases h with
   |tup h r=>exact⟨_,_,rfl,.inr ⟨h,q _ H (aY.refl H) (.tup h (r.wk λ _ _ _ z=>.inr z))⟩⟩
 ·cases ez
end
section
variable{C:Ct}{pos p2:Pos}{m m1 m2:Mode}{a e:Expr}{fa fe:En->Rs D}{lo hi:Option Expr}
def aLO(fd:D->D->Rs D)(i:Nat)(fe:En->Rs D):En->Ou:=λ ρ=>(op2 fd (jA i) fe ρ).bo λ d=>.nx (ρ.set i (.sh d))
theorem aMJ(he:SE C m e fe)(ho:∀j,PIp (C.X j) op (ipI f))(hN:∀j,(C.X j).N[i]? =some x:=by intro _;rfl)(hx:∀j,Loc (C.X j).env.scope x:=by intro _;first|exact zCi rfl|exact zBw rfl)(hf:∀j,(C.X j).fn x=true\/(C.X j).env.scope.names.lookup x=some .local:=by intro _;first|exact .inl rfl|exact .inr rfl)(nd:∀j,(C.X j).N.Nodup:=by intro _;assumption):SS C (.AugAssign (.Name x pos') op e pos) (aLO (i2 (λ _ _=>true) λ a b=>.int (f a b)) i fe):=by
 obtain⟨t,h1,h2⟩:=he;refine⟨_,λ j=>aM3 (nd j) (hN j) (hx j) (h1 j) (ho j) (hf j),λ τ σ H ρ lab De R W=>?_⟩;have w0:=(WS.bo W).bd;refine aFF C.K C.G i τ σ H ρ lab (λ v H'=>t σ H' λ y H1=>ipI f v y H1 λ z H2=>De.nx (σ.set i (some z)) H2) R (w0.imp λ d _ w v H' s r=>h2 τ σ H' ρ lab _ (R.up s) (w.bd.imp λ e _ w y H1 s1 r1=>?_));obtain⟨z,ez,w⟩:=w.okD;unfold i2 at ez;split at ez
 ·cases ez
  cases r;cases r1;exact⟨_,_,rfl,rfl,w _ _ _ (((R.up s).up s1).put (s:=.sh (.int _)) (Rp.int _))⟩
 ·cases ez
end
section
variable{C:Ct}{pos p:Pos}{m m1 m2 m3:Mode}{a b c e:Expr}{fa fb fc fe:En->Rs D}{ga:En->Rs (List D)}{es:List Expr}
theorem Ct.u0(C:Ct)(i:C.ι):(C.X i).A.units<cLine:=(C.room i).units0
theorem Ct.u64(C:Ct)(i:C.ι):(C.X i).A.units+64<cLine:=(C.room i).units
theorem Ct.ltR(C:Ct)(i:C.ι):OpR (C.X i) (zAr .Lt) (λ x y H Q=>rI0 (λ i j=>.bl (decide (i<j))) x y H Q\/aJz C.K x y H Q):=by have h:=aMx (X:=C.X i) (C.u0 i);rw[C.hK i]at h;exact h
theorem Ct.leR(C:Ct)(i:C.ι):OpR (C.X i) (zAr .LtE) (λ x y H Q=>rI0 (λ i j=>.bl (decide (i<=j))) x y H Q\/aKA C.K x y H Q):=by have h:=aMz (X:=C.X i) (C.u0 i);rw[C.hK i]at h;exact h
theorem Ct.eqRl(C:Ct)(i:C.ι):OpR (C.X i) (zAr .Eq) (aHf C.K false):=by have h:=aNC (X:=C.X i) (C.u64 i);rw[C.hK i]at h;exact h
theorem Ct.neRl(C:Ct)(i:C.ι):OpR (C.X i) (zAr .NotEq) (aHf C.K true):=by have h:=aMu (X:=C.X i) (C.u64 i);rw[C.hK i]at h;exact h
theorem Ct.inRl(C:Ct)(i:C.ι):OpR (C.X i) (zAr .In) (aGJ C.K false):=by have h:=aNB (X:=C.X i) (C.u64 i);rw[C.hK i]at h;exact h
theorem Ct.ninRl(C:Ct)(i:C.ι):OpR (C.X i) (zAr .NotIn) (aGJ C.K true):=by have h:=aGU (X:=C.X i) (C.u64 i);rw[C.hK i]at h;exact h
theorem Ct.aGs(C:Ct)(i:C.ι):OpR (C.X i) (zCK .Add) (aHh C.K):=by have h:=aKY (X:=C.X i);rw[C.hK i]at h;exact h
def zm:D->D->Rs D:=i2 (λ _ _=>true) λ i j=>.int (i-j)
def vy:D->D->Rs D:=i2 (λ _ j=>decide (0<j)&&decide (j<1073741824)) λ i j=>.int (i / j)
def vK:D->D->Rs D:=i2 (λ _ j=>decide (0<j)) λ i j=>.int (i%j)
def aM4:D->D->Rs D:=i2 (λ i j=>decide (0<=j)&&decide (j<=1000000)&&decide (i.natAbs<2^64)) λ i j=>.int (i^j.toNat)
theorem dH(ha:SE C m1 a fa)(hb:SE C m2 b fb):SE C (jn m1 m2) (.BinOp a .Add b pos) (op2 bh fa fb):=aA2 C.aGs aMp ha hb
theorem uo(ha:SE C m1 a fa)(hb:SE C m2 b fb):SE C (jn m1 m2) (.BinOp a .Mult b pos) (op2 nG fa fb):=aA2 (λ _=>aKU) aMn ha hb
theorem aBP(ha:SE C m1 a fa)(hb:SE C m2 b fb):SE C (some []) (.BinOp a .Sub b pos) (op2 zm fa fb):=ie (aA2 (λ _=>aMr) aKR ha hb) λ _ _ h=>mL aBx h
theorem aFK(ha:SE C m1 a fa)(hb:SE C m2 b fb):SE C (some []) (.BinOp a .FloorDiv b pos) (op2 vy fa fb):=ie (aA2 (λ _=>aKV) (aEU λ i j h=>by simpa[aOm]using h) ha hb) λ _ _ h=>mL aBx h
theorem uq(ha:SE C m1 a fa)(hb:SE C m2 b fb):SE C (some []) (.BinOp a .Mod b pos) (op2 vK fa fb):=ie (aA2 (λ _=>aMw) (aEU λ i j h=>by simpa using h) ha hb) λ _ _ h=>mL aBx h
theorem aMQ(ha:SE C m1 a fa)(hb:SE C m2 b fb):SE C (some []) (.BinOp a .Pow b pos) (op2 aM4 fa fb):=ie (aA2 (λ _=>aMt) (aEU λ i j h=>by simp only[zAK,decide_eq_true_eq]at h;exact⟨h.1.1,h.1.2,h.2⟩) ha hb) λ _ _ h=>mL aBx h
theorem xx(ha:SE C m a fa):SE C (some []) (.UnaryOp .USub a pos) (op1 sW fa):=ie (aNy (λ _=>aLx) aLw ha) λ _ _ h=>aKq aKr h
theorem aOA(ha:SE C m1 a fa)(hb:SE C m2 b fb):SE C (some []) (.Compare a [.Lt] [b] pos) (op2 ltD fa fb):=ie (aBR C.ltR aIK ha hb) λ _ _ h=>mL aIs h
theorem aOC(ha:SE C m1 a fa)(hb:SE C m2 b fb):SE C (some []) (.Compare a [.Eq] [b] pos) (op2 (eqR false) fa fb):=ie (aBR C.eqRl os_eq ha hb) λ _ _ h=>mL aIu h
theorem aNz(ha:SE C m1 a fa)(hb:SE C m2 b fb):SE C (some []) (.Compare a [.NotEq] [b] pos) (op2 (eqR true) fa fb):=ie (aBR C.neRl os_eq ha hb) λ _ _ h=>mL aIu h
theorem aFD(ha:SE C m1 a fa)(hb:SE C m2 b fb):ST C (.Compare a [.Lt] [b] pos) (tsb (op2 ltD fa fb)):=nu C.ltR aIK ha hb
theorem aNu(ha:SE C m1 a fa)(hb:SE C m2 b fb):ST C (.Compare a [.Gt] [b] pos) (tsb (op2 gtD fa fb)):=nu (λ _=>aOR) aBa ha hb
theorem aNv(ha:SE C m1 a fa)(hb:SE C m2 b fb):ST C (.Compare a [.GtE] [b] pos) (tsb (op2 geD fa fb)):=nu (λ _=>aOS) aBa ha hb
theorem v7(ha:SE C m1 a fa)(hb:SE C m2 b fb):ST C (.Compare a [.Eq] [b] pos) (tsb (op2 (eqR false) fa fb)):=nu C.eqRl os_eq ha hb
theorem my(ha:SE C m1 a fa)(hb:SE C m2 b fb):ST C (.Compare a [.NotEq] [b] pos) (tsb (op2 (eqR true) fa fb)):=nu C.neRl os_eq ha hb
theorem aHH(ha:SE C m1 a fa)(hb:SE C m2 b fb)(hm:zBY .In b=false:=by with_unfolding_all rfl):ST C (.Compare a [.In] [b] pos) (tsb (op2 (inR false) fa fb)):=nu C.inRl aIM ha hb hm
theorem pP(ha:SE C m1 a fa)(hb:SE C m2 b fb)(hm:zBY .NotIn b=false:=by with_unfolding_all rfl):ST C (.Compare a [.NotIn] [b] pos) (tsb (op2 (inR true) fa fb)):=nu C.ninRl aIM ha hb hm
theorem aJt(ha:SE C m1 a fa)(hb:SE C m2 b fb)(hc:SE C m3 c fc)(hm:zIj [.LtE,.LtE] [b,c]=false:=by with_unfolding_all rfl):SE C (some []) (.Compare a [.LtE,.LtE] [b,c] pos) (chD leD leD fa fb fc):=aC6 C.leR aIL C.leR aIL aNZ ha hb hc hm
theorem aJs(ha:SE C m1 a fa)(hb:SE C m2 b fb)(hc:SE C m3 c fc)(hm:zIj [.LtE,.Lt] [b,c]=false:=by with_unfolding_all rfl):SE C (some []) (.Compare a [.LtE,.Lt] [b,c] pos) (chD leD ltD fa fb fc):=aC6 C.leR aIL C.ltR aIK aIs ha hb hc hm
theorem aO(ha:SE C m1 a fa)(hb:SE C m2 b fb)(hp:xT b:=by exact λ _ _=>rfl):SE C m1 (.Subscript a b pos) (op2 ixD fa fb):=by
 obtain⟨t,h1,h2⟩:=ha;obtain⟨u,k1,k2⟩:=hb;refine⟨tOp (rIx C.K) t u,λ i=>by rw[<-C.hK i];exact aHz aNV (h1 i) (k1 i) hp,λ τ σ H ρ lab Q R W=>?_⟩;refine h2 τ σ H ρ lab _ R (W.bd.imp λ d _ w x H1 s1 r1=>?_);refine k2 τ σ H1 ρ lab _ (R.up s1) (w.bd.imp λ e _ w y H2 s2 r2=>?_);obtain⟨z,ez,w⟩:=w.okD;have hi:imm e=true:=by
  unfold ixD at ez;split at ez<;>first|rfl|cases ez
 refine aOO (fpM m1 lab H) x y d e H2 Q z (r1.up s2) (r2.imm hi) ez λ v H' s r=>w v H' ((s1.trans s2).trans s) (r.wk λ p o _ q=>?_)
 rcases q with q|q
 ·exact .inl ((s1.trans s2).free q)
 ·exact q
theorem dG(hm:C.mg "len"=none)(ha:SA C m [a] ga)(he:∀i,zAZ [a] (C.X i).env=[(false,eval a (C.X i).env)]:=by intro _;rfl)(hg:∀i,Gl (C.X i) "len":=by intro _;rfl):SE C (some []) (.Call (.Name "len" p) [a] [] pos) (opA bu ga):=
 ie (pR (λ i=>by have h:=u5 (X:=C.X i);rw[C.hK i]at h;exact h) aJR hg hm zIq ha (by decide) (by decide) he) λ _ _ h=>uI aFi h
theorem aHY(hm:C.mg "all"=none)(ha:SA C m [a] ga)(he:∀i,zAZ [a] (C.X i).env=[(false,eval a (C.X i).env)]:=by intro _;rfl)(hg:∀i,Gl (C.X i) "all":=by intro _;rfl)(hv:zAv "all"=some (.builtin "all"):=by decide+kernel):SE C (some []) (.Call (.Name "all" p) [a] [] pos) (opA (ww λ bs=>bs.all id) ga):=
 ie (pR (λ i=>aJX (C.calm i)) aN8 hg hm hv ha (by decide) (by decide) he) λ _ _ h=>uI aKu h
theorem aFJ(hm:C.mg "min"=none)(ha:SA C m [a,b] ga)(he:∀i,zAZ [a,b] (C.X i).env=(false,eval a (C.X i).env)::zAZ [b] (C.X i).env:=by intro _;rfl)(hpl:∀i,(zC1 pos (zAZ [b] (C.X i).env)).any (·.1)=false:=by intro _;rfl)(hg:∀i,Gl (C.X i) "min":=by intro _;rfl)(hv:zAv "min"=some (.builtin "min"):=by decide+kernel):SE C (some []) (.Call (.Name "min" p) [a,b] [] pos) (opA (mmD λ i j=>if j<i then j else i) ga):=
 ie (pR (λ i=>aGn (C.calm i)) aLt hg hm hv ha (by decide) (by decide) he hpl) λ _ _ h=>uI aIr h
theorem aJq(hm:C.mg "max"=none)(ha:SA C m [a,b] ga)(he:∀i,zAZ [a,b] (C.X i).env=(false,eval a (C.X i).env)::zAZ [b] (C.X i).env:=by intro _;rfl)(hpl:∀i,(zC1 pos (zAZ [b] (C.X i).env)).any (·.1)=false:=by intro _;rfl)(hg:∀i,Gl (C.X i) "max":=by intro _;rfl)(hv:zAv "max"=some (.builtin "max"):=by decide+kernel):SE C (some []) (.Call (.Name "max" p) [a,b] [] pos) (opA (mmD λ i j=>if j>i then j else i) ga):=
 ie (pR (λ i=>aGo (C.calm i)) aLt hg hm hv ha (by decide) (by decide) he hpl) λ _ _ h=>uI aIr h
theorem iZ(hm:C.mg "tuple"=none)(ha:SA C m [a] ga)(he:∀i,zAZ [a] (C.X i).env=[(false,eval a (C.X i).env)]:=by intro _;rfl)(hg:∀i,Gl (C.X i) "tuple":=by intro _;rfl)(hv:zAv "tuple"=some (.type "tuple"):=by decide+kernel):SE C m (.Call (.Name "tuple" p) [a] [] pos) (opA cu ga):=
 aHX (λ i=>by have h:=aAP (X:=C.X i);rw[C.hK i]at h;exact h) aJQ hg hm hv ha (by decide) (by decide) he
theorem aMT{K:zAA}{a:Addr}(hO:Only H)(h:SqL K H a (ns.map V.int)):rT K H a ns:=by
 rcases h with (h|⟨o,h⟩)|h
 ·rcases hO a with z|⟨o,xs,z⟩
  ·rw[h]at z;cases z
  ·rw[h]at z;cases z
 ·exact .inl ⟨o,h⟩
 ·exact .inr h
end
section
variable{C:Ct}{pos apos cpos p:Pos}{e tg:Expr}{fe:En->Rs D}{fg:D->En->Rs En}{i:Nat}{x:Str}{m:Mode}{ks:List Nat}
end
section
variable{K:zAA}
end
section
variable{C:Ct}{pos p:Pos}{a:Expr}{ga:En->Rs (List D)}{m:Mode}
end
section
variable{C:Ct}{pos:Pos}{a b:Expr}{fa fb:En->Rs D}{m1 m2:Mode}
end
abbrev ctL(P:zA2)(w:World)(K:zAA)(mg:Str->Option Value)(base:Heap)(N:List Str)(q:Str)(sc:Scope)(cl:List (Str×Addr))(f:Addr)(cdv:Value)(A:zAe)(outer:List Env)(s:zAF)(H:Hp)(E:XK)(k:Nat)(hr:gD k (A.deeper (zCb q sc s.heap.objs.size f cdv cl))):Ct where
 ι:=Unit
 X:=λ _=>cxL P w K mg base N q sc cl f cdv A outer s H E
 prog:=P
 w:=w
 K:=K
 mg:=mg
 base:=base
 k:=k
 G:=⟨H,E,bF mg⟩
 cx:=λ _=>⟨rfl,rfl,rfl,rfl,rfl⟩
 calm:=λ _=>rfl
 room:=λ _=>hr
 own:=λ _=>fJ.own fJ.ofL
 pass:=λ _=>fJ.pass fJ.ofL
 dOk:=true
 dcx:=λ _ _=>fJ.ofL
def shS:Slot->Slot
 | .no=>.no
 | .sh d=>.sh d
 | .nw d=>.sh d
 | .ow d=>.sh d
 | .oz d=>.sh d
 | .o2 l=>.sh (.lst (l.map .lst))
theorem gJ.shut{K:zAA}{H:Hp}{lab:Lab}{i:Nat}{v:V}{x:Slot}(h:gJ K H lab i v x):gJ K H (λ _=>(0,0)) i v (shS x):=by
 cases x with
 |no=>exact trivial
 |sh d=>exact Rp.wk (λ _ _ _ _=>zA9 _) h
 |nw d=>exact Rp.wk (λ _ _ _ _=>zA9 _) h
 |ow d=>exact Rp.wk (λ _ _ _ _=>zA9 _) h.1
 |oz d=>
  obtain⟨a,xs,ds,rfl,rfl,e3,e4,e5⟩:=h;exact .lst e3 (zA9 _) (Rps.wk (λ p o e z=>⟨zA9 _,λ ep=>by
   have z':(lab p).1<=1:=z;rw[ep,e4]at z';omega⟩) e5)
 |o2 l=>exact Rp.wk (λ _ _ _ _=>zA9 _) (aFZ h)
theorem RR.shut{K:zAA}{G:Gx}{τ:List (V×D)}{ρ:En}{σ:L2.St}{H:Hp}{lab:Lab}{E:XK}{cl:Str->Addr}(R:RR K G τ ρ σ H lab):RR K ⟨H,E,cl⟩ [] (ρ.map shS) σ H (λ _=>(0,0)):=by
 refine⟨by rw[zAE];exact R.len,λ i s e=>?_,aY.refl H,λ p hp=>absurd rfl hp,λ q hq=>by cases hq⟩;rw[zAT]at e;cases hr:ρ[i]? with
 |none=>rw[hr]at e;cases e
 |some x=>
  rw[hr]at e;cases e;rcases R.sl i x hr with z|⟨v,e1,e2⟩
  ·subst z;exact .inl rfl
  ·exact .inr ⟨v,e1,e2.shut⟩
def aNw(cl:Str->Addr)(H1:Hp)(r:Rs D):Sp:=λ vs H Q E=>vs=[]/\aY H1 H/\WR ⟨H,E,cl⟩ r (λ _=>∀v H',aY H H'->Q v H')
def lu(wn:Str->Option Str)(told:Str)(fe:En->Rs D):En->Rs D:=λ ρ=>match fe (ρ.map shS)with
 | .ok _=>.ok (.str told)
 | .ex c=>(match wn c with
  |some w=>.ok (.str w)
  |none=>.st)
 | .st=>.st
def aNn(P:zA2)(w:World)(K:zAA)(mg:Str->Option Value)(N:List Str)(q:Str)(params:zDE)(body:Expr)(scope:Scope)(k0:Nat)(told:Str)(wd:Addr->Option Str)(E:XK):TE:=λ σ H Q=>
 ∀(base:Heap) (cl:List (Str×Addr)) (f c':Addr) (ctv pm:Value) (H1:Hp),aY H H1->aDi q params body scope cl pm H1 f c' ctv->aJ8 base N σ scope cl->spR P w K mg base k0 told wd [.ref f] H1 Q E
section
variable{C:Ct}{m:Mode}{x pc told q:Str}{p pos lpos:Pos}{k k0 kb:Nat}{fn:Addr}{fd:zAc}{wd:Addr->Option Str}{wn:Str->Option Str}{params:zDE}{body:Expr}{scope:Scope}{N:List Str}{fe:En->Rs D}
theorem ul(hF:∀base,cW C.prog C.w C.K C.mg base (CX1 C.prog C.w) k fn fd [pc] (spR C.prog C.w C.K C.mg base k0 told wd))(hr:k<=C.k)(hm:C.mg x=some (.ref fn))(hk:zB5 C.K (.ref fn)=true)(hb:Binds C.K fd [pc] [])
  (hL:∀i,(∃P,wU (C.X i) P)/\(C.X i).outer=[]/\(C.X i).N=N/\(C.X i).tq=q)(S:za scope)(hcl:C.G.cl=bF C.mg)(hwn:∀c w,wn c=some w->wd (bF C.mg c)=some w)(hkb:kb+1<=k0)
  (hbody:∀base cl f cd A outer s H E hr,SE (ctL C.prog C.w C.K C.mg base N q scope cl f cd A outer s H E kb hr) m body fe)
  (hbnd:∀cl pm c' ctv,bindArgs (zFd "<lambda>" q params body scope cl pm (.ref c') ctv) ⟨[],[]⟩=pure []:=by intro _ _ _ _;rfl)(hdef:∀i,zJY params (C.X i).env=([],[]):=by intro _;rfl)
  (hfree:∀i,∀y∈scope.names,y.2= .free->(C.X i).env.kindOf y.1=some .cell\/(C.X i).env.kindOf y.1=some .free)(hdb:(x==("__debug__":Str))=false:=by decide)(hg:∀i,Gl (C.X i) x:=by intro _;rfl):
  SE C (some []) (.Call (.Name x p) [.Lambda params body scope lpos] [] pos) (lu wn told fe):=by
 refine⟨aNn C.prog C.w C.K C.mg N q params body scope k0 told wd C.G.E,λ i=>?_,λ τ σ H ρ lab Q R W=>?_⟩
 ·obtain⟨e1,e2,e3,e4,e5⟩:=C.cx i
  obtain⟨⟨P,Lx⟩,ho,eN,eq⟩:=hL i;intro pins s σ H Q I h;refine zBe (qb I (hg i) (by rw[e4];exact hm) ?_ hdb);have ha:PA (C.X i) [.Lambda params body scope lpos] _:=bG (aMf Lx (hdef i) (hfree i)) dg;refine zEZ (h₀:=(C.X i).base) I.ok.mod.kin (by rw[e3];exact hk) (thn (ha pos pins s σ H (λ vs H1=>aY H H1/\∃f c' ctv,vs=[.ref f]/\aDi (C.X i).tq params body scope (L2.bF scope (C.X i).env) (((C.X i).mg "__name__").getD .none) H1 f c' ctv) I
   (λ f c' ctv H' sm l=>⟨sm,f,c',ctv,rfl,l⟩)) λ us s1 ⟨vs,H1,I1,r,sm,f,c',ctv,ev,la⟩=>⟨I1.kIn,?_⟩)
  subst ev;have hz:=h (bse (C.X i) s1 H1) (L2.bF scope (C.X i).env) f c' ctv _ H1 sm (by rw[<-eq];exact la) (by rw[<-eN];exact aNa I1 ho S (hfree i));exact aJx (CX:=CX1 (C.X i).prog (C.X i).w) I1 (by rw[e1,e2,e3,e4];exact hF _) ((C.room i).mono hr) (by rw[e3];exact hb) (C.pass i) r (by rw[e1,e2,e3,e4]at*;exact hz)
 ·intro base cl f c' ctv pm H1 sm la cp
  have R1:=R.up sm;have FL:cW C.prog C.w C.K C.mg base (CX1 C.prog C.w) (kb+1) f (zFd "<lambda>" q params body scope cl pm (.ref c') ctv) [] (aNw (bF C.mg) H1 (fe (ρ.map shS))):=by
   refine aNM la S cp (λ vs H Q E h=>⟨h.1,h.2.1⟩) λ A outer s H2 Q2 E2 hr2 hsp=>?_
   obtain⟨t,h1,h2⟩:=hbody base cl f (.ref c') A outer s H2 E2 hr2;exact⟨t,h1 (),h2 [] σ H2 _ _ Q2 (R1.up hsp.2.1).shut (hsp.2.2.imp λ d _ z v H' s' _=>z v H' s')⟩
  refine⟨f,_,_,_,_,kb+1,_,rfl,la.1,FL,hkb,λ s us _ hl=>?_,rfl,aY.refl H1,?_⟩
  ·have e:us=[]:=by
    rw[zAi]at hl;exact zHV.mp hl
   subst e;exact .of_eq (hbnd cl pm c' ctv)
  ·unfold lu at W
   cases he:fe (ρ.map shS)with
   |ok d=>rw[he]at W;exact λ v H' s'=>W (.str told) H' (sm.trans s') (.str told)
   |ex c=>
    rw[he]at W;cases hw:wn c with
    |none=>simp only[hw]at W;exact W.elim
    |some w=>
     simp only[hw]at W;exact λ H' s'=>⟨_,w,rfl,hwn c w hw,λ H'' s''=>W (.str w) H'' (sm.trans (s'.trans s'')) (.str w)⟩
   |st=>rw[he]at W;exact W.elim
end
end VL
namespace L2
open PySem PySem.Spec PyProof.Rows
def cxW(P:zA2)(w:World)(K:zAA)(mg:Str->Option Value)(base:Heap)(N:List Str)(qual:Str)(scope:Scope)(f:Addr)(cd:Value)(A:zAe)(s:zAF)(H:Hp)(Pt:Addr):Cx where
 prog:=P
 w:=w
 K:=K
 mg:=mg
 base:=base
 A:=A.deeper (zCo qual scope s.heap.objs.size f cd)
 N:=N
 s₀:=s
 H₀:=H
 env:=zCo qual scope s.heap.objs.size f cd
 outer:=[]
 stack:=[zCo qual scope s.heap.objs.size f cd]
 ex:=[Pt]
 calm:=true
 fn:=λ _=>true
 pn:=[]
 xe:=λ _ _=>False
 ta:=[(Pt,zCJ #[])]
 tq:=qual++".<locals>."++"<lambda>"
section
variable{P:zA2}{w:World}{K:zAA}{mg:Str->Option Value}{base:Heap}{N ps:List Str}{qual:Str}{scope:Scope}{f Pt:Addr}{cd:Value}{A:zAe}{s s1:zAF}{H:Hp}{vs:List V}{us:List Value}
theorem aEk(S:aX N ps scope)(hd:A.handled=none)(e0:aDk P w K mg base A [] s H)(hl:vs.length=ps.length)(r:Vals vs us)
  (hP:s.heap.get? Pt=some (zCJ #[]))(hH:H Pt=none)(hb:base.get? Pt=none)
  (x:InCallC s s.heap.objs.size (bindL (zCo qual scope s.heap.objs.size f cd).kindOf (ps.zip us) λ _=>none) (zCn (s.heap.objs.size+1) scope.names []) (bindC (zCo qual scope s.heap.objs.size f cd).kindOf (ps.zip us) λ _=>none) s1):
  Inv (cxW P w K mg base N qual scope f cd A s H Pt) [] (start N vs) H s1:=by
 have I:Inv (wj (CX1 P w) P w K mg base N qual scope f cd A [] s H λ _ _ _=>False) [] (start N vs) H s1:=vP S hd e0 hl r x;obtain⟨h1,tk,e1,hk⟩:=x.done;have hlt:=zAQ hP;have hne:∀b∈[Pt],b≠s.heap.objs.size:=λ b hb z=>by
  have e:b=Pt:=by simpa using hb
  rw[e]at z;exact absurd hlt (by rw[z];exact zBP _)
 refine⟨⟨I.ok.mod,I.ok.kind,I.ok.glob,I.ok.blt,I.ok.above,I.ok.inj,I.ok.has,I.ok.cab,I.ok.hd,I.ok.frames,I.ok.stk,λ b hb2=>⟨hne b hb2,λ y c e z=>?_⟩,I.ok.bs,I.ok.bsz,λ b o e hb'=>?_,λ b _=>λ z=>(nomatch z),I.ok.funs,I.ok.frf⟩,
  I.os,I.bare,I.base.mono (λ b z=>z) (λ b z=>(nomatch z)),I.loc,I.cell,I.free,I.freeC,I.pin,I.hok,I.len,λ p hp=>?_⟩
 ·have q:s.heap.objs.size<=c:=I.ok.cab y c rfl e
  have e2:b=Pt:=by simpa using(show b∈[Pt]from hb2)
  rw[z,e2]at q;exact absurd hlt (zFB.mpr q)
 ·have e2:b=Pt:=by simpa using(show b∈[Pt]from hb')
  have e3:base.get? b=some o:=e;rw[e2,hb]at e3;cases e3
 ·have e2:p=(Pt,zCJ #[]):=by simpa using(show p∈[(Pt,zCJ #[])]from hp)
  subst e2;refine⟨hH,hne Pt zAI,λ z=>(nomatch z),λ q hq=>(nomatch hq),#[],?_,trivial,λ pos cv e=>nomatch e⟩;subst e1;exact hk _ _ hP
end
theorem aG4{P:zA2}{w:World}{K:zAA}{mg mb:Str->Option Value}{k:Nat}{fa a c Pt:Addr}{x:Str}{s₁:zAF}{vs:List Value}{ns:List Int}{N:List Str}{oc doc pm ct dV kV:Value}{od:Option Addr}{osl:Array (Option Value)}{name qual:Str}{params:zDE}{body:List Stmt}{scope:Scope}{an:Option Addr}
  (KX:K.In s₁.heap)(hns:s₁.heap.Ns zA4 mg)(hb:s₁.heap.Ns zJX mb)(hbb:∀x:Str,x≠"__name__"->mb x=zAv x)(hlim:s₁.heap.NoLimit)(hg:s₁.gens=#[])
  (ha:s₁.heap.get? a=some {cls:=.type "list",data:=.seq vs.toArray})(hi:zBD vs ns)(hl:ns.length<=zAW)(hr:gD (k+1) zCX)
  (hP:s₁.heap.get? Pt=some (zCJ #[]))(hKP:K.lookup Pt=none)(hC:zDh K c Pt=true)(hbl:s₁.heap.BuiltinsAt mg Pt)
  (lk:K.lookup fa=some ⟨oc,od,.func (zBc name qual params body scope dV kV doc pm an (.ref c) ct),osl⟩)(hcd:zCz K (.ref c) qual=true)(S:aX N [x] scope)
  (hbind:∀(s:zAF) (u:Value),zHt s (zBc name qual params body scope dV kV doc pm an (.ref c) ct) ⟨[u],[]⟩ [(x,u)])
  (hbody:∀(base:Heap) (s:zAF) (H:Hp),gD k (zCX.deeper (zCo qual scope s.heap.objs.size fa (.ref c)))->wU (cxW P w K mg base N qual scope fa (.ref c) zCX s H Pt) Pt->Only H->SqL K H a (ns.map V.int)->
   ∃t,PSs (cxW P w K mg base N qual scope fa (.ref c) zCX s H Pt) body t/\t {nx:=λ _ _=>False,rt:=λ v _=>v= .bl true} (start N [.ref a]) H):
  zBq (model P w) zCX (.call (.ref fa) ⟨[.ref a],[]⟩) (λ r s'=>r= .ok (.ret (.bool true))/\OldK s₁.heap s'.heap/\s'.os=s₁.os/\zE5 s'.gens) s₁:=by
 have rv:=aAU hi;have lenV:=hi.length;have aP:a≠Pt:=λ z=>by
  rw[z,hP]at ha;have e2:=congrArg Obj.cls (zAa ha);cases e2
 have core:∀H:Hp,Only H->SqL K H a (ns.map V.int)->HOk P w H s₁.heap->(∀b,H b≠none->b=a)->(H a≠none->K.lookup a=none)->
   zBq (model P w) zCX (.call (.ref fa) ⟨[.ref a],[]⟩) (λ r s'=>r= .ok (.ret (.bool true))/\OldK s₁.heap s'.heap/\s'.os=s₁.os/\zE5 s'.gens) s₁:=by
  intro H hO hS hok hA hK;have hPn:H Pt=none:=by
   cases q:H Pt with
   |none=>rfl
   |some u=>exact absurd (hA Pt (by rw[q];simp)).symm aP
  let B:=zBf (aIz s₁.heap H) [Pt];have base_of:∀{b:Addr} {o:Obj},s₁.heap.get? b=some o->H b=none->b≠Pt->B.get? b=some o:=λ e n ne=>zCC _ (aIy e n) (by simpa using ne)
  have noA:∀{b:Addr} {o:Obj} {es:Array DictEntry} {ep:Nat},s₁.heap.get? b=some o->o.data= .dict es ep->H b=none/\b≠Pt:=λ{b o es ep} e d=>by
   refine⟨?_,λ z=>?_⟩
   ·cases q:H b with
    |none=>rfl
    |some u=>
     have e':b=a:=hA b (by rw[q];simp);subst e';rw[ha]at e;cases e;have d':Data.seq vs.toArray _=Data.dict es ep:=d;cases d'
   ·rw[z,hP]at e
    cases e;cases d
  have nsK:∀{b:Addr} {m:Str->Option Value},s₁.heap.Ns b m->B.Ns b m:=λ{b m} ⟨o,es,ep,e,d,r⟩=>⟨o,es,ep,base_of e (noA e d).1 (noA e d).2,d,r⟩
  have hKb:K.In B:=λ b o e=>base_of (KX b o e) (by
   cases q:H b with
   |none=>rfl
   |some u=>
    have e':b=a:=hA b (by rw[q];simp);subst e';rw[hK (by rw[q];simp)]at e;cases e) (λ z=>by rw[z,hKP]at e;cases e)
  have hM:Mod K mg B:=⟨hKb,nsK hns,⟨mb,nsK hb,hbb⟩,let⟨mc,h1,h2⟩:=hlim;⟨mc,nsK h1,h2⟩⟩;have e0:aDk P w K mg B zCX [] s₁ H:=⟨rfl,hM,λ b o e=>aK1 (zDY _ e),zFS ((zEA _ _).trans (aGd _ _)),trivial,λ b hb=>absurd (show b∈([]:List Addr)from hb) (by simp),hok,.of_eq hg⟩;have gP:zA4≠Pt:=by
   obtain⟨o,es,ep,e,d,_⟩:=hns;exact(noA e d).2
  have hLx:wU (cxW P w K mg B N qual scope fa (.ref c) zCX s₁ H Pt) Pt:=by
   refine⟨⟨_,rfl⟩,zAI,rfl,⟨c,rfl,zHZ hKb hC⟩,?_,gP⟩;obtain⟨bm,o,b1,b2,b3,b4,b5,b6,b7,b8⟩:=hbl;refine⟨bm,o,b1,b2,b3,b4,base_of b5 ?_ b4,b6,b7,b8⟩;cases q:H bm with
   |none=>rfl
   |some u=>
    have e':bm=a:=hA bm (by rw[q];simp);rw[e',ha]at b5;cases b5;cases b8
  have hkind:∀y∈[x].zip [zB0 a],scope.names.lookup y.1=some .local\/(scope.names.lookup y.1=some .cell/\((zCn (s₁.heap.objs.size+1) scope.names []).lookup y.1).isSome=true):=λ⟨n,v⟩ hy=>by
   rcases S.par n (zCt hy).1 with q|q
   ·exact .inl q
   ·exact .inr ⟨q,zCu _ _ _ (.inl q)⟩
  refine zEa hr.depth (KX _ _ lk) rfl S.co S.gen rfl (zE0 KX hcd) (hbind s₁ (.ref a) _ _ _ _ ?_);refine zDn S.kind hkind λ env he s1 x'=>?_
  subst he;refine⟨hlim.keeps x'.toInCall.keep,zIh ?_⟩;obtain⟨t,ht,hq⟩:=hbody B s₁ H (hr.deeper _) hLx hO hS;have I:Inv (cxW P w K mg B N qual scope fa (.ref c) zCX s₁ H Pt) [] (start N [.ref a]) H s1:=aEk (ps:=[x]) (us:=[.ref a]) S hr.hd e0 rfl (.cons rfl .nil) hP hPn (zDz _ zAI) x';refine zAy (ht [] s1 (start N [.ref a]) H _ I hq) (λ fl s' hs=>?_) λ e s' hs=>hs.elim
  cases fl with
  |next=>obtain⟨_,_,_,q⟩:=hs;exact q.elim
  |brk=>obtain⟨_,_,_,q⟩:=hs;exact q.elim
  |cont=>obtain⟨_,_,_,q⟩:=hs;exact q.elim
  |ret u=>
   obtain⟨v,σ',H',J,rv',q⟩:=hs;have q':v= .bl true:=q;subst q';obtain rfl:u=zEK true:=rv';obtain⟨_,_,_,_,ps,hps,_⟩:=J.tab (Pt,zCJ #[]) zAI;have all:∀b o,s₁.heap.get? b=some o->b≠Pt->s'.heap.get? b=some o:=λ b o e ne=>by
    cases q:H b with
    |none=>exact J.base.keep b o e q (λ z=>(nomatch z)) (by simpa[cxW]using ne)
    |some u=>
     rcases hO b with z|⟨ob,xs,z⟩
     ·rw[q]at z;cases z
     ·have z2:=J.base.frzs b ob _ z
      obtain⟨e1,_⟩:=hok b _ z;obtain⟨e2,_⟩:=J.hok b _ z2;rw[e]at e1;cases e1;exact e2
   refine⟨rfl,⟨λ b o e=>?_,λ b o e=>?_⟩,J.os,J.bare⟩
   ·by_cases hbP:b=Pt
    ·subst hbP
     rw[hP]at e;cases e;obtain⟨⟨o1,vs1,f1,f2,f3,f4⟩,_⟩:=(zHZ KX hC).tab hP;exact .inr (.inl ⟨⟨c,o1,vs1,f1,f2,f3,f4⟩,rfl,#[],ps,rfl,by simpa using hps⟩)
    ·exact .inl (all b o e hbP)
   ·by_cases hbP:b=Pt
    ·subst hbP;exact⟨_,hps⟩
    ·exact⟨o,all b o e hbP⟩
 cases hk:K.lookup a with
 |some o=>
  have e:=KX a o hk;rw[ha]at e;cases e;refine core (λ _=>none) (λ _=>.inl rfl) (.inr ⟨_,vs.toArray,_,hk,rfl,rfl,rfl,by rw[zAP,lenV];exact hl,by simpa using rv⟩) (λ b u z=>by have z':(none:Option HO)=some u:=z;cases z') (λ b z=>absurd rfl z) λ z=>absurd rfl z
 |none=>
  refine core (λ b=>if b=a then some (.frz {cls:=.type "list",data:=.seq vs.toArray} (.lst (ns.map V.int)))else none) (λ b=>?_) (.inl (.inr ⟨{cls:=.type "list",data:=.seq vs.toArray},if_pos rfl⟩)) (λ b u z=>?_) (λ b z=>?_) λ _=>hk
  ·by_cases hb:b=a
   ·exact .inr ⟨_,_,if_pos hb⟩
   ·exact .inl (if_neg hb)
  ·by_cases hb:b=a
   ·have z':=(if_pos hb).symm.trans z
    cases z';subst hb;exact⟨ha,by rw[zAE];exact hl,vs,_,rv,ha⟩
   ·have z':=(if_neg hb).symm.trans z
    cases z'
  ·by_cases hb:b=a
   ·exact hb
   ·exact absurd (if_neg hb) z
end L2
namespace VL
open PySem PySem.Spec PyProof.Rows L2
abbrev ctW(P:zA2)(w:World)(K:zAA)(mg:Str->Option Value)(base:Heap)(N:List Str)(q:Str)(sc:Scope)(f:Addr)(cdv:Value)(A:zAe)(s:zAF)(H:Hp)(Pt:Addr)(k:Nat)(hr:gD k (A.deeper (zCo q sc s.heap.objs.size f cdv))):Ct where
 ι:=Unit
 X:=λ _=>cxW P w K mg base N q sc f cdv A s H Pt
 prog:=P
 w:=w
 K:=K
 mg:=mg
 base:=base
 k:=k
 G:=⟨H,λ _ _ _=>False,bF mg⟩
 cx:=λ _=>⟨rfl,rfl,rfl,rfl,rfl⟩
 calm:=λ _=>rfl
 room:=λ _=>hr
 own:=λ _=>λ _ _ h=>zAO h
 pass:=λ _=>λ _ _ _ _ _ _ _ ⟨_,_,_,_,_,_,_,_,_,_,_,_,_,z⟩=>z
 dOk:=false
 dcx:=λ z=>nomatch z
theorem aI6{P:zA2}{w:World}{K:zAA}{mg:Str->Option Value}{base:Heap}{N:List Str}{q:Str}{sc:Scope}{fa a Pt:Addr}{cdv:Value}{A:zAe}{s:zAF}{H:Hp}{k:Nat}{hr:gD k (A.deeper (zCo q sc s.heap.objs.size fa cdv))}{body:List Stmt}{f:En->Ou}{ns:List Int}
  (hb:SSs (ctW P w K mg base N q sc fa cdv A s H Pt k hr) body f)(e:dZ N.length f [.scr ns]= .ok (.bl true))(r:Rps K (λ _=>True) H [.ref a] [.scr ns]):
  ∃t,PSs (cxW P w K mg base N q sc fa cdv A s H Pt) body t/\t {nx:=λ _ _=>False,rt:=λ v _=>v= .bl true} (start N [.ref a]) H:=by
 obtain⟨t,h1,h2⟩:=hb;refine⟨t,h1 (),h2 [] _ H _ _ _ (RR.start r) ?_⟩;unfold dZ at e;cases ef:f (az N.length [.scr ns])with
 |nx ρ=>rw[ef]at e;cases e
 |rt d=>rw[ef]at e;cases e;exact λ v H' s r=>r.bl_inv
 |ex c=>rw[ef]at e;cases e
 |bk ρ=>rw[ef]at e;cases e
 |ct ρ=>rw[ef]at e;cases e
 |st=>rw[ef]at e;cases e
theorem aEF{P:zA2}{w:World}{K:zAA}{mg:Str->Option Value}{base:Heap}{x q n0 n1 n2 few cn pe told:Str}{st:Stmt}{f fc C':Addr}{fd fdc:zAc}{kc k0:Nat}{wd:Addr->Option Str}{p1 p2 p3 p4 p5 p6 p7 p8 p9 p10 p11 p12 p13 p14 p15 p16:Pos}{j1:Nat}
  (F:L2.Fun K x q st f fd)(S:aX [n0,n1,n2] [n0] (aH st))(hst:eZ st=[.Assign [.Name n1 p1] (.Constant (.str told) j1 p2) p3,.Try [.Expr (.Call (.Name n0 p4) [] [] p5) p6] [.ExceptHandler (some (.Name few p7)) (some n2) [.Assign [.Name n1 p8] (.Call (.Name cn p9) [.Name n2 p10] [] p11) p12] p13] [] [] p14,.Return (some (.Name n1 p15)) p16])
  (l0:(aH st).names.lookup n0=some .local)(l1:(aH st).names.lookup n1=some .local)(l2:(aH st).names.lookup n2=some .local)(g1:(aH st).names.lookup few=some .globalImplicit)(g2:(aH st).names.lookup cn=some .globalImplicit)
  (hm:mg few=some (.ref C'))(hC':jd K C')(FC:FnH P w K mg base kc fc fdc [pe] (spW wd))(hmc:mg cn=some (.ref fc))(hkc:zB5 K (.ref fc)=true)(hbc:Binds K fdc [pe] [])(hkk:kc<=k0)(hw:∀C w,wd C=some w->jd K C/\vV K C C'=true)
  (d1:(few==("__debug__":Str))=false:=by decide)(d2:(cn==("__debug__":Str))=false:=by decide)(d3:(n0==("__debug__":Str))=false:=by decide)(d4:(n1==("__debug__":Str))=false:=by decide)(d5:(n2==("__debug__":Str))=false:=by decide)
  (d6:(n0==("__classdict__":Str))=false:=by decide)(d7:(n1==("__classdict__":Str))=false:=by decide)(d8:(n2==("__classdict__":Str))=false:=by decide):
  cW P w K mg base (CX1 P w) (k0+1) f fd [n0] (spR P w K mg base k0 told wd):=by
 refine F.okX S (λ vs H Q E ⟨_,_,_,_,_,_,_,e,_⟩=>by rw[e];rfl) λ cdv A outer s H vs Q E hr hsp=>?_
 rw[hst];exact aHa (X:=wj (CX1 P w) P w K mg base [n0,n1,n2] q (aH st) f cdv A outer s H E) fJ.of rfl rfl S.nd l0 l1 l2 (λ _=>rfl) hm g1 hC' FC g2 hmc hkc hbc hr hkk hw hsp d1 d2 d3 d4 d5 d6 d7 d8
end VL
namespace L2
open PySem PySem.Spec PyProof.Rows
theorem ig{X:Cx}{n0:Str}{e:Expr}{c:V}{p p' pos:Pos}(hN:X.N[0]? =some n0)(hv:X.env.scope.names.lookup n0=some .local)(hg:Gl X "isinstance")(hm:X.mg "isinstance"=none)(hc:PE X e (tC c))(hse:zAZ [e] X.env=(false,eval e X.env)::zAZ [] X.env:=by rfl)
  (hpl:(zC1 pos (zAZ [e] X.env)).any (·.1)=false:=by rfl)(d:(n0==("__debug__":Str))=false:=by decide)(d':(n0==("__classdict__":Str))=false:=by decide):PE X (.Call (.Name "isinstance" p) [.Name n0 p',e] [] pos) (aDu X.K c):=
 qF aGr hg hm rfl (bG (jC hN (.inl hv) d d') (bG hc dg hse)) (hpl:=hpl)
section
variable{P:zA2}{w:World}{K:zAA}{mg:Str->Option Value}{base:Heap}{x q n0 n1 n2 odd:Str}{st:Stmt}{f:Addr}{fd:zAc}{k:Nat}{wd:Addr->Option Str}{c1 c2:V}{k1 k2 k3 k4:List V}{l1 l2:List Str}{a1 a2:Expr}{as1 as2 e1 e2 e3 e4 w1 w2:List Expr}{kw1 kw2:List zD1}
 {p1 p2 p3 p4 p5 p6 p7 p8 p9 p10 p11 p12 p13 p14 p15 p16 p17 p18 p19 p20 p21 p22 p23 p24 p25 p26 p27 p28 p29 p30 p31 p32 p33 p34 p35 p36 p37 p38 p39 p40:Pos}{q1 q2 q3 q4 q5 q6 q7:Pos}{j1 j2 j3 j4 j5:Nat}
theorem aJS(F:Fun K x q st f fd)(S:aX [n0,n1,n2] [n0] (aH st))
  (hst:eZ st=[.If (.BoolOp .Or [.UnaryOp .Not (.Call a1 as1 kw1 p1) p3,.UnaryOp .Not (.Call a2 as2 kw2 p2) p4] p5) [.Return (some (.Constant (.str odd) j1 p6)) p7] [] p8,
   .Assign [.Name n1 p9] (.List e1 p10) p11,.Assign [.Name n1 p12] (.BinOp (.Name n1 p13) .Add (.List e2 p14) p15) p16,.Assign [.Name n1 p17] (.BinOp (.Name n1 p18) .Add (.List e3 p19) p22) p23,.Assign [.Name n1 p24] (.BinOp (.Name n1 p25) .Add (.List e4 p26) p27) p28,
   .If (.Compare (.Call (.Attribute (.Name n1 p29) "count" p20) [.Constant (.bool true) j2 p32] [] p21) [.NotEq] [.Constant (.int 1) j3 p33] p34) [.Return (some (.Constant (.str odd) j4 p35)) p36] [] p37,
   .Assign [.Name n2 p38] (.List w1 p39) p40,.Return (some (.Subscript (.BinOp (.Name n2 q1) .Add (.List w2 q2) q3) (.Call (.Attribute (.Name n1 q4) "index" p30) [.Constant (.bool true) j5 q5] [] p31) q6)) q7])
  (m0:(aH st).names.lookup n0=some .local)(m1:(aH st).names.lookup n1=some .local)(m2:(aH st).names.lookup n2=some .local)
  (h:∀(cdv:Value) (A:zAe) (outer:List Env) (s:zAF) (H:Hp),PE (cxH P w K mg base [n0,n1,n2] q (aH st) f cdv A outer s H) (.Call a1 as1 kw1 p1) (aDu K c1)/\PE (cxH P w K mg base [n0,n1,n2] q (aH st) f cdv A outer s H) (.Call a2 as2 kw2 p2) (aDu K c2)/\
   PA (cxH P w K mg base [n0,n1,n2] q (aH st) f cdv A outer s H) e1 (pC K k1)/\PA (cxH P w K mg base [n0,n1,n2] q (aH st) f cdv A outer s H) e2 (pC K k2)/\PA (cxH P w K mg base [n0,n1,n2] q (aH st) f cdv A outer s H) e3 (pC K k3)/\
   PA (cxH P w K mg base [n0,n1,n2] q (aH st) f cdv A outer s H) e4 (pC K k4)/\PA (cxH P w K mg base [n0,n1,n2] q (aH st) f cdv A outer s H) w1 (aAW l1)/\PA (cxH P w K mg base [n0,n1,n2] q (aH st) f cdv A outer s H) w2 (aAW l2))
  (hl1:(p20.endLine==p21.line)=true)(hl2:(p30.endLine==p31.line)=true)(hz:(l1++l2).length<=100)(hw:∀C w,wd C=some w->Wd K c1 c2 [k1,k2,k3,k4] (l1++l2) C w)
  (d0:(n0==("__debug__":Str))=false:=by decide)(d1:(n1==("__debug__":Str))=false:=by decide)(d2:(n2==("__debug__":Str))=false:=by decide)
  (f0:(n0==("__classdict__":Str))=false:=by decide)(f1:(n1==("__classdict__":Str))=false:=by decide)(f2:(n2==("__classdict__":Str))=false:=by decide):
  FnH P w K mg base 1 f fd [n0] (spW wd):=by
 refine F.okH (k:=0) S (λ vs H Q E ⟨_,_,_,e,_⟩=>by rw[e];rfl) λ cdv A outer s H vs Q E hr hsp=>?_
 obtain⟨g1,g2,g3,g4,g5,g6,g7,g8⟩:=h cdv A outer s H;rw[hst];exact aEx (X:=cxH P w K mg base [n0,n1,n2] q (aH st) f cdv A outer s H) rfl S.nd m0 m1 m2 (by have:=hr.un;show(A.deeper _).units+64<cLine;omega) g1 g2 g3 g4 g5 g6 g7 g8 hl1 hl2 hz hsp hw d0 d1 d2 f0 f1 f2
end
structure aFx(P:zA2)(w:World)(K:zAA)(mg:Str->Option Value)(fa Pt:Addr)(k n:Nat):Prop where
 ex:∃(x name qual:Str) (params:zDE) (body:List Stmt) (scope:Scope) (dV kV doc pm ct oc:Value) (an od:Option Addr) (c:Addr) (osl:Array (Option Value)) (N:List Str),
  K.lookup Pt=none/\zDh K c Pt=true/\K.lookup fa=some ⟨oc,od,.func (zBc name qual params body scope dV kV doc pm an (.ref c) ct),osl⟩/\zCz K (.ref c) qual=true/\aX N [x] scope/\
  (∀(s:zAF) (u:Value),zHt s (zBc name qual params body scope dV kV doc pm an (.ref c) ct) ⟨[u],[]⟩ [(x,u)])/\
  ∀(a:Addr) (ns:List Int),ns.length<=n->∀(base:Heap) (s:zAF) (H:Hp),gD k (zCX.deeper (zCo qual scope s.heap.objs.size fa (.ref c)))->wU (cxW P w K mg base N qual scope fa (.ref c) zCX s H Pt) Pt->Only H->SqL K H a (ns.map V.int)->
   ∃t,PSs (cxW P w K mg base N qual scope fa (.ref c) zCX s H Pt) body t/\t {nx:=λ _ _=>False,rt:=λ v _=>v= .bl true} (start N [.ref a]) H
theorem aGw{l:zFC}{n k:Nat}{q:zA2}{loose:List Str}{XP:(Str->Option Value)->Heap->Prop}{YP:World->Heap->Prop}{d:DefRec}{K:Params->zAA}{Pt:Addr}
  (hn:l.most=some n)(hn2:n<=zAW)(hdf:d.params.defaults=[])(hr:gD (k+1) zCX)
  (hY:∀(w:World) (h:Heap),YP w h->(K w.params).In h/\h.get? Pt=some (zCJ #[]))
  (F:∀(w:World) (mg:Str->Option Value) (fa:Addr) (h:Heap),(K w.params).In h->h.Ns zA4 mg->mg d.name=some (.ref fa)->aFx l.prog w (K w.params) mg fa Pt k n):
  zIf q loose XP YP l.row.toRowW d [] (λ f vs=>zIB f vs):=by
 refine Att.aDa hn hdf λ w s₀ s₁ mg mb fa o pm cd doc a vs ns G Y ho hd hcd hmg hobj hints hlen hg=>?_
 obtain⟨KX,hP⟩:=hY w _ Y;obtain⟨x,name,qual,params,body,scope,dV,kV,doc,pm,ct,oc,an,od,c,osl,N,h1,h2,h3,h4,h5,h6,h7⟩:=(F w mg fa _ KX G.T.g hmg).ex;have hbl:s₁.heap.BuiltinsAt mg Pt:=by
  obtain⟨bm,ob,b1,b2,b3,b4,b5,b6⟩:=G.T.bmain;refine⟨bm,ob,b1,b2,λ z=>?_,λ z=>?_,b3,b4,b5,b6⟩
  ·obtain⟨o,es,ep,e,hd,_⟩:=G.T.g
   rw[z,e]at b3;cases b3;rw[hd]at b6;cases b6
  ·rw[z,hP]at b3;cases b3;cases b4
 exact aG4 KX G.T.g G.T.b G.T.builtins G.T.nolimit hg hobj hints (zAg hlen hn2) hr hP h1 h2 hbl h3 h4 h5 h6 λ base s H r1 r2 r3 r4=>h7 a ns hlen base s H r1 r2 r3 r4
def clB(K:zAA)(few C:Addr):Bool:=zBL K C [.type "ValueError",.type "Exception",.type "BaseException",.type "object"] "ValueError.__new__"&&decide (zBH K (.ref C) "__class__"=some (some (.builtin "object.__class__")))&&decide (zBH K (.ref C) "__getattribute__"=some (some (.builtin "BaseException.__getattribute__")))&&decide (zBH K (.ref C) "__getattr__"=some none)&&decide (zBd K (.ref C) (.ref few)=some true)&&decide (zBd K (.ref C) (.type "ValueError")=some true)&&vV K C few
def aEw(K:zAA)(few:Addr)(cs:List Addr):Bool:=(zAp cs.length).all λ j=>match cs[j]? with
 |none=>true
 |some C=>clB K few C&&(zAp cs.length).all λ i=>match cs[i]? with
  |none=>true
  |some c=>decide (zBd K (.ref C) (.ref c)=some (i==j))
theorem lookup_at{C:Addr}{w:Str}:∀{cs:List Addr} {ws:List Str},(cs.zip ws).lookup C=some w->∃j:Nat,cs[j]? =some C/\ws[j]? =some w
 |[],_,h=>by cases h
 |_::_,[],h=>by cases h
 |c::cs,x::ws,h=>by
  rw[zBM,zAk]at h;by_cases e:C==c
  ·simp only[e]at h
   cases h;exact⟨0,by rw[zDb e];rfl,rfl⟩
  ·simp only[e]at h
   obtain⟨j,h1,h2⟩:=lookup_at h;exact⟨j+1,h1,h2⟩
theorem aL1{K:zAA}{few c0 c1 c2 c3 c4 c5 c6 c7 c8 c9 c10 c11:Addr}{ws:List Str}(h:aEw K few [c0,c1,c2,c3,c4,c5,c6,c7,c8,c9,c10,c11]=true){C:Addr}{w:Str}(hw:([c0,c1,c2,c3,c4,c5,c6,c7,c8,c9,c10,c11].zip ws).lookup C=some w):
  Wd K (.ref few) (.ty "ValueError") [[.ref c0,.ref c1,.ref c2],[.ref c3,.ref c4,.ref c5],[.ref c6,.ref c7,.ref c8],[.ref c9,.ref c10,.ref c11]] ws C w/\jd K C/\vV K C few=true:=by
 obtain⟨j,h1,h2⟩:=lookup_at hw;have hj:j<12:=(zAH.mp h1).1;have h3:=zAj.mp h j (zBO.mpr hj);simp only[h1,zAK]at h3;obtain⟨h4,h5⟩:=h3;have F:∀(i:Nat) c,[c0,c1,c2,c3,c4,c5,c6,c7,c8,c9,c10,c11][i]? =some c->Kt K C (.ref c) (i==j):=λ i c e=>by
  have h6:=zAj.mp h5 i (zBO.mpr (zAH.mp e).1);simp only[e]at h6;exact⟨_,rfl,of_decide_eq_true h6⟩
 unfold clB at h4;simp only[zAK,decide_eq_true_eq]at h4;obtain⟨⟨⟨⟨⟨⟨q1,q2⟩,q3⟩,q4⟩,q5⟩,q6⟩,q7⟩:=h4;refine⟨⟨⟨q1,q2,q3,q4⟩,⟨_,rfl,q5⟩,⟨_,rfl,q6⟩,[0==j,1==j,2==j],[3==j,4==j,5==j],[6==j,7==j,8==j],[9==j,10==j,11==j],j,_,_,_,_,rfl,.cons (F 0 c0 rfl) (.cons (F 1 c1 rfl) (.cons (F 2 c2 rfl) .nil)),.cons (F 3 c3 rfl) (.cons (F 4 c4 rfl) (.cons (F 5 c5 rfl) .nil)),
  .cons (F 6 c6 rfl) (.cons (F 7 c7 rfl) (.cons (F 8 c8 rfl) .nil)),.cons (F 9 c9 rfl) (.cons (F 10 c10 rfl) (.cons (F 11 c11 rfl) .nil)),by simp,?_,?_,?_,h2⟩,q1,q7⟩
 ·exact(by decide:∀j,j<12->([0==j,1==j,2==j]++[3==j,4==j,5==j]++[6==j,7==j,8==j]++[9==j,10==j,11==j]).count true=1) j hj
 ·exact(by decide:∀j,j<12->([0==j,1==j,2==j]++[3==j,4==j,5==j]++[6==j,7==j,8==j]++[9==j,10==j,11==j])[j]? =some true) j hj
 ·exact λ m hm=>(by decide:∀j,j<12->∀m,m<j->([0==j,1==j,2==j]++[3==j,4==j,5==j]++[6==j,7==j,8==j]++[9==j,10==j,11==j])[m]? =some false) j hj m hm
theorem nJ{scope sc:Scope}(h:∀y∈scope.names,y.2= .free->sc.names.lookup y.1=some .cell\/sc.names.lookup y.1=some .free):∀y∈scope.names,y.2= .free->sc.names.lookup y.1=some .cell\/sc.names.lookup y.1=some .free:=h
theorem aD8{K:zAA}{few:Addr}{cs:List Addr}(h:aEw K few cs=true){i j:Nat}{C c:Addr}(hj:cs[j]? =some C)(hi:cs[i]? =some c):zBd K (.ref C) (.ref c)=some (i==j):=by
 have h3:=zAj.mp h j (zBO.mpr (zAH.mp hj).1);simp only[hj,zAK]at h3;have h6:=zAj.mp h3.2 i (zBO.mpr (zAH.mp hi).1);simp only[hi]at h6;exact of_decide_eq_true h6
theorem aLK{K:zAA}{few:Addr}{cs:List Addr}(h:aEw K few cs=true){i j:Nat}{C:Addr}(hj:cs[j]? =some C)(hi:cs[i]? =some C):i=j:=by
 have a:=aD8 h hj hi;have b:=aD8 h hj hj;rw[a]at b;have e:=zAa b;rw[beq_self_eq_true]at e;exact zDb e
theorem ye{C:Addr}{w:Str}:∀{cs:List Addr} {ws:List Str} {j:Nat},(∀i:Nat,cs[i]? =some C->i=j)->cs[j]? =some C->ws[j]? =some w->(cs.zip ws).lookup C=some w
 |[],_,_,_,h,_=>by simp at h
 |_::_,[],_,_,_,h=>by simp at h
 |c::cs,x::ws,j,u,h1,h2=>by
  rw[zBM,zAk];by_cases e:C==c
  ·have e0:0=j:=u 0 (by rw[zDb e];rfl)
   subst e0;simp only[e];simpa using h2
  ·simp only[e]
   cases j with
   |zero=>
    have e1:c=C:=by simpa using h1
    rw[e1]at e;simp at e
   |succ j=>exact ye (j:=j) (λ i hi=>zGh (u (i+1) hi)) h1 h2
theorem aNl{K:zAA}{few:Addr}{cs:List Addr}{ws:List Str}(h:aEw K few cs=true){j:Nat}{C:Addr}{w:Str}(h1:cs[j]? =some C)(h2:ws[j]? =some w):(cs.zip ws).lookup C=some w:=ye (λ i hi=>aLK h h1 hi) h1 h2
end L2
namespace VL
open PySem PySem.Spec PyProof.Rows L2
theorem aNk{K:zAA}{mg:Str->Option Value}{few c0 c1 c2 c3 c4 c5 c6 c7 c8 c9 c10 c11:Addr}{ws:List Str}{ns:List Str}(h:aEw K few [c0,c1,c2,c3,c4,c5,c6,c7,c8,c9,c10,c11]=true)
  (hl:ns.map (VL.bF mg)=[c0,c1,c2,c3,c4,c5,c6,c7,c8,c9,c10,c11]):∀c w,(ns.zip ws).lookup c=some w->([c0,c1,c2,c3,c4,c5,c6,c7,c8,c9,c10,c11].zip ws).lookup (VL.bF mg c)=some w:=λ c w e=>by
 have go:∀(ns:List Str) (ws:List Str),(ns.zip ws).lookup c=some w->∃j:Nat,ns[j]? =some c/\ws[j]? =some w:=by
  intro ns;induction ns with
  |nil=>intro ws h;cases h
  |cons x ns ih=>
   intro ws h;cases ws with
   |nil=>cases h
   |cons y ws=>
    rw[zBM,zAk]at h;by_cases e:c==x
    ·simp only[e]at h
     cases h;exact⟨0,by rw[zDb e];rfl,rfl⟩
    ·simp only[e]at h
     obtain⟨j,h1,h2⟩:=ih ws h;exact⟨j+1,h1,h2⟩
 obtain⟨j,h1,h2⟩:=go ns ws e;refine aNl h (j:=j) ?_ h2;rw[<-hl,zAT,h1];rfl
section
variable{O:zFm}{kz:Nat->O.α}{n:Nat}
def Wr{α:Type}(kz:Nat->O.α)(n:Nat):zHK α->(α->Prop)->Prop
 | .ret a,Q=>Q a
 | .ask i j k,Q=>i<n/\j<n/\Wr kz n (k (O.blt (kz i) (kz j))) Q
theorem Wr.bindI:∀{t:zHK α},Wr kz n t (λ a=>Wr kz n (g a) Q)->Wr kz n (t.bind g) Q
 | .ret _,h=>h
 | .ask _ _ _,⟨h1,h2,h3⟩=>⟨h1,h2,Wr.bindI h3⟩
abbrev Pm(n:Nat)(p:Array Nat):Prop:=p.Perm (zAp n).toArray
theorem Pm.sz(h:Pm n p):p.size=n:=by
 have:=h.size_eq
 simpa using this
theorem Pm.in(h:Pm n p)(hi:i<n):p.getD i 0<n:=by
 have hs:i<p.size:=by rw[h.sz];exact hi
 have e:p.getD i 0=p[i]:=by simp[zCW,hs]
 rw[e];have hm:p[i]∈(zAp n).toArray:=h.mem_iff.mp (Array.getElem_mem hs);simpa using hm
def Kp(kz:Nat->O.α)(p:Array Nat)(i:Nat):O.α:=kz (p.getD i 0)
theorem aDP(h:p[i]? =q[j]?):Kp kz p i=Kp kz q j:=by
 unfold Kp;congr 1;rw[zBg,zBg,h]
theorem aIb(hs:c<p.size)(hd:d<=c)(k:Nat):
  Kp kz (bubble p c d) k=if k=c-d then Kp kz p c else if c-d<k/\k<=c then Kp kz p (k-1)else Kp kz p k:=by
 have e:=getElem?_bubble hs d hd k;by_cases u1:k=c-d
 ·rw[if_pos u1]at e ⊢
  exact aDP e
 ·rw[if_neg u1]at e ⊢
  by_cases u2:c-d<k/\k<=c
  ·rw[if_pos u2]at e ⊢
   exact aDP e
  ·rw[if_neg u2]at e ⊢
   exact aDP e
theorem aEd(hj:j<=p.size)(k:Nat):Kp kz (zDv p i j) k=if i<=k/\k<j then Kp kz p (i+j-1-k)else Kp kz p k:=by
 unfold zDv;have e:=getElem?_mirror_all (i:=i) hj k;by_cases u1:i<=k/\k<j
 ·rw[if_pos u1]at e ⊢
  exact aDP e
 ·rw[if_neg u1]at e ⊢
  exact aDP e
theorem qd(hj:j<=p.size)(he:∀k,i<=k->k<j->Kp kz p k=Kp kz p (j-1))(k:Nat):Kp kz (zDv p i j) k=Kp kz p k:=by
 rw[aEd hj];split
 ·rw[he _ (by lia) (by lia),he k (by lia) (by lia)]
 ·rfl
def Up(kz:Nat->O.α)(p:Array Nat)(k:Nat):Prop:=∀i j,i<=j->j<k->O.kle (Kp kz p i) (Kp kz p j)
def Dn(kz:Nat->O.α)(p:Array Nat)(k:Nat):Prop:=∀i j,i<=j->j<k->O.kle (Kp kz p j) (Kp kz p i)
theorem yJ(h:Pm n p)(i j:Nat):Pm n (zDv p i j):=(mirror_perm _ _ _ _).trans h
theorem Up.succ(h:Up kz p m)(hm:1<=m)(hl:O.kle (Kp kz p (m-1)) (Kp kz p m)):Up kz p (m+1):=by
 intro i j hij hj;by_cases q:j<m
 ·exact h i j hij q
 ·have q':j=m:=by lia
  subst q';by_cases q2:i=j
  ·rw[q2];exact zCl _
  ·exact zDj (h i (j-1) (by lia) (by lia)) hl
theorem Dn.succ(h:Dn kz p m)(hm:1<=m)(hl:O.kle (Kp kz p m) (Kp kz p (m-1))):Dn kz p (m+1):=by
 intro i j hij hj;by_cases q:j<m
 ·exact h i j hij q
 ·have q':j=m:=by lia
  subst q';by_cases q2:i=j
  ·rw[q2];exact zCl _
  ·exact zDj hl (h i (j-1) (by lia) (by lia))
theorem aDl(hp:Pm n p)(hr:r<=n):∀(f m:Nat),1<=m->m+f=r->Up kz p m->
  (∀m',1<=m'->m'<=r->Up kz p m'->(m'=r\/O.klt (Kp kz p m') (Kp kz p (m'-1)))->Q m')->Wr kz n (PySem.W.kas_asc p f m) Q
 |0,m,h1,hm,hu,k=>k m h1 (by lia) hu (.inl (by lia))
 |f+1,m,h1,hm,hu,k=>by
  refine⟨hp.in (by lia),hp.in (by lia),?_⟩;have hd:O.blt (kz (p.getD m 0)) (kz (p.getD (m-1) 0))=O.blt (Kp kz p m) (Kp kz p (m-1)):=rfl;rw[hd];cases hb:O.blt (Kp kz p m) (Kp kz p (m-1))with
  |true=>exact k m h1 (by lia) hu (.inr hb)
  |false=>exact aDl hp hr f (m+1) (by lia) (by lia) (hu.succ h1 hb) k
theorem xG(hr:r<=n):∀(f:Nat) (p:Array Nat) (m e:Nat),Pm n p->1<=m->m+f=r->Dn kz p m->e+1<=m->(∀i,m-(e+1)<=i->i<m->Kp kz p i=Kp kz p (m-1))->
  (∀p' m' e',Pm n p'->1<=m'->m'<=r->Dn kz p' m'->e'+1<=m'->(∀i,m'-(e'+1)<=i->i<m'->Kp kz p' i=Kp kz p' (m'-1))->Q (p',m',e'))->Wr kz n (PySem.W.kas_desc f p m e) Q
 |0,p,m,e,hp,h1,hm,hd,he,hq,k=>k p m e hp h1 (by lia) hd he hq
 |f+1,p,m,e,hp,h1,hm,hd,he,hq,k=>by
  have hsz:m<=p.size:=by rw[hp.sz];lia
  refine⟨hp.in (by lia),hp.in (by lia),?_⟩;have hx:O.blt (kz (p.getD m 0)) (kz (p.getD (m-1) 0))=O.blt (Kp kz p m) (Kp kz p (m-1)):=rfl;rw[hx];cases hb:O.blt (Kp kz p m) (Kp kz p (m-1))with
  |true=>
   have hd':Dn kz p (m+1):=hd.succ h1 (zEe hb);dsimp only;rw[if_pos rfl];by_cases hz:e>0
   ·rw[if_pos hz]
    refine xG hr f _ (m+1) 0 (yJ hp _ _) (by lia) (by lia) (λ i j hij hj=>?_) (by lia) (λ i u v=>by congr 1;lia) k;rw[qd hsz hq,qd hsz hq];exact hd' i j hij hj
   ·rw[if_neg hz]
    exact xG hr f p (m+1) 0 hp (by lia) (by lia) hd' (by lia) (λ i u v=>by congr 1;lia) k
  |false=>
   dsimp only;rw[if_neg (by simp)];refine⟨hp.in (by lia),hp.in (by lia),?_⟩;have hy:O.blt (kz (p.getD (m-1) 0)) (kz (p.getD m 0))=O.blt (Kp kz p (m-1)) (Kp kz p m):=rfl;rw[hy];cases hc:O.blt (Kp kz p (m-1)) (Kp kz p m)with
   |true=>exact k p m e hp h1 (by lia) hd he hq
   |false=>
    dsimp only;rw[if_neg (by simp)];have hee:Kp kz p m=Kp kz p (m-1):=zH7 hc hb;refine xG hr f p (m+1) (e+1) hp (by lia) (by lia) (hd.succ h1 hc) (by lia) (λ i u v=>?_) k;rw[show m+1-1=m by lia];by_cases hi:i=m
    ·rw[hi]
    ·rw[hee]
     exact hq i (by lia) (by lia)
theorem aFA(hr:r<=n)(hp:Pm n p)(h1:1<=m)(hm:m<=r)(hd:Dn kz p m)(k:∀m' p',Pm n p'->1<=m'->m'<=r->Up kz p' m'->Q (m',p')):Wr kz n (PySem.W.kas_tail3 m r p) Q:=by
 have hsz:m<=p.size:=by rw[hp.sz];lia
 refine Wr.bindI (aDl (yJ hp 0 m) hr (r-m) m h1 (by lia) (λ i j hij hj=>?_) λ m' a1 a2 a3 _=>k m' _ (yJ hp 0 m) a1 a2 a3);rw[aEd hsz,aEd hsz,if_pos (by lia),if_pos (by lia)];exact hd _ _ (by lia) (by lia)
theorem v4(hr:r<=n)(hp:Pm n p)(hm:m+1<=r)(hd:Dn kz p (m+1))(k:∀m' p',Pm n p'->1<=m'->m'<=r->Up kz p' m'->Q (m',p')):Wr kz n (PySem.W.kas_descPart m r p) Q:=by
 refine Wr.bindI (xG hr (r-(m+1)) p (m+1) 0 hp (by lia) (by lia) hd (by lia) (λ i u v=>by congr 1;lia) λ p' m' e' a1 a2 a3 a4 a5 a6=>?_);have hsz:m'<=p'.size:=by rw[a1.sz];lia
 dsimp only;by_cases hz:e'>0
 ·rw[if_pos hz]
  refine aFA hr (yJ a1 _ _) a2 a3 (λ i j hij hj=>?_) k;rw[qd hsz a6,qd hsz a6];exact a4 i j hij hj
 ·rw[if_neg hz]
  exact aFA hr a1 a2 a3 a4 k
theorem aGu(hr:r<=n)(hp:Pm n p)(h1:1<=r)(k:∀m' p',Pm n p'->1<=m'->m'<=r->Up kz p' m'->Q (m',p')):Wr kz n (PySem.W.kas_count r p) Q:=by
 refine Wr.bindI (aDl hp hr (r-1) 1 (zAS 1) (by lia) (λ i j hij hj=>by rw[show i=j by lia];exact zCl _) λ m a1 a2 a3 a4=>?_);by_cases hm:m=r
 ·rw[if_pos (by simpa using hm)]
  exact k m p hp a1 a2 a3
 ·rw[if_neg (by simpa using hm)]
  have hl:O.klt (Kp kz p m) (Kp kz p (m-1)):=a4.resolve_left hm;by_cases hg:m>1
  ·rw[if_pos hg]
   refine⟨hp.in (by lia),hp.in (by lia),?_⟩;have hx:O.blt (kz (p.getD 0 0)) (kz (p.getD (m-1) 0))=O.blt (Kp kz p 0) (Kp kz p (m-1)):=rfl;rw[hx];cases hb:O.blt (Kp kz p 0) (Kp kz p (m-1))with
   |true=>exact k m p hp a1 a2 a3
   |false=>
    dsimp only;rw[if_neg (by simp)];have hsz:m<=p.size:=by rw[hp.sz];lia
    have hall:∀i,0<=i->i<m->Kp kz p i=Kp kz p (m-1):=λ i _ hi=>zH7 (a3 i (m-1) (by lia) (by lia)) (zDj hb (a3 0 i (by lia) hi))
    refine v4 hr (yJ hp 0 m) (by lia) (λ i j hij hj=>?_) k;rw[qd hsz hall,qd hsz hall];by_cases hjm:j<m
    ·rw[hall i (by lia) (by lia),hall j (by lia) hjm];exact zCl _
    ·have hj':j=m:=by lia
     subst hj';by_cases hi:i=j
     ·rw[hi];exact zCl _
     ·rw[hall i (by lia) (by lia)];exact zEe hl
  ·rw[if_neg hg]
   have hm1:m=1:=by lia
   subst hm1;refine v4 hr hp (by lia) (λ i j hij hj=>?_) k;by_cases hi:i=j
   ·rw[hi];exact zCl _
   ·have e1:i=0:=by lia
    have e2:j=1:=by lia
    subst e1 e2;exact zEe hl
theorem xU(hp:Pm n p)(hc:c<n)(hu:Up kz p c):∀(f l r:Nat),l<=r->r<=c->r-l<=f->(∀i,i<l->O.kle (Kp kz p i) (Kp kz p c))->(∀i,r<=i->i<c->O.klt (Kp kz p c) (Kp kz p i))->
  (∀l',l'<=c->(∀i,i<l'->O.kle (Kp kz p i) (Kp kz p c))->(∀i,l'<=i->i<c->O.klt (Kp kz p c) (Kp kz p i))->Q l')->Wr kz n (zHg p c f l r) Q
 |0,l,r,a1,a2,a3,a4,a5,k=>by
  have e:l=r:=by lia
  subst e;exact k l a2 a4 a5
 |f+1,l,r,a1,a2,a3,a4,a5,k=>by
  unfold zHg;by_cases hg:l ≥ r
  ·rw[if_pos hg]
   have e:l=r:=by lia
   subst e;exact k l a2 a4 a5
  ·rw[if_neg hg]
   refine⟨hp.in hc,hp.in (by lia),?_⟩;have hx:O.blt (kz (p.getD c 0)) (kz (p.getD ((l+r) / 2) 0))=O.blt (Kp kz p c) (Kp kz p ((l+r) / 2)):=rfl;rw[hx];cases hb:O.blt (Kp kz p c) (Kp kz p ((l+r) / 2))with
   |true=>exact xU hp hc hu f l ((l+r) / 2) (by lia) (by lia) (by lia) a4 (λ i u v=>KeyOrd.klt_of_klt_of_kle hb (hu _ _ u v)) k
   |false=>exact xU hp hc hu f ((l+r) / 2+1) r (by lia) a2 (by lia) (λ i u=>zDj (hu i ((l+r) / 2) (by lia) (by lia)) hb) a5 k
theorem aGv:∀(f:Nat) (p:Array Nat) (c:Nat),Pm n p->c+f=n->Up kz p c->(∀p',Pm n p'->Up kz p' n->Q p')->Wr kz n (PySem.W.kas_bin f p c) Q
 |0,p,c,hp,hc,hu,k=>k p hp (by rw[show n=c by lia];exact hu)
 |f+1,p,c,hp,hc,hu,k=>by
  refine Wr.bindI (xU hp (by lia) hu c 0 c (by lia) (zAS c) (by lia) (λ i u=>by lia) (λ i u v=>by lia) λ l a1 a2 a3=>?_);refine aGv f _ (c+1) ((bubble_perm _ _ _).trans hp) (by lia) (λ i j hij hj=>?_) k;have hs:c<p.size:=by rw[hp.sz];lia
  rw[aIb hs (by lia),aIb hs (by lia),show c-(c-l)=l by lia]
  repeat' split
  all_goals first
   |(exfalso;lia)
   |exact O.irrefl _
   |exact a2 _ (by lia)
   |exact KeyOrd.klt_asymm (a3 _ (by lia) (by lia))
   |exact hu _ _ (by lia) (by lia)
theorem aJc(h1:1<=n)(k:∀p,Pm n p->Up kz p n->Q p):Wr kz n (PySem.W.kas_sort n) Q:=by
 refine Wr.bindI (aGu (zAS n) (zH5 _) h1 λ m p a1 a2 a3 a4=>?_);dsimp only;by_cases hm:m<n
 ·rw[if_pos hm]
  exact aGv _ p _ a1 (by lia) (by rw[show max m 1=m by lia];exact a4) k
 ·rw[if_neg hm]
  exact k p a1 (by rw[show n=m by lia];exact a4)
theorem aCT{I:zAF->Prop}(hc:∀i j (C:Bool->zAF->Prop) s,I s->i<n->j<n->(∀s',I s'->C (O.blt (kz i) (kz j)) s')->cmp i j C s):
  ∀(t:zHK α) (s:zAF),I s->Wr kz n t (λ a=>∀s',I s'->Q a s')->t.kasWp cmp Q s
 | .ret a,s,hI,h=>h s hI
 | .ask i j k,s,hI,⟨h1,h2,h3⟩=>hc i j _ s hI h1 h2 λ s' hI'=>aCT hc _ s' hI' h3
end
theorem aBn:∀a:List Int,HT.lexLt a a=false
 |[]=>rfl
 |x::a=>by rw[HT.lL,if_pos rfl];exact aBn a
theorem uE:∀a b c:List Int,HT.lexLt a b=true->HT.lexLt b c=true->HT.lexLt a c=true
 |[],[],c,h,_=>by cases h
 |[],_::_,[],_,h=>by cases h
 |[],_::_,_::_,_,_=>rfl
 |_::_,[],_,h,_=>by cases h
 |_::_,_::_,[],_,h=>by cases h
 |x::a,y::b,z::c,h1,h2=>by
  rw[HT.lL]at h1 h2 ⊢;by_cases e1:x=y
  ·subst e1
   rw[if_pos rfl]at h1;by_cases e2:x=z
   ·rw[if_pos e2]at h2 ⊢
    exact uE a b c h1 h2
   ·rw[if_neg e2]at h2 ⊢
    exact h2
  ·rw[if_neg e1]at h1
   simp only[decide_eq_true_eq]at h1;by_cases e2:y=z
   ·subst e2
    rw[if_neg e1];simpa using h1
   ·rw[if_neg e2]at h2
    simp only[decide_eq_true_eq]at h2;rw[if_neg (by lia)];simp only[decide_eq_true_eq];lia
theorem aBm:∀a b:List Int,HT.lexLt a b=false->HT.lexLt b a=false->a=b
 |[],[],_,_=>rfl
 |[],_::_,h,_=>by cases h
 |_::_,[],_,h=>by cases h
 |x::a,y::b,h1,h2=>by
  rw[HT.lL]at h1 h2;by_cases e:x=y
  ·subst e
   rw[if_pos rfl]at h1 h2;rw[aBm a b h1 h2]
  ·rw[if_neg e]at h1
   rw[if_neg λ q=>e q.symm]at h2;simp only[decide_eq_false_iff_not]at h1 h2;lia
theorem aIZ(a b c:List Int)(h:HT.lexLt a c=true):HT.lexLt a b=true\/HT.lexLt b c=true:=by
 cases e1:HT.lexLt a b with
 |true=>exact .inl rfl
 |false=>
  right;cases e2:HT.lexLt b a with
  |true=>exact uE b a c e2 h
  |false=>rw[<-aBm a b e1 e2];exact h
def aE6:zFm:=⟨List Int,HT.lexLt,aBn,uE,aIZ,aBm⟩
inductive fM(h:Heap):List Value->List (List Int)->Prop where
 |nil:fM h [] []
 |cons {x:Addr} {o:Obj} {xs:Array Value} {k:Nat} {ns:List Int} {vs:List Value} {nss:List (List Int)} (ho:h.get? x=some o) (hc:o.cls= .type "tuple") (hd:o.data= .seq xs k) (hi:zBD xs.toList ns) (hne:ns≠[]) (r:fM h vs nss):fM h (.ref x::vs) (ns::nss)
theorem fM.mono(k:∀x o,h.get? x=some o->o.cls= .type "tuple"->h'.get? x=some o):∀{vs:List Value} {nss:List (List Int)},fM h vs nss->fM h' vs nss
 |_,_,.nil=>.nil
 |_,_,.cons ho hc hd hi hne r=>.cons (k _ _ ho hc) hc hd hi hne (fM.mono k r)
theorem fM.at:∀{vs:List Value} {nss:List (List Int)} {i:Nat},fM h vs nss->i<vs.length->∃x o xs k,vs.getD i zB6= .ref x/\h.get? x=some o/\o.cls= .type "tuple"/\o.data= .seq xs k/\zBD xs.toList (nss.getD i [])/\nss.getD i []≠[]
 |_,_,_,.nil,hi=>by simp at hi
 |_,_,0,.cons ho hc hd hi hne _,_=>⟨_,_,_,_,rfl,ho,hc,hd,hi,hne⟩
 |_,_,i+1,.cons _ _ _ _ _ r,hi=>by
  obtain⟨x,o,xs,k,q⟩:=fM.at (i:=i) r (by simpa using hi);exact⟨x,o,xs,k,by simpa using q⟩
theorem fM.firsts:∀{vs:List Value} {nss:List (List Int)},fM h vs nss->∃fs,PySem.W.KatTups h vs fs/\fs.length=vs.length/\∀f∈fs,∃n t,f=zCS n t
 |_,_,.nil=>⟨[],.nil,rfl,λ f hf=>by simp at hf⟩
 |_,_,.cons (xs:=xs) ho hc hd hi hne r=>by
  obtain⟨fs,h1,h2,h3⟩:=fM.firsts r;obtain⟨l,rfl⟩:∃l:List Value,xs=l.toArray:=⟨xs.toList,by simp⟩
  rw[show l.toArray.toList=l by simp]at hi;cases hi with
  |nil=>exact absurd rfl hne
  |cons n t q=>
   rename_i l' ns';refine⟨.int n t::fs,.cons ho hc hd (by simp) h1,by simp[h2],λ f hf=>?_⟩;rcases zAN.mp hf with rfl|hf
   ·exact⟨n,t,rfl⟩
   ·exact h3 f hf
section
variable{prog:zA2}{w:World}{A:zAe}{E:Value->zAF->Prop}{s:zAF}
theorem aDR:∀{xs ys:List Value} {ns ms:List Int} (i:Nat),zBD xs ns->zBD ys ms->fin=decide (xs.length<ys.length)->Q (HT.lexLt ns ms) s->PySem.W.KatLex prog w A b fin Q (xs.zip ys) i s:=by
 intro xs ys ns ms i hx;induction hx generalizing ys ms i with
 |nil=>intro hy hf q;cases hy<;>(subst hf;exact q)
 |@cons x t xs ns r ih=>
  intro hy hf q;cases hy with
  |nil=>subst hf;exact q
  |@cons y u ys ms r'=>?_
  rw[zBM];refine PySem.W.kat_cons (wpAny_eqBool_int ?_);rw[HT.lL]at q;by_cases e:x=y
  ·rw[if_pos e]at q
   rw[show(x==y)=true by simpa using e];exact PySem.W.kat_yes (ih (i+1) r' (by rw[hf];simp) q)
  ·rw[if_neg e]at q
   rw[show(x==y)=false by simpa using e];refine PySem.W.kat_no ?_;cases hb:(b&&i==0)with
   |true=>exact oneLt_int q
   |false=>exact PySem.W.kat_one _ _ (zFn q)
theorem aEg(hx:s.heap.get? x=some ox)(dx:ox.data= .seq xs n)(hy:s.heap.get? y=some oy)(dy:oy.data= .seq ys k)(hi:zBD xs.toList ns)(hj:zBD ys.toList ms)
  (q:Q (HT.lexLt ns ms) s):wpAny (model prog w) A (keyLt' (tuples' b) (.ref x) (.ref y)) Q E s:=
 PySem.W.kat_lt hx dx hy dy (aDR 0 hi hj (by simp) q)
def qx(vs:List Value)(p:Array Nat):Array Value:=(p.toList.map λ i=>vs.getD i zB6).toArray
theorem aJa(h:vs.length<2):(vs.toArray.zip vs.toArray).map (·.2)=qx vs (zAp vs.length).toArray:=by
 cases vs with
 |nil=>simp[qx]
 |cons v t=>
  cases t with
  |nil=>simp[qx]
  |cons u t=>exact absurd h (zFB.mpr (Nat.le_add_left 2 t.length))
theorem aE5(ho:s.heap.get? a=some (zBi "list" vs.toArray c))(ht:fM s.heap vs nss)(h64:vs.length<64)
  (h:∀p:Array Nat,Pm vs.length p->Up (O:=aE6) (λ i=>nss.getD i []) p vs.length->P (.done (.ret .none)) {s with heap:=zGd s.heap a vs (qx vs p)}):
  wpAny (model prog w) A (zEM.«list.sort» ⟨[.ref a],[]⟩) P E s:=by
 have hlt:a<s.heap.objs.size:=zAQ ho;have hz:vs.length<=zAW:=by rw[zBr];lia
 obtain⟨e1,ho1⟩:∃e1,(s.heap.update a (zCA λ _=>(#[]:Array Value))).get? a=some (zBi "list" #[] e1):=⟨_,zDc ho λ _=>#[]⟩
 have keep:∀x o,s.heap.get? x=some o->o.cls= .type "tuple"->(((s.heap.update a (zCA λ _=>(#[]:Array Value))).push (zBi "tuple" vs.toArray 0)).push (zBi "list" #[] 0)).get? x=some o:=λ x o e q=>by
  have hxa:x≠a:=λ z=>by
   subst z;rw[ho]at e;cases e;exact absurd q (show¬(zCj "list"=zCj "tuple")by decide)
  refine zAC _ (zAC _ ?_);rw[zCE _ _ _ _ hxa];exact e
 have ho6:(((s.heap.update a (zCA λ _=>(#[]:Array Value))).push (zBi "tuple" vs.toArray 0)).push (zBi "list" #[] 0)).get? a=some (zBi "list" #[] e1):=zAC _ (zAC _ ho1);have ht6:=ht.mono keep;rw[list_sort_plain];refine zAD (listItems_at ho rfl (zAD (zIF ho rfl ?_ (by rw[zAP];exact hz) (zA9 _))));refine zAD (zIw ho1 rfl (zAD (wpAny_newTuple ?_ (by show vs.length<=_;exact hz))));refine zAD (zIL (zBb ?_) (zA9 _));show wpAny (model prog w) A _ P E {s with heap:=((s.heap.update a (zCA λ _=>(#[]:Array Value))).push (zBi "tuple" vs.toArray 0)).push (zBi "list" #[] 0)};dsimp only;have hsz:∀p:Array Nat,Pm vs.length p->(qx vs p).size=vs.length:=λ p a1=>by unfold qx;rw[zAP,zAE,zA7,a1.sz]
 by_cases h2:vs.toArray.size<2
 ·rw[if_pos h2,if_pos h2]
  refine zAD (zAR ?_);rw[StateT.run_pure];refine zAD (zAR ?_);have h2':vs.length<2:=by simpa using h2
  have a1:Pm vs.length (zAp vs.length).toArray:=zH5 _;have a3:=aJa h2';dsimp only;refine zAD (zIw ho6 rfl ?_);show wpAny (model prog w) A (Builtin.List.listUpdate (.ref a) (λ _=>(vs.toArray.zip vs.toArray).map (·.2))>>=_) P E _;rw[a3];refine zAD (zIF ho6 rfl ?_ (zA9 _) (by show(qx vs _).size<=_;rw[hsz _ a1];lia));simp only[bne_self_eq_false,zAu,if_false];exact zAR (h _ a1 λ i j hij hj=>by rw[show i=j by lia];exact aBn _)
 ·rw[if_neg h2,if_neg h2]
  have h2':2<=vs.length:=zDx (show¬vs.length<2 by simpa using h2);obtain⟨fs,f1,f2,f3⟩:=ht6.firsts;refine zAD (PySem.W.kat_kind (T:=.type "int") f1 (by lia) (λ v hv=>?_) (by decide) ?_)
  ·obtain⟨n,t,rfl⟩:=f3 v hv
   exact zJT
  rw[show(zCj "int" !=zCj "tuple")=true by decide];refine zAD (zAy (PySem.W.kat_run (κ:=tuples' true) (ks:=vs) (vs:=vs) (Q:=λ st s'=>s'={s with heap:=((s.heap.update a (zCA λ _=>(#[]:Array Value))).push (zBi "tuple" vs.toArray 0)).push (zBi "list" #[] 0)}/\∃p:Array Nat,Pm vs.length p/\Up (O:=aE6) (λ i=>nss.getD i []) p vs.length/\(arrOf st).map (·.2)=qx vs p/\failedOf st=none)
   (G:=λ p s'=>s'={s with heap:=((s.heap.update a (zCA λ _=>(#[]:Array Value))).push (zBi "tuple" vs.toArray 0)).push (zBi "list" #[] 0)}/\Pm vs.length p/\Up (O:=aE6) (λ i=>nss.getD i []) p vs.length)
   rfl h2' h64 (λ p st s' _ b2 b3 b4=>⟨b4.1,p,b4.2.1,b4.2.2,PySem.W.kat_snds rfl b2,b3⟩) ?_) (λ r s' hr=>?_) λ _ _ e=>e)
  ·refine aCT (O:=aE6) (kz:=λ i=>nss.getD i []) (n:=vs.length) (I:=λ s'=>s'={s with heap:=((s.heap.update a (zCA λ _=>(#[]:Array Value))).push (zBi "tuple" vs.toArray 0)).push (zBi "list" #[] 0)}) (λ i j C s' hI hi hj hC=>?_) _ _ rfl (aJc (by lia) λ p a1 a2 s' hs'=>⟨hs',a1,a2⟩)
   subst hI;unfold PySem.W.kas_ask;obtain⟨x,ox,xs,kx,x1,x2,_,x4,x5,_⟩:=ht6.at hi;obtain⟨y,oy,ys,ky,y1,y2,_,y4,y5,_⟩:=ht6.at hj;rw[x1,y1];exact aEg x2 x4 y2 y4 x5 y5 (hC _ rfl)
  ·obtain⟨⟨⟩,st⟩:=r
   obtain⟨e,p,b1,b2,b3,b4⟩:=hr;subst e;refine zAD (zIw ho6 rfl ?_);rw[b3,b4];refine zAD (zIF ho6 rfl ?_ (zA9 _) (by show(qx vs p).size<=_;rw[hsz p b1];lia));simp only[bne_self_eq_false,zAu,if_false];exact zAR (h p b1 b2)
end
theorem sub_len[BEq α][LawfulBEq α]:∀{l l':List α},l.Nodup->(∀x∈l,x∈l')->l.length<=l'.length
 |[],_,_,_=>zA9 _
 |x::l,l',nd,h=>by
  have hx:x∈l':=h x zAI;have ih:=sub_len (l:=l) (l':=l'.erase x) (zB1.mp nd).2 λ y hy=>(List.mem_erase_of_ne λ e=>by subst e;exact(zB1.mp nd).1 hy).mpr (h y (zAL _ hy))
  rw[List.length_erase_of_mem hx]at ih
  have:0<l'.length:=List.length_pos_of_mem hx
  rw[zAY];lia
def Ris(xs:Array Nat):Prop:=∀i j,i<j->j<xs.size->xs.getD i 0<xs.getD j 0
theorem aCM(hr:Ris xs):∀(f lo hi:Nat),lo<=hi->hi<=xs.size->hi-lo<=f->(∀i,i<lo->xs.getD i 0<j)->(∀i,hi<=i->i<xs.size->j<=xs.getD i 0)->
  zDQ xs j f lo hi<=xs.size/\(∀i,i<zDQ xs j f lo hi->xs.getD i 0<j)/\∀i,zDQ xs j f lo hi<=i->i<xs.size->j<=xs.getD i 0
 |0,lo,hi,h1,h2,h3,h4,h5=>by
  have e:lo=hi:=by lia
  subst e;exact⟨h2,h4,h5⟩
 |f+1,lo,hi,h1,h2,h3,h4,h5=>by
  unfold zDQ;by_cases hl:lo<hi
  ·rw[if_pos hl]
   dsimp only;have hm:(lo+hi) / 2<xs.size:=by lia
   have e:xs.getD ((lo+hi) / 2) j=xs.getD ((lo+hi) / 2) 0:=by simp[zCW,hm]
   rw[e];by_cases hc:xs.getD ((lo+hi) / 2) 0<j
   ·rw[if_pos hc]
    refine aCM hr f _ hi (by lia) h2 (by lia) (λ i hi'=>?_) h5;by_cases q:i=(lo+hi) / 2
    ·rw[q];exact hc
    ·exact zFT (hr i ((lo+hi) / 2) (by lia) hm) hc
   ·rw[if_neg hc]
    refine aCM hr f lo _ (by lia) (by lia) (by lia) h4 λ i q1 q2=>?_
    by_cases q:i=(lo+hi) / 2
    ·rw[q];lia
    ·have:=hr ((lo+hi) / 2) i (by lia) q2
     lia
  ·rw[if_neg hl]
   have e:lo=hi:=by lia
   subst e;exact⟨h2,h4,h5⟩
theorem u9(hr:Ris xs)(j:Nat):zAl xs j<=xs.size/\(∀i,i<zAl xs j->xs.getD i 0<j)/\∀i,zAl xs j<=i->i<xs.size->j<=xs.getD i 0:=
 aCM hr xs.size 0 xs.size (zA9 _) (zAS _) (by lia) (λ i h=>by lia) λ i h1 h2=>by lia
structure iy(t:zDG)(n:Nat):Prop where
 dum:t.dummies=#[]
 siz:t.place.size=n
 ris:Ris t.place
 top:∀i,i<n->t.place.getD i 0<=t.mask
 msk:t.mask=7/\n<5\/t.mask=31/\n<19\/t.mask=127/\n<77
 pla:t.plain=true
theorem iy.fresh(led:Bool):iy (zIC 0 0 led) 0:=⟨rfl,rfl,λ i j _ h=>by simp[zIC]at h,λ i h=>by lia,.inl ⟨rfl,by lia⟩,rfl⟩
theorem iy.few(h:iy t n):n<t.mask:=by
 rcases h.msk with ⟨e,l⟩|⟨e,l⟩|⟨e,l⟩<;>lia
theorem iy.fill(h:iy t n):t.fill=n:=by unfold zIU;rw[h.dum,h.siz];rfl
theorem iy.fits(h:iy t n):t.fits n=true:=by
 unfold zIV;rw[h.fill,h.siz]
 have:=h.few
 simp;lia
theorem aBM(h:iy t n)(j:Nat):t.slot j= .empty\/∃i,i<n/\t.slot j= .live i/\t.place.getD i 0=j:=by
 unfold zIW;dsimp only;by_cases e:(t.place[zAl t.place j]? ==some j)=true
 ·rw[if_pos e]
  have e':=beq_iff_eq.mp e;obtain⟨h1,h2⟩:=zCZ.mp e';exact .inr ⟨_,by rw[<-h.siz];exact h1,rfl,by simp[zCW,h1,h2]⟩
 ·rw[if_neg e]
  have:zDr t.dummies j=false:=by rw[h.dum];unfold zDr;simp
  rw[this];exact .inl (by simp)
theorem aHM(h:iy t n)(e:t.slot j= .empty):∀i,i<n->t.place.getD i 0≠j:=by
 intro i hi q;obtain⟨b1,b2,b3⟩:=u9 h.ris j;have hb:zAl t.place j=i:=by
  rcases zIb (zAl t.place j) i with z|z|z
  ·have z1:=b3 _ (zAS _) (by rw[h.siz];lia)
   have z2:=h.ris _ i z (by rw[h.siz];exact hi);lia
  ·exact z
  ·have:=b2 i z
   lia
 have hi':i<t.place.size:=by rw[h.siz];exact hi
 have e2:t.place[i]? =some j:=by rw[zCZ];exact⟨hi',by rw[<-q];simp[zCW,hi']⟩
 unfold zIW at e;dsimp only at e;rw[hb,e2]at e;simp at e
def pK(mask:Nat):Nat->Nat×Nat->Nat×Nat
 |0,st=>st
 |k+1,st=>pK mask k (zBQ mask st.1 st.2)
theorem aDE(mask:Nat):∀(k:Nat) (st:Nat×Nat),(pK mask k st).2=st.2 / 32^k
 |0,st=>by simp[pK]
 |k+1,st=>by
  show(pK mask k (zBQ mask st.1 st.2)).2=_
  rw[aDE mask k];show st.2 / 32 / 32^k=_;rw[Nat.div_div_eq_div_mul,Nat.pow_succ,Nat.mul_comm]
theorem aDH(mask:Nat):∀(j k:Nat) (st:Nat×Nat),pK mask (j+k) st=pK mask k (pK mask j st)
 |0,k,st=>by rw[zHf];rfl
 |j+1,k,st=>by
  rw[show j+1+k=(j+k)+1 by lia];exact aDH mask j k _
def orb(M:Nat):Nat->Nat->Nat
 |0,i=>i
 |k+1,i=>orb M k ((i*5+1)%M)
theorem xK(M:Nat):∀(j k i:Nat),orb M (j+k) i=orb M k (orb M j i)
 |0,k,i=>by rw[zHf];rfl
 |j+1,k,i=>by
  rw[show j+1+k=(j+k)+1 by lia];exact xK M j k _
theorem aDF(mask:Nat):∀(k i:Nat),pK mask k (i,0)=(orb (mask+1) k i,0)
 |0,i=>rfl
 |k+1,i=>by
  show pK mask k (zBQ mask i 0)=_
  have:zBQ mask i 0=((i*5+1)%(mask+1),0):=by simp[zBQ]
  rw[this];exact aDF mask k _
theorem aGT:∀M∈[8,32,128],(∀t∈zAp M,∃k∈zAp M,orb M k 0=t)/\orb M M 0=0:=by decide+kernel
theorem aKS(hm:mask=7\/mask=31\/mask=127)(hi:i<=mask)(ht:t<=mask):∃k,k<=mask/\orb (mask+1) k i=t:=by
 have hM:mask+1∈[8,32,128]:=by rcases hm with e|e|e<;>subst e<;>decide
 obtain⟨h1,h2⟩:=aGT _ hM;obtain⟨a,ha,ea⟩:=h1 i (by simp;lia);obtain⟨b,hb,eb⟩:=h1 t (by simp;lia);simp only[zBO]at ha hb;by_cases hab:a<=b
 ·refine⟨b-a,by lia,?_⟩
  rw[<-ea,<-xK,show a+(b-a)=b by lia,eb]
 ·refine⟨mask+1-a+b,by lia,?_⟩
  rw[<-ea,<-xK,show a+(mask+1-a+b)=(mask+1)+b by lia,xK,h2,eb]
theorem aLN(h:Int):zAx h<2^64:=by
 unfold zAx;have h1:=zD0 h (show(2^64:Int)≠0 by decide);have h2:=zCw h (show(0:Int)<2^64 by decide);lia
theorem aDG(hm:mask=7\/mask=31\/mask=127)(h:Int)(ht:t<=mask)(i₀:Nat):∃k,k<mask+15/\(pK mask k (i₀,zAx h)).1=t:=by
 have e1:(pK mask 13 (i₀,zAx h)).2=0:=by
  rw[aDE]
  have:=aLN h
  exact Nat.div_eq_of_lt (zFT this (by decide))
 have e2:(pK mask 13 (i₀,zAx h)).1<=mask:=by
  show(pK mask 12 (zBQ mask i₀ (zAx h))).1<=mask
  have go:∀k (st:Nat×Nat),st.1<=mask->(pK mask k st).1<=mask:=by
   intro k;induction k with
   |zero=>intro st q;exact q
   |succ k ih=>
    intro st q;refine ih _ ?_
    show(st.1*5+1+st.2 / 32)%(mask+1)<=mask
    exact zC5 (zDk _ (zD7 _))
  refine go 12 _ ?_
  show(i₀*5+1+zAx h / 32)%(mask+1)<=mask
  exact zC5 (zDk _ (zD7 _))
 obtain⟨k,hk,ek⟩:=aKS hm e2 ht;refine⟨13+k,by lia,?_⟩;rw[aDH];have e3:pK mask 13 (i₀,zAx h)=((pK mask 13 (i₀,zAx h)).1,0):=by rw[<-e1]
 rw[e3,aDF];exact ek
theorem aA3(hi:i<=mask):i<=zBZ mask i/\zBZ mask i<=mask/\zBZ mask i<=i+9:=by
 unfold zBZ;split<;>lia
section
variable{t:zDG}{n:Nat}{hashAt:Nat->Int}{h:Int}
abbrev aFM(t:zDG)(i pert:Nat):zF7:={j:=i,more:=zBZ t.mask i-i,i:=i,perturb:=pert,dummy:=none}
theorem aJD(fuel:Nat)(p:zF7):zBl t hashAt h (fuel+1) p=(match t.slot p.j with
  | .empty=>some (.empty p.j p.dummy)
  | .dummy=>zBl t hashAt h fuel (t.advance {p with dummy:=some p.j})
  | .live i=>if hashAt i==h then some (.candidate p.j i (t.advance p))else zBl t hashAt h fuel (t.advance p)):=rfl
theorem aJC(T:iy t n)(hh:∀i,i<n->hashAt i≠h):∀(m fuel:Nat) (p:zF7),p.more=m->p.dummy=none->
  (∃j,p.j<=j/\j<=p.j+m/\t.slot j= .empty/\zBl t hashAt h (fuel+m+1) p=some (.empty j none))\/
  (t.slot p.j≠.empty/\zBl t hashAt h (fuel+m+1) p=zBl t hashAt h fuel (aFM t (zBQ t.mask p.i p.perturb).1 (zBQ t.mask p.i p.perturb).2))
 |0,fuel,p,hm,hd=>by
  rw[show fuel+0+1=fuel+1 from rfl,aJD];rcases aBM T p.j with e|⟨i,hi,e,_⟩
  ·rw[e]
   exact .inl ⟨p.j,zAS _,zAS _,e,by rw[hd]⟩
  ·rw[e]
   right;refine⟨by simp,?_⟩;dsimp only;rw[if_neg (by simpa using hh i hi)];congr 1;unfold zHi;rw[if_neg (by lia)];simp[aFM,hd]
 |m+1,fuel,p,hm,hd=>by
  rw[aJD];rcases aBM T p.j with e|⟨i,hi,e,_⟩
  ·rw[e]
   exact .inl ⟨p.j,zAS _,by lia,e,by rw[hd]⟩
  ·rw[e]
   dsimp only;rw[if_neg (by simpa using hh i hi)];have ha:t.advance p={p with j:=p.j+1,more:=p.more-1}:=by
    unfold zHi;rw[if_pos (by lia)]
   rw[ha];rcases aJC T hh m fuel {p with j:=p.j+1,more:=p.more-1} (by show p.more-1=m;lia) hd with ⟨j,q1,q2,q3,q4⟩|⟨q1,q2⟩
   ·exact .inl ⟨j,by show p.j<=j;have:p.j+1<=j:=q1;lia,by have:j<=p.j+1+m:=q2;lia,q3,q4⟩
   ·exact .inr ⟨by simp,q2⟩
theorem aFk(T:iy t n)(hh:∀i,i<n->hashAt i≠h):∀(N fuel i pert:Nat),i<=t.mask->10*N<=fuel->
  (∃j,j<=t.mask/\t.slot j= .empty/\zBl t hashAt h fuel (aFM t i pert)=some (.empty j none))\/∀k,k<N->t.slot (pK t.mask k (i,pert)).1≠.empty
 |0,fuel,i,pert,hi,hf=>.inr λ k hk=>by lia
 |N+1,fuel,i,pert,hi,hf=>by
  obtain⟨r1,r2,r3⟩:=aA3 hi;obtain⟨f',rfl⟩:∃f',fuel=f'+(zBZ t.mask i-i)+1:=⟨fuel-(zBZ t.mask i-i)-1,by lia⟩
  rcases aJC T hh (zBZ t.mask i-i) f' (aFM t i pert) rfl rfl with ⟨j,q1,q2,q3,q4⟩|⟨q1,q2⟩
  ·exact .inl ⟨j,by have:j<=i+(zBZ t.mask i-i):=q2;lia,q3,q4⟩
  ·have hl:(zBQ t.mask i pert).1<=t.mask:=zC5 (zDk _ (zD7 _))
   rcases aFk T hh N f' _ (zBQ t.mask i pert).2 hl (by lia)with ⟨j,s1,s2,s3⟩|s
   ·exact .inl ⟨j,s1,s2,q2.trans s3⟩
   ·right
    intro k hk;cases k with
    |zero=>exact q1
    |succ k=>exact s k (by lia)
theorem iy.mask3(T:iy t n):t.mask=7\/t.mask=31\/t.mask=127:=by
 rcases T.msk with ⟨e,_⟩|⟨e,_⟩|⟨e,_⟩
 ·exact .inl e
 ·exact .inr (.inl e)
 ·exact .inr (.inr e)
theorem aEP(T:iy t n)(hh:∀i,i<n->hashAt i≠h):∃j,j<=t.mask/\t.slot j= .empty/\t.probe hashAt h (t.probeStart h)=some (.empty j none):=by
 have hs:zAx h%(t.mask+1)<=t.mask:=zC5 (zDk _ (zD7 _));rcases aFk T hh (t.mask+15) (10*zCy t.mask) _ (zAx h) hs (by unfold zCy;lia)with z|z
 ·exact z
 ·exfalso
  have hall:∀x∈zAp (t.mask+1),x∈t.place.toList:=by
   intro x hx;simp only[zBO]at hx;obtain⟨k,hk,ek⟩:=aDG T.mask3 h (t:=x) (by lia) (zAx h%(t.mask+1))
   have:=z k hk
   rw[ek]at this;rcases aBM T x with e|⟨i,hi,_,e⟩
   ·exact absurd e this
   ·rw[<-e]
    have hi':i<t.place.size:=by rw[T.siz];exact hi
    rw[show t.place.getD i 0=t.place[i]by simp[zCW,hi']];exact Array.getElem_mem_toList hi'
  have:=sub_len zI9 hall
  have h2:=T.few;rw[zEp,zA7,T.siz]at this;lia
end
theorem xO(xs:Array α)(p:Nat)(x d:α)(hp:p<=xs.size)(i:Nat):(zBG xs p x).getD i d=if i<p then xs.getD i d else if i=p then x else xs.getD (i-1) d:=by
 have e:∀(ys:Array α) i,ys.getD i d=(ys.toList[i]?).getD d:=λ ys i=>by rw[zBg,zBn]
 rw[e,e,e,SetTable.toList_insertAt];have hl:p<=xs.toList.length:=by simpa using hp
 by_cases h1:i<p
 ·rw[if_pos h1,zBB (by rw[zDP];lia),List.getElem?_take,if_pos h1]
 ·rw[if_neg h1,zC3 (by rw[zDP];lia),zDP,Nat.min_eq_left hl]
  by_cases h2:i=p
  ·rw[if_pos h2,h2,zFU]
   rfl
  ·rw[if_neg h2,show i-p=(i-p-1)+1 by lia,zAz,List.getElem?_drop]
   congr 2;lia
theorem uH(xs:Array α)(p:Nat)(x:α):(zBG xs p x).size=xs.size+1:=by
 rw[<-zA7,(zG7 xs p x).length_eq,zEk];simp
theorem v6{t:zDG}(hf:t.fill=n):t.tooFull=decide (t.mask*3<=n*5):=by unfold SetTable.tooFull;rw[hf]
structure qU(t:zDG)(n:Nat):Prop where
 dum:t.dummies=#[]
 siz:t.place.size=n
 ris:Ris t.place
 top:∀i,i<n->t.place.getD i 0<=t.mask
 msk:t.mask=7/\n<=5\/t.mask=31/\n<=19\/t.mask=127/\n<77
 pla:t.plain=true
theorem qU.fill(h:qU t n):t.fill=n:=by unfold zIU;rw[h.dum,h.siz];rfl
theorem qU.fits(h:qU t n):t.fits n=true:=by
 unfold zIV;rw[h.fill,h.siz]
 have:=h.msk
 simp;lia
theorem aM0(T:iy t n)(h64:n<63)(hj:j<=t.mask)(he:t.slot j= .empty):qU (t.put j).1 (n+1)/\(t.put j).2=zAl t.place j/\(t.put j).2<=n/\(t.put j).1.mask=t.mask/\(t.put j).1.led=t.led:=by
 have hno:=aHM T he;obtain⟨b1,b2,b3⟩:=u9 T.ris j;have hsz:=T.siz;have hg:=xO t.place (zAl t.place j) j 0 b1;refine⟨⟨?_,?_,?_,?_,?_,T.pla⟩,rfl,by rw[<-hsz];exact b1,rfl,rfl⟩
 ·show(if zDr t.dummies j then SetTable.eraseAt t.dummies (zAl t.dummies j)else t.dummies)=#[]
  rw[T.dum]
  have:zDr #[] j=false:=by unfold zDr;simp
  rw[this];rfl
 ·show(zBG t.place _ j).size=n+1
  rw[uH,hsz]
 ·intro a b hab hb
  have hb':b<n+1:=by
   have:b<(zBG t.place (zAl t.place j) j).size:=hb
   rw[uH,hsz]at this;exact this
  show(zBG t.place (zAl t.place j) j).getD a 0<(zBG t.place (zAl t.place j) j).getD b 0
  rw[hg,hg];by_cases a1:a<zAl t.place j
  ·rw[if_pos a1]
   by_cases c1:b<zAl t.place j
   ·rw[if_pos c1];exact T.ris a b hab (by lia)
   ·rw[if_neg c1]
    by_cases c2:b=zAl t.place j
    ·rw[if_pos c2];exact b2 a a1
    ·rw[if_neg c2]
     exact T.ris a (b-1) (by lia) (by lia)
  ·rw[if_neg a1,if_neg (show¬b<zAl t.place j by lia),if_neg (show¬b=zAl t.place j by lia)]
   by_cases a2:a=zAl t.place j
   ·rw[if_pos a2]
    have q1:=b3 (b-1) (by lia) (by lia);have q2:=hno (b-1) (by lia);lia
   ·rw[if_neg a2]
    exact T.ris (a-1) (b-1) (by lia) (by lia)
 ·intro i hi
  show(zBG t.place (zAl t.place j) j).getD i 0<=t.mask
  rw[hg];split
  ·exact T.top i (by lia)
  ·split
   ·exact hj
   ·exact T.top (i-1) (by lia)
 ·have:=T.msk
  show t.mask=7/\n+1<=5\/t.mask=31/\n+1<=19\/t.mask=127/\n+1<77;lia
theorem qU.still{t:zDG}(h:qU t n)(hf:t.tooFull=false):iy t n:=by
 rw[v6 h.fill]at hf;simp only[decide_eq_false_iff_not]at hf;refine⟨h.dum,h.siz,h.ris,h.top,?_,h.pla⟩;rcases h.msk with ⟨e,l⟩|⟨e,l⟩|⟨e,l⟩<;>rw[e]at hf
 ·exact .inl ⟨e,by lia⟩
 ·exact .inr (.inl ⟨e,by lia⟩)
 ·exact .inr (.inr ⟨e,by lia⟩)
theorem qU.full{t:zDG}(h:qU t n)(h64:n<=63)(hf:t.tooFull=true):n=5\/n=19:=by
 rw[v6 h.fill]at hf;simp only[decide_eq_true_eq]at hf
 have:=h.msk
 lia
def heldBy(owner:Array (Option Nat)):List Nat:=owner.toList.filterMap id
theorem yu:∀(l:List (Option Nat)) (j x:Nat),l[j]? =some none->((l.set j (some x)).filterMap id).Perm (x::l.filterMap id)
 |[],j,x,h=>by simp at h
 |a::l,0,x,h=>by
  simp at h;subst h;exact zBE _
 |none::l,j+1,x,h=>by
  have ih:=yu l j x (by simpa using h);simpa using ih
 |some a::l,j+1,x,h=>by
  have ih:=yu l j x (by simpa using h)
  have:(((some a::l).set (j+1) (some x)).filterMap id).Perm (a::x::l.filterMap id):=by
   simpa using ih.cons a
  exact this.trans (zDU _ _ _)
theorem aAj:∀(l:List (Option Nat)),(∀j,j<l.length->∃x,l[j]? =some (some x))->(l.filterMap id).length=l.length
 |[],_=>rfl
 |a::l,h=>by
  obtain⟨x,e⟩:=h 0 (by simp);have ex:a=some x:=by simpa using e
  subst ex;have ih:=aAj l λ j hj=>by simpa using h (j+1) (by simpa using hj)
  simp[ih]
theorem aFl(ho:owner.size=mask+1):∀(N i pert:Nat),i<=mask->
  (∃j,owner.toList[j]? =some none/\zBu mask owner N i pert=some j)\/∀k,k<N->∃x,owner.toList[(pK mask k (i,pert)).1]? =some (some x)
 |0,i,pert,hi=>.inr λ k hk=>by lia
 |N+1,i,pert,hi=>by
  obtain⟨r1,r2,r3⟩:=aA3 hi;have hone:zBu mask owner (N+1) i pert=(match (zAp (zBZ mask i+1-i)).find? λ k=>(owner.getD (i+k) (some 0)).isNone with
   |some k=>some (i+k)
   |none=>zBu mask owner N (zBQ mask i pert).1 (zBQ mask i pert).2):=rfl
  rw[hone];cases hf:(zAp (zBZ mask i+1-i)).find? λ k=>(owner.getD (i+k) (some 0)).isNone with
  |some k=>
   left;have h1:=List.mem_of_find?_eq_some hf;have h2:=List.find?_some hf;simp only[zBO]at h1;have hlt:i+k<owner.size:=by lia
   refine⟨i+k,?_,rfl⟩;have e:owner.getD (i+k) (some 0)=owner[i+k]:=by simp[zCW,hlt]
   rw[e]at h2;rw[zBn,zCZ];exact⟨hlt,by simpa using h2⟩
  |none=>
   have h0:=List.find?_eq_none.mp hf 0 (by simp;lia);have hlt:i<owner.size:=by lia
   have e:owner.getD (i+0) (some 0)=owner[i]:=by simp[zCW,hlt]
   rw[e]at h0;have hl:(zBQ mask i pert).1<=mask:=zC5 (zDk _ (zD7 _));rcases aFl ho N _ (zBQ mask i pert).2 hl with ⟨j,s1,s2⟩|s
   ·exact .inl ⟨j,s1,s2⟩
   ·right
    intro k hk;cases k with
    |zero=>
     show∃x,owner.toList[i]? =some (some x)
     rw[zBn];cases q:owner[i]with
     |none=>rw[q]at h0;simp at h0
     |some x=>exact⟨x,by rw[zCZ];exact⟨hlt,q⟩⟩
    |succ k=>exact s k (by lia)
theorem aGe(hm:mask=7\/mask=31\/mask=127)(ho:owner.size=mask+1)(hfew:(heldBy owner).length<mask+1)(h:Int):
  ∃j,owner.toList[j]? =some none/\zBu mask owner (zCy mask) (zAx h%(mask+1)) (zAx h)=some j:=by
 rcases aFl ho (zCy mask) _ (zAx h) (zC5 (zDk (zAx h) (zD7 mask)))with z|z
 ·exact z
 ·exfalso
  have:=aAj owner.toList λ j hj=>by
   rw[zA7,ho]at hj;obtain⟨k,hk,ek⟩:=aDG hm h (t:=j) (by lia) (zAx h%(mask+1));obtain⟨x,e⟩:=z k (by unfold zCy;lia);rw[ek]at e;exact⟨x,e⟩
  unfold heldBy at hfew;rw[this,zA7]at hfew;lia
def xM(mask:Nat)(acc:Option (Array (Option Nat)×Nat))(h:Int):Option (Array (Option Nat)×Nat):=do
 let(owner,k) <-acc
 let j <-zBu mask owner (zCy mask) (zAx h%(mask+1)) (zAx h)
 pure (owner.setIfInBounds j (some k),k+1)
theorem aDK(hm:mask=7\/mask=31\/mask=127):∀(hs:List Int) (owner:Array (Option Nat)) (k:Nat),owner.size=mask+1->(heldBy owner).Perm (zAp k)->k+hs.length<=mask->
  ∃owner',hs.foldl (xM mask) (some (owner,k))=some (owner',k+hs.length)/\owner'.size=mask+1/\(heldBy owner').Perm (zAp (k+hs.length))
 |[],owner,k,ho,hp,hl=>⟨owner,rfl,ho,hp⟩
 |h::hs,owner,k,ho,hp,hl=>by
  rw[zAY]at hl;obtain⟨j,e1,e2⟩:=aGe hm ho (by rw[hp.length_eq,zEp];lia) h;have hst:xM mask (some (owner,k)) h=some (owner.setIfInBounds j (some k),k+1):=by
   unfold xM;simp[e2]
  rw[zBj,hst];obtain⟨o',f1,f2,f3⟩:=aDK hm hs (owner.setIfInBounds j (some k)) (k+1) (by simpa using ho) (by
   unfold heldBy;rw[Array.toList_setIfInBounds];refine(yu owner.toList j k e1).trans ?_;rw[zIo];exact(List.Perm.cons k hp).trans (List.perm_append_singleton k _).symm) (by lia)
  refine⟨o',?_,f2,?_⟩
  ·rw[f1,zAY,show k+1+hs.length=k+(hs.length+1)by lia]
  ·rw[zAY,show k+(hs.length+1)=k+1+hs.length by lia]
   exact f3
theorem aJA(m:Nat):heldBy (zF9 m none)=[]:=by
 unfold heldBy;rw[Array.toList_replicate];induction m with
 |zero=>rfl
 |succ m ih=>rw[zB7];simpa using ih
theorem aDL(hm:mask=7\/mask=31\/mask=127)(hs:Array Int)(hl:hs.size<=mask):∃owner,zHa mask hs=some owner/\owner.size=mask+1/\(heldBy owner).Perm (zAp hs.size):=by
 obtain⟨o',f1,f2,f3⟩:=aDK hm hs.toList (zF9 (mask+1) none) 0 (by simp) (by rw[aJA];exact zBE _) (by simpa using hl);refine⟨o',?_,f2,by simpa using f3⟩;have e:zHa mask hs=(hs.foldl (xM mask) (some (zF9 (mask+1) none,0))).map (·.1):=rfl;rw[e,<-Array.foldl_toList,f1];rfl
def m9(owner:Array (Option Nat))(m:Nat):List (Nat×Nat):=(zAp m).filterMap λ j=>(owner.getD j none).map (j,·)
theorem aDB:∀(l:List (Option Nat)) (b:Nat) (f:Nat->Option Nat),(∀i,i<l.length->f (b+i)=(l[i]?).getD none)->
  ((zHq b l.length).filterMap λ j=>(f j).map (j,·)).map (·.2)=l.filterMap id
 |[],_,_,_=>rfl
 |a::l,b,f,h=>by
  have h0:=h 0 (by simp);simp at h0;have ih:=aDB l (b+1) f λ i hi=>by
   have:=h (i+1) (by simpa using hi)
   rw[show b+(i+1)=b+1+i by lia]at this;simpa using this
  rw[zAY,zIa,zBS,h0];cases a with
  |none=>simpa using ih
  |some x=>simpa using ih
theorem aE4(owner:Array (Option Nat)):(m9 owner owner.size).map (·.2)=heldBy owner:=by
 have:=aDB owner.toList 0 (λ j=>owner.getD j none) λ i hi=>by
  rw[zHf,zBg,zBn]
 unfold m9 heldBy;rw[zHe,<-this,zA7]
theorem aDC(f:Nat->Option Nat):∀(m b:Nat),(((zHq b m).filterMap λ j=>(f j).map (j,·)).map (·.1)).Pairwise (·< ·)/\∀x∈((zHq b m).filterMap λ j=>(f j).map (j,·)).map (·.1),b<=x/\x<b+m
 |0,b=>⟨.nil,λ x hx=>by simp at hx⟩
 |m+1,b=>by
  obtain⟨ih1,ih2⟩:=aDC f m (b+1);rw[zIa,zBS];cases hf:f b with
  |none=>
   simp only[zIQ];exact⟨ih1,λ x hx=>by have:=ih2 x hx;lia⟩
  |some y=>
   simp only[zCm,zAG];refine⟨zAf.mpr ⟨λ x hx=>by have:=ih2 x hx;lia,ih1⟩,λ x hx=>?_⟩;rcases zAN.mp hx with e|hx
   ·lia
   ·have:=ih2 x hx
    lia
theorem aMW{l:List Nat}(h:l.Pairwise (·< ·)):Ris l.toArray:=by
 intro i j hij hj;have hj':j<l.length:=by simpa using hj
 have e:∀k,k<l.length->l.toArray.getD k 0=l[k]!:=λ k hk=>by simp[zCW,hk]
 have:=zB9.mp h i j (by lia) hj' hij
 simp[zCW,hj',show i<l.length by lia];exact this
theorem aH9{t:zDG}(hp:t.plain=true)(hn:n=5\/n=19)(hs:Array Int)(hl:hs.size=n):
  ∃t' order,t.relaid hs (zF8 n)=some (t',order)/\iy t' n/\t'.led=t.led/\order.toList.Perm (zAp n):=by
 have hm:∃mask,SetTable.sizeAbove (zF8 n)-1=mask/\(mask=31/\n=5\/mask=127/\n=19):=by
  rcases hn with e|e<;>subst e
  ·exact⟨31,by decide,.inl ⟨rfl,rfl⟩⟩
  ·exact⟨127,by decide,.inr ⟨rfl,rfl⟩⟩
 obtain⟨mask,em,hmn⟩:=hm;have hm3:mask=7\/mask=31\/mask=127:=by lia
 obtain⟨owner,o1,o2,o3⟩:=aDL hm3 hs (by lia);have hsnd:=aE4 owner;obtain⟨r1,r2⟩:=aDC (λ j=>owner.getD j none) (mask+1) 0;rw[<-zHe]at r1 r2;have hlen:((m9 owner (mask+1)).map (·.1)).length=n:=by
  rw[zAE,<-zAE (f:=(·.2)),<-o2,hsnd,o3.length_eq,zEp,hl]
 refine⟨{mask:=mask,place:=((m9 owner (mask+1)).map (·.1)).toArray,dummies:=#[],finger:=t.finger,led:=t.led,moves:=t.movedTo mask,plain:=t.plain},((m9 owner (mask+1)).map (·.2)).toArray,?_,⟨rfl,?_,aMW r1,?_,?_,hp⟩,rfl,?_⟩
 ·unfold SetTable.relaid SetTable.laid
  rw[em,o1];rfl
 ·simpa using hlen
 ·intro i hi
  have hi':i<((m9 owner (mask+1)).map (·.1)).length:=by rw[hlen];exact hi
  show((m9 owner (mask+1)).map (·.1)).toArray.getD i 0<=mask
  have:((m9 owner (mask+1)).map (·.1)).toArray.getD i 0=((m9 owner (mask+1)).map (·.1))[i]:=by
   rw[zBg,List.getElem?_toArray,zAB hi'];rfl
  rw[this]
  have:=r2 _ (zBR hi')
  lia
 ·show mask=7/\n<5\/mask=31/\n<19\/mask=127/\n<77
  lia
 ·show((m9 owner (mask+1)).map (·.2)).Perm (zAp n)
  rw[<-o2,hsnd,<-hl];exact o3
abbrev cH(es:Array (Int×Value))(ep:Nat)(t:zDG):Obj:={cls:=.type "set",dict:=none,data:=.set es ep t}
structure TupAt(h:Heap)(x:Addr)(ns:List Int):Prop where
 ex:∃o xs k,h.get? x=some o/\o.cls= .type "tuple"/\o.data= .seq xs k/\zBD xs.toList ns
section
variable{prog:zA2}{w:World}{A:zAe}{E:Value->zAF->Prop}{s:zAF}
theorem aHG(ho:s.heap.get? a=some (cH es ep t))(hz:es'.size<=63)
  (h:(s.heap.update a (zId es' t')).get? a=some (cH es' (ep+1) t')->Q () {s with heap:=s.heap.update a (zId es' t')}):wpAny (model prog w) A (storeSet a es' t') Q E s:=by
 refine wpAny_storeSet_of ho rfl (h ?_) (by rw[zBr];lia)
 have:=zEE (zId es' t') ho (by rw[putSet_of es' t' rfl];rfl)
 rw[putSet_of es' t' rfl]at this;exact this
end
section
variable{prog:zA2}{w:World}{A:zAe}{R:zE8->zAF->Prop}{I:Addr}{fp wr:List Addr}{G:Array zHU->Array zHU->Prop}{n:Nat}{St:Nat->zAF->Prop}{vs:List Value}{nss:List (List Int)}
end
end VL
namespace PySem
section
variable{prog:zA2}{w:World}{A:zAe}{E:Value->zAF->Prop}{s:zAF}
theorem aHT(a:Value)(h:Q₁ (.ref s.heap.objs.size) {s with heap:=s.heap.push (VL.cH #[] 0 (.fresh 0 0 (!w.params.followText "set-order")))}):
  zBq (model prog w) A (.call (.builtin "set.__new__") ⟨[.type "set",a],[]⟩) (wants Q₁ E) s:=by
 refine zH2 ?_;show wpAny _ A.in1 (zHQ "set.__new__" ⟨[.type "set",a],[]⟩>>=λ _=>again (.builtin "set.__new__" ⟨[.type "set",a],[]⟩)) _ _ s;refine zAD (zIz (F.newCall_set_1 a) (zAR ⟨zIG zHI _,zC9 PySem.F.entry_set_new ?_⟩));rw[zCY zHI _];unfold zEM.«set.__new__» zI0;have hsub:=sub_set_self;obtain⟨hp,g,d,tk,os⟩:=s;dsimp only;wp_walk;refine zCv (zAR ?_);dsimp only;simp only[newObj];exact zAD (wpAny_alloc (zAR (zAR h)))
set_option maxHeartbeats 3200000 in
theorem qR{l:Addr}{T:String}{oI:Obj}{Φ:Heap->Prop}{Q:Value->zAF->Prop}(hty:s.TypeIs (.ref l) T)(hsls:isSubtype (.type T) (.type "set")=pure false)(hslf:isSubtype (.type T) (.type "frozenset")=pure false)(hne:(zCj T==zCj "dict")=false)
  (hit:∀(h₁:Heap) (A₁:zAe) (E₁:Value->zAF->Prop) (Q₁:Value->zAF->Prop),(∀b o,s.heap.get? b=some o->h₁.get? b=some o)->Q₁ (.ref h₁.objs.size) {s with heap:=h₁.push oI}->wpAny (model prog w) A₁ (zHr (.ref l)) Q₁ E₁ {s with heap:=h₁})
  (hrun:∀R:zE8->zAF->Prop,(∀h' tk,Φ h'->(∀b o,s.heap.get? b=some o->h'.get? b=some o)->R (.ok (.ret .none)) {s with heap:=h',toks:=tk})->
   zBq (model prog w) A.in1.in1 (.builtin "set.update.loop" ⟨[.ref s.heap.objs.size,.ref (s.heap.push (VL.cH #[] 0 (.fresh 0 0 (!w.params.followText "set-order")))).objs.size],[]⟩) R {s with heap:=(s.heap.push (VL.cH #[] 0 (.fresh 0 0 (!w.params.followText "set-order")))).push oI})
  (h:∀h' tk,Φ h'->(∀b o,s.heap.get? b=some o->h'.get? b=some o)->Q (.ref s.heap.objs.size) {s with heap:=h',toks:=tk}):
  wpAny (model prog w) A (call (.type "set") [.ref l]) Q E s:=by
 obtain⟨c,tl,hmro⟩:=zCq.mro;have hmade:=zCq.made;have hsub:=zCq.sub
 refine zHs (zH2 ?_);show wpAny _ _ (callAny (.type "set") _) _ _ _;refine zAR ⟨zHu _ (by decide+kernel),zC9 PySem.F.entry_type_call ?_⟩;rw[Around.under_plain (weight_type_call_type "set" [.ref l] []) rfl];have h1:=zCq.notType;have h2:=zCq.canCreate
 have hct:=F.typeCall_set_1 (.ref l);repeat (any_goals (first|assumption|wp_step))
 generalize hled:(!w.params.followText "set-order")=led at hrun;refine zDA (aHT (.ref l) (E:=E) (Q₁:=λ obj s₁=>obj= .ref s.heap.objs.size/\s₁={s with heap:=s.heap.push (VL.cH #[] 0 (.fresh 0 0 led))}) ⟨rfl,by rw[hled]⟩) λ r s₁ hr=>?_
 cases r with
 |error e=>exact hr
 |ok fl=>
  cases fl with
  |ret obj=>
   obtain⟨rfl,rfl⟩:=hr;have hS:(s.heap.push (VL.cH #[] 0 (.fresh 0 0 led))).get? s.heap.objs.size=some (VL.cH #[] 0 (.fresh 0 0 led)):=zAV _ rfl;have hT:Shared.TypeIs {s with heap:=s.heap.push (VL.cH #[] 0 (.fresh 0 0 led))} (.ref s.heap.objs.size) "set":=⟨_,hS,rfl⟩;have hli:=zCq.init.lookup;have hbi:=zCq.init.bind (.ref s.heap.objs.size)
   repeat (any_goals (first|assumption|wp_step))
   refine zDA (zEm (R:=wants (λ r s₂=>r= .none/\∃h' tk,s₂={s with heap:=h',toks:=tk}/\Φ h'/\(∀b o,s.heap.get? b=some o->h'.get? b=some o)) E) zCq.init.plain F.entry_set_init (check_set_init_1 hT ?_)) λ r₂ s₂ hr₂=>?_
   ·obtain⟨ol,hol,hcl⟩:=hty
    obtain⟨ocls,odict,odata,oslots⟩:=ol;simp only at hcl;subst hcl;have hol':(s.heap.push (VL.cH #[] 0 (.fresh 0 0 led))).get? l=some {cls:=.type T,dict:=odict,data:=odata,slots:=oslots}:=zAC _ hol;unfold zEM.«set.__init__» noKeywords zI3;generalize hPI:zHr=PI;wp_walk;subst hPI;refine hit _ _ _ _ (λ b o e=>zAC _ e) (zAD (wpAny_runValue (hrun _ λ h' tk g1 g2=>?_)));show wpAny _ _ _ _ _ _;refine zAR ?_;show wpAny _ _ (ret zB6) _ _ _;exact zAR ⟨rfl,h',tk,rfl,g1,g2⟩
   ·cases r₂ with
    |error e=>exact hr₂
    |ok fl₂=>
     cases fl₂ with
     |ret r=>
      obtain⟨rfl,h',tk,rfl,g1,g2⟩:=hr₂
      repeat (any_goals (first|assumption|wp_step))
      exact h _ _ g1 g2
     |_=>exact hr₂.elim
  |_=>exact hr.elim
end
end PySem
namespace VL
open PySem PySem.Spec PyProof.Rows L2
theorem aDW:∀{l:List α} {i:Nat} (h:i<l.length),(l[i]::l.eraseIdx i).Perm l
 |a::l,0,_=>zBE _
 |a::l,i+1,h=>by
  have h':i<l.length:=by simpa using h
  have ih:=aDW (l:=l) (i:=i) h'
  show(l[i]::a::l.eraseIdx i).Perm (a::l)
  exact(zDU _ _ _).trans (ih.cons a)
theorem aFU(next:Nat->Nat):∀(f k:Nat) (left:List α) (out:Array α),left.length<=f->(pickOrder.go next f k left out).toList.Perm (out.toList++left)
 |0,k,left,out,h=>by
  have:left=[]:=zHV.mp (by omega)
  subst this;rw[zAi];exact zBE _
 |f+1,k,left,out,h=>by
  unfold pickOrder.go;cases left with
  |nil=>simp
  |cons a l=>
   have hlt:next k%(a::l).length<(a::l).length:=zDk _ (by simp)
   rw[zAB hlt];dsimp only;refine(aFU next f (k+1) _ _ (by rw[List.length_eraseIdx];simp only[hlt,if_true];simp at h ⊢;omega)).trans ?_;rw[zEk,zBT];exact List.Perm.append_left _ (aDW hlt)
theorem aGM(next:Nat->Nat)(xs:Array α):(pickOrder next xs).toList.Perm xs.toList:=by
 have:=aFU next xs.size 0 xs.toList #[] (by simp)
 unfold pickOrder;simpa using this
def sV(w:World)(d:Addr)(ep:Nat)(es:Array (Int×Value)):Array (Int×Value):=if w.params.followText "set-order" then pickOrder (w.params.setOrder d ep) es else es
theorem q9(w:World)(d:Addr)(ep:Nat)(es:Array (Int×Value)):(sV w d ep es).toList.Perm es.toList:=by
 unfold sV;split
 ·exact aGM _ _
 ·exact zBE _
def slotAt(w:World)(t:zDG):Nat->Nat
 |0=>0
 |i+1=>if w.params.followText "set-order" then 0 else t.place.getD i 0+1
theorem aEy(T:iy t n)(hf:w.params.followText "set-order"=false):∀i,i<=n->zAl t.place (slotAt w t i)=i
 |0,_=>by
  obtain⟨b1,b2,b3⟩:=u9 T.ris 0;show zAl t.place 0=0;cases h:zAl t.place 0 with
  |zero=>rfl
  |succ k=>
   rw[h]at b2
   have:=b2 0 (by omega)
   omega
 |i+1,hi=>by
  unfold slotAt;rw[hf];simp only[zAu,if_false];obtain⟨b1,b2,b3⟩:=u9 T.ris (t.place.getD i 0+1);have hs:=T.siz;rcases zIb (zAl t.place (t.place.getD i 0+1)) (i+1)with z|z|z
  ·have:=b3 i (by omega) (by omega)
   omega
  ·exact z
  ·have h1:=b2 (i+1) (by omega)
   have h2:=T.ris i (i+1) (by omega) (by omega);omega
section
variable{prog:zA2}{w:World}{A:zAe}{E:Value->zAF->Prop}{s:zAF}{d I:Addr}{es:Array (Int×Value)}{ep:Nat}{t:zDG}{i':Nat}
theorem xu(ho:s.heap.get? d=some (cH es ep t))(T:iy t es.size)(hled:t.led= !w.params.followText "set-order")(hi:i<=es.size)
  (h:Q (((sV w d ep es)[i]?).map λ e=>(e.2,slotAt w t (i+1))) s):wpAny (model prog w) A (setNext d (slotAt w t i) i ep) Q E s:=by
 unfold setNext;refine zAD (zCf ho rfl T.fits ?_);dsimp only;unfold zJZ;refine zAD (zAD (zCv (zAR ?_)));show wpAny _ _ (if w.params.followText "set-order"=true then _ else _) _ _ _;unfold sV at h;cases hf:w.params.followText "set-order" with
 |true=>
  rw[hf]at h;simp only[if_true]at h ⊢;simp only[bne_self_eq_false,zAu,if_false];unfold setWalk;refine zAD (zAD (zCf ho rfl T.fits ?_));dsimp only;unfold zJZ;refine zAD (zAD (zCv (zAR ?_)));show wpAny _ _ (if w.params.followText "set-order"=true then _ else _) _ _ _;rw[hf];simp only[if_true];refine zAD (zCv (zAR (zAR ?_)));have e1:slotAt w t (i+1)=slotAt w t i:=by
   unfold slotAt;cases i with
   |zero=>simp[hf]
   |succ i=>simp[hf]
  rw[e1]at h;exact h
 |false=>
  rw[hf]at h hled;simp only[zAu,if_false]at h ⊢;have hd:(!t.plain&&decide (es.size>1))=false:=by rw[T.pla];rfl
  show wpAny _ _ (if (!t.plain&&decide (es.size>1))=true then _ else _) _ _ _;rw[hd];simp only[zAu,if_false];refine zAD ?_;show wpAny _ _ (if (!t.led&& !es.isEmpty)=true then _ else _) _ _ _;rw[hled];simp only[zIr,zJB,zGf,zAu,if_false];refine zAR ?_;rw[aEy T hf i hi];have hslot:slotAt w t (i+1)=t.place.getD i 0+1:=by unfold slotAt;rw[hf];rfl
  rw[hslot]at h;by_cases hlt:i<es.size
  ·have h1:es[i]? =some es[i]:=zC8 hlt
   have hlt2:i<t.place.size:=by rw[T.siz];exact hlt
   have h2:t.place[i]? =some (t.place.getD i 0):=by
    rw[zC8 hlt2];simp[zCW,hlt2]
   rw[h1,h2];rw[h1]at h;exact zAR h
  ·have h1:es[i]? =none:=zHT (by omega)
   rw[h1];rw[h1]at h;exact zAR h
theorem cV:PySem.Slot "set_iterator" "__next__" "set_iterator.__next__":=
 .of (owner:="set_iterator") (n:="__next__") (by rw[typeLookup_type,zIg];kernel_rfl) (by decide+kernel) (by decide+kernel) (by decide+kernel) (.inl (by decide+kernel)) (by rw[zHk];kernel_rfl)
theorem lz:PySem.Slot "set_iterator" "__iter__" "set_iterator.__iter__":=
 .of (owner:="set_iterator") (n:="__iter__") (by rw[typeLookup_type,zIg];kernel_rfl) (by decide+kernel) (by decide+kernel) (by decide+kernel) (.inl (by decide+kernel)) (by rw[zHk];kernel_rfl)
theorem lQ:entryFor table "set_iterator.__next__"=some zEM.«set_iterator.__next__»:=entryFor_of_fast (by kernel_rfl)
theorem sY:entryFor table "set_iterator.__iter__"=some zEM.«dict_keyiterator.__iter__»:=entryFor_alias (id':="dict_keyiterator.__iter__") (by kernel_rfl) rfl (by decide+kernel) (by kernel_rfl)
theorem wg:entryFor table "set.__iter__"=some zEM.«frozenset.__iter__»:=entryFor_alias (id':="frozenset.__iter__") (by kernel_rfl) rfl (by decide+kernel) (by kernel_rfl)
theorem mR(a:Value):argsOk "set_iterator.__next__" ⟨[a],[]⟩:=by unfold argsOk;kernel_rfl
theorem uc(a:Value):argsOk "set_iterator.__iter__" ⟨[a],[]⟩:=by unfold argsOk;kernel_rfl
end
section
variable{prog:zA2}{w:World}{A:zAe}{E:Value->zAF->Prop}{s:zAF}{d I:Addr}{es:Array (Int×Value)}{ep:Nat}{t:zDG}{i':Nat}
abbrev aIm(d:Addr)(sl i n ep:Nat):Obj:={cls:=.type "set_iterator",data:=.fields #[.int sl 0,.int i 0,.ref d,.int n 0,.int ep 0]}
def aLX(h:Heap)(I d:Addr)(sl i n ep:Nat):Prop:=h.get? I=some (aIm d sl i n ep)
theorem aIk{h:Heap}{sl i n ep k:Nat}(e:h.get? I=some {cls:=.type "set_iterator",data:=.fields vs}):(h.update I (zJQ (·.setIfInBounds k x))).get? I=some {cls:=.type "set_iterator",data:=.fields (vs.setIfInBounds k x)}:=by
 have:=zEE (zJQ (·.setIfInBounds k x)) e (Obj.isFreed_of_fields (Obj.data_mapFields rfl _))
 rw[this];rfl
theorem aDy(hI:aLX s.heap I d (slotAt w t i') i' es.size ep)(ho:s.heap.get? d=some (cH es ep t))(T:iy t es.size)(hled:t.led= !w.params.followText "set-order"){v:Value}(hi:i'<es.size)(hv:((sV w d ep es)[i']?).map (·.2)=some v){Q:Option Value->zAF->Prop}
  (h:∀h',aLX h' I d (slotAt w t (i'+1)) (i'+1) es.size ep->zD2 I s.heap h'->Q (some v) {s with heap:=h'}):wpAny (model prog w) A (zEy (.ref I)) Q E s:=by
 have hT:s.TypeIs (.ref I) "set_iterator":=⟨_,hI,rfl⟩;unfold zEy;refine zAD (zIK (zET (name:=zHj "__next__") hT cV (zCT cV hT lQ ?_ (mR _))));show wpAny _ _ (fieldsOf (.ref I)>>=_) _ _ s;refine zAD (wpAny_fieldsOf hI rfl ?_);dsimp only;refine zAD ?_;unfold setEntries;refine zAD (zCf ho rfl T.fits (zAR ?_));simp only[bne_self_eq_false,zAu,if_false];refine zAD ?_;simp only[zC2];refine xu ho T hled (zBX hi) ?_;cases hq:(sV w d ep es)[i']? with
 |none=>rw[hq]at hv;cases hv
 |some e=>
  rw[hq]at hv;cases hv;dsimp only[zCm];refine zAD (zHl hI rfl (by simp) ?_);have e1:=aIk (h:=s.heap) (I:=I) (k:=0) (x:=zJG (slotAt w t (i'+1))) (sl:=0) (i:=0) (n:=0) (ep:=0) hI;refine zAD (zHl e1 rfl (by simp) ?_);have e2:=aIk (k:=1) (x:=zJG (i'+1)) (sl:=0) (i:=0) (n:=0) (ep:=0) e1;exact zAR ⟨_,rfl,zAR (h _ e2 ((zBv ..).trans (zBv ..)))⟩
theorem aGF(hh:A.handled=none)(hI:aLX s.heap I d (slotAt w t es.size) es.size es.size ep)(ho:s.heap.get? d=some (cH es ep t))(T:iy t es.size)(hled:t.led= !w.params.followText "set-order")
  (h:∀h',Heap.ExtBut I s.heap h'->Q none {s with heap:=h'}):wpAny (model prog w) A (zEy (.ref I)) Q E s:=by
 have hT:s.TypeIs (.ref I) "set_iterator":=⟨_,hI,rfl⟩;unfold zEy;refine zAD (zIK (zET (name:=zHj "__next__") hT cV (zCT cV hT lQ ?_ (mR _))));show wpAny _ _ (fieldsOf (.ref I)>>=_) _ _ s;refine zAD (wpAny_fieldsOf hI rfl ?_);dsimp only;refine zAD ?_;unfold setEntries;refine zAD (zCf ho rfl T.fits (zAR ?_));simp only[bne_self_eq_false,zAu,if_false];refine zAD ?_;simp only[zC2];refine xu ho T hled (zAS _) ?_;have hq:(sV w d ep es)[es.size]? =none:=zHT (by
  have:=(q9 w d ep es).length_eq
  rw[zA7,zA7]at this;lia)
 rw[hq];dsimp only[zIQ];refine zAD (zHl hI rfl (by simp) ?_);show wpAny _ _ (newExc (.type "StopIteration") []>>=_) _ _ _;refine zAD ?_;simp only[newExc,newTuple];refine zAD (zCP (zAD (m:=firstArgMember _ _) (zIz (a:=zB6) (by first|rfl|(simp only[firstArgMember];rfl)) (zCP ?_ (by size_fits)))) (by size_fits));simp only[raiseNew];refine zAD (wpAny_handled ?_);rw[show A.in1.handled=none from hh];refine zAD (zAR (wpAny_throw ?_));refine zAD (zHS (T:="StopIteration") (b:=true) ⟨_,zAV _ rfl,rfl⟩ isSubtype_stop ?_);exact zAR (h _ (((zBv ..).extBut.push _).push _))
theorem aFz(hh:A.handled=none)(I d:Addr)(hne:d≠I)(es:Array (Int×Value))(ep:Nat)(t:zDG)(T:iy t es.size)(hled:t.led= !w.params.followText "set-order"):
  Walks prog w A I [I,d] [I] es.size (λ i v=>((sV w d ep es)[i]?).map (·.2)=some v) (λ i h=>aLX h I d (slotAt w t i) i es.size ep/\h.get? d=some (cH es ep t)) where
 sub:=λ b hb=>by simp at hb;simp[hb]
 frame:=λ _ _ _ st hk=>⟨hk I (by simp) _ st.1,hk d (by simp) _ st.2⟩
 item:=λ i s Q E hi st hQ=>by
  have hl:i<(sV w d ep es).size:=by
   have:=(q9 w d ep es).length_eq
   rw[zA7,zA7]at this;lia
  have hv:((sV w d ep es)[i]?).map (·.2)=some (sV w d ep es)[i].2:=by rw[zC8 hl];rfl
  refine aDy st.1 st.2 T hled hi hv λ h' hI' hs'=>?_
  exact hQ _ h' s.toks hv ⟨hI',by rw[hs'.2 d hne];exact st.2⟩ λ b o hb e=>hs'.extBut b o (λ h=>hb (by simp[h])) e
 done:=λ s Q E st hQ=>aGF hh st.1 st.2 T hled λ h' he'=>hQ h' s.toks λ b o hb e=>he' b o (λ h=>hb (by simp[h])) e
 self:=λ i s Q E st hQ=>by
  have hT:s.TypeIs (.ref I) "set_iterator":=⟨_,st.1,rfl⟩;refine zJ3 hT lz (zCT lz hT sY ?_ (uc _));show wpAny _ _ (ret (.ref I)) _ _ s;exact zAR ⟨_,rfl,"set_iterator",_,hT,cV.lookup,hQ⟩
theorem aEL(ho:s.heap.get? d=some (cH es ep t))(T:iy t es.size)(h:Q (.ref s.heap.objs.size) {s with heap:=s.heap.push (aIm d 0 0 es.size ep)}):wpAny (model prog w) A (zHr (.ref d)) Q E s:=by
 have hT:s.TypeIs (.ref d) "set":=⟨_,ho,rfl⟩;refine zJ3 hT zHJ (zCT zHJ hT wg ?_ (PySem.F.args_set_iter_1 _));unfold zEM.«frozenset.__iter__» zI2 slotArgs;simp only[List.isEmpty_nil,zJB,zAu,↓reduceIte,zJV,zBz,bne_self_eq_false];unfold zIZ zI1;refine zAD (zAR (zAD (zAR (zAD (zAD (wpAny_setEntries_of ho rfl T.fits (zAR ?_)))))));unfold setDrawn;refine zAD (zAD (zCf ho rfl T.fits ?_));dsimp only;unfold zJZ;refine zAD (zAD (zCv (zAR (zAR ?_))));have hd:(!w.params.followText "set-order"&&(!t.plain&&decide (es.size>1)))=false:=by rw[T.pla];simp
 show wpAny _ _ (if (!w.params.followText "set-order"&&(!t.plain&&decide (es.size>1)))=true then _ else _) _ _ _;rw[hd];simp only[zAu,if_false];refine zAD (zAR (zAD (wpAny_setEpoch_of ho rfl T.fits ?_)));simp only[newFields];refine zAD (zCP (zAR ⟨_,rfl,"set_iterator",_,⟨_,zAV _ rfl,rfl⟩,cV.lookup,?_⟩));exact h
theorem aIx(hT:s.TypeIs (.ref r) "set")(h:Q false s):wpAny (model prog w) A (zE1 (.ref r)) Q E s:=by
 unfold zE1;refine zAD (wpAny_specialOf hT PySem.F.slot_set_len.lookup ?_);generalize hid:("set.__len__":String)=id0;wp_delta;rw[show splitId id0=some ("set","__len__")from by subst hid;decide+kernel];subst hid;refine zAD (zHS (T:="set") (b:=true) hT (by rw[zHk];kernel_rfl) ?_);refine wpAny_ite_split (λ hab=>absurd hab (by decide)) λ _=>wpAny_ite_split (λ _=>?_) λ hab=>absurd (by decide+kernel) hab
 exact zAD (wpAny_typeOf hT (zAR h))
theorem aJj(T:iy t es.size)(hled:t.led= !w.params.followText "set-order"):zIT prog w "set" d d es.size (λ i v=>((sV w d ep es)[i]?).map (·.2)=some v) (λ h=>h.get? d=some (cH es ep t)) where
 type:=λ _ hm=>⟨_,hm,rfl⟩
 there:=λ _ hm=>⟨zAQ hm,zAQ hm⟩
 keep:=λ _ _ hm hk=>hk d (.inl rfl) _ hm
 notList:=by decide
 notTuple:=by decide
 hint:=λ _ _ _ _ hm hq=>aIx ⟨_,hm,rfl⟩ hq
 iter:=λ A s hh hm=>⟨aIm d 0 0 es.size ep,_,(λ _ _ hq=>aEL hm T hq),aFz hh _ d (zA0 (zAQ hm)) es ep t T hled,⟨zAV _ rfl,zAC _ hm⟩⟩
end
section
variable{prog:zA2}{w:World}{A:zAe}{E:Value->zAF->Prop}{s:zAF}{T:String}{r d:Addr}{n:Nat}{P:Nat->Value->Prop}{OK:Heap->Prop}
theorem aD6(K:zIT prog w T r d n P OK)(hh:A.handled=none)(hok:OK s.heap)(hn:n<=zAW)
  (h:∀h' tk vs,s.heap.objs.size<h'.objs.size->(∀b o,s.heap.get? b=some o->h'.get? b=some o)->vs.length=n->(∀(j:Nat) v,vs[j]? =some v->P j v)->Q vs {s with heap:=h',toks:=tk}):wpAny (model prog w) A (collect (.ref r)) Q E s:=by
 have hlt:=K.there _ hok;unfold collect;refine zAD (wpAny_runValue (zC9 PySem.F.entry_proto_collect ?_));rw[zCY PySem.F.plain_proto_collect _];show wpAny _ A.in1 (zGb []>>=λ l=>again (.builtin "list.__iadd__" ⟨[l,.ref r],[]⟩)) _ _ s;refine zAD (zCP (zAR ⟨zIG zGG _,zC9 PySem.F.entry_list_iadd ?_⟩));rw[zCY zGG _];show wpAny _ A.in1 (Builtin.List.listExtendWith (.ref s.heap.objs.size) (.ref r) (.ref s.heap.objs.size)) _ _ _;have fin:∀h' tk acc' c',(∀b o,b≠s.heap.objs.size->(s.heap.push (zBi "list" #[] 0)).get? b=some o->h'.get? b=some o)->h'.get? s.heap.objs.size=some {cls:=.type "list",dict:=none,data:=.seq acc' c',slots:=#[]}->ItemsOf P acc' n->
   wpAny (model prog w) A (do match (zB0 s.heap.objs.size)with
    | .ref a=>match (<-load a).data with
     | .seq xs _=>pure xs.toList
     |_=>unsupported "internal:collect"
    |_=>unsupported "internal:collect") Q E {s with heap:=h',toks:=tk}:=λ h' tk acc' c' hk hS' hacc=>
  zAD (wpAny_load hS' (zAR (h h' tk acc'.toList (zAQ hS') (λ b o e=>hk b o (zA0 (zAQ e)) (zAC _ e)) (by rw[zA7];exact hacc.1) λ j v e=>hacc.2 j v (by rw[<-zBn];exact e))))
 refine zAy (PySem.W.kdl_extend (A:=A) (s:={s with heap:=s.heap.push (zBi "list" #[] 0)}) (R:=λ r s'=>∃h' tk acc' c',r= .ok (.ret (.ref s.heap.objs.size))/\s'={s with heap:=h',toks:=tk}/\(∀b o,b≠s.heap.objs.size->(s.heap.push (zBi "list" #[] 0)).get? b=some o->h'.get? b=some o)/\h'.get? s.heap.objs.size=some {cls:=.type "list",dict:=none,data:=.seq acc' c',slots:=#[]}/\ItemsOf P acc' n)
  K hh (K.keep _ _ hok λ b _ o e=>zAC _ e) s.heap.objs.size (zCH hlt.1) (zCH hlt.2) (.ref s.heap.objs.size) 0 (zAV _ rfl) (λ h' tk acc' c' hk hS' hacc=>⟨h',tk,acc',c',rfl,rfl,hk,hS',hacc⟩) hn) (λ f s' hf=>?_) λ e s' he=>?_
 ·cases f with
  |done f=>
   obtain⟨h',tk,acc',c',q1,q2,q3,q4,q5⟩:=hf;cases q1;subst q2;exact fin h' tk acc' c' q3 q4 q5
  |again c=>
   refine⟨hf.1,zDA hf.2 λ r s' hr=>?_⟩;obtain⟨h',tk,acc',c',q1,q2,q3,q4,q5⟩:=hr;subst q1 q2;exact fin h' tk acc' c' q3 q4 q5
 ·obtain⟨h',tk,acc',c',q1,_⟩:=he
  cases q1
end
def aLV(h:Heap)(p:Value×List Int):Prop:=∃x o xs k,p.1= .ref x/\h.get? x=some o/\o.cls= .type "tuple"/\o.data= .seq xs k/\zBD xs.toList p.2/\p.2≠[]
theorem fM.all:∀{vs:List Value} {nss:List (List Int)},fM h vs nss->∀p∈vs.zip nss,aLV h p
 |_,_,.nil,p,hp=>by simp at hp
 |_,_,.cons ho hc hd hi hne r,p,hp=>by
  rw[zBM]at hp;rcases zAN.mp hp with e|hp
  ·subst e;exact⟨_,_,_,_,rfl,ho,hc,hd,hi,hne⟩
  ·exact r.all p hp
theorem aFC:∀{zs:List (Value×List Int)},(∀p∈zs,aLV h p)->fM h (zs.map (·.1)) (zs.map (·.2))
 |[],_=>.nil
 |p::zs,hz=>by
  obtain⟨x,o,xs,k,e1,e2,e3,e4,e5,e6⟩:=hz p zAI;rw[zAG,zAG,e1];exact .cons e2 e3 e4 e5 e6 (aFC λ q hq=>hz q (zAL _ hq))
theorem tZ(h:l.Perm m'):∀{m:List α},m'=m.map f->∃m2:List α,m2.Perm m/\l=m2.map f:=by
 induction h with
 |nil=>intro m e;exact⟨m,zBE _,e⟩
 |cons x p ih=>
  intro m e;cases m with
  |nil=>cases e
  |cons a m=>
   rw[zAG]at e;injection e with e1 e2
   obtain⟨m2,q1,q2⟩:=ih e2;exact⟨a::m2,q1.cons a,by rw[zAG,q2,e1]⟩
 |swap x y l=>
  intro m e;cases m with
  |nil=>cases e
  |cons a m=>
   cases m with
   |nil=>rw[zAG]at e;injection e with _ e2;cases e2
   |cons b m=>
    rw[zAG,zAG]at e;injection e with e1 e2
    injection e2 with e2 e3
    exact⟨b::a::m,zDU _ _ _,by rw[zAG,zAG,e1,e2,e3]⟩
 |trans p q ih1 ih2=>
  intro m e;obtain⟨m2,a1,a2⟩:=ih2 e;obtain⟨m3,b1,b2⟩:=ih1 a2;exact⟨m3,b1.trans a1,b2⟩
def ue(l:List (List Int)):Prop:=l.Pairwise λ a b=>HT.lexLt b a=false
section
variable{prog:zA2}{w:World}{A:zAe}{E:Value->zAF->Prop}{s:zAF}
theorem aC2{Q:Value->zAF->Prop}(hz:∀p∈zs,aLV s.heap p)(h64:zs.length<64)
  (h:∀(zs':List (Value×List Int)) h' e,zs'.Perm zs->ue (zs'.map (·.2))->(∀b o,s.heap.get? b=some o->h'.get? b=some o)->h'.get? s.heap.objs.size=some (zBi "list" (zs'.map (·.1)).toArray e)->Q (.ref s.heap.objs.size) {s with heap:=h'}):
  wpAny (model prog w) A (zGb (zs.map (·.1))>>=λ l=>zCk [l] (call (.builtin "list.sort") [l])>>=λ _=>ret l) (λ fin s'=>∃r,fin= .done (.ret r)/\Q r s') E s:=by
 have hlen:(zs.map (·.1)).length=zs.length:=zAE _;refine zAD (zIL ?_ (by rw[zBr];omega));have hoL:(s.heap.push (zBi "list" (zs.map (·.1)).toArray 0)).get? s.heap.objs.size=some (zBi "list" (zs.map (·.1)).toArray 0):=zAV _ rfl;refine zAD (zBb (zCT slot_list_sort ⟨_,hoL,rfl⟩ entry_list_sort ?_ (args_list_sort _)));refine aE5 (s:={s with heap:=s.heap.push (zBi "list" (zs.map (·.1)).toArray 0)}) hoL (aFC λ p hp=>?_) (by omega) λ p a1 a2=>⟨_,rfl,?_⟩
 ·obtain⟨x,o,xs,k,e1,e2,e3⟩:=hz p hp
  exact⟨x,o,xs,k,e1,zAC _ e2,e3⟩
 rw[hlen]at a1 a2;have hmap:p.toList.map (λ i=>(zs.map (·.1)).getD i zB6)=(p.toList.map λ i=>zs.getD i (zB6,[])).map (·.1):=by
  rw[zAb];refine zCG λ i hi=>?_
  show(zs.map (·.1)).getD i zB6=(zs.getD i (zB6,[])).1
  rw[zA1,zA1,zAT];cases zs[i]?<;>rfl
 have hperm:(p.toList.map λ i=>zs.getD i (zB6,[])).Perm zs:=by
  have h1:p.toList.Perm (zAp zs.length):=by
   have:=Array.perm_iff_toList_perm.mp a1
   simpa using this
  refine(h1.map _).trans ?_
  have:(zAp zs.length).map (λ i=>zs.getD i (zB6,[]))=zs:=by
   refine zFR (by simp) λ i h1 h2=>?_
   rw[zDO,zHx,zA1,zAB h2];rfl
  rw[this]
 have hne:∀b o,s.heap.get? b=some o->b≠s.heap.objs.size:=λ b o e=>zA0 (zAQ e)
 obtain⟨e1,he1⟩:∃e1,((s.heap.push (zBi "list" (zs.map (·.1)).toArray 0)).update s.heap.objs.size (zCA λ _=>(#[]:Array Value))).get? s.heap.objs.size=some (zBi "list" #[] e1):=⟨_,zDc hoL λ _=>#[]⟩
 have g1:=zAC (zBi "list" #[] 0) (zAC (zBi "tuple" (zs.map (·.1)).toArray 0) he1);have g2:=zDc g1 (λ _=>qx (zs.map (·.1)) p);generalize (if ((qx (zs.map (·.1)) p).size==(#[]:Array Value).size)=true then e1 else e1+1)=c1 at g2;have hend:(zGd (s.heap.push (zBi "list" (zs.map (·.1)).toArray 0)) s.heap.objs.size (zs.map (·.1)) (qx (zs.map (·.1)) p)).get? s.heap.objs.size=some (zBi "list" (qx (zs.map (·.1)) p) c1):=g2;have hout:qx (zs.map (·.1)) p=((p.toList.map λ i=>zs.getD i (zB6,[])).map (·.1)).toArray:=by unfold qx;rw[hmap]
 have hris:ue ((p.toList.map λ i=>zs.getD i (zB6,[])).map (·.2)):=by
  unfold ue;rw[zAb];refine zB9.mpr λ i j hi hj hij=>?_
  rw[zAE,zA7,a1.sz]at hi hj;have hk:∀k (hk:k<zs.length),Kp (O:=aE6) (λ i=>(zs.map (·.2)).getD i []) p k=(zs.getD (p.getD k 0) (zB6,[])).2:=λ k hk=>by
   show(zs.map (·.2)).getD (p.getD k 0) []=_
   rw[zA1,zA1,zAT];cases zs[p.getD k 0]?<;>rfl
  have hg:∀k (hk:k<p.toList.length),p.toList[k]=p.getD k 0:=λ k hk=>by
   have:k<p.size:=by simpa using hk
   simp[zCW,this]
  have this:HT.lexLt (Kp (O:=aE6) (λ i=>(zs.map (·.2)).getD i []) p j) (Kp (O:=aE6) (λ i=>(zs.map (·.2)).getD i []) p i)=false:=a2 i j (zBX hij) hj;rw[hk i hi,hk j hj]at this;rw[zDO,zDO,hg,hg];exact this
 have hkeep:∀b o,s.heap.get? b=some o->(zGd (s.heap.push (zBi "list" (zs.map (·.1)).toArray 0)) s.heap.objs.size (zs.map (·.1)) (qx (zs.map (·.1)) p)).get? b=some o:=λ b o e=>by
  unfold zGd;rw[zCE _ _ _ _ (hne b o e)];refine zAC _ (zAC _ ?_);rw[zCE _ _ _ _ (hne b o e)];exact zAC _ e
 rw[hout]at hend hkeep;have hq:=h (p.toList.map λ i=>zs.getD i (zB6,[])) _ c1 hperm hris hkeep hend;rw[<-hout]at hq;exact zAR ⟨_,rfl,hq⟩
theorem tR(h:wpAny (model prog w) A.in1 (collect v) (λ vs s'=>wpAny (model prog w) A.in1 (zGb vs>>=λ l=>zCk [l] (call (.builtin "list.sort") [l])>>=λ _=>ret l) (λ fin s'=>∃r,fin= .done (.ret r)/\Q r s') E s') E s):
  wpAny (model prog w) A (call (.builtin "sorted") [v]) Q E s:=by
 refine Calls.call_function_entry kind_sorted plain_sorted entry_sorted (args_sorted1 _) ?_;unfold zEM.«sorted»;refine zAD (m:=checkCount "sorted" 1 1 _) (zAR (zAD ?_));exact h
end
inductive j8(K:zAA)(H:Hp):List V->List (List Int)->Prop where
 |nil:j8 K H [] []
 |cons {a:Addr} {ns:List Int} {vs:List V} {nss:List (List Int)} (h:SqT K H a (ns.map V.int)) (hne:ns≠[]) (r:j8 K H vs nss):j8 K H (.ref a::vs) (ns::nss)
def uz:V->Value
 | .ref a=>.ref a
 |_=>.none
theorem j8.vals{K:zAA}:∀{vs:List V} {nss:List (List Int)} {us:List Value},j8 K H vs nss->Vals vs us->us=vs.map uz:=by
 intro vs nss us t v;induction v generalizing nss with
 |nil=>rfl
 |cons q s ih=>
  cases t with
  |cons _ _ r=>
   cases q;rw[zAG,ih r];rfl
theorem j8.len{K:zAA}:∀{vs:List V} {nss:List (List Int)},j8 K H vs nss->vs.length=nss.length
 |_,_,.nil=>rfl
 |_,_,.cons _ _ r=>by rw[zAY,zAY,r.len]
theorem j8.refs{K:zAA}:∀{vs:List V} {nss:List (List Int)},j8 K H vs nss->∀v∈vs,RelV v (uz v)
 |_,_,.nil,v,hv=>by simp at hv
 |_,_,.cons _ _ r,v,hv=>by
  rcases zAN.mp hv with e|hv
  ·subst e;exact rfl
  ·exact r.refs v hv
theorem j8.at(I:Inv X pins σ H s):∀{vs:List V} {nss:List (List Int)},j8 X.K H vs nss->fM s.heap (vs.map uz) nss
 |_,_,.nil=>.nil
 |_,_,.cons h hne r=>by
  obtain⟨its,rv,⟨o,ho,hc,n,hd⟩,_⟩:=I.tuple h;exact .cons ho hc hd (by simpa using intsAre_of rv) hne (r.at I)
theorem aAT:∀{vs:List V},(∀v∈vs,RelV v (uz v))->Vals vs (vs.map uz)
 |[],_=>.nil
 |v::vs,h=>.cons (h v zAI) (aAT λ u hu=>h u (zAL _ hu))
section
variable{X:Cx}
def aJ4(H:Hp)(vs:List V)(nss:List (List Int))(Q:VK):Prop:=∀zs:List (V×List Int),zs.Perm (vs.zip nss)->ue (zs.map (·.2))->New H (.lst (zs.map (·.1))) Q
theorem aDw{pins:List (Addr×Obj)}(I:Inv X pins σ H s)(ht:j8 X.K H vs nss)(h64:vs.length<64)(q:aJ4 H vs nss Q)
  (hs1:∃h1 tk,s1={s with heap:=h1,toks:=tk}/\s.heap.objs.size<=h1.objs.size/\∀b o,s.heap.get? b=some o->h1.get? b=some o){zs:List (Value×List Int)}(hz:zs.Perm ((vs.map uz).zip nss))(hus:us=zs.map (·.1)):
  wpAny (model X.prog X.w) X.A.in1 (zGb us>>=λ l=>zCk [l] (call (.builtin "list.sort") [l])>>=λ _=>ret l) (λ fin s'=>∃r,fin= .done (.ret r)/\EP X pins σ Q r s') X.xe s1:=by
 obtain⟨h1,tk,rfl,hsz,keep⟩:=hs1;subst hus;have hall:∀p∈zs,aLV h1 p:=λ p hp=>by
  obtain⟨x,o,xs,k,e1,e2,e3⟩:=(ht.at I).all p (hz.mem_iff.mp hp);exact⟨x,o,xs,k,e1,keep _ _ e2,e3⟩
 have hlen:zs.length<64:=by
  rw[hz.length_eq,zIn,zAE,<-ht.len,zD6];exact h64
 refine aC2 (s:={s with heap:=h1,toks:=tk}) hall hlen λ zs' h' e a1 a2 a3 a4=>?_
 have hmap:(vs.map uz).zip nss=(vs.zip nss).map λ p=>(uz p.1,p.2):=by rw[List.zip_map_left];rfl
 obtain⟨ws,w1,w2⟩:=tZ (f:=λ p:V×List Int=>(uz p.1,p.2)) (a1.trans hz) hmap;have hfr:H h1.objs.size=none:=I.hok.fresh hsz;have hmem:∀v∈ws.map (·.1),RelV v (uz v):=λ v hv=>by
  obtain⟨p,hp,rfl⟩:=zAn.mp hv;exact ht.refs p.1 (zCt (w1.mem_iff.mp hp)).1
 have hws:zs'.map (·.1)=(ws.map (·.1)).map uz:=by rw[w2,zAb,zAb];rfl
 have hwl:(ws.map (·.1)).length<=zAW:=by
  rw[zAE,w1.length_eq,zIn,<-ht.len,zD6,zBr];lia
 refine⟨.ref h1.objs.size,upd H h1.objs.size (.lst (ws.map (·.1))),I.laid (t':=tk) (λ b o e=>a3 b o (keep b o e)) hsz ⟨hwl,(ws.map (·.1)).map uz,e,aAT hmem,?_⟩,rfl,(q ws w1 ?_).at hfr⟩
 ·rw[<-hws];exact a4
 ·have:ws.map (·.2)=zs'.map (·.2):=by rw[w2,zAb];rfl
  rw[this];exact a2
def aEJ(K:zAA):List V->Hp->VK->Prop:=λ xs H Q=>∃p vs nss,xs=[.ref p]/\SqL K H p vs/\j8 K H vs nss/\vs.length<64/\aJ4 H vs nss Q
theorem aAQ:dD X (.builtin "sorted") (aEJ X.K):=by
 intro pins s σ H xs us Q I r h;obtain⟨p,vs,nss,rfl,hp,ht,h64,q⟩:=h;obtain⟨u,rfl,ru⟩:=vals1 r;cases ru;obtain⟨its,rv,pl,hz⟩:=I.list hp;have e:=ht.vals rv;subst e;have hl2:(vs.map uz).length=nss.length:=by rw[zAE];exact ht.len
 refine tR (collect_list pl.isList ?_ (by rw[zAE];exact hz));refine aDw I ht h64 q ⟨_,_,rfl,?_,λ b o e=>?_⟩ (zBE _) ?_
 ·rw[Heap.size_update,size_push']
  exact zCM _
 ·rw[zCE _ _ _ _ (zA0 (zAQ e))]
  exact zAC _ e
 ·exact(zI5 (by lia)).symm
end
def aGc(a:List Int):List (List Int)->List (List Int)
 |[]=>[a]
 |b::l=>if HT.lexLt b a then b::aGc a l else a::b::l
def aA0:List (List Int)->List (List Int)
 |[]=>[]
 |a::l=>aGc a (aA0 l)
theorem vQ(a:List Int):∀l,(aGc a l).Perm (a::l)
 |[]=>zBE _
 |b::l=>by
  unfold aGc;split
  ·exact((vQ a l).cons b).trans (zDU _ _ _)
  ·exact zBE _
theorem xm:∀l,(aA0 l).Perm l
 |[]=>zBE _
 |a::l=>(vQ a _).trans ((xm l).cons a)
theorem aK7(h:HT.lexLt a b=true):HT.lexLt b a=false:=by
 cases e:HT.lexLt b a with
 |false=>rfl
 |true=>have:=uE a b a h e;rw[aBn]at this;cases this
theorem aNI(h1:HT.lexLt b a=false)(h2:HT.lexLt c b=false):HT.lexLt c a=false:=by
 cases e:HT.lexLt c a with
 |false=>rfl
 |true=>
  rcases aIZ c b a e with z|z
  ·rw[h2]at z;cases z
  ·rw[h1]at z;cases z
theorem yr(a:List Int):∀l,ue l->ue (aGc a l)
 |[],_=>zAf.mpr ⟨λ _ h=>by simp at h,.nil⟩
 |b::l,h=>by
  obtain⟨h1,h2⟩:=zAf.mp h;unfold aGc;cases e:HT.lexLt b a with
  |true=>
   rw[if_pos rfl];refine zAf.mpr ⟨λ x hx=>?_,yr a l h2⟩;rcases zAN.mp ((vQ a l).mem_iff.mp hx)with q|q
   ·subst q;exact aK7 e
   ·exact h1 x q
  |false=>
   rw[if_neg (by simp)];refine zAf.mpr ⟨λ x hx=>?_,h⟩;rcases zAN.mp hx with q|q
   ·subst q;exact e
   ·exact aNI e (h1 x q)
theorem v8:∀l,ue (aA0 l)
 |[]=>.nil
 |a::l=>yr a _ (v8 l)
theorem aA5:∀{a b:List (List Int)},a.Perm b->ue a->ue b->a=b
 |[],b,p,_,_=>p.nil_eq
 |x::a,b,p,h1,h2=>by
  cases b with
  |nil=>exact absurd p.length_eq (by simp)
  |cons y b=>
   have hxy:x=y:=by
    obtain⟨q1,_⟩:=zAf.mp h1;obtain⟨q2,_⟩:=zAf.mp h2;have m1:x∈y::b:=p.mem_iff.mp zAI;have m2:y∈x::a:=p.mem_iff.mpr zAI;rcases zAN.mp m1 with e|m1
    ·exact e
    ·rcases zAN.mp m2 with e|m2
     ·exact e.symm
     ·exact aBm _ _ (q2 x m1) (q1 y m2)
   subst hxy;rw[aA5 (List.Perm.cons_inv p) (zAf.mp h1).2 (zAf.mp h2).2]
abbrev tupI(ns:List Int):D:=.tup (ns.map .int)
def xX:List D->Option (List (List Int))
 |[]=>some []
 | .tup l::r=>match intsOf l,xX r with
  |some (n::ns),some nss=>some ((n::ns)::nss)
  |_,_=>none
 |_=>none
theorem v5:∀{l:List D} {nss:List (List Int)},xX l=some nss->l=nss.map tupI/\∀ns∈nss,ns≠[]
 |[],nss,h=>by cases h;exact⟨rfl,λ ns h=>by simp at h⟩
 | .tup l::r,nss,h=>by
  unfold xX at h;split at h
  ·rename_i n ns nss' e1 e2
   cases h;obtain⟨q1,q2⟩:=v5 e2;rw[dR e1,q1];refine⟨rfl,λ ms hm=>?_⟩;rcases zAN.mp hm with e|hm
   ·subst e;simp
   ·exact q2 ms hm
  ·cases h
 | .non::_,_,h=>by cases h
 | .int _::_,_,h=>by cases h
 | .bl _::_,_,h=>by cases h
 | .str _::_,_,h=>by cases h
 | .lst _::_,_,h=>by cases h
 | .dct _ _::_,_,h=>by cases h
 | .set _::_,_,h=>by cases h
 | .scr _::_,_,h=>by cases h
theorem aCX{K:zAA}:∀{xs:List V} {nss:List (List Int)},Rps K A H xs (nss.map tupI)->(∀ns∈nss,ns≠[])->j8 K H xs nss
 |_,[],.nil,_=>.nil
 |_,ns::nss,.cons h r,hne=>by
  cases h with
  |tup h r'=>
   have e:=r'.ints_of;subst e;exact .cons h (hne ns zAI) (aCX r λ ms hm=>hne ms (zAL _ hm))
theorem aH2{K:zAA}:∀{zs:List (V×List Int)},(∀p∈zs,∃a,p.1= .ref a/\SqT K H a (p.2.map V.int))->Rps K A H (zs.map (·.1)) ((zs.map (·.2)).map tupI)
 |[],_=>.nil
 |p::zs,h=>by
  obtain⟨a,e1,e2⟩:=h p zAI;rw[zAG,zAG,zAG,e1];exact .cons (.tup e2 .ints) (aH2 λ q hq=>h q (zAL _ hq))
theorem j8.all{K:zAA}:∀{vs:List V} {nss:List (List Int)},j8 K H vs nss->∀p∈vs.zip nss,∃a,p.1= .ref a/\SqT K H a (p.2.map V.int)
 |_,_,.nil,p,hp=>by simp at hp
 |_,_,.cons h _ r,p,hp=>by
  rw[zBM]at hp;rcases zAN.mp hp with e|hp
  ·subst e;exact⟨_,rfl,h⟩
  ·exact r.all p hp
theorem aHL{K:zAA}(ht:j8 K H vs nss)(q:∀v H',aY H H'->Rp K (λ p=>H p=none) H' v (.lst ((aA0 nss).map tupI))->Q v H'):aJ4 H vs nss Q:=by
 intro zs hz hr p H' s hp hn;have e:zs.map (·.2)=aA0 nss:=aA5 (((hz.map (·.2)).trans (by rw[zI6 (by rw[ht.len];exact zAS _)])).trans (xm nss).symm) hr (v8 nss);refine q _ H' s (.lst hp hn ?_);rw[<-e];exact aH2 λ p hp=>by
  obtain⟨a,e1,e2⟩:=ht.all p (hz.mem_iff.mp hp);exact⟨a,e1,s.sqt e2⟩
def insI(a:Int):List Int->List Int
 |[]=>[a]
 |b::l=>if b<a then b::insI a l else a::b::l
def sortI:List Int->List Int
 |[]=>[]
 |a::l=>insI a (sortI l)
theorem insI_perm(a:Int):∀l,(insI a l).Perm (a::l)
 |[]=>zBE _
 |b::l=>by
  unfold insI;split
  ·exact((insI_perm a l).cons b).trans (zDU _ _ _)
  ·exact zBE _
theorem sortI_perm:∀l,(sortI l).Perm l
 |[]=>zBE _
 |a::l=>(insI_perm a _).trans ((sortI_perm l).cons a)
theorem aDU(a:Int):∀l:List Int,l.Pairwise (·<=·)->(insI a l).Pairwise (·<=·)
 |[],_=>zAf.mpr ⟨λ _ h=>by simp at h,.nil⟩
 |b::l,h=>by
  obtain⟨h1,h2⟩:=zAf.mp h;unfold insI;by_cases e:b<a
  ·rw[if_pos e]
   refine zAf.mpr ⟨λ x hx=>?_,aDU a l h2⟩;rcases zAN.mp ((insI_perm a l).mem_iff.mp hx)with q|q
   ·lia
   ·exact h1 x q
  ·rw[if_neg e]
   refine zAf.mpr ⟨λ x hx=>?_,h⟩;rcases zAN.mp hx with q|q
   ·lia
   ·have:=h1 x q;lia
theorem iB:∀l,(sortI l).Pairwise (·<=·)
 |[]=>.nil
 |a::l=>aDU a _ (iB l)
theorem fu:∀{us:List Value} {ns:List Int},zBD us ns->Vals (ns.map V.int) us
 |_,_,.nil=>.nil
 |_,_,.cons n t r=>.cons ⟨t,rfl⟩ (fu r)
section
variable{X:Cx}
def aEK(K:zAA):List V->Hp->VK->Prop:=λ xs H Q=>∃p ns,xs=[.ref p]/\SqL K H p (ns.map V.int)/\ns.length<64/\New H (.lst ((sortI ns).map V.int)) Q
theorem uZ:dD X (.builtin "sorted") (aEK X.K):=by
 intro pins s σ H xs us Q I r h;obtain⟨p,ns,rfl,hp,h64,q⟩:=h;obtain⟨u,rfl,ru⟩:=vals1 r;cases ru;obtain⟨its,rv,pl,hz⟩:=I.list hp;have hI:zBD its ns:=intsAre_of rv;have hlen:its.length<64:=by
  have:=rv.length
  rw[zAE]at this;lia
 refine sorted_ints pl.isList hI hlen λ out ns' h1 h2 h3=>?_
 have e:ns'=sortI ns:=zDi (h2.trans (sortI_perm ns).symm) h3 (iB ns);subst e;obtain⟨e,he⟩:=sortedAll_at s.heap its out;have hfr:H (s.heap.objs.size+1)=none:=I.hok.fresh (zCM _);refine⟨.ref (s.heap.objs.size+1),upd H (s.heap.objs.size+1) (.lst ((sortI ns).map V.int)),I.laid (t':=s.toks) (λ b o q=>sortedAll_old q) (zCM _) ?_,rfl,q.at hfr⟩;refine⟨?_,out.toList,e,fu h1,?_⟩
 ·rw[zAE,h2.length_eq]
  exact zAg (zBX h64) (by decide)
 ·rw[zEL]
  exact he
theorem dD.or(h1:dD X f r1)(h2:dD X f r2):dD X f λ xs H Q=>r1 xs H Q\/r2 xs H Q:=λ pins s σ H xs us Q I r h=>h.elim (h1 pins s σ H xs us Q I r) (h2 pins s σ H xs us Q I r)
end
def aJ9(K:zAA)(r:List V->Hp->VK->Prop)(fd:List D->Rs D):Prop:=∀(A:Addr->Prop) xs ds H (Q:VK) z,Rps K A H xs ds->fd ds= .ok z->(∀v H',aY H H'->Rp K (λ p=>H p=none) H' v z->Q v H')->r xs H Q
theorem aFG{K:zAA}(hs:aJ9 K r fd)(h1:aLU K G m ta g):gr K G (some []) (tCB r ta) (opA fd g):=by
 intro τ σ H ρ lab Q R W;refine h1 τ σ H ρ lab _ R (W.bd.imp λ d _ w x H1 s1 r1=>?_);obtain⟨z,ez,w⟩:=w.okD;exact hs (fpM m lab H) x d H1 Q z r1 ez λ v H' s r=>w v H' (s1.trans s) (r.wk λ p o _ q=>.inl (s1.free q))
def v9:List D->Rs D
 |[.lst l]=>match xX l with
  |some nss=>if nss.length<64 then .ok (.lst ((aA0 nss).map tupI))else .st
  |none=>match intsOf l with
   |some ns=>if ns.length<64 then .ok (.lst ((sortI ns).map .int))else .st
   |none=>.st
 |_=>.st
theorem aGj{K:zAA}:aJ9 K (λ xs H Q=>aEJ K xs H Q\/aEK K xs H Q) v9:=by
 intro A xs ds H Q z r ez q;unfold v9 at ez;split at ez
 ·cases r with
  |cons h r=>
   cases r;cases h with
   |lst h m r=>
    split at ez
    ·rename_i nss e
     obtain⟨e1,e2⟩:=v5 e;subst e1;split at ez
     ·rename_i hl
      cases ez;have ht:=aCX r e2;exact .inl ⟨_,_,nss,rfl,SqL.of h,ht,by rw[ht.len];exact hl,aHL ht q⟩
     ·cases ez
    ·split at ez
     ·rename_i ns e
      have e1:=dR e;subst e1;split at ez
      ·rename_i hl
       cases ez;have e2:=r.ints_of;subst e2;exact .inr ⟨_,ns,rfl,SqL.of h,hl,λ p H' s hp hn=>q _ H' s (.lst hp hn .ints)⟩
      ·cases ez
     ·cases ez
 ·cases ez
section
variable{C:Ct}{pos p p2 pos2:Pos}{m:Mode}{a:Expr}{ga:En->Rs (List D)}
theorem aA1(hm:C.mg "sorted"=none)(ha:SA C m [a] ga)(he:∀i,zAZ [a] (C.X i).env=[(false,eval a (C.X i).env)]:=by intro _;rfl)(hg:∀i,Gl (C.X i) "sorted":=by intro _;rfl)(hv:zAv "sorted"=some (.builtin "sorted"):=by decide+kernel):SE C (some []) (.Call (.Name "sorted" p) [a] [] pos) (opA v9 ga):=by
 obtain⟨t,h1,h2⟩:=ha;refine⟨_,λ i=>qF (r:=λ xs H Q=>aEJ C.K xs H Q\/aEK C.K xs H Q) (by rw[<-C.hK i];exact aAQ.or uZ) (hg i) (by rw[(C.cx i).2.2.2.1];exact hm) hv (h1 i) (by decide) (by decide) (he i) rfl,aFG aGj h2⟩
end
def ddI(ns:List Int):List Int:=ns.foldl zAs []
theorem aJP(ns:List Int)(n:Int):ddI (ns++[n])=zAs (ddI ns) n:=by unfold ddI;rw[zIO];rfl
theorem aJO(ns:List Int):zDs (λ i=>ns.getD i 0) ns.length=ddI ns:=by
 unfold zDs ddI;congr 1;refine zFR (by simp) λ i h1 h2=>?_
 rw[zDO,zHx,zA1,zAB h2];rfl
theorem aLG(hl:l.Nodup)(n:Int):(zAs l n).Nodup/\∀x,x∈zAs l n↔x∈l\/x=n:=by
 unfold zAs;by_cases h:l.any (·==n)=true
 ·rw[if_pos h]
  have:n∈l:=by simpa using h
  exact⟨hl,λ x=>⟨.inl,λ q=>q.elim id λ e=>e▸this⟩⟩
 ·rw[if_neg h]
  have:n∉l:=by simpa using h
  refine⟨zBW.mpr ⟨hl,by simp,λ x hx y hy e=>?_⟩,λ x=>by simp⟩;rw[zA8]at hy;subst hy;subst e;exact this hx
theorem aJN:∀(ns acc:List Int),acc.Nodup->(ns.foldl zAs acc).Nodup/\∀x,x∈ns.foldl zAs acc↔x∈acc\/x∈ns
 |[],acc,h=>⟨h,λ x=>by simp⟩
 |n::ns,acc,h=>by
  obtain⟨h1,h2⟩:=aLG h n;obtain⟨h3,h4⟩:=aJN ns _ h1;refine⟨h3,λ x=>?_⟩;rw[zBj,h4,h2,zAN];constructor
  ·rintro((a|a)|a)
   ·exact .inl a
   ·exact .inr (.inl a)
   ·exact .inr (.inr a)
  ·rintro(a|a|a)
   ·exact .inl (.inl a)
   ·exact .inl (.inr a)
   ·exact .inr a
theorem kh(ns:List Int):(ddI ns).Nodup:=(aJN ns [] (by simp)).1
theorem uD(ns:List Int)(x:Int):x∈ddI ns↔x∈ns:=by
 have:=(aJN ns [] (by simp)).2 x
 unfold ddI;simpa using this
theorem aCE(ns:List Int)(h:ns.Nodup):(ddI ns).length=ns.length:=
 Nat.le_antisymm (sub_len (kh ns) λ x hx=>(uD ns x).mp hx) (sub_len h λ x hx=>(uD ns x).mpr hx)
theorem aEu(ns:List Int):(ddI ns).length<=ns.length:=sub_len (kh ns) λ x hx=>(uD ns x).mp hx
section
variable{X:Cx}
def aHe(K:zAA):List V->Hp->VK->Prop:=λ xs H Q=>∃p ns,xs=[.ref p]/\(SqL K H p (ns.map V.int)\/SqT K H p (ns.map V.int))/\ns.length<4000/\∀a H',aY H H'->H' a=some (.set (λ k=>(ddI ns).any (·==k)) (ddI ns).length)->H a=none->Q (.ref a) H'
theorem aC4(I:Inv X pins σ H s)(q:∀a H',aY H H'->H' a=some (.set (λ k=>(ddI ns).any (·==k)) (ddI ns).length)->H a=none->Q (.ref a) H')
  (g1:h'.SetOf (zBy X.prog X.w) s.heap.objs.size (λ k'=>(zDs (λ i=>ns.getD i 0) ns.length).any (·==k')) (zDs (λ i=>ns.getD i 0) ns.length).length)(g2:∀b o,s.heap.get? b=some o->h'.get? b=some o):EP X pins σ Q (.ref s.heap.objs.size) {s with heap:=h',toks:=tk}:=by
 rw[aJO]at g1;have hfr:H s.heap.objs.size=none:=I.hok.fresh (zAS _);exact⟨.ref s.heap.objs.size,upd H s.heap.objs.size (.set (λ k=>(ddI ns).any (·==k)) (ddI ns).length),I.laid (t':=tk) g2 (zAS _) g1,rfl,q _ _ (bZ hfr _) bH hfr⟩
theorem aC3{s:zAF}{St:Nat->zAF->Prop}(hl:l<s.heap.objs.size)(hi:zBD its ns)(hz:ns.length<4000)
  (W:WalksS prog w A.in1 (s.heap.objs.size+1) [s.heap.objs.size+1,l] [s.heap.objs.size+1] (λ a b=>b=a) its.toArray.size (λ i v=>its.toArray[i]? =some v) St)(st:St 0 {s with heap:=(s.heap.push (cH #[] 0 (.fresh 0 0 led))).push oI})
  (R:zE8->zAF->Prop)(hR:∀h' tk,h'.SetOf (zBy prog w) s.heap.objs.size (λ k'=>(zDs (λ i=>ns.getD i 0) ns.length).any (·==k')) (zDs (λ i=>ns.getD i 0) ns.length).length->(∀b o,s.heap.get? b=some o->h'.get? b=some o)->R (.ok (.ret .none)) {s with heap:=h',toks:=tk}):
  zBq (model prog w) A (.builtin "set.update.loop" ⟨[.ref s.heap.objs.size,.ref (s.heap.objs.size+1)],[]⟩) R {s with heap:=(s.heap.push (cH #[] 0 (.fresh 0 0 led))).push oI}:=by
 have hlen:its.length=ns.length:=zFc hi;have hSf:s.heap.objs.size∉[s.heap.objs.size+1,l]:=by
  simp only[zAN,zBp,or_false,not_or];exact⟨zA0 (zBt _),zCH hl⟩
 have hsz:its.toArray.size=ns.length:=by rw[zAP];exact hlen
 refine PyProof.Rows.codeAny_set_update_loopS W s.heap.objs.size hSf (λ i=>ns.getD i 0) (λ i v hv=>zDq hi i v (by simpa using hv)) (by rw[hsz];unfold zEb;lia) (its.toArray.size-0) 0 _ (by lia) (zA9 _) st ?_ λ s' hm hS'=>?_
 ·have hget:((s.heap.push (cH #[] 0 (.fresh 0 0 led))).push oI).get? s.heap.objs.size=some (cH #[] 0 (.fresh 0 0 led)):=zAC _ (zAV _ rfl)
  exact PyProof.Rows.SetOf_congr ((PyProof.Rows.setObjOf_fresh (knd:=zBy prog w) led).setOf hget (by unfold zEb;lia)) (λ _=>rfl) rfl
 ·obtain⟨h',g',d',tk',os'⟩:=s'
  have eg:g'=s.gens:=hm.gens;have ed:d'=s.drawn:=hm.drawn;have eo:os'=s.os:=hm.os;subst eg;subst ed;subst eo;rw[hsz]at hS';refine hR h' tk' hS' λ b o e=>hm.heap b o ?_ (zAC _ (zAC _ e))
  have hb:=zAQ e;simp only[zAN,zBp,or_false,not_or];exact⟨zA0 hb,zA0 (zC6 hb)⟩
theorem aGl(hc:X.calm=true):dD X (.type "set") (aHe X.K):=by
 intro pins s σ H xs us Q I r h;obtain⟨p,ns,rfl,hp,hz,q⟩:=h;obtain⟨u,rfl,ru⟩:=vals1 r;cases ru;have hh:X.A.in1.in1.in1.handled=none:=I.ok.hd hc;have hsz:∀o:Obj,(s.heap.push o).objs.size=s.heap.objs.size+1:=λ o=>zB8 _ _
 rcases hp with hp|hp
 ·obtain⟨its,rv,pl,_⟩:=I.list hp
  have hI:zBD its ns:=intsAre_of rv;have hl0:=pl.isList;obtain⟨ol,hol,hcl,nl,hdl⟩:=pl.isList;have hlS:p<s.heap.objs.size:=zAQ hol;refine PySem.qR (T:="list") (Φ:=λ h'=>h'.SetOf (zBy X.prog X.w) s.heap.objs.size (λ k'=>(zDs (λ i=>ns.getD i 0) ns.length).any (·==k')) (zDs (λ i=>ns.getD i 0) ns.length).length) ⟨ol,hol,hcl⟩ F.sub_list_set zIM (by decide)
   (λ h₁ A₁ E₁ Q₁ k q=>zED (s:={s with heap:=h₁}) (items:=its.toArray) ⟨ol,k _ _ hol,hcl,nl,hdl⟩ q) (λ R hR=>?_) λ h' tk g1 g2=>aC4 I q g1 g2
  rw[hsz];refine aC3 hlS hI hz ((zID hh _ p (zA0 (zC6 hlS)) its.toArray).toS) ⟨?_,?_⟩ R hR
  ·have e:=zAV (s.heap.push (cH #[] 0 (.fresh 0 0 (!X.w.params.followText "set-order")))) (o:={cls:=.type "list_iterator",data:=.fields #[.ref p,.int 0 0]}) rfl
   rw[hsz]at e;exact⟨_,e,rfl,rfl⟩
  ·exact⟨ol,zAC _ (zAC _ hol),hcl,nl,hdl⟩
 ·obtain⟨its,rv,pl,_⟩:=I.tuple hp
  have hI:zBD its ns:=intsAre_of rv;obtain⟨ol,hol,hcl,nl,hdl⟩:=id pl;have hlS:p<s.heap.objs.size:=zAQ hol;refine PySem.qR (T:="tuple") (Φ:=λ h'=>h'.SetOf (zBy X.prog X.w) s.heap.objs.size (λ k'=>(zDs (λ i=>ns.getD i 0) ns.length).any (·==k')) (zDs (λ i=>ns.getD i 0) ns.length).length) ⟨ol,hol,hcl⟩ F.sub_tuple_set F.sub_tuple_frozenset (by decide)
   (λ h₁ A₁ E₁ Q₁ k q=>zJI (s:={s with heap:=h₁}) (items:=its.toArray) ⟨ol,k _ _ hol,hcl,nl,hdl⟩ q) (λ R hR=>?_) λ h' tk g1 g2=>aC4 I q g1 g2
  rw[hsz];refine aC3 hlS hI hz ((Walks.tuple hh _ p (zA0 (zC6 hlS)) its.toArray).toS) ⟨?_,?_⟩ R hR
  ·have e:=zAV (s.heap.push (cH #[] 0 (.fresh 0 0 (!X.w.params.followText "set-order")))) (o:={cls:=.type "tuple_iterator",data:=.fields #[.ref p,.int 0 0]}) rfl
   rw[hsz]at e;exact⟨_,e,rfl,rfl⟩
  ·exact⟨ol,zAC _ (zAC _ hol),hcl,nl,hdl⟩
theorem aGp:dD X (.builtin "len") (λ xs H Q=>∃p S n,xs=[.ref p]/\H p=some (.set S n)/\Q (.int n) H):=by
 intro pins s σ H xs us Q I r h;obtain⟨p,S,n,rfl,hp,q⟩:=h;obtain⟨u,rfl,ru⟩:=vals1 r;cases ru;obtain⟨o,es,ep,t,ho,hex,hd,_,_,hb,hf,hn⟩:=I.hok p _ hp
 have:(es.size:Int)<2^63:=by unfold zEb at hb;lia
 refine PySem.call_len_set ho hex hd hf this ⟨.int n,H,(I.tok _).tok _,?_,q⟩;exact⟨_,by rw[hn]⟩
end
theorem aH4{K:zAA}(nd:l.Nodup)(h:H a=some (.set (λ k=>l.any (·==k)) l.length))(m:A a):Rp K A H (.ref a) (.set l):=.set h m (λ i=>by
 rw[zCU];simp) nd
def zq:List D->Rs D
 |[.lst l]=>match intsOf l with
  |some ns=>if ns.length<4000 then .ok (.set (ddI ns))else .st
  |none=>.st
 |[.tup l]=>match intsOf l with
  |some ns=>if ns.length<4000 then .ok (.set (ddI ns))else .st
  |none=>.st
 |_=>.st
theorem aN9{K:zAA}:aJ9 K (aHe K) zq:=by
 intro A xs ds H Q z r ez q;unfold zq at ez;split at ez
 ·cases r with
  |cons h r=>
   cases r;cases h with
   |lst h m r=>
    split at ez
    ·rename_i ns e
     have e1:=dR e;subst e1;split at ez
     ·rename_i hl
      cases ez;have e2:=r.ints_of;subst e2;exact⟨_,ns,rfl,.inl (SqL.of h),hl,λ a H' s ha hn=>q _ H' s (aH4 (kh ns) ha hn)⟩
     ·cases ez
    ·cases ez
 ·cases r with
  |cons h r=>
   cases r;cases h with
   |tup h r=>
    split at ez
    ·rename_i ns e
     have e1:=dR e;subst e1;split at ez
     ·rename_i hl
      cases ez;have e2:=r.ints_of;subst e2;exact⟨_,ns,rfl,.inr h,hl,λ a H' s ha hn=>q _ H' s (aH4 (kh ns) ha hn)⟩
     ·cases ez
    ·cases ez
 ·cases ez
def aAH:List D->Rs D
 |[.set l]=>.ok (.int l.length)
 |ds=>bu ds
theorem aLJ{K:zAA}:wV K (λ xs H Q=>(∃p ys,xs=[.ref p]/\(SqL K H p ys\/SqT K H p ys)/\Q (.int ys.length) H)\/∃p S n,xs=[.ref p]/\H p=some (.set S n)/\Q (.int n) H) aAH:=by
 intro A xs ds H Q z r ez q;unfold aAH at ez;split at ez
 ·cases ez
  cases r with
  |cons h r=>
   cases r;cases h with
   |set h m hS nd=>exact .inr ⟨_,_,_,rfl,h,q _ H (aY.refl H) (.int _)⟩
 ·exact .inl (aJR A xs _ H Q z r ez q)
theorem aIt:∀x z,aAH x= .ok z->imm z=true:=by
 intro x z e;unfold aAH at e;split at e
 ·cases e;rfl
 ·exact aFi _ _ e
section
variable{C:Ct}{pos p:Pos}{m:Mode}{a:Expr}{ga:En->Rs (List D)}
theorem aMP(hm:C.mg "set"=none)(ha:SA C m [a] ga)(he:∀i,zAZ [a] (C.X i).env=[(false,eval a (C.X i).env)]:=by intro _;rfl)(hg:∀i,Gl (C.X i) "set":=by intro _;rfl)(hv:zAv "set"=some (.type "set"):=by decide+kernel):SE C (some []) (.Call (.Name "set" p) [a] [] pos) (opA zq ga):=by
 obtain⟨t,h1,h2⟩:=ha;refine⟨_,λ i=>nD (r:=aHe C.K) (by rw[<-C.hK i];exact aGl (C.calm i)) (hg i) (by rw[(C.cx i).2.2.2.1];exact hm) hv (h1 i) (by decide) (by decide) (he i) rfl,aFG aN9 h2⟩
theorem aJr(hm:C.mg "len"=none)(ha:SA C m [a] ga)(he:∀i,zAZ [a] (C.X i).env=[(false,eval a (C.X i).env)]:=by intro _;rfl)(hg:∀i,Gl (C.X i) "len":=by intro _;rfl):SE C (some []) (.Call (.Name "len" p) [a] [] pos) (opA aAH ga):=
 ie (pR (λ i=>by have h:=(u5 (X:=C.X i)).or aGp;rw[C.hK i]at h;exact h) aLJ hg hm zIq ha (by decide) (by decide) he) λ _ _ h=>uI aIt h
end
section
variable{K:zAA}{G:Gx}{wi:TI}{fi:En->Rs (List D)}{g:TG}{fg:D->En->Rs En}{tt:TT}
theorem aML(hi:aDf K G wi fi)(hg:aDg K {G with E:=λ _ _ _=>False} g fg)(hfg:∀d,∃ρ1,fg d [.no]= .ok ρ1)(ht:z9 K {G with E:=λ _ _ _=>False} tt cU)(R:RR K G τ ρ σ H lab)
  (W:WR G (fi (shE ρ)) (λ ds=>ds.length<zAW/\∀(l:Addr) (as:List Addr) H',aY H H'->H l=none->H' l=some (.lst (as.map V.ref))->(l::as).Nodup->as.length=ds.length->(∀a∈as,H a=none/\H' a=some (.lst []))->Q (.ref l) H')):
  tLC wi (stV [none]) g tt (aHD pM) σ H Q:=by
 refine hi τ σ H _ _ _ R.shE (W.imp λ ds _ w J H1 lab1 τ1 s1 _ R1 jl=>?_);obtain⟨hlen,w⟩:=w;intro l hl;have hHl:H l=none:=s1.free hl;have nl:∀p o,H1 p=some o->p≠l:=λ p o e z=>by subst z;rw[hl]at e;cases e
 have RB:RR K {G with E:=λ _ _ _=>False} (τ1++τ) [.no] (stV [none] σ) H1 (λ p=>if p=l then(2,0)else(0,0)):=by
  refine⟨rfl,λ i s e=>?_,R1.old,λ p hp=>?_,λ q hq=>(R1.tm q hq).wk λ p o e _=>by rw[if_neg (nl p o e)];exact zA9 _⟩
  ·match i,e with
   |0,e=>cases e;exact .inl rfl
   |i+1,e=>simp at e
  ·by_cases z:p=l
   ·subst z;exact R1.old.free hl
   ·exact absurd (show(if p=l then((2,0):Nat×Nat)else(0,0)).1=0 by rw[if_neg z]) hp
 have labl:¬((λ p=>if p=l then((2,0):Nat×Nat)else(0,0)) l).1<=1:=by simp
 refine⟨λ i n acc H2=>∃as:List Addr,n=ds.length-i/\i<=ds.length/\acc=as.map V.ref/\H2 l=some (.lst acc)/\RR K {G with E:=λ _ _ _=>False} (τ1++τ) [.no] (stV [none] σ) H2 (λ p=>if p=l then(2,0)else(0,0))/\aY H H2/\as.length=i/\(l::as).Nodup/\∀a∈as,H a=none/\H2 a=some (.lst []),
  ⟨ds.length,[],by omega,by omega,rfl,bH,RB.up (bZ hl _),s1.trans (bZ hl _),rfl,by simp,λ a h=>by simp at h⟩,?_⟩
 rintro i n acc H2 ⟨as,rfl,hi',rfl,hH2,R2,s2,hlen2,hnd,hal⟩;refine⟨hH2,by rw[zAE];omega,?_⟩;have jj:=jl _ H2 λ q hq=>R2.tm q (zAX _ hq)
 by_cases hlt:i<ds.length
 ·obtain⟨go,yl⟩:=(jj i).2 hlt
  refine .inr ⟨go,λ x H3 hy=>?_⟩;obtain⟨s3,d,ed,rx⟩:=yl x H3 hy;replace R2:=R2.up s3;replace hH2:=s3 _ _ hH2;replace s2:=s2.trans s3;replace hal:=λ a ha=>(⟨(hal a ha).1,s3 _ _ (hal a ha).2⟩:H a=none/\H3 a=some (.lst []))
  obtain⟨ρ1,e1⟩:=hfg d;refine hg (τ1++τ) x d _ H3 _ _ _ ρ1 R2 rx e1 λ σ4 R4=>?_
  refine ht (τ1++τ) σ4 H3 ρ1 _ _ R4 λ H5 s5=>?_
  rw[if_pos rfl];refine⟨zA9 _,λ p H6 s6 hp hn=>?_⟩;have hl6:H6 l=some (.lst (as.map V.ref)):=s6 _ _ (s5 _ _ hH2);have hpl:p≠l:=λ z=>by subst z;rw[s5 _ _ hH2]at hn;cases hn
  have hpa:p∉as:=λ z=>by
   have:=s5 _ _ (hal p z).2
   rw[hn]at this;cases this
  have hpH:H p=none:=(s2.trans s5).free hn;have B:lw l H6 (upd H6 l (.lst (as.map V.ref++[.ref p]))):=λ b o ne hb=>by rw[aj ne];exact hb
  refine⟨hl6,ds.length-(i+1),by omega,as++[p],rfl,hlt,by rw[zAq];rfl,bH,?_,?_,by rw[zA5];simp;omega,?_,λ a ha=>?_⟩
  ·have R6:=R2.up (s5.trans s6)
   refine⟨R6.len,λ j s e=>?_,λ b o hb=>?_,R6.new,λ q hq=>(R6.tm q hq).but B hl6 rfl labl⟩
   ·match j,e with
    |0,e=>cases e;exact .inl rfl
    |j+1,e=>simp at e
   ·exact B b o (λ z=>by subst z;rw[R1.old.free hl]at hb;cases hb) (R6.old b o hb)
  ·exact λ b o hb=>B b o (λ z=>by subst z;rw[hHl]at hb;cases hb) (((s2.trans s5).trans s6) b o hb)
  ·obtain⟨n1,n2⟩:=zB1.mp hnd
   refine zB1.mpr ⟨λ z=>?_,zBW.mpr ⟨n2,by simp,λ x hx y hy e=>?_⟩⟩
   ·rcases zAm.mp z with z|z
    ·exact n1 z
    ·exact hpl (zA8.mp z).symm
   ·rw[zA8]at hy
    subst hy;subst e;exact hpa hx
  ·rcases zAm.mp ha with z|z
   ·refine⟨(hal a z).1,?_⟩
    rw[aj λ q=>by subst q;exact(zB1.mp hnd).1 z];exact s6 _ _ (s5 _ _ (hal a z).2)
   ·rw[zA8]at z
    subst z;exact⟨hpH,by rw[aj hpl];exact hp⟩
 ·have ei:i=ds.length:=by omega
  exact .inl ⟨by rw[ei];exact(jj _).1 (zAS _),w l as H2 s2 hHl hH2 hnd (by omega) hal⟩
end
section
variable{C:Ct}{pos lpos:Pos}{tg iter:Expr}{sc:Scope}{N:List Str}{js:List (Option Nat)}{ks:List Nat}{fi:En->Rs (List D)}{fg:D->En->Rs En}
def llS(i:Nat)(fi:En->Rs (List D))(js:List (Option Nat))(fg:D->En->Rs En):En->Ou:=λ ρ=>(fi (shE ρ)).bo λ ds=>if ds.length<zAW then .nx (ρ.set i (.o2 (zAM ds.length [])))else .st
theorem aL5(hi:SI C tg iter fi)(hg:SG (C.blk sc N) tg ks fg)(hj:js=[none]:=by rfl)(hfg:∀d,∃ρ1,fg d [.no]= .ok ρ1:=by intro _;exact⟨_,rfl⟩)(hN:∀j,(C.X j).N[i]? =some x:=by intro _;rfl)(hx:∀j,Loc (C.X j).env.scope x:=by intro _;first|exact zCi rfl|exact zBw rfl)(hsw:∀j,zDI (.ListComp (.List [] lpos) [⟨tg,iter,[],0⟩] sc pos) (some (.Name x pos')) spos.line (C.X j).env=pure true:=by intro _;rfl)(hs:∀i x,zAw iter (C.X i).env x=pure x:=by intro _ _;rfl)(hf:∀j,(C.X j).fn x=true\/(C.X j).env.scope.names.lookup x=some .local:=by intro _;first|exact .inl rfl|exact .inr rfl)(nd:∀j,(C.X j).N.Nodup:=by intro _;assumption)(hB:∀i,eU (C.X i) sc N (stV js) ks:=by intro _;exact vW rfl rfl rfl rfl rfl rfl):
  SS C (.Assign [.Name x pos'] (.ListComp (.List [] lpos) [⟨tg,iter,[],0⟩] sc pos) spos) (llS i fi js fg):=by
 subst hj;obtain⟨wi,i1,i2⟩:=hi;obtain⟨g,g1,g2,g3,g4⟩:=hg;obtain⟨tt,t1,t2⟩:=jB (C:=C.blk sc N);refine⟨_,λ j=>aCk (nd j) (hN j) (hx j) (hB j) (C.calm j) (i1 j) (λ c fp s₀ H₀=>g1 (j,c,fp,s₀,H₀)) g3 (λ c fp s₀ H₀=>t1 (j,c,fp,s₀,H₀)) (λ c fp s₀ H₀=>oW dg) (hsw j) (hs j) (hf j),λ τ σ H ρ lab De R W=>?_⟩;refine aML i2 g2 hfg t2 R (W.bo.imp λ ds _ w=>?_);by_cases hl:ds.length<zAW
 ·rw[if_pos hl]at w
  refine⟨hl,λ l as H' s hn hH hnd hlen hal=>?_⟩;have hlab:∀p o,H p=some o->(λ p=>if p=l then(i+2,0)else if p∈as then(i+2,as.idxOf p+1)else eE H 1 lab p) p=lab p:=λ p o e=>by
   dsimp only;have z1:p≠l:=λ z=>by subst z;rw[hn]at e;cases e
   have z2:p∉as:=λ z=>by rw[(hal p z).1]at e;cases e
   rw[if_neg z1,if_neg z2,cN e]
  have R':RR C.K C.G τ ρ σ H' (λ p=>if p=l then(i+2,0)else if p∈as then(i+2,as.idxOf p+1)else eE H 1 lab p):=by
   refine(R.relab hlab λ p hp=>?_).up s;cases e:H p with
   |none=>exact R.old.free e
   |some o=>
    have:=hlab p o e
    dsimp only at this hp;rw[this]at hp;exact R.new p hp
  refine w _ _ _ (R'.put (s:=.o2 (zAM ds.length [])) ⟨l,as.map V.ref,rfl,hH,by dsimp only;rw[if_pos rfl],by rw[zAE,zBV];exact hlen,λ j x es e1 e2=>?_⟩);rw[zAT,zBh]at e1;obtain⟨a,e1,rfl⟩:=e1;have ees:es=[]:=by
   rw[zCF]at e2;split at e2
   ·cases e2;rfl
   ·cases e2
  subst ees;have ha:a∈as:=zAo e1;have hla:a≠l:=λ z=>by subst z;exact(zB1.mp hnd).1 ha
  have hj2:j<as.length:=(zAH.mp e1).1;refine .lst (hal a ha).2 ?_ .nil
  show(if a=l then(i+2,0)else if a∈as then(i+2,as.idxOf a+1)else eE H 1 lab a)=(i+2,j+1)
  rw[if_neg hla,if_pos ha];have hix:as.idxOf a<as.length:=List.idxOf_lt_length_iff.mpr ha
  have:as[as.idxOf a]? =some a:=by rw[zAB hix];exact congrArg some (List.getElem_idxOf hix)
  have:=(List.getElem?_inj hix (zB1.mp hnd).2).mp (this.trans e1.symm)
  rw[this]
 ·rw[if_neg hl]at w
  exact zAO w
end
section
variable{C:Ct}{pos apos cpos p:Pos}{e e1 e2:Expr}{fe f1 f2:En->Rs D}{i:Nat}{x:Str}{m m1:Mode}
end
section
variable{C:Ct}{pos p:Pos}{a:Expr}{ga:En->Rs (List D)}{m:Mode}
end
theorem w5:∀{us:List α},us.length=1->∃a0,us=[a0]
 |[a0],_=>⟨a0,rfl⟩
theorem oY:∀{us:List α},us.length=2->∃a0 a1,us=[a0,a1]
 |[a0,a1],_=>⟨a0,a1,rfl⟩
theorem aI2:∀{us:List α},us.length=3->∃a0 a1 a2,us=[a0,a1,a2]
 |[a0,a1,a2],_=>⟨a0,a1,a2,rfl⟩
theorem aPC:∀{us:List α},us.length=4->∃a0 a1 a2 a3,us=[a0,a1,a2,a3]
 |[a0,a1,a2,a3],_=>⟨a0,a1,a2,a3,rfl⟩
theorem aG1:∀{us:List α},us.length=6->∃a0 a1 a2 a3 a4 a5,us=[a0,a1,a2,a3,a4,a5]
 |[a0,a1,a2,a3,a4,a5],_=>⟨a0,a1,a2,a3,a4,a5,rfl⟩
section
variable{K:zAA}{G:Gx}{wi:TI}{fi:En->Rs (List D)}{js:List (Option Nat)}{g:TG}{fg:D->En->Rs En}{tt:TT}{ft:En->Rs Bool}{te:TE}{fe:En->Rs D}
end
section
variable{C:Ct}{pos:Pos}{elt tg iter:Expr}{ifs:List Expr}{sc:Scope}{N:List Str}{js:List (Option Nat)}{ks:List Nat}{fi:En->Rs (List D)}{fg:D->En->Rs En}{ft:En->Rs Bool}{fe:En->Rs D}
end
section
variable{C:Ct}{pos apos cpos p:Pos}{e a:Expr}{fe fa:En->Rs D}{i:Nat}{x:Str}{m:Mode}
end
section
variable{C:Ct}{pos tpos p:Pos}{ek e:Expr}{fk fe:En->Rs D}{x:Str}{m m1:Mode}{op:zJC}{g:Int->Int->Int}
end
def rJ(j:Int):List Int:=(zAp j.toNat).map λ(k:Nat)=>0+(k:Int)
def aOG:List V->Hp->VK->Prop:=λ xs H Q=>∃j:Int,xs=[.int j]/\∀p,H p=none->Q (.ref p) (upd H p (.rng 0 j))
theorem aJW:dD X (.type "range") aOG:=by
 intro pins s σ H vs us Q I rv h;obtain⟨j,rfl,q⟩:=h;obtain⟨u,rfl,ru⟩:=rv.one;obtain⟨t,rfl⟩:=ru;exact call_range_1 ⟨.ref s.heap.objs.size,_,I.laid (a:=s.heap.objs.size) (o:=.rng 0 j) (t':=s.toks+1+1) (λ _ _ q=>zAC _ q) (zAS _) ⟨_,_,_,zAV _ rfl⟩,rfl,q _ (I.hok.fresh (zAS _))⟩
def aCj:List V->Hp->VK->Prop:=λ xs H Q=>∃(p:Addr) (j:Int),xs=[.ref p]/\H p=some (.rng 0 j)/\-(2^62)<=j/\j<=10000/\∀l H',aY H H'->H l=none->H' l=some (.lst ((rJ j).map V.int))->Q (.ref l) H'
theorem aJd:∀{ns:List Int} {us:List Value},ns.length=us.length->(∀(k:Nat) i,ns[k]? =some i->∃tk,us[k]? =some (.int i tk))->Vals (ns.map V.int) us:=by
 intro ns;induction ns with
 |nil=>intro us hl _;rw[List.eq_nil_of_length_eq_zero hl.symm];exact .nil
 |cons n ns ih=>
  intro us hl h;obtain⟨tk,e⟩:=h 0 n rfl;cases us with
  |nil=>cases e
  |cons u us=>
   have e':u= .int n tk:=zAa e;subst e';exact .cons ⟨tk,rfl⟩ (ih (zGh hl) λ k i hi=>h (k+1) i hi)
theorem aCK(hc:X.calm=true):dD X (.type "list") aCj:=by
 intro pins s σ H vs us Q I rv h;obtain⟨p,j,rfl,hp,h1,h2,q⟩:=h;obtain⟨u,rfl,ru⟩:=rv.one;cases ru;obtain⟨t,u,v,hg⟩:=I.hok p _ hp;have hsz:zDT 0 j 1=(j.toNat:Int):=by
  unfold zDT;simp only[show(1:Int)>0 by decide,if_true];split<;>lia
 refine call_list_range (n:=j.toNat) (I.ok.hd hc) hg ?_ hsz (by lia) λ h' tk acc c' hk hS hacc=>?_
 ·have fl:∀x:Int,-(2^62)<=x->x<=2^62->zEW x=true:=λ x hx1 hx2=>by
   unfold zEW;simp;lia
  unfold zJK;rw[hsz,fl 0 (by lia) (by lia),fl j (by lia) (by lia),fl 1 (by lia) (by lia),fl _ (by lia) (by lia),if_pos (by decide),fl (j+(1-1)) (by lia) (by lia),zJJ];rfl
 ·have hfr:=I.hok.fresh (zAS s.heap.objs.size)
  have hv:Vals ((rJ j).map V.int) acc.toList:=by
   have hl:(rJ j).length=acc.toList.length:=by rw[show acc.toList.length=acc.size from zA7,hacc.1];simp[rJ]
   refine aJd hl λ k i hi=>?_
   have hk2:k<acc.size:=by rw[hacc.1];have:=(zAH.mp hi).1;simpa[rJ]using this
   obtain⟨tk,e⟩:=hacc.2 k acc[k] (zC8 hk2);refine⟨tk,?_⟩;have ei:i=0+(k:Int)*1:=by
    unfold rJ at hi;rw[zAT]at hi;cases c:(zAp j.toNat)[k]? with
    |none=>rw[c]at hi;cases hi
    |some m=>
     rw[c]at hi;cases hi
     have:=zAH.mp c
     have:m=k:=by simpa using this.2.symm
     subst this
     show(0:Int)+(m:Int)=0+(m:Int)*1
     lia
   rw[ei,<-e];simp[hk2]
  refine⟨.ref s.heap.objs.size,upd H s.heap.objs.size (.lst ((rJ j).map V.int)),I.laid (t':=tk) hk (zAS _) ⟨?_,acc.toList,c',hv,by simpa using hS⟩,rfl,q _ _ (bZ hfr _) hfr bH⟩;simp[rJ]
  have:zAW=16777216:=zBr
  lia
def lrR:D->Rs D
 | .int j=>if -(2^62)<=j/\j<=10000 then .ok (.lst (bT 0 j))else .st
 |_=>.st
def lrD(fa:En->Rs D):En->Rs D:=λ ρ=>(fa ρ).bd lrR
theorem aA4(j:Int):bT 0 j=(rJ j).map D.int:=by
 unfold bT rJ;rw[zAb,Int.sub_zero];rfl
section
variable{C:Ct}{pos pos2 p p2:Pos}{a:Expr}{fa:En->Rs D}{m:Mode}
theorem oH(hmL:C.mg "list"=none)(hmR:C.mg "range"=none)(ha:SE C m a fa)(hs:∀i,zAZ [a] (C.X i).env=[(false,eval a (C.X i).env)]:=by intro _;rfl)(hs2:∀i,zAZ [.Call (.Name "range" p2) [a] [] pos2] (C.X i).env=[(false,eval (.Call (.Name "range" p2) [a] [] pos2) (C.X i).env)]:=by intro _;rfl)(hgL:∀i,Gl (C.X i) "list":=by intro _;rfl)(hvL:zAv "list"=some (.type "list"):=by decide+kernel)(hgR:∀i,Gl (C.X i) "range":=by intro _;rfl):SE C (some []) (.Call (.Name "list" p) [.Call (.Name "range" p2) [a] [] pos2] [] pos) (lrD fa):=by
 obtain⟨t,h1,h2⟩:=ha;refine⟨tCB aCj (jk (tCB aOG (jk t pM)) pM),λ i=>nD (aCK (C.calm i)) (hgL i) (by rw[(C.cx i).2.2.2.1];exact hmL) hvL (bG (nD aJW (hgR i) (by rw[(C.cx i).2.2.2.1];exact hmR) zJW (bG (h1 i) dg (hs i)) (by decide) (by decide) (hs i) rfl) dg (hs2 i)) (by decide) (by decide) (hs2 i) rfl,λ τ σ H ρ lab Q R W=>?_⟩;refine h2 τ σ H ρ lab _ R (W.bd.imp λ d _ w y H1 s1 r1=>?_);unfold lrR at w;split at w
 ·rename_i j _
  by_cases hz: -(2^62)<=j/\j<=10000
  ·rw[if_pos hz]at w
   have ey:=r1.int_inv;subst ey;refine⟨j,rfl,λ q hq=>⟨q,j,rfl,bH,hz.1,hz.2,λ l H' s' hl hH'=>?_⟩⟩;have s0:=(s1.trans (bZ hq _)).trans s';have hlH:H l=none:=(s1.trans (bZ hq _)).free hl;refine w _ H' s0 (.lst hH' (.inl hlH) ?_);rw[aA4];exact Rps.ints
  ·rw[if_neg hz]at w
   exact zAO w
 ·exact zAO w
end
def aLe:V->List V->Hp->VK->Prop:=λ x vs H Q=>∃(l:Addr) (S:Int->Bool) (n:Nat) (i:Int),x= .ref l/\vs=[.int i]/\H l=some (.set S n)/\n+1<zEb/\∀H',lw l H H'->H' l=some (.set (λ k=>S k||decide (k=i)) (if S i=true then n else n+1))->Q .non H'
theorem aK3:MtM X "set.add" aLe:=by
 intro pins s σ H x vs v us Q I rx rv h;obtain⟨l,S,n,i,rfl,rfl,hH,hn,q⟩:=h;cases rx;obtain⟨u,rfl,ru⟩:=rv.one;obtain⟨t,rfl⟩:=ru;have hS:s.heap.SetOf (zBy X.prog X.w) l S n:=I.hok l _ hH;refine call_set_add (k:=i) (by simp[zBy,zFi]) rfl hS hn λ h' hsb hS'=>⟨.non,_,?_,rfl,q _ (λ b o ne hb=>by rw[aj ne];exact hb) bH⟩
 refine I.write (x:=l) (e:=l) (by rw[hH];exact trivial) (.inl rfl) (λ b' u hb hu=>(hsb.2 b' hb).trans hu) ?_ hS';obtain⟨o,_,_,_,ho,_⟩:=hS';exact⟨o,ho⟩
theorem aGh(ds:List Int)(z:Int):(zAs ds z).length=if decide (z∈ds)=true then ds.length else ds.length+1:=by
 unfold zAs;by_cases h:z∈ds
 ·rw[if_pos (by simpa using h),if_pos (by simpa using h)]
 ·rw[if_neg (by simpa using h),if_neg (by simpa using h),zA5,zDJ]
theorem aAz(ds:List Int)(z k:Int):(decide (k∈ds)||decide (k=z))=decide (k∈zAs ds z):=by
 unfold zAs;rw[zCU];split
 ·rename_i h
  have h':z∈ds:=by simpa using h
  simp only[zDV,decide_eq_true_eq];exact⟨λ q=>q.elim id λ e=>e▸h',.inl⟩
 ·simp
theorem aD4{z:Int}(nd:ds.Nodup):(zAs ds z).Nodup:=by
 unfold zAs;split
 ·exact nd
 ·rename_i h
  have h':¬z∈ds:=by simpa using h
  refine zBW.mpr ⟨nd,by simp,λ a ha b hb e=>?_⟩;rw[zA8]at hb;subst hb;subst e;exact h' ha
def aGs(ρ:En)(i:Nat)(ds:List Int):D->Ou
 | .int z=>if ds.length<4000 then .nx (ρ.set i (.ow (.set (zAs ds z))))else .st
 |_=>.st
def aLS(i:Nat)(fe:En->Rs D):En->Ou:=λ ρ=>match ρ[i]? with
 |some (.ow (.set ds))=>(fe ρ).bo λ d=>aGs ρ i ds d
 |_=>.st
section
variable{C:Ct}{pos apos cpos p:Pos}{e a:Expr}{fe fa:En->Rs D}{i:Nat}{x:Str}{m:Mode}
theorem aMK(i:Nat)(he:SE C m e fe)(hm:okN m=true:=by rfl)(hN:∀j,(C.X j).N[i]? =some x:=by intro _;rfl)(hv:∀j,Vis (C.X j).env.scope x:=by intro _;first|exact zCi rfl|exact zBw (zCi rfl)|exact zBw (zBw rfl))(hd:(x==("__debug__":Str))=false:=by decide)
  (hcd:(x==("__classdict__":Str))=false:=by decide)(hs1:∀j,zAZ [e] (C.X j).env=[(false,eval e (C.X j).env)]:=by intro _;rfl)
  (hbase:∀j,zEQ (.Name x p) "add" (C.X j).env (eval (.Name x p) (C.X j).env)=eval (.Name x p) (C.X j).env:=by intro _;rfl)
  (hfew:∀j,((zC1 cpos (zAZ [e] (C.X j).env)).all (λ x=>!x.1)&&(zFj cpos (zDd [] (C.X j).env)).all (λ x=>x.1.isSome)&&decide ([e].length+([]:List zD1).length+(if ([]:List zD1).isEmpty then 0 else 1)<30))=true:=by intro _;rfl)
  (hline:(apos.endLine==cpos.line)=true:=by rfl)
  (hsw:∀j,zDI (.Call (.Attribute (.Name x p) "add" apos) [e] [] cpos) none pos.line (C.X j).env=pure false:=by intro _;rfl):
  SS C (.Expr (.Call (.Attribute (.Name x p) "add" apos) [e] [] cpos) pos) (aLS i fe):=by
 obtain⟨t,h1,h2⟩:=he;refine⟨aAX (tBM C.K "set" aLe (qt i) (jk t pM)),λ j=>tV (by rw[<-C.hK j];exact aA8 PySem.F.plainAttrs_set PySem.F.slot_set_add PySem.F.type_set_add aK3 (jC (hN j) (hv j) hd hcd) (bG (h1 j) dg (hs1 j)) (hbase j) (hfew j) hline (hs1 j) rfl) (hsw j),λ τ σ H ρ lab De R W=>?_⟩;unfold aLS at W;cases es:ρ[i]? with
 |none=>rw[es]at W;exact zAO W
 |some s=>
  rw[es]at W;split at W
  ·rename_i ds hs
   cases hs;rcases R.sl i _ es with z|⟨v,ev,hv'⟩
   ·cases z
   ·obtain⟨hv1,htop⟩:=hv'
    obtain⟨a0,ea0,la0⟩:=htop rfl;subst ea0;cases hv1 with
    |set h mm hS nd=>
     rename_i S;refine⟨.ref a0,ev,.inr (.inr (.inr ⟨rfl,S,_,h⟩)),h2 τ σ H ρ lab _ R (W.bo.imp λ d _ w y H2 s2 r2=>?_)⟩;unfold aGs at w;split at w
     ·rename_i z _
      by_cases hz:ds.length<4000
      ·rw[if_pos hz]at w
       have ey:=r2.int_inv;subst ey;have hb:zEb=4096:=rfl;refine⟨a0,S,ds.length,z,rfl,rfl,s2 _ _ h,by omega,λ H3 B h3=>?_⟩;refine w σ H3 _ ((R.up s2).mut ev (s2 _ _ h) rfl la0 B ⟨?_,λ _=>⟨a0,rfl,la0⟩⟩);have e1:(if S z=true then ds.length else ds.length+1)=(zAs ds z).length:=by
        rw[hS z];exact(aGh ds z).symm
       rw[e1]at h3;exact .set h3 (.inr la0) (λ k=>by rw[hS k];exact aAz ds z k) (aD4 nd)
      ·rw[if_neg hz]at w
       exact zAO w
     ·exact zAO w
  ·exact zAO W
end
def aL9:List V->Hp->VK->Prop:=λ xs H Q=>xs=[]/\∀p,H p=none->Q (.ref p) (upd H p (.set (λ _=>false) 0))
theorem aGm:dD X (.type "set") aL9:=by
 intro pins s σ H vs us Q I rv h;obtain⟨rfl,q⟩:=h;cases rv;refine call_set_0 λ led=>⟨.ref s.heap.objs.size,_,I.laid (a:=s.heap.objs.size) (o:=.set (λ _=>false) 0) (t':=s.toks) (λ _ _ q=>zAC _ q) (zAS _) ?_,rfl,q _ (I.hok.fresh (zAS _))⟩
 exact⟨_,#[],0,_,zAV _ rfl,⟨rfl,rfl,rfl⟩,rfl,λ e he=>by simp at he,λ k=>by simp,by decide,by rfl,rfl⟩
def aOK(neg:Bool):R2:=λ x y H Q=>∃(i:Int) (a:Addr) (S:Int->Bool) (n:Nat),x= .int i/\y= .ref a/\H a=some (.set S n)/\Q (.bl (if neg then !S i else S i)) H
theorem aKT:OpR X (zAr .NotIn) (aOK true):=by
 intro pins s σ H x y v u Q I rx ry h;obtain⟨i,a,S,n,rfl,rfl,hH,q⟩:=h;obtain⟨t,rfl⟩:=rx;cases ry;have hS:s.heap.SetOf (zBy X.prog X.w) a S n:=I.hok a _ hH;exact wpAny_notInSet_of (k:=i) (by simp[zBy,zFi]) rfl hS ⟨.bl (!S i),H,I.tok _,rfl,q⟩
def inX(neg:Bool):D->D->Rs D
 | .int i,.set l=>.ok (.bl (if neg then !decide (i∈l)else decide (i∈l)))
 |d,e=>inR neg d e
theorem aMo{K:zAA}:OpS K (λ x y H Q=>aGJ K n x y H Q\/aOK n x y H Q) (inX n):=by
 intro A x y d e H Q z rx ry ez q;unfold inX at ez;split at ez
 ·cases ez
  have ex:=rx.int_inv;subst ex;cases ry with
  |set h m hS nd=>exact .inr ⟨_,_,_,_,rfl,rfl,h,by rw[hS];exact q _ H (aY.refl H) (.bl _)⟩
 ·exact .inl (aIM A x y d e H Q z rx ry ez q)
section
variable{C:Ct}{pos p:Pos}{a b:Expr}{fa fb:En->Rs D}{m1 m2:Mode}
theorem aJi(ha:SE C m1 a fa)(hb:SE C m2 b fb)(hm:zBY .NotIn b=false:=by with_unfolding_all rfl):ST C (.Compare a [.NotIn] [b] pos) (tsb (op2 (inX true) fa fb)):=nu (λ i=>(C.ninRl i).or aKT) aMo ha hb hm
theorem aJp(hm:C.mg "set"=none)(hg:∀i,Gl (C.X i) "set":=by intro _;rfl)(hv:zAv "set"=some (.type "set"):=by decide+kernel):SE C (some []) (.Call (.Name "set" p) [] [] pos) (cD (.set [])):=by
 refine⟨tCB aL9 pM,λ i=>aER aGm (hg i) (by rw[(C.cx i).2.2.2.1];exact hm) hv,λ τ σ H ρ lab Q R W=>?_⟩;exact⟨rfl,λ q hq=>W _ _ (bZ hq _) (.set bH (.inl hq) (λ _=>by simp) (by simp))⟩
end
section
variable{prog:zA2}{w:World}{A:zAe}{E:Value->zAF->Prop}{s:zAF}{r:Addr}{a b c:Int}{t u v:Tok}{n:Nat}
end
section
variable{C:Ct}{pos pos2 p p2:Pos}{a:Expr}{fa:En->Rs D}{m:Mode}
end
section
variable{prog:zA2}{w:World}{A:zAe}{E:Value->zAF->Prop}{s:zAF}{it t:Addr}{i:Nat}{items:Array Value}
end
theorem aIo{X:Cx}{pins:List (Addr×Obj)}{σ:List (Option V)}{H:Hp}{s:zAF}{h':Heap}{ch:List Addr}{p t':Nat}{o:HO}(I:Inv X pins σ H s)(hf:∀b∈ch,tE X pins H b)(k:∀b u,b∉ch->s.heap.get? b=some u->h'.get? b=some u)
  (hp:s.heap.objs.size<=p)(new:cj X.prog X.w (upd H p o) h' p o):Inv X pins σ (upd H p o) {s with heap:=h',toks:=t'}:=by
 have hn:=I.hok.fresh hp;have nch:∀b u,H b=some u->b∉ch:=λ b u e z=>by have:=(hf b z).1;rw[e]at this;cases this
 refine I.call (g':=s.gens) (d':=s.drawn) (ch:=ch) ⟨λ b u q _ _ hx=>k b u hx q,λ b u q _ _ hx=>⟨u.slots,k b u hx q⟩,λ b u q n _=>?_,λ b u q hx=>⟨u,k b u hx q⟩,λ b xs q=>?_,λ b u xs q=>?_,λ b ps q=>⟨#[],?_⟩⟩ (λ b u e=>?_) I.bare
  λ b hb=>let⟨_,f1,_,f3,f4,f5⟩:=hf b hb;⟨f3,f1,f4,f5⟩
 ·rw[aj (zA0 (zAU (zAQ q) hp))];exact n
 ·rw[aj (bc q hn)];exact q
 ·rw[aj (bc q hn)];exact q
 ·rw[aj (bc q hn),q];simp
 ·by_cases hb:b=p
  ·subst hb;rw[bH]at e;cases e;exact new
  ·rw[aj hb]at e
   refine(I.hok b u e).stay (λ c v hc q=>k c v ?_ q) (λ c q=>by rw[aj (bc q hn)];exact q) λ c xs q=>by rw[aj (bc q hn)];exact q
   rcases hc with rfl|hc
   ·exact nch _ _ e
   ·exact nch _ _ hc
def aEq(l:List D):List D:=l.zipIdx.map λ p=>.tup [.int (p.2:Int),p.1]
section
variable{C:Ct}{m:Mode}{a:Expr}{ga:En->Rs (List D)}{elts:List Expr}{x1:Nat}{ps p pos:Pos}
end
abbrev Ent:=List Int×Addr×V
section
variable{X:Cx}{pins:List (Addr×Obj)}{σ:L2.St}{H:Hp}{s:zAF}{a b:Addr}{k:List Int}{es:List Ent}
end
section
variable{C:Ct}{m1 m2:Mode}{a b:Expr}{fa fb:En->Rs D}{pos:Pos}
end
def pairE(fk fv:En->Rs D):En->Rs D:=λ ρ=>(fk ρ).bd λ k=>(fv ρ).bd λ v=>.ok (.tup [k,v])
section
variable{K:zAA}{G:Gx}{wi:TI}{fi:En->Rs (List D)}{js:List (Option Nat)}{g:TG}{fg:D->En->Rs En}{tt:TT}{ft:En->Rs Bool}{tk tv:TE}{fk fv:En->Rs D}
theorem aCn(h:pairE fk fv ρ= .ok y):∃k v,fk ρ= .ok k/\fv ρ= .ok v/\y= .tup [k,v]:=by
 obtain⟨k,h1,h2⟩:=cL h;obtain⟨v,h3,h4⟩:=cL h2;exact⟨k,v,h1,h3,by cases h4;rfl⟩
end
section
variable{C:Ct}{pos:Pos}{kx vx tg iter:Expr}{ifs:List Expr}{sc:Scope}{N:List Str}{js:List (Option Nat)}{ks:List Nat}{fi:En->Rs (List D)}{fg:D->En->Rs En}{ft:En->Rs Bool}{fk fv:En->Rs D}
end
def aGg(p:Int×Tok):Int×Value:=(hashInt p.1,.int p.1 p.2)
def aDh(h:Heap)(a:Addr)(led:Bool)(ks:List Int):Prop:=∃es ep t,h.get? a=some (cH es ep t)/\iy t es.size/\t.led=led/\∃tks:List (Int×Tok),tks.map (·.1)=ks/\es.toList.Perm (tks.map aGg)
section
variable{prog:zA2}{w:World}{A:zAe}{E:Value->zAF->Prop}{s:zAF}{a:Addr}{led:Bool}{ks:List Int}
theorem aEr{es:Array (Int×Value)}{tks:List (Int×Tok)}(hp:es.toList.Perm (tks.map aGg)):ElemsOf (zBy prog w) es.toList:=λ e he=>by
 obtain⟨p,_,rfl⟩:=zAn.mp (hp.mem_iff.mp he);exact⟨⟨p.1,zGa _ _ _ _,rfl⟩,rfl⟩
theorem aG3(T:iy t es.size)(h63:es.size<63)(h:Int)(x:Value):∃j,layNew t es h x=(zBG es (t.put j).2 (h,x),(t.put j).1,false,false)/\qU (t.put j).1 (es.size+1)/\(t.put j).1.led=t.led:=by
 obtain⟨j,j1,j2,j3⟩:=aEP (hashAt:=λ _=>h+1) T (h:=h) λ i hi=>by omega
 obtain⟨P,p1,p2,p3,p4⟩:=aM0 T h63 j1 j2;have hes:(zBG es (t.put j).2 (h,x)).size=es.size+1:=uH _ _ _;refine⟨j,?_,P,p4⟩;have hf:t.freeSlot h=some (j,false):=by unfold SetTable.freeSlot;rw[j3];rfl
 unfold layNew SetTable.orStandIn;rw[hf];dsimp only;rw[hes,P.fits];rfl
theorem aCh(P:qU t n)(hn:es.size=n)(h5:n=5\/n=19):∃es' t',relayAll t es (zF8 es.size)=(es',t',false)/\iy t' es'.size/\t'.led=t.led/\es'.toList.Perm es.toList:=by
 obtain⟨t',order,r1,r2,r3,r4⟩:=aH9 P.pla h5 (es.map (·.1)) (by rw[Array.size_map];exact hn);have hperm:(order.filterMap (es[·]?)).toList.Perm es.toList:=by
  rw[Array.toList_filterMap];refine(r4.filterMap _).trans ?_;rw[<-hn,filterMap_getElem?_range]
 have hes:(order.filterMap (es[·]?)).size=n:=by rw[<-zA7,hperm.length_eq,zA7,hn]
 refine⟨order.filterMap (es[·]?),t',?_,by rw[hes];exact r2,r3,hperm⟩;unfold relayAll;rw[hn,r1];have hc:coversAll order n=true:=List.isPerm_iff.mpr r4;dsimp only;rw[hes,hc,r2.fits];rfl
theorem aJo(S:aDh s.heap a led ks)(h63:ks.length<63)
  (q:∀h' b,zD2 a s.heap h'->aDh h' a led (zAs ks k)->Q b {s with heap:=h',toks:=s.toks+1}):wpAny (model prog w) A (setAdd a (.int k tk)) Q E s:=by
 obtain⟨es,ep,t,ho,T,hl,tks,hk,hp⟩:=S;have hel:ElemsOf (zBy prog w) es.toList:=aEr hp;have hsz:es.size=ks.length:=by rw[<-zA7,hp.length_eq,zAE,<-hk,zAE]
 have hb:es.size<zEb:=by rw[hsz];unfold zEb;omega
 have hany:∀e∈es.toList,(zBy prog w).is k e.2=true->k∈ks:=λ e he hi=>by
  obtain⟨p,hpm,rfl⟩:=zAn.mp (hp.mem_iff.mp he)
  have:k=p.1:=(zBy prog w).inj _ k p.1 hi (zGa _ _ _ _)
  rw[this,<-hk];exact zHp hpm
 unfold setAdd;refine zBb (zAD ((zBy prog w).pyHash (k:=k) (zGa _ _ _ _) ?_));unfold setAddHashed setAddHashedIn;refine zBb (zAD (zCf (s:={s with toks:=s.toks+1}) ho rfl T.fits ?_));dsimp only;rw[byScan_of (knd:=zBy prog w) rfl hb hel];simp only[↓reduceIte];unfold setAddByScan;refine zAD (zAD (zJ4 (zAD (wpAny_setScan_of (knd:=zBy prog w) (s:={s with toks:=s.toks+1}) (zGa _ _ _ _) ho rfl T.fits hel ?_))));cases hr:List.findIdx? (λ e=>(zBy prog w).is k e.2) es.toList with
 |some j=>
  obtain⟨hj,hpj,_⟩:=List.findIdx?_eq_some_iff_getElem.mp hr;have hin:=hany _ (zBR hj) hpj;dsimp only;refine zAR (zAR (q s.heap _ (Heap.SameBut.refl a s.heap) ?_))
  have:zAs ks k=ks:=by unfold zAs;rw[if_pos (zDN.mpr ⟨k,hin,by simp⟩)]
  rw[this];exact⟨es,ep,t,ho,T,hl,tks,hk,hp⟩
 |none=>
  have hno:k∉ks:=λ hin=>by
   rw[<-hk]at hin;obtain⟨p,hpm,e⟩:=zAn.mp hin;have he:aGg p∈es.toList:=hp.mem_iff.mpr (zHp hpm)
   have:=List.findIdx?_eq_none_iff.mp hr _ he
   rw[<-e]at this;have z:(zBy prog w).is p.1 (.int p.1 p.2)=false:=this;rw[zGa]at z;cases z
  have hstep:zAs ks k=ks++[k]:=by
   unfold zAs;rw[if_neg];intro h;obtain⟨y,hy,e⟩:=zDN.mp h;exact hno (by rw[<-zDb e];exact hy)
  obtain⟨j,hL,P,pl⟩:=aG3 T (by omega) ((zBy prog w).hash k) (.int k tk);have hes:(zBG es (t.put j).2 ((zBy prog w).hash k,zCS k tk)).size=es.size+1:=uH _ _ _;have hperm:(zBG es (t.put j).2 ((zBy prog w).hash k,zCS k tk)).toList.Perm ((tks++[(k,tk)]).map aGg):=by
   have:=zG7 es (t.put j).2 ((zBy prog w).hash k,zCS k tk)
   rw[zEk]at this;rw[zAq];exact this.trans (hp.append_right _)
  have htk:(tks++[(k,tk)]).map (·.1)=zAs ks k:=by rw[hstep,zAq,hk];rfl
  dsimp only;rw[hL];dsimp only;refine zAD (zAR ?_);rw[P.pla];simp only[↓reduceIte];refine zAD (zAR ?_);simp only[↓reduceIte];generalize zBG es (t.put j).2 ((zBy prog w).hash k,zCS k tk)=es1 at hes hperm ⊢;generalize (t.put j).1=t1 at P pl ⊢;refine zAD (aHG (s:={s with toks:=s.toks+1}) ho (by omega) λ e1=>?_);simp only[zIr,zEd];cases hf:t1.tooFull with
  |true=>
   obtain⟨es2,t2,hR,T2,l2,p2⟩:=aCh P hes (P.full (by omega) hf);simp only[↓reduceIte];rw[hR];dsimp only;refine zAD (zAR ?_);have hz2:es2.size<=63:=by rw[<-zA7,p2.length_eq,zA7];omega
   refine zAD (aHG e1 hz2 λ e2=>zAR (zAR (q _ _ ((zBv s.heap a _).trans (zBv _ a _)) ⟨es2,_,t2,e2,T2,l2.trans (pl.trans hl),_,htk,p2.trans hperm⟩)))
  |false=>
   simp only[zAu,if_false];exact zAR (zAR (q _ _ (zBv ..) ⟨es1,_,t1,e1,by rw[hes];exact P.still hf,pl.trans hl,_,htk,hperm⟩))
theorem aGG{St:Nat->zAF->Prop}(W:WalksS prog w A.in1 I fp wr G n (λ i v=>vs.toArray[i]? =some v) St)(hSf:S∉fp)(hi:zBD vs ns)(hn:n=vs.length)(h64:n<64)(led:Bool):
  ∀(k i:Nat) (s:zAF),n-i=k->i<=n->St i s->aDh s.heap S led (ddI (ns.take i))->(∀s',Moved (S::wr) G s s'->aDh s'.heap S led (ddI ns)->R (.ok (.ret .none)) s')->
   zBq (model prog w) A (.builtin "set.update.loop" ⟨[.ref S,.ref I],[]⟩) R s:=by
 have hSw:S∉wr:=λ h=>hSf (W.sub _ h)
 have hsb:∀b∈wr,b∈S::wr:=λ b hb=>zAL _ hb
 have hlen:vs.length=ns.length:=zFc hi;have keep:∀{h h':Heap} {ks:List Int},aDh h S led ks->(∀o,h.get? S=some o->h'.get? S=some o)->aDh h' S led ks:=λ⟨es,ep,t,e,r⟩ k=>⟨es,ep,t,k _ e,r⟩
 intro k;induction k with
 |zero=>
  intro i s hk hi' hst hS hR;have hin':i=n:=by omega
  subst hin';refine zC9 zD8 ?_;rw[zCY zCQ _];show wpAny _ A.in1 (zEy (.ref I)>>=_) _ _ s;refine zAD (W.done s _ _ hst λ s' hm=>zAR (hR s' (hm.mono hsb) ?_));rw[List.take_of_length_le (by omega)]at hS;exact keep hS λ o e=>hm.heap S _ hSw e
 |succ k ih=>
  intro i s hk hi' hst hS hR;have hlt:i<n:=by omega
  refine zC9 zD8 ?_;rw[zCY zCQ _];show wpAny _ A.in1 (zEy (.ref I)>>=_) _ _ s;refine zAD (W.item i s _ _ hlt hst λ v s' hP' hst' hm=>?_);have hP:vs[i]? =some v:=by simpa using hP'
  obtain⟨t,rfl⟩:=zDq hi i v hP;have hS':aDh s'.heap S led (ddI (ns.take i)):=keep hS λ o e=>hm.heap S _ hSw e
  have hle:(ddI (ns.take i)).length<63:=by
   have h1:=aEu (ns.take i);rw[zDP]at h1;omega
  have hnx:zAs (ddI (ns.take i)) (ns.getD i 0)=ddI (ns.take (i+1)):=by
   have hx:ns[i]? =some (ns.getD i 0):=by
    rw[zA1,zAB (by omega)];rfl
   rw[List.take_add_one,hx,<-aJP];rfl
  show wpAny _ A.in1 (zCk [zCS (ns.getD i 0) t] (setAdd S (.int (ns.getD i 0) t))>>=_) _ _ s';refine zAD (zBb (aJo hS' hle λ h' b c1 c3=>?_));have kp:∀b o,b≠S->s'.heap.get? b=some o->h'.get? b=some o:=λ b o hb e=>by rw[c1.2 b hb];exact e
  rw[hnx]at c3;refine zAR ⟨zIG zCQ _,ih (i+1) _ (by omega) hlt (W.frame _ s' _ _ hst' (zCM _) λ b hb o e=>kp b o (λ z=>hSf (z▸hb)) e) c3 λ s'' hm'' hS''=>?_⟩;exact hR s'' (Moved.trans W.gtrans ((hm.mono hsb).then_heap (zCM _) λ b o hb e=>kp b o (λ z=>hb (z▸zAI)) e) hm'') hS''
theorem aBi{Q:Value->zAF->Prop}(hI:zBD vs ns)(h64:vs.length<64)
  (h:∀(out:List Value) h' e,Vals ((sortI ns).map V.int) out->(∀b o,s.heap.get? b=some o->h'.get? b=some o)->h'.get? s.heap.objs.size=some (zBi "list" out.toArray e)->Q (.ref s.heap.objs.size) {s with heap:=h'}):
  wpAny (model prog w) A (zGb vs>>=λ l=>zCk [l] (call (.builtin "list.sort") [l])>>=λ _=>ret l) (λ fin s'=>∃r,fin= .done (.ret r)/\Q r s') E s:=by
 refine zAD (zIL ?_ (by rw[zBr];omega));have hoL:(s.heap.push (zBi "list" vs.toArray 0)).get? s.heap.objs.size=some (zBi "list" vs.toArray 0):=zAV _ rfl;refine zAD (zBb (zCT slot_list_sort ⟨_,hoL,rfl⟩ entry_list_sort (list_sort_tree (s:={s with heap:=s.heap.push (zBi "list" vs.toArray 0)}) hoL hI h64 λ out ns' a1 a2 a3=>⟨_,rfl,zAR ⟨_,rfl,?_⟩⟩) (args_list_sort _)));have e:ns'=sortI ns:=zDi (a2.trans (sortI_perm ns).symm) a3 (iB ns);subst e;have hne:∀b o,s.heap.get? b=some o->b≠s.heap.objs.size:=λ b o e=>zA0 (zAQ e)
 have g0:=zDc hoL λ _=>(#[]:Array Value)
 have g1:=zAC (zBi "list" #[] 0) (zAC (zBi "tuple" vs.toArray 0) g0);have g2:=zDc g1 (λ _=>out);refine h out.toList _ _ (fu a1) (λ b o e=>?_) (by rw[zEL];exact g2);unfold zGd;rw[zCE _ _ _ _ (hne b o e)];refine zAC _ (zAC _ ?_);rw[zCE _ _ _ _ (hne b o e)];exact zAC _ e
end
section
variable{X:Cx}
def aHUφ(w:World)(a:Addr)(ks:List Int):Heap->Prop:=λ h=>aDh h a (!w.params.followText "set-order") ks
def aL8(K:zAA)(w:World):List V->Hp->VK->Prop:=λ xs H Q=>∃p ns,xs=[.ref p]/\SqL K H p (ns.map V.int)/\ns.length<64/\∀a H',aY H H'->H' a=some (.ext (aHUφ w a (ddI ns)))->H a=none->Q (.ref a) H'
theorem aGk(hc:X.calm=true):dD X (.type "set") (aL8 X.K X.w):=by
 intro pins s σ H xs us Q I r h;obtain⟨p,ns,rfl,hp,hz,q⟩:=h;obtain⟨u,rfl,ru⟩:=vals1 r;cases ru;have hh:X.A.in1.in1.in1.handled=none:=I.ok.hd hc;obtain⟨its,rv,pl,_⟩:=I.list hp;have hI:zBD its ns:=intsAre_of rv;have hlen:its.length=ns.length:=zFc hI;obtain⟨ol,hol,hcl,nl,hdl⟩:=pl.isList;have hlS:p<s.heap.objs.size:=zAQ hol;refine PySem.qR (T:="list") (Φ:=aHUφ X.w s.heap.objs.size (ddI ns)) ⟨ol,hol,hcl⟩ F.sub_list_set zIM (by decide)
  (λ h₁ A₁ E₁ Q₁ k q=>zED (s:={s with heap:=h₁}) (items:=its.toArray) ⟨ol,k _ _ hol,hcl,nl,hdl⟩ q) (λ R hR=>?_) λ h' tk g1 g2=>?_
 ·generalize hled:(!X.w.params.followText "set-order")=led at hR ⊢
  have hS:(s.heap.push (cH #[] 0 (.fresh 0 0 led))).get? s.heap.objs.size=some (cH #[] 0 (.fresh 0 0 led)):=zAV _ rfl;have hl1:(s.heap.push (cH #[] 0 (.fresh 0 0 led))).IsList p its.toArray:=⟨ol,zAC _ hol,hcl,nl,hdl⟩;have hneI:p≠(s.heap.push (cH #[] 0 (.fresh 0 0 led))).objs.size:=by rw[zB8];exact zA0 (zC6 hlS)
  have hSf:s.heap.objs.size∉[(s.heap.push (cH #[] 0 (.fresh 0 0 led))).objs.size,p]:=by
   rw[zB8];simp only[zAN,zBp,or_false,not_or];exact⟨zA0 (zBt _),zCH hlS⟩
  refine aGG ((zID hh _ p hneI its.toArray).toS) hSf hI (by simp) (by simpa[hlen]using hz) led (its.toArray.size-0) 0 _ (by simp) (zA9 _) ⟨⟨_,zAV _ rfl,rfl,rfl⟩,(hl1.push _)⟩
   ⟨#[],0,_,zAC _ hS,iy.fresh led,rfl,[],rfl,zBE _⟩ λ s' hm hS'=>?_
  obtain⟨h',g',d',tk',os'⟩:=s';have eg:g'=s.gens:=hm.gens;have ed:d'=s.drawn:=hm.drawn;have eo:os'=s.os:=hm.os;subst eg;subst ed;subst eo;refine hR h' tk' (by unfold aHUφ;rw[hled];exact hS') λ b o e=>hm.heap b o ?_ (zAC _ (zAC _ e))
  have hb:=zAQ e;rw[zB8];simp only[zAN,zBp,or_false,not_or];exact⟨zA0 hb,zA0 (zC6 hb)⟩
 ·have hfr:H s.heap.objs.size=none:=I.hok.fresh (zAS _)
  obtain⟨es,ep,t,ge,r⟩:=id g1;exact⟨.ref s.heap.objs.size,upd H s.heap.objs.size (.ext (aHUφ X.w s.heap.objs.size (ddI ns))),I.laid (t':=tk) g2 (zAS _) ⟨g1,⟨_,ge⟩,λ h1 h2 ⟨es,ep,t,e1,e2⟩ k=>⟨es,ep,t,k _ e1,e2⟩⟩,rfl,q _ _ (bZ hfr _) bH hfr⟩
def aHd(w:World):List V->Hp->VK->Prop:=λ xs H Q=>∃a ks,xs=[.ref a]/\H a=some (.ext (aHUφ w a ks))/\ks.length<64/\New H (.lst ((sortI ks).map V.int)) Q
theorem ints_of:∀(tks:List (Int×Tok)),zBD (tks.map λ p=>zCS p.1 p.2) (tks.map (·.1))
 |[]=>.nil
 |p::r=>.cons _ _ (ints_of r)
theorem aCJ(hc:X.calm=true):dD X (.builtin "sorted") (aHd X.w):=by
 intro pins s σ H xs us Q I r h;obtain⟨a,ks,rfl,ha,h64,q⟩:=h;obtain⟨u,rfl,ru⟩:=vals1 r;cases ru;obtain⟨⟨es,ep,t,e1,e2,e3,tks,hk,e4⟩,_,_⟩:=I.hok a _ ha;have hsz:es.size=ks.length:=by rw[<-zA7,e4.length_eq,zAE,<-hk,zAE]
 have hh:X.A.in1.handled=none:=I.ok.hd hc;refine tR (aD6 (aJj (ep:=ep) e2 e3) hh e1 (by rw[hsz,zBr];omega) λ h1 tk vs1 k0 k1 k2 k3=>?_);have hperm:(sV X.w a ep es).toList.Perm (tks.map aGg):=(q9 X.w a ep es).trans e4;obtain⟨zs,z1,z2⟩:=tZ (f:=aGg) hperm rfl;have hvs:vs1=zs.map λ p=>zCS p.1 p.2:=by
  have e5:(sV X.w a ep es).toList.map (·.2)=zs.map λ p=>zCS p.1 p.2:=by rw[z2,zAb];rfl
  have hlen:(sV X.w a ep es).toList.length=es.size:=by rw[(q9 X.w a ep es).length_eq,zA7]
  rw[<-e5];refine zFR (by rw[k2,zAE,hlen]) λ i g1 g2=>?_
  have:=k3 i _ (zAB g1)
  rw[<-zBn,<-zAT,zAB g2]at this;exact(zAa this).symm
 subst hvs;have hps:(zs.map (·.1)).Perm ks:=by rw[<-hk];exact z1.map _
 have hss:sortI (zs.map (·.1))=sortI ks:=zDi (((sortI_perm _).trans hps).trans (sortI_perm ks).symm) (iB _) (iB _);refine aBi (s:={s with heap:=h1,toks:=tk}) (ints_of zs) (by rw[k2];omega) λ out h' e a1 a2 a3=>?_
 rw[hss]at a1;have hle:s.heap.objs.size<=h1.objs.size:=zBX k0;have hfr:H h1.objs.size=none:=I.hok.fresh hle;exact⟨.ref h1.objs.size,upd H h1.objs.size (.lst ((sortI ks).map V.int)),I.laid (t':=tk) (λ b o e=>a2 b o (k1 b o e)) hle ⟨by rw[zAE,(sortI_perm ks).length_eq];exact zAg (zBX h64) (by decide),out,e,a1,a3⟩,rfl,q.at hfr⟩
end
def gK:List D->Rs D
 |[.lst l]=>match intsOf l with
  |some ns=>if ns.length<64 then .ok (.lst ((sortI (ddI ns)).map .int))else .st
  |none=>.st
 |_=>.st
section
variable{C:Ct}{pos pos2 p p2:Pos}{m:Mode}{a:Expr}{ga:En->Rs (List D)}
theorem rE(hm:C.mg "sorted"=none)(hm2:C.mg "set"=none)(ha:SA C m [a] ga)(he:∀i,zAZ [a] (C.X i).env=[(false,eval a (C.X i).env)]:=by intro _;rfl)(he2:∀i,zAZ [Expr.Call (.Name "set" p2) [a] [] pos2] (C.X i).env=[(false,eval (.Call (.Name "set" p2) [a] [] pos2) (C.X i).env)]:=by intro _;rfl)(hg:∀i,Gl (C.X i) "sorted":=by intro _;rfl)(hv:zAv "sorted"=some (.builtin "sorted"):=by decide+kernel)(hg2:∀i,Gl (C.X i) "set":=by intro _;rfl)(hv2:zAv "set"=some (.type "set"):=by decide+kernel):
  SE C (some []) (.Call (.Name "sorted" p) [.Call (.Name "set" p2) [a] [] pos2] [] pos) (opA gK ga):=by
 obtain⟨t,h1,h2⟩:=ha;have hw:∀i,(C.X i).w=C.w:=λ i=>(C.cx i).2.1
 refine⟨tCB (aHd C.w) (jk (tCB (aL8 C.K C.w) t) pM),λ i=>qF (by rw[<-hw i];exact aCJ (C.calm i)) (hg i) (by rw[(C.cx i).2.2.2.1];exact hm) hv
  (bG (nD (by rw[<-C.hK i,<-hw i];exact aGk (C.calm i)) (hg2 i) (by rw[(C.cx i).2.2.2.1];exact hm2) hv2 (h1 i) (by decide) (by decide) (he i) rfl) dg (he2 i)) (by decide) (by decide) (he2 i) rfl,λ τ σ H ρ lab Q R W=>?_⟩
 refine h2 τ σ H ρ lab _ R (W.bd.imp λ ds _ w xs H1 s1 r1=>?_);obtain⟨z,ez,w⟩:=w.okD;unfold gK at ez;split at ez
 ·obtain⟨v,rfl,rd⟩:=r1.one_inv
  obtain⟨b,ys,rfl,hb,mb,rb⟩:=rd.lst_inv;split at ez
  ·rename_i ns e
   split at ez
   ·rename_i hl
    cases ez;rw[dR e]at rb;have ey:=rb.ints_of;subst ey;refine⟨b,ns,rfl,SqL.of hb,hl,λ c H2 s2 hc2 hn2=>⟨c,ddI ns,rfl,hc2,zCx (aEu ns) hl,λ q H3 s3 hq hn3=>w _ H3 ((s1.trans s2).trans s3) (.lst hq (.inl ((s1.trans s2).free hn3)) Rps.ints)⟩⟩
   ·cases ez
  ·cases ez
 ·cases ez
end
abbrev aOl:=List (Str×(List D->Rs D))
def fnOf(tab:aOl):Rs D->Option (List D->Rs D)
 | .ok (.fn x)=>tab.lookup x
 |_=>none
section
variable{C:Ct}{m:Mode}{e:Expr}{es:List Expr}{ga:En->Rs (List D)}{pos p:Pos}{n i:Nat}{y:Str}{tab:aOl}
end
def shB:Slot->Bool
 | .no=>true
 | .sh _=>true
 |_=>false
def nsL(ρ:En)(fg:D->En->Rs En)(ft:En->Rs Bool)(inn:En->Rs (List D)):List D->Rs (List D)
 |[]=>.ok []
 |d::ds=>(fg d ρ).bd λ ρ1=>(ft ρ1).bd λ k=>if k=true then(inn ρ1).bd λ ys=>(nsL ρ fg ft inn ds).bd λ zs=>.ok (ys++zs)else nsL ρ fg ft inn ds
def inL(fi2:En->Rs (List D))(fg2:D->En->Rs En)(ft2:En->Rs Bool)(fe:En->Rs D):En->Rs (List D):=λ ρ1=>if ρ1.all shB=true then(fi2 ρ1).bd λ ds=>lcL ρ1 fg2 ft2 fe ds else .st
def aI4(fi:En->Rs (List D))(js:List (Option Nat))(fg:D->En->Rs En)(ft:En->Rs Bool)(inn:En->Rs (List D)):En->Rs D:=λ ρ=>(fi (shE ρ)).bd λ ds=>match nsL (stE js (shE ρ)) fg ft inn ds with
 | .ok l=>if l.length<zAW then .ok (.lst l)else .st
 |_=>.st
theorem aCu(h:nsL ρ fg ft inn (d::ds)= .ok l):
  ∃ρ1 k,fg d ρ= .ok ρ1/\ft ρ1= .ok k/\((k=true/\∃ys zs,inn ρ1= .ok ys/\nsL ρ fg ft inn ds= .ok zs/\l=ys++zs)\/(k=false/\nsL ρ fg ft inn ds= .ok l)):=by
 unfold nsL at h;obtain⟨ρ1,e1,h⟩:=cL h;obtain⟨k,e2,h⟩:=cL h;refine⟨ρ1,k,e1,e2,?_⟩;cases k with
 |true=>
  rw[if_pos rfl]at h;obtain⟨ys,e3,h⟩:=cL h;obtain⟨zs,e4,h⟩:=cL h;exact .inl ⟨rfl,ys,zs,e3,e4,by cases h;rfl⟩
 |false=>
  rw[if_neg zA3]at h;exact .inr ⟨rfl,h⟩
theorem aIq(h:inL fi2 fg2 ft2 fe ρ1= .ok ys):ρ1.all shB=true/\∃ds,fi2 ρ1= .ok ds/\lcL ρ1 fg2 ft2 fe ds= .ok ys:=by
 unfold inL at h;split at h
 ·rename_i hs
  obtain⟨ds,e1,e2⟩:=cL h;exact⟨hs,ds,e1,e2⟩
 ·cases h
theorem RR.butS{K:zAA}(R:RR K G τ ρ σ H lab)(hs:ρ.all shB=true)(hlab:¬(lab l).1<=1)(B:lw l H H')(hl:H l=some o)(ho:lM o=true)(h0:G.H0 l=none):RR K G τ ρ σ H' lab:=by
 refine⟨R.len,λ j s e=>?_,λ b o hb=>?_,R.new,λ q hq=>(R.tm q hq).but B hl ho hlab⟩
 ·rcases R.sl j s e with z|⟨u,e1,e2⟩
  ·exact .inl z
  ·have hb:=zAj.mp hs s (zAo e)
   cases s with
   |no=>exact .inl rfl
   |sh d=>exact .inr ⟨u,e1,Rp.but B hl ho hlab e2⟩
   |_=>cases hb
 ·exact B b o (λ z=>by subst z;rw[h0]at hb;cases hb) (R.old b o hb)
section
variable{K:zAA}{G:Gx}{wi wi2:TI}{fi fi2:En->Rs (List D)}{js:List (Option Nat)}{ks ks2:List Nat}{g g2:TG}{fg fg2:D->En->Rs En}{tt tt2:TT}{ft ft2:En->Rs Bool}{te:TE}{fe:En->Rs D}
theorem aMM(hi:aDf K G wi fi)(hg:aDg K {G with E:=λ _ _ _=>False} g fg)(hgo:mU g ks)(hgm:zc g)(hk:∀k∈ks2,k∉ks/\(js[k]?).join=none)(ht:z9 K {G with E:=λ _ _ _=>False} tt ft)(hi2:aDf K {G with E:=λ _ _ _=>False} wi2 fi2)
  (hg2:aDg K {G with E:=λ _ _ _=>False} g2 fg2)(ht2:z9 K {G with E:=λ _ _ _=>False} tt2 ft2)(he:gr K {G with E:=λ _ _ _=>False} (some []) te fe):
  gr K G (some []) (aJg (λ _=>.lst []) wi (stV js) g tt (aDs ks2 wi2 g2 tt2 (aL3 te))) (aI4 fi js fg ft (inL fi2 fg2 ft2 fe)):=by
 intro τ σ H ρ lab Q R W;refine hi τ σ H _ _ _ R.shE (W.bd.imp λ ds _ w J H1 lab1 τ1 s1 _ R1 jl=>?_);intro l hl;obtain⟨out,hout,hlen,w⟩:∃out,nsL (stE js (VL.shE ρ)) fg ft (inL fi2 fg2 ft2 fe) ds= .ok out/\out.length<zAW/\QE K (some []) lab H Q (.lst out):=by
  cases hout:nsL (stE js (VL.shE ρ)) fg ft (inL fi2 fg2 ft2 fe) ds with
  |ok out=>
   rw[hout]at w;dsimp only at w;split at w
   ·rename_i hz;exact⟨out,rfl,hz,w⟩
   ·exact zAO w
  |ex c=>rw[hout]at w;exact zAO w
  |st=>rw[hout]at w;exact zAO w
 have R0:RR K {G with E:=λ _ _ _=>False} (τ1++τ) (VL.shE ρ) σ H1 (λ _=>(0,0)):=R1.blk0 rfl;have RB:=R0.block (js:=js) (λ _=>zA9 _) hl;have hHl:H l=none:=s1.free hl;have h0l:G.H0 l=none:=R1.old.free hl;have labl:¬((λ p=>if p=l then((2,0):Nat×Nat)else(0,0)) l).1<=1:=by simp
 have hsk:∀k∈ks2,(stV js σ)[k]? =some none\/(stV js σ)[k]? =none:=λ k hk2=>by
  have:=(hk k hk2).2
  unfold stV;rw[zAT];cases e:js[k]? with
  |none=>exact .inr rfl
  |some o=>
   rw[e]at this;cases o with
   |none=>exact .inl rfl
   |some j=>cases this
 refine⟨λ i n H2=>∃(pre:List D) (acc:List V),n=ds.length-i/\i<=ds.length/\H2 l=some (.lst acc)/\RR K {G with E:=λ _ _ _=>False} (τ1++τ) (stE js (VL.shE ρ)) (stV js σ) H2 (λ p=>if p=l then(2,0)else(0,0))/\aY H H2/\Rps K (λ p=>H p=none/\p≠l) H2 acc pre/\
  ∃post,nsL (stE js (VL.shE ρ)) fg ft (inL fi2 fg2 ft2 fe) (ds.drop i)= .ok post/\out=pre++post,⟨ds.length,[],[],by lia,by lia,bH,RB.up (bZ hl _),s1.trans (bZ hl _),.nil,out,hout,rfl⟩,?_⟩
 rintro i n H2 ⟨pre,acc,rfl,hi',hH2,R2,s2,rpre,post,hpost,eout⟩;have jj:=jl _ H2 λ q hq=>R2.tm q (zAX _ hq)
 by_cases hlt:i<ds.length
 ·obtain⟨go,yl⟩:=(jj i).2 hlt
  refine .inr ⟨go,λ x H3 hy=>?_⟩;obtain⟨s3,d,ed,rx⟩:=yl x H3 hy;replace R2:=R2.up s3;replace hH2:=s3 _ _ hH2;replace s2:=s2.trans s3;replace rpre:=rpre.up s3;have ed2:ds.drop i=d::ds.drop (i+1):=by
   rw[zBI hlt]
   have:=zAB hlt
   rw[ed]at this;cases this;rfl
  rw[ed2]at hpost;obtain⟨ρ1,k,e1,e2,e3⟩:=aCu hpost;have hgx:=hgo _ _ _ _ (hg (τ1++τ) x d _ H3 _ _ (λ σ4 H4=>H4=H3/\RR K {G with E:=λ _ _ _=>False} (τ1++τ) ρ1 σ4 H3 (λ p=>if p=l then(2,0)else(0,0))) ρ1 R2 rx e1 λ σ4 R4=>⟨rfl,R4⟩);refine hgm _ _ _ _ _ (λ σ4 H4 ⟨⟨eH,R4⟩,hlen4,hag4⟩=>?_) hgx;subst eH;refine ht (τ1++τ) σ4 H4 ρ1 _ _ R4 ?_;rw[e2];intro H5 s5;rcases e3 with ⟨rfl,ys,zs,e3,e4,rfl⟩|⟨rfl,e4⟩
  ·rw[if_pos rfl]
   obtain⟨hsh,ds2,f1,f2⟩:=aIq e3;refine⟨λ k hk2 v e=>?_,?_⟩
   ·rw[hag4 k (hk k hk2).1]at e
    rcases hsk k hk2 with z|z<;>rw[z]at e<;>cases e
   refine hi2 (τ1++τ) σ4 H5 ρ1 _ _ (R4.up s5) ?_;rw[f1];intro J2 H6 lab6 τ6 s6 hlab6 R6 jl6;have hl6:H6 l=some (.lst acc):=s6 _ _ (s5 _ _ hH2);have lab6l:¬(lab6 l).1<=1:=by rw[hlab6 l _ (s5 _ _ hH2)];exact labl
   refine⟨λ j n2 H7=>∃(pre2:List D) (acc2:List V),n2=ds2.length-j/\j<=ds2.length/\H7 l=some (.lst acc2)/\RR K {G with E:=λ _ _ _=>False} (τ6++(τ1++τ)) ρ1 σ4 H7 lab6/\RR K {G with E:=λ _ _ _=>False} (τ1++τ) (stE js (VL.shE ρ)) (stV js σ) H7 (λ p=>if p=l then(2,0)else(0,0))/\aY H H7/\
    Rps K (λ p=>H p=none/\p≠l) H7 acc2 (pre++pre2)/\∃post2,lcL ρ1 fg2 ft2 fe (ds2.drop j)= .ok post2/\ys=pre2++post2,
    ⟨ds2.length,[],acc,by lia,by lia,hl6,R6,R2.up (s5.trans s6),(s2.trans s5).trans s6,by rw[zAi];exact rpre.up (s5.trans s6),ys,f2,rfl⟩,?_⟩
   rintro j n2 H7 ⟨pre2,acc2,rfl,hj,hl7,R7,Rb7,s7,rpre2,post2,hpost2,eys⟩;have jj7:=jl6 _ H7 λ q hq=>R7.tm q (zAX _ hq)
   by_cases hlt2:j<ds2.length
   ·obtain⟨go2,yl2⟩:=(jj7 j).2 hlt2
    refine .inr ⟨go2,λ x2 H8 hy2=>?_⟩;obtain⟨s8,d2,ed8,rx2⟩:=yl2 x2 H8 hy2;replace R7:=R7.up s8;replace Rb7:=Rb7.up s8;replace hl7:=s8 _ _ hl7;replace s7:=s7.trans s8;replace rpre2:=rpre2.up s8;have ed9:ds2.drop j=d2::ds2.drop (j+1):=by
     rw[zBI hlt2]
     have:=zAB hlt2
     rw[ed8]at this;cases this;rfl
    rw[ed9]at hpost2;obtain⟨ρ2,k2,q1,q2,q3⟩:=uG hpost2;refine hg2 (τ6++(τ1++τ)) x2 d2 _ H8 _ _ _ ρ2 R7 rx2 q1 λ σ9 R9=>?_
    refine ht2 (τ6++(τ1++τ)) σ9 H8 ρ2 _ _ R9 ?_;rw[q2];intro H9 s9;rcases q3 with ⟨rfl,y,ys2,q3,q4,rfl⟩|⟨rfl,q4⟩
    ·rw[if_pos rfl]
     refine he (τ6++(τ1++τ)) σ9 H9 ρ2 _ _ (R9.up s9) ?_;rw[q3];intro v Ha sa ra;have hla:Ha l=some (.lst acc2):=sa _ _ (s9 _ _ hl7);have B:lw l Ha (upd Ha l (.lst (acc2++[v]))):=λ b o ne hb=>by rw[aj ne];exact hb
     have hsz:acc2.length<zAW:=by
      have h1:=rpre2.length;have h2:out.length=pre.length+(pre2.length+(ys2.length+1))+zs.length:=by rw[eout,eys];simp;lia
      rw[zA5]at h1;lia
     refine⟨acc2,hla,hsz,ds2.length-(j+1),by lia,pre2++[y],acc2++[v],rfl,hlt2,bH,(R7.up (s9.trans sa)).butS hsh lab6l B hla rfl h0l,(Rb7.up (s9.trans sa)).but_blk B hla rfl h0l,λ b o hb=>B b o (λ z=>by subst z;rw[hHl]at hb;cases hb) (((s7.trans s9).trans sa) b o hb),?_,ys2,q4,by rw[eys];simp⟩;rw[<-zBT];refine((rpre2.up (s9.trans sa)).append (.cons (ra.wk λ p o _ z=>?_) .nil)).but B hla rfl λ z=>z.2 rfl
     rcases z with z|z
     ·exact⟨(s7.trans s9).free z,λ e=>by subst e;rw[s9 _ _ hl7]at z;cases z⟩
     ·cases z
    ·rw[if_neg zA3]
     exact⟨ds2.length-(j+1),by lia,pre2,acc2,rfl,hlt2,s9 _ _ hl7,R7.up s9,Rb7.up s9,s7.trans s9,rpre2.up s9,post2,q4,eys⟩
   ·have ej:j=ds2.length:=by lia
    subst ej;rw[zBo]at hpost2;cases hpost2;rw[zAi]at eys;subst eys;exact .inl ⟨(jj7 _).1 (zAS _),ds.length-(i+1),by lia,_,acc2,rfl,hlt,hl7,Rb7,s7,rpre2,zs,e4,by rw[eout];simp⟩
  ·rw[if_neg zA3]
   exact⟨ds.length-(i+1),by lia,pre,acc,rfl,hlt,s5 _ _ hH2,R2.up s5,s2.trans s5,rpre.up s5,post,e4,eout⟩
 ·have ei:i=ds.length:=by lia
  subst ei;rw[zBo]at hpost;cases hpost;rw[zAi]at eout;subst eout;exact .inl ⟨(jj _).1 (zAS _),w _ H2 s2 (.lst hH2 (.inl hHl) (rpre.wk λ p o _ z=>⟨.inl z.1,z.2⟩))⟩
end
section
variable{C:Ct}{pos:Pos}{elt tg iter tg2 iter2:Expr}{ifs ifs2:List Expr}{sc:Scope}{N:List Str}{js:List (Option Nat)}{ks ks2:List Nat}{fi fi2:En->Rs (List D)}{fg fg2:D->En->Rs En}{ft ft2:En->Rs Bool}{fe:En->Rs D}
theorem aOB(hi:SI C tg iter fi)(hg:SG (C.blk sc N) tg ks fg)(ht:aCQ (C.blk sc N) ifs ft)(hi2:SI (C.blk sc N) tg2 iter2 fi2)(hg2:SG (C.blk sc N) tg2 ks2 fg2)(ht2:aCQ (C.blk sc N) ifs2 ft2)(he:SE (C.blk sc N) (some []) elt fe)(hk:∀k∈ks2,k∉ks/\(js[k]?).join=none:=by decide)(hs:∀i x,zAw iter (C.X i).env x=pure x:=by intro _ _;rfl)(hs2:∀(i:(C.blk sc N).ι) x,zAw iter2 ((C.blk sc N).X i).env x=pure x:=by intro _ _;rfl)(hB:∀i,eU (C.X i) sc N (stV js) (ks++ks2):=by intro _;exact vW rfl rfl rfl rfl rfl rfl):
  SE C (some []) (.ListComp elt [⟨tg,iter,ifs,0⟩,⟨tg2,iter2,ifs2,0⟩] sc pos) (aI4 fi js fg ft (inL fi2 fg2 ft2 fe)):=by
 obtain⟨wi,i1,i2⟩:=hi;obtain⟨g,g1,g2,g3,g4⟩:=hg;obtain⟨tt,t1,t2⟩:=ht;obtain⟨wi2,j1,j2⟩:=hi2;obtain⟨gg,h1,h2,h3,h4⟩:=hg2;obtain⟨tt2,u1,u2⟩:=ht2;obtain⟨te,e1,e2⟩:=he;have go1:mU g (ks++ks2):=λ v σ H Q q=>g4 _ _ _ _ _ (λ σ' H' ⟨a,b,c⟩=>⟨a,b,λ k hk=>c k λ z=>hk (zAX _ z)⟩) (g3 v σ H Q q)
 refine⟨_,λ i=>aID (pos:=pos) (hB i) (C.calm i) (i1 i) (λ c fp s₀ H₀=>g1 (i,c,fp,s₀,H₀)) go1 (λ c fp s₀ H₀=>t1 (i,c,fp,s₀,H₀)) (aGy elt tg iter tg2 iter2 ifs ifs2 sc pos) (tQ rfl (λ _ _ _ _=>rfl) λ _ _ _ _ _=>rfl) aLT ?_ rfl rfl (hs i),aMM i2 g2 g3 g4 hk t2 j2 h2 u2 e2⟩;intro c fp s₀ H₀;exact aFW (C.calm i) (λ _ _ h=>h) (aGx elt tg iter tg2 iter2 ifs ifs2 sc pos) (tQ rfl (λ _ _ _ _=>rfl) λ _ _ _ _ _=>rfl) (j1 (i,c,fp,s₀,H₀)) (h1 (i,c,fp,s₀,H₀)) h3 (u1 (i,c,fp,s₀,H₀)) (aMm (e1 (i,c,fp,s₀,H₀))) (hs2 (i,c,fp,s₀,H₀))
end
def aNj(K:zAA)(a:Addr):It:=
 ⟨λ i H=>∃xs x,SqL K H a xs/\xs[i]? =some x,λ i H x H'=>∃p y,x= .ref p/\H p=none/\H'=upd H p (.tup [.int i,y])/\∀xs,SqL K H a xs->xs[i]? =some y,λ i H=>∃xs,SqL K H a xs/\xs.length<=i⟩
theorem aDr{K:zAA}(a e it:Addr)(hei:e≠it)(hae:a≠e)(hai:a≠it):
  Turn P w K (.Tuple elts x1 ps) (aNj K a) [e,it] e (λ i h=>(∃old,IsEnum h e it i old)/\h.IsListIter it a i) where
 mem:=by simp
 obj:=λ i h st b hb=>by
  obtain⟨⟨old,he⟩,o,e2,c,d⟩:=st;rcases zAN.mp hb with rfl|hb
  ·exact⟨_,he,λ v z=>by cases z⟩
  ·have q:b=it:=by simpa using hb
   subst q;exact⟨o,e2,λ v z=>by rw[d]at z;cases z⟩
 keep:=λ i h h' st k=>⟨let⟨old,he⟩:=st.1;⟨old,k e (by simp) _ he⟩,st.2.at λ o q=>k it (by simp) o q⟩
 item:=by
  intro X hP hw hK hc i pins s σ H E I hf st hg;subst hP hw hK;obtain⟨xs,x,hq,hx⟩:=hg;obtain⟨its,rv,p,hz⟩:=I.list hq;obtain⟨u,hu,ru⟩:=rv.get hx;obtain⟨⟨old,he⟩,hit⟩:=st;refine wpAny_pyNext_enum_itemD (Draws.list (A:=X.A.in1) (show X.A.in1.handled=none from I.ok.hd hc) it a hai its.toArray) he ⟨hit,p.isList⟩ (by have:=(zAH.mp hu).1;simpa using this) hei (by simp[hei,zDL hae]) λ y h' tk hy ho st' hT hsz hk=>⟨_,rfl,?_⟩
  have ey:y=u:=by
   have:its.toArray[i]? =some u:=by simpa using hu
   rw[this]at hy;exact(zAa hy).symm
  subst ey;have hel:e<s.heap.objs.size:=zAQ he;refine wpAny_letOwnedTupleGo_enum ho λ h2 he2 hs2=>⟨.ref s.heap.objs.size,upd H s.heap.objs.size (.tup [.int i,x]),?_,rfl,⟨_,x,rfl,I.hok.fresh (zAS _),rfl,λ ys hy=>by rw[I.list_inj hy hq];exact hx⟩,⟨⟨_,by simpa using he2⟩,st'.1.at λ o q=>(hs2.2 it (zDL hei)).trans q⟩,λ b hb=>?_⟩
  ·exact aIo (s:=s) (h':=h2) (t':=tk+1) I hf (λ b u hb q=>(hs2.2 b λ z=>hb (by simp[z])).trans (hk b u (λ z=>hb (by simp[z])) (λ z=>hb (by simp[z])) q)) (zAS _) ⟨by simp[zBr],[.int i tk,y],.cons ⟨_,rfl⟩ (.cons ru .nil),_,(hs2.2 _ (zCH hel)).trans hT,rfl,_,rfl⟩
  ·have:=(hf b hb).1
   rw[aj]
   ·exact this
   ·rintro rfl
    rcases zAN.mp hb with q|q
    ·exact absurd hel (by rw[<-q];exact zBP _)
    ·obtain⟨o,ho2,_⟩:=hit
     have q2:s.heap.objs.size=it:=by simpa using q
     exact absurd (zAQ ho2) (by rw[<-q2];exact zBP _)
 done:=by
  intro X hP hw hK hc i pins s σ H E I hf st hg;subst hP hw hK;obtain⟨xs,hq,hx⟩:=hg;obtain⟨its,rv,p,hz⟩:=I.list hq;obtain⟨⟨old,he⟩,hit⟩:=st;obtain⟨f0,f1,f2,f3,f4,f5⟩:=hf it (by simp);have hT:s.TypeIs (.ref e) "enumerate":=⟨_,he,rfl⟩;have hl:=rv.length;unfold zEy;refine zAD (zIK (zET (name:=zHj "__next__") hT zHv (zCT zHv hT F.entry_enumerate_next ?_ (F.args_enumerate_next_1 _))));show wpAny _ _ (field (.ref e) 2>>=_) _ _ _;refine zAD (wpAny_field he rfl (x:=.ref it) rfl ?_);refine zAD (wpAny_nextOf_list_end (I.ok.hd hc) hit p.isList (by simp;lia) λ h' x he' hx'=>?_);obtain⟨o,ho,hc⟩:=hx';refine zAD (zHS (T:="StopIteration") (b:=true) ⟨o,ho,hc⟩ isSubtype_stop ?_);exact zAR ⟨rfl,I.turned (t':=s.toks) (λ b o hb q=>he' b o hb q) f0 f1 f3 f4 f5⟩
 self:=λ _ _ _ _ _ st h=>let⟨⟨_,he⟩,_⟩:=st;zJ2 he h
def aIw(K:zAA)(tl:TA):TI:=λ σ H R=>tl σ H λ xs H1=>∃a,xs=[.ref a]/\(∃ys,SqL K H1 a ys)/\R (aNj K a) H1
theorem aHv{x1:Nat}(hl:PA X [l] tl)(hg:Gl X "enumerate")(hm:X.mg "enumerate"=none)(hv:zAv "enumerate"=some (.type "enumerate"))
  (he:zAZ [l] X.env=[(false,eval l X.env)]:=by rfl):PI X (.Tuple elts x1 ps) (.Call (.Name "enumerate" p) [l] [] pos) (aIw X.K tl):=by
 intro pins s σ H R I h;refine zBe (sX I hg hm hv ?_ (by decide) (by decide));refine zCI (thn (hl pos pins s σ H _ I h) λ us s1 ⟨vs,H1,I1,r1,a,e,⟨ys,hy⟩,q⟩=>?_) he rfl;subst e;obtain⟨u,rfl,ru⟩:=r1.one;cases ru;obtain⟨its,rv,pp,hz⟩:=I1.list hy;have ha:a<s1.heap.objs.size:=let⟨o,_,ho,_⟩:=pp;zAQ ho
 refine call_enumerate_list pp.isList λ h' he hit _ hk=>zJ2 he ?_
 have n1:s1.heap.objs.size+1≠s1.heap.objs.size:=by lia
 refine⟨_,_,_,_,H1,rfl,I1.kept (t':=s1.toks) hk,aDr a _ _ n1 (zA0 (zC6 ha)) (zA0 ha),⟨⟨_,he⟩,hit⟩,λ b hb=>?_,q⟩;have hle:s1.heap.objs.size<=b:=by
  rcases zAN.mp hb with rfl|hb
  ·exact zCM _
  ·have:b=s1.heap.objs.size:=by simpa using hb
   exact zFS this.symm
 exact I1.fpOk hle (I1.hok.fresh hle)
def aD1:List D->Rs (List D)
 |[.lst l]=>.ok (aEq l)
 |_=>.st
theorem aIj{K:zAA}(h:SqL K H a xs)(r:Rps K (λ p=>(lab p).1<=1) H xs ds):JL K lab (aNj K a) H (aEq ds):=by
 have hl:=r.length;have hle:(aEq ds).length=ds.length:=by simp[aEq]
 refine λ i=>⟨λ hi=>⟨xs,h,by lia⟩,λ hi=>⟨⟨xs,xs[i]'(by lia),h,by simp[hl,hle▸hi]⟩,λ x H' y=>?_⟩⟩
 obtain⟨p,y,rfl,hp,rfl,hy⟩:=y;obtain⟨d,h1,h2⟩:=r.get (hy xs h);refine⟨bZ hp _,.tup [.int (i:Int),d],?_,.tup (.inl (.inl bH)) (.cons (.int _) (.cons (h2.up (bZ hp _)) .nil))⟩;unfold aEq;rw[zAT,List.getElem?_zipIdx,h1];simp
section
variable{C:Ct}{m:Mode}{a:Expr}{ga:En->Rs (List D)}{elts:List Expr}{x1:Nat}{ps p pos:Pos}
theorem aHS(ha:SA C m [a] ga)(hm:C.mg "enumerate"=none)(ho:okS m=true:=by rfl)(hs:∀i,zAZ [a] (C.X i).env=[(false,eval a (C.X i).env)]:=by intro _;rfl)(hg:∀i,Gl (C.X i) "enumerate":=by intro _;rfl)(hv:zAv "enumerate"=some (.type "enumerate"):=by decide+kernel):
  SI C (.Tuple elts x1 ps) (.Call (.Name "enumerate" p) [a] [] pos) (du aD1 ga):=by
 obtain⟨t,p1,p2⟩:=ha;refine⟨aIw C.K t,λ i=>by rw[<-C.hK i];exact aHv (p1 i) (hg i) (by rw[(C.cx i).2.2.2.1];exact hm) hv (hs i),λ τ σ H ρ lab Rr R W=>p2 τ σ H ρ lab _ R (W.bd.imp λ ds _ w vs H1 s r=>?_)⟩;cases ds with
 |nil=>exact zAO w
 |cons d ds=>
  cases ds with
  |cons _ _=>cases d<;>exact zAO w
  |nil=>
   obtain⟨v,rfl,rd⟩:=r.one_inv;cases d with
   |lst l=>
    obtain⟨R',r'⟩:=R.shared ho s rd;obtain⟨b,xs,rfl,h,mm,q⟩:=r'.lst_inv;refine⟨b,rfl,⟨xs,SqL.of h⟩,w _ H1 _ [(.ref b,.lst l)] s (λ p o e=>cN e) ⟨R'.len,R'.sl,R'.old,R'.new,λ z hz=>?_⟩ λ lab' H' hq=>?_⟩
    ·rcases zAN.mp hz with rfl|hz
     ·exact .lst h mm q
     ·exact R'.tm z hz
    ·have z:=hq _ (zAI ..)
     obtain⟨b',xs',e',h',_,q'⟩:=z.lst_inv;cases e';exact aIj (SqL.of h') (q'.wk λ _ _ _ z=>z.1)
   |_=>exact zAO w
end
end VL
namespace HT
open PySem PySem.Spec PyProof.Rows
section
variable{prog:zA2}{w:World}{A:zAe}{E:Value->zAF->Prop}{s:zAF}
end
end HT
namespace VL
open PySem PySem.Spec PyProof.Rows L2
section
variable{C:Ct}{m:Mode}{e:Expr}{fe:En->Rs D}{pos p2:Pos}
end
section
variable{C:Ct}{elts:List Expr}{n i:Nat}{x:Str}{p lpos pos pos':Pos}
end
end VL
namespace PySem.AutoSeq1
end PySem.AutoSeq1
namespace VL
open PySem PySem.Spec PyProof.Rows L2
section
variable{C:Ct}{m1 m2:Mode}{a b:Expr}{fa fb:En->Rs D}{pos:Pos}
end
section
variable{C:Ct}{pos apos cpos p:Pos}{e:Expr}{fe:En->Rs D}{i:Nat}{x:Str}{m:Mode}
end
def Enr(K:zAA)(x:Str)(st:Stmt)(f:Addr)(fd:zAc):Prop:=L2.Fun K x x st f fd/\zAd K zA4 x=some (some (.ref f))
theorem enr{K:zAA}{st:Stmt}{oc kV dc pm cd ct:Value}(a:zAd K zA4 x=some (some (.ref f)))
  (l:K.lookup f=some ⟨oc,od,.func (zBc x x (qg st) (eZ st) (aH st) .none kV dc pm an cd ct),sl⟩)(c:zCz K cd x=true)(k:zB5 K (.ref f)=true):∃f fd,Enr K x st f fd:=⟨f,_,aN3 (st:=st) l c k,a⟩
structure Dnr(K:zAA)(mg:Str->Option Value)(x:Str)(st:Stmt)(ps:List Str)(f:Addr)(d:zAc):Prop where
 F:L2.Fun K x x st f d
 m:mg x=some (.ref f)
 b:L2.Binds K d ps []
section
variable{C:Ct}
theorem aV{st:Stmt}(hF:cW C.prog C.w C.K C.mg C.base (CX1 C.prog C.w) k fn fd ps (spF C.K C.G.cl n F))(D:Dnr C.K C.mg x st ps fn fd)(ha:SA C m (e::es) ga)(hr:k<=C.k:=by exact zBa rfl)(hg:∀i,Gl (C.X i) x:=by intro _;rfl)
  (hn:∀ρ ds,ga ρ= .ok ds->ds.length=n:=by repeat (first|exact λ _ _ h=>aKa h|apply aI1))(hdb:(x==("__debug__":Str))=false:=by decide)(he:∀i,zAZ (e::es) (C.X i).env=(false,eval e (C.X i).env)::zAZ es (C.X i).env:=by intro _;rfl)
  (hpl:∀i,(zC1 pos (zAZ es (C.X i).env)).any (·.1)=false:=by intro _;rfl):SE C (some []) (.Call (.Name x p) (e::es) [] pos) (aK F ga):=aJw hF hr D.m D.F.kp D.b ha hn hdb he hpl hg
end
theorem bM{P:zA2}{w:World}{K:zAA}{st:Stmt}(D:Dnr K mg q st ps fn fd)(S:aX N ps (aH st))(hb:N.Nodup->∀cdv A outer s H E hr,SSs (ctD P w K mg base N q (aH st) fn cdv A outer s H E k hr) (eZ st) f)(hn:ps.length=n:=by rfl)(hF:dZ N.length f=FF:=by rfl):
  cW P w K mg base (CX1 P w) (k+1) fn fd ps (spF K (bF mg) n FF):=aLC D.F S (hb S.nd) hn hF
section
variable{prog:zA2}{w:World}{A:zAe}{R:zE8->zAF->Prop}{I S:Addr}{fp wr:List Addr}{n:Nat}{P:Nat->Value->Prop}{St:Nat->Heap->Prop}{bt:Nat->Nat->Bool}
end
section
variable{prog:zA2}{w:World}{A:zAe}{E:Value->zAF->Prop}{s:zAF}{Q:Value->zAF->Prop}
end
def aEz(items:Array Value)(nss:Nat->List Int)(h:Heap):Prop:=∀i v,items[i]? =some v->∃x its,v= .ref x/\IsTup h x its/\zBD its.toList (nss i)
def aEH(items:Array Value):List Addr:=items.toList.filterMap λ v=>match v with| .ref x=>some x|_=>none
theorem aEG{items:Array Value}{i:Nat}(h:items[i]? =some (zB0 x)):x∈aEH items:=by
 unfold aEH;rw[zBs];exact⟨.ref x,by have:=zAo (l:=items.toList) (i:=i) (by simpa using h);exact this,rfl⟩
theorem aEz.keep(T:aEz items nss h)(k:∀b∈aEH items,∀o,h.get? b=some o->h'.get? b=some o):aEz items nss h':=λ i v e=>by
 obtain⟨x,its,rfl,⟨o,h1,h2⟩,h3⟩:=T i v e;exact⟨x,its,rfl,⟨o,k x (aEG e) o h1,h2⟩,h3⟩
section
variable{C:Ct}{pos p:Pos}{a b:Expr}{ga:En->Rs (List D)}{m:Mode}
end
section
variable{prog:zA2}{w:World}{A:zAe}{E:Value->zAF->Prop}{s:zAF}{z TI TO i1 i2 l1 l2:Addr}{k:Nat}{xs ys:Array Value}{x y a b:Value}
end
section
variable{C:Ct}{m:Mode}{a b:Expr}{ga:En->Rs (List D)}{elts:List Expr}{x1:Nat}{ps p pos:Pos}
end
def putN(ds:List D):D->Option Nat
 | .int n=>ixN ds.length n
 |_=>none
def aEM(i:Nat)(fk fe:En->Rs D):En->Ou:=λ ρ=>match ρ[i]? with
 |some (.ow (.lst ds))=>(fe ρ).bo λ d=>(fk ρ).bo λ k=>match putN ds k with
  |some j=>.nx (ρ.set i (.ow (.lst (ds.set j d))))
  |none=>.st
 |_=>.st
theorem aGK(h:putN ds k=some j):∃n,k= .int n/\ixN ds.length n=some j:=by
 cases k with
 |int n=>exact⟨n,rfl,h⟩
 |_=>cases h
section
variable{C:Ct}{pos tpos p:Pos}{ek e:Expr}{fk fe:En->Rs D}{x:Str}{m m1:Mode}
theorem aFE(i:Nat)(hk:SE C m1 ek fk)(he:SE C m e fe)(hm:okN m=true:=by rfl)(hN:∀j,(C.X j).N[i]? =some x:=by intro _;rfl)(hv:∀j,Vis (C.X j).env.scope x:=by intro _;first|exact zCi rfl|exact zBw (zCi rfl)|exact zBw (zBw rfl))(hd:(x==("__debug__":Str))=false:=by decide)
  (hcd:(x==("__classdict__":Str))=false:=by decide)(ha:∀j v,zEB (.Subscript (.Name x p) ek tpos) (C.X j).env v=(do
   let ov <-zCk [v] (eval (.Name x p) (C.X j).env);let iv <-zCk [v,ov] (eval ek (C.X j).env)
   zES tpos
   zCk [v,ov,iv] (setItem ov iv v)
   release [v,ov,iv] []):=by intro _ _;rfl)(hs:∀j,zIJ [.Subscript (.Name x p) ek tpos] e pos.line (C.X j).env=pure false:=by intro _;rfl)(hw:∀j,zII [.Subscript (.Name x p) ek tpos] e (C.X j).env=pure none:=by intro _;rfl)
  (h1:∀j,(zCV [.Subscript (.Name x p) ek tpos] (C.X j).env).map (·.2)=[zEB (.Subscript (.Name x p) ek tpos) (C.X j).env]:=by intro _;rfl):
  SS C (.Assign [.Subscript (.Name x p) ek tpos] e pos) (aEM i fk fe):=by
 obtain⟨tk,k1,k2⟩:=hk;obtain⟨te,e1,e2⟩:=he;refine⟨aC0 te (aO8 (qt i) tk aL7),λ j=>aHs (e1 j) (aM7 (jC (hN j) (hv j) hd hcd) (k1 j) set_list (ha j)) (hs j) (hw j) (h1 j),λ τ σ H ρ lab De R W=>?_⟩;unfold aEM at W;cases es:ρ[i]? with
 |none=>rw[es]at W;exact zAO W
 |some s=>
  rw[es]at W;split at W
  ·rename_i ds hs
   cases hs;rcases R.sl i _ es with z|⟨v,ev,hv'⟩
   ·cases z
   ·obtain⟨hv1,htop⟩:=hv'
    obtain⟨a0,ea0,la0⟩:=htop rfl;subst ea0;cases hv1 with
    |lst h mm r=>
     rename_i xs;refine e2 τ σ H ρ lab _ R (W.bo.imp λ d _ w y H2 s2 r2=>⟨.ref a0,ev,?_⟩);refine k2 τ σ H2 ρ lab _ (R.up s2) (w.bo.imp λ k _ w kv H3 s3 r3=>?_);cases hj:putN ds k with
     |none=>rw[hj]at w;exact zAO w
     |some j=>
      rw[hj]at w;dsimp only at w;obtain⟨n,rfl,hj⟩:=aGK hj;have ey:=r3.int_inv;subst ey;have h3:H3 a0=some (.lst xs):=(s2.trans s3) _ _ h;refine⟨a0,xs,n,j,rfl,rfl,h3,by rw[r.length];exact hj,?_⟩;obtain⟨R',r'⟩:=R.fresh (P:=λ k=>k=1) rfl (λ k hk=>beq_iff_eq.mp (t7 hm k hk)) s2 r2;have la:(eE H 1 lab a0).1=i+2:=by rw[cN h];exact la0
      have B:lw a0 H3 (upd H3 a0 (.lst (xs.set j y))):=λ b' o ne hb=>by rw[aj ne];exact hb
      refine w σ _ _ ((R'.up s3).mut ev h3 rfl la B ⟨.lst bH (.inr la) ?_,λ _=>⟨a0,rfl,la⟩⟩);have ra:Rps C.K (λ p=>((eE H 1 lab p).1=1\/(eE H 1 lab p).1=i+2)/\p≠a0) H3 (xs.set j y) (ds.set j d):=by
       refine Rps.set ((r'.up s3).wk λ p o e z=>⟨.inl z,λ q=>?_⟩) j (r.mono (s2.trans s3) λ p o e z=>⟨by rw[cN e];exact z.1,z.2⟩);subst q;rw[la]at z;lia
      exact ra.but B h3 rfl λ z=>z.2 rfl
  ·exact zAO W
end
def tX(ks vs:List D):Option (List (Int×D)):=match intsOf ks with
 |some is=>if is.length=vs.length then some (is.zip vs)else none
 |none=>none
def jy(ps:List (Int×D)):D:=.dct (ps.map λ p=>.int p.1) (ps.map (·.2))
theorem aEO(h:tX ks vs=some ps):ks=ps.map (λ p=>.int p.1)/\vs=ps.map (·.2):=by
 unfold tX at h;split at h
 ·rename_i is hi
  split at h
  ·rename_i hl
   cases h;refine⟨?_,?_⟩
   ·rw[dR hi,show(λ p:Int×D=>D.int p.1)=(λ i=>D.int i)∘Prod.fst from rfl,<-zAb,zI5 (by lia)]
   ·rw[zI6 (by lia)]
  ·cases h
 ·cases h
theorem aGt:∀ps:List (Int×D),(ps.map (·.1)).zip (ps.map (·.2))=ps
 |[]=>rfl
 |p::ps=>by rw[zAG,zAG,zBM,aGt ps]
theorem aA7(ps:List (Int×D)):tX (ps.map λ p=>.int p.1) (ps.map (·.2))=some ps:=by
 unfold tX;have e:intsOf (ps.map λ p=>D.int p.1)=some (ps.map (·.1)):=by
  rw[show(ps.map λ p=>D.int p.1)=(ps.map (·.1)).map D.int by rw[zAb];rfl];exact fW _
 rw[e];dsimp only;rw[if_pos (by rw[zAE,zAE]),aGt]
theorem Rp.dctI_inv{K:zAA}(r:Rp K A H v (.dct ks vs))(h:tX ks vs=some ps):
  ∃a kvs,v= .ref a/\H a=some (.dK kvs)/\A a/\Rps K (λ p=>A p/\p≠a) H (kvs.map (·.2)) (ps.map (·.2))/\kvs.map (·.1)=ps.map λ p=>(zCN p.1:Key):=by
 obtain⟨h1,h2⟩:=aEO h;generalize hd:D.dct ks vs=d at r;cases r with
 |dK hh m r=>
  rename_i kvs ds;injection hd with q1 q2
  subst q2;refine⟨_,kvs,rfl,hh,m,by rw[<-h2];exact r,?_⟩;rw[h1]at q1;clear r h h1 h2 hh;induction kvs generalizing ps with
  |nil=>cases ps with
   |nil=>rfl
   |cons _ _=>cases q1
  |cons p kvs ih=>cases ps with
   |nil=>cases q1
   |cons q ps=>
    obtain⟨p1,p2⟩:=p;rw[zAG,zAG]at q1;injection q1 with q3 q4
    rw[zAG,zAG,ih q4];cases p1 with
    |inl i=>injection q3 with q3;rw[q3]
    |inr x=>cases q3
 |dT hh m r=>
  injection hd with q1 q2
  rw[h1]at q1;cases ps<;>cases q1
 |_=>cases hd
theorem aDo{K:zAA}:∀{kvs:List (Key×V)} {ps:List (Int×D)},Rps K A H (kvs.map (·.2)) (ps.map (·.2))->(kvs.map (·.1)=ps.map λ p=>(zCN p.1:Key))->∀i:Int,
  (∃d v,ps.lookup i=some d/\wW kvs (.inl i)=some v/\Rp K A H v d)\/(ps.lookup i=none/\wW kvs (.inl i)=none)
 |[],[],_,_,_=>.inr ⟨rfl,rfl⟩
 |[],_::_,_,e,_=>by cases e
 |_::_,[],_,e,_=>by cases e
 |p::kvs,q::ps,r,e,i=>by
  obtain⟨p1,p2⟩:=p;obtain⟨q1,q2⟩:=q;rw[zAG,zAG]at e;injection e with e1 e2
  replace e1:p1= .inl q1:=e1;subst e1;rw[zAG,zAG]at r;cases r with
  |cons h r=>
   by_cases c:q1=i
   ·subst c
    exact .inl ⟨q2,p2,by simp[zAk],xV rfl,h⟩
   ·have c1:(i==q1)=false:=by simpa using λ z=>c z.symm
    rw[xW (p:=(zCN q1,p2)) (by simpa using c),zAk,c1];exact aDo r e2 i
def aCD:D->D->Rs D
 | .dct ks vs,.int i=>match tX ks vs with
  |some ps=>(match ps.lookup i with
   |some d=>.ok d
   |none=>.st)
  |none=>.st
 |_,_=>.st
def rA(neg:Bool):D->D->Rs D
 | .int i,.dct ks vs=>match tX ks vs with
  |some ps=>.ok (.bl (neg !=(ps.lookup i).isSome))
  |none=>.st
 |_,_=>.st
def aPA:R2:=λ x y H Q=>∃a v,x= .ref a/\zf H a y (some v)/\Q v H
def aMY(neg:Bool):R2:=λ y x H Q=>∃a o,x= .ref a/\zf H a y o/\Q (.bl (neg !=o.isSome)) H
theorem aND{X:Cx}(hu:X.A.units+1<cLine):OpR X (zAr .In) (aMY false):=by
 intro pins s σ H y x u v Q I ry rx ⟨a,o,ex,g,q⟩;subst ex;cases rx;exact aPE hu I g ry λ s3 I3=>⟨.bl o.isSome,H,I3,rfl,by simpa using q⟩
theorem aIN{K:zAA}:OpS K (aMY n) (rA n):=by
 intro A x y d e H Q z rx ry ez q;unfold rA at ez;split at ez
 ·rename_i i ks vs
  cases hp:tX ks vs with
  |none=>rw[hp]at ez;cases ez
  |some ps=>
   rw[hp]at ez;cases ez;have ex:=rx.int_inv;subst ex;obtain⟨a,kvs,rfl,h1,m,r,hk⟩:=ry.dctI_inv hp;refine⟨a,_,rfl,zf.k (k:=.inl i) h1,?_⟩;rcases aDo r hk i with ⟨d,v,e1,e2,_⟩|⟨e1,e2⟩
   ·rw[e2];rw[e1]at q;exact q _ H (aY.refl H) (.bl _)
   ·rw[e2];rw[e1]at q;exact q _ H (aY.refl H) (.bl _)
 ·cases ez
theorem aKt(h:rA n x y= .ok z):imm z=true:=by
 unfold rA at h;split at h
 ·split at h
  ·cases h;rfl
  ·cases h
 ·cases h
section
variable{C:Ct}{m1 m2:Mode}{a b:Expr}{fa fb:En->Rs D}{pos:Pos}
theorem Ct.din(C:Ct)(i:C.ι):OpR (C.X i) (zAr .In) (aMY false):=aND (by have:=(C.room i).un;lia)
theorem aMS(ha:SE C m1 a fa)(hb:SE C m2 b fb)(hm:zBY .In b=false:=by with_unfolding_all rfl):SE C (some []) (.Compare a [.In] [b] pos) (op2 (rA false) fa fb):=ie (aBR C.din aIN ha hb hm) λ _ _ h=>mL (λ _ _ _=>aKt) h
theorem aHI(ha:SE C m1 a fa)(hb:SE C m2 b fb)(hm:zBY .In b=false:=by with_unfolding_all rfl):ST C (.Compare a [.In] [b] pos) (tsb (op2 (rA false) fa fb)):=nu C.din aIN ha hb hm
theorem aHW(ha:SE C m1 a fa)(hb:SE C m2 b fb)(hp:xT b:=by exact λ _ _=>rfl):SE C m1 (.Subscript a b pos) (op2 aCD fa fb):=by
 obtain⟨t,h1,h2⟩:=ha;obtain⟨u,k1,k2⟩:=hb;refine⟨tOp aPA t u,λ i=>aKK (by have:=(C.room i).un;lia) (h1 i) (k1 i) hp,λ τ σ H ρ lab Q R W=>?_⟩;refine h2 τ σ H ρ lab _ R (W.bd.imp λ d _ w x H1 s1 r1=>?_);refine k2 τ σ H1 ρ lab _ (R.up s1) (w.bd.imp λ e _ w y H2 s2 r2=>?_);obtain⟨z,ez,wz⟩:=w.okD;cases d with
 |dct ks vs=>
  cases e with
  |int i=>
   cases hp2:tX ks vs with
   |none=>unfold aCD at ez;dsimp only at ez;rw[hp2]at ez;cases ez
   |some ps=>
    unfold aCD at ez;dsimp only at ez;rw[hp2]at ez;dsimp only at ez;have ey:=r2.int_inv;subst ey;obtain⟨a,kvs,rfl,g1,m,r,hk⟩:=(r1.up s2).dctI_inv hp2;rcases aDo r hk i with ⟨d,v,e1,e2,e3⟩|⟨e1,e2⟩
    ·rw[e1]at ez
     cases ez;have g2:zf H2 a (.int i) (some v):=by
      have:=zf.k (k:=.inl i) g1
      rw[e2]at this;exact this
     exact⟨a,v,rfl,g2,wz v H2 (s1.trans s2) (e3.wk λ p o _ q=>q.1)⟩
    ·rw[e1]at ez;cases ez
  |_=>cases ez
 |_=>cases ez
end
def yM(ps:List (Int×D))(i:Int)(d:D):List (Int×D):=if (ps.any λ p=>decide (p.1=i))=true then ps.map (λ p=>if p.1=i then(p.1,d)else p)else ps++[(i,d)]
theorem aJ1:∀{kvs:List (Key×V)} {ps:List (Int×D)} {i:Int},(kvs.map (·.1)=ps.map λ p=>(zCN p.1:Key))->(kvs.any λ kv=>decide (kv.1=(.inl i:Key)))=ps.any λ p=>decide (p.1=i)
 |[],[],_,_=>rfl
 |[],_::_,_,e=>by cases e
 |_::_,[],_,e=>by cases e
 |(p1,p2)::kvs,q::ps,i,e=>by
  rw[zAG,zAG]at e;injection e with e1 e2
  replace e1:p1= .inl q.1:=e1;subst e1;rw[zC0,zC0,aJ1 e2];simp
theorem aH8{K:zAA}{i:Int}{v:V}{d:D}(h:Rp K A H v d):∀{kvs:List (Key×V)} {ps:List (Int×D)},Rps K A H (kvs.map (·.2)) (ps.map (·.2))->(kvs.map (·.1)=ps.map λ p=>(zCN p.1:Key))->
  Rps K A H ((kvs.map λ kv=>if kv.1= .inl i then(kv.1,v)else kv).map (·.2)) ((ps.map λ p=>if p.1=i then(p.1,d)else p).map (·.2))/\((kvs.map λ kv=>if kv.1= .inl i then(kv.1,v)else kv).map (·.1)=(ps.map λ p=>if p.1=i then(p.1,d)else p).map λ p=>(zCN p.1:Key))
 |[],[],_,_=>⟨.nil,rfl⟩
 |[],_::_,_,e=>by cases e
 |_::_,[],_,e=>by cases e
 |(p1,p2)::kvs,(q1,q2)::ps,r,e=>by
  rw[zAG,zAG]at e;injection e with e1 e2
  replace e1:p1= .inl q1:=e1;subst e1;rw[zAG,zAG]at r;cases r with
  |cons h1 r1=>
   obtain⟨z1,z2⟩:=aH8 h r1 e2;rw[zAG,zAG,zAG,zAG,zAG,zAG,z2];by_cases c:q1=i
   ·subst c
    rw[if_pos rfl,if_pos rfl];exact⟨.cons h z1,rfl⟩
   ·rw[if_neg (show¬((zCN q1:Key),p2).1=zCN i by simpa using c),if_neg (show¬(q1,q2).1=i from c)]
    exact⟨.cons h1 z1,rfl⟩
theorem aHk{K:zAA}{kvs:List (Key×V)}{ps:List (Int×D)}{i:Int}{v:V}{d:D}(r:Rps K A H (kvs.map (·.2)) (ps.map (·.2)))(e:kvs.map (·.1)=ps.map λ p=>(zCN p.1:Key))(h:Rp K A H v d):
  Rps K A H ((putK kvs (.inl i) v).map (·.2)) ((yM ps i d).map (·.2))/\(putK kvs (.inl i) v).map (·.1)=(yM ps i d).map λ p=>(zCN p.1:Key):=by
 unfold putK yM;rw[aJ1 e];split
 ·exact aH8 h r e
 ·rw[zAq,zAq,zAq,zAq,e]
  exact⟨r.append (.cons h .nil),rfl⟩
theorem aFs{K:zAA}{kvs:List (Key×V)}{ps:List (Int×D)}(h:H a=some (.dK kvs))(m:A a)(r:Rps K (λ p=>A p/\p≠a) H (kvs.map (·.2)) (ps.map (·.2)))(e:kvs.map (·.1)=ps.map λ p=>(zCN p.1:Key)):Rp K A H (.ref a) (jy ps):=by
 have e1:(kvs.map λ p=>kD p.1)=ps.map λ p=>.int p.1:=by
  rw[show(kvs.map λ p=>kD p.1)=(kvs.map (·.1)).map kD by rw[zAb];rfl,e,zAb];rfl
 have:=Rp.dK h m r
 rw[e1]at this;exact this
section
variable{C:Ct}{pos tpos p:Pos}{ek e:Expr}{fk fe:En->Rs D}{x:Str}{m m1:Mode}
end
def prT:D->Option (Int×D)
 | .tup [.int i,v]=>some (i,v)
 |_=>none
def lH:List D->Option (List (Int×D))
 |[]=>some []
 |d::ds=>match prT d,lH ds with
  |some p,some ps=>some (p::ps)
  |_,_=>none
theorem aHt(h:prT d=some p):d= .tup [.int p.1,p.2]:=by
 unfold prT at h;split at h
 ·cases h;rfl
 ·cases h
theorem tW(h:lH (d::ds)=some ps):∃p qs,d= .tup [.int p.1,p.2]/\lH ds=some qs/\ps=p::qs:=by
 unfold lH at h;split at h
 ·rename_i p qs h1 h2
  cases h;exact⟨p,qs,aHt h1,h2,rfl⟩
 ·cases h
def eV(acc qs:List (Int×D)):List (Int×D):=qs.foldl (λ ps q=>yM ps q.1 q.2) acc
def dcI(fi:En->Rs (List D))(js:List (Option Nat))(fg:D->En->Rs En)(ft:En->Rs Bool)(fk fv:En->Rs D):En->Rs D:=λ ρ=>(fi (shE ρ)).bd λ ds=>
 if ds.length<zAW then(match lcL (stE js (shE ρ)) fg ft (pairE fk fv) ds with
  | .ok l=>(match lH l with
   |some qs=>.ok (jy (eV [] qs))
   |none=>.st)
  |_=>.st)else .st
def aME(tk tv:TE):Addr->L2.St->Hp->(Hp->Prop)->Prop:=λ D σ H Q=>tk σ H λ y H1=>tv σ H1 λ v H2=>∃i kvs,y= .int i/\H2 D=some (.dK kvs)/\kvs.length<zAW/\Q (upd H2 D (.dK (putK kvs (.inl i) v)))
theorem aLh{X:Cx}{kx vx:Expr}{tk tv:TE}(hk:PE X kx tk)(hv:PE X vx tv):PB X (uV kx vx) (aME tk tv):=by
 intro D pins s σ H Q I h;unfold uV;refine zAD (thn (hk pins s σ H _ I h) λ u s1 ⟨y,H1,I1,r1,q1⟩=>zAD (zBb (thn (hv pins s1 σ H1 _ I1 q1) λ u2 s2 ⟨v,H2,I2,r2,i,kvs,ey,hD,hl,q⟩=>?_)));subst ey;refine zAD (zCg (zBb ?_));obtain⟨z,hd,vs,rel,dd⟩:=aOa I2.hok hD;have hz:vs.length<=zAW:=by rw[<-rel.length];exact z
 have hl2:(putK kvs (.inl i) v).length<=zAW:=by have:=qJ kvs (.inl i) v;lia
 refine wpAny_dictSet_pairs (knd:=fQ X.prog X.w) (k:=.inl i) (hsz:=hz) (aFc (k:=.inl i) r1) dd λ h' dd' hs=>⟨_,?_,q⟩
 have he:∃q,h'.get? D=some q:=let⟨q,_,_,hq,_⟩:=dd';⟨q,hq⟩
 exact aLI I2 (t':=s2.toks+1) (by rw[hD];exact zDD) hs he (aN6 hl2 hd (rel.put (.inl i) r2) dd')
theorem aJ3:aFy newDict (λ ob=>ob={cls:=.type "dict",data:=.dict #[]}) (λ _=>.dK []) where
 make:=λ h=>zCP (h _ rfl)
 live:=by rintro ob rfl;rfl
 ok:=by
  rintro P w H h a ob rfl hg hb;exact⟨zA9 _,beq_eq_false_iff_ne.mpr (zDL (zA0 hb)),[],.nil,_,#[],0,hg,⟨rfl,rfl,rfl⟩,rfl,λ _ he=>(by simp at he),Pairs.nil,zIs⟩
theorem o6(acc qs:List (Int×D))(q:Int×D):eV acc (qs++[q])=yM (eV acc qs) q.1 q.2:=by unfold eV;rw[zIO];rfl
theorem yP:∀{l m:List D} {ps:List (Int×D)},lH (l++m)=some ps->∃p1 p2,lH l=some p1/\lH m=some p2/\ps=p1++p2
 |[],m,ps,h=>⟨[],ps,rfl,h,rfl⟩
 |d::l,m,ps,h=>by
  obtain⟨p,qs,rfl,h2,rfl⟩:=tW h;obtain⟨p1,p2,e1,e2,rfl⟩:=yP h2;exact⟨p::p1,p2,by unfold lH;rw[e1];rfl,e2,rfl⟩
theorem vC(p:Int×D):∀{l:List D} {ps:List (Int×D)},lH l=some ps->lH (l++[.tup [.int p.1,p.2]])=some (ps++[p])
 |[],ps,h=>by cases h;rfl
 |d::l,ps,h=>by
  obtain⟨q,qs,rfl,h2,rfl⟩:=tW h;rw[zCd];unfold lH;rw[vC p h2];rfl
section
variable{K:zAA}{G:Gx}{wi:TI}{fi:En->Rs (List D)}{g:TG}{fg:D->En->Rs En}{tt:TT}{ft:En->Rs Bool}{tk tv:TE}{fk fv:En->Rs D}{js:List (Option Nat)}
theorem aMN(hi:aDf K G wi fi)(hg:aDg K {G with E:=λ _ _ _=>False} g fg)(ht:z9 K {G with E:=λ _ _ _=>False} tt ft)(hk:gr K {G with E:=λ _ _ _=>False} (some []) tk fk)(hv:gr K {G with E:=λ _ _ _=>False} (some []) tv fv):
  gr K G (some []) (aJg (λ _=>.dK []) wi (stV js) g tt (aME tk tv)) (dcI fi js fg ft fk fv):=by
 intro τ σ H ρ lab Q R W;refine hi τ σ H _ _ _ R.shE (W.bd.imp λ ds _ w J H1 lab1 τ1 s1 _ R1 jl=>?_);intro l hl;obtain⟨hlen,out,qs,hout,hqs,w⟩:ds.length<zAW/\∃out qs,lcL (stE js (VL.shE ρ)) fg ft (pairE fk fv) ds= .ok out/\lH out=some qs/\QE K (some []) lab H Q (jy (eV [] qs)):=by
  by_cases hlen:ds.length<zAW
  ·rw[if_pos hlen]at w
   cases hout:lcL (stE js (VL.shE ρ)) fg ft (pairE fk fv) ds with
   |ok out=>
    rw[hout]at w;dsimp only at w;cases hns:lH out with
    |some ns=>rw[hns]at w;exact⟨hlen,out,ns,rfl,hns,w⟩
    |none=>rw[hns]at w;exact zAO w
   |ex c=>rw[hout]at w;exact zAO w
   |st=>rw[hout]at w;exact zAO w
  ·rw[if_neg hlen]at w
   exact zAO w
 have R0:RR K {G with E:=λ _ _ _=>False} (τ1++τ) (VL.shE ρ) σ H1 (λ _=>(0,0)):=R1.blk0 rfl;have RB:=R0.block (js:=js) (λ _=>zA9 _) hl;have hHl:H l=none:=s1.free hl;have h0l:G.H0 l=none:=R1.old.free hl;refine⟨λ i n H2=>∃(kvs:List (Key×V)) (pre:List D) (qp:List (Int×D)),n=ds.length-i/\i<=ds.length/\H2 l=some (.dK kvs)/\kvs.length<=i/\lH pre=some qp/\Rps K (λ p=>H p=none/\p≠l) H2 (kvs.map (·.2)) ((eV [] qp).map (·.2))/\(kvs.map (·.1)=(eV [] qp).map λ p=>(zCN p.1:Key))/\
  RR K {G with E:=λ _ _ _=>False} (τ1++τ) (stE js (VL.shE ρ)) (stV js σ) H2 (λ p=>if p=l then(2,0)else(0,0))/\aY H H2/\
  ∃post,lcL (stE js (VL.shE ρ)) fg ft (pairE fk fv) (ds.drop i)= .ok post/\out=pre++post,⟨ds.length,[],[],[],by lia,by lia,bH,zAS _,rfl,.nil,rfl,RB.up (bZ hl _),s1.trans (bZ hl _),out,hout,rfl⟩,?_⟩
 rintro i n H2 ⟨kvs,pre,qp,rfl,hi,hD,hei,hqp,rv,rk,R2,s2,post,hpost,eout⟩;have jj:=jl _ H2 λ q hq=>R2.tm q (zAX _ hq)
 by_cases hlt:i<ds.length
 ·obtain⟨go,yl⟩:=(jj i).2 hlt
  refine .inr ⟨go,λ x H3 hy=>?_⟩;obtain⟨s3,d,ed,rx⟩:=yl x H3 hy;replace R2:=R2.up s3;replace hD:=s3 _ _ hD;replace s2:=s2.trans s3;replace rv:=rv.up s3;have ed2:ds.drop i=d::ds.drop (i+1):=by
   rw[zBI hlt]
   have:=zAB hlt
   rw[ed]at this;cases this;rfl
  rw[ed2]at hpost;obtain⟨ρ1,k,e1,e2,e3⟩:=uG hpost;refine hg (τ1++τ) x d _ H3 _ _ _ ρ1 R2 rx e1 λ σ4 R4=>?_
  refine ht (τ1++τ) σ4 H3 ρ1 _ _ R4 ?_;rw[e2];intro H5 s5;rcases e3 with ⟨rfl,y,ys,e3,e4,rfl⟩|⟨rfl,e4⟩
  ·rw[if_pos rfl]
   obtain⟨kd,vd,e5,e6,rfl⟩:=aCn e3;obtain⟨p,k3,q3,q4⟩:∃(p:Int×D) (k3:List (Int×D)),D.tup [kd,vd]= .tup [.int p.1,p.2]/\lH ys=some k3:=by
    rw[eout]at hqs;obtain⟨p1,p2,_,q2,_⟩:=yP hqs;obtain⟨p,k3,a1,a2,_⟩:=tW q2;exact⟨p,k3,a1,a2⟩
   injection q3 with q3
   injection q3 with q5 q6
   injection q6 with q6
   subst q5 q6;refine hk (τ1++τ) σ4 H5 ρ1 _ _ (R4.up s5) ?_;rw[e5];intro v H6 s6 r6;refine hv (τ1++τ) σ4 H6 ρ1 _ _ ((R4.up s5).up s6) ?_;rw[e6];intro v2 H7 s7 r7;have ey:=r6.int_inv;subst ey;have hD7:H7 l=some (.dK kvs):=((s5.trans s6).trans s7) _ _ hD;have B:lw l H7 (upd H7 l (.dK (putK kvs (.inl p.1) v2))):=λ b o ne hb=>by rw[aj ne];exact hb
   obtain⟨z1,z2⟩:=aHk (i:=p.1) (A:=λ q=>H q=none/\q≠l) (rv.up ((s5.trans s6).trans s7)) rk (r7.wk λ q o _ z=>by
    rcases z with z|z
    ·exact⟨((s2.trans s5).trans s6).free z,λ e=>by subst e;rw[(s5.trans s6) _ _ hD]at z;cases z⟩
    ·cases z)
   refine⟨p.1,kvs,rfl,hD7,by lia,ds.length-(i+1),by lia,putK kvs (.inl p.1) v2,pre++[.tup [.int p.1,p.2]],qp++[p],rfl,hlt,bH,by have:=qJ kvs (.inl p.1) v2;lia,vC p hqp,?_,?_,(R2.up ((s5.trans s6).trans s7)).but_blk B hD7 rfl h0l,?_,ys,e4,by rw[eout];simp⟩
   ·rw[o6]
    exact z1.but B hD7 rfl λ z=>z.2 rfl
   ·rw[o6]
    exact z2
   ·exact λ b o hb=>B b o (λ z=>by subst z;rw[hHl]at hb;cases hb) ((((s2.trans s5).trans s6).trans s7) b o hb)
  ·rw[if_neg zA3]
   exact⟨ds.length-(i+1),by lia,kvs,pre,qp,rfl,hlt,s5 _ _ hD,by lia,hqp,rv.up s5,rk,R2.up s5,s2.trans s5,post,e4,eout⟩
 ·have ei:i=ds.length:=by lia
  subst ei;rw[zBo]at hpost;cases hpost;rw[zAi]at eout;subst eout;rw[hqs]at hqp;cases hqp;exact .inl ⟨(jj _).1 (zAS _),w _ H2 s2 (aFs hD (.inl hHl) (rv.wk λ p o _ z=>⟨.inl z.1,z.2⟩) rk)⟩
end
section
variable{C:Ct}{pos:Pos}{kx vx tg iter:Expr}{ifs:List Expr}{sc:Scope}{N:List Str}{js:List (Option Nat)}{ks:List Nat}{fi:En->Rs (List D)}{fg:D->En->Rs En}{ft:En->Rs Bool}{fk fv:En->Rs D}
theorem aOD(hi:SI C tg iter fi)(hg:SG (C.blk sc N) tg ks fg)(ht:aCQ (C.blk sc N) ifs ft)(hk:SE (C.blk sc N) (some []) kx fk)(hv:SE (C.blk sc N) (some []) vx fv)(hs:∀i x,zAw iter (C.X i).env x=pure x:=by intro _ _;rfl)(hB:∀i,eU (C.X i) sc N (stV js) ks:=by intro _;exact vW rfl rfl rfl rfl rfl rfl):SE C (some []) (.DictComp kx vx [⟨tg,iter,ifs,0⟩] sc pos) (dcI fi js fg ft fk fv):=by
 obtain⟨wi,i1,i2⟩:=hi;obtain⟨g,g1,g2,g3,g4⟩:=hg;obtain⟨tt,t1,t2⟩:=ht;obtain⟨tk,k1,k2⟩:=hk;obtain⟨tv,v1,v2⟩:=hv;exact⟨_,λ i=>aID (pos:=pos) (hB i) (C.calm i) (i1 i) (λ c fp s₀ H₀=>g1 (i,c,fp,s₀,H₀)) g3 (λ c fp s₀ H₀=>t1 (i,c,fp,s₀,H₀)) (aGB kx vx tg iter ifs sc pos) (aDv kx vx tg iter ifs sc pos) aJ3 (λ c fp s₀ H₀=>aLh (X:=(C.X i).block sc c N fp s₀ H₀) (k1 (i,c,fp,s₀,H₀)) (v1 (i,c,fp,s₀,H₀))) rfl rfl (hs i),aMN i2 g2 t2 k2 v2⟩
end
def qz(i:Int):List Int->Option Nat
 |[]=>none
 |a::l=>if a=i then some 0 else(qz i l).map (·+1)
theorem aAi:∀{l:List Int} {j:Nat},qz i l=some j->(l.map λ a=>a==i)[j]? =some true/\∀m,m<j->(l.map λ a=>a==i)[m]? =some false
 |a::l,j,h=>by
  unfold qz at h;split at h
  ·rename_i e
   cases h;exact⟨by simp[e],λ m hm=>absurd hm (zEP _)⟩
  ·rename_i e
   obtain⟨k,h1,rfl⟩:=zBh.mp h;obtain⟨h2,h3⟩:=aAi h1;refine⟨h2,λ m hm=>?_⟩;cases m with
   |zero=>simp[e]
   |succ m=>exact h3 m (by lia)
def vR(l:List D):D->Rs D
 | .int i=>match intsOf l with
  |some is=>(match qz i is with
   |some j=>.ok (.int (j:Nat))
   |none=>.st)
  |none=>.st
 |_=>.st
def isL:D->Option (List D)
 | .lst l=>some l
 |_=>none
def opL(fd:List D->D->Rs D)(fo fe:En->Rs D):En->Rs D:=λ ρ=>(fo ρ).bd λ d=>match isL d with
 |some l=>(fe ρ).bd λ e=>okD (fd l e)
 |none=>.st
theorem aA6{H:Hp}:∀is:List Int,L2.gw H (is.map V.int) (is.map L2.D.int)
 |[]=>.nil
 |i::is=>.cons (.int i) (aA6 is)
theorem aEt:∀is:List Int,L2.cg (is.map L2.D.int)=0/\L2.bB (is.map L2.D.int)=true
 |[]=>⟨rfl,rfl⟩
 |i::is=>by
  obtain⟨h1,h2⟩:=aEt is;simp[L2.cg,L2.iT,L2.bB,L2.aU,h1,h2]
theorem aLp(i:Int)(is:List Int):((is.map L2.D.int).map λ e=>L2.eqD e (.int i))=is.map λ a=>a==i:=by rw[zAb];rfl
theorem aI0{K:zAA}(r:Rp K A H x (.lst l))(h:intsOf l=some is):∃a,x= .ref a/\H a=some (.lst (is.map V.int)):=by
 rw[dR h]at r;obtain⟨a,xs,rfl,h1,_,r1⟩:=r.lst_inv;have e:=r1.ints_of;subst e;exact⟨a,rfl,h1⟩
section
variable{C:Ct}{m m1:Mode}{o e:Expr}{fo fe:En->Rs D}{apos cpos:Pos}
theorem aC5(ho:SE C m o fo)(he:SE C m1 e fe)(hs1:∀j,zAZ [e] (C.X j).env=[(false,eval e (C.X j).env)]:=by intro _;rfl)(hbase:∀j,zEQ o "index" (C.X j).env (eval o (C.X j).env)=eval o (C.X j).env:=by intro _;rfl)
  (hfew:∀j,((zC1 cpos (zAZ [e] (C.X j).env)).all (λ x=>!x.1)&&(zFj cpos (zDd [] (C.X j).env)).all (λ x=>x.1.isSome)&&decide ([e].length+([]:List zD1).length+(if ([]:List zD1).isEmpty then 0 else 1)<30))=true:=by intro _;rfl)
  (hline:(apos.endLine==cpos.line)=true:=by rfl):SE C (some []) (.Call (.Attribute o "index" apos) [e] [] cpos) (opL vR fo fe):=by
 obtain⟨t,h1,h2⟩:=ho;obtain⟨u,k1,k2⟩:=he;refine⟨tBM C.K "list" aFQ t (jk u pM),λ j=>by rw[<-C.hK j];exact aA8 zCB zDa zGI (aAa (by have:=(C.room j).un;lia)) (h1 j) (bG (k1 j) dg (hs1 j)) (hbase j) (hfew j) hline (hs1 j) rfl,λ τ σ H ρ lab Q R W=>?_⟩;refine h2 τ σ H ρ lab _ R (W.bd.imp λ d _ w x H1 s1 r1=>?_);cases d with
 |lst l=>
  obtain⟨a,xs,rfl,ha,_⟩:=r1.lst_inv;replace w:WR C.G ((fe ρ).bd λ e=>okD (vR l e)) (QE C.K (some []) lab H Q):=w;refine⟨.inl ⟨rfl,xs,SqL.of ha⟩,k2 τ σ H1 ρ lab _ (R.up s1) (w.bd.imp λ e _ w y H2 s2 r2=>?_)⟩;obtain⟨z,ez,wz⟩:=w.okD;cases e with
  |int i=>
   unfold vR at ez;dsimp only at ez;cases hi:intsOf l with
   |none=>rw[hi]at ez;cases ez
   |some is=>
    rw[hi]at ez;dsimp only at ez;have ey:=r2.int_inv;subst ey;obtain⟨a',ea,hl⟩:=aI0 (r1.up s2) hi;cases ea;cases hj:qz i is with
    |none=>rw[hj]at ez;cases ez
    |some j=>
     rw[hj]at ez;cases ez;obtain⟨q1,q2⟩:=aAi hj;exact⟨a,.int i,.int i,is.map L2.D.int,j,rfl,rfl,.lst hl (aA6 is),.int i,by rw[(aEt is).1];decide,rfl,(aEt is).2,by rw[aLp];exact q1,λ m hm=>by rw[aLp];exact q2 m hm,wz _ H2 (s1.trans s2) (.int _)⟩
  |_=>cases ez
 |_=>exact zAO w
end
section
variable{prog:zA2}{w:World}{A:zAe}{E:Value->zAF->Prop}{s:zAF}
end
section
variable{X:Cx}
end
section
variable{C:Ct}{pos p p2 pos2:Pos}{m:Mode}{a:Expr}{ga:En->Rs (List D)}
end
theorem aHA(kx vx tg iter tg2 iter2:Expr)(ifs ifs2:List Expr)(scope:Scope)(pos:Pos):pA 0 (.DictComp kx vx [⟨tg,iter,ifs,0⟩,⟨tg2,iter2,ifs2,0⟩] scope pos) tg iter ifs (nF (.DictComp kx vx [⟨tg,iter,ifs,0⟩,⟨tg2,iter2,ifs2,0⟩] scope pos) iter2):=
 ⟨λ _ _ _ _=>rfl,λ _ _ _ _ _=>rfl,λ _ _ _=>by unfold nF zIE;simp only[zJV];rfl⟩
theorem aGz(kx vx tg iter tg2 iter2:Expr)(ifs ifs2:List Expr)(scope:Scope)(pos:Pos):pA 1 (.DictComp kx vx [⟨tg,iter,ifs,0⟩,⟨tg2,iter2,ifs2,0⟩] scope pos) tg2 iter2 ifs2 (uV kx vx):=
 ⟨λ _ _ _ _=>rfl,λ _ _ _ _ _=>rfl,λ _ _ _=>rfl⟩
def aEv(fi:En->Rs (List D))(js:List (Option Nat))(fg:D->En->Rs En)(ft:En->Rs Bool)(inn:En->Rs (List D)):En->Rs D:=λ ρ=>(fi (shE ρ)).bd λ ds=>match nsL (stE js (shE ρ)) fg ft inn ds with
 | .ok l=>if l.length<zAW then(match lH l with
  |some qs=>.ok (jy (eV [] qs))
  |none=>.st)else .st
 |_=>.st
section
variable{K:zAA}{G:Gx}{wi wi2:TI}{fi fi2:En->Rs (List D)}{js:List (Option Nat)}{ks ks2:List Nat}{g g2:TG}{fg fg2:D->En->Rs En}{tt tt2:TT}{ft ft2:En->Rs Bool}{tk tv:TE}{fk fv:En->Rs D}
theorem aMO(hi:aDf K G wi fi)(hg:aDg K {G with E:=λ _ _ _=>False} g fg)(hgo:mU g ks)(hgm:zc g)(hk:∀k∈ks2,k∉ks/\(js[k]?).join=none)(ht:z9 K {G with E:=λ _ _ _=>False} tt ft)(hi2:aDf K {G with E:=λ _ _ _=>False} wi2 fi2)
  (hg2:aDg K {G with E:=λ _ _ _=>False} g2 fg2)(ht2:z9 K {G with E:=λ _ _ _=>False} tt2 ft2)(hkk:gr K {G with E:=λ _ _ _=>False} (some []) tk fk)(hvv:gr K {G with E:=λ _ _ _=>False} (some []) tv fv):
  gr K G (some []) (aJg (λ _=>.dK []) wi (stV js) g tt (aDs ks2 wi2 g2 tt2 (aME tk tv))) (aEv fi js fg ft (inL fi2 fg2 ft2 (pairE fk fv))):=by
 intro τ σ H ρ lab Q R W;refine hi τ σ H _ _ _ R.shE (W.bd.imp λ ds _ w J H1 lab1 τ1 s1 _ R1 jl=>?_);intro l hl;obtain⟨out,qs,hout,hlen,hqs,w⟩:∃out qs,nsL (stE js (VL.shE ρ)) fg ft (inL fi2 fg2 ft2 (pairE fk fv)) ds= .ok out/\out.length<zAW/\lH out=some qs/\QE K (some []) lab H Q (jy (eV [] qs)):=by
  cases hout:nsL (stE js (VL.shE ρ)) fg ft (inL fi2 fg2 ft2 (pairE fk fv)) ds with
  |ok out=>
   rw[hout]at w;dsimp only at w;split at w
   ·rename_i hz
    cases hns:lH out with
    |some ns=>rw[hns]at w;exact⟨out,ns,rfl,hz,hns,w⟩
    |none=>rw[hns]at w;exact zAO w
   ·exact zAO w
  |ex c=>rw[hout]at w;exact zAO w
  |st=>rw[hout]at w;exact zAO w
 have R0:RR K {G with E:=λ _ _ _=>False} (τ1++τ) (VL.shE ρ) σ H1 (λ _=>(0,0)):=R1.blk0 rfl;have RB:=R0.block (js:=js) (λ _=>zA9 _) hl;have hHl:H l=none:=s1.free hl;have h0l:G.H0 l=none:=R1.old.free hl;have labl:¬((λ p=>if p=l then((2,0):Nat×Nat)else(0,0)) l).1<=1:=by simp
 have hsk:∀k∈ks2,(stV js σ)[k]? =some none\/(stV js σ)[k]? =none:=λ k hk2=>by
  have:=(hk k hk2).2
  unfold stV;rw[zAT];cases e:js[k]? with
  |none=>exact .inr rfl
  |some o=>
   rw[e]at this;cases o with
   |none=>exact .inl rfl
   |some j=>cases this
 refine⟨λ i n H2=>∃(kvs:List (Key×V)) (pre:List D) (qp:List (Int×D)),n=ds.length-i/\i<=ds.length/\H2 l=some (.dK kvs)/\kvs.length<=pre.length/\lH pre=some qp/\Rps K (λ p=>H p=none/\p≠l) H2 (kvs.map (·.2)) ((eV [] qp).map (·.2))/\(kvs.map (·.1)=(eV [] qp).map λ p=>(zCN p.1:Key))/\
  RR K {G with E:=λ _ _ _=>False} (τ1++τ) (stE js (VL.shE ρ)) (stV js σ) H2 (λ p=>if p=l then(2,0)else(0,0))/\aY H H2/\
  ∃post,nsL (stE js (VL.shE ρ)) fg ft (inL fi2 fg2 ft2 (pairE fk fv)) (ds.drop i)= .ok post/\out=pre++post,⟨ds.length,[],[],[],by lia,by lia,bH,zAS _,rfl,.nil,rfl,RB.up (bZ hl _),s1.trans (bZ hl _),out,hout,rfl⟩,?_⟩
 rintro i n H2 ⟨kvs,pre,qp,rfl,hi',hD,hei,hqp,rv,rk,R2,s2,post,hpost,eout⟩;have jj:=jl _ H2 λ q hq=>R2.tm q (zAX _ hq)
 by_cases hlt:i<ds.length
 ·obtain⟨go,yl⟩:=(jj i).2 hlt
  refine .inr ⟨go,λ x H3 hy=>?_⟩;obtain⟨s3,d,ed,rx⟩:=yl x H3 hy;replace R2:=R2.up s3;replace hD:=s3 _ _ hD;replace s2:=s2.trans s3;replace rv:=rv.up s3;have ed2:ds.drop i=d::ds.drop (i+1):=by
   rw[zBI hlt]
   have:=zAB hlt
   rw[ed]at this;cases this;rfl
  rw[ed2]at hpost;obtain⟨ρ1,k,e1,e2,e3⟩:=aCu hpost;have hgx:=hgo _ _ _ _ (hg (τ1++τ) x d _ H3 _ _ (λ σ4 H4=>H4=H3/\RR K {G with E:=λ _ _ _=>False} (τ1++τ) ρ1 σ4 H3 (λ p=>if p=l then(2,0)else(0,0))) ρ1 R2 rx e1 λ σ4 R4=>⟨rfl,R4⟩);refine hgm _ _ _ _ _ (λ σ4 H4 ⟨⟨eH,R4⟩,hlen4,hag4⟩=>?_) hgx;subst eH;refine ht (τ1++τ) σ4 H4 ρ1 _ _ R4 ?_;rw[e2];intro H5 s5;rcases e3 with ⟨rfl,ys,zs,e3,e4,rfl⟩|⟨rfl,e4⟩
  ·rw[if_pos rfl]
   obtain⟨hsh,ds2,f1,f2⟩:=aIq e3;refine⟨λ k hk2 v e=>?_,?_⟩
   ·rw[hag4 k (hk k hk2).1]at e
    rcases hsk k hk2 with z|z<;>rw[z]at e<;>cases e
   refine hi2 (τ1++τ) σ4 H5 ρ1 _ _ (R4.up s5) ?_;rw[f1];intro J2 H6 lab6 τ6 s6 hlab6 R6 jl6;have hl6:H6 l=some (.dK kvs):=s6 _ _ (s5 _ _ hD);have lab6l:¬(lab6 l).1<=1:=by rw[hlab6 l _ (s5 _ _ hD)];exact labl
   refine⟨λ j n2 H7=>∃(kvs2:List (Key×V)) (pre2:List D) (qp2:List (Int×D)),n2=ds2.length-j/\j<=ds2.length/\H7 l=some (.dK kvs2)/\kvs2.length<=(pre++pre2).length/\lH (pre++pre2)=some qp2/\Rps K (λ p=>H p=none/\p≠l) H7 (kvs2.map (·.2)) ((eV [] qp2).map (·.2))/\(kvs2.map (·.1)=(eV [] qp2).map λ p=>(zCN p.1:Key))/\
    RR K {G with E:=λ _ _ _=>False} (τ6++(τ1++τ)) ρ1 σ4 H7 lab6/\RR K {G with E:=λ _ _ _=>False} (τ1++τ) (stE js (VL.shE ρ)) (stV js σ) H7 (λ p=>if p=l then(2,0)else(0,0))/\aY H H7/\
    ∃post2,lcL ρ1 fg2 ft2 (pairE fk fv) (ds2.drop j)= .ok post2/\ys=pre2++post2,
    ⟨ds2.length,kvs,[],qp,by lia,by lia,hl6,by rw[zAi];exact hei,by rw[zAi];exact hqp,rv.up (s5.trans s6),rk,R6,R2.up (s5.trans s6),(s2.trans s5).trans s6,ys,f2,rfl⟩,?_⟩
   rintro j n2 H7 ⟨kvs2,pre2,qp2,rfl,hj,hD7,hei2,hqp2,rv2,rk2,R7,Rb7,s7,post2,hpost2,eys⟩;have jj7:=jl6 _ H7 λ q hq=>R7.tm q (zAX _ hq)
   by_cases hlt2:j<ds2.length
   ·obtain⟨go2,yl2⟩:=(jj7 j).2 hlt2
    refine .inr ⟨go2,λ x2 H8 hy2=>?_⟩;obtain⟨s8,d2,ed8,rx2⟩:=yl2 x2 H8 hy2;replace R7:=R7.up s8;replace Rb7:=Rb7.up s8;replace hD7:=s8 _ _ hD7;replace s7:=s7.trans s8;replace rv2:=rv2.up s8;have ed9:ds2.drop j=d2::ds2.drop (j+1):=by
     rw[zBI hlt2]
     have:=zAB hlt2
     rw[ed8]at this;cases this;rfl
    rw[ed9]at hpost2;obtain⟨ρ2,k2,q1,q2,q3⟩:=uG hpost2;refine hg2 (τ6++(τ1++τ)) x2 d2 _ H8 _ _ _ ρ2 R7 rx2 q1 λ σ9 R9=>?_
    refine ht2 (τ6++(τ1++τ)) σ9 H8 ρ2 _ _ R9 ?_;rw[q2];intro H9 s9;rcases q3 with ⟨rfl,y,ys2,q3,q4,rfl⟩|⟨rfl,q4⟩
    ·rw[if_pos rfl]
     obtain⟨kd,vd,e5,e6,rfl⟩:=aCn q3;have eo:out=(pre++pre2)++(D.tup [kd,vd]::(ys2++zs)):=by rw[eout,eys];simp
     obtain⟨p,z3⟩:∃(p:Int×D),D.tup [kd,vd]= .tup [.int p.1,p.2]:=by
      rw[eo]at hqs;obtain⟨p1,p2,_,z2,_⟩:=yP hqs;obtain⟨p,k3,a1,a2,_⟩:=tW z2;exact⟨p,a1⟩
     injection z3 with z3
     injection z3 with z5 z6
     injection z6 with z6
     subst z5 z6;refine hkk (τ6++(τ1++τ)) σ9 H9 ρ2 _ _ (R9.up s9) ?_;rw[e5];intro v Ha sa ra;refine hvv (τ6++(τ1++τ)) σ9 Ha ρ2 _ _ ((R9.up s9).up sa) ?_;rw[e6];intro v2 Hb sb rb;have ey:=ra.int_inv;subst ey;have hDb:Hb l=some (.dK kvs2):=((s9.trans sa).trans sb) _ _ hD7;have B:lw l Hb (upd Hb l (.dK (putK kvs2 (.inl p.1) v2))):=λ b o ne hb=>by rw[aj ne];exact hb
     obtain⟨z1,z2⟩:=aHk (i:=p.1) (A:=λ q=>H q=none/\q≠l) (rv2.up ((s9.trans sa).trans sb)) rk2 (rb.wk λ q o _ z=>by
      rcases z with z|z
      ·exact⟨((s7.trans s9).trans sa).free z,λ e=>by subst e;rw[(s9.trans sa) _ _ hD7]at z;cases z⟩
      ·cases z)
     have hsz:(pre++pre2).length<zAW:=by
      have h2:=congrArg zHo eo;rw[zA5,zAY]at h2;lia
     refine⟨p.1,kvs2,rfl,hDb,by lia,ds2.length-(j+1),by lia,putK kvs2 (.inl p.1) v2,pre2++[.tup [.int p.1,p.2]],qp2++[p],rfl,hlt2,bH,?_,?_,?_,?_,(R7.up ((s9.trans sa).trans sb)).butS hsh lab6l B hDb rfl h0l,(Rb7.up ((s9.trans sa).trans sb)).but_blk B hDb rfl h0l,λ b o hb=>B b o (λ z=>by subst z;rw[hHl]at hb;cases hb) ((((s7.trans s9).trans sa).trans sb) b o hb),ys2,q4,by rw[eys];simp⟩
     ·have:=qJ kvs2 (.inl p.1) v2
      rw[<-zBT,zA5];simp only[zAY,zBz];lia
     ·rw[<-zBT]
      exact vC p hqp2
     ·rw[o6]
      exact z1.but B hDb rfl λ z=>z.2 rfl
     ·rw[o6]
      exact z2
    ·rw[if_neg zA3]
     exact⟨ds2.length-(j+1),by lia,kvs2,pre2,qp2,rfl,hlt2,s9 _ _ hD7,hei2,hqp2,rv2.up s9,rk2,R7.up s9,Rb7.up s9,s7.trans s9,post2,q4,eys⟩
   ·have ej:j=ds2.length:=by lia
    subst ej;rw[zBo]at hpost2;cases hpost2;rw[zAi]at eys;subst eys;exact .inl ⟨(jj7 _).1 (zAS _),ds.length-(i+1),by lia,kvs2,pre++ys,qp2,rfl,hlt,hD7,hei2,hqp2,rv2,rk2,Rb7,s7,zs,e4,by rw[eout];simp⟩
  ·rw[if_neg zA3]
   exact⟨ds.length-(i+1),by lia,kvs,pre,qp,rfl,hlt,s5 _ _ hD,hei,hqp,rv.up s5,rk,R2.up s5,s2.trans s5,post,e4,eout⟩
 ·have ei:i=ds.length:=by lia
  subst ei;rw[zBo]at hpost;cases hpost;rw[zAi]at eout;subst eout;rw[hqs]at hqp;cases hqp;exact .inl ⟨(jj _).1 (zAS _),w _ H2 s2 (aFs hD (.inl hHl) (rv.wk λ p o _ z=>⟨.inl z.1,z.2⟩) rk)⟩
end
section
variable{C:Ct}{pos:Pos}{kx vx tg iter tg2 iter2:Expr}{ifs ifs2:List Expr}{sc:Scope}{N:List Str}{js:List (Option Nat)}{ks ks2:List Nat}{fi fi2:En->Rs (List D)}{fg fg2:D->En->Rs En}{ft ft2:En->Rs Bool}{fk fv:En->Rs D}
theorem aOE(hi:SI C tg iter fi)(hg:SG (C.blk sc N) tg ks fg)(ht:aCQ (C.blk sc N) ifs ft)(hi2:SI (C.blk sc N) tg2 iter2 fi2)(hg2:SG (C.blk sc N) tg2 ks2 fg2)(ht2:aCQ (C.blk sc N) ifs2 ft2)(hkx:SE (C.blk sc N) (some []) kx fk)(hvx:SE (C.blk sc N) (some []) vx fv)(hk:∀k∈ks2,k∉ks/\(js[k]?).join=none:=by decide)(hs:∀i x,zAw iter (C.X i).env x=pure x:=by intro _ _;rfl)(hs2:∀(i:(C.blk sc N).ι) x,zAw iter2 ((C.blk sc N).X i).env x=pure x:=by intro _ _;rfl)(hB:∀i,eU (C.X i) sc N (stV js) (ks++ks2):=by intro _;exact vW rfl rfl rfl rfl rfl rfl):
  SE C (some []) (.DictComp kx vx [⟨tg,iter,ifs,0⟩,⟨tg2,iter2,ifs2,0⟩] sc pos) (aEv fi js fg ft (inL fi2 fg2 ft2 (pairE fk fv))):=by
 obtain⟨wi,i1,i2⟩:=hi;obtain⟨g,g1,g2,g3,g4⟩:=hg;obtain⟨tt,t1,t2⟩:=ht;obtain⟨wi2,j1,j2⟩:=hi2;obtain⟨gg,h1,h2,h3,h4⟩:=hg2;obtain⟨tt2,u1,u2⟩:=ht2;obtain⟨tk,k1,k2⟩:=hkx;obtain⟨tv,v1,v2⟩:=hvx;have go1:mU g (ks++ks2):=λ v σ H Q q=>g4 _ _ _ _ _ (λ σ' H' ⟨a,b,c⟩=>⟨a,b,λ k hk=>c k λ z=>hk (zAX _ z)⟩) (g3 v σ H Q q)
 refine⟨_,λ i=>aID (pos:=pos) (hB i) (C.calm i) (i1 i) (λ c fp s₀ H₀=>g1 (i,c,fp,s₀,H₀)) go1 (λ c fp s₀ H₀=>t1 (i,c,fp,s₀,H₀)) (aHA kx vx tg iter tg2 iter2 ifs ifs2 sc pos) (tQ rfl (λ _ _ _ _=>rfl) λ _ _ _ _ _=>rfl) aJ3 ?_ rfl rfl (hs i),aMO i2 g2 g3 g4 hk t2 j2 h2 u2 k2 v2⟩;intro c fp s₀ H₀;exact aFW (C.calm i) (λ _ _ h=>h) (aGz kx vx tg iter tg2 iter2 ifs ifs2 sc pos) (tQ rfl (λ _ _ _ _=>rfl) λ _ _ _ _ _=>rfl) (j1 (i,c,fp,s₀,H₀)) (h1 (i,c,fp,s₀,H₀)) h3 (u1 (i,c,fp,s₀,H₀)) (aLh (X:=(C.X i).block sc c N fp s₀ H₀) (k1 (i,c,fp,s₀,H₀)) (v1 (i,c,fp,s₀,H₀))) (hs2 (i,c,fp,s₀,H₀))
end
def aBt(K:zAA)(x:Str)(Pt:Addr):Bool:=match zAd K zA4 x with
 |some (some (.ref f))=>(match K.lookup f with
  |some ⟨_,_,.func fd,_⟩=>(match fd.code with| .ref c=>zDh K c Pt|_=>false)
  |_=>false)&&(K.lookup Pt).isNone
 |_=>false
theorem aG5{K:zAA}{h:Heap}{mg:Str->Option Value}{fa Pt:Addr}{x:Str}(X:K.In h)(G:h.Ns zA4 mg)(hm:mg x=some (.ref fa))(e:aBt K x Pt=true)
  {o:Obj}{fd:zAc}(lk:K.lookup fa=some o)(hd:o.data= .func fd):K.lookup Pt=none/\∃c,fd.code= .ref c/\zDh K c Pt=true:=by
 unfold aBt at e;split at e
 ·rename_i f hf
  have e1:=(zAJ X G hf).symm.trans hm;cases e1;rw[zAK]at e;refine⟨by simpa using e.2,?_⟩;have e2:=e.1;rw[lk]at e2;split at e2
  ·rename_i fd' _ q
   have q2:=zAa q;rw[q2]at hd;have hd2:Data.func fd'=Data.func fd:=hd;cases hd2;split at e2
   ·rename_i c hc
    exact⟨c,hc,e2⟩
   ·cases e2
  ·cases e2
 ·cases e
theorem aKc{P:zA2}{w:World}{K:zAA}{h:Heap}{mg:Str->Option Value}{fa Pt:Addr}{fd:zAc}{k n:Nat}{x:Str}{N:List Str}{st:Stmt}{f:En->Ou}{F:List D->Rs D}(X:K.In h)(G:h.Ns zA4 mg)
  (hB:aBt K "law" Pt=true){ps:List Str}(e:Dnr K mg "law" st ps fa fd)(S:aX N [x] (aH st))
  (hbind:∀(kV doc pm:Value) (an:Option Addr) (cdv ct:Value) (s:zAF) (u:Value),zHt s (zBc "law" "law" (qg st) (eZ st) (aH st) .none kV doc pm an cdv ct) ⟨[u],[]⟩ [(x,u)])
  (body:∀(base:Heap) (c:Addr) (s:zAF) (H:Hp) (hr:gD k (zCX.deeper (zCo "law" (aH st) s.heap.objs.size fa (.ref c)))),wU (cxW P w K mg base N "law" (aH st) fa (.ref c) zCX s H Pt) Pt->List.Nodup N->
   SSs (ctW P w K mg base N "law" (aH st) fa (.ref c) zCX s H Pt k hr) (eZ st) f)
  (hF:F=dZ N.length f)(tru:∀ns:List Int,ns.length<=n->F [.scr ns]= .ok (.bl true)):aFx P w K mg fa Pt k n:=by
 obtain⟨oc,od,kV,doc,pm,an,cdv,ct,osl,e1,lk,hcd⟩:=e.F.ex;obtain⟨h1,c,h2,h3⟩:=aG5 X G e.m hB lk rfl;subst e1;obtain rfl:cdv= .ref c:=h2;exact⟨x,"law","law",_,_,_,_,kV,doc,pm,ct,oc,an,od,c,osl,N,h1,h3,lk,hcd,S,λ s u=>hbind kV doc pm an _ ct s u,λ a ns hl base s H hr Lx hO hS=>
  aI6 (body base c s H hr Lx S.nd) (by rw[<-hF];exact tru ns hl) (.cons (.scr (aMT hO hS)) .nil)⟩
section
variable{ρ:En}{i:Nat}{f g:En->Rs D}{fb gb:En->Rs Bool}{ga:En->Rs (List D)}{u v:En->Ou}{d e:D}
@[simp] theorem varD_ap:jA i ρ=match ρ[i]? with
 |some (.sh d)=>.ok d
 |some (.nw d)=>.ok d
 |some (.ow d)=>.ok d
 |some (.oz d)=>.ok d
 |some (.o2 l)=>.ok (.lst (l.map .lst))
 |_=>.st:=aR rfl
@[simp] theorem nj:aB i ρ=match ρ[i]? with
 |some (.sh d)=>.ok d
 |some (.nw d)=>.ok d
 |_=>.st:=aR rfl
@[simp] theorem varN_ap:fG i ρ=match ρ[i]? with
 |some (.nw d)=>.ok d
 |_=>.st:=aR rfl
@[simp] theorem varO_ap:pJ i ρ=match ρ[i]? with
 |some (.ow d)=>.ok d
 |some (.o2 l)=>.ok (.lst (l.map .lst))
 |_=>.st:=aR rfl
@[simp] theorem aD9:cD d ρ= .ok d:=aR rfl
@[simp] theorem mG:aF ρ= .ok []:=aR rfl
@[simp] theorem bO:aA f ga ρ=(f ρ).bd λ d=>(ga ρ).bd λ ds=>.ok (d::ds):=aR rfl
@[simp] theorem szl:zAW=16777216:=zBr
@[simp] theorem aBI:cM ga ρ=(ga ρ).bd λ ds=>if ds.length<=16777216 then .ok (.tup ds)else .st:=by unfold cM;rw[szl]
@[simp] theorem aF5:iz ga ρ=(ga ρ).bd λ ds=>if ds.length<=16777216 then .ok (.lst ds)else .st:=by unfold iz;rw[szl]
@[simp] theorem gk:okD (.ok d)= .ok d:=aR rfl
@[simp] theorem gj:op2 fd f g ρ=(f ρ).bd λ x=>(g ρ).bd λ y=>okD (fd x y):=aR rfl
@[simp] theorem aNG:op1 fd f ρ=(f ρ).bd λ x=>okD (fd x):=aR rfl
@[simp] theorem ik:opA fd ga ρ=(ga ρ).bd λ x=>okD (fd x):=aR rfl
@[simp] theorem eQ:aK F ga ρ=(ga ρ).bd F:=aR rfl
def aOe(d:D)(r:Rs D):Rs D:=match d with
 | .bl true=>r
 | .bl false=>.ok (.bl false)
 |_=>.st
@[simp] theorem aFw:aOe (.bl b) r=if b=true then r else .ok (.bl false):=by cases b<;>rfl
@[simp] theorem aCP:z7 f g ρ=(f ρ).bd λ d=>aOe d (g ρ):=aR rfl
@[simp] theorem notD_bl:aNH (.bl b)= .ok (.bl (!b)):=aR rfl
def chR(d:D)(r:Rs D):Rs D:=match d with
 | .bl true=>r
 | .bl false=>.ok (.bl false)
 |_=>.st
@[simp] theorem chR_bl:chR (.bl b) r=if b=true then r else .ok (.bl false):=by cases b<;>rfl
@[simp] theorem chD_ap:chD fd fd' f g h ρ=(f ρ).bd λ x=>(g ρ).bd λ y=>(okD (fd x y)).bd λ z=>chR z ((h ρ).bd λ w=>okD (fd' y w)):=aR rfl
@[simp] theorem aJe:aMD (.bl b)= .ok b:=aR rfl
@[simp] theorem zX:blD (.bl b)= .ok b:=aR rfl
@[simp] theorem aMB:tst f ρ=(f ρ).bd aMD:=aR rfl
@[simp] theorem pL:tsb f ρ=(f ρ).bd blD:=aR rfl
@[simp] theorem xR:wu fb gb ρ=(fb ρ).bd λ k=>if k=true then gb ρ else .ok false:=aR rfl
@[simp] theorem aIO:orT fb gb ρ=(fb ρ).bd λ k=>if k=true then .ok true else gb ρ:=aR rfl
@[simp] theorem aK2:iu fb ρ=(fb ρ).bd λ k=>.ok (!k):=aR rfl
@[simp] theorem aN:aQ u v ρ=(u ρ).sq v:=aR rfl
@[simp] theorem gU:retS f ρ=(f ρ).bo .rt:=aR rfl
@[simp] theorem qP:dW f ρ=(f ρ).bo λ _=>.nx ρ:=aR rfl
@[simp] theorem yt:ifS fb u v ρ=(fb ρ).bo λ k=>if k=true then u ρ else v ρ:=aR rfl
@[simp] theorem aFI:cJ i f ρ=(f ρ).bo λ d=>.nx (ρ.set i (.sh d)):=aR rfl
@[simp] theorem oG:lF i f ρ=(f ρ).bo λ d=>.nx (ρ.set i (.nw d)):=aR rfl
@[simp] theorem aJn:mW i f ρ=(f ρ).bo λ d=>.nx (ρ.set i (.ow d)):=aR rfl
@[simp] theorem yw:gnm i d ρ= .ok (ρ.set i (.sh d)):=aR rfl
@[simp] theorem gnil_nil:dh [] ρ= .ok ρ:=aR rfl
@[simp] theorem gcons_cons:aW a b (d::ds) ρ=(a d ρ).bd (b ds):=aR rfl
@[simp] theorem gtup_tup:dU n b (.tup ds) ρ=if ds.length=n then b ds ρ else .st:=aR rfl
def nxO(r:Rs En):Ou:=match r with
 | .ok ρ=>.nx ρ
 |_=>.st
@[simp] theorem nxO_ok:nxO (.ok ρ)= .nx ρ:=aR rfl
@[simp] theorem asgS_ap:aDc f a ρ=(f ρ).bo λ d=>nxO (a d ρ):=aR rfl
@[simp] theorem itD_tup:itD (.tup l)= .ok l:=aR rfl
@[simp] theorem itD_lst:itD (.lst l)= .ok l:=aR rfl
@[simp] theorem aKh:bK f ρ=(f ρ).bd itD:=aR rfl
@[simp] theorem fU:cz ga a u ρ=(ga ρ).bo λ ds=>forL a u ds ρ:=aR rfl
def Ou.tn(o:Ou)(k:En->Ou):Ou:=match o with
 | .nx ρ2=>k ρ2
 | .ct ρ2=>k ρ2
 | .bk ρ2=>.nx ρ2
 |o=>o
@[simp] theorem rD:(Ou.nx ρ).tn k=k ρ:=aR rfl
@[simp] theorem aL2:(Ou.rt d).tn k= .rt d:=aR rfl
def okE(r:Rs En)(k:En->Ou):Ou:=match r with
 | .ok ρ=>k ρ
 |_=>.st
@[simp] theorem oX:okE (.ok ρ) k=k ρ:=aR rfl
theorem eG:forL a u (d::ds) ρ=okE (a d ρ) λ ρ1=>(u ρ1).tn (forL a u ds):=by
 unfold forL;cases a d ρ with
 |ok ρ1=>simp only[oX];cases u ρ1<;>rfl
 |ex c=>rfl
 |st=>rfl
@[simp] theorem immD_ap:bC f ρ=(f ρ).bd yx:=aR rfl
@[simp] theorem rngA_ap:du r ga ρ=(ga ρ).bd r:=aR rfl
@[simp] theorem raiseS_ap:vB x ga ρ=(ga ρ).bo λ ds=>if ds.length<=16777216 then .ex x else .st:=by unfold vB;rw[szl]
@[simp] theorem aJb:cU ρ= .ok true:=aR rfl
end
section
variable{d e:D}{i j:Int}{l m:List D}
theorem aLB(h:imm d=true):yx d= .ok d:=by unfold yx;rw[if_pos h]
@[simp] theorem gImm_int:yx (.int i)= .ok (.int i):=aR rfl
@[simp] theorem addD_int:bh (.int i) (.int j)= .ok (.int (i+j)):=aR rfl
@[simp] theorem aJ2:bh (.lst l) (.lst m)=if l.length+m.length<=16777216 then .ok (.lst (l++m))else .st:=by unfold bh;rw[szl]
@[simp] theorem z8:bh (.tup l) (.tup m)=if l.length+m.length<=16777216 then .ok (.tup (l++m))else .st:=by unfold bh;rw[szl]
@[simp] theorem subD_int:zm (.int i) (.int j)= .ok (.int (i-j)):=aR rfl
theorem aAn(h0:0<j)(h1:j<1073741824):vy (.int i) (.int j)= .ok (.int (i / j)):=by unfold vy i2;dsimp only;rw[if_pos (by simp[h0,h1])]
theorem qH(h0:0<j):vK (.int i) (.int j)= .ok (.int (i%j)):=by unfold vK i2;dsimp only;rw[if_pos (by simp[h0])]
theorem aBl(h0: -(2^64)<i)(h1:i<2^64):nG (.int i) (.int j)= .ok (.int (i*j)):=by unfold nG;dsimp only;rw[if_pos (by simp only[zDV,zAK,decide_eq_true_eq];exact .inl ⟨h0,h1⟩)]
theorem aIV(h0: -(2^64)<j)(h1:j<2^64):nG (.int i) (.int j)= .ok (.int (i*j)):=by unfold nG;dsimp only;rw[if_pos (by simp only[zDV,zAK,decide_eq_true_eq];exact .inr ⟨h0,h1⟩)]
@[simp] theorem aIU:sW (.int i)= .ok (.int (-i)):=aR rfl
@[simp] theorem aK9:ltD (.int i) (.int j)= .ok (.bl (decide (i<j))):=aR rfl
@[simp] theorem leD_int:leD (.int i) (.int j)= .ok (.bl (decide (i<=j))):=aR rfl
@[simp] theorem gtD_int:gtD (.int i) (.int j)= .ok (.bl (decide (j<i))):=aR rfl
@[simp] theorem geD_int:geD (.int i) (.int j)= .ok (.bl (decide (j<=i))):=aR rfl
theorem aK8(ns ms:List Int):ltD (.tup (ns.map .int)) (.tup (ms.map .int))= .ok (.bl (HT.lexLt ns ms)):=by
 unfold ltD ltT i2;simp only[fW]
@[simp] theorem lenD_tup:bu [.tup l]= .ok (.int l.length):=aR rfl
@[simp] theorem lenD_lst:bu [.lst l]= .ok (.int l.length):=aR rfl
@[simp] theorem lenD_scr:bu [.scr x]= .ok (.int x.length):=aR rfl
@[simp] theorem tupleD_lst:cu [.lst l]= .ok (.tup l):=aR rfl
@[simp] theorem mmD_int:mmD f [.int i,.int j]= .ok (.int (f i j)):=aR rfl
@[simp] theorem aFf:ixD (.tup l) (.int i)=atD l i:=aR rfl
@[simp] theorem ixD_lst:ixD (.lst l) (.int i)=atD l i:=aR rfl
@[simp] theorem ixD_scr:ixD (.scr x) (.int i)=atD (x.map .int) i:=aR rfl
theorem gY{k:Nat}(h:l[k]? =some d):atD l (k:Int)= .ok d:=by
 have hk:=(zAH.mp h).1;unfold atD atI ixN;rw[if_pos (by omega),if_pos (by omega)];simp[h]
theorem zZ(h0:0<=i)(h1:i<l.length):∃d,atD l i= .ok d/\d∈l/\l[i.toNat]? =some d:=by
 have hk:i.toNat<l.length:=by omega
 have e:=zAB hk;refine⟨_,?_,zBR hk,e⟩
 have:=gY e
 rwa [zCL h0]at this
@[simp] theorem aOd{r:List D}:atD (d::r) 0= .ok d:=gY (k:=0) rfl
@[simp] theorem aOc{r:List D}:atD (d::e::r) 1= .ok e:=gY (k:=1) rfl
@[simp] theorem aLE:eqR n (.int i) (.int j)= .ok (.bl (if n then !(i==j)else i==j)):=aR rfl
@[simp] theorem aN5:eqR n (.bl a) (.bl b)= .ok (.bl (if n then !(a==b)else a==b)):=aR rfl
def knd:D->Bool
 | .set _=>false
 | .scr _=>false
 | .fn _=>false
 |_=>true
theorem aBv(hT:T∈["bool","int","str","list","tuple","dict"])(h:knd d=true):jD T d= .ok (.bl (aKj (tyD d) T)):=by
 have ht:tyD d∈["NoneType","bool","int","str","list","tuple","dict"]:=by cases d<;>simp_all [tyD,knd]
 unfold jD rH;cases e:aKj (tyD d) T<;>simp[ht,hT]
def aNW:D->Bool
 | .int _=>true
 | .bl _=>true
 |_=>false
def aO2:D->Bool
 | .bl _=>true
 |_=>false
def oZ:D->Bool
 | .tup _=>true
 |_=>false
theorem aKi(h:knd d=true):jD "int" d= .ok (.bl (aNW d)):=by
 rw[aBv (by simp) h];cases d<;>first|rfl|(simp[knd]at h)
theorem aIn(h:knd d=true):jD "bool" d= .ok (.bl (aO2 d)):=by
 rw[aBv (by simp) h];cases d<;>first|rfl|(simp[knd]at h)
theorem kY(h:knd d=true):jD "tuple" d= .ok (.bl (oZ d)):=by
 rw[aBv (by simp) h];cases d<;>first|rfl|(simp[knd]at h)
@[simp] theorem isi_tuple_tup:jD "tuple" (.tup l)= .ok (.bl true):=kY rfl
end
@[simp] theorem bA:dZ n u ds=match u (az n ds)with
 | .nx _=>.ok .non
 | .rt d=>.ok d
 | .ex c=>.ex c
 |_=>.st:=aR rfl
theorem jW(h0: -(2^62)<=j)(h1:j<2^62):gO [.int j]= .ok (bT 0 j):=by unfold gO;dsimp only;rw[if_pos ⟨h0,h1⟩]
theorem aB2(h0: -(2^62)<=i)(h1:i<2^62)(h2: -(2^62)<=j)(h3:j<2^62):yH [.int i,.int j]= .ok (bT i j):=by unfold yH;dsimp only;rw[if_pos ⟨⟨h0,h1⟩,h2,h3⟩]
theorem aCy{lo hi:Int}:d∈bT lo hi↔∃k:Int,d= .int k/\lo<=k/\k<hi:=by
 unfold bT;rw[zAn];constructor
 ·rintro⟨n,hn,rfl⟩
  have:=zBO.mp hn
  exact⟨lo+n,rfl,by omega,by omega⟩
 ·rintro⟨k,rfl,h1,h2⟩
  exact⟨(k-lo).toNat,zBO.mpr (by omega),by congr 1;omega⟩
theorem nM(I:Nat->En->Prop)(hs:∀(i:Nat) d ρ,ds[i]? =some d->I i ρ->∃ρ2,okE (a d ρ) (λ ρ1=>u ρ1)= .nx ρ2/\I (i+1) ρ2)(h0:I 0 ρ):∃ρ',forL a u ds ρ= .nx ρ'/\I ds.length ρ':=by
 have go:∀(n:Nat) (ρ:En),n<=ds.length->I (ds.length-n) ρ->∃ρ',forL a u (ds.drop (ds.length-n)) ρ= .nx ρ'/\I ds.length ρ':=by
  intro n;induction n with
  |zero=>intro ρ _ h;exact⟨ρ,by rw[Nat.sub_zero,zBo];rfl,h⟩
  |succ n ih=>
   intro ρ hn h;have hlt:ds.length-(n+1)<ds.length:=by omega
   rw[zBI hlt,eG];obtain⟨ρ2,e,h2⟩:=hs _ _ ρ (zAB hlt) h;rw[show ds.length-(n+1)+1=ds.length-n by omega]at h2 ⊢;cases ea:a ds[ds.length-(n+1)] ρ with
   |ok ρ1=>
    rw[ea]at e;simp only[oX]at e ⊢;rw[e,rD];exact ih ρ2 (by omega) h2
   |ex c=>rw[ea]at e;cases e
   |st=>rw[ea]at e;cases e
 have:=go ds.length ρ (zAS _) (by rw[zFU];exact h0)
 rwa [zFU,List.drop_zero]at this
end VL
namespace VL.My
open PySem L2
def wdN:Str->Option Str:=λ c=>((["NoWeb","NoPlace","NoWay","NoParting","TooMany","NoForest","NoPlan","NoOneWay","NoOrder","NoText","NoDeed","NoRow"]:List Str).zip (["web","place","way","parting","many","forest","plan","one way","order","text","deed","row"]:List Str)).lookup c
def jK:En->Ou:=
  (retS (z7 (op1 (jD "int") (aB 0)) (op1 aNH (op1 (jD "bool") (aB 0)))))
def lr:List D->Rs D:=dZ 1 jK
def fZ:En->Ou:=
  (aQ (cz (du yH (aA (cD (.int 1)) (aA (opA bu (aA (aB 0) aF)) aF))) (gnm 1)
   (ifS (iu (tsb (op2 ltD (op2 ixD (aB 0) (op2 zm (aB 1) (cD (.int 1)))) (op2 ixD (aB 0) (aB 1)))))
    (retS (cD (.bl false)))
    Ou.nx))
  (retS (cD (.bl true))))
def eX:List D->Rs D:=dZ 2 fZ
def iJ:En->Ou:=
  (retS (op2 (eqR false) (opA v9 (aA (aI4 (bK (aB 1)) [none,none] (gnm 0) cU (inL (bK (aB 0)) (gnm 1) cU (bC (aB 1)))) aF)) (lrD (aB 0))))
def iR:List D->Rs D:=dZ 2 iJ
def jN:En->Ou:=
  (aQ (aDc (aB 0) (dU 2 (aW (gnm 1) (aW (gnm 2) dh))))
  (aQ (llS 3 (du gO (aA (aB 1) aF)) [none] (gnm 0))
  (aQ (cz (bK (aB 2)) (dU 2 (aW (gnm 4) (aW (gnm 5) dh)))
   (aQ (jm 3 (aB 4) (bC (aB 5)))
   (jm 3 (aB 5) (bC (aB 4)))))
  (retS (pJ 3)))))
def fD:List D->Rs D:=dZ 6 jN
def iD:En->Ou:=
  (aQ (mW 2 (iz (aA (bC (aB 1)) aF)))
  (aQ (cJ 3 (cD (.int 0)))
  (aQ (uh (tsb (op2 ltD (aB 3) (opA bu (aA (jA 2) aF))))
   (aQ (lF 4 (bC (op2 ixD (jA 2) (aB 3))))
   (aQ (cz (bK (op2 ixD (aB 0) (fG 4))) (gnm 5)
    (ifS (tsb (op2 (inR true) (aB 5) (jA 2)))
     (qT 2 (bC (aB 5)))
     Ou.nx))
   (aLO (i2 (λ _ _=>true) λ a b=>.int (a+b)) 3 (cD (.int 1))))))
  (retS (opA cu (aA (opA v9 (aA (jA 2) aF)) aF))))))
def iQ:List D->Rs D:=dZ 6 iD
def iI:En->Ou:=
  (aQ (cJ 2 (aEv (bK (aB 1)) [none,none] (gnm 0) cU (inL (bK (cM (aA (op2 ixD (aB 0) (cD (.int 0))) (aA (op2 ixD (aB 0) (op1 sW (cD (.int 1)))) aF)))) (gnm 1) cU (pairE (bC (aB 1)) (cD (.bl true))))))
  (retS (opA (ww λ bs=>bs.all id) (aA (lcD (bK (aB 0)) [none,some 2] (gnm 0) cU (op2 (rA false) (aB 0) (aB 1))) aF))))
def jc:List D->Rs D:=dZ 3 iI
def dj:En->Ou:=
  (aQ (ifS (tsb (op2 ltD (aB 1) (opA bu (aA (aB 0) aF))))
   (retS (bC (op2 ixD (aB 0) (aB 1))))
   Ou.nx)
  (retS (cD (.int 0))))
def dm:List D->Rs D:=dZ 2 dj
def fY:En->Ou:=
  (aQ (ifS (tsb (op2 geD (aB 0) (op2 aM4 (cD (.int 10)) (cD (.int 18)))))
   (aQ (cJ 3 (aB 0))
   (aQ (cz (du gO (aA (aB 1) aF)) (gnm 4)
    (aQ (ifS (tsb (op2 (eqR false) (aB 3) (cD (.int 0))))
     (retS (cD (.int 0)))
     Ou.nx)
    (cJ 3 (op2 vy (aB 3) (aB 2)))))
   (retS (op2 vK (aB 3) (aB 2)))))
   Ou.nx)
  (aQ (cJ 5 (op2 vK (op2 nG (op2 bh (op2 bh (op2 vK (aB 0) (cD (.int 1000000007))) (op2 nG (cD (.int 1009)) (aB 1))) (cD (.int 17))) (cD (.int 69621))) (cD (.int 2147483647))))
  (aQ (cJ 5 (op2 vK (op2 bh (op2 bh (op2 nG (aB 5) (aB 5)) (op2 nG (cD (.int 40503)) (aB 1))) (cD (.int 5))) (cD (.int 2147483629))))
  (retS (op2 vK (op2 vy (op2 vK (op2 nG (aB 5) (cD (.int 48271))) (cD (.int 2147483647))) (cD (.int 32))) (aB 2))))))
def ao:List D->Rs D:=dZ 6 fY
def jG:En->Ou:=
  (aQ (llS 1 (du gO (aA (op2 ixD (aB 0) (cD (.int 0))) aF)) [none] (gnm 0))
  (aQ (cz (bK (op2 ixD (aB 0) (cD (.int 1)))) (dU 2 (aW (gnm 2) (aW (gnm 3) dh)))
   (aQ (jm 1 (aB 2) (bC (aB 3)))
   (jm 1 (aB 3) (bC (aB 2)))))
  (retS (pJ 1))))
def jU:List D->Rs D:=dZ 4 jG
def iH:En->Ou:=
  (aQ (mW 1 (lrD (op2 ixD (aB 0) (cD (.int 0)))))
  (aQ (cz (du gO (aA (op2 ixD (aB 0) (cD (.int 0))) aF)) (gnm 2)
   (cz (bK (op2 ixD (aB 0) (cD (.int 1)))) (dU 2 (aW (gnm 3) (aW (gnm 4) dh)))
    (aQ (aEM 1 (aB 3) (opA (mmD λ i j=>if j<i then j else i) (aA (op2 ixD (jA 1) (aB 3)) (aA (op2 ixD (jA 1) (aB 4)) aF))))
    (aEM 1 (aB 4) (bC (op2 ixD (jA 1) (aB 3)))))))
  (retS (lcD (bK (opA gK (aA (aB 1) aF))) [none,some 0,some 1] (gnm 0) cU (opA cu (aA (lcD (du gO (aA (op2 ixD (aB 1) (cD (.int 0))) aF)) [none,some 2,some 0] (gnm 0) (tsb (op2 (eqR false) (op2 ixD (aB 1) (aB 0)) (aB 2))) (bC (aB 0))) aF))))))
def jb:List D->Rs D:=dZ 5 iH
def jH:En->Ou:=
  (aQ (lF 2 (lcD (du gO (aA (op2 ixD (aB 0) (cD (.int 0))) aF)) [none,some 1] (gnm 0) (tsb (op2 (inR true) (aB 0) (aB 1))) (bC (aB 0))))
  (aQ (lF 3 (lcD (bK (op2 ixD (aB 0) (cD (.int 1)))) [none,some 2] (gnm 0) (wu (tsb (op2 (inR false) (op2 ixD (aB 0) (cD (.int 0))) (aB 1))) (tsb (op2 (inR false) (op2 ixD (aB 0) (cD (.int 1))) (aB 1)))) (bC (aB 0))))
  (retS (cM (aA (opA bu (aA (fG 2) aF)) (aA (opA cu (aA (lcD (bK (aB 3)) [none,none,some 2] (dU 2 (aW (gnm 0) (aW (gnm 1) dh))) cU (cM (aA (opL vR (aB 2) (aB 0)) (aA (opL vR (aB 2) (aB 1)) aF)))) aF)) aF))))))
def lZ:List D->Rs D:=dZ 4 jH
def jJ:En->Ou:=
  (aQ (cz (bK (aB 0)) (gnm 2)
   (ifS (tsb (op2 (eqR false) (lcD (bK (aB 1)) [none,some 2] (gnm 0) (orT (tsb (op2 (eqR false) (aB 1) (op2 ixD (aB 0) (cD (.int 0))))) (tsb (op2 (eqR false) (aB 1) (op2 ixD (aB 0) (op1 sW (cD (.int 1))))))) (bC (aB 0))) (iz aF)))
    (retS (cD (.bl false)))
    Ou.nx))
  (retS (cD (.bl true))))
def lq:List D->Rs D:=dZ 3 jJ
def lB:En->Ou:=
  (retS (z7 (aK lr (aA (aB 0) aF)) (chD leD leD (cD (.int 0)) (aB 0) (cD (.int 60)))))
def qm:List D->Rs D:=dZ 1 lB
def jL:En->Ou:=
  (retS (z7 (aK lr (aA (aB 1) aF)) (chD leD ltD (cD (.int 0)) (aB 1) (aB 0))))
def cG:List D->Rs D:=dZ 2 jL
def fK:En->Ou:=
  (aQ (mW 2 (iz aF))
  (aQ (mW 3 (cD (.set [])))
  (aQ (cz (bK (aB 1)) (gnm 4)
   (ifS (tsb (op2 (inX true) (aB 4) (jA 3)))
    (aQ (cJ 5 (aK iQ (aA (aB 0) (aA (aB 4) aF))))
    (aQ (qT 2 (bC (aB 5)))
    (cz (bK (aB 5)) (gnm 6)
     (aLS 3 (bC (aB 6))))))
    Ou.nx))
  (retS (pJ 2)))))
def fL:List D->Rs D:=dZ 7 fK
def km:En->Ou:=
  (aQ (cJ 2 (aK ao (aA (aB 0) (aA (cD (.int 0)) (aA (op2 bh (aB 1) (cD (.int 1))) aF)))))
  (aQ (cJ 3 (op2 bh (cD (.int 1)) (aK ao (aA (aB 0) (aA (cD (.int 1)) (aA (cD (.int 6)) aF))))))
  (aQ (mW 4 (iz aF))
  (aQ (cz (du gO (aA (aB 2) aF)) (gnm 5)
   (cz (du yH (aA (op2 bh (aB 5) (cD (.int 1))) (aA (aB 2) aF))) (gnm 6)
    (ifS (tsb (op2 ltD (aK ao (aA (aB 0) (aA (op2 bh (op2 bh (cD (.int 3)) (op2 nG (cD (.int 61)) (aB 5))) (aB 6)) (aA (cD (.int 8)) aF)))) (aB 3)))
     (qT 4 (cM (aA (bC (aB 5)) (aA (bC (aB 6)) aF))))
     Ou.nx)))
  (retS (cM (aA (bC (aB 2)) (aA (opA cu (aA (pJ 4) aF)) aF))))))))
def jT:List D->Rs D:=dZ 7 km
def jF:En->Ou:=
  (aQ (cJ 3 (aK ao (aA (aB 0) (aA (aB 2) (aA (cD (.int 6)) aF)))))
  (aQ (mW 4 (iz aF))
  (aQ (cz (du gO (aA (aB 1) aF)) (gnm 5)
   (ifS (orT (tsb (op2 (eqR false) (aB 3) (cD (.int 0)))) (wu (tsb (op2 gtD (aB 3) (cD (.int 1)))) (tsb (op2 (eqR false) (aK ao (aA (aB 0) (aA (op2 bh (op2 bh (aB 2) (cD (.int 1))) (aB 5)) (aA (op2 bh (cD (.int 1)) (aB 3)) aF)))) (cD (.int 0))))))
    (qT 4 (bC (aB 5)))
    Ou.nx))
  (retS (opA cu (aA (pJ 4) aF))))))
def dC:List D->Rs D:=dZ 6 jF
def dI:En->Ou:=
  (aQ (lF 2 (iz (aA (cM (aA (bC (aB 1)) aF)) (aA (cM (aA (op1 sW (cD (.int 1))) aF)) (aA (cM (aA (cD (.int 0)) (aA (cD (.int 0)) aF))) (aA (cM (aA (cD (.int 1)) (aA (cD (.int 0)) aF))) (aA (cM (aA (cD (.bl true)) aF)) (aA (cM (aA (cD .non) aF)) (aA (iz aF) (aA (iz (aA (cD (.int 0)) aF)) (aA (cD .non) (aA (cD (.int 0)) (aA (cD (.str "0")) (aA (cM (aA (cM aF) aF)) (aA (cM (aA (cD (.int 0)) (aA (bC (aB 1)) aF))) (aA (cD (.dct [] [])) aF))))))))))))))))
  (retS (op2 ixD (fG 2) (aK ao (aA (aB 0) (aA (cD (.int 6000)) (aA (cD (.int 14)) aF)))))))
def dM:List D->Rs D:=dZ 3 dI
def iG:En->Ou:=
  (retS (op2 zm (opA bu (aA (aK jb (aA (aK lZ (aA (aB 0) (aA (aB 1) aF))) aF)) aF)) (opA bu (aA (lcD (bK (aB 1)) [none,some 2] (gnm 0) (tsb (op2 (inR true) (aB 0) (aB 1))) (bC (aB 0))) aF))))
def j9:List D->Rs D:=dZ 3 iG
def gA:En->Ou:=
  (aQ (lF 4 (lrD (op2 ixD (aB 2) (cD (.int 0)))))
  (aQ (mW 5 (iz aF))
  (aQ (uh (tsb (op2 (eqR true) (fG 4) (iz aF)))
   (aQ (cJ 6 (cM (aA (op2 ixD (fG 4) (aK ao (aA (aB 0) (aA (op2 bh (aB 1) (opA bu (aA (fG 4) aF))) (aA (opA bu (aA (fG 4) aF)) aF))))) aF)))
   (aQ (cJ 7 (aK ao (aA (aB 0) (aA (op2 bh (op2 bh (aB 1) (cD (.int 70))) (opA bu (aA (fG 4) aF))) (aA (op2 bh (op2 ixD (aB 2) (cD (.int 0))) (cD (.int 1))) aF)))))
   (aQ (cz (du gO (aA (aB 7) aF)) (gnm 8)
    (aQ (lF 9 (lcD (bK (op2 ixD (aB 3) (op2 ixD (aB 6) (op1 sW (cD (.int 1)))))) [none,some 4,some 6] (gnm 0) (wu (tsb (op2 (inR false) (aB 0) (aB 1))) (tsb (op2 (inR true) (aB 0) (aB 2)))) (bC (aB 0))))
    (ifS (tsb (op2 (eqR true) (fG 9) (iz aF)))
     (cJ 6 (op2 bh (aB 6) (cM (aA (op2 ixD (fG 9) (aK ao (aA (aB 0) (aA (op2 bh (op2 bh (aB 1) (cD (.int 140))) (aB 8)) (aA (opA bu (aA (fG 9) aF)) aF))))) aF))))
     Ou.nx)))
   (aQ (lF 4 (lcD (bK (aB 4)) [none,some 6] (gnm 0) (tsb (op2 (inR true) (aB 0) (aB 1))) (bC (aB 0))))
   (qT 5 (bC (aB 6))))))))
  (retS (opA cu (aA (pJ 5) aF))))))
def fC:List D->Rs D:=dZ 10 gA
def lA:En->Ou:=
  (aQ (ifS (orT (iu (tst (op1 (jD "tuple") (aB 1)))) (tsb (op2 (eqR true) (opA bu (aA (aB 1) aF)) (cD (.int 2)))))
   (retS (cD (.bl false)))
   Ou.nx)
  (retS (z7 (aK cG (aA (aB 0) (aA (op2 ixD (aB 1) (cD (.int 0))) aF))) (z7 (aK cG (aA (aB 0) (aA (op2 ixD (aB 1) (cD (.int 1))) aF))) (op2 (eqR true) (op2 ixD (aB 1) (cD (.int 0))) (op2 ixD (aB 1) (cD (.int 1))))))))
def n6:List D->Rs D:=dZ 2 lA
def dX:En->Ou:=
  (aQ (ifS (iu (tst (op1 (jD "tuple") (aB 1))))
   (retS (cD (.bl false)))
   Ou.nx)
  (aQ (cz (bK (aB 1)) (gnm 2)
   (ifS (iu (tst (aK cG (aA (aB 0) (aA (aB 2) aF)))))
    (retS (cD (.bl false)))
    Ou.nx))
  (retS (aK eX (aA (aB 1) aF)))))
def gF:List D->Rs D:=dZ 3 dX
def gC:En->Ou:=
  (aQ (ifS (orT (iu (tst (op1 (jD "tuple") (aB 1)))) (tsb (op2 (eqR false) (opA bu (aA (aB 1) aF)) (cD (.int 0)))))
   (retS (cD (.bl false)))
   Ou.nx)
  (aQ (cz (bK (aB 1)) (gnm 2)
   (ifS (iu (tst (aK cG (aA (opA bu (aA (aB 0) aF)) (aA (aB 2) aF)))))
    (retS (cD (.bl false)))
    Ou.nx))
  (aQ (ifS (tsb (op2 (eqR true) (opA aAH (aA (opA zq (aA (aB 1) aF)) aF)) (opA bu (aA (aB 1) aF))))
   (retS (cD (.bl false)))
   Ou.nx)
  (aQ (cz (du yH (aA (cD (.int 1)) (aA (opA bu (aA (aB 1) aF)) aF))) (gnm 3)
   (ifS (tsb (op2 (inR true) (op2 ixD (aB 1) (aB 3)) (op2 ixD (aB 0) (op2 ixD (aB 1) (op2 zm (aB 3) (cD (.int 1)))))))
    (retS (cD (.bl false)))
    Ou.nx))
  (retS (cD (.bl true)))))))
def cQ:List D->Rs D:=dZ 4 gC
def bf:En->Ou:=
  (aQ (ifS (iu (tst (op1 (jD "tuple") (aB 1))))
   (retS (cD (.bl false)))
   Ou.nx)
  (aQ (cz (bK (aB 1)) (gnm 2)
   (ifS (iu (tst (aK n6 (aA (aB 0) (aA (aB 2) aF)))))
    (retS (cD (.bl false)))
    Ou.nx))
  (retS (aK eX (aA (aB 1) aF)))))
def bx:List D->Rs D:=dZ 3 bf
def eO:En->Ou:=
  (ifS (iu (tst (aK gF (aA (aB 0) (aA (aB 1) aF)))))
   (vB "NoPlace" (aA (cD (.str "these are no places of the web")) aF))
   Ou.nx)
def bL:List D->Rs D:=dZ 2 eO
def jM:En->Ou:=
  (retS (z7 (aK bx (aA (aB 0) (aA (aB 1) aF))) (opA (ww λ bs=>bs.all id) (aA (lcD (bK (aB 1)) [none,none] (dU 2 (aW (gnm 0) (aW (gnm 1) dh))) cU (op2 ltD (aB 0) (aB 1))) aF))))
def pB:List D->Rs D:=dZ 2 jM
def nR:En->Ou:=
  (aQ (ifS (orT (iu (tst (op1 (jD "tuple") (aB 0)))) (tsb (op2 (eqR true) (opA bu (aA (aB 0) aF)) (cD (.int 2)))))
   (retS (cD (.bl false)))
   Ou.nx)
  (retS (z7 (aK qm (aA (op2 ixD (aB 0) (cD (.int 0))) aF)) (aK pB (aA (op2 ixD (aB 0) (cD (.int 0))) (aA (op2 ixD (aB 0) (cD (.int 1))) aF))))))
def ug:List D->Rs D:=dZ 1 nR
def iK:En->Ou:=
  (ifS (iu (tst (aK ug (aA (aB 0) aF))))
   (vB "NoWeb" (aA (cD (.str "this is no web")) aF))
   Ou.nx)
def bQ:List D->Rs D:=dZ 1 iK
def qi:En->Ou:=
  (aQ (dW (aK bQ (aA (aB 0) aF)))
  (retS (aK fL (aA (aK fD (aA (aB 0) aF)) (aA (lrD (op2 ixD (aB 0) (cD (.int 0)))) aF)))))
def ql:List D->Rs D:=dZ 1 qi
def kj:En->Ou:=
  (aQ (dW (aK bQ (aA (aB 0) aF)))
  (aQ (aDc (aB 0) (dU 2 (aW (gnm 2) (aW (gnm 3) dh))))
  (aQ (dW (aK bL (aA (aB 2) (aA (aB 1) aF))))
  (aQ (lF 4 (lcD (du gO (aA (aB 2) aF)) [none,some 1] (gnm 0) (tsb (op2 (inR true) (aB 0) (aB 1))) (bC (aB 0))))
  (aQ (cJ 5 (dcI (du aD1 (aA (aB 4) aF)) [none,none] (dU 2 (aW (gnm 0) (aW (gnm 1) dh))) cU (bC (aB 1)) (bC (aB 0))))
  (retS (cM (aA (opA bu (aA (fG 4) aF)) (aA (opA cu (aA (lcD (bK (aB 3)) [none,none,some 5] (dU 2 (aW (gnm 0) (aW (gnm 1) dh))) (wu (tsb (op2 (rA false) (aB 0) (aB 2))) (tsb (op2 (rA false) (aB 1) (aB 2)))) (cM (aA (bC (op2 aCD (aB 2) (aB 0))) (aA (bC (op2 aCD (aB 2) (aB 1))) aF)))) aF)) aF)))))))))
def lC:List D->Rs D:=dZ 6 kj
def gB:En->Ou:=
  (aQ (dW (aK bQ (aA (aB 0) aF)))
  (aQ (ifS (iu (tst (op1 (jD "tuple") (aB 1))))
   (retS (cD (.bl false)))
   Ou.nx)
  (aQ (cJ 2 (aK fD (aA (aB 0) aF)))
  (aQ (cz (bK (aB 1)) (gnm 3)
   (ifS (iu (tst (aK cQ (aA (aB 2) (aA (aB 3) aF)))))
    (retS (cD (.bl false)))
    Ou.nx))
  (retS (aK iR (aA (op2 ixD (aB 0) (cD (.int 0))) (aA (aB 1) aF))))))))
def jz:List D->Rs D:=dZ 4 gB
def dJ:En->Ou:=
  (ifS (iu (tst (aK jz (aA (aB 0) (aA (aB 1) aF)))))
   (vB "NoParting" (aA (cD (.str "this is no parting of the web")) aF))
   Ou.nx)
def fH:List D->Rs D:=dZ 2 dJ
def fB:En->Ou:=
  (aQ (dW (aK bQ (aA (aB 0) aF)))
  (aQ (dW (aK bL (aA (op2 ixD (aB 0) (cD (.int 0))) (aA (aB 1) aF))))
  (aQ (dW (aK bL (aA (op2 ixD (aB 0) (cD (.int 0))) (aA (aB 2) aF))))
  (retS (op2 zm (opA bu (aA (aK ql (aA (aK lC (aA (aB 0) (aA (aB 2) aF))) aF)) aF)) (opA bu (aA (lcD (bK (aB 2)) [none,some 1] (gnm 0) (tsb (op2 (inR true) (aB 0) (aB 1))) (bC (aB 0))) aF)))))))
def bJ:List D->Rs D:=dZ 3 fB
def qj:En->Ou:=
  (aQ (dW (aK bQ (aA (aB 0) aF)))
  (aQ (dW (aK bL (aA (op2 ixD (aB 0) (cD (.int 0))) (aA (aB 1) aF))))
  (aQ (dW (aK fH (aA (aB 0) (aA (aB 2) aF))))
  (retS (aK jc (aA (aB 1) (aA (aB 2) aF)))))))
def cP:List D->Rs D:=dZ 3 qj
def aBA:En->Ou:=
  (aQ (cz (du gO (aA (opA (mmD λ i j=>if j>i then j else i) (aA (cD (.int 1)) (aA (opA (mmD λ i j=>if j<i then j else i) (aA (opA bu (aA (aB 0) aF)) (aA (cD (.int 6)) aF))) aF))) aF)) (gnm 1)
   (aQ (cJ 2 (aK dm (aA (aB 0) (aA (aB 1) aF))))
   (aQ (cJ 3 (aK jT (aA (aB 2) (aA (cD (.int 10)) aF))))
   (aQ (cJ 4 (aK fC (aA (aB 2) (aA (cD (.int 7000)) (aA (aB 3) (aA (aK jU (aA (aB 3) aF)) aF))))))
   (aQ (lF 5 (opA gK (aA (op2 bh (lcD (bK (aB 4)) [none] (gnm 0) cU (bC (op2 ixD (aB 0) (cD (.int 0))))) (lcD (bK (aB 4)) [none] (gnm 0) cU (bC (op2 ixD (aB 0) (op1 sW (cD (.int 1))))))) aF)))
   (aQ (cJ 6 (aK dC (aA (aB 2) (aA (opA bu (aA (fG 5) aF)) (aA (cD (.int 5300)) aF)))))
   (aQ (cz (bK (iz (aA (aK dC (aA (aB 2) (aA (op2 ixD (aB 3) (cD (.int 0))) (aA (cD (.int 5000)) aF)))) (aA (opA cu (aA (lcD (bK (aB 6)) [none,some 5] (gnm 0) cU (bC (op2 ixD (aB 1) (aB 0)))) aF)) (aA (opA cu (aA (fG 5) aF)) (aA (cM aF) aF)))))) (gnm 7)
    (aQ (cJ 8 (aK cP (aA (aB 3) (aA (aB 7) (aA (aB 4) aF)))))
    (aQ (ifS (orT (iu (tst (op1 (jD "bool") (aB 8)))) (tsb (op2 (eqR true) (aB 8) (aK lq (aA (aB 7) (aA (aB 4) aF))))))
     (retS (cD (.bl false)))
     Ou.nx)
    (aQ (cJ 9 (aK dC (aA (aB 2) (aA (op2 ixD (aB 3) (cD (.int 0))) (aA (op2 bh (cD (.int 5100)) (opA bu (aA (aB 7) aF))) aF)))))
    (aQ (cJ 10 (aK bJ (aA (aB 3) (aA (aB 7) (aA (aB 9) aF)))))
    (ifS (orT (tst (op1 (jD "bool") (aB 10))) (tsb (op2 (eqR true) (aB 10) (aK j9 (aA (aB 3) (aA (aB 9) (aA (aB 7) aF)))))))
     (retS (cD (.bl false)))
     Ou.nx))))))
   (aQ (cJ 11 (aK dM (aA (aB 2) (aA (op2 ixD (aB 3) (cD (.int 0))) aF))))
   (aQ (ifS (tsb (op2 (eqR true) (lu wdN "told" (aK cP (aA (aB 3) (aA (aB 11) (aA (cD .non) aF))))) (cD (.str "place"))))
    (retS (cD (.bl false)))
    Ou.nx)
   (aQ (ifS (tsb (op2 (eqR true) (lu wdN "told" (aK cP (aA (cD .non) (aA (aB 11) (aA (cD (.int 0)) aF))))) (cD (.str "web"))))
    (retS (cD (.bl false)))
    Ou.nx)
   (aQ (ifS (tsb (op2 (eqR true) (lu wdN "told" (aK cP (aA (aB 3) (aA (cM aF) (aA (op2 bh (aB 4) (cM (aA (cM (aA (cD (.int 0)) aF)) aF))) aF))))) (cD (.str "parting"))))
    (retS (cD (.bl false)))
    Ou.nx)
   (aQ (ifS (tsb (op2 (eqR true) (lu wdN "told" (aK bJ (aA (aB 3) (aA (cM aF) (aA (aB 11) aF))))) (cD (.str "place"))))
    (retS (cD (.bl false)))
    Ou.nx)
   (aQ (ifS (tsb (op2 (eqR true) (lu wdN "told" (aK bJ (aA (aB 3) (aA (aB 11) (aA (cM aF) aF))))) (cD (.str "place"))))
    (retS (cD (.bl false)))
    Ou.nx)
   (ifS (tsb (op2 (eqR true) (lu wdN "told" (aK bJ (aA (cD (.int 0)) (aA (cM aF) (aA (cM aF) aF))))) (cD (.str "web"))))
    (retS (cD (.bl false)))
    Ou.nx))))))))))))))
  (retS (cD (.bl true))))
def aJ5:List D->Rs D:=dZ 12 aBA
theorem aAy{b:Int}(hb:0<b)(hb2:b<1073741824){c:Int}{k:Int}:∀(ds:List D) (x:Int) (s:Slot),(∀d∈ds,∃n:Int,d= .int n)->
  (∃y s',forL (gnm 4) (aQ (ifS (tsb (op2 (eqR false) (aB 3) (cD (.int 0)))) (retS (cD (.int 0))) Ou.nx) (cJ 3 (op2 vy (aB 3) (aB 2)))) ds [.sh (.int c),.sh (.int k),.sh (.int b),.sh (.int x),s,.no]= .nx [.sh (.int c),.sh (.int k),.sh (.int b),.sh (.int y),s',.no])\/
  forL (gnm 4) (aQ (ifS (tsb (op2 (eqR false) (aB 3) (cD (.int 0)))) (retS (cD (.int 0))) Ou.nx) (cJ 3 (op2 vy (aB 3) (aB 2)))) ds [.sh (.int c),.sh (.int k),.sh (.int b),.sh (.int x),s,.no]= .rt (.int 0)
 |[],x,s,_=>.inl ⟨x,s,rfl⟩
 |d::ds,x,s,h=>by
  have ih:=aAy hb hb2 (c:=c) (k:=k) ds (x / b) (.sh d) λ e he=>h e (zAL _ he)
  rw[eG];by_cases hx:x=0
  ·subst hx
   right;simp
  ·simp[hx,aAn hb hb2]
   exact ih
theorem aLF{c k b:Int}(hk0:0<=k)(hk1:k<2^40)(hb:0<b)(hb2:b<1073741824):∃r:Int,ao [.int c,.int k,.int b]= .ok (.int r)/\0<=r/\r<b:=by
 have hp:aM4 (.int 10) (.int 18)= .ok (.int 1000000000000000000):=rfl;by_cases hc:(1000000000000000000:Int)<=c
 ·have hr:=jW (j:=k) (by lia) (by lia)
  have hl:=aAy hb hb2 (c:=c) (k:=k) (bT 0 k) c .no λ d hd=>let⟨n,e,_⟩:=aCy.mp hd;⟨n,e⟩
  rcases hl with ⟨y,s',e⟩|e
  ·refine⟨y%b,?_,zD0 _ (by lia),zCw _ hb⟩
   simp[ao,fY,az,hp,hc,hr,e,qH hb]
  ·refine⟨0,?_,by lia,hb⟩
   simp[ao,fY,az,hp,hc,hr,e]
 ·have s1:∀z:Int,0<=z%2147483647/\z%2147483647<2147483647:=λ z=>⟨zD0 _ (by decide),zCw _ (by decide)⟩
  have s2:∀z:Int,0<=z%2147483629/\z%2147483629<2147483629:=λ z=>⟨zD0 _ (by decide),zCw _ (by decide)⟩
  have m1:∀z,nG (.int 1009) (.int z)= .ok (.int (1009*z)):=λ z=>aBl (by decide) (by decide)
  have m2:∀z,nG (.int z) (.int 69621)= .ok (.int (z*69621)):=λ z=>aIV (by decide) (by decide)
  have m3:∀z,nG (.int 40503) (.int z)= .ok (.int (40503*z)):=λ z=>aBl (by decide) (by decide)
  have m4:∀z,nG (.int z) (.int 48271)= .ok (.int (z*48271)):=λ z=>aIV (by decide) (by decide)
  have m5:∀z:Int,nG (.int (z%2147483647)) (.int (z%2147483647))= .ok (.int (z%2147483647*(z%2147483647))):=λ z=>aBl (by have:=s1 z;lia) (by have:=s1 z;lia)
  have d1:∀z,vK (.int z) (.int 1000000007)= .ok (.int (z%1000000007)):=λ z=>qH (by decide)
  have d2:∀z,vK (.int z) (.int 2147483647)= .ok (.int (z%2147483647)):=λ z=>qH (by decide)
  have d3:∀z,vK (.int z) (.int 2147483629)= .ok (.int (z%2147483629)):=λ z=>qH (by decide)
  have d4:∀z,vy (.int z) (.int 32)= .ok (.int (z / 32)):=λ z=>aAn (by decide) (by decide)
  have d5:∀z,vK (.int z) (.int b)= .ok (.int (z%b)):=λ z=>qH hb
  simp[ao,fY,az,hp,hc,m1,m2,m3,m4,m5,d1,d2,d3,d4,d5,-Int.emod_emod_of_dvd];exact⟨zD0 _ (by lia),zCw _ hb⟩
theorem jw(hk0:0<=k)(hk1:k<2^40)(hb:0<b)(hb2:b<1073741824):∃r:Nat,ao [.int c,.int k,.int b]= .ok (.int r)/\(r:Int)<b:=by
 obtain⟨r,e,h0,h1⟩:=aLF (c:=c) hk0 hk1 hb hb2;exact⟨r.toNat,by rw[zCL h0];exact e,by lia⟩
theorem aLL(h:0<=k):∃c:Int,dm [.scr ns,.int k]= .ok (.int c):=by
 by_cases hk:k<ns.length
 ·obtain⟨d,e,hm,_⟩:=zZ (l:=ns.map .int) (i:=k) h (by simpa using hk)
  obtain⟨c,_,rfl⟩:=zAn.mp hm;exact⟨c,by simp[dm,dj,az,hk,e]⟩
 ·exact⟨0,by simp[dm,dj,az,hk]⟩
mutual
def pln:D->Bool
 | .tup l=>sS l
 | .lst l=>sS l
 | .set _=>false
 | .scr _=>false
 | .fn _=>false
 |_=>true
def sS:List D->Bool
 |[]=>true
 |d::r=>pln d&&sS r
end
theorem jt(h:pln d=true):knd d=true:=by cases d<;>first|rfl|(simp[pln]at h)
theorem tY:∀{l:List D} {d:D},sS l=true->d∈l->pln d=true
 |x::r,d,h,hm=>by
  simp only[sS,zAK]at h;rcases zAN.mp hm with rfl|hm
  ·exact h.1
  ·exact tY h.2 hm
theorem xJ:∀{l:List D},(∀d∈l,pln d=true)->sS l=true
 |[],_=>rfl
 |x::r,h=>by
  simp only[sS,zAK];exact⟨h x (zAI ..),xJ λ d hd=>h d (zAL _ hd)⟩
def aDn:D->Bool
 | .int _=>true
 |_=>false
def aF3:D->Bool
 | .int i=>decide (0<=i)&&decide (i<=60)
 |_=>false
def bW(m:Int):D->Bool
 | .int i=>decide (0<=i)&&decide (i<m)
 |_=>false
theorem vp(h:knd d=true):lr [d]= .ok (.bl (aDn d)):=by
 simp[lr,jK,az,aKi h,aIn h];cases d<;>rfl
theorem aEi(h:knd d=true):qm [d]= .ok (.bl (aF3 d)):=by
 simp[qm,lB,az,vp h];cases d<;>simp[aDn,aF3]
 rename_i i;by_cases h0:0<=i<;>simp[h0]
theorem mK(h:knd d=true):cG [.int m,d]= .ok (.bl (bW m d)):=by
 simp[cG,jL,az,vp h];cases d<;>simp[aDn,bW]
 rename_i i;by_cases h0:0<=i<;>simp[h0]
def lJ(m:Int):D->Bool
 | .tup [.int a,.int b]=>decide (0<=a)&&decide (a<m)&&decide (0<=b)&&decide (b<m)&& !(a==b)
 |_=>false
theorem qZ(h:bW m d=true):∃i:Int,d= .int i/\0<=i/\i<m:=by
 cases d with
 |int i=>simp[bW]at h;exact⟨i,rfl,h.1,h.2⟩
 |_=>simp[bW]at h
theorem aCY(h:oZ d=true):∃l,d= .tup l:=by cases d<;>first|exact⟨_,rfl⟩|(cases h)
theorem aMA(h:l.length=2):∃x y,l=[x,y]:=by
 match l,h with
 |[x,y],_=>exact⟨x,y,rfl⟩
theorem aII(h:oZ d=false):lJ m d=false:=by cases d<;>first|rfl|(cases h)
theorem aGS(h:l.length≠2):lJ m (.tup l)=false:=by
 match l,h with
 |[],_=>rfl
 |[x],_=>cases x<;>rfl
 |[x,y],h=>exact absurd rfl h
 |x::y::z::r,_=>cases x<;>first|rfl|(cases y<;>rfl)
theorem aKP(h:bW m x=false):lJ m (.tup [x,y])=false:=by
 cases x with
 |int i=>
  cases y with
  |int j=>
   show((((decide (0<=i)&&decide (i<m))&&decide (0<=j))&&decide (j<m))&& !(i==j))=false
   rw[show(decide (0<=i)&&decide (i<m))=false from h];rfl
  |_=>rfl
 |_=>rfl
theorem aKO(h:bW m y=false):lJ m (.tup [.int i,y])=false:=by
 cases y with
 |int j=>
  show((((decide (0<=i)&&decide (i<m))&&decide (0<=j))&&decide (j<m))&& !(i==j))=false
  rw[zEV (decide (0<=i)&&decide (i<m)),show(decide (0<=j)&&decide (j<m))=false from h,zDF];rfl
 |_=>rfl
theorem aIH(h1:bW m (.int i)=true)(h2:bW m (.int j)=true):lJ m (.tup [.int i,.int j])= !(i==j):=by
 show((((decide (0<=i)&&decide (i<m))&&decide (0<=j))&&decide (j<m))&& !(i==j))= !(i==j)
 rw[zEV (decide (0<=i)&&decide (i<m)),show(decide (0<=j)&&decide (j<m))=true from h2,show(decide (0<=i)&&decide (i<m))=true from h1];rfl
def ipE:En->Ou:=ifS (orT (iu (tst (op1 (jD "tuple") (aB 1)))) (tsb (op2 (eqR true) (opA bu (aA (aB 1) aF)) (cD (.int 2))))) (retS (cD (.bl false))) Ou.nx
theorem aDT:lA=aQ ipE (retS (z7 (aK cG (aA (aB 0) (aA (op2 ixD (aB 1) (cD (.int 0))) aF))) (z7 (aK cG (aA (aB 0) (aA (op2 ixD (aB 1) (cD (.int 1))) aF))) (op2 (eqR true) (op2 ixD (aB 1) (cD (.int 0))) (op2 ixD (aB 1) (cD (.int 1))))))):=rfl
theorem aNY(hk:knd d=true)(h:oZ d=false):ipE [s,.sh d]= .rt (.bl false):=by simp[ipE,kY hk,h]
theorem aKl(h:l.length≠2):ipE [s,.sh (.tup l)]= .rt (.bl false):=by
 have:¬((l.length:Int)=2):=by omega
 simp[ipE,this]
theorem aKk:ipE [s,.sh (.tup [x,y])]= .nx [s,.sh (.tup [x,y])]:=by simp[ipE]
theorem aEh(h:pln d=true):n6 [.int m,d]= .ok (.bl (lJ m d)):=by
 have st:az 2 [.int m,d]=[.sh (.int m),.sh d]:=rfl;simp only[n6,aDT,bA,st];cases ht:oZ d with
 |false=>rw[aN,aNY (jt h) ht,aII ht];rfl
 |true=>
  obtain⟨l,rfl⟩:=aCY ht;by_cases hl:l.length=2
  ·obtain⟨x,y,rfl⟩:=aMA hl
   simp only[pln,sS,zAK]at h;have hx:=mK (m:=m) (jt h.1);have hy:=mK (m:=m) (jt h.2.1);have ex:aK cG (aA (aB 0) (aA (op2 ixD (aB 1) (cD (.int 0))) aF)) [.sh (.int m),.sh (.tup [x,y])]= .ok (.bl (bW m x)):=by simp[hx]
   have ey:aK cG (aA (aB 0) (aA (op2 ixD (aB 1) (cD (.int 1))) aF)) [.sh (.int m),.sh (.tup [x,y])]= .ok (.bl (bW m y)):=by simp[hy]
   rw[aN,aKk,bI,gU,aCP,ex,bD,aFw,aCP,ey,bD,aFw];cases c1:bW m x with
   |false=>rw[aKP c1];rfl
   |true=>
    obtain⟨i,rfl,_,_⟩:=qZ c1;cases c2:bW m y with
    |false=>rw[aKO c2];rfl
    |true=>
     obtain⟨j,rfl,_,_⟩:=qZ c2;rw[aIH c1 c2];rfl
  ·rw[aN,aKl hl,aGS hl];rfl
def pD(p:Int×Int):D:=.tup [.int p.1,.int p.2]
def ltP(p q:Int×Int):Bool:=HT.lexLt [p.1,p.2] [q.1,q.2]
def yI:List (Int×Int)->Bool
 |[]=>true
 |[_]=>true
 |p::q::r=>ltP p q&&yI (q::r)
theorem aNJ(p q:Int×Int):ltD (pD p) (pD q)= .ok (.bl (ltP p q)):=aK8 [p.1,p.2] [q.1,q.2]
theorem kZ:∀(ds:List D) (ok:Nat->Bool) (I:En->Prop) (ρ:En),I ρ->(∀(i:Nat) d ρ,ds[i]? =some d->I ρ->okE (a d ρ) u= .rt r/\ok i=false\/∃ρ',okE (a d ρ) u= .nx ρ'/\I ρ'/\ok i=true)->
  (forL a u ds ρ= .rt r/\∃i,i<ds.length/\ok i=false)\/(∃ρ',forL a u ds ρ= .nx ρ'/\I ρ'/\∀i,i<ds.length->ok i=true)
 |[],ok,I,ρ,h,_=>.inr ⟨ρ,rfl,h,λ i hi=>absurd hi (zEP _)⟩
 |d::ds,ok,I,ρ,h,hs=>by
  rw[eG];rcases hs 0 d ρ rfl h with ⟨e,o⟩|⟨ρ',e,h',o⟩
  ·left
   refine⟨?_,0,by simp,o⟩;cases ea:a d ρ with
   |ok ρ1=>rw[ea]at e;simp at e ⊢;rw[e];rfl
   |ex c=>rw[ea]at e;cases e
   |st=>rw[ea]at e;cases e
  ·have ih:=kZ ds (λ i=>ok (i+1)) I ρ' h' λ i d2 ρ2 e2 h2=>hs (i+1) d2 ρ2 (by simpa using e2) h2
   have e3:okE (a d ρ) (λ ρ1=>(u ρ1).tn (forL a u ds))=forL a u ds ρ':=by
    cases ea:a d ρ with
    |ok ρ1=>rw[ea]at e;simp at e ⊢;rw[e];rfl
    |ex c=>rw[ea]at e;cases e
    |st=>rw[ea]at e;cases e
   rw[e3];rcases ih with ⟨e4,i,hi,o4⟩|⟨ρ4,e4,h4,o4⟩
   ·exact .inl ⟨e4,i+1,by simpa using hi,o4⟩
   ·refine .inr ⟨ρ4,e4,h4,λ i hi=>?_⟩
    cases i with
    |zero=>exact o
    |succ i=>exact o4 i (by simpa using hi)
theorem j6{i:Nat}(h:(bT lo hi)[i]? =some d):d= .int (lo+i)/\lo+i<hi:=by
 unfold bT at h;rw[zAT]at h;by_cases hi2:i<(hi-lo).toNat
 ·rw[zE3 hi2]at h
  cases h;exact⟨rfl,by omega⟩
 ·rw[zEF (by simpa using hi2)]at h
  cases h
theorem gM:(bT lo hi).length=(hi-lo).toNat:=by unfold bT;simp
section
variable{α:Type}{f:α->D}{lt:α->α->Bool}
def qw(lt:α->α->Bool):List α->Bool
 |[]=>true
 |[_]=>true
 |p::q::r=>lt p q&&qw lt (q::r)
theorem nC:∀{ps:List α},qw lt ps=true↔∀(i:Nat) (p q:α),ps[i]? =some p->ps[i+1]? =some q->lt p q=true
 |[]=>by simp[qw]
 |[x]=>by
  simp only[qw,true_iff];intro i p q _ h2;simp at h2
 |x::y::r=>by
  have ih:=nC (ps:=y::r);unfold qw;rw[zAK,ih];constructor
  ·rintro⟨h1,h2⟩ i p q e1 e2
   cases i with
   |zero=>simp at e1 e2;subst e1 e2;exact h1
   |succ i=>exact h2 i p q (by simpa using e1) (by simpa using e2)
  ·intro h
   exact⟨h 0 x y rfl rfl,λ i p q e1 e2=>h (i+1) p q (by simpa using e1) (by simpa using e2)⟩
theorem vq(hlt:∀a b,ltD (f a) (f b)= .ok (.bl (lt a b)))(hl:ps.length<=100000):eX [.tup (ps.map f)]= .ok (.bl (qw lt ps)):=by
 have hr:=aB2 (i:=1) (j:=(ps.length:Int)) (by decide) (by decide) (by omega) (by omega);have hlen:(bT 1 (ps.length:Int)).length=ps.length-1:=by rw[gM];omega
 have L:=kZ (a:=gnm 1) (u:=ifS (iu (tsb (op2 ltD (op2 ixD (aB 0) (op2 zm (aB 1) (cD (.int 1)))) (op2 ixD (aB 0) (aB 1))))) (retS (cD (.bl false))) Ou.nx) (r:=.bl false)
  (bT 1 (ps.length:Int)) (λ i=>match ps[i]?,ps[i+1]? with|some p,some q=>lt p q|_,_=>true) (λ ρ=>∃s,ρ=[.sh (.tup (ps.map f)),s]) [.sh (.tup (ps.map f)),.no] ⟨_,rfl⟩ (by
   rintro i d ρ hd ⟨s,rfl⟩;obtain⟨rfl,h2⟩:=j6 hd;have e1:ps[i]? =some ps[i]:=zAB (by omega);have e2:ps[i+1]? =some ps[i+1]:=zAB (by omega);have a1:atD (ps.map f) (1+(i:Int)-1)= .ok (f ps[i]):=by
    rw[show(1+(i:Int)-1)=(i:Int)by omega];exact gY (by rw[zAT,e1];rfl)
   have a2:atD (ps.map f) (1+(i:Int))= .ok (f ps[i+1]):=by
    rw[show(1+(i:Int))=((i+1:Nat):Int)by omega];exact gY (by rw[zAT,e2];rfl)
   simp only[e1,e2];cases c:lt ps[i] ps[i+1]with
   |true=>right;exact⟨_,by simp[a1,a2,hlt,c];rfl,⟨_,rfl⟩,rfl⟩
   |false=>left;exact⟨by simp[a1,a2,hlt,c],rfl⟩)
 have st:az 2 [.tup (ps.map f)]=[.sh (.tup (ps.map f)),.no]:=rfl;rcases L with ⟨e,i,hi,o⟩|⟨ρ',e,⟨s,rfl⟩,o⟩
 ·have:qw lt ps=false:=by
   cases c:qw lt ps with
   |false=>rfl
   |true=>
    rw[hlen]at hi;have z:=nC.mp c i ps[i] ps[i+1] (zAB (by omega)) (zAB (by omega));rw[zAB (by omega),zAB (by omega)]at o;simp only at o;rw[z]at o;cases o
  rw[this];simp only[eX,fZ,bA,st];simp[hr,e]
 ·have:qw lt ps=true:=nC.mpr λ i p q e1 e2=>by
   have h2:=(zAH.mp e2).1
   have:=o i (by rw[hlen];omega)
   rw[e1,e2]at this;exact this
  rw[this];simp only[eX,fZ,bA,st];simp[hr,e]
end
theorem aEE:∀ps:List (Int×Int),yI ps=qw ltP ps
 |[]=>rfl
 |[_]=>rfl
 |p::q::r=>by unfold yI qw;rw[aEE (q::r)]
theorem aBw(hl:ps.length<=100000):eX [.tup (ps.map pD)]= .ok (.bl (yI ps)):=by
 rw[aEE];exact vq aNJ hl
def ltI(a b:Int):Bool:=decide (a<b)
theorem aDS(hl:ps.length<=100000):eX [.tup (ps.map .int)]= .ok (.bl (qw ltI ps)):=vq (λ a b=>by rw[aK9];rfl) hl
theorem aB3:yI ps=true↔∀(i:Nat) (p q:Int×Int),ps[i]? =some p->ps[i+1]? =some q->ltP p q=true:=by rw[aEE];exact nC
def aKF:D->Int×Int
 | .tup [.int a,.int b]=>(a,b)
 |_=>(0,0)
theorem aES(h:lJ m d=true):∃a b:Int,d= .tup [.int a,.int b]/\0<=a/\a<m/\0<=b/\b<m/\a≠b:=by
 unfold lJ at h;split at h
 ·rename_i a b
  simp at h;exact⟨a,b,rfl,h.1.1.1.1,h.1.1.1.2,h.1.1.2,h.1.2,h.2⟩
 ·cases h
theorem aLg:∀{ts:List D},ts.all (lJ m)=true->(ts.map aKF).map pD=ts
 |[],_=>rfl
 |t::ts,h=>by
  rw[zCr,zAK]at h;obtain⟨a,b,rfl,_⟩:=aES h.1;simp only[zAG];rw[aLg h.2];rfl
def rpB(m:Int):D->Bool
 | .tup ts=>ts.all (lJ m)&&yI (ts.map aKF)
 |_=>false
def lE:D->Bool
 | .tup l=>decide (l.length<=100000)
 |_=>true
theorem rB(h:pln d=true)(hs:lE d=true):bx [.int m,d]= .ok (.bl (rpB m d)):=by
 cases d with
 |tup ts=>
  have hp:sS ts=true:=by simpa[pln]using h
  have hl:ts.length<=100000:=by simpa[lE]using hs
  have L:=kZ (a:=gnm 2) (u:=ifS (iu (tst (aK n6 (aA (aB 0) (aA (aB 2) aF))))) (retS (cD (.bl false))) Ou.nx) (r:=.bl false)
   ts (λ i=>match ts[i]? with|some t=>lJ m t|none=>true) (λ ρ=>∃s,ρ=[.sh (.int m),.sh (.tup ts),s]) [.sh (.int m),.sh (.tup ts),.no] ⟨_,rfl⟩ (by
    rintro i d ρ hd ⟨s,rfl⟩;have e:=aEh (m:=m) (tY hp (zAo hd));simp only[hd];cases c:lJ m d with
    |true=>right;exact⟨_,by simp[e,c];rfl,⟨_,rfl⟩,rfl⟩
    |false=>left;exact⟨by simp[e,c],rfl⟩)
  have st:az 3 [.int m,.tup ts]=[.sh (.int m),.sh (.tup ts),.no]:=rfl;rcases L with ⟨e,i,hi,o⟩|⟨ρ',e,⟨s,rfl⟩,o⟩
  ·have:ts.all (lJ m)=false:=by
    rw[zEo];rw[zAB hi]at o;exact⟨ts[i],zBR hi,by simpa using o⟩
   simp only[bx,bf,bA,st];simp[e,rpB,this]
  ·have:ts.all (lJ m)=true:=by
    rw[zAj];intro t ht;obtain⟨i,hi,rfl⟩:=zCh ht
    have:=o i hi
    rw[zAB hi]at this;exact this
   have er:=aBw (ps:=ts.map aKF) (by rw[zAE];exact hl);rw[aLg this]at er;simp only[bx,bf,bA,st];simp[e,rpB,this,er]
 |_=>simp[bx,bf,az,kY (jt h),oZ,rpB]
structure Ow(n:Int)(ps:List (Int×Int)):Prop where
 n0:0<=n
 n1:n<=60
 len:ps.length<=3600
 pr:∀p∈ps,0<=p.1/\p.1<n/\0<=p.2/\p.2<n/\p.1≠p.2
 ris:yI ps=true
def owD(n:Int)(ps:List (Int×Int)):D:=.tup [.int n,.tup (ps.map pD)]
theorem Ow.rp(h:Ow n ps):rpB n (.tup (ps.map pD))=true:=by
 have e:(ps.map pD).map aKF=ps:=by rw[zAb];exact(zCG λ p _=>rfl).trans (zE4 ps)
 unfold rpB;dsimp only;rw[e,h.ris,zCp,zAj];intro d hd;obtain⟨p,hp,rfl⟩:=zAn.mp hd;obtain⟨a,b,c,d,e⟩:=h.pr p hp;simp[pD,lJ,a,b,c,d,e]
theorem aFS:∀ps:List (Int×Int),sS (ps.map pD)=true
 |[]=>rfl
 |p::ps=>by simp only[zAG,sS,aFS ps,zCp];rfl
theorem qQ:∀ns:List Int,cg (ns.map .int)=0/\bB (ns.map .int)=true
 |[]=>⟨rfl,rfl⟩
 |n::ns=>by
  obtain⟨h1,h2⟩:=qQ ns;simp[cg,iT,bB,aU,h1,h2]
theorem o5(neg:Bool)(y:Int)(ns:List Int):inR neg (.int y) (.lst (ns.map .int))= .ok (.bl (if neg then !decide (y∈ns)else decide (y∈ns))):=by
 obtain⟨h1,h2⟩:=qQ ns;have e:inD (.int y) (ns.map .int)=decide (y∈ns):=by
  unfold inD;rw[zCU];simp[zDN,eqD]
 unfold inR;dsimp only;rw[h1,h2,e];rfl
theorem aF9:∀(ds:List D),(∀d∈ds,∃ρ1,fg d ρ= .ok ρ1/\fe ρ1= .ok (g d))->lcL ρ fg cU fe ds= .ok (ds.map g)
 |[],_=>rfl
 |d::ds,h=>by
  obtain⟨ρ1,e1,e2⟩:=h d zAI;have ih:=aF9 ds λ e he=>h e (zAL _ he)
  unfold lcL;rw[e1,bD,aJb,bD,if_pos rfl,e2,bD,ih,bD];rfl
theorem aCL(f:α->Bool)(l:List α):boolsOf (l.map λ x=>D.bl (f x))=some (l.map f):=by
 have:=wQ (l.map f)
 rwa [zAb]at this
theorem aDe(f:α->Bool)(l:List α):ww (λ bs=>bs.all id) [.lst (l.map λ x=>D.bl (f x))]= .ok (.bl (l.all f)):=by
 unfold ww;dsimp only;rw[aCL];dsimp only;rw[zH8];rfl
theorem mJ:∀(l:List α),(∀x∈l,∃ρ1,fg (f x) ρ= .ok ρ1/\ft ρ1= .ok (t x)/\fe ρ1= .ok (g x))->lcL ρ fg ft fe (l.map f)= .ok ((l.filter t).map g)
 |[],_=>rfl
 |x::l,h=>by
  obtain⟨ρ1,e1,e2,e3⟩:=h x zAI;have ih:=mJ l λ y hy=>h y (zAL _ hy)
  rw[zAG];unfold lcL;rw[e1,bD,e2,bD,e3,bD,ih,bD,zDu];cases t x<;>rfl
theorem aLl{ρ:En}:∀(ps:List (Int×Int)),lcL [.no,.no] (dU 2 (aW (gnm 0) (aW (gnm 1) dh))) cU (op2 ltD (aB 0) (aB 1)) (ps.map pD)= .ok (ps.map λ p=>.bl (decide (p.1<p.2)))
 |[]=>rfl
 |p::ps=>by
  unfold lcL;simp[pD,aLl (ρ:=ρ) ps]
theorem aDd{n:Int}(h:Ow n ps)(low:∀p∈ps,p.1<p.2):pB [.int n,.tup (ps.map pD)]= .ok (.bl true):=by
 have hl:=h.len;have e:=rB (m:=n) (d:=.tup (ps.map pD)) (by simpa[pln]using aFS ps) (by simp[lE];lia);rw[h.rp]at e;have el:=aLl (ρ:=[]) ps;have ei:lcD (bK (aB 1)) [none,none] (dU 2 (aW (gnm 0) (aW (gnm 1) dh))) cU (op2 ltD (aB 0) (aB 1)) [.sh (.int n),.sh (.tup (ps.map pD))]= .ok (.lst (ps.map λ p=>.bl (decide (p.1<p.2)))):=by
  have hi:bK (aB 1) (shE [.sh (.int n),.sh (.tup (ps.map pD))])= .ok (ps.map pD):=by simp[shE,jo]
  unfold lcD;rw[hi,bD,if_pos (by rw[szl,zAE];lia)]
  show(match lcL [.no,.no] _ cU _ (ps.map pD)with| .ok l=>Rs.ok (D.lst l)|_=>Rs.st)=_
  rw[el]
 have ha:opA (ww λ bs=>bs.all id) (aA (lcD (bK (aB 1)) [none,none] (dU 2 (aW (gnm 0) (aW (gnm 1) dh))) cU (op2 ltD (aB 0) (aB 1))) aF) [.sh (.int n),.sh (.tup (ps.map pD))]= .ok (.bl true):=by
  rw[ik,bO,ei,bD,mG,bD,bD,aDe,gk];rw[zAj.mpr λ p hp=>decide_eq_true (low p hp)]
 have st:az 2 [.int n,.tup (ps.map pD)]=[.sh (.int n),.sh (.tup (ps.map pD))]:=rfl;have ec:aK bx (aA (aB 0) (aA (aB 1) aF)) [.sh (.int n),.sh (.tup (ps.map pD))]= .ok (.bl true):=by rw[eQ];exact e
 simp only[pB,jM,bA,st];rw[gU,aCP,ec,ha];rfl
theorem aGb(h:Ow n ps)(low:∀p∈ps,p.1<p.2):ug [owD n ps]= .ok (.bl true):=by
 have e1:=aEi (d:=.int n) rfl;have e2:=aDd h low;have e3:aF3 (.int n)=true:=by simp[aF3,h.n0,h.n1]
 rw[e3]at e1;simp[ug,nR,owD,az,e1,e2]
def mn(a b:Int):Int:=if b<a then b else a
def intOf:D->Int
 | .int i=>i
 |_=>0
theorem jh(h1:fi (shE ρ)= .ok ds)(h2:ds.length<16777216)(h3:lcL (stE js (shE ρ)) fg ft fe ds= .ok out):lcD fi js fg ft fe ρ= .ok (.lst out):=by
 unfold lcD;rw[h1,bD,if_pos (by rw[szl];exact h2),h3]
theorem qK{α:Type}{f g:α->D}(l:List α)(h:∀x∈l,∃ρ1,fg (f x) ρ= .ok ρ1/\fe ρ1= .ok (g x)):lcL ρ fg cU fe (l.map f)= .ok (l.map g):=by
 have:=mJ (ρ:=ρ) (fg:=fg) (ft:=cU) (fe:=fe) (f:=f) (g:=g) (t:=λ _=>true) l λ x hx=>by
  obtain⟨ρ1,h1,h2⟩:=h x hx;exact⟨ρ1,h1,rfl,h2⟩
 rwa [List.filter_eq_self.mpr λ _ _=>rfl]at this
theorem aNe{α:Type}{f:α->Bool}{l:List α}(h:fe ρ= .ok (.lst (l.map λ x=>.bl (f x)))):opA (ww λ bs=>bs.all id) (aA fe aF) ρ= .ok (.bl (l.all f)):=by
 rw[ik,bO,h,bD,mG,bD,bD,aDe,gk]
theorem aDV(neg:Bool)(y:Int)(ns:List Int):inR neg (.int y) (.tup (ns.map .int))= .ok (.bl (if neg then !decide (y∈ns)else decide (y∈ns))):=o5 neg y ns
def bY(ll:List (List D))(p:Int×Int):List (List D):=ll.set p.1.toNat (ll.getD p.1.toNat []++[.int p.2])
theorem nO:∀(ps:List (Int×Int)) (ll:List (List D)),(ps.foldl bY ll).length=ll.length
 |[],_=>rfl
 |p::ps,ll=>by rw[zBj,nO ps];unfold bY;rw[zBA]
def uF(ps:List (Int×Int))(i:Int):List Int:=(ps.filter λ p=>p.1==i).map (·.2)
theorem vU:∀(ps:List (Int×Int)) (ll:List (List D)) (i:Nat),(∀p∈ps,0<=p.1/\p.1<ll.length)->i<ll.length->(ps.foldl bY ll).getD i []=ll.getD i []++(uF ps i).map .int
 |[],ll,i,_,_=>by simp[uF]
 |p::ps,ll,i,h,hi=>by
  obtain⟨h0,h1⟩:=h p zAI;rw[zBj,vU ps (bY ll p) i (λ q hq=>by unfold bY;rw[zBA];exact h q (zAL _ hq)) (by unfold bY;rw[zBA];exact hi)];unfold bY uF;by_cases c:p.1=i
  ·have hk:p.1.toNat=i:=by lia
   rw[hk,zDp (by simpa using c)];simp[hi]
  ·have hk:p.1.toNat≠i:=by lia
   rw[zDo (by simpa using c)];simp[zBK hk]
theorem aF2:b∈uF ps a↔(a,b)∈ps:=by
 unfold uF;simp only[zAn,zBN];constructor
 ·rintro⟨p,⟨h1,h2⟩,rfl⟩
  have:p.1=a:=by simpa using h2
  rw[<-this];exact h1
 ·intro h
  exact⟨(a,b),⟨h,by simp⟩,rfl⟩
def dbl(ps:List (Int×Int)):List (Int×Int):=ps.flatMap λ p=>[p,(p.2,p.1)]
theorem ju:(a,b)∈dbl ps↔(a,b)∈ps\/(b,a)∈ps:=by
 unfold dbl;simp only[zI7,zAN,zBp,or_false];constructor
 ·rintro⟨p,hp,h|h⟩
  ·rw[h];exact .inl hp
  ·cases h;exact .inr hp
 ·rintro(h|h)
  ·exact⟨_,h,.inl rfl⟩
  ·exact⟨_,h,.inr rfl⟩
theorem zV(p:Int×Int)(ps:List (Int×Int)):dbl (p::ps)=p::(p.2,p.1)::dbl ps:=rfl
theorem xQ(hi:ρ[i]? =some (.o2 ll))(hf:f ρ= .ok (.int a))(hg:g ρ= .ok (.int b))(h0:0<=a)(h1:a<ll.length)(hz:(ll.getD a.toNat []).length<16777216):
  jm i f g ρ= .nx (ρ.set i (.o2 (bY ll (a,b)))):=by
 have hk:a.toNat<ll.length:=by lia
 have ha:at2 ll (.int a)=some (a.toNat,ll.getD a.toNat []):=by
  have hx:ixN ll.length a=some a.toNat:=by
   unfold ixN;rw[if_pos (by lia),if_pos (by lia)]
  simp only[at2,hx,zIA];rw[zAB hk];simp[hk]
 unfold jm;rw[hi];dsimp only;rw[hf,cC,ha];dsimp only;rw[hg,cC,if_pos (by rw[zBr];exact hz)];rfl
theorem mq(ll:List (List D))(p:Int×Int):(bY ll p).length=ll.length:=by unfold bY;rw[zBA]
theorem tO(h:∀l∈ll,l.length<=m):∀l∈bY ll p,l.length<=m+1:=by
 intro l hl;unfold bY at hl;rcases List.mem_or_eq_of_mem_set hl with z|z
 ·exact Nat.le_succ_of_le (h l z)
 ·subst z
  rw[zA5,zDJ]
  have:(ll.getD p.1.toNat []).length<=m:=by
   by_cases hk:p.1.toNat<ll.length
   ·exact h _ (by simp[hk])
   ·simp[zEF (zDx hk)]
  lia
theorem xP{ll:List (List D)}(h:∀l∈ll,l.length<=m)(k:Nat):(ll.getD k []).length<=m:=by
 by_cases hk:k<ll.length
 ·exact h _ (by simp[hk])
 ·simp[zEF (zDx hk)]
def atB:En->Ou:=aQ (jm 3 (aB 4) (bC (aB 5))) (jm 3 (aB 5) (bC (aB 4)))
theorem aAV{w s1 s2:Slot}:∀(ps:List (Int×Int)) (ll:List (List D)) (s4 s5:Slot),(∀p∈ps,0<=p.1/\p.1<ll.length/\0<=p.2/\p.2<ll.length)->(∀l∈ll,l.length+2*ps.length<=10000)->
  ∃s4' s5',forL (dU 2 (aW (gnm 4) (aW (gnm 5) dh))) atB (ps.map pD) [w,s1,s2,.o2 ll,s4,s5]= .nx [w,s1,s2,.o2 ((dbl ps).foldl bY ll),s4',s5']
 |[],ll,s4,s5,_,_=>⟨s4,s5,rfl⟩
 |p::ps,ll,s4,s5,h,hl=>by
  obtain⟨a0,a1,b0,b1⟩:=h p zAI;have hb0:∀l∈ll,l.length<=10000-2*(ps.length+1):=λ l hm=>by
   have:=hl l hm
   rw[zAY]at this;lia
  have hb1:=tO (p:=p) hb0;have hb2:=tO (p:=(p.2,p.1)) hb1;by_cases hne:ll=[]
  ·subst hne
   simp at a1;lia
  have hbig:2*(ps.length+1)<=10000:=by
   obtain⟨l,hm⟩:=zGg ll hne
   have:=hl l hm
   rw[zAY]at this;lia
  obtain⟨s4',s5',e⟩:=aAV (w:=w) (s1:=s1) (s2:=s2) ps (bY (bY ll p) (p.2,p.1)) (.sh (.int p.1)) (.sh (.int p.2)) (λ q hq=>by rw[mq,mq];exact h q (zAL _ hq)) (λ l hm=>by have:=hb2 l hm;lia);refine⟨s4',s5',?_⟩;rw[zAG,eG,zV,zBj,zBj];have hg:okE (dU 2 (aW (gnm 4) (aW (gnm 5) dh)) (pD p) [w,s1,s2,.o2 ll,s4,s5]) (λ ρ1=>(atB ρ1).tn (forL (dU 2 (aW (gnm 4) (aW (gnm 5) dh))) atB (ps.map pD)))=
    (atB [w,s1,s2,.o2 ll,.sh (.int p.1),.sh (.int p.2)]).tn (forL (dU 2 (aW (gnm 4) (aW (gnm 5) dh))) atB (ps.map pD)):=by
   simp[pD]
  have c1:jm 3 (aB 4) (bC (aB 5)) [w,s1,s2,.o2 ll,.sh (.int p.1),.sh (.int p.2)]= .nx [w,s1,s2,.o2 (bY ll p),.sh (.int p.1),.sh (.int p.2)]:=
   xQ (a:=p.1) (b:=p.2) rfl (by simp) (by simp) a0 a1 (by have:=xP hb0 p.1.toNat;lia)
  have c2:jm 3 (aB 5) (bC (aB 4)) [w,s1,s2,.o2 (bY ll p),.sh (.int p.1),.sh (.int p.2)]= .nx [w,s1,s2,.o2 (bY (bY ll p) (p.2,p.1)),.sh (.int p.1),.sh (.int p.2)]:=
   xQ (a:=p.2) (b:=p.1) rfl (by simp) (by simp) b0 (by rw[mq];exact b1) (by have:=xP hb1 p.2.toNat;lia)
  have hc:atB [w,s1,s2,.o2 ll,.sh (.int p.1),.sh (.int p.2)]= .nx [w,s1,s2,.o2 (bY (bY ll p) (p.2,p.1)),.sh (.int p.1),.sh (.int p.2)]:=by
   unfold atB;rw[aN,c1,bI,c2]
  rw[hg,hc,rD];exact e
structure aCS(n:Int)(es:List (Int×Int))(ll:List (List D)):Prop where
 len:ll.length=n.toNat
 item:∀i:Int,0<=i->i<n->∃ws:List Int,atD (ll.map .lst) i= .ok (.lst (ws.map .int))/\∀b,b∈ws↔(i,b)∈es
theorem wR(h:Ow n ps):∃ll,fD [owD n ps]= .ok (.lst (ll.map .lst))/\aCS n (dbl ps) ll:=by
 have hn0:=h.n0;have hn1:=h.n1;have hr:=jW (j:=n) (by lia) (by lia);have hlen:(bT 0 n).length=n.toNat:=by rw[gM];lia
 have hps:=h.len;have hin:∀p∈ps,0<=p.1/\p.1<(zAM n.toNat ([]:List D)).length/\0<=p.2/\p.2<(zAM n.toNat ([]:List D)).length:=λ p hp=>by
  obtain⟨a,b,c,d,_⟩:=h.pr p hp;rw[zBV];lia
 have hin2:∀p∈dbl ps,0<=p.1/\p.1<(zAM n.toNat ([]:List D)).length:=λ p hp=>by
  rcases ju.mp (show(p.1,p.2)∈dbl ps from hp)with z|z
  ·have:=hin _ z;exact⟨this.1,this.2.1⟩
  ·have:=hin _ z;exact⟨this.2.2.1,this.2.2.2⟩
 obtain⟨s4,s5,e⟩:=aAV (w:=.sh (owD n ps)) (s1:=.sh (.int n)) (s2:=.sh (.tup (ps.map pD))) ps (zAM n.toNat []) .no .no hin (λ l hl=>by
  rw[(zEh.mp hl).2];simp;lia)
 refine⟨(dbl ps).foldl bY (zAM n.toNat []),?_,by rw[nO,zBV],λ i h0 h1=>⟨uF (dbl ps) i,?_,λ b=>aF2⟩⟩
 ·have hz:n.toNat<16777216:=by lia
  have a0:aDc (aB 0) (dU 2 (aW (gnm 1) (aW (gnm 2) dh))) [.sh (owD n ps),.no,.no,.no,.no,.no]= .nx [.sh (owD n ps),.sh (.int n),.sh (.tup (ps.map pD)),.no,.no,.no]:=by
   simp[owD]
  have a1:llS 3 (du gO (aA (aB 1) aF)) [none] (gnm 0) [.sh (owD n ps),.sh (.int n),.sh (.tup (ps.map pD)),.no,.no,.no]= .nx [.sh (owD n ps),.sh (.int n),.sh (.tup (ps.map pD)),.o2 (zAM n.toNat []),.no,.no]:=by
   unfold llS;simp[shE,jo,hr,hlen,hz]
  have a2:cz (bK (aB 2)) (dU 2 (aW (gnm 4) (aW (gnm 5) dh))) atB [.sh (owD n ps),.sh (.int n),.sh (.tup (ps.map pD)),.o2 (zAM n.toNat []),.no,.no]= .nx [.sh (owD n ps),.sh (.int n),.sh (.tup (ps.map pD)),.o2 ((dbl ps).foldl bY (zAM n.toNat [])),s4,s5]:=by
   have hi:bK (aB 2) [.sh (owD n ps),.sh (.int n),.sh (.tup (ps.map pD)),.o2 (zAM n.toNat []),.no,.no]= .ok (ps.map pD):=by simp
   rw[fU,hi,cC];exact e
  have a3:retS (pJ 3) [.sh (owD n ps),.sh (.int n),.sh (.tup (ps.map pD)),.o2 ((dbl ps).foldl bY (zAM n.toNat [])),s4,s5]= .rt (.lst (((dbl ps).foldl bY (zAM n.toNat [])).map .lst)):=by simp
  have st:az 6 [owD n ps]=[.sh (owD n ps),.no,.no,.no,.no,.no]:=rfl;have df:jN=aQ (aDc (aB 0) (dU 2 (aW (gnm 1) (aW (gnm 2) dh)))) (aQ (llS 3 (du gO (aA (aB 1) aF)) [none] (gnm 0)) (aQ (cz (bK (aB 2)) (dU 2 (aW (gnm 4) (aW (gnm 5) dh))) atB) (retS (pJ 3)))):=rfl;simp only[fD,df,bA,st];rw[aN,a0,bI,aN,a1,bI,aN,a2,bI,a3]
 ·have hk:i.toNat<(zAM n.toNat ([]:List D)).length:=by rw[zBV];lia
  have hg:=vU (dbl ps) (zAM n.toNat []) i.toNat hin2 hk;have hk2:i.toNat<((dbl ps).foldl bY (zAM n.toNat [])).length:=by rw[nO];exact hk
  have hi:((i.toNat:Nat):Int)=i:=zCL h0;rw[hi]at hg;rw[<-hi];refine gY ?_;rw[hi,zAT,zAB hk2]
  have:((dbl ps).foldl bY (zAM n.toNat []))[i.toNat]=(uF (dbl ps) i).map .int:=by
   have e1:((dbl ps).foldl bY (zAM n.toNat [])).getD i.toNat []=((dbl ps).foldl bY (zAM n.toNat []))[i.toNat]:=by simp[hk2]
   rw[<-e1,hg];have e2:(zAM n.toNat ([]:List D)).getD i.toNat []=[]:=by
    rw[zA1,zCF];split<;>rfl
   rw[e2,zDX]
  rw[this];rfl
def cO(ps:List (Int×Int)):List Int->Bool
 |a::b::r=>decide ((a,b)∈ps)&&cO ps (b::r)
 |_=>true
theorem vX:∀{ws:List Int},cO ps ws=true↔∀(i:Nat) (a b:Int),ws[i]? =some a->ws[i+1]? =some b->(a,b)∈ps
 |[]=>by simp[cO]
 |[x]=>by
  simp only[cO,true_iff];intro i p q _ h2;simp at h2
 |x::y::r=>by
  have ih:=vX (ps:=ps) (ws:=y::r);unfold cO;rw[zAK,ih,decide_eq_true_eq];constructor
  ·rintro⟨h1,h2⟩ i p q e1 e2
   cases i with
   |zero=>simp at e1 e2;subst e1 e2;exact h1
   |succ i=>exact h2 i p q (by simpa using e1) (by simpa using e2)
  ·intro h
   exact⟨h 0 x y rfl rfl,λ i p q e1 e2=>h (i+1) p q (by simpa using e1) (by simpa using e2)⟩
def vM(n:Int)(ps:List (Int×Int)):D->Bool
 | .tup ts=>!ts.isEmpty&&ts.all (bW n)&&decide ((ddI (ts.map intOf)).length=ts.length)&&cO ps (ts.map intOf)
 |_=>false
theorem oV:∀{ts:List D},ts.all (bW n)=true->(ts.map intOf).map D.int=ts/\∀x∈ts.map intOf,0<=x/\x<n
 |[],_=>⟨rfl,λ x hx=>by simp at hx⟩
 |t::ts,h=>by
  rw[zCr,zAK]at h;obtain⟨i,rfl,h0,h1⟩:=qZ h.1;obtain⟨e,q⟩:=oV h.2;refine⟨by simp only[zAG];rw[e];rfl,λ x hx=>?_⟩;rw[zAG]at hx;rcases zAN.mp hx with z|z
  ·subst z;exact⟨h0,h1⟩
  ·exact q x z
@[simp] theorem aHV(h:ns.length<4000):zq [.tup (ns.map .int)]= .ok (.set (ddI ns)):=by
 unfold zq;dsimp only;rw[fW];dsimp only;rw[if_pos h]
@[simp] theorem lenX_set:aAH [.set l]= .ok (.int l.length):=aR rfl
theorem aLu{ws:List Int}(e:ws.map D.int=ts){k:Nat}(h:ws[k]? =some w):atD ts (k:Int)= .ok (.int w):=by
 subst e;exact gY (by rw[zAT,h];rfl)
def aJm:D->Bool
 | .tup l=>decide (l.length<4000)
 |_=>true
def aEo:En->Ou:=ifS (iu (tst (aK cG (aA (opA bu (aA (aB 0) aF)) (aA (aB 2) aF))))) (retS (cD (.bl false))) Ou.nx
def aEn:En->Ou:=ifS (tsb (op2 (inR true) (op2 ixD (aB 1) (aB 3)) (op2 ixD (aB 0) (op2 ixD (aB 1) (op2 zm (aB 3) (cD (.int 1))))))) (retS (cD (.bl false))) Ou.nx
theorem eF:gC=aQ (ifS (orT (iu (tst (op1 (jD "tuple") (aB 1)))) (tsb (op2 (eqR false) (opA bu (aA (aB 1) aF)) (cD (.int 0))))) (retS (cD (.bl false))) Ou.nx)
  (aQ (cz (bK (aB 1)) (gnm 2) aEo)
  (aQ (ifS (tsb (op2 (eqR true) (opA aAH (aA (opA zq (aA (aB 1) aF)) aF)) (opA bu (aA (aB 1) aF)))) (retS (cD (.bl false))) Ou.nx)
  (aQ (cz (du yH (aA (cD (.int 1)) (aA (opA bu (aA (aB 1) aF)) aF))) (gnm 3) aEn)
  (retS (cD (.bl true)))))):=rfl
theorem aAM{ps:List (Int×Int)}(hn:0<=n)(N:aCS n ps ll)(hp:pln d=true)(hs:aJm d=true):cQ [.lst (ll.map .lst),d]= .ok (.bl (vM n ps d)):=by
 cases d with
 |tup ts=>
  have hp':sS ts=true:=by simpa[pln]using hp
  have hl:ts.length<4000:=by simpa[aJm]using hs
  have st:az 4 [.lst (ll.map .lst),.tup ts]=[.sh (.lst (ll.map .lst)),.sh (.tup ts),.no,.no]:=rfl;have hll:((ll.map D.lst).length:Int)=n:=by rw[zAE,N.len];lia
  cases ts with
  |nil=>
   simp only[cQ,eF,bA,st];simp[vM]
  |cons t0 tr=>
   generalize hts:t0::tr=ts at*;have hne:ts≠[]:=by rw[<-hts];simp
   have b1:ifS (orT (iu (tst (op1 (jD "tuple") (aB 1)))) (tsb (op2 (eqR false) (opA bu (aA (aB 1) aF)) (cD (.int 0))))) (retS (cD (.bl false))) Ou.nx [.sh (.lst (ll.map .lst)),.sh (.tup ts),.no,.no]= .nx [.sh (.lst (ll.map .lst)),.sh (.tup ts),.no,.no]:=by
    simp[hne]
   have L:=kZ (a:=gnm 2) (u:=aEo) (r:=.bl false) ts (λ i=>match ts[i]? with|some t=>bW n t|none=>true) (λ ρ=>∃s,ρ=[.sh (.lst (ll.map .lst)),.sh (.tup ts),s,.no]) [.sh (.lst (ll.map .lst)),.sh (.tup ts),.no,.no] ⟨_,rfl⟩ (by
    rintro i d ρ hd ⟨s,rfl⟩;have e:=mK (m:=n) (jt (tY hp' (zAo hd)));simp only[hd];have hc:(iu (tst (aK cG (aA (opA bu (aA (aB 0) aF)) (aA (aB 2) aF))))) [.sh (.lst (ll.map .lst)),.sh (.tup ts),.sh d,.no]= .ok (!bW n d):=by
     have hv:aA (opA bu (aA (aB 0) aF)) (aA (aB 2) aF) [.sh (.lst (ll.map .lst)),.sh (.tup ts),.sh d,.no]= .ok [.int n,d]:=by
      rw[<-hll];simp
     rw[aK2,aMB,eQ,hv,bD,e,bD,aJe,bD]
    have hg:okE (gnm 2 d [.sh (.lst (ll.map .lst)),.sh (.tup ts),s,.no]) aEo=aEo [.sh (.lst (ll.map .lst)),.sh (.tup ts),.sh d,.no]:=by rw[yw,oX];rfl
    rw[hg];unfold aEo;rw[yt,hc,cC];cases c:bW n d with
    |true=>right;exact⟨_,rfl,⟨_,rfl⟩,rfl⟩
    |false=>left;exact⟨by simp,rfl⟩)
   have hfor:∀o,forL (gnm 2) aEo ts [.sh (.lst (ll.map .lst)),.sh (.tup ts),.no,.no]=o->cz (bK (aB 1)) (gnm 2) aEo [.sh (.lst (ll.map .lst)),.sh (.tup ts),.no,.no]=o:=λ o h=>by
    have hi:bK (aB 1) [.sh (.lst (ll.map .lst)),.sh (.tup ts),.no,.no]= .ok ts:=by simp
    rw[fU,hi,cC,h]
   rcases L with ⟨e,i,hi,o⟩|⟨ρ',e,⟨s,rfl⟩,o⟩
   ·have:ts.all (bW n)=false:=by
     rw[zEo];rw[zAB hi]at o;exact⟨ts[i],zBR hi,by simpa using o⟩
    simp only[cQ,eF,bA,st];rw[aN,b1,bI,aN,hfor _ e];simp[vM,this]
   ·have hall:ts.all (bW n)=true:=by
     rw[zAj];intro t ht;obtain⟨i,hi,rfl⟩:=zCh ht
     have:=o i hi
     rw[zAB hi]at this;exact this
    obtain⟨ei,hin⟩:=oV hall;have hwl:(ts.map intOf).length=ts.length:=zAE _;have hset:zq [.tup ts]= .ok (.set (ddI (ts.map intOf))):=by
     have:=aHV (ns:=ts.map intOf) (by lia)
     rwa [ei]at this
    by_cases hdd:(ddI (ts.map intOf)).length=ts.length
    ·have b3:ifS (tsb (op2 (eqR true) (opA aAH (aA (opA zq (aA (aB 1) aF)) aF)) (opA bu (aA (aB 1) aF)))) (retS (cD (.bl false))) Ou.nx [.sh (.lst (ll.map .lst)),.sh (.tup ts),s,.no]= .nx [.sh (.lst (ll.map .lst)),.sh (.tup ts),s,.no]:=by
      simp[hset,hdd]
     have hr:=aB2 (i:=1) (j:=(ts.length:Int)) (by decide) (by decide) (by lia) (by lia);have hlen:(bT 1 (ts.length:Int)).length=ts.length-1:=by rw[gM];lia
     have L2:=kZ (a:=gnm 3) (u:=aEn) (r:=.bl false) (bT 1 (ts.length:Int)) (λ i=>match (ts.map intOf)[i]?,(ts.map intOf)[i+1]? with|some a,some b=>decide ((a,b)∈ps)|_,_=>true)
      (λ ρ=>∃s',ρ=[.sh (.lst (ll.map .lst)),.sh (.tup ts),s,s']) [.sh (.lst (ll.map .lst)),.sh (.tup ts),s,.no] ⟨_,rfl⟩ (by
       rintro i d ρ hd ⟨s',rfl⟩;obtain⟨rfl,h2⟩:=j6 hd;have k1:i<(ts.map intOf).length:=by lia
       have k2:i+1<(ts.map intOf).length:=by lia
       have e1:(ts.map intOf)[i]? =some (ts.map intOf)[i]:=zAB k1;have e2:(ts.map intOf)[i+1]? =some (ts.map intOf)[i+1]:=zAB k2;have a1:atD ts (1+(i:Int)-1)= .ok (.int (ts.map intOf)[i]):=by
        rw[show(1+(i:Int)-1)=(i:Int)by lia];exact aLu ei e1
       have a2:atD ts (1+(i:Int))= .ok (.int (ts.map intOf)[i+1]):=by
        rw[show(1+(i:Int))=((i+1:Nat):Int)by lia];exact aLu ei e2
       have m1:=hin _ (zBR k1);obtain⟨wa,a3,a4⟩:=N.item _ m1.1 m1.2;have hc:(tsb (op2 (inR true) (op2 ixD (aB 1) (aB 3)) (op2 ixD (aB 0) (op2 ixD (aB 1) (op2 zm (aB 3) (cD (.int 1))))))) [.sh (.lst (ll.map .lst)),.sh (.tup ts),s,.sh (.int (1+(i:Int)))]= .ok (!decide (((ts.map intOf)[i],(ts.map intOf)[i+1])∈ps)):=by
        simp[a1,a2,a3,o5,a4,-zDO]
       have hg:okE (gnm 3 (.int (1+(i:Int))) [.sh (.lst (ll.map .lst)),.sh (.tup ts),s,s']) aEn=aEn [.sh (.lst (ll.map .lst)),.sh (.tup ts),s,.sh (.int (1+(i:Int)))]:=by rw[yw,oX];rfl
       rw[hg];unfold aEn;rw[yt,hc,cC];simp only[e1,e2];cases c:decide (((ts.map intOf)[i],(ts.map intOf)[i+1])∈ps)with
       |true=>right;exact⟨_,rfl,⟨_,rfl⟩,rfl⟩
       |false=>left;exact⟨by simp,rfl⟩)
     have hfor2:∀o,forL (gnm 3) aEn (bT 1 (ts.length:Int)) [.sh (.lst (ll.map .lst)),.sh (.tup ts),s,.no]=o->cz (du yH (aA (cD (.int 1)) (aA (opA bu (aA (aB 1) aF)) aF))) (gnm 3) aEn [.sh (.lst (ll.map .lst)),.sh (.tup ts),s,.no]=o:=λ o h=>by
      have hi:du yH (aA (cD (.int 1)) (aA (opA bu (aA (aB 1) aF)) aF)) [.sh (.lst (ll.map .lst)),.sh (.tup ts),s,.no]= .ok (bT 1 (ts.length:Int)):=by simp[hr]
      rw[fU,hi,cC,h]
     rcases L2 with ⟨e2,i,hi,o2⟩|⟨ρ',e2,⟨s',rfl⟩,o2⟩
     ·have:cO ps (ts.map intOf)=false:=by
       cases c:cO ps (ts.map intOf)with
       |false=>rfl
       |true=>
        rw[hlen]at hi;have k1:i<(ts.map intOf).length:=by lia
        have k2:i+1<(ts.map intOf).length:=by lia
        have z:=vX.mp c i _ _ (zAB k1) (zAB k2);rw[zAB k1,zAB k2]at o2;simp only at o2;rw[decide_eq_true z]at o2;cases o2
      simp only[cQ,eF,bA,st];rw[aN,b1,bI,aN,hfor _ e,bI,aN,b3,bI,aN,hfor2 _ e2];simp[vM,this]
     ·have:cO ps (ts.map intOf)=true:=vX.mpr λ i a b e1 e2'=>by
       have h2:=(zAH.mp e2').1
       have:=o2 i (by rw[hlen];lia)
       rw[e1,e2']at this;simpa using this
      simp only[cQ,eF,bA,st];rw[aN,b1,bI,aN,hfor _ e,bI,aN,b3,bI,aN,hfor2 _ e2,bI];simp[vM,this,hall,hdd,hne]
    ·have b3:ifS (tsb (op2 (eqR true) (opA aAH (aA (opA zq (aA (aB 1) aF)) aF)) (opA bu (aA (aB 1) aF)))) (retS (cD (.bl false))) Ou.nx [.sh (.lst (ll.map .lst)),.sh (.tup ts),s,.no]= .rt (.bl false):=by
      have:¬((ddI (ts.map intOf)).length:Int)=(ts.length:Int):=by lia
      simp[hset,this]
     simp only[cQ,eF,bA,st];rw[aN,b1,bI,aN,hfor _ e,bI,aN,b3];simp[vM,hdd]
 |_=>
  simp only[cQ,eF,bA];simp[az,kY (jt hp),oZ,vM]
theorem aAk{α:Type}{f:α->D}{a:D->En->Rs En}{u:En->Ou}{r:D}{I:En->Prop}{P:α->Bool}:∀(xs:List α) (ρ:En),I ρ->
  (∀x∈xs,∀ρ,I ρ->(P x=true/\∃ρ',okE (a (f x) ρ) u= .nx ρ'/\I ρ')\/(P x=false/\okE (a (f x) ρ) u= .rt r))->
  (xs.all P=true/\∃ρ',forL a u (xs.map f) ρ= .nx ρ'/\I ρ')\/(xs.all P=false/\forL a u (xs.map f) ρ= .rt r)
 |[],ρ,h,_=>.inl ⟨rfl,ρ,rfl,h⟩
 |x::xs,ρ,h,H=>by
  rw[zAG,eG,zCr];have tnE:∀(r':Rs En) (k:En->Ou),okE r' (λ ρ1=>(u ρ1).tn k)=(okE r' u).tn k:=λ r' k=>by cases r'<;>rfl
  rw[tnE];rcases H x zAI ρ h with ⟨p,ρ',e,hI⟩|⟨p,e⟩
  ·rw[e,rD,p,zEd]
   exact aAk xs ρ' hI λ y hy=>H y (zAL _ hy)
  ·rw[e,aL2,p]
   exact .inr ⟨rfl,rfl⟩
theorem aJI{a:D->En->Rs En}{u:En->Ou}{r:D}{I:En->Prop}{P:D->Bool}(xs:List D)(ρ:En)(h:I ρ)
  (H:∀x∈xs,∀ρ,I ρ->(P x=true/\∃ρ',okE (a x ρ) u= .nx ρ'/\I ρ')\/(P x=false/\okE (a x ρ) u= .rt r)):
  (xs.all P=true/\∃ρ',forL a u xs ρ= .nx ρ'/\I ρ')\/(xs.all P=false/\forL a u xs ρ= .rt r):=by
 have:=aAk (f:=id) (a:=a) (u:=u) (r:=r) (P:=P) xs ρ h H
 rwa [zE4]at this
theorem aBz{a:D->En->Rs En}{u:En->Ou}{I:En->Prop}:∀(ds:List D) (ρ:En),I ρ->(∀d∈ds,∀ρ,I ρ->∃ρ',okE (a d ρ) u= .nx ρ'/\I ρ')->∃ρ',forL a u ds ρ= .nx ρ'/\I ρ'
 |[],ρ,h,_=>⟨ρ,rfl,h⟩
 |d::ds,ρ,h,H=>by
  rw[eG];have tnE:∀(r':Rs En) (k:En->Ou),okE r' (λ ρ1=>(u ρ1).tn k)=(okE r' u).tn k:=λ r' k=>by cases r'<;>rfl
  rw[tnE];obtain⟨ρ',e,hI⟩:=H d zAI ρ h;rw[e,rD];exact aBz ds ρ' hI λ y hy=>H y (zAL _ hy)
theorem aLD{a b:Str}:eqR true (.str a) (.str b)= .ok (.bl (!(a==b))):=rfl
theorem aDJ{α:Type}{f:α->D}{g:α->D}{t:α->Bool}{ρ:En}{fg:D->En->Rs En}{ft:En->Rs Bool}{fe:En->Rs D}:∀(l:List α),(∀x∈l,∃ρ1,fg (f x) ρ= .ok ρ1/\ft ρ1= .ok (t x)/\(t x=true->fe ρ1= .ok (g x)))->lcL ρ fg ft fe (l.map f)= .ok ((l.filter t).map g)
 |[],_=>rfl
 |x::l,h=>by
  obtain⟨ρ1,e1,e2,e3⟩:=h x zAI;have ih:=aDJ (t:=t) (g:=g) (ft:=ft) (fe:=fe) l λ y hy=>h y (zAL _ hy)
  rw[zAG,zDu];unfold lcL;rw[e1,bD,e2,bD];cases c:t x with
  |true=>rw[if_pos rfl,e3 c,bD,ih,bD];rfl
  |false=>rw[if_neg (by simp),ih];rfl
theorem aBo{p q:Int×Int}:ltP p q=true↔p.1<q.1\/p.1=q.1/\p.2<q.2:=by
 unfold ltP;have e:HT.lexLt [p.1,p.2] [q.1,q.2]=true↔p.1<q.1\/p.1=q.1/\p.2<q.2:=by
  by_cases h1:p.1=q.1
  ·by_cases h2:p.2=q.2
   ·simp[HT.lexLt,h1,h2]
   ·simp[HT.lexLt,h1,h2]
  ·simp[HT.lexLt,h1]
 exact e
theorem aH7{ps:List (Int×Int)}{q:Int×Int}(h:yI ps=true)(l:∀p∈ps,ltP p q=true):yI (ps++[q])=true:=by
 rw[aB3]at h ⊢;intro i a b e1 e2;by_cases hi:i+1<ps.length
 ·rw[zBB (by lia)]at e1
  rw[zBB hi]at e2;exact h i a b e1 e2
 ·have hj:=(zAH.mp e2).1
  rw[zA5,zDJ]at hj;have hk:i+1=ps.length:=by lia
  rw[zBB (by lia)]at e1;rw[hk,zC3 (zAS _),zFU]at e2;cases e2;exact l a (zAo e1)
structure Wi(n a b:Int)(ps:List (Int×Int)):Prop where
 ris:yI ps=true
 pr:∀p∈ps,0<=p.1/\p.1<p.2/\p.2<n/\(p.1<a\/p.1=a/\p.2<b)
theorem Wi.put(W:Wi n a b ps)(h0:0<=a)(h1:a<b)(h2:b<n):Wi n a (b+1) (ps++[(a,b)]):=by
 refine⟨aH7 W.ris λ p hp=>?_,λ p hp=>?_⟩
 ·obtain⟨_,_,_,h⟩:=W.pr p hp
  rw[aBo];exact h
 ·rcases zAm.mp hp with hp|hp
  ·obtain⟨q1,q2,q3,q4⟩:=W.pr p hp
   exact⟨q1,q2,q3,by lia⟩
  ·rw[zA8.mp hp]
   exact⟨h0,h1,h2,.inr ⟨rfl,by show b<b+1;lia⟩⟩
theorem Wi.on{a' b':Int}(W:Wi n a b ps)(h:a<a'\/a=a'/\b<=b'):Wi n a' b' ps:=⟨W.ris,λ p hp=>by
 obtain⟨q1,q2,q3,q4⟩:=W.pr p hp;exact⟨q1,q2,q3,by lia⟩⟩
def wbI:En->Ou:=ifS (tsb (op2 ltD (aK ao (aA (aB 0) (aA (op2 bh (op2 bh (cD (.int 3)) (op2 nG (cD (.int 61)) (aB 5))) (aB 6)) (aA (cD (.int 8)) aF)))) (aB 3))) (qT 4 (cM (aA (bC (aB 5)) (aA (bC (aB 6)) aF)))) Ou.nx
def wbO:En->Ou:=cz (du yH (aA (op2 bh (aB 5) (cD (.int 1))) (aA (aB 2) aF))) (gnm 6) wbI
theorem aE9{most:Nat}(h1:most<=60):∃n ps,jT [.int c,.int most]= .ok (owD n ps)/\Ow n ps/\(∀p∈ps,p.1<p.2)/\n<=most:=by
 obtain⟨n,en,hn⟩:=jw (c:=c) (k:=0) (b:=(most:Int)+1) (by decide) (by decide) (by lia) (by lia);obtain⟨th,et,_⟩:=jw (c:=c) (k:=1) (b:=6) (by decide) (by decide) (by decide) (by decide);have hr1:=jW (j:=(n:Int)) (by lia) (by lia);have inner:∀(a:Int) (K0:Nat) (ps:List (Int×Int)) (s2:Slot),0<=a->a<n->K0<=3600->ps.length<=K0->Wi n a (a+1) ps->
   ∃ps' s2',forL (gnm 6) wbI (bT (a+1) n) [.sh (.int c),.sh (.int most),.sh (.int n),.sh (.int (1+th)),.ow (.lst (ps.map pD)),.sh (.int a),s2]= .nx [.sh (.int c),.sh (.int most),.sh (.int n),.sh (.int (1+th)),.ow (.lst (ps'.map pD)),.sh (.int a),s2']/\ps'.length<=K0+60/\Wi n a n ps':=by
  intro a K0 ps s2 ha0 ha1 hK hl W;obtain⟨ρ',e,ps',s',rfl,hl',W'⟩:=nM (a:=gnm 6) (u:=wbI) (ds:=bT (a+1) n)
   (λ k ρ=>∃(ps:List (Int×Int)) (s2:Slot),ρ=[.sh (.int c),.sh (.int most),.sh (.int n),.sh (.int (1+th)),.ow (.lst (ps.map pD)),.sh (.int a),s2]/\ps.length<=K0+k/\Wi n a (a+1+k) ps)
   (by
    rintro i d ρ hd ⟨ps,s2,rfl,hps,W⟩;obtain⟨rfl,hlt⟩:=j6 hd;have hm:nG (.int 61) (.int a)= .ok (.int (61*a)):=aBl (by decide) (by decide);obtain⟨r,er,_⟩:=jw (c:=c) (k:=3+61*a+(a+1+i)) (b:=8) (by lia) (by lia) (by decide) (by decide);have hz:ps.length<16777216:=by lia
    by_cases hlt2:(r:Int)<1+th
    ·exact⟨_,by simp[wbI,hm,er,hlt2,qT,hz];rfl,ps++[(a,a+1+i)],_,by simp[pD];rfl,by simp;lia,by rw[show a+1+((i+1:Nat):Int)=a+1+(i:Int)+1 by lia];exact W.put ha0 (by lia) (by lia)⟩
    ·exact⟨_,by simp[wbI,hm,er,hlt2];rfl,ps,_,rfl,by lia,W.on (by lia)⟩)
   (ρ:=[.sh (.int c),.sh (.int most),.sh (.int n),.sh (.int (1+th)),.ow (.lst (ps.map pD)),.sh (.int a),s2]) ⟨ps,s2,rfl,by lia,W.on (by lia)⟩
  rw[gM]at hl' W';exact⟨ps',s',e,by lia,W'.on (by lia)⟩
 obtain⟨ρ',e,ps,s1,s2,rfl,hl,W⟩:=nM (a:=gnm 5) (u:=wbO) (ds:=bT 0 n)
  (λ k ρ=>∃(ps:List (Int×Int)) (s1 s2:Slot),ρ=[.sh (.int c),.sh (.int most),.sh (.int n),.sh (.int (1+th)),.ow (.lst (ps.map pD)),s1,s2]/\ps.length<=60*k/\Wi n k 0 ps)
  (by
   rintro i d ρ hd ⟨ps,s1,s2,rfl,hps,W⟩;obtain⟨rfl,hlt⟩:=j6 hd;have hr2:=aB2 (i:=0+(i:Int)+1) (j:=(n:Int)) (by lia) (by lia) (by lia) (by lia);obtain⟨ps',s2',e,hl',W'⟩:=inner (0+(i:Int)) (60*i) ps s2 (by lia) (by lia) (by lia) hps ⟨W.ris,λ p hp=>by obtain⟨q1,q2,q3,q4⟩:=W.pr p hp;exact⟨q1,q2,q3,by lia⟩⟩;refine⟨_,?_,ps',.sh (.int (0+(i:Int))),s2',rfl,by lia,W'.on (by lia)⟩;simp only[Int.zero_add]at hr2 e ⊢;simp[wbO,hr2,e])
  (ρ:=[.sh (.int c),.sh (.int most),.sh (.int n),.sh (.int (1+th)),.ow (.lst []),.no,.no]) ⟨[],.no,.no,rfl,by simp,rfl,λ p hp=>by cases hp⟩
 rw[gM]at hl;refine⟨n,ps,?_,⟨by lia,by lia,by lia,λ p hp=>by obtain⟨q1,q2,q3,q4⟩:=W.pr p hp;exact⟨q1,by lia,by lia,q3,by lia⟩,W.ris⟩,λ p hp=>(W.pr p hp).2.1,by lia⟩;have st:az 7 [.int c,.int most]=[.sh (.int c),.sh (.int most),.no,.no,.no,.no,.no]:=rfl;have df:km=aQ (cJ 2 (aK ao (aA (aB 0) (aA (cD (.int 0)) (aA (op2 bh (aB 1) (cD (.int 1))) aF)))))
  (aQ (cJ 3 (op2 bh (cD (.int 1)) (aK ao (aA (aB 0) (aA (cD (.int 1)) (aA (cD (.int 6)) aF))))))
  (aQ (mW 4 (iz aF)) (aQ (cz (du gO (aA (aB 2) aF)) (gnm 5) wbO)
  (retS (cM (aA (bC (aB 2)) (aA (opA cu (aA (pJ 4) aF)) aF))))))):=rfl
 simp only[jT,df,bA,st];simp[en,et,hr1,e,owD]
def lnB:En->Ou:=aQ (jm 1 (aB 2) (bC (aB 3))) (jm 1 (aB 3) (bC (aB 2)))
theorem yf{w:Slot}:∀(ps:List (Int×Int)) (ll:List (List D)) (s4 s5:Slot),(∀p∈ps,0<=p.1/\p.1<ll.length/\0<=p.2/\p.2<ll.length)->(∀l∈ll,l.length+2*ps.length<=10000)->
  ∃s4' s5',forL (dU 2 (aW (gnm 2) (aW (gnm 3) dh))) lnB (ps.map pD) [w,.o2 ll,s4,s5]= .nx [w,.o2 ((dbl ps).foldl bY ll),s4',s5']
 |[],ll,s4,s5,_,_=>⟨s4,s5,rfl⟩
 |p::ps,ll,s4,s5,h,hl=>by
  obtain⟨a0,a1,b0,b1⟩:=h p zAI;have hb0:∀l∈ll,l.length<=10000-2*(ps.length+1):=λ l hm=>by
   have:=hl l hm
   rw[zAY]at this;lia
  have hb1:=tO (p:=p) hb0;have hb2:=tO (p:=(p.2,p.1)) hb1;by_cases hne:ll=[]
  ·subst hne
   simp at a1;lia
  have hbig:2*(ps.length+1)<=10000:=by
   obtain⟨l,hm⟩:=zGg ll hne
   have:=hl l hm
   rw[zAY]at this;lia
  obtain⟨s4',s5',e⟩:=yf (w:=w) ps (bY (bY ll p) (p.2,p.1)) (.sh (.int p.1)) (.sh (.int p.2)) (λ q hq=>by rw[mq,mq];exact h q (zAL _ hq)) (λ l hm=>by have:=hb2 l hm;lia);refine⟨s4',s5',?_⟩;rw[zAG,eG,zV,zBj,zBj];have hg:okE (dU 2 (aW (gnm 2) (aW (gnm 3) dh)) (pD p) [w,.o2 ll,s4,s5]) (λ ρ1=>(lnB ρ1).tn (forL (dU 2 (aW (gnm 2) (aW (gnm 3) dh))) lnB (ps.map pD)))=
    (lnB [w,.o2 ll,.sh (.int p.1),.sh (.int p.2)]).tn (forL (dU 2 (aW (gnm 2) (aW (gnm 3) dh))) lnB (ps.map pD)):=by
   simp[pD]
  have c1:jm 1 (aB 2) (bC (aB 3)) [w,.o2 ll,.sh (.int p.1),.sh (.int p.2)]= .nx [w,.o2 (bY ll p),.sh (.int p.1),.sh (.int p.2)]:=
   xQ (a:=p.1) (b:=p.2) rfl (by simp) (by simp) a0 a1 (by have:=xP hb0 p.1.toNat;lia)
  have c2:jm 1 (aB 3) (bC (aB 2)) [w,.o2 (bY ll p),.sh (.int p.1),.sh (.int p.2)]= .nx [w,.o2 (bY (bY ll p) (p.2,p.1)),.sh (.int p.1),.sh (.int p.2)]:=
   xQ (a:=p.2) (b:=p.1) rfl (by simp) (by simp) b0 (by rw[mq];exact b1) (by have:=xP hb1 p.2.toNat;lia)
  have hc:lnB [w,.o2 ll,.sh (.int p.1),.sh (.int p.2)]= .nx [w,.o2 (bY (bY ll p) (p.2,p.1)),.sh (.int p.1),.sh (.int p.2)]:=by
   unfold lnB;rw[aN,c1,bI,c2]
  rw[hg,hc,rD];exact e
theorem aDY:∀(ps:List (Int×Int)) (ll:List (List D)) (m:Nat),(∀l∈ll,l.length<=m)->∀l∈ps.foldl bY ll,l.length<=m+ps.length
 |[],_,_,h=>h
 |p::ps,ll,m,h=>λ l hl=>by
  have:=aDY ps (bY ll p) (m+1) (tO h) l hl
  rw[zAY];lia
theorem aFt:∀ps:List (Int×Int),(dbl ps).length=2*ps.length
 |[]=>rfl
 |p::ps=>by rw[zV,zAY,zAY,aFt ps,zAY];lia
theorem aDM(h:Ow n ps):∃ll,jU [owD n ps]= .ok (.lst (ll.map .lst))/\aCS n (dbl ps) ll/\∀l∈ll,l.length<=7200:=by
 have hn0:=h.n0;have hn1:=h.n1;have hr:=jW (j:=n) (by lia) (by lia);have hlen:(bT 0 n).length=n.toNat:=by rw[gM];lia
 have hps:=h.len;have hin:∀p∈ps,0<=p.1/\p.1<(zAM n.toNat ([]:List D)).length/\0<=p.2/\p.2<(zAM n.toNat ([]:List D)).length:=λ p hp=>by
  obtain⟨a,b,c,d,_⟩:=h.pr p hp;rw[zBV];lia
 have hin2:∀p∈dbl ps,0<=p.1/\p.1<(zAM n.toNat ([]:List D)).length:=λ p hp=>by
  rcases ju.mp (show(p.1,p.2)∈dbl ps from hp)with z|z
  ·have:=hin _ z;exact⟨this.1,this.2.1⟩
  ·have:=hin _ z;exact⟨this.2.2.1,this.2.2.2⟩
 obtain⟨s4,s5,e⟩:=yf (w:=.sh (owD n ps)) ps (zAM n.toNat []) .no .no hin (λ l hl=>by
  rw[(zEh.mp hl).2];simp;lia)
 refine⟨(dbl ps).foldl bY (zAM n.toNat []),?_,⟨by rw[nO,zBV],λ i h0 h1=>⟨uF (dbl ps) i,?_,λ b=>aF2⟩⟩,λ l hl=>?_⟩
 ·have hz:n.toNat<16777216:=by lia
  have a1:llS 1 (du gO (aA (op2 ixD (aB 0) (cD (.int 0))) aF)) [none] (gnm 0) [.sh (owD n ps),.no,.no,.no]= .nx [.sh (owD n ps),.o2 (zAM n.toNat []),.no,.no]:=by
   unfold llS;simp[shE,jo,owD,hr,hlen,hz]
  have a2:cz (bK (op2 ixD (aB 0) (cD (.int 1)))) (dU 2 (aW (gnm 2) (aW (gnm 3) dh))) lnB [.sh (owD n ps),.o2 (zAM n.toNat []),.no,.no]= .nx [.sh (owD n ps),.o2 ((dbl ps).foldl bY (zAM n.toNat [])),s4,s5]:=by
   have hi:bK (op2 ixD (aB 0) (cD (.int 1))) [.sh (owD n ps),.o2 (zAM n.toNat []),.no,.no]= .ok (ps.map pD):=by simp[owD]
   rw[fU,hi,cC];exact e
  have a3:retS (pJ 1) [.sh (owD n ps),.o2 ((dbl ps).foldl bY (zAM n.toNat [])),s4,s5]= .rt (.lst (((dbl ps).foldl bY (zAM n.toNat [])).map .lst)):=by simp
  have st:az 4 [owD n ps]=[.sh (owD n ps),.no,.no,.no]:=rfl;have df:jG=aQ (llS 1 (du gO (aA (op2 ixD (aB 0) (cD (.int 0))) aF)) [none] (gnm 0)) (aQ (cz (bK (op2 ixD (aB 0) (cD (.int 1)))) (dU 2 (aW (gnm 2) (aW (gnm 3) dh))) lnB) (retS (pJ 1))):=rfl;simp only[jU,df,bA,st];rw[aN,a1,bI,aN,a2,bI,a3]
 ·have hk:i.toNat<(zAM n.toNat ([]:List D)).length:=by rw[zBV];lia
  have hg:=vU (dbl ps) (zAM n.toNat []) i.toNat hin2 hk;have hk2:i.toNat<((dbl ps).foldl bY (zAM n.toNat [])).length:=by rw[nO];exact hk
  have hi:((i.toNat:Nat):Int)=i:=zCL h0;rw[hi]at hg;rw[<-hi];refine gY ?_;rw[hi,zAT,zAB hk2]
  have:((dbl ps).foldl bY (zAM n.toNat []))[i.toNat]=(uF (dbl ps) i).map .int:=by
   have e1:((dbl ps).foldl bY (zAM n.toNat [])).getD i.toNat []=((dbl ps).foldl bY (zAM n.toNat []))[i.toNat]:=by simp[hk2]
   rw[<-e1,hg];have e2:(zAM n.toNat ([]:List D)).getD i.toNat []=[]:=by
    rw[zA1,zCF];split<;>rfl
   rw[e2,zDX]
  rw[this];rfl
 ·have:=aDY (dbl ps) (zAM n.toNat []) 0 (λ l hl=>by rw[(zEh.mp hl).2];exact zAS _) l hl
  rw[aFt]at this;lia
theorem aCl:∀ws:List Int,sS (ws.map .int)=true
 |[]=>rfl
 |_::ws=>by simp only[zAG,sS,aCl ws,pln];rfl
theorem aFg:∀{l:List D},(∀d∈l,imm d=true)->aAL l=true
 |[],_=>rfl
 |x::r,h=>by
  simp only[aAL,zAK];exact⟨h x (zAI ..),aFg λ d hd=>h d (zAL _ hd)⟩
theorem zU{k:Nat}:∀{l:List D},(∀d∈l,iT d<=k)->cg l<=k
 |[],_=>zA9 _
 |x::r,h=>by
  unfold cg;exact Nat.max_le.mpr ⟨h x zAI,zU λ d hd=>h d (zAL _ hd)⟩
theorem vI:∀{l:List D},(∀d∈l,aU d=true)->bB l=true
 |[],_=>rfl
 |x::r,h=>by
  unfold bB;rw[h x zAI,vI λ d hd=>h d (zAL _ hd)];rfl
structure El(k:Nat)(d:D):Prop where
 p:pln d=true
 e:iT d<=k
 n:aU d=true
 i:imm d=true
theorem El.tup{k:Nat}{l:List D}(h:∀d∈l,El k d):El (k+1) (.tup l):=⟨by unfold pln;exact xJ λ d hd=>(h d hd).p,by unfold iT;exact Nat.succ_le_succ (zU λ d hd=>(h d hd).e),by unfold aU;exact vI λ d hd=>(h d hd).n,by unfold imm;exact aFg λ d hd=>(h d hd).i⟩
theorem El.int{k:Nat}{i:Int}:El k (.int i):=⟨rfl,zA9 _,rfl,rfl⟩
theorem El.ints{k:Nat}{ws:List Int}:∀d∈ws.map D.int,El k d:=λ d hd=>by obtain⟨w,_,rfl⟩:=zAn.mp hd;exact .int
theorem El.g{k:Nat}(h:El k d):yx d= .ok d:=aLB h.i
theorem aOf{l m:List D}(h:l.length+m.length<=16777216):bh (.tup l) (.tup m)= .ok (.tup (l++m)):=by rw[z8,if_pos h]
theorem aPH{l m:List D}(h:l.length+m.length<=16777216):bh (.lst l) (.lst m)= .ok (.lst (l++m)):=by rw[aJ2,if_pos h]
theorem aLP{l:List D}(h:l≠[]):atD l (-1)= .ok (l.getLast h):=by
 have hk:0<l.length:=zDW.mpr h;unfold atD atI ixN;rw[if_neg (by decide),if_pos (by lia)];have e:((-1:Int)+(l.length:Int)).toNat=l.length-1:=by lia
 rw[e,List.getLast_eq_getElem];simp[zAB (show l.length-1<l.length by lia)]
theorem aDb{ws:List Int}(h:ws≠[]):atD (ws.map .int) (-1)= .ok (.int (ws.getLast h)):=by
 rw[aLP (by simpa using h),List.getLast_map]
structure Fn4(d:D):Prop where
 p:pln d=true
 s:aJm d=true
 e:iT d<=60
 n:aU d=true
theorem El.fn{k:Nat}{l:List D}(h:∀d∈l,El k d)(hk:k<60)(hl:l.length<4000):Fn4 (.tup l):=let q:=El.tup h;⟨q.p,by simpa[aJm]using hl,zAg q.e hk,q.n⟩
theorem aIl{c:En->Rs Bool}{b:En->Ou}{I:Nat->En->Prop}(st:∀m ρ,I m ρ->c ρ= .ok false\/(c ρ= .ok true/\∃ρ' m',b ρ= .nx ρ'/\m'<m/\I m' ρ')):
  ∀(n m:Nat) (ρ:En),m<n->I m ρ->∃ρ' m',itW c b n ρ= .nx ρ'/\I m' ρ'/\c ρ'= .ok false
 |0,_,_,h,_=>absurd h (zEP _)
 |n+1,m,ρ,h,hI=>by
  rcases st m ρ hI with e|⟨e,ρ',m',e2,hm,hI'⟩
  ·exact⟨ρ,m,by unfold itW;rw[e];rfl,hI,e⟩
  ·obtain⟨ρ2,m2,e3,r⟩:=aIl st n m' ρ' (by lia) hI'
   refine⟨ρ2,m2,?_,r⟩;unfold itW;rw[e,cC,if_pos rfl,e2];exact e3
theorem aCV{c:En->Rs Bool}{b:En->Ou}(I:Nat->En->Prop)(st:∀m ρ,I m ρ->c ρ= .ok false\/(c ρ= .ok true/\∃ρ' m',b ρ= .nx ρ'/\m'<m/\I m' ρ')){m:Nat}{ρ:En}(hm:m<1000000)(h:I m ρ):
  ∃ρ' m',uh c b ρ= .nx ρ'/\I m' ρ'/\c ρ'= .ok false:=aIl st fuel m ρ hm h
def upI(n:Int):List Int:=(zAp n.toNat).map λ(k:Nat)=>(k:Int)
theorem yG(n:Int):bT 0 n=(upI n).map .int:=by
 unfold bT upI;rw[zAb,show(n-0).toNat=n.toNat by lia];exact zCG λ k _=>by simp
theorem aCW(n:Int):(upI n).Nodup:=by
 unfold upI;rw[zC4,zDg];exact zI9.imp λ h e=>h (by lia)
theorem m8{x n:Int}:x∈upI n↔0<=x/\x<n:=by
 unfold upI;rw[zAn];constructor
 ·rintro⟨k,hk,rfl⟩
  have:=zBO.mp hk
  lia
 ·rintro⟨h0,h1⟩
  exact⟨x.toNat,zBO.mpr (by lia),by lia⟩
theorem iU(n:Int):(upI n).length=n.toNat:=by unfold upI;simp
theorem sy{es:List (Int×Int)}{v:Int}:∀{ws:List Int} (h:ws≠[]),cO es ws=true->(ws.getLast h,v)∈es->cO es (ws++[v])=true
 |[a],_,_,h2=>by simpa[cO]using h2
 |a::b::r,_,h1,h2=>by
  simp only[cO,zAK,decide_eq_true_eq]at h1
  have:=sy (ws:=b::r) (by simp) h1.2 (by simpa using h2)
  rw[zCd,zCd,cO,zAK,decide_eq_true_eq];exact⟨h1.1,by simpa using this⟩
theorem aEQ{left ws:List Int}(h1:left.Nodup)(h2:ws.Nodup)(h3:∀w∈ws,w∈left):(ws++left.filter λ x=>!decide (x∈ws)).Perm left:=by
 rw[List.perm_ext_iff_of_nodup]
 ·intro a
  rw[zAm,zBN];constructor
  ·rintro(h|h)
   ·exact h3 a h
   ·exact h.1
  ·intro h
   by_cases hw:a∈ws
   ·exact .inl hw
   ·exact .inr ⟨h,by simp[hw]⟩
 ·rw[zBW]
  refine⟨h2,h1.filter _,λ a ha b hb e=>?_⟩;subst e
  have:=(zBN.mp hb).2
  simp[ha]at this
 ·exact h1
theorem uO(l:List Int):eqR true (.lst (l.map .int)) (.lst [])= .ok (.bl (!l.isEmpty)):=by
 obtain⟨h1,h2⟩:=qQ l;have e:eqD (.lst (l.map .int)) (.lst [])=l.isEmpty:=by cases l<;>simp[eqD,gR]
 unfold eqR;rw[if_pos (by simp[iT,aU,bB,h1,h2]),e];rfl
def rowOf:D->List Int
 | .tup ts=>ts.map intOf
 |_=>[]
def t8(n:Int)(l:List Int):Bool:=eqD (.lst ((sortI l).map .int)) (.lst (bT 0 n))
theorem aAZ(h:l.length<64):v9 [.lst (l.map .int)]= .ok (.lst ((sortI l).map .int)):=by
 cases l with
 |nil=>rfl
 |cons i r=>
  have e:xX ((i::r).map D.int)=none:=rfl;unfold v9;dsimp only;rw[e];dsimp only;rw[fW];dsimp only;rw[if_pos h]
theorem aK0:eqR false (.lst ((sortI l).map .int)) (.lst (bT 0 n))= .ok (.bl (t8 n l)):=by
 obtain⟨h1,h2⟩:=qQ (sortI l);have h3:bB (bT 0 n)=true:=by rw[aA4];exact(qQ _).2
 unfold eqR t8;simp[aU,iT,h1,h2,h3]
theorem aF6(hf:f ρ= .ok (.int n))(h0:0<=n)(h1:n<=60):lrD f ρ= .ok (.lst (bT 0 n)):=by
 unfold lrD;rw[hf,bD];unfold lrR;simp;lia
theorem aAt:∀(a b:List Int),gR (a.map .int) (b.map .int)=decide (a=b)
 |[],[]=>rfl
 |[],y::b=>by simp[gR]
 |x::a,[]=>by simp[gR]
 |x::a,y::b=>by
  have:=aAt a b
  simp only[zAG,gR,eqD,this,List.cons.injEq];by_cases h:x=y<;>simp[h]
theorem aH5{B:D->Bool}(hr:∀d,B d=true->tupI (rowOf d)=d){rs:List D}(h:rs.all B=true):(rs.map rowOf).map tupI=rs:=by
 rw[zAb]
 conv=>rhs;rw[<-zE4 rs]
 refine zCG λ d hd=>hr d (zAj.mp h d hd)
theorem aKb(h:vM n es (.tup ts)=true):tupI (rowOf (.tup ts))= .tup ts:=by
 simp only[vM,zAK]at h;show D.tup ((ts.map intOf).map .int)=D.tup ts;rw[(oV h.1.1.2).1]
theorem nP:∀{l:List (List Int)},(∀r∈l,r≠[])->l.length<=l.flatten.length:=by
 intro l;induction l with
 |nil=>intro _;simp
 |cons a l ih=>
  intro h;have h1:0<a.length:=zDW.mpr (h a zAI)
  have:=ih λ x hx=>h x (zAL _ hx)
  rw[zBJ,zA5,zAY];lia
theorem yU{i j:Nat}{l m:List Int}(hf:f (shE ρ)= .ok (l.map .int))(hs:stE js (shE ρ)=[.no,.sh (.tup (m.map .int))]\/stE js (shE ρ)=[.no,.sh (.lst (m.map .int))])(hl:l.length<=1000):
  lcD f js (gnm 0) (tsb (op2 (inR true) (aB 0) (aB 1))) (bC (aB 0)) ρ= .ok (.lst ((l.filter λ x=>!decide (x∈m)).map .int)):=by
 refine jh hf (by rw[zAE];lia) ?_;rcases hs with hs|hs<;>rw[hs]
 ·refine mJ (fg:=gnm 0) (f:=D.int) (g:=D.int) (t:=λ x=>!decide (x∈m)) l λ x _=>⟨[.sh (.int x),.sh (.tup (m.map .int))],rfl,?_,by simp⟩
  have a2:aB 1 [.sh (.int x),.sh (.tup (m.map .int))]= .ok (.tup (m.map .int)):=rfl;have a3:aB 0 [.sh (.int x),.sh (.tup (m.map .int))]= .ok (.int x):=rfl;rw[pL,gj,a3,bD,a2,bD,aDV,gk,bD];rfl
 ·refine mJ (fg:=gnm 0) (f:=D.int) (g:=D.int) (t:=λ x=>!decide (x∈m)) l λ x _=>⟨[.sh (.int x),.sh (.lst (m.map .int))],rfl,?_,by simp⟩
  have a2:aB 1 [.sh (.int x),.sh (.lst (m.map .int))]= .ok (.lst (m.map .int)):=rfl;have a3:aB 0 [.sh (.int x),.sh (.lst (m.map .int))]= .ok (.int x):=rfl;rw[pL,gj,a3,bD,a2,bD,o5,gk,bD];rfl
theorem aG2{left r:List Int}(hr:r.Nodup)(hs:∀x∈r,x∈left):(left.filter λ x=>!decide (x∈r)).length+r.length<=left.length:=by
 have h1:r.length<=(left.filter λ x=>decide (x∈r)).length:=sub_len hr λ x hx=>zBN.mpr ⟨hs x hx,decide_eq_true hx⟩
 have h2:(left.filter λ x=>decide (x∈r)).length+(left.filter λ x=>!decide (x∈r)).length=left.length:=by
  clear h1 hs hr;induction left with
  |nil=>rfl
  |cons a l ih=>
   by_cases h:a∈r
   ·rw[zDp (by simpa using h),zDo (by simpa using h),zAY,zAY];lia
   ·rw[zDo (by simpa using h),zDp (by simpa using h),zAY,zAY];lia
 lia
theorem aIQ(rws:List (List Int)):nsL [.no,.no] (gnm 0) cU (inL (bK (aB 0)) (gnm 1) cU (bC (aB 1))) (rws.map tupI)= .ok (rws.flatten.map .int):=by
 induction rws with
 |nil=>rfl
 |cons ns rws ih=>
  have hi:inL (bK (aB 0)) (gnm 1) cU (bC (aB 1)) [.sh (tupI ns),.no]= .ok (ns.map .int):=by
   have hm:=aF9 (ρ:=[.sh (tupI ns),.no]) (fg:=gnm 1) (fe:=bC (aB 1)) (g:=id) (ns.map .int) λ d hd=>⟨_,rfl,by
    obtain⟨i,_,rfl⟩:=zAn.mp hd;simp⟩
   rw[zE4]at hm;unfold inL;rw[if_pos (by rfl)]
   have:bK (aB 0) [.sh (tupI ns),.no]= .ok (ns.map .int):=by simp[tupI]
   rw[this,bD,hm]
  rw[zAG,zBJ,zAq]
  show((gnm 0 (tupI ns) [.no,.no]).bd λ ρ1=>(cU ρ1).bd λ k=>if k=true then(inL (bK (aB 0)) (gnm 1) cU (bC (aB 1)) ρ1).bd λ ys=>(nsL [.no,.no] (gnm 0) cU (inL (bK (aB 0)) (gnm 1) cU (bC (aB 1))) (rws.map tupI)).bd λ zs=>.ok (ys++zs)else _)=_
  have hg:gnm 0 (tupI ns) [.no,.no]= .ok [.sh (tupI ns),.no]:=rfl;have hy:cU [.sh (tupI ns),.no]= .ok true:=rfl;rw[hg,bD,hy,bD,if_pos rfl,hi,bD,ih,bD]
theorem aCC{rws:List (List Int)}(h0:0<=n)(h1:n<=60)(hl:rws.flatten.length<64):iR [.int n,.tup (rws.map tupI)]= .ok (.bl (t8 n rws.flatten)):=by
 have st:az 2 [.int n,.tup (rws.map tupI)]=[.sh (.int n),.sh (.tup (rws.map tupI))]:=rfl;have hc:aI4 (bK (aB 1)) [none,none] (gnm 0) cU (inL (bK (aB 0)) (gnm 1) cU (bC (aB 1))) [.sh (.int n),.sh (.tup (rws.map tupI))]= .ok (.lst (rws.flatten.map .int)):=by
  have hi:bK (aB 1) (shE [.sh (.int n),.sh (.tup (rws.map tupI))])= .ok (rws.map tupI):=by simp[shE,jo]
  have hns:nsL (stE [none,none] (shE [.sh (.int n),.sh (.tup (rws.map tupI))])) (gnm 0) cU (inL (bK (aB 0)) (gnm 1) cU (bC (aB 1))) (rws.map tupI)= .ok (rws.flatten.map .int):=aIQ rws;unfold aI4;rw[hi,bD,hns];dsimp only;rw[if_pos (by rw[zAE,zBr];lia)]
 have hr:lrD (aB 0) [.sh (.int n),.sh (.tup (rws.map tupI))]= .ok (.lst (bT 0 n)):=aF6 (by simp) h0 h1;simp only[iR,iJ,bA,st];rw[gU,gj,ik,bO,hc,bD,mG,bD,bD,aAZ hl,gk,bD,hr,bD,aK0];rfl
theorem cZ(h:Ow n ps)(low:∀p∈ps,p.1<p.2):bQ [owD n ps]= .ok .non:=by
 have st:az 1 [owD n ps]=[.sh (owD n ps)]:=rfl;simp only[bQ,iK,bA,st];simp[aGb h low]
def aDD:D->Nat
 | .tup l=>l.length
 |_=>0
theorem aI3(d:D)(h:vM n es d=true):tupI (rowOf d)=d:=by
 cases d with
 |tup ts=>exact aKb h
 |_=>cases h
theorem aFm:∀rs:List D,((rs.map rowOf).flatten).length<=(rs.map aDD).sum
 |[]=>zAS _
 |r::rs=>by
  have:=aFm rs
  have e:(rowOf r).length<=aDD r:=by cases r<;>simp[rowOf,aDD]
  simp only[zAG,zBJ,zA5,List.sum_cons];lia
def rF(n:Int)(es:List (Int×Int)):D->Bool
 | .tup rs=>rs.all (vM n es)&&t8 n ((rs.map rowOf).flatten)
 |_=>false
structure Fi(d:D):Prop where
 p:pln d=true
 r:∀l,d= .tup l->∀e∈l,Fn4 e
 z:∀l,d= .tup l->(l.map aDD).sum<64/\l.length<4000
def ptL:En->Ou:=ifS (iu (tst (aK cQ (aA (aB 2) (aA (aB 3) aF))))) (retS (cD (.bl false))) Ou.nx
theorem yo:gB=aQ (dW (aK bQ (aA (aB 0) aF))) (aQ (ifS (iu (tst (op1 (jD "tuple") (aB 1)))) (retS (cD (.bl false))) Ou.nx) (aQ (cJ 2 (aK fD (aA (aB 0) aF))) (aQ (cz (bK (aB 1)) (gnm 3) ptL) (retS (aK iR (aA (op2 ixD (aB 0) (cD (.int 0))) (aA (aB 1) aF))))))):=rfl
theorem aAK(h:Ow n ps)(low:∀p∈ps,p.1<p.2)(F:Fi d):jz [owD n ps,d]= .ok (.bl (rF n (dbl ps) d)):=by
 obtain⟨ll,e,N⟩:=wR h;have st:az 4 [owD n ps,d]=[.sh (owD n ps),.sh d,.no,.no]:=rfl;have c0:dW (aK bQ (aA (aB 0) aF)) [.sh (owD n ps),.sh d,.no,.no]= .nx [.sh (owD n ps),.sh d,.no,.no]:=by simp[cZ h low]
 simp only[jz,yo,bA,st];rw[aN,c0,bI,aN];cases ht:oZ d with
 |false=>
  have e:rF n (dbl ps) d=false:=by cases d<;>first|rfl|(cases ht)
  simp[kY (jt F.p),ht,e]
 |true=>
  obtain⟨rs,rfl⟩:=aCY ht;have c1:ifS (iu (tst (op1 (jD "tuple") (aB 1)))) (retS (cD (.bl false))) Ou.nx [.sh (owD n ps),.sh (.tup rs),.no,.no]= .nx [.sh (owD n ps),.sh (.tup rs),.no,.no]:=by simp
  have c2:cJ 2 (aK fD (aA (aB 0) aF)) [.sh (owD n ps),.sh (.tup rs),.no,.no]= .nx [.sh (owD n ps),.sh (.tup rs),.sh (.lst (ll.map .lst)),.no]:=by simp[e]
  rw[c1,bI,aN,c2,bI,aN,fU];have hi:bK (aB 1) [.sh (owD n ps),.sh (.tup rs),.sh (.lst (ll.map .lst)),.no]= .ok rs:=by simp
  rw[hi,cC];rcases aJI (a:=gnm 3) (u:=ptL) (r:=.bl false) (P:=vM n (dbl ps)) (I:=λ ρ=>∃s,ρ=[.sh (owD n ps),.sh (.tup rs),.sh (.lst (ll.map .lst)),s]) rs [.sh (owD n ps),.sh (.tup rs),.sh (.lst (ll.map .lst)),.no] ⟨_,rfl⟩ (by
    rintro x hx ρ ⟨s,rfl⟩;have f:=F.r rs rfl x hx;have g:=aAM h.n0 N f.p f.s;rw[yw,oX];cases c:vM n (dbl ps) x with
    |true=>rw[c]at g;exact .inl ⟨rfl,_,by simp[ptL,g];rfl,_,rfl⟩
    |false=>rw[c]at g;exact .inr ⟨rfl,by simp[ptL,g]⟩)with ⟨hall,ρ',e2,s,rfl⟩|⟨hall,e2⟩
  ·rw[e2,bI]
   have er:=aH5 aI3 hall;have ho:=aCC (n:=n) (rws:=rs.map rowOf) h.n0 h.n1 (zCx (aFm rs) (F.z rs rfl).1);rw[er]at ho;have hv:aK iR (aA (op2 ixD (aB 0) (cD (.int 0))) (aA (aB 1) aF)) [.sh (owD n ps),.sh (.tup rs),.sh (.lst (ll.map .lst)),s]= .ok (.bl (t8 n ((rs.map rowOf).flatten))):=by
    rw[eQ,<-ho];simp[owD]
   rw[gU,hv,cC];simp only[rF,hall,zEd]
  ·rw[e2]
   simp[rF,hall]
theorem nT(h:Ow n ps)(low:∀p∈ps,p.1<p.2)(F:Fi d):fH [owD n ps,d]=if rF n (dbl ps) d=true then .ok .non else .ex "NoParting":=by
 have st:az 2 [owD n ps,d]=[.sh (owD n ps),.sh d]:=rfl;simp only[fH,dJ,bA,st];cases c:rF n (dbl ps) d<;>simp[aAK h low F,c]
def pdC:En->Rs D:=lcD (bK (op2 ixD (aB 3) (op2 ixD (aB 6) (op1 sW (cD (.int 1)))))) [none,some 4,some 6] (gnm 0) (wu (tsb (op2 (inR false) (aB 0) (aB 1))) (tsb (op2 (inR true) (aB 0) (aB 2)))) (bC (aB 0))
def pdB:En->Ou:=aQ (lF 9 pdC) (ifS (tsb (op2 (eqR true) (fG 9) (iz aF))) (cJ 6 (op2 bh (aB 6) (cM (aA (op2 ixD (fG 9) (aK ao (aA (aB 0) (aA (op2 bh (op2 bh (aB 1) (cD (.int 140))) (aB 8)) (aA (opA bu (aA (fG 9) aF)) aF))))) aF)))) Ou.nx)
def pdL:En->Rs D:=lcD (bK (aB 4)) [none,some 6] (gnm 0) (tsb (op2 (inR true) (aB 0) (aB 1))) (bC (aB 0))
def pdW:En->Ou:=aQ (cJ 6 (cM (aA (op2 ixD (fG 4) (aK ao (aA (aB 0) (aA (op2 bh (aB 1) (opA bu (aA (fG 4) aF))) (aA (opA bu (aA (fG 4) aF)) aF))))) aF)))
   (aQ (cJ 7 (aK ao (aA (aB 0) (aA (op2 bh (op2 bh (aB 1) (cD (.int 70))) (opA bu (aA (fG 4) aF))) (aA (op2 bh (op2 ixD (aB 2) (cD (.int 0))) (cD (.int 1))) aF)))))
   (aQ (cz (du gO (aA (aB 7) aF)) (gnm 8) pdB) (aQ (lF 4 pdL) (qT 5 (bC (aB 6))))))
def pdT:En->Rs Bool:=tsb (op2 (eqR true) (fG 4) (iz aF))
theorem yj:gA=aQ (lF 4 (lrD (op2 ixD (aB 2) (cD (.int 0))))) (aQ (mW 5 (iz aF)) (aQ (uh pdT pdW) (retS (opA cu (aA (pJ 5) aF))))):=rfl
abbrev pE(c a n:Int)(w:D)(ll:List (List D))(left:List Int)(rws:List (List Int))(s6 s7 s8 s9:Slot):En:=[.sh (.int c),.sh (.int a),.sh (.tup [.int n,w]),.sh (.lst (ll.map .lst)),.nw (.lst (left.map .int)),.ow (.lst (rws.map tupI)),s6,s7,s8,s9]
structure Wy(n:Int)(es:List (Int×Int))(left ws:List Int):Prop where
 ne:ws≠[]
 nd:ws.Nodup
 sub:∀w∈ws,w∈left
 al:cO es ws=true
section
variable{c a n:Int}{w:D}{ll:List (List D)}{left ws:List Int}{rws:List (List Int)}{es:List (Int×Int)}{s6 s7 s8 s9:Slot}
theorem aMi(N:aCS n es ll)(hz:∀l∈ll,l.length<=7200)(hw:Wy n es left ws)(hin:∀x∈left,0<=x/\x<n):∃vs:List Int,pdC (pE c a n w ll left rws (.sh (tupI ws)) s7 s8 s9)= .ok (.lst (vs.map .int))/\(∀v∈vs,v∈left/\v∉ws/\(ws.getLast hw.ne,v)∈es)/\vs.length<10000:=by
 have hl:=aDb hw.ne;have hm:=hin _ (hw.sub _ (zI4 hw.ne));obtain⟨us,e1,e2⟩:=N.item _ hm.1 hm.2;have hu:us.length<10000:=by
  obtain⟨d,e,hd,_⟩:=zZ (l:=ll.map .lst) (i:=ws.getLast hw.ne) hm.1 (by rw[zAE,N.len];lia);rw[e1]at e;cases e;obtain⟨l,hl,e3⟩:=zAn.mp hd
  have:=hz l hl
  have e4:l=us.map .int:=by cases e3;rfl
  rw[e4,zAE]at this;lia
 refine⟨us.filter λ u=>decide (u∈left)&& !decide (u∈ws),jh (ds:=us.map .int) ?_ (by rw[zAE];lia) (mJ us λ u hu=>⟨[.sh (.int u),.sh (.lst (left.map .int)),.sh (tupI ws)],rfl,?_,?_⟩),λ v hv=>?_,zCx (zBU _ _) hu⟩
 ·simp[shE,jo,tupI,hl,e1]
 ·have h1:=o5 false u left
  have h2:=aDV true u ws;have h2':inR true (.int u) (tupI ws)= .ok (.bl (!decide (u∈ws))):=h2;simp only[xR,pL,gj,nj,zBC,zAz,bD,h1,h2',gk,zX];cases decide (u∈left)<;>rfl
 ·simp
 ·obtain⟨h1,h2⟩:=zBN.mp hv
  rw[zAK,decide_eq_true_eq]at h2;exact⟨h2.1,by simpa using h2.2,(e2 v).mp h1⟩
theorem aMj{k:Int}(h0:0<=a)(h1:a<=100000)(hk0:0<=k)(hk1:k<=1000)(N:aCS n es ll)(hz:∀l∈ll,l.length<=7200)(hw:Wy n es left ws)(hin:∀x∈left,0<=x/\x<n)(hl:ws.length<1000):
  ∃ws' s9',pdB (pE c a n w ll left rws (.sh (tupI ws)) s7 (.sh (.int k)) s9)= .nx (pE c a n w ll left rws (.sh (tupI ws')) s7 (.sh (.int k)) s9')/\Wy n es left ws'/\ws'.length<=ws.length+1:=by
 obtain⟨vs,ev,hv,hvl⟩:=aMi (c:=c) (a:=a) (w:=w) (rws:=rws) (s7:=s7) (s8:=.sh (.int k)) (s9:=s9) N hz hw hin;have hs:lF 9 pdC (pE c a n w ll left rws (.sh (tupI ws)) s7 (.sh (.int k)) s9)= .nx (pE c a n w ll left rws (.sh (tupI ws)) s7 (.sh (.int k)) (.nw (.lst (vs.map .int)))):=by
  rw[oG,ev,cC];rfl
 have hq:=uO vs;cases hv0:vs.isEmpty with
 |true=>
  refine⟨ws,.nw (.lst (vs.map .int)),?_,hw,zCM _⟩;rw[pdB,aN,hs,bI];simp[hq,hv0]
 |false=>
  have hvp:0<vs.length:=by
   cases vs with
   |nil=>cases hv0
   |cons _ _=>simp
  obtain⟨r,er,hr⟩:=jw (c:=c) (k:=a+140+k) (b:=(vs.length:Int)) (by lia) (by lia) (by lia) (by lia);obtain⟨d,ed,hd,_⟩:=zZ (l:=vs.map .int) (i:=(r:Int)) (by lia) (by simpa using hr);obtain⟨v,hv1,rfl⟩:=zAn.mp hd;obtain⟨v1,v2,v3⟩:=hv v hv1;have A:bh (tupI ws) (.tup [.int v])= .ok (tupI (ws++[v])):=by
   have:=aOf (l:=ws.map .int) (m:=[.int v]) (by simp;lia)
   rw[show tupI (ws++[v])= .tup (ws.map .int++[.int v])by simp[tupI]];exact this
  refine⟨ws++[v],.nw (.lst (vs.map .int)),?_,⟨by simp,?_,λ x hx=>?_,sy hw.ne hw.al v3⟩,by simp⟩
  ·rw[pdB,aN,hs,bI]
   simp[hq,hv0,er,ed,A,-z8]
  ·rw[zBW]
   exact⟨hw.nd,by simp,λ x hx y hy e=>by rw[zA8.mp hy]at e;subst e;exact v2 hx⟩
  ·rcases zAm.mp hx with z|z
   ·exact hw.sub x z
   ·rw[zA8.mp z];exact v1
structure Pq(n:Int)(es:List (Int×Int))(left:List Int)(rws:List (List Int)):Prop where
 nd:left.Nodup
 ne:∀r∈rws,r≠[]
 al:∀r∈rws,cO es r=true
 pm:(rws.flatten++left).Perm (upI n)
theorem Pq.inn(P:Pq n es left rws):∀x∈left,0<=x/\x<n:=λ x hx=>m8.mp (P.pm.mem_iff.mp (zA6 _ hx))
theorem Pq.step(P:Pq n es left rws)(hw:Wy n es left ws):Pq n es (left.filter λ x=>!decide (x∈ws)) (rws++[ws]) where
 nd:=P.nd.filter _
 ne:=λ r hr=>(zAm.mp hr).elim (P.ne r) λ h=>by rw[zA8.mp h];exact hw.ne
 al:=λ r hr=>(zAm.mp hr).elim (P.al r) λ h=>by rw[zA8.mp h];exact hw.al
 pm:=by
  rw[zHn];simp only[zBJ,List.flatten_nil,zAi];rw[zBT];exact((aEQ P.nd hw.nd hw.sub).append_left _).trans P.pm
theorem aMh(h0:0<=a)(h1:a<=100000)(hn:n<=60)(N:aCS n es ll)(hz:∀l∈ll,l.length<=7200)(P:Pq n es left rws)(hne:left≠[]):
  ∃ws s7' s8' s9',pdW (pE c a n w ll left rws s6 s7 s8 s9)= .nx (pE c a n w ll (left.filter λ x=>!decide (x∈ws)) (rws++[ws]) (.sh (tupI ws)) s7' s8' s9')/\Wy n es left ws:=by
 have hp:0<left.length:=zDW.mpr hne;have hlen:left.length+rws.flatten.length<=n.toNat:=by
  have:=P.pm.length_eq
  rw[zA5,iU]at this;lia
 obtain⟨r,er,hr⟩:=jw (c:=c) (k:=a+(left.length:Int)) (b:=(left.length:Int)) (by lia) (by lia) (by lia) (by lia);obtain⟨f,ef,hf⟩:=jw (c:=c) (k:=a+70+(left.length:Int)) (b:=n+1) (by lia) (by lia) (by lia) (by lia);obtain⟨d,ed,hd,_⟩:=zZ (l:=left.map .int) (i:=(r:Int)) (by lia) (by simpa using hr);obtain⟨x,hx,rfl⟩:=zAn.mp hd;have W0:Wy n es left [x]:=⟨by simp,by simp,λ y hy=>by rw[zA8.mp hy];exact hx,rfl⟩;have s1:cJ 6 (cM (aA (op2 ixD (fG 4) (aK ao (aA (aB 0) (aA (op2 bh (aB 1) (opA bu (aA (fG 4) aF))) (aA (opA bu (aA (fG 4) aF)) aF))))) aF)) (pE c a n w ll left rws s6 s7 s8 s9)= .nx (pE c a n w ll left rws (.sh (tupI [x])) s7 s8 s9):=by
  simp[er,ed,tupI]
 have s2:cJ 7 (aK ao (aA (aB 0) (aA (op2 bh (op2 bh (aB 1) (cD (.int 70))) (opA bu (aA (fG 4) aF))) (aA (op2 bh (op2 ixD (aB 2) (cD (.int 0))) (cD (.int 1))) aF)))) (pE c a n w ll left rws (.sh (tupI [x])) s7 s8 s9)= .nx (pE c a n w ll left rws (.sh (tupI [x])) (.sh (.int f)) s8 s9):=by
  simp[ef]
 have hr1:=jW (j:=(f:Int)) (by lia) (by lia);obtain⟨ρ',e,ws,s8',s9',rfl,hw,hwl⟩:=nM (a:=gnm 8) (u:=pdB) (ds:=bT 0 (f:Int))
  (λ k ρ=>∃(ws:List Int) (s8 s9:Slot),ρ=pE c a n w ll left rws (.sh (tupI ws)) (.sh (.int f)) s8 s9/\Wy n es left ws/\ws.length<=k+1)
  (by
   rintro i d ρ hd ⟨ws,s8,s9,rfl,hw,hl⟩;obtain⟨rfl,hlt⟩:=j6 hd;obtain⟨ws',s9',e,hw',hl'⟩:=aMj (c:=c) (w:=w) (rws:=rws) (s7:=.sh (.int f)) (s9:=s9) (k:=0+(i:Int)) h0 h1 (by lia) (by lia) N hz hw P.inn (by lia);exact⟨_,e,ws',_,s9',rfl,hw',by lia⟩)
  (ρ:=pE c a n w ll left rws (.sh (tupI [x])) (.sh (.int f)) s8 s9) ⟨[x],s8,s9,rfl,W0,by simp⟩
 have s3:cz (du gO (aA (aB 7) aF)) (gnm 8) pdB (pE c a n w ll left rws (.sh (tupI [x])) (.sh (.int f)) s8 s9)= .nx (pE c a n w ll left rws (.sh (tupI ws)) (.sh (.int f)) s8' s9'):=by
  have hi:du gO (aA (aB 7) aF) (pE c a n w ll left rws (.sh (tupI [x])) (.sh (.int f)) s8 s9)= .ok (bT 0 (f:Int)):=by simp[hr1]
  rw[fU,hi,cC,e]
 have s4:pdL (pE c a n w ll left rws (.sh (tupI ws)) (.sh (.int f)) s8' s9')= .ok (.lst ((left.filter λ x=>!decide (x∈ws)).map .int)):=yU (i:=0) (j:=0) (f:=bK (aB 4)) (by simp[shE,jo]) (.inl rfl) (by lia);have gi:yx (tupI ws)= .ok (tupI ws):=(El.tup (k:=0) El.ints).g;have hrl:rws.length<16777216:=by have:=nP P.ne;lia
 refine⟨ws,.sh (.int f),s8',s9',?_,hw⟩;rw[pdW,aN,s1,bI,aN,s2,bI,aN,s3,bI,aN,oG,s4,cC,bI]
 show((bC (aB 6) (pE c a n w ll (left.filter λ x=>!decide (x∈ws)) rws (.sh (tupI ws)) (.sh (.int f)) s8' s9')).bo λ d=>if (rws.map tupI).length<zAW then .nx (List.set (pE c a n w ll (left.filter λ x=>!decide (x∈ws)) rws (.sh (tupI ws)) (.sh (.int f)) s8' s9') 5 (.ow (.lst (rws.map tupI++[d]))))else .st)=_
 have hv:bC (aB 6) (pE c a n w ll (left.filter λ x=>!decide (x∈ws)) rws (.sh (tupI ws)) (.sh (.int f)) s8' s9')= .ok (tupI ws):=by simp[gi]
 rw[hv,cC,if_pos (by rw[szl,zAE];exact hrl)];simp[zAq]
theorem aAJ(h0:0<=a)(h1:a<=100000)(hn0:0<=n)(hn:n<=60)(N:aCS n es ll)(hz:∀l∈ll,l.length<=7200):
  ∃rws:List (List Int),fC [.int c,.int a,.tup [.int n,w],.lst (ll.map .lst)]= .ok (.tup (rws.map tupI))/\Pq n es [] rws:=by
 have P0:Pq n es (upI n) []:=⟨aCW n,λ _ hr=>(nomatch hr),λ _ hr=>(nomatch hr),zBE _⟩;obtain⟨ρ',m',e,⟨left,rws,s6,s7,s8,s9,rfl,P,hm⟩,ht⟩:=aCV (c:=pdT) (b:=pdW) (λ m ρ=>∃left rws s6 s7 s8 s9,ρ=pE c a n w ll left rws s6 s7 s8 s9/\Pq n es left rws/\m=left.length)
  (by
   rintro m ρ ⟨left,rws,s6,s7,s8,s9,rfl,P,rfl⟩;have hq:=uO left;by_cases hne:left=[]
   ·left;subst hne;have hq':eqR true (.lst []) (.lst [])= .ok (.bl false):=uO [];simp[pdT,hq']
   ·right
    have hi:left.isEmpty=false:=by cases left with
     |nil=>exact absurd rfl hne
     |cons _ _=>rfl
    obtain⟨ws,s7',s8',s9',e,hw⟩:=aMh (c:=c) (w:=w) (s6:=s6) (s7:=s7) (s8:=s8) (s9:=s9) h0 h1 hn N hz P hne;refine⟨by simp[pdT,hq,hi],_,_,e,?_,_,_,_,_,_,_,rfl,P.step hw,rfl⟩
    have:=aG2 hw.nd hw.sub
    have:=zDW.mpr hw.ne
    lia)
  (m:=(upI n).length) (ρ:=pE c a n w ll (upI n) [] .no .no .no .no) (by rw[iU];lia) ⟨_,_,_,_,_,_,rfl,P0,rfl⟩
 have hle:left=[]:=by
  have hq:=uO left
  have:pdT (pE c a n w ll left rws s6 s7 s8 s9)= .ok (!left.isEmpty):=by simp[pdT,hq]
  rw[this]at ht;cases left with
  |nil=>rfl
  |cons _ _=>cases ht
 subst hle;refine⟨rws,?_,P⟩;have st:az 10 [.int c,.int a,.tup [.int n,w],.lst (ll.map .lst)]=[.sh (.int c),.sh (.int a),.sh (.tup [.int n,w]),.sh (.lst (ll.map .lst)),.no,.no,.no,.no,.no,.no]:=rfl;have hlr:=aF6 (f:=op2 ixD (aB 2) (cD (.int 0))) (ρ:=[.sh (.int c),.sh (.int a),.sh (.tup [.int n,w]),.sh (.lst (ll.map .lst)),.no,.no,.no,.no,.no,.no]) (n:=n) (by simp) hn0 hn;rw[yG]at hlr;have c0:lF 4 (lrD (op2 ixD (aB 2) (cD (.int 0)))) [.sh (.int c),.sh (.int a),.sh (.tup [.int n,w]),.sh (.lst (ll.map .lst)),.no,.no,.no,.no,.no,.no]= .nx [.sh (.int c),.sh (.int a),.sh (.tup [.int n,w]),.sh (.lst (ll.map .lst)),.nw (.lst ((upI n).map .int)),.no,.no,.no,.no,.no]:=by
  rw[oG,hlr,cC];rfl
 have c1:mW 5 (iz aF) [.sh (.int c),.sh (.int a),.sh (.tup [.int n,w]),.sh (.lst (ll.map .lst)),.nw (.lst ((upI n).map .int)),.no,.no,.no,.no,.no]= .nx (pE c a n w ll (upI n) [] .no .no .no .no):=by simp
 simp only[fC,yj,bA,st];rw[aN,c0,bI,aN,c1,bI,aN,e,bI];simp
end
inductive Cn(es:List (Int×Int))(a:Int):Int->Prop where
 |refl:Cn es a a
 |step {b c:Int} (h:Cn es a b) (e:(b,c)∈es):Cn es a c
theorem Cn.trans{es:List (Int×Int)}{a b c:Int}(h:Cn es a b)(k:Cn es b c):Cn es a c:=by
 induction k with
 |refl=>exact h
 |step _ e ih=>exact ih.step e
def Sym(es:List (Int×Int)):Prop:=∀a b,(a,b)∈es->(b,a)∈es
theorem aCF(ps:List (Int×Int)):Sym (dbl ps):=λ a b h=>ju.mpr (ju.mp h).symm
theorem Cn.symm{es:List (Int×Int)}(S:Sym es){a b:Int}(h:Cn es a b):Cn es b a:=by
 induction h with
 |refl=>exact .refl
 |step _ e ih=>exact Cn.trans (.step .refl (S _ _ e)) ih
theorem Cn.inn{es:List (Int×Int)}{n a b:Int}(hin:∀x y,(x,y)∈es->0<=y/\y<n)(h:Cn es a b)(ha:0<=a/\a<n):0<=b/\b<n:=by
 induction h with
 |refl=>exact ha
 |step _ e _=>exact hin _ _ e
theorem aBG{es:List (Int×Int)}:∀{l m:List Int},cO es (l++m)=true->cO es l=true
 |[],_,_=>rfl
 |[a],_,_=>rfl
 |a::b::r,m,h=>by
  rw[zCd,zCd,cO,zAK]at h;rw[cO,zAK];exact⟨h.1,aBG (l:=b::r) (by simpa using h.2)⟩
structure aOi(es:List (Int×Int))(a b:Int)(l:List Int):Prop where
 hd:l.head?=some a
 lt:l.getLast?=some b
 al:cO es l=true
theorem Cn.path{es:List (Int×Int)}{a b:Int}(h:Cn es a b):∃l,aOi es a b l/\l.Nodup:=by
 induction h with
 |refl=>exact⟨[a],⟨rfl,rfl,rfl⟩,by simp⟩
 |step _ e ih=>
  rename_i b c _;obtain⟨l,P,nd⟩:=ih;have hne:l≠[]:=by intro z;have:=P.hd;rw[z]at this;cases this
  by_cases hc:c∈l
  ·obtain⟨l1,l2,rfl⟩:=List.append_of_mem hc
   refine⟨l1++[c],⟨?_,by simp,aBG (m:=l2) (by rw[zBT];exact P.al)⟩,?_⟩
   ·have:=P.hd
    cases l1 with
    |nil=>simpa using this
    |cons x r=>simpa using this
   ·have e2:l1++c::l2=(l1++[c])++l2:=by simp
    rw[e2]at nd;exact(zBW.mp nd).1
  ·refine⟨l++[c],⟨?_,by simp,?_⟩,?_⟩
   ·have:=P.hd
    cases l with
    |nil=>exact absurd rfl hne
    |cons x r=>simpa using this
   ·refine sy hne P.al ?_
    have:=P.lt
    rw[List.getLast?_eq_some_getLast hne]at this;rw[zAa this];exact e
   ·rw[zBW]
    exact⟨nd,by simp,λ x hx y hy z=>by rw[zA8.mp hy]at z;subst z;exact hc hx⟩
theorem aCm{es:List (Int×Int)}{a:Int}:∀{l:List Int},cO es (a::l)=true->∀x∈a::l,Cn es a x
 |[],_,x,hx=>by rw[zA8.mp hx];exact .refl
 |b::r,h,x,hx=>by
  rw[cO,zAK,decide_eq_true_eq]at h;rcases zAN.mp hx with rfl|hx
  ·exact .refl
  ·exact Cn.trans (.step .refl h.1) (aCm h.2 x hx)
def prB(p:Prop):Bool:=@decide p (zFb p)
theorem aB8{p:Prop}:prB p=true↔p:=@decide_eq_true_iff p (zFb p)
def bj(n:Int)(es:List (Int×Int))(a:Int):List Int:=(upI n).filter λ b=>prB (Cn es a b)
theorem yc{n a b:Int}{es:List (Int×Int)}:b∈bj n es a↔(0<=b/\b<n)/\Cn es a b:=by
 unfold bj;rw[zBN,m8,aB8]
def cY(es:List (Int×Int))(a:Int):Bool:=prB (∀b,0<=b->Cn es a b->a<=b)
theorem vN{es:List (Int×Int)}{a:Int}:cY es a=true↔∀b,0<=b->Cn es a b->a<=b:=aB8
def jg(n:Int)(es:List (Int×Int)):List (List Int):=((upI n).filter (cY es)).map (bj n es)
theorem aBH(n:Int):(upI n).Pairwise (·< ·):=by
 unfold upI;rw[zDg];exact List.pairwise_lt_range.imp λ h=>by lia
theorem aED:∀{l m:List Int},l.Pairwise (·< ·)->m.Pairwise (·< ·)->(∀x,x∈l↔x∈m)->l=m
 |[],[],_,_,_=>rfl
 |[],b::m,_,_,h=>by have:=(h b).mpr zAI;cases this
 |a::l,[],_,_,h=>by have:=(h a).mp zAI;cases this
 |a::l,b::m,h1,h2,h=>by
  obtain⟨p1,p2⟩:=zAf.mp h1;obtain⟨q1,q2⟩:=zAf.mp h2;have e:a=b:=by
   rcases zAN.mp ((h a).mp zAI)with z|z
   ·exact z
   ·rcases zAN.mp ((h b).mpr zAI)with y|y
    ·exact y.symm
    ·have:=q1 a z;have:=p1 b y;lia
  subst e;rw[aED p2 q2 λ x=>?_];constructor
  ·intro hx
   rcases zAN.mp ((h x).mp (zAL _ hx))with z|z
   ·subst z;have:=p1 x hx;lia
   ·exact z
  ·intro hx
   rcases zAN.mp ((h x).mpr (zAL _ hx))with z|z
   ·subst z;have:=q1 x hx;lia
   ·exact z
theorem tU{l:List Int}(nd:l.Nodup):(sortI l).Pairwise (·< ·):=by
 have h1:=iB l;have h2:(sortI l).Nodup:=(sortI_perm l).nodup_iff.mpr nd;rw[zC4]at h2;exact(h1.and h2).imp λ⟨a,b⟩=>by lia
theorem aDx{n a:Int}{es:List (Int×Int)}{l:List Int}(nd:l.Nodup)(h:∀x,x∈l↔(0<=x/\x<n)/\Cn es a x):sortI l=bj n es a:=
 aED (tU nd) ((aBH n).filter _) λ x=>by rw[(sortI_perm l).mem_iff,h,yc]
def pwI:En->Ou:=ifS (tsb (op2 (inR true) (aB 5) (jA 2))) (qT 2 (bC (aB 5))) Ou.nx
def pwW:En->Ou:=aQ (lF 4 (bC (op2 ixD (jA 2) (aB 3)))) (aQ (cz (bK (op2 ixD (aB 0) (fG 4))) (gnm 5) pwI) (aLO (i2 (λ _ _=>true) λ a b=>.int (a+b)) 3 (cD (.int 1))))
def pwT:En->Rs Bool:=tsb (op2 ltD (aB 3) (opA bu (aA (jA 2) aF)))
theorem aAB:iD=aQ (mW 2 (iz (aA (bC (aB 1)) aF))) (aQ (cJ 3 (cD (.int 0))) (aQ (uh pwT pwW) (retS (opA cu (aA (opA v9 (aA (jA 2) aF)) aF))))):=rfl
abbrev wE(ll:List (List D))(a:Int)(part:List Int)(k:Int)(s4 s5:Slot):En:=[.sh (.lst (ll.map .lst)),.sh (.int a),.ow (.lst (part.map .int)),.sh (.int k),s4,s5]
structure Pw(n:Int)(es:List (Int×Int))(a:Int)(part:List Int):Prop where
 nd:part.Nodup
 cn:∀x∈part,Cn es a x
 inn:∀x∈part,0<=x/\x<n
 st:a∈part
section
variable{n:Int}{es:List (Int×Int)}{ll:List (List D)}{a k:Int}{part:List Int}{s4 s5:Slot}
theorem Pw.len(P:Pw n es a part):part.length<=n.toNat:=by
 have:=sub_len (l':=upI n) P.nd λ x hx=>m8.mpr (P.inn x hx)
 rwa [iU]at this
theorem yL(hn:n<=60)(hin:∀x y,(x,y)∈es->0<=y/\y<n){p:Int}:∀(us:List Int) (part:List Int) (s5:Slot),(∀u∈us,(p,u)∈es)->p∈part->Pw n es a part->
  ∃part' s5',forL (gnm 5) pwI (us.map .int) (wE ll a part k s4 s5)= .nx (wE ll a part' k s4 s5')/\Pw n es a part'/\(∃m,part'=part++m)/\∀u∈us,u∈part'
 |[],part,s5,_,_,P=>⟨part,s5,rfl,P,⟨[],by simp⟩,λ u hu=>by cases hu⟩
 |u::us,part,s5,h,hp,P=>by
  have hu:=h u zAI;have hl:=P.len;rw[zAG,eG,yw,oX]
  show∃part' s5',(pwI (wE ll a part k s4 (.sh (.int u)))).tn _=_/\_
  have hi:=o5 true u part;by_cases hm:u∈part
  ·have e:pwI (wE ll a part k s4 (.sh (.int u)))= .nx (wE ll a part k s4 (.sh (.int u))):=by simp[pwI,hi,hm]
   rw[e,rD];obtain⟨part',s5',e2,P',⟨m,hm'⟩,h2⟩:=yL hn hin us part (.sh (.int u)) (λ v hv=>h v (zAL _ hv)) hp P;refine⟨part',s5',e2,P',⟨m,hm'⟩,λ v hv=>?_⟩;rcases zAN.mp hv with rfl|hv
   ·rw[hm'];exact zAX _ hm
   ·exact h2 v hv
  ·have hz:part.length<16777216:=by lia
   have e:pwI (wE ll a part k s4 (.sh (.int u)))= .nx (wE ll a (part++[u]) k s4 (.sh (.int u))):=by simp[pwI,hi,hm,qT,hz]
   rw[e,rD];have P1:Pw n es a (part++[u]):=by
    refine⟨?_,λ x hx=>?_,λ x hx=>?_,zAX _ P.st⟩
    ·rw[zBW]
     exact⟨P.nd,by simp,λ x hx y hy z=>by rw[zA8.mp hy]at z;subst z;exact hm hx⟩
    ·rcases zAm.mp hx with hx|hx
     ·exact P.cn x hx
     ·rw[zA8.mp hx];exact(P.cn p hp).step hu
    ·rcases zAm.mp hx with hx|hx
     ·exact P.inn x hx
     ·rw[zA8.mp hx];exact hin _ _ hu
   obtain⟨part',s5',e2,P',⟨m,hm'⟩,h2⟩:=yL hn hin us (part++[u]) (.sh (.int u)) (λ v hv=>h v (zAL _ hv)) (zAX _ hp) P1;refine⟨part',s5',e2,P',⟨[u]++m,by rw[hm',zBT]⟩,λ v hv=>?_⟩;rcases zAN.mp hv with rfl|hv
   ·rw[hm'];exact zAX _ (by simp)
   ·exact h2 v hv
theorem aB9(hn:n<=60)(N:aCS n es ll)(hin:∀x y,(x,y)∈es->0<=y/\y<n)(h0:0<=a)(h1:a<n):iQ [.lst (ll.map .lst),.int a]= .ok (tupI (bj n es a)):=by
 have st:az 6 [.lst (ll.map .lst),.int a]=[.sh (.lst (ll.map .lst)),.sh (.int a),.no,.no,.no,.no]:=rfl;obtain⟨ρ',m',e,⟨part,k,s4,s5,rfl,P,hk,hcl,_⟩,ht⟩:=aCV (c:=pwT) (b:=pwW)
  (λ m ρ=>∃(part:List Int) (k:Nat) (s4 s5:Slot),ρ=wE ll a part k s4 s5/\Pw n es a part/\k<=part.length/\(∀i x,i<k->part[i]? =some x->∀y,(x,y)∈es->y∈part)/\m=n.toNat-k)
  (by
   rintro m ρ ⟨part,k,s4,s5,rfl,P,hk,hcl,rfl⟩;have hl:=P.len;by_cases hlt:k<part.length
   ·right
    have hx:=zAB hlt;have ha:atD (part.map .int) (k:Int)= .ok (.int part[k]):=gY (by rw[zAT,hx];rfl);have hp:=P.inn _ (zBR hlt);obtain⟨us,e1,e2⟩:=N.item _ hp.1 hp.2;obtain⟨part',s5',e3,P',⟨m,hm⟩,h2⟩:=yL (ll:=ll) (k:=(k:Int)) (s4:=.nw (.int part[k])) hn hin us part s5 (λ u hu=>(e2 u).mp hu) (zBR hlt) P;have c0:pwT (wE ll a part k s4 s5)= .ok true:=by simp[pwT,hlt]
    have c1:lF 4 (bC (op2 ixD (jA 2) (aB 3))) (wE ll a part k s4 s5)= .nx (wE ll a part k (.nw (.int part[k])) s5):=by simp[ha]
    have c2:cz (bK (op2 ixD (aB 0) (fG 4))) (gnm 5) pwI (wE ll a part k (.nw (.int part[k])) s5)= .nx (wE ll a part' k (.nw (.int part[k])) s5'):=by
     have hi:bK (op2 ixD (aB 0) (fG 4)) (wE ll a part k (.nw (.int part[k])) s5)= .ok (us.map .int):=by simp[e1]
     rw[fU,hi,cC,e3]
    have c3:aLO (i2 (λ _ _=>true) λ a b=>.int (a+b)) 3 (cD (.int 1)) (wE ll a part' k (.nw (.int part[k])) s5')= .nx (wE ll a part' ((k:Int)+1) (.nw (.int part[k])) s5'):=rfl;refine⟨c0,wE ll a part' ((k+1:Nat):Int) (.nw (.int part[k])) s5',n.toNat-(k+1),?_,by lia,part',k+1,_,_,rfl,P',?_,λ i x hi hx' y hy=>?_,rfl⟩
    ·rw[pwW,aN,c1,bI,aN,c2,bI,c3]
     rfl
    ·rw[hm,zA5];lia
    ·by_cases hik:i=k
     ·subst hik
      rw[hm,zBB hlt,hx]at hx';cases hx';exact h2 y ((e2 y).mpr hy)
     ·rw[hm,zBB (by lia)]at hx'
      rw[hm];exact zAX _ (hcl i x (by lia) hx' y hy)
   ·left
    simp[pwT,show¬k<part.length from hlt])
  (m:=n.toNat-0) (ρ:=wE ll a [a] (0:Nat) .no .no) (by lia) ⟨[a],0,.no,.no,rfl,⟨by simp,λ x hx=>by rw[zA8.mp hx];exact .refl,λ x hx=>by rw[zA8.mp hx];exact⟨h0,h1⟩,by simp⟩,by simp,λ i x hi=>absurd hi (zEP _),rfl⟩
 have hlt:¬k<part.length:=λ z=>by
  have:pwT (wE ll a part k s4 s5)= .ok true:=by simp[pwT,z]
  rw[this]at ht;cases ht
 have go:∀x,Cn es a x->x∈part:=λ x hc=>by
  induction hc with
  |refl=>exact P.st
  |step hb he ih=>
   obtain⟨i,hi,hx⟩:=zCh ih;exact hcl i _ (by lia) (by rw[zAB hi,hx]) _ he
 have hall:∀x,x∈part↔(0<=x/\x<n)/\Cn es a x:=λ x=>⟨λ hx=>⟨P.inn x hx,P.cn x hx⟩,λ h=>go x h.2⟩
 have hs:=aAZ (l:=part) (by have:=P.len;lia);rw[aDx P.nd hall]at hs;have c0:mW 2 (iz (aA (bC (aB 1)) aF)) [.sh (.lst (ll.map .lst)),.sh (.int a),.no,.no,.no,.no]= .nx [.sh (.lst (ll.map .lst)),.sh (.int a),.ow (.lst [.int a]),.no,.no,.no]:=by simp
 have c1:cJ 3 (cD (.int 0)) [.sh (.lst (ll.map .lst)),.sh (.int a),.ow (.lst [.int a]),.no,.no,.no]= .nx (wE ll a [a] (0:Nat) .no .no):=rfl;simp only[iQ,aAB,bA,st];rw[aN,c0,bI,aN,c1,bI,aN,e,bI];have hd:jA 2 (wE ll a part k s4 s5)= .ok (.lst (part.map .int)):=rfl;rw[gU,ik,bO,ik,bO,hd];simp[hs,tupI]
end
def paF:En->Ou:=aLS 3 (bC (aB 6))
def paB:En->Ou:=ifS (tsb (op2 (inX true) (aB 4) (jA 3))) (aQ (cJ 5 (aK iQ (aA (aB 0) (aA (aB 4) aF)))) (aQ (qT 2 (bC (aB 5))) (cz (bK (aB 5)) (gnm 6) paF))) Ou.nx
theorem wY:fK=aQ (mW 2 (iz aF)) (aQ (mW 3 (cD (.set []))) (aQ (cz (bK (aB 1)) (gnm 4) paB) (retS (pJ 2)))):=rfl
abbrev qE(ll:List (List D))(w:D)(rws:List (List Int))(seen:List Int)(s4 s5 s6:Slot):En:=[.sh (.lst (ll.map .lst)),.sh w,.ow (.lst (rws.map tupI)),.ow (.set seen),s4,s5,s6]
section
variable{n:Int}{es:List (Int×Int)}{ll:List (List D)}{w:D}{rws:List (List Int)}{s4 s5 s6:Slot}
theorem aCo:∀(us:List Int) (seen:List Int) (s6:Slot),(∀u∈us,0<=u/\u<n)->seen.Nodup->(∀u∈seen,0<=u/\u<n)->n<=60->
  ∃seen' s6',forL (gnm 6) paF (us.map .int) (qE ll w rws seen s4 s5 s6)= .nx (qE ll w rws seen' s4 s5 s6')/\seen'.Nodup/\(∀x,x∈seen'↔x∈seen\/x∈us)/\(∀u∈seen',0<=u/\u<n)
 |[],seen,s6,_,nd,hin,_=>⟨seen,s6,rfl,nd,λ x=>by simp,hin⟩
 |u::us,seen,s6,h,nd,hin,hn=>by
  have hl:seen.length<=n.toNat:=by
   have:=sub_len (l':=upI n) nd λ x hx=>m8.mpr (hin x hx)
   rwa [iU]at this
  have nd':=aD4 (z:=u) nd;have hm':∀x,x∈zAs seen u↔x∈seen\/x=u:=λ x=>by
   have:=aAz seen u x
   rw[zCU]at this;simpa using this.symm
  obtain⟨seen',s6',e,q1,q2,q3⟩:=aCo us (zAs seen u) (.sh (.int u)) (λ v hv=>h v (zAL _ hv)) nd' (λ x hx=>by
   rcases(hm' x).mp hx with z|z
   ·exact hin x z
   ·rw[z];exact h u zAI) hn
  refine⟨seen',s6',?_,q1,λ x=>?_,q3⟩
  ·rw[zAG,eG,yw,oX]
   show(paF (qE ll w rws seen s4 s5 (.sh (.int u)))).tn _=_
   have e1:paF (qE ll w rws seen s4 s5 (.sh (.int u)))= .nx (qE ll w rws (zAs seen u) s4 s5 (.sh (.int u))):=by
    have hv:bC (aB 6) (qE ll w rws seen s4 s5 (.sh (.int u)))= .ok (.int u):=by simp
    show((bC (aB 6) (qE ll w rws seen s4 s5 (.sh (.int u)))).bo λ d=>aGs (qE ll w rws seen s4 s5 (.sh (.int u))) 3 seen d)=_
    rw[hv,cC];unfold aGs;dsimp only;rw[if_pos (by lia)];rfl
   rw[e1,rD,e]
  ·rw[q2,hm',zAN]
   constructor
   ·rintro((z|z)|z)
    ·exact .inl z
    ·exact .inr (.inl z)
    ·exact .inr (.inr z)
   ·rintro(z|z|z)
    ·exact .inl (.inl z)
    ·exact .inl (.inr z)
    ·exact .inr z
theorem aFB(k:Nat):upI ((k+1:Nat):Int)=upI (k:Int)++[(k:Int)]:=by
 unfold upI;rw[zC2,zC2,zIo,zAq];rfl
theorem yQ(hn0:0<=n)(hn:n<=60)(S:Sym es)(N:aCS n es ll)(hin:∀x y,(x,y)∈es->0<=y/\y<n):fL [.lst (ll.map .lst),.lst (bT 0 n)]= .ok (.lst ((jg n es).map tupI)):=by
 have st:az 7 [.lst (ll.map .lst),.lst (bT 0 n)]=[.sh (.lst (ll.map .lst)),.sh (.lst (bT 0 n)),.no,.no,.no,.no,.no]:=rfl;obtain⟨ρ',e,seen,s4,s5,s6,rfl,_⟩:=nM (a:=gnm 4) (u:=paB) (ds:=bT 0 n)
  (λ k ρ=>∃(seen:List Int) (s4 s5 s6:Slot),ρ=qE ll (.lst (bT 0 n)) (((upI (k:Int)).filter (cY es)).map (bj n es)) seen s4 s5 s6/\seen.Nodup/\(∀x,x∈seen↔(0<=x/\x<n)/\∃j,(0<=j/\j<(k:Int))/\Cn es j x))
  (by
   rintro i d ρ hd ⟨seen,s4,s5,s6,rfl,nd,hs⟩;obtain⟨rfl,hlt⟩:=j6 hd;rw[Int.zero_add]at hlt ⊢;have hk:0<=(i:Int)/\(i:Int)<n:=⟨by lia,hlt⟩;have hg:okE (gnm 4 (.int (i:Int)) (qE ll (.lst (bT 0 n)) (((upI (i:Int)).filter (cY es)).map (bj n es)) seen s4 s5 s6)) (λ ρ1=>paB ρ1)=paB (qE ll (.lst (bT 0 n)) (((upI (i:Int)).filter (cY es)).map (bj n es)) seen (.sh (.int (i:Int))) s5 s6):=rfl;rw[hg];have hlb:cY es (i:Int)= !decide ((i:Int)∈seen):=by
    rw[zCU,vN];constructor
    ·intro h
     simp only[zDC,decide_eq_false_iff_not];intro hm;obtain⟨_,j,hj,hc⟩:=(hs _).mp hm
     have:=h j hj.1 (hc.symm S)
     lia
    ·intro h b hb hc
     simp only[zDC,decide_eq_false_iff_not]at h
     have:=λ z:b<(i:Int)=>h ((hs _).mpr ⟨hk,b,⟨hb,z⟩,hc.symm S⟩)
     lia
   have hx:inX true (.int (i:Int)) (.set seen)= .ok (.bl (!decide ((i:Int)∈seen))):=rfl;have hrl:(((upI (i:Int)).filter (cY es)).map (bj n es)).length<16777216:=by
    rw[zAE]
    have:=zBU (cY es) (upI (i:Int))
    rw[iU]at this;lia
   by_cases hm:(i:Int)∈seen
   ·have hb:paB (qE ll (.lst (bT 0 n)) (((upI (i:Int)).filter (cY es)).map (bj n es)) seen (.sh (.int (i:Int))) s5 s6)= .nx (qE ll (.lst (bT 0 n)) (((upI (i:Int)).filter (cY es)).map (bj n es)) seen (.sh (.int (i:Int))) s5 s6):=by
     simp[paB,hx,hm]
    refine⟨_,hb,seen,.sh (.int (i:Int)),s5,s6,?_,nd,λ x=>?_⟩
    ·rw[aFB,zHw,zDu,hlb]
     simp[hm]
    ·rw[hs]
     constructor
     ·rintro⟨h1,j,h2,h3⟩
      exact⟨h1,j,⟨h2.1,by lia⟩,h3⟩
     ·rintro⟨h1,j,h2,h3⟩
      by_cases hj:j<(i:Int)
      ·exact⟨h1,j,⟨h2.1,hj⟩,h3⟩
      ·have hj':j=(i:Int):=by lia
       subst hj';obtain⟨_,j',h4,h5⟩:=(hs _).mp hm;exact⟨h1,j',h4,h5.trans h3⟩
   ·have hp:=aB9 hn N hin hk.1 hk.2
    have hsin:∀u∈seen,0<=u/\u<n:=λ u hu=>((hs u).mp hu).1
    obtain⟨seen',s6',e,q1,q2,q3⟩:=aCo (ll:=ll) (w:=.lst (bT 0 n)) (rws:=((upI (i:Int)).filter (cY es)).map (bj n es)++[bj n es (i:Int)]) (s4:=.sh (.int (i:Int))) (s5:=.sh (tupI (bj n es (i:Int)))) (bj n es (i:Int)) seen s6 (λ u hu=>(yc.mp hu).1) nd hsin hn;have gi:yx (tupI (bj n es (i:Int)))= .ok (tupI (bj n es (i:Int))):=(El.tup (k:=0) El.ints).g;have hb:paB (qE ll (.lst (bT 0 n)) (((upI (i:Int)).filter (cY es)).map (bj n es)) seen (.sh (.int (i:Int))) s5 s6)= .nx (qE ll (.lst (bT 0 n)) (((upI (i:Int)).filter (cY es)).map (bj n es)++[bj n es (i:Int)]) seen' (.sh (.int (i:Int))) (.sh (tupI (bj n es (i:Int)))) s6'):=by
     have t1:tsb (op2 (inX true) (aB 4) (jA 3)) (qE ll (.lst (bT 0 n)) (((upI (i:Int)).filter (cY es)).map (bj n es)) seen (.sh (.int (i:Int))) s5 s6)= .ok true:=by simp[hx,hm]
     have t2:cJ 5 (aK iQ (aA (aB 0) (aA (aB 4) aF))) (qE ll (.lst (bT 0 n)) (((upI (i:Int)).filter (cY es)).map (bj n es)) seen (.sh (.int (i:Int))) s5 s6)= .nx (qE ll (.lst (bT 0 n)) (((upI (i:Int)).filter (cY es)).map (bj n es)) seen (.sh (.int (i:Int))) (.sh (tupI (bj n es (i:Int)))) s6):=by simp[hp]
     have t3:qT 2 (bC (aB 5)) (qE ll (.lst (bT 0 n)) (((upI (i:Int)).filter (cY es)).map (bj n es)) seen (.sh (.int (i:Int))) (.sh (tupI (bj n es (i:Int)))) s6)= .nx (qE ll (.lst (bT 0 n)) (((upI (i:Int)).filter (cY es)).map (bj n es)++[bj n es (i:Int)]) seen (.sh (.int (i:Int))) (.sh (tupI (bj n es (i:Int)))) s6):=by
      generalize ((upI (i:Int)).filter (cY es)).map (bj n es)=R at hrl ⊢;have hv:bC (aB 5) (qE ll (.lst (bT 0 n)) R seen (.sh (.int (i:Int))) (.sh (tupI (bj n es (i:Int)))) s6)= .ok (tupI (bj n es (i:Int))):=by simp[gi]
      show((bC (aB 5) (qE ll (.lst (bT 0 n)) R seen (.sh (.int (i:Int))) (.sh (tupI (bj n es (i:Int)))) s6)).bo λ d=>if (R.map tupI).length<zAW then .nx [.sh (.lst (ll.map .lst)),.sh (.lst (bT 0 n)),.ow (.lst (R.map tupI++[d])),.ow (.set seen),.sh (.int (i:Int)),.sh (tupI (bj n es (i:Int))),s6]else .st)=_
      rw[hv,cC,if_pos (by rw[szl,zAE];exact hrl)];simp[zAq]
     have t4:bK (aB 5) (qE ll (.lst (bT 0 n)) (((upI (i:Int)).filter (cY es)).map (bj n es)++[bj n es (i:Int)]) seen (.sh (.int (i:Int))) (.sh (tupI (bj n es (i:Int)))) s6)= .ok ((bj n es (i:Int)).map .int):=by simp[tupI]
     rw[paB,yt,t1,cC,if_pos rfl,aN,t2,bI,aN,t3,bI,fU,t4,cC,e]
    refine⟨_,hb,seen',.sh (.int (i:Int)),.sh (tupI (bj n es (i:Int))),s6',?_,q1,λ x=>?_⟩
    ·rw[aFB,zHw,zDu,hlb]
     simp[hm]
    ·rw[q2,hs,yc]
     constructor
     ·rintro(⟨h1,j,h2,h3⟩|⟨h1,h2⟩)
      ·exact⟨h1,j,⟨h2.1,by lia⟩,h3⟩
      ·exact⟨h1,(i:Int),⟨by lia,by lia⟩,h2⟩
     ·rintro⟨h1,j,h2,h3⟩
      by_cases hj:j<(i:Int)
      ·exact .inl ⟨h1,j,⟨h2.1,hj⟩,h3⟩
      ·have hj':j=(i:Int):=by lia
       subst hj';exact .inr ⟨h1,h3⟩)
  (ρ:=qE ll (.lst (bT 0 n)) [] [] .no .no .no) ⟨[],.no,.no,.no,rfl,zIs,λ x=>⟨λ h=>(nomatch h),λ⟨_,j,h,_⟩=>absurd h.2 (by have:=h.1;lia)⟩⟩
 have c0:mW 2 (iz aF) [.sh (.lst (ll.map .lst)),.sh (.lst (bT 0 n)),.no,.no,.no,.no,.no]= .nx [.sh (.lst (ll.map .lst)),.sh (.lst (bT 0 n)),.ow (.lst []),.no,.no,.no,.no]:=by simp
 have c1:mW 3 (cD (.set [])) [.sh (.lst (ll.map .lst)),.sh (.lst (bT 0 n)),.ow (.lst []),.no,.no,.no,.no]= .nx (qE ll (.lst (bT 0 n)) [] [] .no .no .no):=rfl;have hi:bK (aB 1) (qE ll (.lst (bT 0 n)) [] [] .no .no .no)= .ok (bT 0 n):=by simp
 have hln:(((bT 0 n).length:Nat):Int)=n:=by rw[gM];lia
 rw[hln]at e;simp only[fL,wY,bA,st];rw[aN,c0,bI,aN,c1,bI,aN,fU,hi,cC,e,bI];simp[jg]
theorem aIG{ps:List (Int×Int)}(h:Ow n ps)(low:∀p∈ps,p.1<p.2):ql [owD n ps]= .ok (.lst ((jg n (dbl ps)).map tupI)):=by
 obtain⟨ll,e,N⟩:=wR h;have st:az 1 [owD n ps]=[.sh (owD n ps)]:=rfl;have hp:=yQ h.n0 h.n1 (aCF ps) N (λ x y m=>by
  rcases ju.mp m with z|z
  ·have:=h.pr _ z;exact⟨this.2.2.1,this.2.2.2.1⟩
  ·have:=h.pr _ z;exact⟨this.1,this.2.1⟩)
 have hlr:=aF6 (f:=op2 ixD (aB 0) (cD (.int 0))) (ρ:=[.sh (owD n ps)]) (n:=n) (by simp[owD]) h.n0 h.n1;have c0:dW (aK bQ (aA (aB 0) aF)) [.sh (owD n ps)]= .nx [.sh (owD n ps)]:=by simp[cZ h low]
 have c1:aK fL (aA (aK fD (aA (aB 0) aF)) (aA (lrD (op2 ixD (aB 0) (cD (.int 0)))) aF)) [.sh (owD n ps)]= .ok (.lst ((jg n (dbl ps)).map tupI)):=by
  rw[eQ,bO,eQ,bO,bO,hlr];simp[e,hp]
 have df:qi=aQ (dW (aK bQ (aA (aB 0) aF))) (retS (aK fL (aA (aK fD (aA (aB 0) aF)) (aA (lrD (op2 ixD (aB 0) (cD (.int 0)))) aF)))):=rfl;simp only[ql,df,bA,st];rw[aN,c0,bI,gU,c1];rfl
end
def lsB:En->Ou:=aQ (aEM 1 (aB 3) (opA (mmD λ i j=>if j<i then j else i) (aA (op2 ixD (jA 1) (aB 3)) (aA (op2 ixD (jA 1) (aB 4)) aF)))) (aEM 1 (aB 4) (bC (op2 ixD (jA 1) (aB 3))))
def lsO:En->Ou:=cz (bK (op2 ixD (aB 0) (cD (.int 1)))) (dU 2 (aW (gnm 3) (aW (gnm 4) dh))) lsB
def lsI:En->Rs D:=opA cu (aA (lcD (du gO (aA (op2 ixD (aB 1) (cD (.int 0))) aF)) [none,some 2,some 0] (gnm 0) (tsb (op2 (eqR false) (op2 ixD (aB 1) (aB 0)) (aB 2))) (bC (aB 0))) aF)
def lsR:En->Rs D:=lcD (bK (opA gK (aA (aB 1) aF))) [none,some 0,some 1] (gnm 0) cU lsI
theorem aAI:iH=aQ (mW 1 (lrD (op2 ixD (aB 0) (cD (.int 0))))) (aQ (cz (du gO (aA (op2 ixD (aB 0) (cD (.int 0))) aF)) (gnm 2) lsO) (retS lsR)):=rfl
def gL(L:List Int)(i:Int):Int:=L.getD i.toNat 0
def rG(L:List Int)(p:Int×Int):List Int:=(L.set p.1.toNat (mn (gL L p.1) (gL L p.2))).set p.2.toNat (mn (gL L p.1) (gL L p.2))
theorem aIh(L:List Int)(p:Int×Int):(rG L p).length=L.length:=by unfold rG;rw[zBA,zBA]
theorem aOX(a b:Int):mn a b<=a/\mn a b<=b/\(mn a b=a\/mn a b=b):=by
 unfold mn;split<;>lia
theorem aEp{L:List Int}{i:Nat}{v:Int}(hi:i<L.length)(x:Int)(h0:0<=x):gL (L.set i v) x=if x.toNat=i then v else gL L x:=by
 unfold gL;rw[zA1,zA1];split
 ·rename_i e
  rw[e,zB3 hi];rfl
 ·rename_i e
  rw[zBK (λ z=>e z.symm)]
theorem aLA{L:List Int}{p:Int×Int}(h1:0<=p.1/\p.1.toNat<L.length)(h2:0<=p.2/\p.2.toNat<L.length)(x:Int)(h0:0<=x):gL (rG L p) x=if x=p.1\/x=p.2 then mn (gL L p.1) (gL L p.2)else gL L x:=by
 unfold rG;rw[aEp (by rw[zBA];exact h2.2) x h0,aEp h1.2 x h0];by_cases e2:x=p.2
 ·subst e2;simp
 ·have:x.toNat≠p.2.toNat:=by lia
  rw[if_neg this];by_cases e1:x=p.1
  ·subst e1;simp
  ·have:x.toNat≠p.1.toNat:=by lia
   rw[if_neg this,if_neg (by lia)]
structure Lb(n:Int)(es:List (Int×Int))(L:List Int):Prop where
 len:L.length=n.toNat
 cn:∀x,0<=x->x<n->Cn es x (gL L x)/\gL L x<=x/\0<=gL L x
section
variable{n:Int}{ps:List (Int×Int)}{L:List Int}{s2 s3 s4:Slot}
theorem Lb.join(B:Lb n (dbl ps) L){p:Int×Int}(hp:p∈ps)(h:0<=p.1/\p.1<n/\0<=p.2/\p.2<n):Lb n (dbl ps) (rG L p)/\(∀x,0<=x->x<n->gL (rG L p) x<=gL L x)/\gL (rG L p) p.1<=gL L p.2/\gL (rG L p) p.2<=gL L p.1:=by
 have hl:=B.len;have g:=λ x h0=>aLA (L:=L) (p:=p) ⟨h.1,by lia⟩ ⟨h.2.2.1,by lia⟩ x h0
 obtain⟨m1,m2,m3⟩:=aOX (gL L p.1) (gL L p.2);have c1:=B.cn p.1 h.1 h.2.1;have c2:=B.cn p.2 h.2.2.1 h.2.2.2;have e12:(p.1,p.2)∈dbl ps:=ju.mpr (.inl hp);have e21:(p.2,p.1)∈dbl ps:=ju.mpr (.inr hp);have k1:Cn (dbl ps) p.1 (mn (gL L p.1) (gL L p.2)):=by
  rcases m3 with z|z
  ·rw[z];exact c1.1
  ·rw[z];exact Cn.trans (.step .refl e12) c2.1
 have k2:Cn (dbl ps) p.2 (mn (gL L p.1) (gL L p.2)):=Cn.trans (.step .refl e21) k1;refine⟨⟨by rw[aIh];exact hl,λ x h0 h1=>?_⟩,λ x h0 h1=>?_,?_,?_⟩
 ·rw[g x h0]
  split
  ·rename_i e
   rcases e with rfl|rfl
   ·exact⟨k1,by lia,by lia⟩
   ·exact⟨k2,by lia,by lia⟩
  ·exact B.cn x h0 h1
 ·rw[g x h0]
  split
  ·rename_i e
   rcases e with rfl|rfl
   ·exact m1
   ·exact m2
  ·exact zGE _
 ·rw[g p.1 h.1,if_pos (.inl rfl)];exact m2
 ·rw[g p.2 h.2.2.1,if_pos (.inr rfl)];exact m1
theorem aFv{x:Int}(h0:0<=x)(h1:x.toNat<L.length):atD (L.map .int) x= .ok (.int (gL L x)):=by
 have:=gY (l:=L.map D.int) (k:=x.toNat) (d:=.int (gL L x)) (by rw[zAT,zAB h1];unfold gL;rw[zA1,zAB h1];rfl)
 rwa [zCL h0]at this
theorem aFR{w s2 s3 s4:Slot}{fk fe:En->Rs D}{k v:Int}(hk:fk [w,.ow (.lst (L.map .int)),s2,s3,s4]= .ok (.int k))(he:fe [w,.ow (.lst (L.map .int)),s2,s3,s4]= .ok (.int v))(h0:0<=k)(h1:k.toNat<L.length):
  aEM 1 fk fe [w,.ow (.lst (L.map .int)),s2,s3,s4]= .nx [w,.ow (.lst ((L.set k.toNat v).map .int)),s2,s3,s4]:=by
 have e:putN (L.map .int) (.int k)=some k.toNat:=by
  show ixN (L.map D.int).length k=_;unfold ixN;rw[zAE,if_pos (by lia),if_pos (by lia)]
 show((fe [w,.ow (.lst (L.map .int)),s2,s3,s4]).bo λ d=>(fk [w,.ow (.lst (L.map .int)),s2,s3,s4]).bo λ k=>match putN (L.map .int) k with
  |some j=>.nx [w,.ow (.lst ((L.map .int).set j d)),s2,s3,s4]
  |none=>.st)=_
 rw[he,cC,hk,cC,e];simp[zJP]
theorem aNK{w:Slot}{p:Int×Int}(hl:L.length=n.toNat)(h:0<=p.1/\p.1<n/\0<=p.2/\p.2<n):
  lsB [w,.ow (.lst (L.map .int)),s2,.sh (.int p.1),.sh (.int p.2)]= .nx [w,.ow (.lst ((rG L p).map .int)),s2,.sh (.int p.1),.sh (.int p.2)]:=by
 have a1:=aFv (L:=L) h.1 (by lia);have a2:=aFv (L:=L) h.2.2.1 (by lia);have b1:=aFR (L:=L) (w:=w) (s2:=s2) (s3:=.sh (.int p.1)) (s4:=.sh (.int p.2)) (fk:=aB 3) (fe:=opA (mmD λ i j=>if j<i then j else i) (aA (op2 ixD (jA 1) (aB 3)) (aA (op2 ixD (jA 1) (aB 4)) aF))) (k:=p.1) (v:=mn (gL L p.1) (gL L p.2)) (by simp) (by simp[a1,a2,mn]) h.1 (by lia);have hl2:(L.set p.1.toNat (mn (gL L p.1) (gL L p.2))).length=L.length:=zBA;have a3:=aFv (L:=L.set p.1.toNat (mn (gL L p.1) (gL L p.2))) h.1 (by lia);rw[aEp (by lia) p.1 h.1,if_pos rfl]at a3;have b2:=aFR (L:=L.set p.1.toNat (mn (gL L p.1) (gL L p.2))) (w:=w) (s2:=s2) (s3:=.sh (.int p.1)) (s4:=.sh (.int p.2)) (fk:=aB 4) (fe:=bC (op2 ixD (jA 1) (aB 3))) (k:=p.2) (v:=mn (gL L p.1) (gL L p.2)) (by simp) (by rw[zJP]at a3;simp[a3]) h.2.2.1 (by lia);rw[lsB,aN,b1,bI,b2];rfl
theorem aCz{w:Slot}(hpr:∀p∈ps,0<=p.1/\p.1<n/\0<=p.2/\p.2<n):∀(qs:List (Int×Int)) (L:List Int) (s3 s4:Slot),(∀q∈qs,q∈ps)->Lb n (dbl ps) L->
  ∃L' s3' s4',forL (dU 2 (aW (gnm 3) (aW (gnm 4) dh))) lsB (qs.map pD) [w,.ow (.lst (L.map .int)),s2,s3,s4]= .nx [w,.ow (.lst (L'.map .int)),s2,s3',s4']/\Lb n (dbl ps) L'/\(∀x,0<=x->x<n->gL L' x<=gL L x)/\∀q∈qs,gL L' q.1<=gL L q.2/\gL L' q.2<=gL L q.1
 |[],L,s3,s4,_,B=>⟨L,s3,s4,rfl,B,λ _ _ _=>zGE _,λ q hq=>by cases hq⟩
 |q::qs,L,s3,s4,h,B=>by
  have hq:=h q zAI;have hr:=hpr q hq;obtain⟨B1,m1,m2,m3⟩:=B.join hq hr;obtain⟨L',s3',s4',e,B',k1,k2⟩:=aCz (w:=w) hpr qs (rG L q) (.sh (.int q.1)) (.sh (.int q.2)) (λ x hx=>h x (zAL _ hx)) B1;refine⟨L',s3',s4',?_,B',λ x h0 h1=>zEN (k1 x h0 h1) (m1 x h0 h1),λ x hx=>?_⟩
  ·rw[zAG,eG]
   have g:okE (dU 2 (aW (gnm 3) (aW (gnm 4) dh)) (pD q) [w,.ow (.lst (L.map .int)),s2,s3,s4]) (λ ρ1=>(lsB ρ1).tn (forL (dU 2 (aW (gnm 3) (aW (gnm 4) dh))) lsB (qs.map pD)))=(lsB [w,.ow (.lst (L.map .int)),s2,.sh (.int q.1),.sh (.int q.2)]).tn (forL (dU 2 (aW (gnm 3) (aW (gnm 4) dh))) lsB (qs.map pD)):=by simp[pD]
   rw[g,aNK B.len hr,rD,e]
  ·rcases zAN.mp hx with rfl|hx
   ·exact⟨zEN (k1 _ hr.1 hr.2.1) m2,zEN (k1 _ hr.2.2.1 hr.2.2.2) m3⟩
   ·have hx':=hpr x (h x (zAL _ hx))
    exact⟨zEN (k2 x hx).1 (m1 _ hx'.2.2.1 hx'.2.2.2),zEN (k2 x hx).2 (m1 _ hx'.1 hx'.2.1)⟩
def Rd1(n:Int)(es:List (Int×Int))(t:Nat)(L:List Int):Prop:=∀(l:List Int) (a b:Int),0<=a->a<n->aOi es a b l->l.length<=t+1->gL L a<=b
theorem aKN{es:List (Int×Int)}(hin:∀x y,(x,y)∈es->0<=y/\y<n){a b:Int}{r:List Int}(h:cO es (a::b::r)=true):(a,b)∈es/\0<=b/\b<n:=by
 rw[cO,zAK,decide_eq_true_eq]at h;exact⟨h.1,hin _ _ h.1⟩
theorem aEa(h:Ow n ps):∃L s2 s3 s4,forL (gnm 2) lsO (bT 0 n) [.sh (owD n ps),.ow (.lst ((upI n).map .int)),.no,.no,.no]= .nx [.sh (owD n ps),.ow (.lst (L.map .int)),s2,s3,s4]/\Lb n (dbl ps) L/\∀a,0<=a->a<n->∀b,Cn (dbl ps) a b->gL L a<=b:=by
 have hpr:∀p∈ps,0<=p.1/\p.1<n/\0<=p.2/\p.2<n:=λ p hp=>by have:=h.pr p hp;exact⟨this.1,this.2.1,this.2.2.1,this.2.2.2.1⟩
 have hin:∀x y,(x,y)∈dbl ps->0<=y/\y<n:=λ x y m=>by
  rcases ju.mp m with z|z
  ·have:=h.pr _ z;exact⟨this.2.2.1,this.2.2.2.1⟩
  ·have:=h.pr _ z;exact⟨this.1,this.2.1⟩
 have g0:∀x,0<=x->x<n->gL (upI n) x=x:=λ x h0 h1=>by
  unfold gL upI;rw[zA1,zAT,zE3 (by lia)]
  show(((x.toNat:Nat):Int))=x
  lia
 obtain⟨ρ',e,L,s2,s3,s4,rfl,B,hR⟩:=nM (a:=gnm 2) (u:=lsO) (ds:=bT 0 n)
  (λ t ρ=>∃(L:List Int) (s2 s3 s4:Slot),ρ=[.sh (owD n ps),.ow (.lst (L.map .int)),s2,s3,s4]/\Lb n (dbl ps) L/\Rd1 n (dbl ps) t L)
  (by
   rintro i d ρ hd ⟨L,s2,s3,s4,rfl,B,hR⟩;obtain⟨rfl,hlt⟩:=j6 hd;obtain⟨L',s3',s4',e,B',k1,k2⟩:=aCz (w:=.sh (owD n ps)) (s2:=.sh (.int (0+(i:Int)))) hpr ps L s3 s4 (λ _ h=>h) B;refine⟨[.sh (owD n ps),.ow (.lst (L'.map .int)),.sh (.int (0+(i:Int))),s3',s4'],?_,L',_,_,_,rfl,B',λ l a b h0 h1 P hl=>?_⟩
   ·show lsO [.sh (owD n ps),.ow (.lst (L.map .int)),.sh (.int (0+(i:Int))),s3,s4]=_
    have hi:bK (op2 ixD (aB 0) (cD (.int 1))) [.sh (owD n ps),.ow (.lst (L.map .int)),.sh (.int (0+(i:Int))),s3,s4]= .ok (ps.map pD):=by simp[owD]
    rw[lsO,fU,hi,cC,e]
   ·match l,P,hl with
    |[],P,_=>cases P.hd
    |[x],P,_=>
     have e1:=P.hd;have e2:=P.lt;cases e1;cases e2;exact(B'.cn a h0 h1).2.1
    |x::y::r,P,hl=>
     have e1:=P.hd;cases e1;obtain⟨q1,q2⟩:=aKN hin P.al;have hy:=hR (y::r) y b q2.1 q2.2 ⟨rfl,by have:=P.lt;simpa using this,by have:=P.al;rw[cO,zAK]at this;exact this.2⟩ (by simp at hl ⊢;lia)
     have:gL L' a<=gL L y:=by
      rcases ju.mp q1 with z|z
      ·exact(k2 _ z).1
      ·exact(k2 _ z).2
     lia)
  (ρ:=[.sh (owD n ps),.ow (.lst ((upI n).map .int)),.no,.no,.no]) ⟨upI n,.no,.no,.no,rfl,⟨iU n,λ x h0 h1=>by rw[g0 x h0 h1];exact⟨.refl,zGE _,h0⟩⟩,λ l a b h0 h1 P hl=>by
   rw[g0 a h0 h1]
   match l,P,hl with
   |[],P,_=>cases P.hd
   |[x],P,_=>
    have e1:=P.hd;have e2:=P.lt;cases e1;cases e2;exact zGE _
   |x::y::r,P,hl=>simp at hl⟩
 refine⟨L,s2,s3,s4,e,B,λ a h0 h1 b hc=>?_⟩;obtain⟨l,P,nd⟩:=hc.path;refine hR l a b h0 h1 P ?_;have hsub:∀x∈l,x∈upI n:=λ x hx=>by
  cases l with
  |nil=>cases hx
  |cons y r=>
   have e1:=P.hd;cases e1;exact m8.mpr ((aCm P.al x hx).inn hin ⟨h0,h1⟩)
 have:=sub_len nd hsub
 rw[iU]at this;rw[gM];lia
theorem aBr(h:Ow n ps):jb [owD n ps]= .ok (.lst ((jg n (dbl ps)).map tupI)):=by
 obtain⟨L,s2,s3,s4,e,B,hmin⟩:=aEa h;have hn0:=h.n0;have hn1:=h.n1;have hLl:=B.len;have st:az 5 [owD n ps]=[.sh (owD n ps),.no,.no,.no,.no]:=rfl;have hlr:=aF6 (f:=op2 ixD (aB 0) (cD (.int 0))) (ρ:=[.sh (owD n ps),.no,.no,.no,.no]) (n:=n) (by simp[owD]) h.n0 h.n1;have hr:=jW (j:=n) (by lia) (by lia);have hS:sortI (ddI L)=(upI n).filter (cY (dbl ps)):=by
  refine aED (tU (kh L)) ((aBH n).filter _) λ x=>?_
  rw[(sortI_perm _).mem_iff,uD,zBN,m8,vN];constructor
  ·intro hx
   obtain⟨i,hi,rfl⟩:=zCh hx;have hg:gL L (i:Int)=L[i]:=by unfold gL;rw[zC2,zA1,zAB hi];rfl
   have c:=B.cn (i:Int) (by lia) (by lia);rw[hg]at c;refine⟨⟨c.2.2,by lia⟩,λ b hb hc=>?_⟩
   have:=hmin (i:Int) (by lia) (by lia) b (c.1.trans hc)
   rwa [hg]at this
  ·rintro⟨⟨h0,h1⟩,hl⟩
   have c:=B.cn x h0 h1;have e1:=hl _ c.2.2 c.1;have e2:gL L x=x:=by lia
   rw[<-e2];unfold gL;rw[zA1,zAB (show x.toNat<L.length by lia)];exact zBR _
 have c0:mW 1 (lrD (op2 ixD (aB 0) (cD (.int 0)))) [.sh (owD n ps),.no,.no,.no,.no]= .nx [.sh (owD n ps),.ow (.lst ((upI n).map .int)),.no,.no,.no]:=by
  rw[aJn,hlr,cC,yG];rfl
 have c1:cz (du gO (aA (op2 ixD (aB 0) (cD (.int 0))) aF)) (gnm 2) lsO [.sh (owD n ps),.ow (.lst ((upI n).map .int)),.no,.no,.no]= .nx [.sh (owD n ps),.ow (.lst (L.map .int)),s2,s3,s4]:=by
  have hi:du gO (aA (op2 ixD (aB 0) (cD (.int 0))) aF) [.sh (owD n ps),.ow (.lst ((upI n).map .int)),.no,.no,.no]= .ok (bT 0 n):=by simp[owD,hr]
  rw[fU,hi,cC,e]
 have c2:lsR [.sh (owD n ps),.ow (.lst (L.map .int)),s2,s3,s4]= .ok (.lst ((jg n (dbl ps)).map tupI)):=by
  have hs:gK [.lst (L.map .int)]= .ok (.lst ((sortI (ddI L)).map .int)):=by
   unfold gK;dsimp only;rw[fW];dsimp only;rw[if_pos (by lia)]
  rw[hS]at hs;refine jh (ds:=((upI n).filter (cY (dbl ps))).map .int) (by simp[shE,jo,hs]) (by
   rw[zAE]
   have:=zBU (cY (dbl ps)) (upI n)
   rw[iU]at this;lia) ?_
  unfold jg;rw[zAb];refine qK _ λ a ha=>⟨[.sh (.int a),.sh (owD n ps),.sh (.lst (L.map .int))],rfl,?_⟩
  obtain⟨ha1,ha2⟩:=zBN.mp ha;have ha0:=m8.mp ha1;rw[vN]at ha2;have hc:lcD (du gO (aA (op2 ixD (aB 1) (cD (.int 0))) aF)) [none,some 2,some 0] (gnm 0) (tsb (op2 (eqR false) (op2 ixD (aB 1) (aB 0)) (aB 2))) (bC (aB 0)) [.sh (.int a),.sh (owD n ps),.sh (.lst (L.map .int))]= .ok (.lst ((bj n (dbl ps) a).map .int)):=by
   refine jh (ds:=(upI n).map .int) (by rw[<-yG];simp[shE,jo,owD,hr]) (by rw[zAE,iU];lia) ?_;have ef:bj n (dbl ps) a=(upI n).filter λ b=>gL L b==a:=by
    unfold bj;refine List.filter_congr λ b hb=>?_
    have hb0:=m8.mp hb;have c:=B.cn b hb0.1 hb0.2;rw[zCU,aB8,beq_iff_eq];constructor
    ·intro hab
     have q1:=ha2 _ c.2.2 (hab.trans c.1);have q2:=hmin b hb0.1 hb0.2 a (hab.symm (aCF ps));lia
    ·intro hg
     rw[hg]at c;exact c.1.symm (aCF ps)
   rw[ef];refine mJ (upI n) λ b hb=>⟨[.sh (.int b),.sh (.lst (L.map .int)),.sh (.int a)],rfl,?_,?_⟩
   ·have hb0:=m8.mp hb
    have:=aFv (L:=L) hb0.1 (by lia)
    simp[this]
   ·simp
  rw[lsI,ik,bO,hc];simp[tupI]
 simp only[jb,aAI,bA,st];rw[aN,c0,bI,aN,c1,bI,gU,c2];rfl
end
theorem vf:∀{ts:List D},ts.all (bW n)=true->(ts.map intOf).map D.int=ts
 |[],_=>rfl
 |t::ts,h=>by
  rw[zCr,zAK]at h;obtain⟨a,rfl,_⟩:=qZ h.1;rw[zAG,zAG,vf h.2];rfl
def j7(m:Int):D->Bool
 | .tup ts=>ts.all (bW m)&&qw ltI (ts.map intOf)
 |_=>false
theorem aAR(h:pln d=true)(hs:lE d=true):gF [.int m,d]= .ok (.bl (j7 m d)):=by
 cases d with
 |tup ts=>
  have hp:sS ts=true:=by simpa[pln]using h
  have hl:ts.length<=100000:=by simpa[lE]using hs
  have L:=kZ (a:=gnm 2) (u:=ifS (iu (tst (aK cG (aA (aB 0) (aA (aB 2) aF))))) (retS (cD (.bl false))) Ou.nx) (r:=.bl false)
   ts (λ i=>match ts[i]? with|some t=>bW m t|none=>true) (λ ρ=>∃s,ρ=[.sh (.int m),.sh (.tup ts),s]) [.sh (.int m),.sh (.tup ts),.no] ⟨_,rfl⟩ (by
    rintro i d ρ hd ⟨s,rfl⟩;have e:=mK (m:=m) (jt (tY hp (zAo hd)));simp only[hd];cases c:bW m d with
    |true=>right;exact⟨_,by simp[e,c];rfl,⟨_,rfl⟩,rfl⟩
    |false=>left;exact⟨by simp[e,c],rfl⟩)
  have st:az 3 [.int m,.tup ts]=[.sh (.int m),.sh (.tup ts),.no]:=rfl;rcases L with ⟨e,i,hi,o⟩|⟨ρ',e,⟨s,rfl⟩,o⟩
  ·have:ts.all (bW m)=false:=by
    rw[zEo];rw[zAB hi]at o;exact⟨ts[i],zBR hi,by simpa using o⟩
   simp only[gF,dX,bA,st];simp[e,j7,this]
  ·have:ts.all (bW m)=true:=by
    rw[zAj];intro t ht;obtain⟨i,hi,rfl⟩:=zCh ht
    have:=o i hi
    rw[zAB hi]at this;exact this
   have er:=aDS (ps:=ts.map intOf) (by rw[zAE];exact hl);rw[vf this]at er;simp only[gF,dX,bA,st];simp[e,j7,this,er]
 |_=>simp[gF,dX,az,kY (jt h),oZ,j7]
theorem bw(h:pln d=true)(hs:lE d=true):bL [.int m,d]=if j7 m d=true then .ok .non else .ex "NoPlace":=by
 have st:az 2 [.int m,d]=[.sh (.int m),.sh d]:=rfl;simp only[bL,eO,bA,st];cases c:j7 m d<;>simp[aAR h hs,c]
theorem aLs{ps:List (Int×D)}{i:Int}{neg:Bool}:rA neg (.int i) (jy ps)= .ok (.bl (neg !=(ps.lookup i).isSome)):=by
 unfold rA jy;dsimp only;rw[aA7]
theorem aLr{ps:List (Int×D)}{i:Int}{d:D}(h:ps.lookup i=some d):aCD (jy ps) (.int i)= .ok d:=by
 unfold aCD jy;dsimp only;rw[aA7];dsimp only;rw[h]
theorem yO:∀qs:List (Int×D),lH (qs.map λ q=>.tup [.int q.1,q.2])=some qs
 |[]=>rfl
 |q::qs=>by rw[zAG];unfold lH;rw[yO qs];rfl
theorem aN7{fi:En->Rs (List D)}{js:List (Option Nat)}{fg:D->En->Rs En}{ft:En->Rs Bool}{fk fv:En->Rs D}{ρ:En}{ds:List D}{qs:List (Int×D)}(h1:fi (shE ρ)= .ok ds)(h2:ds.length<16777216)
  (h3:lcL (stE js (shE ρ)) fg ft (pairE fk fv) ds= .ok (qs.map λ q=>.tup [.int q.1,q.2])):dcI fi js fg ft fk fv ρ= .ok (jy (eV [] qs)):=by
 unfold dcI;rw[h1,bD,if_pos (by rw[szl];exact h2),h3];dsimp only;rw[yO]
theorem aHl{ps:List (Int×D)}{i:Int}{d:D}(h:i∉ps.map (·.1)):yM ps i d=ps++[(i,d)]:=by
 unfold yM;rw[if_neg];rw[zDN];rintro⟨p,hp,e⟩;exact h (zAn.mpr ⟨p,hp,of_decide_eq_true e⟩)
theorem aAm:∀{qs acc:List (Int×D)},(acc.map (·.1)++qs.map (·.1)).Nodup->eV acc qs=acc++qs
 |[],acc,_=>by simp[eV]
 |q::qs,acc,h=>by
  have hn:q.1∉acc.map (·.1):=λ hm=>by
   rw[zBW]at h;exact h.2.2 _ hm _ (by simp) rfl
  have e:eV acc (q::qs)=eV (yM acc q.1 q.2) qs:=rfl;rw[e,aHl hn,aAm (by simpa using h)];simp
theorem aDA(x:Int):∀(l:List Int) (k:Nat),((l.zipIdx k).map λ p=>(p.1,D.int (p.2:Nat))).lookup x=(qz x l).map λ j=>D.int ((j+k:Nat))
 |[],k=>rfl
 |a::l,k=>by
  rw[List.zipIdx_cons,zAG,zAk];unfold qz;by_cases c:a=x
  ·subst c
   simp
  ·have c1:(x==a)=false:=by simpa using λ z=>c z.symm
   rw[c1,if_neg c,Option.map_map,aDA x l (k+1)];show zJR _ (qz x l)=zJR _ (qz x l);have e:(λ j=>D.int ((j+(k+1):Nat)))=(λ j=>D.int ((j+k:Nat)))∘λ x=>x+1:=by
    funext j;show D.int ((j+(k+1):Nat))=D.int ((j+1+k:Nat));rw[show j+(k+1)=j+1+k by lia]
   rw[e]
theorem aBy{x:Int}:∀{l:List Int},x∈l->∃j,qz x l=some j/\l[j]? =some x
 |a::l,h=>by
  unfold qz;by_cases c:a=x
  ·subst c
   exact⟨0,if_pos rfl,rfl⟩
  ·rw[if_neg c]
   obtain⟨j,h1,h2⟩:=aBy ((zAN.mp h).resolve_left λ z=>c z.symm);exact⟨j+1,by rw[h1];rfl,h2⟩
theorem aDX{x:Int}:∀{l:List Int},x∉l->qz x l=none
 |[],_=>rfl
 |a::l,h=>by
  unfold qz;rw[if_neg (λ z=>h (by rw[z];exact zAI)),aDX λ z=>h (zAL _ z)];rfl
theorem aCg{ps:List (Int×Int)}:yI ps=true↔ps.Pairwise λ p q=>p.1<q.1\/p.1=q.1/\p.2<q.2:=by
 constructor
 ·intro h
  have h':=aB3.mp h;clear h;induction ps with
  |nil=>exact .nil
  |cons p ps ih=>
   have hs:∀(i:Nat) (p q:Int×Int),ps[i]? =some p->ps[i+1]? =some q->ltP p q=true:=λ i a b e1 e2=>h' (i+1) a b e1 e2
   have hp:=ih hs;refine zAf.mpr ⟨λ q hq=>?_,hp⟩;cases ps with
   |nil=>cases hq
   |cons r rs=>
    have h1:=aBo.mp (h' 0 p r rfl rfl);rcases zAN.mp hq with rfl|hq
    ·exact h1
    ·have h2:=(zAf.mp hp).1 q hq
     lia
 ·intro h
  rw[aB3];intro i p q e1 e2;rw[aBo];obtain⟨h1,rfl⟩:=zAH.mp e1;obtain⟨h2,rfl⟩:=zAH.mp e2;exact zB9.mp h i (i+1) h1 h2 (zBt i)
def aq(n:Int)(ws:List Int):List Int:=(upI n).filter λ x=>!decide (x∈ws)
def ixK(ks:List Int)(x:Int):Int:=((qz x ks).getD 0:Nat)
def pO(ks:List Int)(p:Int×Int):Bool:=decide (p.1∈ks)&&decide (p.2∈ks)
def mH(ks:List Int)(ps:List (Int×Int)):List (Int×Int):=(ps.filter (pO ks)).map λ p=>(ixK ks p.1,ixK ks p.2)
section
variable{n:Int}{ps:List (Int×Int)}{ws ks:List Int}
theorem aDQ:(aq n ws).Pairwise (·< ·):=(aBH n).filter _
theorem ym(h0:0<=n):((aq n ws).length:Int)<=n:=by
 have:=zBU (λ x=>!decide (x∈ws)) (upI n)
 rw[iU]at this;unfold aq;lia
theorem aAf{x:Int}(h:x∈ks):∃j:Nat,qz x ks=some j/\ixK ks x=(j:Int)/\ks[j]? =some x:=by
 obtain⟨j,h1,h2⟩:=aBy h;exact⟨j,h1,by unfold ixK;rw[h1];rfl,h2⟩
theorem xN(hr:ks.Pairwise (·< ·)){x y:Int}(hx:x∈ks)(hy:y∈ks)(h:x<y):ixK ks x<ixK ks y:=by
 obtain⟨i,_,e1,f1⟩:=aAf hx;obtain⟨j,_,e2,f2⟩:=aAf hy;rw[e1,e2];have hi:=(zAH.mp f1).1;have hj:=(zAH.mp f2).1;by_cases c:i<j
 ·lia
 ·exfalso
  have g1:=(zAH.mp f1).2;have g2:=(zAH.mp f2).2;by_cases c2:i=j
  ·subst c2
   rw[g1]at g2;lia
  ·have:=zB9.mp hr j i hj hi (by lia)
   lia
theorem aLm{x:Int}(h:x∈ks):0<=ixK ks x/\ixK ks x<(ks.length:Int):=by
 obtain⟨j,_,e,f⟩:=aAf h
 have:=(zAH.mp f).1
 rw[e];lia
theorem qI{p:Int×Int}(h:p∈ps.filter (pO ks)):p∈ps/\p.1∈ks/\p.2∈ks:=by
 obtain⟨h1,h2⟩:=zBN.mp h;unfold pO at h2;rw[zAK,decide_eq_true_eq,decide_eq_true_eq]at h2;exact⟨h1,h2⟩
theorem aF8(h:Ow n ps)(low:∀p∈ps,p.1<p.2):Ow ((aq n ws).length:Int) (mH (aq n ws) ps)/\∀p∈mH (aq n ws) ps,p.1<p.2:=by
 have hr:=aDQ (n:=n) (ws:=ws);have hl:=ym (ws:=ws) h.n0;have hn1:=h.n1;refine⟨⟨by lia,by lia,?_,λ p hp=>?_,?_⟩,λ p hp=>?_⟩
 ·unfold mH
  rw[zAE];exact zAg (zBU _ _) h.len
 ·obtain⟨q,hq,rfl⟩:=zAn.mp hp
  obtain⟨h1,h2,h3⟩:=qI hq;have a1:=aLm h2;have a2:=aLm h3;have a3:=xN hr h2 h3 (low q h1);exact⟨a1.1,a1.2,a2.1,a2.2,by show ixK _ q.1≠ixK _ q.2;lia⟩
 ·rw[aCg]
  unfold mH;rw[zDg];have hps:=(aCg.mp h.ris).filter (pO (aq n ws));refine hps.imp_of_mem λ{p q} hp hq hpq=>?_
  obtain⟨_,p1,p2⟩:=qI hp;obtain⟨_,q1,q2⟩:=qI hq;rcases hpq with z|⟨z1,z2⟩
  ·exact .inl (xN hr p1 q1 z)
  ·exact .inr ⟨by show ixK _ p.1=ixK _ q.1;rw[z1],xN hr p2 q2 z2⟩
 ·obtain⟨q,hq,rfl⟩:=zAn.mp hp
  obtain⟨h1,h2,h3⟩:=qI hq;exact xN hr h2 h3 (low q h1)
theorem aFb{ρ:En}{fi:En->Rs (List D)}{js:List (Option Nat)}(h0:0<=n)(h1:n<=60)(hf:fi (shE ρ)= .ok (bT 0 n))(hs:stE js (shE ρ)=[.no,.sh (tupI ws)]):
  lcD fi js (gnm 0) (tsb (op2 (inR true) (aB 0) (aB 1))) (bC (aB 0)) ρ= .ok (.lst ((aq n ws).map .int)):=by
 rw[yG]at hf;exact yU (i:=0) (j:=0) hf (.inl hs) (by rw[iU];lia)
def woD:En->Rs D:=dcI (du aD1 (aA (aB 4) aF)) [none,none] (dU 2 (aW (gnm 0) (aW (gnm 1) dh))) cU (bC (aB 1)) (bC (aB 0))
def woL:En->Rs D:=lcD (bK (aB 3)) [none,none,some 5] (dU 2 (aW (gnm 0) (aW (gnm 1) dh))) (wu (tsb (op2 (rA false) (aB 0) (aB 2))) (tsb (op2 (rA false) (aB 1) (aB 2)))) (cM (aA (bC (op2 aCD (aB 2) (aB 0))) (aA (bC (op2 aCD (aB 2) (aB 1))) aF)))
def woK:En->Rs D:=lcD (du gO (aA (aB 2) aF)) [none,some 1] (gnm 0) (tsb (op2 (inR true) (aB 0) (aB 1))) (bC (aB 0))
theorem aCU:kj=aQ (dW (aK bQ (aA (aB 0) aF))) (aQ (aDc (aB 0) (dU 2 (aW (gnm 2) (aW (gnm 3) dh)))) (aQ (dW (aK bL (aA (aB 2) (aA (aB 1) aF)))) (aQ (lF 4 woK) (aQ (cJ 5 woD) (retS (cM (aA (opA bu (aA (fG 4) aF)) (aA (opA cu (aA woL aF)) aF)))))))):=rfl
theorem kJ(ws:List Int):pln (tupI ws)=true:=by unfold tupI pln;exact aCl ws
theorem aDm(h:Ow n ps)(low:∀p∈ps,p.1<p.2)(hw:j7 n (tupI ws)=true)(hl:ws.length<=100000):lC [owD n ps,tupI ws]= .ok (owD ((aq n ws).length:Int) (mH (aq n ws) ps)):=by
 have hn0:=h.n0;have hn1:=h.n1;have hkl:=ym (ws:=ws) hn0;have hps:=h.len;have st:az 6 [owD n ps,tupI ws]=[.sh (owD n ps),.sh (tupI ws),.no,.no,.no,.no]:=rfl;have hr:=jW (j:=n) (by lia) (by lia);have hcp:=bw (m:=n) (d:=tupI ws) (kJ ws) (by simp[tupI,lE,hl]);rw[hw,if_pos rfl]at hcp;have c0:dW (aK bQ (aA (aB 0) aF)) [.sh (owD n ps),.sh (tupI ws),.no,.no,.no,.no]= .nx [.sh (owD n ps),.sh (tupI ws),.no,.no,.no,.no]:=by simp[cZ h low]
 have c1:aDc (aB 0) (dU 2 (aW (gnm 2) (aW (gnm 3) dh))) [.sh (owD n ps),.sh (tupI ws),.no,.no,.no,.no]= .nx [.sh (owD n ps),.sh (tupI ws),.sh (.int n),.sh (.tup (ps.map pD)),.no,.no]:=by simp[owD]
 have c2:dW (aK bL (aA (aB 2) (aA (aB 1) aF))) [.sh (owD n ps),.sh (tupI ws),.sh (.int n),.sh (.tup (ps.map pD)),.no,.no]= .nx [.sh (owD n ps),.sh (tupI ws),.sh (.int n),.sh (.tup (ps.map pD)),.no,.no]:=by simp[hcp]
 have c3:woK [.sh (owD n ps),.sh (tupI ws),.sh (.int n),.sh (.tup (ps.map pD)),.no,.no]= .ok (.lst ((aq n ws).map .int)):=aFb hn0 hn1 (by simp[shE,jo,hr]) rfl;have hnd:(aq n ws).Nodup:=by
  rw[zC4];exact aDQ.imp λ h=>by lia
 have c4:woD [.sh (owD n ps),.sh (tupI ws),.sh (.int n),.sh (.tup (ps.map pD)),.nw (.lst ((aq n ws).map .int)),.no]= .ok (jy ((aq n ws).zipIdx.map λ p=>(p.1,D.int (p.2:Nat)))):=by
  have e:dcI (du aD1 (aA (aB 4) aF)) [none,none] (dU 2 (aW (gnm 0) (aW (gnm 1) dh))) cU (bC (aB 1)) (bC (aB 0)) [.sh (owD n ps),.sh (tupI ws),.sh (.int n),.sh (.tup (ps.map pD)),.nw (.lst ((aq n ws).map .int)),.no]= .ok (jy (eV [] ((aq n ws).zipIdx.map λ p=>(p.1,D.int (p.2:Nat))))):=by
   refine aN7 (ds:=(aq n ws).zipIdx.map λ p=>.tup [.int (p.2:Nat),.int p.1]) ?_ ?_ ?_
   ·have:aEq ((aq n ws).map .int)=(aq n ws).zipIdx.map λ p=>.tup [.int (p.2:Nat),.int p.1]:=by
     unfold aEq;rw[List.zipIdx_map,zAb];rfl
    simp[shE,jo,aD1,this]
   ·rw[zAE,List.length_zipIdx];lia
   ·rw[zAb]
    refine qK _ λ p hp=>⟨[.sh (.int (p.2:Nat)),.sh (.int p.1)],?_,?_⟩
    ·show dU 2 (aW (gnm 0) (aW (gnm 1) dh)) (.tup [.int (p.2:Nat),.int p.1]) [.no,.no]=_
     simp
    ·simp[pairE]
  unfold woD;rw[e,aAm]
  ·rfl
  ·rw[zFA,zDX,zAb]
   show((aq n ws).zipIdx.map Prod.fst).Nodup
   rw[List.zipIdx_map_fst];exact hnd
 have look:∀x,((aq n ws).zipIdx.map λ p=>(p.1,D.int (p.2:Nat))).lookup x=(qz x (aq n ws)).map λ j=>D.int (j:Nat):=λ x=>by
  have:=aDA x (aq n ws) 0
  simpa using this
 have c5:woL [.sh (owD n ps),.sh (tupI ws),.sh (.int n),.sh (.tup (ps.map pD)),.nw (.lst ((aq n ws).map .int)),.sh (jy ((aq n ws).zipIdx.map λ p=>(p.1,D.int (p.2:Nat))))]= .ok (.lst ((mH (aq n ws) ps).map pD)):=by
  refine jh (ds:=ps.map pD) (by simp[shE,jo]) (by rw[zAE];lia) ?_;unfold mH;rw[zAb];have key:∀p:Int×Int,∃ρ1,dU 2 (aW (gnm 0) (aW (gnm 1) dh)) (pD p) (stE [none,none,some 5] (shE [.sh (owD n ps),.sh (tupI ws),.sh (.int n),.sh (.tup (ps.map pD)),.nw (.lst ((aq n ws).map .int)),.sh (jy ((aq n ws).zipIdx.map λ p=>(p.1,D.int (p.2:Nat))))]))= .ok ρ1/\ρ1=[.sh (.int p.1),.sh (.int p.2),.sh (jy ((aq n ws).zipIdx.map λ p=>(p.1,D.int (p.2:Nat))))]:=λ p=>⟨_,by
   show dU 2 (aW (gnm 0) (aW (gnm 1) dh)) (pD p) [.no,.no,.sh (jy ((aq n ws).zipIdx.map λ p=>(p.1,D.int (p.2:Nat))))]= .ok [.sh (.int p.1),.sh (.int p.2),.sh (jy ((aq n ws).zipIdx.map λ p=>(p.1,D.int (p.2:Nat))))];simp[pD],rfl⟩
  have hin:∀x,rA false (.int x) (jy ((aq n ws).zipIdx.map λ p=>(p.1,D.int (p.2:Nat))))= .ok (.bl (decide (x∈aq n ws))):=λ x=>by
   rw[aLs,look x];by_cases c:x∈aq n ws
   ·obtain⟨j,e1,_⟩:=aBy c
    rw[e1];simp[c]
   ·rw[aDX c]
    simp[c]
  exact aDJ ps λ p hp=>by
   obtain⟨ρ1,e1,rfl⟩:=key p;refine⟨_,e1,?_,λ ht=>?_⟩
   ·simp only[xR,pL,gj,nj,zBC,zAz,bD,hin,gk,zX]
    unfold pO;cases decide (p.1∈aq n ws)<;>rfl
   ·unfold pO at ht
    rw[zAK,decide_eq_true_eq,decide_eq_true_eq]at ht;obtain⟨i,a1,a2,_⟩:=aAf ht.1;obtain⟨j,b1,b2,_⟩:=aAf ht.2;have d1:=aLr (d:=.int (i:Nat)) ((look p.1).trans (by rw[a1];rfl));have d2:=aLr (d:=.int (j:Nat)) ((look p.2).trans (by rw[b1];rfl));simp[d1,d2,pD,a2,b2]
 simp only[lC,aCU,bA,st];rw[aN,c0,bI,aN,c1,bI,aN,c2,bI,aN,oG,c3,cC,bI,aN,aFI]
 show(match ((woD [.sh (owD n ps),.sh (tupI ws),.sh (.int n),.sh (.tup (ps.map pD)),.nw (.lst ((aq n ws).map .int)),.no]).bo λ d=>Ou.nx (List.set [.sh (owD n ps),.sh (tupI ws),.sh (.int n),.sh (.tup (ps.map pD)),.nw (.lst ((aq n ws).map .int)),.no] 5 (.sh d))).sq _ with| .nx _=>Rs.ok D.non| .rt d=>.ok d| .ex c=>.ex c|_=>.st)=_
 rw[c4,cC,bI]
 show(match retS _ [.sh (owD n ps),.sh (tupI ws),.sh (.int n),.sh (.tup (ps.map pD)),.nw (.lst ((aq n ws).map .int)),.sh (jy ((aq n ws).zipIdx.map λ p=>(p.1,D.int (p.2:Nat))))]with| .nx _=>Rs.ok D.non| .rt d=>.ok d| .ex c=>.ex c|_=>.st)=_
 rw[gU,aBI,bO,bO,ik,ik,bO,bO,c5];simp[owD]
def llK:En->Rs D:=lcD (du gO (aA (op2 ixD (aB 0) (cD (.int 0))) aF)) [none,some 1] (gnm 0) (tsb (op2 (inR true) (aB 0) (aB 1))) (bC (aB 0))
def llT:En->Rs D:=lcD (bK (op2 ixD (aB 0) (cD (.int 1)))) [none,some 2] (gnm 0) (wu (tsb (op2 (inR false) (op2 ixD (aB 0) (cD (.int 0))) (aB 1))) (tsb (op2 (inR false) (op2 ixD (aB 0) (cD (.int 1))) (aB 1)))) (bC (aB 0))
def llL:En->Rs D:=lcD (bK (aB 3)) [none,none,some 2] (dU 2 (aW (gnm 0) (aW (gnm 1) dh))) cU (cM (aA (opL vR (aB 2) (aB 0)) (aA (opL vR (aB 2) (aB 1)) aF)))
theorem aBs:jH=aQ (lF 2 llK) (aQ (lF 3 llT) (retS (cM (aA (opA bu (aA (fG 2) aF)) (aA (opA cu (aA llL aF)) aF))))):=rfl
theorem aDN(h:Ow n ps):lZ [owD n ps,tupI ws]= .ok (owD ((aq n ws).length:Int) (mH (aq n ws) ps)):=by
 have hn0:=h.n0;have hn1:=h.n1;have hkl:=ym (ws:=ws) hn0;have hps:=h.len;have st:az 4 [owD n ps,tupI ws]=[.sh (owD n ps),.sh (tupI ws),.no,.no]:=rfl;have hr:=jW (j:=n) (by lia) (by lia);have c0:llK [.sh (owD n ps),.sh (tupI ws),.no,.no]= .ok (.lst ((aq n ws).map .int)):=aFb hn0 hn1 (by simp[shE,jo,owD,hr]) rfl;have c1:llT [.sh (owD n ps),.sh (tupI ws),.nw (.lst ((aq n ws).map .int)),.no]= .ok (.lst ((ps.filter (pO (aq n ws))).map pD)):=by
  refine jh (ds:=ps.map pD) (by simp[shE,jo,owD]) (by rw[zAE];lia) (mJ ps λ p hp=>⟨[.sh (pD p),.sh (.lst ((aq n ws).map .int))],rfl,?_,?_⟩)
  ·have i1:=o5 false p.1 (aq n ws)
   have i2:=o5 false p.2 (aq n ws);simp only[xR,pL,gj,nj,aD9,zBC,zAz,bD,pD,aFf,aOd,aOc,gk,i1,i2,zX];unfold pO;cases decide (p.1∈aq n ws)<;>rfl
  ·have:yx (pD p)= .ok (pD p):=rfl
   simp[this]
 have c2:llL [.sh (owD n ps),.sh (tupI ws),.nw (.lst ((aq n ws).map .int)),.nw (.lst ((ps.filter (pO (aq n ws))).map pD))]= .ok (.lst ((mH (aq n ws) ps).map pD)):=by
  refine jh (ds:=(ps.filter (pO (aq n ws))).map pD) (by simp[shE,jo]) (by rw[zAE];have:=zBU (pO (aq n ws)) ps;lia) ?_;unfold mH;rw[zAb];refine qK _ λ p hp=>⟨[.sh (.int p.1),.sh (.int p.2),.sh (.lst ((aq n ws).map .int))],?_,?_⟩
  ·show dU 2 (aW (gnm 0) (aW (gnm 1) dh)) (pD p) [.no,.no,.sh (.lst ((aq n ws).map .int))]=_
   simp[pD]
  ·obtain⟨_,h2,h3⟩:=qI hp
   have ixf:∀(x:Int),x∈aq n ws->vR ((aq n ws).map .int) (.int x)= .ok (.int (ixK (aq n ws) x)):=λ x hx=>by
    obtain⟨j,a1,a2,_⟩:=aAf hx;unfold vR;dsimp only;rw[fW];dsimp only;rw[a1,a2]
   have o1:opL vR (aB 2) (aB 0) [.sh (.int p.1),.sh (.int p.2),.sh (.lst ((aq n ws).map .int))]= .ok (.int (ixK (aq n ws) p.1)):=by
    show okD (vR ((aq n ws).map .int) (.int p.1))=_;rw[ixf _ h2];rfl
   have o2:opL vR (aB 2) (aB 1) [.sh (.int p.1),.sh (.int p.2),.sh (.lst ((aq n ws).map .int))]= .ok (.int (ixK (aq n ws) p.2)):=by
    show okD (vR ((aq n ws).map .int) (.int p.2))=_;rw[ixf _ h3];rfl
   rw[aBI,bO,o1,bO,o2];rfl
 simp only[lZ,aBs,bA,st];rw[aN,oG,c0,cC,bI,aN,oG]
 show(match ((llT [.sh (owD n ps),.sh (tupI ws),.nw (.lst ((aq n ws).map .int)),.no]).bo λ d=>Ou.nx [.sh (owD n ps),.sh (tupI ws),.nw (.lst ((aq n ws).map .int)),.nw d]).sq _ with| .nx _=>Rs.ok D.non| .rt d=>.ok d| .ex c=>.ex c|_=>.st)=_
 rw[c1,cC,bI,gU,aBI,bO,bO,ik,ik,bO,bO,c2];simp[owD]
end
theorem aOF{ws:List Int}:qw ltI ws=true↔ws.Pairwise (·< ·):=by
 constructor
 ·intro h
  have h':=nC.mp h;clear h;induction ws with
  |nil=>exact .nil
  |cons x ws ih=>
   have hp:=ih λ i a b e1 e2=>h' (i+1) a b e1 e2
   refine zAf.mpr ⟨λ y hy=>?_,hp⟩;cases ws with
   |nil=>cases hy
   |cons z zs=>
    have h1:x<z:=of_decide_eq_true (h' 0 x z rfl rfl);rcases zAN.mp hy with rfl|hy
    ·exact h1
    ·have:=(zAf.mp hp).1 y hy
     lia
 ·intro h
  rw[nC];intro i p q e1 e2;obtain⟨h1,rfl⟩:=zAH.mp e1;obtain⟨h2,rfl⟩:=zAH.mp e2;exact decide_eq_true (zB9.mp h i (i+1) h1 h2 (zBt i))
theorem ints_of:∀ws:List Int,(ws.map D.int).map intOf=ws
 |[]=>rfl
 |w::ws=>by rw[zAG,zAG,ints_of ws];rfl
theorem aHu{n:Int}{ws:List Int}(hr:ws.Pairwise (·< ·))(hin:∀x∈ws,0<=x/\x<n):j7 n (tupI ws)=true:=by
 unfold tupI j7;dsimp only;rw[ints_of,aOF.mpr hr,zCp,zAj];intro d hd;obtain⟨x,hx,rfl⟩:=zAn.mp hd
 have:=hin x hx
 simp[bW,this]
theorem aMq{t u:En->Rs Bool}{ρ:En}(h1:∃b,t ρ= .ok b)(h2:∃b,u ρ= .ok b):∃b,orT t u ρ= .ok b:=by
 obtain⟨b1,e1⟩:=h1;obtain⟨b2,e2⟩:=h2;rw[aIO,e1,e2];cases b1
 ·exact⟨b2,rfl⟩
 ·exact⟨true,rfl⟩
theorem aLQ{t u:En->Rs Bool}{ρ:En}(h1:∃b,t ρ= .ok b)(h2:∃b,u ρ= .ok b):∃b,wu t u ρ= .ok b:=by
 obtain⟨b1,e1⟩:=h1;obtain⟨b2,e2⟩:=h2;rw[xR,e1,e2];cases b1
 ·exact⟨false,rfl⟩
 ·exact⟨b2,rfl⟩
def smB:En->Ou:=ifS (orT (tsb (op2 (eqR false) (aB 3) (cD (.int 0)))) (wu (tsb (op2 gtD (aB 3) (cD (.int 1)))) (tsb (op2 (eqR false) (aK ao (aA (aB 0) (aA (op2 bh (op2 bh (aB 2) (cD (.int 1))) (aB 5)) (aA (op2 bh (cD (.int 1)) (aB 3)) aF)))) (cD (.int 0)))))) (qT 4 (bC (aB 5))) Ou.nx
theorem qL{c a n:Int}(h0:0<=n)(h1:n<=60)(ha:0<=a)(ha2:a<=100000):∃ws:List Int,dC [.int c,.int n,.int a]= .ok (tupI ws)/\ws.Pairwise (·< ·)/\(∀x∈ws,0<=x/\x<n)/\ws.length<=60:=by
 obtain⟨k,ek,hk6⟩:=jw (c:=c) (k:=a) (b:=6) ha (by lia) (by decide) (by decide);have hr:=jW (j:=n) (by lia) (by lia);obtain⟨ρ',e,ws,s5,rfl,w1,w2,w3⟩:=nM (a:=gnm 5) (u:=smB) (ds:=bT 0 n)
  (λ i ρ=>∃(ws:List Int) (s5:Slot),ρ=[.sh (.int c),.sh (.int n),.sh (.int a),.sh (.int k),.ow (.lst (ws.map .int)),s5]/\ws.Pairwise (·< ·)/\(∀x∈ws,0<=x/\x<(i:Int))/\ws.length<=i)
  (by
   rintro i d ρ hd ⟨ws,s5,rfl,w1,w2,w3⟩;obtain⟨rfl,hlt⟩:=j6 hd;obtain⟨r,er,_⟩:=jw (c:=c) (k:=a+1+(0+(i:Int))) (b:=1+(k:Int)) (by lia) (by lia) (by lia) (by lia);have hz:ws.length<16777216:=by lia
   have yes:∃ws':List Int,qT 4 (bC (aB 5)) [.sh (.int c),.sh (.int n),.sh (.int a),.sh (.int k),.ow (.lst (ws.map .int)),.sh (.int (0+(i:Int)))]= .nx [.sh (.int c),.sh (.int n),.sh (.int a),.sh (.int k),.ow (.lst (ws'.map .int)),.sh (.int (0+(i:Int)))]/\ws'.Pairwise (·< ·)/\(∀x∈ws',0<=x/\x<((i+1:Nat):Int))/\ws'.length<=i+1:=by
    refine⟨ws++[0+(i:Int)],by simp[qT,hz],?_,λ x hx=>?_,by simp;lia⟩
    ·rw[List.pairwise_append]
     exact⟨w1,by simp,λ x hx y hy=>by rw[zA8.mp hy];have:=w2 x hx;lia⟩
    ·rcases zAm.mp hx with z|z
     ·have:=w2 x z;lia
     ·rw[zA8.mp z];lia
   have no:∀x∈ws,0<=x/\x<((i+1:Nat):Int):=λ x hx=>by have:=w2 x hx;lia
   show∃ρ2,smB [.sh (.int c),.sh (.int n),.sh (.int a),.sh (.int k),.ow (.lst (ws.map .int)),.sh (.int (0+(i:Int)))]= .nx ρ2/\_
   unfold smB;rw[yt];obtain⟨b,eb⟩:∃b,orT (tsb (op2 (eqR false) (aB 3) (cD (.int 0)))) (wu (tsb (op2 gtD (aB 3) (cD (.int 1)))) (tsb (op2 (eqR false) (aK ao (aA (aB 0) (aA (op2 bh (op2 bh (aB 2) (cD (.int 1))) (aB 5)) (aA (op2 bh (cD (.int 1)) (aB 3)) aF)))) (cD (.int 0))))) [.sh (.int c),.sh (.int n),.sh (.int a),.sh (.int k),.ow (.lst (ws.map .int)),.sh (.int (0+(i:Int)))]= .ok b:=by
    have g:∀ρ:En,ρ=[.sh (.int c),.sh (.int n),.sh (.int a),.sh (.int k),.ow (.lst (ws.map .int)),.sh (.int (0+(i:Int)))]->tsb (op2 (eqR false) (aK ao (aA (aB 0) (aA (op2 bh (op2 bh (aB 2) (cD (.int 1))) (aB 5)) (aA (op2 bh (cD (.int 1)) (aB 3)) aF)))) (cD (.int 0))) ρ= .ok ((r:Int)==0):=λ ρ e=>by
     subst e;rw[pL,gj,eQ]
     have:aA (aB 0) (aA (op2 bh (op2 bh (aB 2) (cD (.int 1))) (aB 5)) (aA (op2 bh (cD (.int 1)) (aB 3)) aF)) [.sh (.int c),.sh (.int n),.sh (.int a),.sh (.int k),.ow (.lst (ws.map .int)),.sh (.int (0+(i:Int)))]= .ok [.int c,.int (a+1+(0+(i:Int))),.int (1+(k:Int))]:=rfl
     rw[this,bD,er];rfl
    exact aMq ⟨((k:Int)==0),by simp⟩ (aLQ ⟨decide ((k:Int)>1),by simp⟩ ⟨_,g _ rfl⟩)
   rw[eb,cC];cases b with
   |true=>
    obtain⟨ws',e,q1,q2,q3⟩:=yes;rw[if_pos rfl,e];exact⟨_,rfl,ws',_,rfl,q1,q2,q3⟩
   |false=>
    rw[if_neg (by simp)];exact⟨_,rfl,ws,_,rfl,w1,no,by lia⟩)
  (ρ:=[.sh (.int c),.sh (.int n),.sh (.int a),.sh (.int k),.ow (.lst []),.no]) ⟨[],.no,rfl,.nil,λ x hx=>(nomatch hx),by simp⟩
 have hln:(((bT 0 n).length:Nat):Int)=n:=by rw[gM];lia
 rw[hln]at w2;rw[gM]at w3;refine⟨ws,?_,w1,w2,by lia⟩;have st:az 6 [.int c,.int n,.int a]=[.sh (.int c),.sh (.int n),.sh (.int a),.no,.no,.no]:=rfl;have df:jF=aQ (cJ 3 (aK ao (aA (aB 0) (aA (aB 2) (aA (cD (.int 6)) aF))))) (aQ (mW 4 (iz aF)) (aQ (cz (du gO (aA (aB 1) aF)) (gnm 5) smB) (retS (opA cu (aA (pJ 4) aF))))):=rfl;simp only[dC,df,bA,st];simp[ek,hr,e,tupI]
theorem vO{c n:Int}:∃d,dM [.int c,.int n]= .ok d/\pln d=true/\lE d=true/\j7 n d=false:=by
 obtain⟨r,er,hr⟩:=jw (c:=c) (k:=6000) (b:=14) (by decide) (by decide) (by decide) (by decide);obtain⟨d,ed,hd,_⟩:=zZ (l:=[.tup [.int n],.tup [.int (-1)],.tup [.int 0,.int 0],.tup [.int 1,.int 0],.tup [.bl true],.tup [.non],.lst [],.lst [.int 0],.non,.int 0,.str "0",.tup [.tup []],.tup [.int 0,.int n],.dct [] []]) (i:=(r:Int)) (by lia) (by simpa using hr);refine⟨d,?_,?_⟩
 ·have st:az 3 [.int c,.int n]=[.sh (.int c),.sh (.int n),.no]:=rfl
  simp only[dM,dI,bA,st];simp[er,ed]
 ·simp only[zAN,zBp,or_false]at hd
  rcases hd with rfl|rfl|rfl|rfl|rfl|rfl|rfl|rfl|rfl|rfl|rfl|rfl|rfl|rfl
  ·exact⟨rfl,by simp[lE],by simp[j7,bW]⟩
  ·exact⟨rfl,by simp[lE],by simp[j7,bW]⟩
  ·exact⟨rfl,by decide,by simp[j7,qw,ltI,intOf]⟩
  ·exact⟨rfl,by decide,by simp[j7,qw,ltI,intOf]⟩
  ·exact⟨rfl,by simp[lE],by simp[j7,bW]⟩
  ·exact⟨rfl,by simp[lE],by simp[j7,bW]⟩
  ·exact⟨rfl,by decide,rfl⟩
  ·exact⟨rfl,by decide,rfl⟩
  ·exact⟨rfl,by decide,rfl⟩
  ·exact⟨rfl,by decide,rfl⟩
  ·exact⟨rfl,by decide,rfl⟩
  ·exact⟨rfl,by simp[lE],by simp[j7,bW]⟩
  ·exact⟨rfl,by simp[lE],by simp[j7,bW]⟩
  ·exact⟨rfl,by decide,rfl⟩
theorem vA{ρ:En}{fe:En->Rs D}{c w:Str}(h:fe (ρ.map shS)= .ex c)(hw:wdN c=some w):lu wdN "told" fe ρ= .ok (.str w):=by
 unfold lu;rw[h];dsimp only;rw[hw]
theorem aGP{n:Int}{ps:List (Int×Int)}(h0:0<=n)(h1:n<=60):(jg n (dbl ps)).length<=60:=by
 unfold jg;rw[zAE]
 have:=zBU (cY (dbl ps)) (upI n)
 rw[iU]at this;lia
def aET(es ws:List Int):List Int:=ws.filter λ x=>!decide (x∈es)
def xq(n:Int)(ps:List (Int×Int))(es ws:List Int):Int:=((jg ((aq n ws).length:Int) (dbl (mH (aq n ws) ps))).length:Int)-((aET es ws).length:Int)
section
variable{n:Int}{ps:List (Int×Int)}{ws es:List Int}
theorem aIJ{ρ:En}{fi:En->Rs (List D)}{js:List (Option Nat)}(hf:fi (shE ρ)= .ok (ws.map .int))(hs:stE js (shE ρ)=[.no,.sh (tupI es)])(hl:ws.length<=1000):
  lcD fi js (gnm 0) (tsb (op2 (inR true) (aB 0) (aB 1))) (bC (aB 0)) ρ= .ok (.lst ((aET es ws).map .int)):=
 yU (i:=0) (j:=0) hf (.inl hs) (by lia)
theorem aKQ:(aET es ws).length<=ws.length:=zBU _ _
theorem zp(h:Ow n ps)(low:∀p∈ps,p.1<p.2)(he:j7 n (tupI es)=true)(hle:es.length<=100000)(hw:j7 n (tupI ws)=true)(hl:ws.length<=1000):bJ [owD n ps,tupI es,tupI ws]= .ok (.int (xq n ps es ws)):=by
 have st:az 3 [owD n ps,tupI es,tupI ws]=[.sh (owD n ps),.sh (tupI es),.sh (tupI ws)]:=rfl;have hc1:=bw (m:=n) (d:=tupI es) (kJ es) (by simp[tupI,lE,hle]);rw[he,if_pos rfl]at hc1;have hc2:=bw (m:=n) (d:=tupI ws) (kJ ws) (by simp[tupI,lE];lia);rw[hw,if_pos rfl]at hc2;have hx:ixD (owD n ps) (.int 0)= .ok (.int n):=by simp[owD]
 have hwo:=aDm h low hw (by lia);obtain⟨h',low'⟩:=aF8 (ws:=ws) h low;have hp:=aIG h' low';have hpl:=aGP (ps:=mH (aq n ws) ps) h'.n0 h'.n1;have ho:=aKQ (es:=es) (ws:=ws);have lc:lcD (bK (aB 2)) [none,some 1] (gnm 0) (tsb (op2 (inR true) (aB 0) (aB 1))) (bC (aB 0)) [.sh (owD n ps),.sh (tupI es),.sh (tupI ws)]= .ok (.lst ((aET es ws).map .int)):=aIJ (by simp[shE,jo,tupI]) rfl hl;have c0:dW (aK bQ (aA (aB 0) aF)) [.sh (owD n ps),.sh (tupI es),.sh (tupI ws)]= .nx [.sh (owD n ps),.sh (tupI es),.sh (tupI ws)]:=by simp[cZ h low]
 have c1:dW (aK bL (aA (op2 ixD (aB 0) (cD (.int 0))) (aA (aB 1) aF))) [.sh (owD n ps),.sh (tupI es),.sh (tupI ws)]= .nx [.sh (owD n ps),.sh (tupI es),.sh (tupI ws)]:=by simp[hx,hc1]
 have c2:dW (aK bL (aA (op2 ixD (aB 0) (cD (.int 0))) (aA (aB 2) aF))) [.sh (owD n ps),.sh (tupI es),.sh (tupI ws)]= .nx [.sh (owD n ps),.sh (tupI es),.sh (tupI ws)]:=by simp[hx,hc2]
 have r1:opA bu (aA (aK ql (aA (aK lC (aA (aB 0) (aA (aB 2) aF))) aF)) aF) [.sh (owD n ps),.sh (tupI es),.sh (tupI ws)]= .ok (.int ((jg ((aq n ws).length:Int) (dbl (mH (aq n ws) ps))).length:Int)):=by simp[hwo,hp]
 have r2:opA bu (aA (lcD (bK (aB 2)) [none,some 1] (gnm 0) (tsb (op2 (inR true) (aB 0) (aB 1))) (bC (aB 0))) aF) [.sh (owD n ps),.sh (tupI es),.sh (tupI ws)]= .ok (.int ((aET es ws).length:Int)):=by
  rw[ik,bO,lc];simp
 simp only[bJ,fB,bA,st];rw[aN,c0,bI,aN,c1,bI,aN,c2,bI,gU,gj,r1,bD,r2];simp[xq]
theorem aBq(h:Ow n ps)(low:∀p∈ps,p.1<p.2)(hl:ws.length<=1000):j9 [owD n ps,tupI ws,tupI es]= .ok (.int (xq n ps es ws)):=by
 have st:az 3 [owD n ps,tupI ws,tupI es]=[.sh (owD n ps),.sh (tupI ws),.sh (tupI es)]:=rfl;have hwo:=aDN (ws:=ws) h;obtain⟨h',low'⟩:=aF8 (ws:=ws) h low;have hp:=aBr h';have lc:lcD (bK (aB 1)) [none,some 2] (gnm 0) (tsb (op2 (inR true) (aB 0) (aB 1))) (bC (aB 0)) [.sh (owD n ps),.sh (tupI ws),.sh (tupI es)]= .ok (.lst ((aET es ws).map .int)):=aIJ (by simp[shE,jo,tupI]) rfl hl;have r1:opA bu (aA (aK jb (aA (aK lZ (aA (aB 0) (aA (aB 1) aF))) aF)) aF) [.sh (owD n ps),.sh (tupI ws),.sh (tupI es)]= .ok (.int ((jg ((aq n ws).length:Int) (dbl (mH (aq n ws) ps))).length:Int)):=by simp[hwo,hp]
 have r2:opA bu (aA (lcD (bK (aB 1)) [none,some 2] (gnm 0) (tsb (op2 (inR true) (aB 0) (aB 1))) (bC (aB 0))) aF) [.sh (owD n ps),.sh (tupI ws),.sh (tupI es)]= .ok (.int ((aET es ws).length:Int)):=by
  rw[ik,bO,lc];simp
 simp only[j9,iG,bA,st];rw[gU,gj,r1,bD,r2];simp[xq]
theorem aFT:j7 n (tupI [])=true:=rfl
end
section
variable{n:Int}{es:List (Int×Int)}{rws:List (List Int)}
theorem aCp{l:List Int}:t8 n l=true↔sortI l=upI n:=by
 unfold t8;rw[yG];show gR ((sortI l).map .int) ((upI n).map .int)=true↔_;rw[aAt,decide_eq_true_eq]
theorem aFO(rws:List (List Int)):(rws.map tupI).map rowOf=rws:=by
 rw[zAb]
 conv=>rhs;rw[<-zE4 rws]
 exact zCG λ r _=>ints_of r
theorem Pq.flat(P:Pq n es [] rws):rws.flatten.Perm (upI n):=by
 have:=P.pm
 rwa [zAi]at this
theorem Pq.mem(P:Pq n es [] rws){r:List Int}(hr:r∈rws){x:Int}(hx:x∈r):0<=x/\x<n:=m8.mp (P.flat.mem_iff.mp (List.mem_flatten.mpr ⟨r,hr,hx⟩))
theorem Pq.lenF(P:Pq n es [] rws):rws.flatten.length=n.toNat:=by rw[P.flat.length_eq,iU]
theorem aFP{r:List Int}:∀{rws:List (List Int)},r∈rws->r.length<=rws.flatten.length
 |a::l,h=>by
  rw[zBJ,zA5];rcases zAN.mp h with rfl|h
  ·lia
  ·have:=aFP h
   lia
theorem aH6{r:List Int}:∀{rws:List (List Int)},rws.flatten.Nodup->r∈rws->r.Nodup
 |a::l,h,hr=>by
  rw[zBJ,zBW]at h;rcases zAN.mp hr with rfl|hr
  ·exact h.1
  ·exact aH6 h.2.1 hr
theorem aGQ(P:Pq n es [] rws):rF n es (.tup (rws.map tupI))=true:=by
 unfold rF;dsimp only;rw[aFO,zAK,zAj];have hnd:rws.flatten.Nodup:=P.flat.nodup_iff.mpr (aCW n);refine⟨λ d hd=>?_,aCp.mpr ?_⟩
 ·obtain⟨r,hr,rfl⟩:=zAn.mp hd
  have h1:(r.map D.int).isEmpty=false:=by
   cases r with
   |nil=>exact absurd rfl (P.ne _ hr)
   |cons _ _=>rfl
  have h2:(r.map D.int).all (bW n)=true:=by
   rw[zAj];intro d hd;obtain⟨x,hx,rfl⟩:=zAn.mp hd
   have:=P.mem hr hx
   simp[bW,this]
  have h3:=aCE r (aH6 hnd hr)
  show(!(r.map D.int).isEmpty&&(r.map D.int).all (bW n)&&decide ((ddI ((r.map D.int).map intOf)).length=(r.map D.int).length)&&cO es ((r.map D.int).map intOf))=true
  rw[ints_of,h1,h2,h3,P.al r hr];simp
 ·exact zDi ((sortI_perm _).trans P.flat) (iB _) ((aBH n).imp λ h=>Int.le_of_lt h)
theorem aGR(P:Pq n es [] rws):rF n es (.tup (rws.map tupI++[tupI [0]]))=false:=by
 have e:rws.map tupI++[tupI [0]]=(rws++[[0]]).map tupI:=by simp
 rw[e];unfold rF;dsimp only;rw[aFO]
 have:t8 n (rws++[[0]]).flatten=false:=by
  cases h:t8 n (rws++[[0]]).flatten with
  |false=>rfl
  |true=>
   have h':=congrArg zHo (aCp.mp h);rw[(sortI_perm _).length_eq,iU,zHn,zA5,P.lenF]at h';simp at h'
 rw[this,zDF]
theorem Pq.fi(P:Pq n es [] rws)(h:n<=60):Fi (.tup (rws.map tupI))/\Fi (.tup (rws.map tupI++[tupI [0]])):=by
 have hl:=nP P.ne;have hf:=P.lenF;have hs:(rws.map λ r=>aDD (tupI r)).sum=rws.flatten.length:=by
  rw[List.length_flatten];exact congrArg List.sum (zCG λ r _=>by simp[tupI,aDD])
 have hrow:∀r∈rws,Fn4 (tupI r):=λ r hr=>El.fn (k:=0) El.ints (by decide) (by have:=aFP hr;rw[zAE];lia)
 have hp:∀d∈rws.map tupI,Fn4 d:=λ d hd=>by
  obtain⟨r,hr,rfl⟩:=zAn.mp hd;exact hrow r hr
 have h0:Fn4 (tupI [0]):=El.fn (k:=0) El.ints (by decide) (by decide);have hp2:∀d∈rws.map tupI++[tupI [0]],Fn4 d:=λ d hd=>by
  rcases zAm.mp hd with z|z
  ·exact hp d z
  ·rw[zA8.mp z];exact h0
 refine⟨⟨by unfold pln;exact xJ λ d hd=>(hp d hd).p,λ l e=>by cases e;exact hp,λ l e=>by
  cases e;refine⟨?_,by rw[zAE];lia⟩;rw[zAb]
  show(rws.map λ r=>aDD (tupI r)).sum<64
  lia⟩,⟨by unfold pln;exact xJ λ d hd=>(hp2 d hd).p,λ l e=>by cases e;exact hp2,λ l e=>by
  cases e;refine⟨?_,by simp;lia⟩;rw[zAq,List.sum_append,zAb]
  show(rws.map λ r=>aDD (tupI r)).sum+1<64
  lia⟩⟩
end
def hdI(r:List Int):Int:=r.headD 0
def laI(r:List Int):Int:=r.getLastD 0
theorem aJZ{r:List Int}(h:r≠[]):atD (r.map .int) 0= .ok (.int (hdI r)):=by
 cases r with
 |nil=>exact absurd rfl h
 |cons a r=>exact gY (k:=0) rfl
theorem aJY{r:List Int}(h:r≠[]):atD (r.map .int) (-1)= .ok (.int (laI r)):=by
 rw[aDb h];cases r with
 |nil=>exact absurd rfl h
 |cons a r=>rfl
def nq(rws:List (List Int)):List Int:=rws.flatMap λ r=>[hdI r,laI r]
theorem aK4{x:Int}{rws:List (List Int)}:x∈nq rws↔∃r∈rws,x=hdI r\/x=laI r:=by
 unfold nq;rw[zI7];constructor
 ·rintro⟨r,h1,h2⟩;exact⟨r,h1,by simpa using h2⟩
 ·rintro⟨r,h1,h2⟩;exact⟨r,h1,by simpa using h2⟩
theorem aJf(rws:List (List Int)):(nq rws).length=2*rws.length:=by
 unfold nq;rw[List.length_flatMap];induction rws with
 |nil=>rfl
 |cons a l ih=>simp at ih ⊢;lia
def ekI:En->Rs (List D):=inL (bK (cM (aA (op2 ixD (aB 0) (cD (.int 0))) (aA (op2 ixD (aB 0) (op1 sW (cD (.int 1)))) aF)))) (gnm 1) cU (pairE (bC (aB 1)) (cD (.bl true)))
theorem aHB:∀{rws:List (List Int)},(∀r∈rws,r≠[])->nsL [.no,.no] (gnm 0) cU ekI (rws.map tupI)= .ok (((nq rws).map λ x=>(x,D.bl true)).map λ q=>.tup [.int q.1,q.2])
 |[],_=>rfl
 |r::rws,hn=>by
  have hr:=hn r zAI;have ih:=aHB λ x hx=>hn x (zAL _ hx)
  have hi:ekI [.sh (tupI r),.no]= .ok (([hdI r,laI r].map λ x=>(x,D.bl true)).map λ q=>.tup [.int q.1,q.2]):=by
   unfold ekI inL;rw[if_pos (by rfl)]
   have:bK (cM (aA (op2 ixD (aB 0) (cD (.int 0))) (aA (op2 ixD (aB 0) (op1 sW (cD (.int 1)))) aF))) [.sh (tupI r),.no]= .ok ([hdI r,laI r].map .int):=by
    simp[tupI,aJZ hr,aJY hr]
   rw[this,bD,zAb];exact qK (f:=D.int) [hdI r,laI r] λ x _=>⟨[.sh (tupI r),.sh (.int x)],rfl,by simp[pairE]⟩
  rw[zAG]
  show((gnm 0 (tupI r) [.no,.no]).bd λ ρ1=>(cU ρ1).bd λ k=>if k=true then(ekI ρ1).bd λ ys=>(nsL [.no,.no] (gnm 0) cU ekI (rws.map tupI)).bd λ zs=>.ok (ys++zs)else _)=_
  have hg:gnm 0 (tupI r) [.no,.no]= .ok [.sh (tupI r),.no]:=rfl;have hy:cU [.sh (tupI r),.no]= .ok true:=rfl;rw[hg,bD,hy,bD,if_pos rfl,hi,bD,ih,bD,<-zAq,<-zAq];rfl
theorem aLH{fi:En->Rs (List D)}{js:List (Option Nat)}{fg:D->En->Rs En}{ft:En->Rs Bool}{inn:En->Rs (List D)}{ρ:En}{ds:List D}{qs:List (Int×D)}(h1:fi (shE ρ)= .ok ds)(h2:qs.length<16777216)
  (h3:nsL (stE js (shE ρ)) fg ft inn ds= .ok (qs.map λ q=>.tup [.int q.1,q.2])):aEv fi js fg ft inn ρ= .ok (jy (eV [] qs)):=by
 unfold aEv;rw[h1,bD,h3];dsimp only;rw[if_pos (by rw[szl,zAE];exact h2),yO]
theorem aAc{x:Int}:∀{ps:List (Int×D)},(ps.lookup x).isSome=decide (x∈ps.map (·.1))
 |[]=>rfl
 |p::ps=>by
  rw[zAk,zAG];by_cases c:x=p.1
  ·subst c;simp
  ·have:(x==p.1)=false:=by simpa using c
   rw[this];dsimp only;rw[aAc];simp[c]
theorem aHj{x i:Int}{d:D}{ps:List (Int×D)}:x∈(yM ps i d).map (·.1)↔x∈ps.map (·.1)\/x=i:=by
 unfold yM;split
 ·rename_i h
  rw[zDN]at h;obtain⟨p,hp,e⟩:=h;have e':=of_decide_eq_true e;rw[zAb]
  have:((λ x:Int×D=>x.1)∘λ p=>if p.1=i then(p.1,d)else p)=λ p:Int×D=>p.1:=by
   funext q
   show(if q.1=i then(q.1,d)else q).1=q.1
   split<;>rfl
  rw[this];constructor
  ·exact .inl
  ·rintro(z|rfl)
   ·exact z
   ·exact zAn.mpr ⟨p,hp,e'⟩
 ·simp
theorem aAl{x:Int}:∀{qs acc:List (Int×D)},x∈(eV acc qs).map (·.1)↔x∈acc.map (·.1)\/x∈qs.map (·.1)
 |[],acc=>by simp[eV]
 |q::qs,acc=>by
  have e:eV acc (q::qs)=eV (yM acc q.1 q.2) qs:=rfl;rw[e,aAl,aHj,zAG,zAN,or_assoc]
section
variable{es:List Int}{rws:List (List Int)}
theorem aCB(hn:∀r∈rws,r≠[])(hl:rws.length<=1000)(he:es.length<=1000):jc [tupI es,.tup (rws.map tupI)]= .ok (.bl (es.all λ x=>decide (x∈nq rws))):=by
 have st:az 3 [tupI es,.tup (rws.map tupI)]=[.sh (tupI es),.sh (.tup (rws.map tupI)),.no]:=rfl;have df:iI=aQ (cJ 2 (aEv (bK (aB 1)) [none,none] (gnm 0) cU ekI)) (retS (opA (ww λ bs=>bs.all id) (aA (lcD (bK (aB 0)) [none,some 2] (gnm 0) cU (op2 (rA false) (aB 0) (aB 1))) aF))):=rfl;have c1:aEv (bK (aB 1)) [none,none] (gnm 0) cU ekI [.sh (tupI es),.sh (.tup (rws.map tupI)),.no]= .ok (jy (eV [] ((nq rws).map λ x=>(x,D.bl true)))):=aLH (ds:=rws.map tupI) (by simp[shE,jo]) (by rw[zAE,aJf];lia) (aHB hn);generalize hW:eV [] ((nq rws).map λ x=>(x,D.bl true))=W at c1;have hk:∀x,(W.lookup x).isSome=decide (x∈nq rws):=λ x=>by
  rw[aAc,<-hW];congr 1;rw[aAl,zAb];simp[zE2]
 have c2:lcD (bK (aB 0)) [none,some 2] (gnm 0) cU (op2 (rA false) (aB 0) (aB 1)) [.sh (tupI es),.sh (.tup (rws.map tupI)),.sh (jy W)]= .ok (.lst (es.map λ x=>.bl (decide (x∈nq rws)))):=by
  refine jh (ds:=es.map .int) (by simp[shE,jo,tupI]) (by rw[zAE];lia) (qK es λ x _=>⟨[.sh (.int x),.sh (jy W)],rfl,?_⟩);simp[aLs,hk x]
 have c3:=aNe c2;simp only[jc,df,bA,st];rw[aN,aFI,c1,cC,bI]
 show(match retS _ [.sh (tupI es),.sh (.tup (rws.map tupI)),.sh (jy W)]with| .nx _=>Rs.ok D.non| .rt d=>.ok d| .ex c=>.ex c|_=>.st)=_
 rw[gU,c3];rfl
theorem aGf(l:List (List Int)):eqR false (.lst (l.map tupI)) (.lst [])= .ok (.bl l.isEmpty):=by
 have eT:∀d∈l.map tupI,El 1 d:=λ d hd=>by
  obtain⟨r,_,rfl⟩:=zAn.mp hd;exact .tup El.ints
 have h1:=zU (k:=1) λ d hd=>(eT d hd).e
 have h2:bB (l.map tupI)=true:=vI λ d hd=>(eT d hd).n
 have e:eqD (.lst (l.map tupI)) (.lst [])=l.isEmpty:=by cases l<;>simp[eqD,gR]
 unfold eqR;rw[if_pos (by simp[iT,cg,aU,bB,h2];lia),e];rfl
def lkL:En->Rs D:=lcD (bK (aB 1)) [none,some 2] (gnm 0) (orT (tsb (op2 (eqR false) (aB 1) (op2 ixD (aB 0) (cD (.int 0))))) (tsb (op2 (eqR false) (aB 1) (op2 ixD (aB 0) (op1 sW (cD (.int 1))))))) (bC (aB 0))
def lkB:En->Ou:=ifS (tsb (op2 (eqR false) lkL (iz aF))) (retS (cD (.bl false))) Ou.nx
theorem aNL{s0:Slot}{x:Int}(hn:∀r∈rws,r≠[])(hl:rws.length<=1000):lkB [s0,.sh (.tup (rws.map tupI)),.sh (.int x)]=if x∈nq rws then .nx [s0,.sh (.tup (rws.map tupI)),.sh (.int x)]else .rt (.bl false):=by
 have c:lkL [s0,.sh (.tup (rws.map tupI)),.sh (.int x)]= .ok (.lst ((rws.filter λ r=>x==hdI r||x==laI r).map tupI)):=by
  refine jh (ds:=rws.map tupI) (by simp[shE,jo]) (by rw[zAE];lia) (mJ rws λ r hr=>⟨[.sh (tupI r),.sh (.int x)],rfl,?_,?_⟩)
  ·have a1:=aJZ (hn r hr)
   have a2:=aJY (hn r hr);simp only[aIO,pL,gj,nj,aD9,aNG,zBC,zAz,bD,tupI,aFf,a1,a2,gk,aIU,aLE,zX,zAu,if_false];cases x==hdI r<;>rfl
  ·have:yx (tupI r)= .ok (tupI r):=(El.tup (k:=0) El.ints).g
   simp[this]
 have q:=aGf (rws.filter λ r=>x==hdI r||x==laI r);have hz:(rws.filter λ r=>x==hdI r||x==laI r).isEmpty= !decide (x∈nq rws):=by
  rw[zCU,List.isEmpty_iff,List.filter_eq_nil_iff];simp only[zDV,beq_iff_eq,zDC,decide_eq_false_iff_not,aK4];exact⟨λ h ⟨r,h1,h2⟩=>h r h1 h2,λ h r h1 h2=>h ⟨r,h1,h2⟩⟩
 rw[lkB,yt,pL,gj,c,bD];simp only[aF5,mG,bD];rw[if_pos (by simp)];simp only[bD,q,hz,gk,zX,cC];by_cases h:x∈nq rws<;>simp[h]
theorem aF7{s0:Slot}(hn:∀r∈rws,r≠[])(hl:rws.length<=1000):∀(es:List Int) (s2:Slot),((es.all λ x=>decide (x∈nq rws))=true/\∃s2',forL (gnm 2) lkB (es.map .int) [s0,.sh (.tup (rws.map tupI)),s2]= .nx [s0,.sh (.tup (rws.map tupI)),s2'])\/((es.all λ x=>decide (x∈nq rws))=false/\forL (gnm 2) lkB (es.map .int) [s0,.sh (.tup (rws.map tupI)),s2]= .rt (.bl false))
 |[],s2=>.inl ⟨rfl,s2,rfl⟩
 |x::es,s2=>by
  have hg:gnm 2 (.int x) [s0,.sh (.tup (rws.map tupI)),s2]= .ok [s0,.sh (.tup (rws.map tupI)),.sh (.int x)]:=rfl;rw[zAG,eG,hg,oX,aNL hn hl,zCr];by_cases h:x∈nq rws
  ·rw[if_pos h,rD,decide_eq_true h,zEd]
   exact aF7 hn hl es _
  ·rw[if_neg h,aL2,decide_eq_false h,zGf]
   exact .inr ⟨rfl,rfl⟩
theorem aDO(hn:∀r∈rws,r≠[])(hl:rws.length<=1000):lq [tupI es,.tup (rws.map tupI)]= .ok (.bl (es.all λ x=>decide (x∈nq rws))):=by
 have st:az 3 [tupI es,.tup (rws.map tupI)]=[.sh (tupI es),.sh (.tup (rws.map tupI)),.no]:=rfl;have df:jJ=aQ (cz (bK (aB 0)) (gnm 2) lkB) (retS (cD (.bl true))):=rfl;have c0:bK (aB 0) [.sh (tupI es),.sh (.tup (rws.map tupI)),.no]= .ok (es.map .int):=by simp[tupI]
 simp only[lq,df,bA,st];rw[aN,fU,c0,cC];rcases aF7 (s0:=.sh (tupI es)) hn hl es .no with ⟨h,s2',e⟩|⟨h,e⟩
 ·rw[e,h];rfl
 ·rw[e,h];rfl
end
section
variable{n:Int}{ps:List (Int×Int)}{ws es:List Int}{rws:List (List Int)}{d:D}
theorem qe:qj=aQ (dW (aK bQ (aA (aB 0) aF))) (aQ (dW (aK bL (aA (op2 ixD (aB 0) (cD (.int 0))) (aA (aB 1) aF)))) (aQ (dW (aK fH (aA (aB 0) (aA (aB 2) aF)))) (retS (aK jc (aA (aB 1) (aA (aB 2) aF)))))):=rfl
theorem aIg(h:Ow n ps)(low:∀p∈ps,p.1<p.2)(he:j7 n (tupI es)=true)(hle:es.length<=1000)(P:Pq n (dbl ps) [] rws):cP [owD n ps,tupI es,.tup (rws.map tupI)]= .ok (.bl (es.all λ x=>decide (x∈nq rws))):=by
 have st:az 3 [owD n ps,tupI es,.tup (rws.map tupI)]=[.sh (owD n ps),.sh (tupI es),.sh (.tup (rws.map tupI))]:=rfl;have hc1:=bw (m:=n) (d:=tupI es) (kJ es) (by simp[tupI,lE];lia);rw[he,if_pos rfl]at hc1;have hc2:=nT h low (P.fi h.n1).1;rw[aGQ P,if_pos rfl]at hc2;have hx:ixD (owD n ps) (.int 0)= .ok (.int n):=by simp[owD]
 have hl:=nP P.ne;have hf:=P.lenF;have hn1:=h.n1;have hek:=aCB (es:=es) P.ne (by lia) hle;simp only[cP,qe,bA,st];simp[cZ h low,hx,hc1,hc2,hek]
theorem aIf(h:Ow n ps)(low:∀p∈ps,p.1<p.2)(hp:pln d=true)(hs:lE d=true)(hb:j7 n d=false):cP [owD n ps,d,.non]= .ex "NoPlace":=by
 have st:az 3 [owD n ps,d,.non]=[.sh (owD n ps),.sh d,.sh .non]:=rfl;have hc1:=bw (m:=n) hp hs;rw[hb,if_neg (by simp)]at hc1;have hx:ixD (owD n ps) (.int 0)= .ok (.int n):=by simp[owD]
 simp only[cP,qe,bA,st];simp[cZ h low,hx,hc1]
theorem aIe(h:Ow n ps)(low:∀p∈ps,p.1<p.2)(P:Pq n (dbl ps) [] rws):cP [owD n ps,tupI [],.tup (rws.map tupI++[tupI [0]])]= .ex "NoParting":=by
 have st:az 3 [owD n ps,tupI [],.tup (rws.map tupI++[tupI [0]])]=[.sh (owD n ps),.sh (tupI []),.sh (.tup (rws.map tupI++[tupI [0]]))]:=rfl;have hc1:=bw (m:=n) (d:=tupI []) (kJ []) (by simp[tupI,lE]);rw[aFT,if_pos rfl]at hc1;have hc2:=nT h low (P.fi h.n1).2;rw[aGR P,if_neg (by simp)]at hc2;have hx:ixD (owD n ps) (.int 0)= .ok (.int n):=by simp[owD]
 simp only[cP,qe,bA,st];rw[aN,qP,eQ];simp only[bO,nj,zBC,zAz,bD,mG,cZ h low,cC,bI,aN,qP,eQ,gj,aD9,hx,gk,hc1,hc2];simp
theorem xn:fB=aQ (dW (aK bQ (aA (aB 0) aF))) (aQ (dW (aK bL (aA (op2 ixD (aB 0) (cD (.int 0))) (aA (aB 1) aF)))) (aQ (dW (aK bL (aA (op2 ixD (aB 0) (cD (.int 0))) (aA (aB 2) aF)))) (retS (op2 zm (opA bu (aA (aK ql (aA (aK lC (aA (aB 0) (aA (aB 2) aF))) aF)) aF)) (opA bu (aA (lcD (bK (aB 2)) [none,some 1] (gnm 0) (tsb (op2 (inR true) (aB 0) (aB 1))) (bC (aB 0))) aF)))))):=rfl
theorem aGD(h:Ow n ps)(low:∀p∈ps,p.1<p.2)(hp:pln d=true)(hs:lE d=true)(hb:j7 n d=false):bJ [owD n ps,.tup [],d]= .ex "NoPlace":=by
 have st:az 3 [owD n ps,.tup [],d]=[.sh (owD n ps),.sh (tupI []),.sh d]:=rfl;have hc1:=bw (m:=n) (d:=tupI []) (kJ []) (by simp[tupI,lE]);rw[aFT,if_pos rfl]at hc1;have hc2:=bw (m:=n) hp hs;rw[hb,if_neg (by simp)]at hc2;have hx:ixD (owD n ps) (.int 0)= .ok (.int n):=by simp[owD]
 simp only[bJ,xn,bA,st];simp only[aN,qP,eQ,bO,nj,zBC,zAz,bD,mG,cZ h low,cC,bI,gj,aD9,hx,gk,hc1,hc2];simp
theorem aGE{e:D}(h:Ow n ps)(low:∀p∈ps,p.1<p.2)(hp:pln d=true)(hs:lE d=true)(hb:j7 n d=false):bJ [owD n ps,d,e]= .ex "NoPlace":=by
 have st:az 3 [owD n ps,d,e]=[.sh (owD n ps),.sh d,.sh e]:=rfl;have hc1:=bw (m:=n) hp hs;rw[hb,if_neg (by simp)]at hc1;have hx:ixD (owD n ps) (.int 0)= .ok (.int n):=by simp[owD]
 simp only[bJ,xn,bA,st];simp only[aN,qP,eQ,bO,nj,zBC,zAz,bD,mG,cZ h low,cC,bI,gj,aD9,hx,gk,hc1];simp
end
def kB:En->Ou:=aQ (cJ 8 (aK cP (aA (aB 3) (aA (aB 7) (aA (aB 4) aF)))))
    (aQ (ifS (orT (iu (tst (op1 (jD "bool") (aB 8)))) (tsb (op2 (eqR true) (aB 8) (aK lq (aA (aB 7) (aA (aB 4) aF))))))
     (retS (cD (.bl false)))
     Ou.nx)
    (aQ (cJ 9 (aK dC (aA (aB 2) (aA (op2 ixD (aB 3) (cD (.int 0))) (aA (op2 bh (cD (.int 5100)) (opA bu (aA (aB 7) aF))) aF)))))
    (aQ (cJ 10 (aK bJ (aA (aB 3) (aA (aB 7) (aA (aB 9) aF)))))
    (ifS (orT (tst (op1 (jD "bool") (aB 10))) (tsb (op2 (eqR true) (aB 10) (aK j9 (aA (aB 3) (aA (aB 9) (aA (aB 7) aF)))))))
     (retS (cD (.bl false)))
     Ou.nx))))
def kE:En->Ou:=aQ (ifS (tsb (op2 (eqR true) (lu wdN "told" (aK cP (aA (aB 3) (aA (aB 11) (aA (cD .non) aF))))) (cD (.str "place"))))
    (retS (cD (.bl false)))
    Ou.nx)
   (aQ (ifS (tsb (op2 (eqR true) (lu wdN "told" (aK cP (aA (cD .non) (aA (aB 11) (aA (cD (.int 0)) aF))))) (cD (.str "web"))))
    (retS (cD (.bl false)))
    Ou.nx)
   (aQ (ifS (tsb (op2 (eqR true) (lu wdN "told" (aK cP (aA (aB 3) (aA (cM aF) (aA (op2 bh (aB 4) (cM (aA (cM (aA (cD (.int 0)) aF)) aF))) aF))))) (cD (.str "parting"))))
    (retS (cD (.bl false)))
    Ou.nx)
   (aQ (ifS (tsb (op2 (eqR true) (lu wdN "told" (aK bJ (aA (aB 3) (aA (cM aF) (aA (aB 11) aF))))) (cD (.str "place"))))
    (retS (cD (.bl false)))
    Ou.nx)
   (aQ (ifS (tsb (op2 (eqR true) (lu wdN "told" (aK bJ (aA (aB 3) (aA (aB 11) (aA (cM aF) aF))))) (cD (.str "place"))))
    (retS (cD (.bl false)))
    Ou.nx)
   (ifS (tsb (op2 (eqR true) (lu wdN "told" (aK bJ (aA (cD (.int 0)) (aA (cM aF) (aA (cM aF) aF))))) (cD (.str "web"))))
    (retS (cD (.bl false)))
    Ou.nx)))))
def kTp:En->Rs D:=opA gK (aA (op2 bh (lcD (bK (aB 4)) [none] (gnm 0) cU (bC (op2 ixD (aB 0) (cD (.int 0))))) (lcD (bK (aB 4)) [none] (gnm 0) cU (bC (op2 ixD (aB 0) (op1 sW (cD (.int 1))))))) aF)
def kI:En->Rs D:=lcD (bK (aB 6)) [none,some 5] (gnm 0) cU (bC (op2 ixD (aB 1) (aB 0)))
def kIt:En->Rs (List D):=bK (iz (aA (aK dC (aA (aB 2) (aA (op2 ixD (aB 3) (cD (.int 0))) (aA (cD (.int 5000)) aF)))) (aA (opA cu (aA kI aF)) (aA (opA cu (aA (fG 5) aF)) (aA (cM aF) aF)))))
def kK:En->Ou:=aQ (cJ 2 (aK dm (aA (aB 0) (aA (aB 1) aF)))) (aQ (cJ 3 (aK jT (aA (aB 2) (aA (cD (.int 10)) aF)))) (aQ (cJ 4 (aK fC (aA (aB 2) (aA (cD (.int 7000)) (aA (aB 3) (aA (aK jU (aA (aB 3) aF)) aF)))))) (aQ (lF 5 kTp) (aQ (cJ 6 (aK dC (aA (aB 2) (aA (opA bu (aA (fG 5) aF)) (aA (cD (.int 5300)) aF))))) (aQ (cz kIt (gnm 7) kB) (aQ (cJ 11 (aK dM (aA (aB 2) (aA (op2 ixD (aB 3) (cD (.int 0))) aF)))) kE))))))
def kR:En->Rs (List D):=du gO (aA (opA (mmD λ i j=>if j>i then j else i) (aA (cD (.int 1)) (aA (opA (mmD λ i j=>if j<i then j else i) (aA (opA bu (aA (aB 0) aF)) (aA (cD (.int 6)) aF))) aF))) aF)
theorem aKd:aBA=aQ (cz kR (gnm 1) kK) (retS (cD (.bl true))):=rfl
abbrev kV(ns:List Int)(k c n:Int)(ps:List (Int×Int))(rws:List (List Int))(s5 s6 s7 s8 s9 s10 s11:Slot):En:=[.sh (.scr ns),.sh (.int k),.sh (.int c),.sh (owD n ps),.sh (.tup (rws.map tupI)),s5,s6,s7,s8,s9,s10,s11]
structure Pl(n:Int)(es:List Int):Prop where
 ris:es.Pairwise (·< ·)
 inn:∀x∈es,0<=x/\x<n
 len:es.length<=130
section
variable{ns:List Int}{k c n:Int}{ps:List (Int×Int)}{rws:List (List Int)}{s5 s6 s7 s8 s9 s10 s11:Slot}
theorem aO1{es:List Int}(h:Ow n ps)(low:∀p∈ps,p.1<p.2)(P:Pq n (dbl ps) [] rws)(E:Pl n es):∃s8' s9' s10',kB (kV ns k c n ps rws s5 s6 (.sh (tupI es)) s8 s9 s10 s11)= .nx (kV ns k c n ps rws s5 s6 (.sh (tupI es)) s8' s9' s10' s11):=by
 have hE:=E.len;have hl:=nP P.ne;have hf:=P.lenF;have hn1:=h.n1;have pe:=aHu E.ris E.inn;have e1:=aIg h low pe (by lia) P;have e2:=aDO (es:=es) P.ne (by lia);obtain⟨ws,ew,w1,w2,w3⟩:=qL (c:=c) (a:=5100+(es.length:Int)) h.n0 h.n1 (by lia) (by lia);have e3:=zp h low pe (by lia) (aHu w1 w2) (by lia);have e4:=aBq (ws:=ws) (es:=es) h low (by lia);have hx:ixD (owD n ps) (.int 0)= .ok (.int n):=by simp[owD]
 have hln:bu [tupI es]= .ok (.int (es.length:Int)):=by simp[tupI]
 have ib:∀b,jD "bool" (.bl b)= .ok (.bl true):=λ b=>rfl
 have ii:∀i,jD "bool" (.int i)= .ok (.bl false):=λ i=>rfl
 have eb:∀b:Bool,eqR true (.bl b) (.bl b)= .ok (.bl false):=λ b=>by cases b<;>rfl
 generalize (es.all λ x=>decide (x∈nq rws))=B at e1 e2;refine⟨.sh (.bl B),.sh (tupI ws),.sh (.int (xq n ps es ws)),?_⟩;simp[kB,e1,e2,ib,eb,hx,hln,ew,e3,e4,ii,-aN5]
theorem aO0{d:D}(h:Ow n ps)(low:∀p∈ps,p.1<p.2)(P:Pq n (dbl ps) [] rws)(hp:pln d=true)(hs:lE d=true)(hb:j7 n d=false):kE (kV ns k c n ps rws s5 s6 s7 s8 s9 s10 (.sh d))= .nx (kV ns k c n ps rws s5 s6 s7 s8 s9 s10 (.sh d)):=by
 have hl:=nP P.ne;have hf:=P.lenF;have hn1:=h.n1;have a3:bQ [.non]= .ex "NoWeb":=rfl;have r1:lu wdN "told" (aK cP (aA (aB 3) (aA (aB 11) (aA (cD .non) aF)))) (kV ns k c n ps rws s5 s6 s7 s8 s9 s10 (.sh d))= .ok (.str "place"):=vA (c:="NoPlace") (by rw[eQ];exact aIf h low hp hs hb) rfl;have a5:cP [.non,d,.int 0]= .ex "NoWeb":=by
  have st:az 3 [.non,d,.int 0]=[.sh .non,.sh d,.sh (.int 0)]:=rfl;simp only[cP,qe,bA,st];rw[aN,qP,eQ];simp[a3]
 have r2:lu wdN "told" (aK cP (aA (cD .non) (aA (aB 11) (aA (cD (.int 0)) aF)))) (kV ns k c n ps rws s5 s6 s7 s8 s9 s10 (.sh d))= .ok (.str "web"):=vA (c:="NoWeb") (by simp[shS,a5]) rfl;have A:bh (.tup (rws.map tupI)) (.tup [.tup [.int 0]])= .ok (.tup (rws.map tupI++[tupI [0]])):=aOf (by simp;lia);have a6:=aIe h low P;have a6':cP [owD n ps,.tup [],.tup (rws.map tupI++[tupI [0]])]= .ex "NoParting":=a6;have r3:lu wdN "told" (aK cP (aA (aB 3) (aA (cM aF) (aA (op2 bh (aB 4) (cM (aA (cM (aA (cD (.int 0)) aF)) aF))) aF)))) (kV ns k c n ps rws s5 s6 s7 s8 s9 s10 (.sh d))= .ok (.str "parting"):=vA (c:="NoParting") (by
  rw[eQ];simp[shS,A,a6',-z8]) rfl
 have r4:lu wdN "told" (aK bJ (aA (aB 3) (aA (cM aF) (aA (aB 11) aF)))) (kV ns k c n ps rws s5 s6 s7 s8 s9 s10 (.sh d))= .ok (.str "place"):=vA (c:="NoPlace") (by
  have:=aGD h low hp hs hb
  simp[shS,this]) rfl
 have r5:lu wdN "told" (aK bJ (aA (aB 3) (aA (aB 11) (aA (cM aF) aF)))) (kV ns k c n ps rws s5 s6 s7 s8 s9 s10 (.sh d))= .ok (.str "place"):=vA (c:="NoPlace") (by
  have:=aGE (e:=.tup []) h low hp hs hb
  simp[shS,this]) rfl
 have a7:bJ [.int 0,.tup [],.tup []]= .ex "NoWeb":=rfl;have r6:lu wdN "told" (aK bJ (aA (cD (.int 0)) (aA (cM aF) (aA (cM aF) aF)))) (kV ns k c n ps rws s5 s6 s7 s8 s9 s10 (.sh d))= .ok (.str "web"):=vA (c:="NoWeb") (by simp[a7]) rfl;simp[kE,r1,r2,r3,r4,r5,r6,aLD]
theorem aNR(h:Ow n ps)(P:Pq n (dbl ps) [] rws)(hn:n<=20):∃T:List Int,kTp (kV ns k c n ps rws s5 s6 s7 s8 s9 s10 s11)= .ok (.lst (T.map .int))/\Pl n T/\T.length<=60:=by
 have hl:=nP P.ne;have hf:=P.lenF;have hn1:=h.n1;have l1:lcD (bK (aB 4)) [none] (gnm 0) cU (bC (op2 ixD (aB 0) (cD (.int 0)))) (kV ns k c n ps rws s5 s6 s7 s8 s9 s10 s11)= .ok (.lst ((rws.map hdI).map .int)):=by
  rw[zAb];refine jh (ds:=rws.map tupI) (by simp[shE,jo]) (by rw[zAE];lia) (qK rws λ r hr=>⟨[.sh (tupI r)],rfl,?_⟩);simp[tupI,aJZ (P.ne r hr)]
 have l2:lcD (bK (aB 4)) [none] (gnm 0) cU (bC (op2 ixD (aB 0) (op1 sW (cD (.int 1))))) (kV ns k c n ps rws s5 s6 s7 s8 s9 s10 s11)= .ok (.lst ((rws.map laI).map .int)):=by
  rw[zAb];refine jh (ds:=rws.map tupI) (by simp[shE,jo]) (by rw[zAE];lia) (qK rws λ r hr=>⟨[.sh (tupI r)],rfl,?_⟩);simp[tupI,aJY (P.ne r hr)]
 have A:bh (.lst ((rws.map hdI).map .int)) (.lst ((rws.map laI).map .int))= .ok (.lst ((rws.map hdI++rws.map laI).map .int)):=by
  rw[aPH (by simp;lia),zAq]
 have hs:gK [.lst ((rws.map hdI++rws.map laI).map .int)]= .ok (.lst ((sortI (ddI (rws.map hdI++rws.map laI))).map .int)):=by
  unfold gK;dsimp only;rw[fW];dsimp only;rw[if_pos (by simp;lia)]
 have hz:=aEu (rws.map hdI++rws.map laI);rw[zA5,zAE,zAE]at hz;have hlen:(sortI (ddI (rws.map hdI++rws.map laI))).length<=60:=by rw[(sortI_perm _).length_eq];lia
 refine⟨sortI (ddI (rws.map hdI++rws.map laI)),?_,⟨?_,λ x hx=>?_,by lia⟩,hlen⟩
 ·rw[kTp,ik,bO,gj,l1,bD,l2,bD,A,gk,bD,mG,bD,bD,hs,gk]
 ·have nd:(sortI (ddI (rws.map hdI++rws.map laI))).Nodup:=(sortI_perm _).nodup_iff.mpr (kh _)
  rw[zC4]at nd;exact((iB _).and nd).imp λ⟨a,b⟩=>by lia
 ·have hm:=(uD _ x).mp ((sortI_perm _).mem_iff.mp hx)
  have key:∀r∈rws,hdI r∈r/\laI r∈r:=λ r hr=>by
   have hne:=P.ne r hr;cases r with
   |nil=>exact absurd rfl hne
   |cons a r=>exact⟨zAI,zI4 (by simp)⟩
  rcases zAm.mp hm with z|z
  ·obtain⟨r,hr,rfl⟩:=zAn.mp z
   exact P.mem hr (key r hr).1
  ·obtain⟨r,hr,rfl⟩:=zAn.mp z
   exact P.mem hr (key r hr).2
theorem aOZ{T ws:List Int}(hT:Pl n T)(hl:T.length<=60)(w1:ws.Pairwise (·< ·))(w2:∀x∈ws,0<=x/\x<(T.length:Int))(w3:ws.length<=60):∃es:List Int,kI (kV ns k c n ps rws (.nw (.lst (T.map .int))) (.sh (tupI ws)) s7 s8 s9 s10 s11)= .ok (.lst (es.map .int))/\Pl n es:=by
 have at_:∀x∈ws,atD (T.map .int) x= .ok (.int (T.getD x.toNat 0))/\T.getD x.toNat 0∈T:=λ x hx=>by
  obtain⟨a,b⟩:=w2 x hx;have hk:x.toNat<T.length:=by lia
  have e:T.getD x.toNat 0=T[x.toNat]:=by rw[zA1,zAB hk];rfl
  have ex:((x.toNat:Nat):Int)=x:=zCL a;refine⟨?_,by rw[e];exact zBR hk⟩
  have:=gY (l:=T.map .int) (k:=x.toNat) (d:=.int (T.getD x.toNat 0)) (by rw[zAT,zAB hk,e];rfl)
  rwa [ex]at this
 refine⟨ws.map λ x=>T.getD x.toNat 0,?_,⟨?_,λ y hy=>?_,by rw[zAE];lia⟩⟩
 ·rw[zAb]
  refine jh (ds:=ws.map .int) (by simp[shE,jo,tupI]) (by rw[zAE];lia) (qK ws λ x hx=>⟨[.sh (.int x),.sh (.lst (T.map .int))],rfl,?_⟩);simp[(at_ x hx).1]
 ·rw[zDg]
  refine w1.imp_of_mem λ{a b} ha hb hab=>?_
  obtain⟨a1,a2⟩:=w2 a ha;obtain⟨b1,b2⟩:=w2 b hb;have ka:a.toNat<T.length:=by lia
  have kb:b.toNat<T.length:=by lia
  rw[zA1,zA1,zAB ka,zAB kb];exact zB9.mp hT.ris _ _ ka kb (by lia)
 ·obtain⟨x,hx,rfl⟩:=zAn.mp hy
  exact hT.inn _ (at_ x hx).2
theorem aOY{s2 s3 s4:Slot}(hk:0<=k):∃s2' s3' s4' s5' s6' s7' s8' s9' s10' s11',kK [.sh (.scr ns),.sh (.int k),s2,s3,s4,s5,s6,s7,s8,s9,s10,s11]= .nx [.sh (.scr ns),.sh (.int k),s2',s3',s4',s5',s6',s7',s8',s9',s10',s11']:=by
 obtain⟨c,ec⟩:=aLL (ns:=ns) hk;obtain⟨n,ps,ew,h,low,hn⟩:=aE9 (c:=c) (most:=10) (by decide);have ew':jT [.int c,.int 10]= .ok (owD n ps):=ew;obtain⟨ll,el,N,hz⟩:=aDM h;obtain⟨rws,er,P⟩:=aAJ (c:=c) (a:=7000) (w:=.tup (ps.map pD)) (by decide) (by decide) h.n0 h.n1 N hz;have er':fC [.int c,.int 7000,owD n ps,.lst (ll.map .lst)]= .ok (.tup (rws.map tupI)):=er;obtain⟨T,eT,hT,hTl⟩:=aNR (ns:=ns) (k:=k) (c:=c) (s5:=s5) (s6:=s6) (s7:=s7) (s8:=s8) (s9:=s9) (s10:=s10) (s11:=s11) h P (by lia);obtain⟨ws,es6,w1,w2,w3⟩:=qL (c:=c) (n:=(T.length:Int)) (a:=5300) (by lia) (by lia) (by decide) (by decide);obtain⟨vs,ev,v1,v2,v3⟩:=qL (c:=c) (a:=5000) h.n0 h.n1 (by decide) (by decide);obtain⟨us,eu,hu⟩:=aOZ (ns:=ns) (k:=k) (c:=c) (ps:=ps) (rws:=rws) (s7:=s7) (s8:=s8) (s9:=s9) (s10:=s10) (s11:=s11) hT hTl w1 w2 w3;obtain⟨d,ed,d1,d2,d3⟩:=vO (c:=c) (n:=n);have hx:ixD (owD n ps) (.int 0)= .ok (.int n):=by simp[owD]
 have c2:cJ 2 (aK dm (aA (aB 0) (aA (aB 1) aF))) [.sh (.scr ns),.sh (.int k),s2,s3,s4,s5,s6,s7,s8,s9,s10,s11]= .nx [.sh (.scr ns),.sh (.int k),.sh (.int c),s3,s4,s5,s6,s7,s8,s9,s10,s11]:=by simp[ec]
 have c3:cJ 3 (aK jT (aA (aB 2) (aA (cD (.int 10)) aF))) [.sh (.scr ns),.sh (.int k),.sh (.int c),s3,s4,s5,s6,s7,s8,s9,s10,s11]= .nx [.sh (.scr ns),.sh (.int k),.sh (.int c),.sh (owD n ps),s4,s5,s6,s7,s8,s9,s10,s11]:=by simp[ew']
 have c4:cJ 4 (aK fC (aA (aB 2) (aA (cD (.int 7000)) (aA (aB 3) (aA (aK jU (aA (aB 3) aF)) aF))))) [.sh (.scr ns),.sh (.int k),.sh (.int c),.sh (owD n ps),s4,s5,s6,s7,s8,s9,s10,s11]= .nx (kV ns k c n ps rws s5 s6 s7 s8 s9 s10 s11):=by simp[el,er']
 have c5:lF 5 kTp (kV ns k c n ps rws s5 s6 s7 s8 s9 s10 s11)= .nx (kV ns k c n ps rws (.nw (.lst (T.map .int))) s6 s7 s8 s9 s10 s11):=by rw[oG,eT];rfl
 have c6:cJ 6 (aK dC (aA (aB 2) (aA (opA bu (aA (fG 5) aF)) (aA (cD (.int 5300)) aF)))) (kV ns k c n ps rws (.nw (.lst (T.map .int))) s6 s7 s8 s9 s10 s11)= .nx (kV ns k c n ps rws (.nw (.lst (T.map .int))) (.sh (tupI ws)) s7 s8 s9 s10 s11):=by simp[es6]
 have c7:kIt (kV ns k c n ps rws (.nw (.lst (T.map .int))) (.sh (tupI ws)) s7 s8 s9 s10 s11)= .ok [tupI vs,tupI us,tupI T,tupI []]:=by
  have g1:opA cu (aA kI aF) (kV ns k c n ps rws (.nw (.lst (T.map .int))) (.sh (tupI ws)) s7 s8 s9 s10 s11)= .ok (tupI us):=by
   rw[ik,bO,eu];simp[tupI]
  have g2:aK dC (aA (aB 2) (aA (op2 ixD (aB 3) (cD (.int 0))) (aA (cD (.int 5000)) aF))) (kV ns k c n ps rws (.nw (.lst (T.map .int))) (.sh (tupI ws)) s7 s8 s9 s10 s11)= .ok (tupI vs):=by simp[hx,ev]
  rw[kIt,aKh,aF5,bO,g2,bO,g1];simp[tupI]
 have all:∀d∈[tupI vs,tupI us,tupI T,tupI []],∃es,d=tupI es/\Pl n es:=λ d hd=>by
  simp only[zAN,zBp,or_false]at hd;rcases hd with rfl|rfl|rfl|rfl
  ·exact⟨vs,rfl,v1,v2,by lia⟩
  ·exact⟨us,rfl,hu⟩
  ·exact⟨T,rfl,hT⟩
  ·exact⟨[],rfl,.nil,λ x hx=>(nomatch hx),by simp⟩
 obtain⟨ρ',e7,s7',s8',s9',s10',rfl⟩:=aBz (a:=gnm 7) (u:=kB) (I:=λ ρ=>∃s7 s8 s9 s10,ρ=kV ns k c n ps rws (.nw (.lst (T.map .int))) (.sh (tupI ws)) s7 s8 s9 s10 s11) [tupI vs,tupI us,tupI T,tupI []] (kV ns k c n ps rws (.nw (.lst (T.map .int))) (.sh (tupI ws)) s7 s8 s9 s10 s11) ⟨_,_,_,_,rfl⟩ (by
  rintro d hd ρ ⟨s7,s8,s9,s10,rfl⟩;obtain⟨es,rfl,E⟩:=all d hd;obtain⟨s8',s9',s10',e⟩:=aO1 (ns:=ns) (k:=k) (c:=c) (s5:=.nw (.lst (T.map .int))) (s6:=.sh (tupI ws)) (s8:=s8) (s9:=s9) (s10:=s10) (s11:=s11) h low P E;refine⟨kV ns k c n ps rws (.nw (.lst (T.map .int))) (.sh (tupI ws)) (.sh (tupI es)) s8' s9' s10' s11,?_,_,_,_,_,rfl⟩;have g:gnm 7 (tupI es) (kV ns k c n ps rws (.nw (.lst (T.map .int))) (.sh (tupI ws)) s7 s8 s9 s10 s11)= .ok (kV ns k c n ps rws (.nw (.lst (T.map .int))) (.sh (tupI ws)) (.sh (tupI es)) s8 s9 s10 s11):=rfl;rw[g,oX];exact e)
 have c11:cJ 11 (aK dM (aA (aB 2) (aA (op2 ixD (aB 3) (cD (.int 0))) aF))) (kV ns k c n ps rws (.nw (.lst (T.map .int))) (.sh (tupI ws)) s7' s8' s9' s10' s11)= .nx (kV ns k c n ps rws (.nw (.lst (T.map .int))) (.sh (tupI ws)) s7' s8' s9' s10' (.sh d)):=by simp[hx,ed]
 refine⟨.sh (.int c),.sh (owD n ps),.sh (.tup (rws.map tupI)),.nw (.lst (T.map .int)),.sh (tupI ws),s7',s8',s9',s10',.sh d,?_⟩;rw[kK,aN,c2,bI,aN,c3,bI,aN,c4,bI,aN,c5,bI,aN,c6,bI,aN,fU,c7,cC,e7,bI,aN,c11,bI,aO0 h low P d1 d2 d3]
theorem aI5(ns:List Int)(hn:ns.length<=63):aJ5 [.scr ns]= .ok (.bl true):=by
 have st:az 12 [.scr ns]=[.sh (.scr ns),.no,.no,.no,.no,.no,.no,.no,.no,.no,.no,.no]:=rfl;obtain⟨m,hm,hr⟩:∃m:Int,(0<=m/\m<=6)/\kR [.sh (.scr ns),.no,.no,.no,.no,.no,.no,.no,.no,.no,.no,.no]= .ok (bT 0 m):=by
  refine⟨if (if (6:Int)<(ns.length:Int)then 6 else(ns.length:Int))>1 then(if (6:Int)<(ns.length:Int)then 6 else(ns.length:Int))else 1,by split<;>split<;>lia,?_⟩;have e:=jW (j:=if (if (6:Int)<(ns.length:Int)then 6 else(ns.length:Int))>1 then(if (6:Int)<(ns.length:Int)then 6 else(ns.length:Int))else 1) (by split<;>split<;>lia) (by split<;>split<;>lia);simp only[gt_iff_lt]at e;simp[kR,e]
 obtain⟨ρ',e,s1,s2,s3,s4,s5,s6,s7,s8,s9,s10,s11,rfl⟩:=aBz (a:=gnm 1) (u:=kK) (I:=λ ρ=>∃s1 s2 s3 s4 s5 s6 s7 s8 s9 s10 s11,ρ=[.sh (.scr ns),s1,s2,s3,s4,s5,s6,s7,s8,s9,s10,s11]) (bT 0 m) [.sh (.scr ns),.no,.no,.no,.no,.no,.no,.no,.no,.no,.no,.no] ⟨_,_,_,_,_,_,_,_,_,_,_,rfl⟩ (by
  rintro d hd ρ ⟨s1,s2,s3,s4,s5,s6,s7,s8,s9,s10,s11,rfl⟩;obtain⟨k,rfl,k0,k1⟩:=aCy.mp hd;obtain⟨s2',s3',s4',s5',s6',s7',s8',s9',s10',s11',e⟩:=aOY (ns:=ns) (k:=k) (s2:=s2) (s3:=s3) (s4:=s4) (s5:=s5) (s6:=s6) (s7:=s7) (s8:=s8) (s9:=s9) (s10:=s10) (s11:=s11) k0;exact⟨_,e,_,_,_,_,_,_,_,_,_,_,_,rfl⟩)
 simp only[aJ5,aKd,bA,st];rw[aN,fU,hr,cC,e,bI];rfl
end
local macro_rules|`(tactic|walk_at "sc")=>`(tactic|exact⟨rfl,rfl,rfl,by decide+kernel,rfl,by decide+kernel,by decide+kernel⟩)
def top(i:Nat):Stmt:=PySem.Challenge.pw_fewways_k22_told_ends.main.body.getD i (.Pass ⟨0,0,0,0⟩)
abbrev sH:Stmt:=top 16
abbrev uy:Stmt:=top 17
abbrev sI:Stmt:=top 18
abbrev ux:Stmt:=top 19
abbrev pZ:Stmt:=top 20
abbrev gh:Stmt:=top 21
abbrev sJ:Stmt:=top 22
abbrev oO:Stmt:=top 23
abbrev qC:Stmt:=top 24
abbrev yF:Stmt:=top 25
abbrev qD:Stmt:=top 26
abbrev lG:Stmt:=top 27
abbrev sO:Stmt:=top 28
abbrev pU:Stmt:=top 29
abbrev mZ:Stmt:=top 30
abbrev aB0:Stmt:=top 31
abbrev uv:Stmt:=top 32
abbrev oN:Stmt:=top 34
abbrev oM:Stmt:=top 35
abbrev jf:Stmt:=top 36
abbrev oJ:Stmt:=top 38
abbrev ph:Stmt:=top 39
abbrev aB1:Stmt:=top 40
abbrev m7:Stmt:=top 42
abbrev sG:Stmt:=top 43
abbrev uw:Stmt:=top 44
abbrev rn:Stmt:=top 45
abbrev pX:Stmt:=top 46
abbrev rz:Stmt:=top 47
abbrev rm:Stmt:=top 48
abbrev je:Stmt:=top 49
abbrev pW:Stmt:=top 50
abbrev oK:Stmt:=top 51
abbrev pY:Stmt:=top 52
abbrev m6:Stmt:=top 53
abbrev sE:Stmt:=top 54
abbrev nA:Stmt:=top 55
theorem aCc:aX ["thing"] ["thing"] (aH sH):=by walk_at "sc"
theorem aEC:aX ["thing"] ["thing"] (aH uy):=by walk_at "sc"
theorem aCd:aX ["many","thing"] ["many","thing"] (aH sI):=by walk_at "sc"
theorem aEB:aX ["many","thing"] ["many","thing"] (aH ux):=by walk_at "sc"
theorem aBW:aX ["things","at"] ["things"] (aH pZ):=by walk_at "sc"
theorem qu:aX ["many","thing","pair"] ["many","thing"] (aH gh):=by walk_at "sc"
theorem aCe:aX ["many","thing"] ["many","thing"] (aH sJ):=by walk_at "sc"
theorem zz:aX ["many","thing","place"] ["many","thing"] (aH oO):=by walk_at "sc"
theorem aBY:aX ["many","rows"] ["many","rows"] (aH qC):=by walk_at "sc"
theorem aGI:aX ["thing"] ["thing"] (aH yF):=by walk_at "sc"
theorem aBZ:aX ["thing"] ["thing"] (aH qD):=by walk_at "sc"
theorem wX:aX ["many","thing"] ["many","thing"] (aH lG):=by walk_at "sc"
theorem aCf:aX ["web","many","ties","near","low","high"] ["web"] (aH sO):=by walk_at "sc"
theorem aBS:aX ["near","start","part","at","place","other"] ["near","start"] (aH pU):=by walk_at "sc"
theorem yC:aX ["near","places","found","seen","place","part","other"] ["near","places"] (aH mZ):=by walk_at "sc"
theorem aHZ:aX ["web"] ["web"] (aH aB0):=by walk_at "sc"
theorem aDz:aX ["web","places","many","ties","kept","anew"] ["web","places"] (aH uv):=by walk_at "sc"
theorem zy:aX ["near","thing","place","at"] ["near","thing"] (aH oN):=by walk_at "sc"
theorem zx:aX ["web","thing","near","way"] ["web","thing"] (aH oM):=by walk_at "sc"
theorem ut:aX ["web","thing"] ["web","thing"] (aH jf):=by walk_at "sc"
theorem zr:aX ["web","ends","bar"] ["web","ends","bar"] (aH oJ):=by walk_at "sc"
theorem aBX:aX ["ends","parting","outer"] ["ends","parting"] (aH ph):=by walk_at "sc"
theorem aH0:aX ["web","ends","parting"] ["web","ends","parting"] (aH aB1):=by walk_at "sc"
theorem yE:aX ["_law_script","_law_k"] ["_law_script","_law_k"] (aH m7):=by walk_at "sc"
theorem aCb:aX ["_law_cell","_law_k","_law_bound","_law_left_here","_law_j","_law_stir"] ["_law_cell","_law_k","_law_bound"] (aH sG):=by walk_at "sc"
theorem aEA:aX ["_law_cell","_law_most","_law_many","_law_thick","_law_ties","_law_one","_law_other"] ["_law_cell","_law_most"] (aH uw):=by walk_at "sc"
theorem aC8:aX ["_law_web_here","_law_found","_law_one","_law_other"] ["_law_web_here"] (aH rn):=by walk_at "sc"
theorem aBU:aX ["_law_web_here","_law_least","_law_turn","_law_one","_law_other"] ["_law_web_here"] (aH pX):=by walk_at "sc"
theorem aC9:aX ["_law_web_here","_law_places","_law_stays","_law_ties"] ["_law_web_here","_law_places"] (aH rz):=by walk_at "sc"
theorem aC7:aX ["_law_cell","_law_many","_law_at","_law_kind","_law_found","_law_place"] ["_law_cell","_law_many","_law_at"] (aH rm):=by walk_at "sc"
theorem ur:aX ["_law_cell","_law_many","_law_some_here"] ["_law_cell","_law_many"] (aH je):=by walk_at "sc"
theorem aBT:aX ["_law_web_here","_law_bar","_law_ends"] ["_law_web_here","_law_bar","_law_ends"] (aH pW):=by walk_at "sc"
theorem zu:aX ["_law_cell","_law_at","_law_web_here","_law_nigh","_law_left_here","_law_found","_law_way","_law_far","_law_turn","_law_some_here"] ["_law_cell","_law_at","_law_web_here","_law_nigh"] (aH oK):=by walk_at "sc"
theorem aBV:aX ["_law_error","_law_kinds","_law_words"] ["_law_error"] (aH pY):=by walk_at "sc"
theorem yD:aX ["_law_call","_law_word","_law_error"] ["_law_call"] (aH m6):=by walk_at "sc"
theorem aCa:aX ["_law_ends","_law_parting","_law_place"] ["_law_ends","_law_parting"] (aH sE):=by walk_at "sc"
theorem aMU:aX ["_law_script","_law_k","_law_cell","_law_web_here","_law_parting","_law_tips","_law_some_here","_law_ends","_law_found","_law_bar","_law_told","_law_bad"] ["_law_script"] (aH nA):=by walk_at "sc"
set_option genInjectivity false in
set_option genSizeOf false in
structure Adr where
 zH:Addr
 jK:zAc
 aAr:Addr
 lB:zAc
 zJ:Addr
 jL:zAc
 aAq:Addr
 lA:zAc
 wD:Addr
 fZ:zAc
 lN:Addr
 bf:zAc
 zK:Addr
 jM:zAc
 uN:Addr
 dX:zAc
 wG:Addr
 iJ:zAc
 aDZ:Addr
 nR:zAc
 wH:Addr
 iK:zAc
 qM:Addr
 eO:zAc
 zL:Addr
 jN:zAc
 vz:Addr
 iD:zAc
 rM:Addr
 fK:zAc
 aFn:Addr
 qi:zAc
 aAo:Addr
 kj:zAc
 uM:Addr
 gC:zAc
 uL:Addr
 gB:zAc
 pG:Addr
 dJ:zAc
 uJ:Addr
 fB:zAc
 wF:Addr
 iI:zAc
 aFp:Addr
 qj:zAc
 rO:Addr
 dj:zAc
 zG:Addr
 fY:zAc
 aAp:Addr
 km:zAc
 zB:Addr
 jG:zAc
 wB:Addr
 iH:zAc
 zE:Addr
 jH:zAc
 zA:Addr
 jF:zAc
 pF:Addr
 dI:zAc
 wA:Addr
 iG:zAc
 uK:Addr
 gA:zAc
 wC:Addr
 wN:zAc
 rN:Addr
 rR:zAc
 zF:Addr
 jJ:zAc
 aFo:Addr
 aBA:zAc
 rC:Value
 jR:Addr
 o9:Addr
 jP:Addr
 oh:Addr
 fj:Addr
 jO:Addr
 gq:Addr
 lW:Addr
 gn:Addr
 jQ:Addr
 lV:Addr
 lX:Addr
 ou:Addr
def wdA(t:Adr):Addr->Option Str:=λ C=>(([t.o9,t.jP,t.oh,t.fj,t.jO,t.gq,t.lW,t.gn,t.jQ,t.lV,t.lX,t.ou]:List Addr).zip (["web","place","way","parting","many","forest","plan","one way","order","text","deed","row"]:List Str)).lookup C
structure Txt(K:zAA)(mg:Str->Option Value)(t:Adr):Prop where
 sZ:Dnr K mg "is_whole" sH ["thing"] t.zH t.jK
 aAx:Dnr K mg "is_many" uy ["thing"] t.aAr t.lB
 lR:Dnr K mg "is_place" sI ["many","thing"] t.zJ t.jL
 aAw:Dnr K mg "is_pair" ux ["many","thing"] t.aAq t.lA
 qO:Dnr K mg "is_rising" pZ ["things"] t.wD t.fZ
 lU:Dnr K mg "are_rising_pairs" gh ["many","thing"] t.lN t.bf
 zT:Dnr K mg "are_ties" sJ ["many","thing"] t.zK t.jM
 uU:Dnr K mg "are_places" oO ["many","thing"] t.uN t.dX
 wM:Dnr K mg "each_once" qC ["many","rows"] t.wG t.iJ
 aD2:Dnr K mg "is_web" yF ["thing"] t.aDZ t.nR
 iC:Dnr K mg "check_web" qD ["thing"] t.wH t.iK
 fX:Dnr K mg "check_places" lG ["many","thing"] t.qM t.eO
 sr:Dnr K mg "all_tied" sO ["web"] t.zL t.jN
 wI:Dnr K mg "part_with" pU ["near","start"] t.vz t.iD
 rP:Dnr K mg "parts_among" mZ ["near","places"] t.rM t.fK
 aFq:Dnr K mg "parts" aB0 ["web"] t.aFn t.qi
 aAu:Dnr K mg "without" uv ["web","places"] t.aAo t.kj
 uT:Dnr K mg "goes_along" oN ["near","thing"] t.uM t.gC
 uR:Dnr K mg "is_parting" oM ["web","thing"] t.uL t.gB
 pI:Dnr K mg "check_parting" jf ["web","thing"] t.pG t.dJ
 iw:Dnr K mg "shows_with" oJ ["web","ends","bar"] t.uJ t.fB
 wL:Dnr K mg "ends_kept" ph ["ends","parting"] t.wF t.iI
 uQ:Dnr K mg "keeps" aB1 ["web","ends","parting"] t.aFp t.qj
 rQ:Dnr K mg "_law_cell_at" m7 ["_law_script","_law_k"] t.rO t.dj
 di:Dnr K mg "_law_draw" sG ["_law_cell","_law_k","_law_bound"] t.zG t.fY
 aAv:Dnr K mg "_law_web" uw ["_law_cell","_law_most"] t.aAp t.km
 zP:Dnr K mg "_law_near" rn ["_law_web_here"] t.zB t.jG
 wK:Dnr K mg "_law_parts" pX ["_law_web_here"] t.wB t.iH
 zQ:Dnr K mg "_law_left" rz ["_law_web_here","_law_places"] t.zE t.jH
 o8:Dnr K mg "_law_some" rm ["_law_cell","_law_many","_law_at"] t.zA t.jF
 pH:Dnr K mg "_law_no_places" je ["_law_cell","_law_many"] t.pF t.dI
 wJ:Dnr K mg "_law_shown" pW ["_law_web_here","_law_bar","_law_ends"] t.wA t.iG
 uP:Dnr K mg "_law_parted" oK ["_law_cell","_law_at","_law_web_here","_law_nigh"] t.uK t.gA
 mO:Dnr K mg "_law_class" pY ["_law_error"] t.wC t.wN
 au:Dnr K mg "_law_refused" m6 ["_law_call"] t.rN t.rR
 zR:Dnr K mg "_law_kept" sE ["_law_ends","_law_parting"] t.zF t.jJ
 aLq:Dnr K mg "law" nA ["_law_script"] t.aFo t.aBA
 jY:mg "MOST_PLACES"=some t.rC
 aAA:RelV (.int 60) t.rC
 yd:mg "FewError"=some (.ref t.jR)
 l_FewError:bF mg "FewError"=t.jR
 lD:jd K t.jR
 aF4:mg "NoWeb"=some (.ref t.o9)
 aFa:bF mg "NoWeb"=t.o9
 tG:jd K t.o9
 aAb:mg "NoPlace"=some (.ref t.jP)
 aAd:bF mg "NoPlace"=t.jP
 mj:jd K t.jP
 aK5:mg "NoWay"=some (.ref t.oh)
 aKe:bF mg "NoWay"=t.oh
 wy:jd K t.oh
 vm:mg "NoParting"=some (.ref t.fj)
 vo:bF mg "NoParting"=t.fj
 j0:jd K t.fj
 aGY:mg "TooMany"=some (.ref t.jO)
 aG6:bF mg "TooMany"=t.jO
 qW:jd K t.jO
 aE2:mg "NoForest"=some (.ref t.gq)
 aEc:bF mg "NoForest"=t.gq
 ni:jd K t.gq
 aIX:mg "NoPlan"=some (.ref t.lW)
 aI9:bF mg "NoPlan"=t.lW
 tK:jd K t.lW
 aE1:mg "NoOneWay"=some (.ref t.gn)
 aEb:bF mg "NoOneWay"=t.gn
 n8:jd K t.gn
 aGZ:mg "NoOrder"=some (.ref t.jQ)
 aG7:bF mg "NoOrder"=t.jQ
 qX:jd K t.jQ
 aIW:mg "NoText"=some (.ref t.lV)
 aI8:bF mg "NoText"=t.lV
 tH:jd K t.lV
 aIY:mg "NoDeed"=some (.ref t.lX)
 aIa:bF mg "NoDeed"=t.lX
 tL:jd K t.lX
 aK6:mg "NoRow"=some (.ref t.ou)
 aKf:bF mg "NoRow"=t.ou
 xF:jd K t.ou
 aBk:mg "ValueError"=none
 aLk:mg "all"=none
 aEZ:mg "bool"=none
 aCv:mg "enumerate"=none
 aOW:mg "int"=none
 aZ:mg "isinstance"=none
 fV:mg "len"=none
 aBj:mg "list"=none
 aOV:mg "max"=none
 aLj:mg "min"=none
 dF:mg "range"=none
 aF1:mg "set"=none
 uC:mg "sorted"=none
 eY:mg "tuple"=none
 cb:aEw K t.jR [t.o9,t.jP,t.oh,t.fj,t.jO,t.gq,t.lW,t.gn,t.jQ,t.lV,t.lX,t.ou]=true
open PySem.Spec PyProof.Rows
section
variable{P:zA2}{w:World}{K:zAA}{mg:Str->Option Value}{base:Heap}{t:Adr}
theorem vg(T:Txt K mg t):cW P w K mg base (CX1 P w) 1 t.zH t.jK ["thing"] (spF K (bF mg) 1 lr):=
 bM (k:=0) (f:=jK) T.sZ aCc λ n _ _ _ _ _ _ _=>
  (aL (ak (rZ (mY (aC 0) T.aZ T.aOW) (um (aMR (mY (aC 0) T.aZ T.aEZ))))))
theorem uB(T:Txt K mg t):cW P w K mg base (CX1 P w) 1 t.wD t.fZ ["things"] (spF K (bF mg) 1 eX):=
 bM (k:=0) (f:=fZ) T.qO aBW λ n _ _ _ _ _ _ _=>
  (aJ (dY (aBO (aD aM (aD (dG T.fV (aD (aC 0) aG)) aG)) T.dF) (bU (ks:=[1]))
   (aL (cX (gf (aFD (aO (aC 0) (aBP (aC 1) aM)) (aO (aC 0) (aC 1))))
    (aL (ak dq))
    bR)))
  (aL (ak dq)))
theorem aBh(T:Txt K mg t):cW P w K mg base (CX1 P w) 1 t.wG t.iJ ["many","rows"] (spF K (bF mg) 2 iR):=
 bM (k:=0) (f:=iJ) T.wM aBY λ n _ _ _ _ _ _ _=>
  (aL (ak (aOC (aA1 T.uC (aD (aOB (N:=["row","place"]) (js:=[none,none]) (ks:=[0]) (ks2:=[1]) (cB (aC 1)) bN jB (cB (aC 0)) bN jB (bV (aC 1))) aG)) (oH T.aBj T.dF (aC 0)))))
theorem vh(T:Txt K mg t):cW P w K mg base (CX1 P w) 1 t.zL t.jN ["web"] (spF K (bF mg) 1 fD):=
 bM (k:=0) (f:=jN) T.sr aCf λ n _ _ _ _ _ _ _=>
  (aJ (aHK (aC 0) (oF (n:=2) (cI (bU (ks:=[1,2])) (cI (bU (ks:=[1,2])) jr))))
  (aJ (aL5 (N:=["place"]) (js:=[none]) (ks:=[0]) (iY (aD (aC 1) aG) T.dF) bN)
  (aJ (dY (cB (aC 2)) (oF (n:=2) (cI (bU (ks:=[4,5])) (cI (bU (ks:=[4,5])) jr)))
   (aJ (oE 3 (aC 4) (bV (aC 5)))
   (aL (oE 3 (aC 5) (bV (aC 4))))))
  (aL (ak (qY 3))))))
theorem aBc(T:Txt K mg t):cW P w K mg base (CX1 P w) 1 t.vz t.iD ["near","start"] (spF K (bF mg) 2 iQ):=
 bM (k:=0) (f:=iD) T.wI aBS λ n _ _ _ _ _ _ _=>
  (aJ (oA (i:=2) (xf (xr (aD (bV (aC 1)) aG))))
  (aJ (cF (i:=3) (iW aM))
  (aJ (aC1 (aFD (aC 3) (dG T.fV (aD (pQ 2) aG)))
   (aJ (jq (i:=4) (iW (bV (aO (pQ 2) (aC 3)))))
   (aJ (dY (cB (aO (aC 0) (fO 4))) (bU (ks:=[5]))
    (aL (cX (pP (aC 5) (pQ 2))
     (aL (mz 2 (bV (aC 5))))
     bR)))
   (aL (aMJ (i:=3) aM (λ _=>aNX))))))
  (aL (ak (iZ T.eY (aD (aA1 T.uC (aD (pQ 2) aG)) aG)))))))
theorem aBg(T:Txt K mg t):cW P w K mg base (CX1 P w) 1 t.wF t.iI ["ends","parting"] (spF K (bF mg) 2 jc):=
 bM (k:=0) (f:=iI) T.wL aBX λ n _ _ _ _ _ _ _=>
  (aJ (cF (i:=2) (iW (aOE (N:=["way","place"]) (js:=[none,none]) (ks:=[0]) (ks2:=[1]) (cB (aC 1)) bN jB (cB (cR (aD (aO (aC 0) aM) (aD (aO (aC 0) (xx aM)) aG)))) bN jB (bV (aC 1)) dq)))
  (aL (ak (aHY T.aLk (aD (mC (N:=["place","outer"]) (js:=[none,some 2]) (ks:=[0]) (cB (aC 0)) bN jB (aMS (aC 0) (aC 1))) aG)))))
theorem yS(T:Txt K mg t):cW P w K mg base (CX1 P w) 1 t.rO t.dj ["_law_script","_law_k"] (spF K (bF mg) 2 dm):=
 bM (k:=0) (f:=dj) T.rQ yE λ n _ _ _ _ _ _ _=>
  (aJ (cX (aFD (aC 1) (dG T.fV (aD (aC 0) aG)))
   (aL (ak (bV (aO (aC 0) (aC 1)))))
   bR)
  (aL (ak aM)))
theorem dN(T:Txt K mg t):cW P w K mg base (CX1 P w) 1 t.zG t.fY ["_law_cell","_law_k","_law_bound"] (spF K (bF mg) 3 ao):=
 bM (k:=0) (f:=fY) T.di aCb λ n _ _ _ _ _ _ _=>
  (aJ (cX (aNv (aC 0) (aMQ aM aM))
   (aJ (cF (i:=3) (iW (aC 0)))
   (aJ (dY (iY (aD (aC 1) aG) T.dF) (bU (ks:=[4]))
    (aJ (cX (v7 (aC 3) aM)
     (aL (ak aM))
     bR)
    (aL (cF (i:=3) (iW (aFK (aC 3) (aC 2)))))))
   (aL (ak (uq (aC 3) (aC 2))))))
   bR)
  (aJ (cF (i:=5) (iW (uq (uo (dH (dH (uq (aC 0) aM) (uo aM (aC 1))) aM) aM) aM)))
  (aJ (cF (i:=5) (iW (uq (dH (dH (uo (aC 5) (aC 5)) (uo aM (aC 1))) aM) aM)))
  (aL (ak (uq (aFK (uq (uo (aC 5) aM) aM) aM) (aC 2)))))))
theorem aCq(T:Txt K mg t):cW P w K mg base (CX1 P w) 1 t.zB t.jG ["_law_web_here"] (spF K (bF mg) 1 jU):=
 bM (k:=0) (f:=jG) T.zP aC8 λ n _ _ _ _ _ _ _=>
  (aJ (aL5 (N:=["_law_place"]) (js:=[none]) (ks:=[0]) (iY (aD (aO (aC 0) aM) aG) T.dF) bN)
  (aJ (dY (cB (aO (aC 0) aM)) (oF (n:=2) (cI (bU (ks:=[2,3])) (cI (bU (ks:=[2,3])) jr)))
   (aJ (oE 1 (aC 2) (bV (aC 3)))
   (aL (oE 1 (aC 3) (bV (aC 2))))))
  (aL (ak (qY 1)))))
theorem aBe(T:Txt K mg t):cW P w K mg base (CX1 P w) 1 t.wB t.iH ["_law_web_here"] (spF K (bF mg) 1 jb):=
 bM (k:=0) (f:=iH) T.wK aBU λ n _ _ _ _ _ _ _=>
  (aJ (oA (i:=1) (xf (aNx (oH T.aBj T.dF (aO (aC 0) aM)))))
  (aJ (dY (iY (aD (aO (aC 0) aM) aG) T.dF) (bU (ks:=[2]))
   (aL (dY (cB (aO (aC 0) aM)) (oF (n:=2) (cI (bU (ks:=[3,4])) (cI (bU (ks:=[3,4])) jr)))
    (aJ (aFE 1 (aC 3) (aFJ T.aLj (aD (aO (pQ 1) (aC 3)) (aD (aO (pQ 1) (aC 4)) aG))))
    (aL (aFE 1 (aC 4) (bV (aO (pQ 1) (aC 3)))))))))
  (aL (ak (mC (N:=["_law_low","_law_web_here","_law_least"]) (js:=[none,some 0,some 1]) (ks:=[0]) (cB (rE T.uC T.aF1 (aD (aC 1) aG))) bN jB (iZ T.eY (aD (mC (N:=["_law_place","_law_least","_law_low"]) (js:=[none,some 2,some 0]) (ks:=[0]) (iY (aD (aO (aC 1) aM) aG) T.dF) bN (mV (v7 (aO (aC 1) (aC 0)) (aC 2))) (bV (aC 0))) aG)))))))
theorem aCr(T:Txt K mg t):cW P w K mg base (CX1 P w) 1 t.zE t.jH ["_law_web_here","_law_places"] (spF K (bF mg) 2 lZ):=
 bM (k:=0) (f:=jH) T.zQ aC9 λ n _ _ _ _ _ _ _=>
  (aJ (jq (i:=2) (iW (mC (N:=["_law_place","_law_places"]) (js:=[none,some 1]) (ks:=[0]) (iY (aD (aO (aC 0) aM) aG) T.dF) bN (mV (pP (aC 0) (aC 1))) (bV (aC 0)))))
  (aJ (jq (i:=3) (aHF (N:=["_law_tie","_law_stays"]) (js:=[none,some 2]) (ks:=[0]) (cB (aO (aC 0) aM)) bN (mV (SW.st (aBK (aHH (aO (aC 0) aM) (aC 1)) (xH (aHH (aO (aC 0) aM) (aC 1)))))) (bV (aC 0))))
  (aL (ak (cR (aD (dG T.fV (aD (fO 2) aG)) (aD (iZ T.eY (aD (mC (N:=["_law_one","_law_other","_law_stays"]) (js:=[none,none,some 2]) (ks:=[0,1]) (cB (aC 3)) (oF (n:=2) (cI bN (cI bN jr))) jB (cR (aD (aC5 (aC 2) (aC 0)) (aD (aC5 (aC 2) (aC 1)) aG)))) aG)) aG)))))))
theorem aBf(T:Txt K mg t):FnH P w K mg base 1 t.wC t.wN ["_law_error"] (spW (wdA t)):=
 aJS (c1:=.ref t.jR) (c2:=.ty "ValueError") (k1:=[.ref t.o9,.ref t.jP,.ref t.oh]) (k2:=[.ref t.fj,.ref t.jO,.ref t.gq]) (k3:=[.ref t.lW,.ref t.gn,.ref t.jQ]) (k4:=[.ref t.lV,.ref t.lX,.ref t.ou]) (l1:=["web","place","way","parting","many","forest","plan","one way"]) (l2:=["order","text","deed","row"]) T.mO.F aBV rfl rfl rfl rfl (λ cdv A outer s H=>⟨(ig rfl rfl rfl T.aZ (fP (v:=.ref t.jR) rfl T.yd rfl)),(ig rfl rfl rfl T.aZ (aFV (v:=.ty "ValueError") (u:=.type "ValueError") rfl T.aBk rfl rfl)),(bG (ig rfl rfl rfl T.aZ (fP (v:=.ref t.o9) rfl T.aF4 rfl)) (bG (ig rfl rfl rfl T.aZ (fP (v:=.ref t.jP) rfl T.aAb rfl)) (bG (ig rfl rfl rfl T.aZ (fP (v:=.ref t.oh) rfl T.aK5 rfl)) dg))),(bG (ig rfl rfl rfl T.aZ (fP (v:=.ref t.fj) rfl T.vm rfl)) (bG (ig rfl rfl rfl T.aZ (fP (v:=.ref t.jO) rfl T.aGY rfl)) (bG (ig rfl rfl rfl T.aZ (fP (v:=.ref t.gq) rfl T.aE2 rfl)) dg))),(bG (ig rfl rfl rfl T.aZ (fP (v:=.ref t.lW) rfl T.aIX rfl)) (bG (ig rfl rfl rfl T.aZ (fP (v:=.ref t.gn) rfl T.aE1 rfl)) (bG (ig rfl rfl rfl T.aZ (fP (v:=.ref t.jQ) rfl T.aGZ rfl)) dg))),(bG (ig rfl rfl rfl T.aZ (fP (v:=.ref t.lV) rfl T.aIW rfl)) (bG (ig rfl rfl rfl T.aZ (fP (v:=.ref t.lX) rfl T.aIY rfl)) (bG (ig rfl rfl rfl T.aZ (fP (v:=.ref t.ou) rfl T.aK6 rfl)) dg))),(bG gG (bG gG (bG gG (bG gG (bG gG (bG gG (bG gG (bG gG dg)))))))),(bG gG (bG gG (bG gG (bG gG dg))))⟩) rfl rfl (by decide) λ C w h=>(aL1 T.cb h).1
theorem aCs(T:Txt K mg t):cW P w K mg base (CX1 P w) 1 t.zF t.jJ ["_law_ends","_law_parting"] (spF K (bF mg) 2 lq):=
 bM (k:=0) (f:=jJ) T.zR aCa λ n _ _ _ _ _ _ _=>
  (aJ (dY (cB (aC 0)) (bU (ks:=[2]))
   (aL (cX (v7 (mC (N:=["_law_way","_law_place"]) (js:=[none,some 2]) (ks:=[0]) (cB (aC 1)) bN (mV (SW.st (xZ (v7 (aC 1) (aO (aC 0) aM)) (rW (v7 (aC 1) (aO (aC 0) (xx aM))))))) (bV (aC 0))) (rY aG))
    (aL (ak dq))
    bR)))
  (aL (ak dq)))
theorem aEY(T:Txt K mg t):cW P w K mg base (CX1 P w) 2 t.aAr t.lB ["thing"] (spF K (bF mg) 1 qm):=
 bM (k:=1) (f:=lB) T.aAx aEC λ n _ _ _ _ _ _ _=>
  (aL (ak (rZ (aV (vg T) T.sZ (aD (aC 0) aG)) (um (aJt aM (aC 0) (aJu T.jY T.aAA (λ _ _=>.int _)))))))
theorem mD(T:Txt K mg t):cW P w K mg base (CX1 P w) 2 t.zJ t.jL ["many","thing"] (spF K (bF mg) 2 cG):=
 bM (k:=1) (f:=jL) T.lR aCd λ n _ _ _ _ _ _ _=>
  (aL (ak (rZ (aV (vg T) T.sZ (aD (aC 1) aG)) (um (aJs aM (aC 1) (aC 0))))))
theorem yR(T:Txt K mg t):cW P w K mg base (CX1 P w) 2 t.rM t.fK ["near","places"] (spF K (bF mg) 2 fL):=
 bM (k:=1) (f:=fK) T.rP yC λ n _ _ _ _ _ _ _=>
  (aJ (oA (i:=2) (xf (xr aG)))
  (aJ (oA (i:=3) (xf (aNx (aJp T.aF1))))
  (aJ (dY (cB (aC 1)) (bU (ks:=[4]))
   (aL (cX (aJi (aC 4) (pQ 3))
    (aJ (cF (i:=5) (iW (aV (aBc T) T.wI (aD (aC 0) (aD (aC 4) aG)))))
    (aJ (mz 2 (bV (aC 5)))
    (aL (dY (cB (aC 5)) (bU (ks:=[6]))
     (aL (aMK 3 (bV (aC 6))))))))
    bR)))
  (aL (ak (qY 2))))))
theorem aEW(T:Txt K mg t):cW P w K mg base (CX1 P w) 2 t.aAp t.km ["_law_cell","_law_most"] (spF K (bF mg) 2 jT):=
 bM (k:=1) (f:=km) T.aAv aEA λ n _ _ _ _ _ _ _=>
  (aJ (cF (i:=2) (iW (aV (dN T) T.di (aD (aC 0) (aD aM (aD (dH (aC 1) aM) aG))))))
  (aJ (cF (i:=3) (iW (dH aM (aV (dN T) T.di (aD (aC 0) (aD aM (aD aM aG)))))))
  (aJ (oA (i:=4) (xf (xr aG)))
  (aJ (dY (iY (aD (aC 2) aG) T.dF) (bU (ks:=[5]))
   (aL (dY (aBO (aD (dH (aC 5) aM) (aD (aC 2) aG)) T.dF) (bU (ks:=[6]))
    (aL (cX (aFD (aV (dN T) T.di (aD (aC 0) (aD (dH (dH aM (uo aM (aC 5))) (aC 6)) (aD aM aG)))) (aC 3))
     (aL (mz 4 (cR (aD (bV (aC 5)) (aD (bV (aC 6)) aG)))))
     bR)))))
  (aL (ak (cR (aD (bV (aC 2)) (aD (iZ T.eY (aD (qY 4) aG)) aG)))))))))
theorem qG(T:Txt K mg t):cW P w K mg base (CX1 P w) 2 t.zA t.jF ["_law_cell","_law_many","_law_at"] (spF K (bF mg) 3 dC):=
 bM (k:=1) (f:=jF) T.o8 aC7 λ n _ _ _ _ _ _ _=>
  (aJ (cF (i:=3) (iW (aV (dN T) T.di (aD (aC 0) (aD (aC 2) (aD aM aG))))))
  (aJ (oA (i:=4) (xf (xr aG)))
  (aJ (dY (iY (aD (aC 1) aG) T.dF) (bU (ks:=[5]))
   (aL (cX (SW.st (xZ (v7 (aC 3) aM) (rW (SW.st (aBK (aNu (aC 3) aM) (xH (v7 (aV (dN T) T.di (aD (aC 0) (aD (dH (dH (aC 2) aM) (aC 5)) (aD (dH aM (aC 3)) aG)))) aM)))))))
    (aL (mz 4 (bV (aC 5))))
    bR)))
  (aL (ak (iZ T.eY (aD (qY 4) aG)))))))
theorem vG(T:Txt K mg t):cW P w K mg base (CX1 P w) 2 t.pF t.dI ["_law_cell","_law_many"] (spF K (bF mg) 2 dM):=
 bM (k:=1) (f:=dI) T.pH ur λ n _ _ _ _ _ _ _=>
  (aJ (jq (i:=2) (iW (rY (aD (cR (aD (bV (aC 1)) aG)) (aD (cR (aD (xx aM) aG)) (aD (cR (aD aM (aD aM aG))) (aD (cR (aD aM (aD aM aG))) (aD (cR (aD dq aG)) (aD (cR (aD aBQ aG)) (aD (rY aG) (aD (rY (aD aM aG)) (aD aBQ (aD aM (aD mX (aD (cR (aD (cR aG) aG)) (aD (cR (aD aM (aD (bV (aC 1)) aG))) (aD aJv aG)))))))))))))))))
  (aL (ak (aO (fO 2) (aV (dN T) T.di (aD (aC 0) (aD aM (aD aM aG))))))))
theorem aBd(T:Txt K mg t):cW P w K mg base (CX1 P w) 2 t.wA t.iG ["_law_web_here","_law_bar","_law_ends"] (spF K (bF mg) 3 j9):=
 bM (k:=1) (f:=iG) T.wJ aBT λ n _ _ _ _ _ _ _=>
  (aL (ak (aBP (dG T.fV (aD (aV (aBe T) T.wK (aD (aV (aCr T) T.zQ (aD (aC 0) (aD (aC 1) aG))) aG)) aG)) (dG T.fV (aD (mC (N:=["_law_place","_law_ends"]) (js:=[none,some 2]) (ks:=[0]) (cB (aC 1)) bN (mV (pP (aC 0) (aC 1))) (bV (aC 0))) aG)))))
theorem aAC(T:Txt K mg t):cW P w K mg base (CX1 P w) 2 t.uK t.gA ["_law_cell","_law_at","_law_web_here","_law_nigh"] (spF K (bF mg) 4 fC):=
 bM (k:=1) (f:=gA) T.uP zu λ n _ _ _ _ _ _ _=>
  (aJ (jq (i:=4) (iW (oH T.aBj T.dF (aO (aC 2) aM))))
  (aJ (oA (i:=5) (xf (xr aG)))
  (aJ (aC1 (my (fO 4) (rY aG))
   (aJ (cF (i:=6) (iW (cR (aD (aO (fO 4) (aV (dN T) T.di (aD (aC 0) (aD (dH (aC 1) (dG T.fV (aD (fO 4) aG))) (aD (dG T.fV (aD (fO 4) aG)) aG))))) aG))))
   (aJ (cF (i:=7) (iW (aV (dN T) T.di (aD (aC 0) (aD (dH (dH (aC 1) aM) (dG T.fV (aD (fO 4) aG))) (aD (dH (aO (aC 2) aM) aM) aG))))))
   (aJ (dY (iY (aD (aC 7) aG) T.dF) (bU (ks:=[8]))
    (aJ (jq (i:=9) (aHF (N:=["_law_place","_law_left_here","_law_way"]) (js:=[none,some 4,some 6]) (ks:=[0]) (cB (aO (aC 3) (aO (aC 6) (xx aM)))) bN (mV (SW.st (aBK (aHH (aC 0) (aC 1)) (xH (pP (aC 0) (aC 2)))))) (bV (aC 0))))
    (aL (cX (my (fO 9) (rY aG))
     (aL (cF (i:=6) (iW (dH (aC 6) (cR (aD (aO (fO 9) (aV (dN T) T.di (aD (aC 0) (aD (dH (dH (aC 1) aM) (aC 8)) (aD (dG T.fV (aD (fO 9) aG)) aG))))) aG))))))
     bR))))
   (aJ (jq (i:=4) (iW (mC (N:=["_law_place","_law_way"]) (js:=[none,some 6]) (ks:=[0]) (cB (aC 4)) bN (mV (pP (aC 0) (aC 1))) (bV (aC 0)))))
   (aL (mz 5 (bV (aC 6)))))))))
  (aL (ak (iZ T.eY (aD (qY 5) aG)))))))
theorem aEX(T:Txt K mg t):cW P w K mg base (CX1 P w) 3 t.aAq t.lA ["many","thing"] (spF K (bF mg) 2 n6):=
 bM (k:=2) (f:=lA) T.aAw aEB λ n _ _ _ _ _ _ _=>
  (aJ (cX (SW.st (xZ (gf (gZ (mY (aC 1) T.aZ T.eY))) (rW (my (dG T.fV (aD (aC 1) aG)) aM))))
   (aL (ak dq))
   bR)
  (aL (ak (rZ (aV (mD T) T.lR (aD (aC 0) (aD (aO (aC 1) aM) aG))) (rZ (aV (mD T) T.lR (aD (aC 0) (aD (aO (aC 1) aM) aG))) (um (aNz (aO (aC 1) aM) (aO (aC 1) aM))))))))
theorem aAF(T:Txt K mg t):cW P w K mg base (CX1 P w) 3 t.uN t.dX ["many","thing"] (spF K (bF mg) 2 gF):=
 bM (k:=2) (f:=dX) T.uU zz λ n _ _ _ _ _ _ _=>
  (aJ (cX (gf (gZ (mY (aC 1) T.aZ T.eY)))
   (aL (ak dq))
   bR)
  (aJ (dY (cB (aC 1)) (bU (ks:=[2]))
   (aL (cX (gf (gZ (aV (mD T) T.lR (aD (aC 0) (aD (aC 2) aG)))))
    (aL (ak dq))
    bR)))
  (aL (ak (aV (uB T) T.qO (aD (aC 1) aG))))))
theorem aAE(T:Txt K mg t):cW P w K mg base (CX1 P w) 3 t.uM t.gC ["near","thing"] (spF K (bF mg) 2 cQ):=
 bM (k:=2) (f:=gC) T.uT zy λ n _ _ _ _ _ _ _=>
  (aJ (cX (SW.st (xZ (gf (gZ (mY (aC 1) T.aZ T.eY))) (rW (v7 (dG T.fV (aD (aC 1) aG)) aM))))
   (aL (ak dq))
   bR)
  (aJ (dY (cB (aC 1)) (bU (ks:=[2]))
   (aL (cX (gf (gZ (aV (mD T) T.lR (aD (dG T.fV (aD (aC 0) aG)) (aD (aC 2) aG)))))
    (aL (ak dq))
    bR)))
  (aJ (cX (my (aJr T.fV (aD (aMP T.aF1 (aD (aC 1) aG)) aG)) (dG T.fV (aD (aC 1) aG)))
   (aL (ak dq))
   bR)
  (aJ (dY (aBO (aD aM (aD (dG T.fV (aD (aC 1) aG)) aG)) T.dF) (bU (ks:=[3]))
   (aL (cX (pP (aO (aC 1) (aC 3)) (aO (aC 0) (aO (aC 1) (aBP (aC 3) aM))))
    (aL (ak dq))
    bR)))
  (aL (ak dq))))))
theorem qy(T:Txt K mg t):cW P w K mg base (CX1 P w) 4 t.lN t.bf ["many","thing"] (spF K (bF mg) 2 bx):=
 bM (k:=3) (f:=bf) T.lU qu λ n _ _ _ _ _ _ _=>
  (aJ (cX (gf (gZ (mY (aC 1) T.aZ T.eY)))
   (aL (ak dq))
   bR)
  (aJ (dY (cB (aC 1)) (bU (ks:=[2]))
   (aL (cX (gf (gZ (aV (aEX T) T.aAw (aD (aC 0) (aD (aC 2) aG)))))
    (aL (ak dq))
    bR)))
  (aL (ak (aV (uB T) T.qO (aD (aC 1) aG))))))
theorem gW(T:Txt K mg t):cW P w K mg base (CX1 P w) 4 t.qM t.eO ["many","thing"] (spF K (bF mg) 2 bL):=
 bM (k:=3) (f:=eO) T.fX wX λ n _ _ _ _ _ _ _=>
  (aL (cX (gf (gZ (aV (aAF T) T.uU (aD (aC 0) (aD (aC 1) aG)))))
   (aL (xg rfl T.aAb T.aAd T.mj (aD mX aG)))
   bR))
theorem aCt(T:Txt K mg t):cW P w K mg base (CX1 P w) 5 t.zK t.jM ["many","thing"] (spF K (bF mg) 2 pB):=
 bM (k:=4) (f:=jM) T.zT aCe λ n _ _ _ _ _ _ _=>
  (aL (ak (rZ (aV (qy T) T.lU (aD (aC 0) (aD (aC 1) aG))) (um (aHY T.aLk (aD (mC (N:=["low","high"]) (js:=[none,none]) (ks:=[0,1]) (cB (aC 1)) (oF (n:=2) (cI bN (cI bN jr))) jB (aOA (aC 0) (aC 1))) aG))))))
theorem aGV(T:Txt K mg t):cW P w K mg base (CX1 P w) 6 t.aDZ t.nR ["thing"] (spF K (bF mg) 1 ug):=
 bM (k:=5) (f:=nR) T.aD2 aGI λ n _ _ _ _ _ _ _=>
  (aJ (cX (SW.st (xZ (gf (gZ (mY (aC 0) T.aZ T.eY))) (rW (my (dG T.fV (aD (aC 0) aG)) aM))))
   (aL (ak dq))
   bR)
  (aL (ak (rZ (aV (aEY T) T.aAx (aD (aO (aC 0) aM) aG)) (um (aV (aCt T) T.zT (aD (aO (aC 0) aM) (aD (aO (aC 0) aM) aG))))))))
theorem il(T:Txt K mg t):cW P w K mg base (CX1 P w) 7 t.wH t.iK ["thing"] (spF K (bF mg) 1 bQ):=
 bM (k:=6) (f:=iK) T.iC aBZ λ n _ _ _ _ _ _ _=>
  (aL (cX (gf (gZ (aV (aGV T) T.aD2 (aD (aC 0) aG))))
   (aL (xg rfl T.aF4 T.aFa T.tG (aD mX aG)))
   bR))
theorem aIP(T:Txt K mg t):cW P w K mg base (CX1 P w) 8 t.aFn t.qi ["web"] (spF K (bF mg) 1 ql):=
 bM (k:=7) (f:=qi) T.aFq aHZ λ n _ _ _ _ _ _ _=>
  (aJ (jV (aV (il T) T.iC (aD (aC 0) aG)))
  (aL (ak (aV (yR T) T.rP (aD (aV (vh T) T.sr (aD (aC 0) aG)) (aD (oH T.aBj T.dF (aO (aC 0) aM)) aG))))))
theorem aEV(T:Txt K mg t):cW P w K mg base (CX1 P w) 8 t.aAo t.kj ["web","places"] (spF K (bF mg) 2 lC):=
 bM (k:=7) (f:=kj) T.aAu aDz λ n _ _ _ _ _ _ _=>
  (aJ (jV (aV (il T) T.iC (aD (aC 0) aG)))
  (aJ (aHK (aC 0) (oF (n:=2) (cI (bU (ks:=[2,3])) (cI (bU (ks:=[2,3])) jr))))
  (aJ (jV (aV (gW T) T.fX (aD (aC 2) (aD (aC 1) aG))))
  (aJ (jq (i:=4) (aHF (N:=["place","places"]) (js:=[none,some 1]) (ks:=[0]) (iY (aD (aC 2) aG) T.dF) bN (mV (pP (aC 0) (aC 1))) (bV (aC 0))))
  (aJ (cF (i:=5) (iW (aOD (N:=["at","place"]) (js:=[none,none]) (ks:=[0,1]) (aHS (aD (aC 4) aG) T.aCv) (oF (n:=2) (cI bN (cI bN jr))) jB (bV (aC 1)) (bV (aC 0)))))
  (aL (ak (cR (aD (dG T.fV (aD (fO 4) aG)) (aD (iZ T.eY (aD (mC (N:=["low","high","anew"]) (js:=[none,none,some 5]) (ks:=[0,1]) (cB (aC 3)) (oF (n:=2) (cI bN (cI bN jr))) (mV (SW.st (aBK (aHI (aC 0) (aC 2)) (xH (aHI (aC 1) (aC 2)))))) (cR (aD (bV (aHW (aC 2) (aC 0))) (aD (bV (aHW (aC 2) (aC 1))) aG)))) aG)) aG))))))))))
theorem aAD(T:Txt K mg t):cW P w K mg base (CX1 P w) 8 t.uL t.gB ["web","thing"] (spF K (bF mg) 2 jz):=
 bM (k:=7) (f:=gB) T.uR zx λ n _ _ _ _ _ _ _=>
  (aJ (jV (aV (il T) T.iC (aD (aC 0) aG)))
  (aJ (cX (gf (gZ (mY (aC 1) T.aZ T.eY)))
   (aL (ak dq))
   bR)
  (aJ (cF (i:=2) (iW (aV (vh T) T.sr (aD (aC 0) aG))))
  (aJ (dY (cB (aC 1)) (bU (ks:=[3]))
   (aL (cX (gf (gZ (aV (aAE T) T.uT (aD (aC 2) (aD (aC 3) aG)))))
    (aL (ak dq))
    bR)))
  (aL (ak (aV (aBh T) T.wM (aD (aO (aC 0) aM) (aD (aC 1) aG)))))))))
theorem vH(T:Txt K mg t):cW P w K mg base (CX1 P w) 9 t.pG t.dJ ["web","thing"] (spF K (bF mg) 2 fH):=
 bM (k:=8) (f:=dJ) T.pI ut λ n _ _ _ _ _ _ _=>
  (aL (cX (gf (gZ (aV (aAD T) T.uR (aD (aC 0) (aD (aC 1) aG)))))
   (aL (xg rfl T.vm T.vo T.j0 (aD mX aG)))
   bR))
theorem jX(T:Txt K mg t):cW P w K mg base (CX1 P w) 9 t.uJ t.fB ["web","ends","bar"] (spF K (bF mg) 3 bJ):=
 bM (k:=8) (f:=fB) T.iw zr λ n _ _ _ _ _ _ _=>
  (aJ (jV (aV (il T) T.iC (aD (aC 0) aG)))
  (aJ (jV (aV (gW T) T.fX (aD (aO (aC 0) aM) (aD (aC 1) aG))))
  (aJ (jV (aV (gW T) T.fX (aD (aO (aC 0) aM) (aD (aC 2) aG))))
  (aL (ak (aBP (dG T.fV (aD (aV (aIP T) T.aFq (aD (aV (aEV T) T.aAu (aD (aC 0) (aD (aC 2) aG))) aG)) aG)) (dG T.fV (aD (mC (N:=["place","ends"]) (js:=[none,some 1]) (ks:=[0]) (cB (aC 2)) bN (mV (pP (aC 0) (aC 1))) (bV (aC 0))) aG))))))))
theorem uA(T:Txt K mg t):cW P w K mg base (CX1 P w) 10 t.aFp t.qj ["web","ends","parting"] (spF K (bF mg) 3 cP):=
 bM (k:=9) (f:=qj) T.uQ aH0 λ n _ _ _ _ _ _ _=>
  (aJ (jV (aV (il T) T.iC (aD (aC 0) aG)))
  (aJ (jV (aV (gW T) T.fX (aD (aO (aC 0) aM) (aD (aC 1) aG))))
  (aJ (jV (aV (vH T) T.pI (aD (aC 0) (aD (aC 2) aG))))
  (aL (ak (aV (aBg T) T.wL (aD (aC 1) (aD (aC 2) aG))))))))
theorem dw(T:Txt K mg t):cW P w K mg base (CX1 P w) 12 t.rN t.rR ["_law_call"] (spR P w K mg base 11 "told" (wdA t)):=
 aEF T.au.F yD rfl rfl rfl rfl rfl rfl T.yd T.lD (aBf T) T.mO.m T.mO.F.kp T.mO.b (by decide) λ C w h=>(aL1 T.cb h).2
theorem aAS(T:Txt K mg t):∀c w,wdN c=some w->wdA t (bF mg c)=some w:=aNk (ns:=["NoWeb","NoPlace","NoWay","NoParting","TooMany","NoForest","NoPlan","NoOneWay","NoOrder","NoText","NoDeed","NoRow"]) T.cb (by simp only[List.map,T.aFa,T.aAd,T.aKe,T.vo,T.aG6,T.aEc,T.aI9,T.aEb,T.aG7,T.aI8,T.aIa,T.aKf])
theorem aOb(T:Txt K mg t){c Pt:Addr}{s:zAF}{H:Hp}(hr:gD 12 (zCX.deeper (zCo "law" (aH nA) s.heap.objs.size t.aFo (.ref c))))(Lx:wU (cxW P w K mg base ["_law_script","_law_k","_law_cell","_law_web_here","_law_parting","_law_tips","_law_some_here","_law_ends","_law_found","_law_bar","_law_told","_law_bad"] "law" (aH nA) t.aFo (.ref c) zCX s H Pt) Pt)(n:List.Nodup (["_law_script","_law_k","_law_cell","_law_web_here","_law_parting","_law_tips","_law_some_here","_law_ends","_law_found","_law_bar","_law_told","_law_bad"]:List Str)):
  SSs (ctW P w K mg base ["_law_script","_law_k","_law_cell","_law_web_here","_law_parting","_law_tips","_law_some_here","_law_ends","_law_found","_law_bar","_law_told","_law_bad"] "law" (aH nA) t.aFo (.ref c) zCX s H Pt 12 hr) (eZ nA) aBA:=
  (aJ (dY (iY (aD (aJq T.aOV (aD aM (aD (aFJ T.aLj (aD (dG T.fV (aD (aC 0) aG)) (aD aM aG))) aG))) aG) T.dF) (bU (ks:=[1]))
   (aJ (cF (i:=2) (iW (aV (yS T) T.rQ (aD (aC 0) (aD (aC 1) aG)))))
   (aJ (cF (i:=3) (iW (aV (aEW T) T.aAv (aD (aC 2) (aD aM aG)))))
   (aJ (cF (i:=4) (iW (aV (aAC T) T.uP (aD (aC 2) (aD aM (aD (aC 3) (aD (aV (aCq T) T.zP (aD (aC 3) aG)) aG)))))))
   (aJ (jq (i:=5) (iW (rE T.uC T.aF1 (aD (dH (mC (N:=["_law_way"]) (js:=[none]) (ks:=[0]) (cB (aC 4)) bN jB (bV (aO (aC 0) aM))) (mC (N:=["_law_way"]) (js:=[none]) (ks:=[0]) (cB (aC 4)) bN jB (bV (aO (aC 0) (xx aM))))) aG))))
   (aJ (cF (i:=6) (iW (aV (qG T) T.o8 (aD (aC 2) (aD (dG T.fV (aD (fO 5) aG)) (aD aM aG))))))
   (aJ (dY (cB (rY (aD (aV (qG T) T.o8 (aD (aC 2) (aD (aO (aC 3) aM) (aD aM aG)))) (aD (iZ T.eY (aD (mC (N:=["_law_at","_law_tips"]) (js:=[none,some 5]) (ks:=[0]) (cB (aC 6)) bN jB (bV (aO (aC 1) (aC 0)))) aG)) (aD (iZ T.eY (aD (fO 5) aG)) (aD (cR aG) aG)))))) (bU (ks:=[7]))
    (aJ (cF (i:=8) (iW (aV (uA T) T.uQ (aD (aC 3) (aD (aC 7) (aD (aC 4) aG))))))
    (aJ (cX (SW.st (xZ (gf (gZ (mY (aC 8) T.aZ T.aEZ))) (rW (my (aC 8) (aV (aCs T) T.zR (aD (aC 7) (aD (aC 4) aG)))))))
     (aL (ak dq))
     bR)
    (aJ (cF (i:=9) (iW (aV (qG T) T.o8 (aD (aC 2) (aD (aO (aC 3) aM) (aD (dH aM (dG T.fV (aD (aC 7) aG))) aG))))))
    (aJ (cF (i:=10) (iW (aV (jX T) T.iw (aD (aC 3) (aD (aC 7) (aD (aC 9) aG))))))
    (aL (cX (SW.st (xZ (gZ (mY (aC 10) T.aZ T.aEZ)) (rW (my (aC 10) (aV (aBd T) T.wJ (aD (aC 3) (aD (aC 9) (aD (aC 7) aG))))))))
     (aL (ak dq))
     bR)))))))
   (aJ (cF (i:=11) (iW (aV (vG T) T.pH (aD (aC 2) (aD (aO (aC 3) aM) aG)))))
   (aJ (cX (my (ul (k:=12) (k0:=11) (kb:=10) (wn:=wdN) (wd:=wdA t) (λ _=>dw T) (zBa rfl) T.au.m T.au.F.kp T.au.b (λ _=>⟨⟨_,Lx⟩,rfl,rfl,rfl⟩) ⟨rfl,rfl,rfl,by decide+kernel,by decide+kernel⟩ rfl (aAS T) (by decide) (λ _ _ _ _ _ _ _ _ _ _=>(aV (uA T) T.uQ (aD (aC 3) (aD (aC 11) (aD aBQ aG))))) (hfree:=λ _=>nJ (sc:=aH nA) (by decide+kernel))) mX)
    (aL (ak dq))
    bR)
   (aJ (cX (my (ul (k:=12) (k0:=11) (kb:=10) (wn:=wdN) (wd:=wdA t) (λ _=>dw T) (zBa rfl) T.au.m T.au.F.kp T.au.b (λ _=>⟨⟨_,Lx⟩,rfl,rfl,rfl⟩) ⟨rfl,rfl,rfl,by decide+kernel,by decide+kernel⟩ rfl (aAS T) (by decide) (λ _ _ _ _ _ _ _ _ _ _=>(aV (uA T) T.uQ (aD aBQ (aD (aC 11) (aD aM aG))))) (hfree:=λ _=>nJ (sc:=aH nA) (by decide+kernel))) mX)
    (aL (ak dq))
    bR)
   (aJ (cX (my (ul (k:=12) (k0:=11) (kb:=10) (wn:=wdN) (wd:=wdA t) (λ _=>dw T) (zBa rfl) T.au.m T.au.F.kp T.au.b (λ _=>⟨⟨_,Lx⟩,rfl,rfl,rfl⟩) ⟨rfl,rfl,rfl,by decide+kernel,by decide+kernel⟩ rfl (aAS T) (by decide) (λ _ _ _ _ _ _ _ _ _ _=>(aV (uA T) T.uQ (aD (aC 3) (aD (cR aG) (aD (dH (aC 4) (cR (aD (cR (aD aM aG)) aG))) aG))))) (hfree:=λ _=>nJ (sc:=aH nA) (by decide+kernel))) mX)
    (aL (ak dq))
    bR)
   (aJ (cX (my (ul (k:=12) (k0:=11) (kb:=10) (wn:=wdN) (wd:=wdA t) (λ _=>dw T) (zBa rfl) T.au.m T.au.F.kp T.au.b (λ _=>⟨⟨_,Lx⟩,rfl,rfl,rfl⟩) ⟨rfl,rfl,rfl,by decide+kernel,by decide+kernel⟩ rfl (aAS T) (by decide) (λ _ _ _ _ _ _ _ _ _ _=>(aV (jX T) T.iw (aD (aC 3) (aD (cR aG) (aD (aC 11) aG))))) (hfree:=λ _=>nJ (sc:=aH nA) (by decide+kernel))) mX)
    (aL (ak dq))
    bR)
   (aJ (cX (my (ul (k:=12) (k0:=11) (kb:=10) (wn:=wdN) (wd:=wdA t) (λ _=>dw T) (zBa rfl) T.au.m T.au.F.kp T.au.b (λ _=>⟨⟨_,Lx⟩,rfl,rfl,rfl⟩) ⟨rfl,rfl,rfl,by decide+kernel,by decide+kernel⟩ rfl (aAS T) (by decide) (λ _ _ _ _ _ _ _ _ _ _=>(aV (jX T) T.iw (aD (aC 3) (aD (aC 11) (aD (cR aG) aG))))) (hfree:=λ _=>nJ (sc:=aH nA) (by decide+kernel))) mX)
    (aL (ak dq))
    bR)
   (aL (cX (my (ul (k:=12) (k0:=11) (kb:=10) (wn:=wdN) (wd:=wdA t) (λ _=>dw T) (zBa rfl) T.au.m T.au.F.kp T.au.b (λ _=>⟨⟨_,Lx⟩,rfl,rfl,rfl⟩) ⟨rfl,rfl,rfl,by decide+kernel,by decide+kernel⟩ rfl (aAS T) (by decide) (λ _ _ _ _ _ _ _ _ _ _=>(aV (jX T) T.iw (aD aM (aD (cR aG) (aD (cR aG) aG))))) (hfree:=λ _=>nJ (sc:=aH nA) (by decide+kernel))) mX)
    (aL (ak dq))
    bR)))))))))))))))
  (aL (ak dq)))
end
theorem aLz{K:zAA}{h:Heap}{mg:Str->Option Value}{tk_MOST_PLACES:Tok}{q_FewError:Addr}{q_NoWeb:Addr}{q_NoPlace:Addr}{q_NoWay:Addr}{q_NoParting:Addr}{q_TooMany:Addr}{q_NoForest:Addr}{q_NoPlan:Addr}{q_NoOneWay:Addr}{q_NoOrder:Addr}{q_NoText:Addr}{q_NoDeed:Addr}{q_NoRow:Addr}(X:K.In h)(G:h.Ns zA4 mg)
  (h0:∃f d,Enr K "is_whole" sH f d)
  (h1:∃f d,Enr K "is_many" uy f d)
  (h2:∃f d,Enr K "is_place" sI f d)
  (h3:∃f d,Enr K "is_pair" ux f d)
  (h4:∃f d,Enr K "is_rising" pZ f d)
  (h5:∃f d,Enr K "are_rising_pairs" gh f d)
  (h6:∃f d,Enr K "are_ties" sJ f d)
  (h7:∃f d,Enr K "are_places" oO f d)
  (h8:∃f d,Enr K "each_once" qC f d)
  (h9:∃f d,Enr K "is_web" yF f d)
  (h10:∃f d,Enr K "check_web" qD f d)
  (h11:∃f d,Enr K "check_places" lG f d)
  (h12:∃f d,Enr K "all_tied" sO f d)
  (h13:∃f d,Enr K "part_with" pU f d)
  (h14:∃f d,Enr K "parts_among" mZ f d)
  (h15:∃f d,Enr K "parts" aB0 f d)
  (h16:∃f d,Enr K "without" uv f d)
  (h17:∃f d,Enr K "goes_along" oN f d)
  (h18:∃f d,Enr K "is_parting" oM f d)
  (h19:∃f d,Enr K "check_parting" jf f d)
  (h20:∃f d,Enr K "shows_with" oJ f d)
  (h21:∃f d,Enr K "ends_kept" ph f d)
  (h22:∃f d,Enr K "keeps" aB1 f d)
  (h23:∃f d,Enr K "_law_cell_at" m7 f d)
  (h24:∃f d,Enr K "_law_draw" sG f d)
  (h25:∃f d,Enr K "_law_web" uw f d)
  (h26:∃f d,Enr K "_law_near" rn f d)
  (h27:∃f d,Enr K "_law_parts" pX f d)
  (h28:∃f d,Enr K "_law_left" rz f d)
  (h29:∃f d,Enr K "_law_some" rm f d)
  (h30:∃f d,Enr K "_law_no_places" je f d)
  (h31:∃f d,Enr K "_law_shown" pW f d)
  (h32:∃f d,Enr K "_law_parted" oK f d)
  (h33:∃f d,Enr K "_law_class" pY f d)
  (h34:∃f d,Enr K "_law_refused" m6 f d)
  (h35:∃f d,Enr K "_law_kept" sE f d)
  (h36:∃f d,Enr K "law" nA f d)
  (jY:zAd K zA4 "MOST_PLACES"=some (some (.int 60 tk_MOST_PLACES)))
  (y_FewError:zAd K zA4 "FewError"=some (some (.ref q_FewError)))
  (lD:zBL K q_FewError [.type "ValueError",.type "Exception",.type "BaseException",.type "object"] "ValueError.__new__"=true)
  (y_NoWeb:zAd K zA4 "NoWeb"=some (some (.ref q_NoWeb)))
  (tG:zBL K q_NoWeb [.type "ValueError",.type "Exception",.type "BaseException",.type "object"] "ValueError.__new__"=true)
  (y_NoPlace:zAd K zA4 "NoPlace"=some (some (.ref q_NoPlace)))
  (mj:zBL K q_NoPlace [.type "ValueError",.type "Exception",.type "BaseException",.type "object"] "ValueError.__new__"=true)
  (y_NoWay:zAd K zA4 "NoWay"=some (some (.ref q_NoWay)))
  (wy:zBL K q_NoWay [.type "ValueError",.type "Exception",.type "BaseException",.type "object"] "ValueError.__new__"=true)
  (y_NoParting:zAd K zA4 "NoParting"=some (some (.ref q_NoParting)))
  (j0:zBL K q_NoParting [.type "ValueError",.type "Exception",.type "BaseException",.type "object"] "ValueError.__new__"=true)
  (y_TooMany:zAd K zA4 "TooMany"=some (some (.ref q_TooMany)))
  (qW:zBL K q_TooMany [.type "ValueError",.type "Exception",.type "BaseException",.type "object"] "ValueError.__new__"=true)
  (y_NoForest:zAd K zA4 "NoForest"=some (some (.ref q_NoForest)))
  (ni:zBL K q_NoForest [.type "ValueError",.type "Exception",.type "BaseException",.type "object"] "ValueError.__new__"=true)
  (y_NoPlan:zAd K zA4 "NoPlan"=some (some (.ref q_NoPlan)))
  (tK:zBL K q_NoPlan [.type "ValueError",.type "Exception",.type "BaseException",.type "object"] "ValueError.__new__"=true)
  (y_NoOneWay:zAd K zA4 "NoOneWay"=some (some (.ref q_NoOneWay)))
  (n8:zBL K q_NoOneWay [.type "ValueError",.type "Exception",.type "BaseException",.type "object"] "ValueError.__new__"=true)
  (y_NoOrder:zAd K zA4 "NoOrder"=some (some (.ref q_NoOrder)))
  (qX:zBL K q_NoOrder [.type "ValueError",.type "Exception",.type "BaseException",.type "object"] "ValueError.__new__"=true)
  (y_NoText:zAd K zA4 "NoText"=some (some (.ref q_NoText)))
  (tH:zBL K q_NoText [.type "ValueError",.type "Exception",.type "BaseException",.type "object"] "ValueError.__new__"=true)
  (y_NoDeed:zAd K zA4 "NoDeed"=some (some (.ref q_NoDeed)))
  (tL:zBL K q_NoDeed [.type "ValueError",.type "Exception",.type "BaseException",.type "object"] "ValueError.__new__"=true)
  (y_NoRow:zAd K zA4 "NoRow"=some (some (.ref q_NoRow)))
  (xF:zBL K q_NoRow [.type "ValueError",.type "Exception",.type "BaseException",.type "object"] "ValueError.__new__"=true)
  (cb:L2.aEw K q_FewError [q_NoWeb,q_NoPlace,q_NoWay,q_NoParting,q_TooMany,q_NoForest,q_NoPlan,q_NoOneWay,q_NoOrder,q_NoText,q_NoDeed,q_NoRow]=true)
  (z_ValueError:zAd K zA4 "ValueError"=some none)
  (z_all:zAd K zA4 "all"=some none)
  (z_bool:zAd K zA4 "bool"=some none)
  (z_enumerate:zAd K zA4 "enumerate"=some none)
  (z_int:zAd K zA4 "int"=some none)
  (z_isinstance:zAd K zA4 "isinstance"=some none)
  (z_len:zAd K zA4 "len"=some none)
  (z_list:zAd K zA4 "list"=some none)
  (z_max:zAd K zA4 "max"=some none)
  (z_min:zAd K zA4 "min"=some none)
  (z_range:zAd K zA4 "range"=some none)
  (z_set:zAd K zA4 "set"=some none)
  (z_sorted:zAd K zA4 "sorted"=some none)
  (z_tuple:zAd K zA4 "tuple"=some none):
  ∃t,Txt K mg t:=by
 obtain⟨f0,d0,F0,a0⟩:=h0;have B0:=F0.binds (ps:=["thing"]) λ _ _ _ _ _ _ us hl=>by obtain⟨_,rfl⟩:=w5 hl;rfl
 obtain⟨f1,d1,F1,a1⟩:=h1;have B1:=F1.binds (ps:=["thing"]) λ _ _ _ _ _ _ us hl=>by obtain⟨_,rfl⟩:=w5 hl;rfl
 obtain⟨f2,d2,F2,a2⟩:=h2;have B2:=F2.binds (ps:=["many","thing"]) λ _ _ _ _ _ _ us hl=>by obtain⟨_,_,rfl⟩:=oY hl;rfl
 obtain⟨f3,d3,F3,a3⟩:=h3;have B3:=F3.binds (ps:=["many","thing"]) λ _ _ _ _ _ _ us hl=>by obtain⟨_,_,rfl⟩:=oY hl;rfl
 obtain⟨f4,d4,F4,a4⟩:=h4;have B4:=F4.binds (ps:=["things"]) λ _ _ _ _ _ _ us hl=>by obtain⟨_,rfl⟩:=w5 hl;rfl
 obtain⟨f5,d5,F5,a5⟩:=h5;have B5:=F5.binds (ps:=["many","thing"]) λ _ _ _ _ _ _ us hl=>by obtain⟨_,_,rfl⟩:=oY hl;rfl
 obtain⟨f6,d6,F6,a6⟩:=h6;have B6:=F6.binds (ps:=["many","thing"]) λ _ _ _ _ _ _ us hl=>by obtain⟨_,_,rfl⟩:=oY hl;rfl
 obtain⟨f7,d7,F7,a7⟩:=h7;have B7:=F7.binds (ps:=["many","thing"]) λ _ _ _ _ _ _ us hl=>by obtain⟨_,_,rfl⟩:=oY hl;rfl
 obtain⟨f8,d8,F8,a8⟩:=h8;have B8:=F8.binds (ps:=["many","rows"]) λ _ _ _ _ _ _ us hl=>by obtain⟨_,_,rfl⟩:=oY hl;rfl
 obtain⟨f9,d9,F9,a9⟩:=h9;have B9:=F9.binds (ps:=["thing"]) λ _ _ _ _ _ _ us hl=>by obtain⟨_,rfl⟩:=w5 hl;rfl
 obtain⟨f10,d10,F10,a10⟩:=h10;have B10:=F10.binds (ps:=["thing"]) λ _ _ _ _ _ _ us hl=>by obtain⟨_,rfl⟩:=w5 hl;rfl
 obtain⟨f11,d11,F11,a11⟩:=h11;have B11:=F11.binds (ps:=["many","thing"]) λ _ _ _ _ _ _ us hl=>by obtain⟨_,_,rfl⟩:=oY hl;rfl
 obtain⟨f12,d12,F12,a12⟩:=h12;have B12:=F12.binds (ps:=["web"]) λ _ _ _ _ _ _ us hl=>by obtain⟨_,rfl⟩:=w5 hl;rfl
 obtain⟨f13,d13,F13,a13⟩:=h13;have B13:=F13.binds (ps:=["near","start"]) λ _ _ _ _ _ _ us hl=>by obtain⟨_,_,rfl⟩:=oY hl;rfl
 obtain⟨f14,d14,F14,a14⟩:=h14;have B14:=F14.binds (ps:=["near","places"]) λ _ _ _ _ _ _ us hl=>by obtain⟨_,_,rfl⟩:=oY hl;rfl
 obtain⟨f15,d15,F15,a15⟩:=h15;have B15:=F15.binds (ps:=["web"]) λ _ _ _ _ _ _ us hl=>by obtain⟨_,rfl⟩:=w5 hl;rfl
 obtain⟨f16,d16,F16,a16⟩:=h16;have B16:=F16.binds (ps:=["web","places"]) λ _ _ _ _ _ _ us hl=>by obtain⟨_,_,rfl⟩:=oY hl;rfl
 obtain⟨f17,d17,F17,a17⟩:=h17;have B17:=F17.binds (ps:=["near","thing"]) λ _ _ _ _ _ _ us hl=>by obtain⟨_,_,rfl⟩:=oY hl;rfl
 obtain⟨f18,d18,F18,a18⟩:=h18;have B18:=F18.binds (ps:=["web","thing"]) λ _ _ _ _ _ _ us hl=>by obtain⟨_,_,rfl⟩:=oY hl;rfl
 obtain⟨f19,d19,F19,a19⟩:=h19;have B19:=F19.binds (ps:=["web","thing"]) λ _ _ _ _ _ _ us hl=>by obtain⟨_,_,rfl⟩:=oY hl;rfl
 obtain⟨f20,d20,F20,a20⟩:=h20;have B20:=F20.binds (ps:=["web","ends","bar"]) λ _ _ _ _ _ _ us hl=>by obtain⟨_,_,_,rfl⟩:=aI2 hl;rfl
 obtain⟨f21,d21,F21,a21⟩:=h21;have B21:=F21.binds (ps:=["ends","parting"]) λ _ _ _ _ _ _ us hl=>by obtain⟨_,_,rfl⟩:=oY hl;rfl
 obtain⟨f22,d22,F22,a22⟩:=h22;have B22:=F22.binds (ps:=["web","ends","parting"]) λ _ _ _ _ _ _ us hl=>by obtain⟨_,_,_,rfl⟩:=aI2 hl;rfl
 obtain⟨f23,d23,F23,a23⟩:=h23;have B23:=F23.binds (ps:=["_law_script","_law_k"]) λ _ _ _ _ _ _ us hl=>by obtain⟨_,_,rfl⟩:=oY hl;rfl
 obtain⟨f24,d24,F24,a24⟩:=h24;have B24:=F24.binds (ps:=["_law_cell","_law_k","_law_bound"]) λ _ _ _ _ _ _ us hl=>by obtain⟨_,_,_,rfl⟩:=aI2 hl;rfl
 obtain⟨f25,d25,F25,a25⟩:=h25;have B25:=F25.binds (ps:=["_law_cell","_law_most"]) λ _ _ _ _ _ _ us hl=>by obtain⟨_,_,rfl⟩:=oY hl;rfl
 obtain⟨f26,d26,F26,a26⟩:=h26;have B26:=F26.binds (ps:=["_law_web_here"]) λ _ _ _ _ _ _ us hl=>by obtain⟨_,rfl⟩:=w5 hl;rfl
 obtain⟨f27,d27,F27,a27⟩:=h27;have B27:=F27.binds (ps:=["_law_web_here"]) λ _ _ _ _ _ _ us hl=>by obtain⟨_,rfl⟩:=w5 hl;rfl
 obtain⟨f28,d28,F28,a28⟩:=h28;have B28:=F28.binds (ps:=["_law_web_here","_law_places"]) λ _ _ _ _ _ _ us hl=>by obtain⟨_,_,rfl⟩:=oY hl;rfl
 obtain⟨f29,d29,F29,a29⟩:=h29;have B29:=F29.binds (ps:=["_law_cell","_law_many","_law_at"]) λ _ _ _ _ _ _ us hl=>by obtain⟨_,_,_,rfl⟩:=aI2 hl;rfl
 obtain⟨f30,d30,F30,a30⟩:=h30;have B30:=F30.binds (ps:=["_law_cell","_law_many"]) λ _ _ _ _ _ _ us hl=>by obtain⟨_,_,rfl⟩:=oY hl;rfl
 obtain⟨f31,d31,F31,a31⟩:=h31;have B31:=F31.binds (ps:=["_law_web_here","_law_bar","_law_ends"]) λ _ _ _ _ _ _ us hl=>by obtain⟨_,_,_,rfl⟩:=aI2 hl;rfl
 obtain⟨f32,d32,F32,a32⟩:=h32;have B32:=F32.binds (ps:=["_law_cell","_law_at","_law_web_here","_law_nigh"]) λ _ _ _ _ _ _ us hl=>by obtain⟨_,_,_,_,rfl⟩:=aPC hl;rfl
 obtain⟨f33,d33,F33,a33⟩:=h33;have B33:=F33.binds (ps:=["_law_error"]) λ _ _ _ _ _ _ us hl=>by obtain⟨_,rfl⟩:=w5 hl;rfl
 obtain⟨f34,d34,F34,a34⟩:=h34;have B34:=F34.binds (ps:=["_law_call"]) λ _ _ _ _ _ _ us hl=>by obtain⟨_,rfl⟩:=w5 hl;rfl
 obtain⟨f35,d35,F35,a35⟩:=h35;have B35:=F35.binds (ps:=["_law_ends","_law_parting"]) λ _ _ _ _ _ _ us hl=>by obtain⟨_,_,rfl⟩:=oY hl;rfl
 obtain⟨f36,d36,F36,a36⟩:=h36;have B36:=F36.binds (ps:=["_law_script"]) λ _ _ _ _ _ _ us hl=>by obtain⟨_,rfl⟩:=w5 hl;rfl
 exact⟨⟨f0,_,f1,_,f2,_,f3,_,f4,_,f5,_,f6,_,f7,_,f8,_,f9,_,f10,_,f11,_,f12,_,f13,_,f14,_,f15,_,f16,_,f17,_,f18,_,f19,_,f20,_,f21,_,f22,_,f23,_,f24,_,f25,_,f26,_,f27,_,f28,_,f29,_,f30,_,f31,_,f32,_,f33,_,f34,_,f35,_,f36,_,_,q_FewError,q_NoWeb,q_NoPlace,q_NoWay,q_NoParting,q_TooMany,q_NoForest,q_NoPlan,q_NoOneWay,q_NoOrder,q_NoText,q_NoDeed,q_NoRow⟩,⟨⟨F0,zAJ X G a0,B0⟩,⟨F1,zAJ X G a1,B1⟩,⟨F2,zAJ X G a2,B2⟩,⟨F3,zAJ X G a3,B3⟩,⟨F4,zAJ X G a4,B4⟩,⟨F5,zAJ X G a5,B5⟩,⟨F6,zAJ X G a6,B6⟩,⟨F7,zAJ X G a7,B7⟩,⟨F8,zAJ X G a8,B8⟩,⟨F9,zAJ X G a9,B9⟩,⟨F10,zAJ X G a10,B10⟩,⟨F11,zAJ X G a11,B11⟩,⟨F12,zAJ X G a12,B12⟩,⟨F13,zAJ X G a13,B13⟩,⟨F14,zAJ X G a14,B14⟩,⟨F15,zAJ X G a15,B15⟩,⟨F16,zAJ X G a16,B16⟩,⟨F17,zAJ X G a17,B17⟩,⟨F18,zAJ X G a18,B18⟩,⟨F19,zAJ X G a19,B19⟩,⟨F20,zAJ X G a20,B20⟩,⟨F21,zAJ X G a21,B21⟩,⟨F22,zAJ X G a22,B22⟩,⟨F23,zAJ X G a23,B23⟩,⟨F24,zAJ X G a24,B24⟩,⟨F25,zAJ X G a25,B25⟩,⟨F26,zAJ X G a26,B26⟩,⟨F27,zAJ X G a27,B27⟩,⟨F28,zAJ X G a28,B28⟩,⟨F29,zAJ X G a29,B29⟩,⟨F30,zAJ X G a30,B30⟩,⟨F31,zAJ X G a31,B31⟩,⟨F32,zAJ X G a32,B32⟩,⟨F33,zAJ X G a33,B33⟩,⟨F34,zAJ X G a34,B34⟩,⟨F35,zAJ X G a35,B35⟩,⟨F36,zAJ X G a36,B36⟩,zAJ X G jY,⟨_,rfl⟩,zAJ X G y_FewError,(by unfold bF;rw[zAJ X G y_FewError]),lD,zAJ X G y_NoWeb,(by unfold bF;rw[zAJ X G y_NoWeb]),tG,zAJ X G y_NoPlace,(by unfold bF;rw[zAJ X G y_NoPlace]),mj,zAJ X G y_NoWay,(by unfold bF;rw[zAJ X G y_NoWay]),wy,zAJ X G y_NoParting,(by unfold bF;rw[zAJ X G y_NoParting]),j0,zAJ X G y_TooMany,(by unfold bF;rw[zAJ X G y_TooMany]),qW,zAJ X G y_NoForest,(by unfold bF;rw[zAJ X G y_NoForest]),ni,zAJ X G y_NoPlan,(by unfold bF;rw[zAJ X G y_NoPlan]),tK,zAJ X G y_NoOneWay,(by unfold bF;rw[zAJ X G y_NoOneWay]),n8,zAJ X G y_NoOrder,(by unfold bF;rw[zAJ X G y_NoOrder]),qX,zAJ X G y_NoText,(by unfold bF;rw[zAJ X G y_NoText]),tH,zAJ X G y_NoDeed,(by unfold bF;rw[zAJ X G y_NoDeed]),tL,zAJ X G y_NoRow,(by unfold bF;rw[zAJ X G y_NoRow]),xF,zAt X G z_ValueError,zAt X G z_all,zAt X G z_bool,zAt X G z_enumerate,zAt X G z_int,zAt X G z_isinstance,zAt X G z_len,zAt X G z_list,zAt X G z_max,zAt X G z_min,zAt X G z_range,zAt X G z_set,zAt X G z_sorted,zAt X G z_tuple,cb⟩⟩
theorem aNd{l:zFC}{w:World}{K:zAA}{h:Heap}{mg:Str->Option Value}{fa Pt:Addr}(X:K.In h)(G:h.Ns zA4 mg)(hfa:mg "law"=some (.ref fa))(hB:aBt K "law" Pt=true)(ht:∃t,Txt K mg t):L2.aFx l.prog w K mg fa Pt 12 63:=by
 obtain⟨t,T⟩:=ht;have e:=hfa.symm.trans T.aLq.m;cases e;exact aKc (f:=aBA) (F:=aJ5) X G hB T.aLq aMU (λ _ _ _ _ _ _ _ _=>.of_eq rfl) (λ base c s H hr Lx nd=>aOb T hr Lx nd) rfl aI5
theorem walk{l:zFC}{q:zA2}{loose:List Str}{XP:(Str->Option Value)->Heap->Prop}{YP:World->Heap->Prop}{d:DefRec}{K:Params->zAA}{Pt:Addr}(hn:l.most=some 63)(hdf:d.params.defaults=[])
  (hY:∀(w:World) (h:Heap),YP w h->(K w.params).In h/\h.get? Pt=some (zCJ #[]))
  (F:∀(w:World) (mg:Str->Option Value) (fa:Addr) (h:Heap),(K w.params).In h->h.Ns zA4 mg->mg d.name=some (.ref fa)->L2.aFx l.prog w (K w.params) mg fa Pt 12 63):
  zIf q loose XP YP l.row.toRowW d [] (λ f vs=>zIB f vs):=
 L2.aGw hn (by decide) hdf ⟨rfl,by decide,by decide⟩ hY F
end VL.My
open PySem PySem.W PyProof.Rows
set_option maxRecDepth 100000 in
set_option maxHeartbeats 0 in
theorem PySem.Challenge.cw_fewways_k22_told_ends_holds : PySem.Challenge.rw_fewways_k22_told_ends.Holds := by
 w_on; o_law; k_head; (case hw=>w_witness2)
 k_fill
 refine VL.My.walk (l:=PySem.Challenge.rw_fewways_k22_told_ends) rfl rfl (fun w h Y=>⟨PySem.W.km_in_of Y,PySem.W.km_tabs_of Y _ zAI⟩) ?F
 case F =>
  intro w mg fa h KX G hmg
  refine VL.My.aNd KX G hmg ?B ?T
  (case B=>kernel_rfl)
  case T =>
   refine' VL.My.aLz KX G (VL.enr ?a0 ?l0 ?c0 ?k0) (VL.enr ?a1 ?l1 ?c1 ?k1) (VL.enr ?a2 ?l2 ?c2 ?k2) (VL.enr ?a3 ?l3 ?c3 ?k3) (VL.enr ?a4 ?l4 ?c4 ?k4) (VL.enr ?a5 ?l5 ?c5 ?k5) (VL.enr ?a6 ?l6 ?c6 ?k6) (VL.enr ?a7 ?l7 ?c7 ?k7) (VL.enr ?a8 ?l8 ?c8 ?k8) (VL.enr ?a9 ?l9 ?c9 ?k9) (VL.enr ?a10 ?l10 ?c10 ?k10) (VL.enr ?a11 ?l11 ?c11 ?k11) (VL.enr ?a12 ?l12 ?c12 ?k12) (VL.enr ?a13 ?l13 ?c13 ?k13) (VL.enr ?a14 ?l14 ?c14 ?k14) (VL.enr ?a15 ?l15 ?c15 ?k15) (VL.enr ?a16 ?l16 ?c16 ?k16) (VL.enr ?a17 ?l17 ?c17 ?k17) (VL.enr ?a18 ?l18 ?c18 ?k18) (VL.enr ?a19 ?l19 ?c19 ?k19) (VL.enr ?a20 ?l20 ?c20 ?k20) (VL.enr ?a21 ?l21 ?c21 ?k21) (VL.enr ?a22 ?l22 ?c22 ?k22) (VL.enr ?a23 ?l23 ?c23 ?k23) (VL.enr ?a24 ?l24 ?c24 ?k24) (VL.enr ?a25 ?l25 ?c25 ?k25) (VL.enr ?a26 ?l26 ?c26 ?k26) (VL.enr ?a27 ?l27 ?c27 ?k27) (VL.enr ?a28 ?l28 ?c28 ?k28) (VL.enr ?a29 ?l29 ?c29 ?k29) (VL.enr ?a30 ?l30 ?c30 ?k30) (VL.enr ?a31 ?l31 ?c31 ?k31) (VL.enr ?a32 ?l32 ?c32 ?k32) (VL.enr ?a33 ?l33 ?c33 ?k33) (VL.enr ?a34 ?l34 ?c34 ?k34) (VL.enr ?a35 ?l35 ?c35 ?k35) (VL.enr ?a36 ?l36 ?c36 ?k36) ?jY ?y_FewError ?lD ?y_NoWeb ?tG ?y_NoPlace ?mj ?y_NoWay ?wy ?y_NoParting ?j0 ?y_TooMany ?qW ?y_NoForest ?ni ?y_NoPlan ?tK ?y_NoOneWay ?n8 ?y_NoOrder ?qX ?y_NoText ?tH ?y_NoDeed ?tL ?y_NoRow ?xF ?cb ?z_ValueError ?z_all ?z_bool ?z_enumerate ?z_int ?z_isinstance ?z_len ?z_list ?z_max ?z_min ?z_range ?z_set ?z_sorted ?z_tuple
   (case y_FewError=>k_is); (case lD=>k_exc)
   (case y_NoWeb=>k_is); (case tG=>k_exc)
   (case y_NoPlace=>k_is); (case mj=>k_exc)
   (case y_NoWay=>k_is); (case wy=>k_exc)
   (case y_NoParting=>k_is); (case j0=>k_exc)
   (case y_TooMany=>k_is); (case qW=>k_exc)
   (case y_NoForest=>k_is); (case ni=>k_exc)
   (case y_NoPlan=>k_is); (case tK=>k_exc)
   (case y_NoOneWay=>k_is); (case n8=>k_exc)
   (case y_NoOrder=>k_is); (case qX=>k_exc)
   (case y_NoText=>k_is); (case tH=>k_exc)
   (case y_NoDeed=>k_is); (case tL=>k_exc)
   (case y_NoRow=>k_is); (case xF=>k_exc)
   (case cb=>kernel_rfl)
   any_goals k_is
