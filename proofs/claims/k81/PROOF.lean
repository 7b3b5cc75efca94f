import PyProof.Rows.All
import KE.KDictOf
import PyProof.DictWalks
import Wide.All
import OpenK.AllK
import Wide.FinOn
import Lean
import PyProof.EqAt
import PyProof.EqKinds
import PyProof.TupleCall
import KE.LcSums
import PySem.Challenge.RW_fewways_k81_texts_written_and_read
open Array renaming length_toList->zA0,getElem?_toList->zAb,getElem?_eq_getElem->zAm,getD_eq_getD_getElem?->zBI,getElem?_eq_some_iff->zBZ,toList_append->zBh,getD->zBn,replicate->zDT,toList_setIfInBounds->zDY,toList_push->zEt,getElem_mem_toList->zFi,getElem?_eq_none->zGG,toList_filterMap->zGH,toList_replicate->zGI,foldl_toList->zGq,forIn_toList->zGr,toList->zIT
open Array.Perm renaming refl->zG3
open Bool renaming and_eq_true->zAW,false_ne_true->zAX,false_eq_true->zA1,and_true->zCd,not_true->zCe,not_false->zDd,not_eq_true'->zDr,or_eq_true->zFY,and_assoc->zFj,and_false->zFk,eq_false_iff->zHT,false_and->zII,or_true->zI4
open False renaming elim->zAN
open ForInStep renaming yield->zB3
open Function renaming comp_def->zG5
open Int renaming toNat_of_nonneg->zB8,toNat_natCast->zCV,emod_lt_of_pos->zCm,emod_nonneg->zDZ,zero_add->zE1,mul_one->zHC
open LawfulBEq renaming eq_of_beq->zFV
open List renaming map_cons->zAC,length_map->zAF,mem_cons_self->zAH,mem_cons_of_mem->zAI,getElem?_eq_getElem->zAJ,mem_singleton->zAK,getElem?_eq_some_iff->zAO,size_toArray->zAP,mem_cons->zAQ,mem_map->zAU,getElem?_map->zA2,length_cons->zA3,map_map->zA4,mem_append->zA5,mem_append_right->zA8,mem_append_left->zAc,lookup_cons->zAe,range->zAf,map_append->zAg,mem_filter->zAh,length_append->zAj,nodup_append->zAt,all_eq_true->zAu,pairwise_cons->zAx,replicate->zAy,zip_cons_cons->zBA,length_nil->zBE,append_assoc->zBG,mem_of_getElem?->zBL,foldl_cons->zBP,filterMap_cons->zBR,append_nil->zBX,flatten_cons->zB5,replicate_succ->zB6,mem_range->zB9,nodup_cons->zBa,mem_filterMap->zBc,getD_eq_getElem?_getD->zBo,length_take->zBp,any_cons->zBs,getElem?_set_ne->zBx,map_congr_left->zCE,getElem?_set_self->zCG,getElem?_append_left->zC2,getElem?_eq_none_iff->zC3,getElem?_zip_eq_some->zC4,getLastD_eq_getLast?->zC5,pairwise_iff_getElem->zC6,length_drop->zC7,find?_cons->zCh,getElem?_cons_succ->zCi,length_set->zCj,of_mem_zip->zCk,getElem?_inj->zCt,take_append_drop->zCz,getElem_map->zDF,range_eq_range'->zDJ,length_pos_iff->zDX,getElem?_append_right->zD6,drop_eq_getElem_cons->zDe,length_erase_of_mem->zDs,length_range->zDt,getElem?_cons_zero->zDy,getElem?_replicate->zDz,any_eq_true->zEF,getElem_mem->zEG,map_snd_zip->zEH,not_mem_nil->zEI,length_pos_of_mem->zEO,length_filter_le->zEV,length_singleton->zEW,map_nil->zEX,mem_iff_getElem?->zEY,filter_sublist->zEe,length->zEf,lookup_append->zEq,foldl_append->zEz,cons_append->zFI,cons_ne_nil->zFJ,drop_length->zFK,filter_cons->zFL,map_fst_zip->zFM,mem_flatMap->zFN,length_zip->zF0,nil_append->zF1,nodup_iff_pairwise_ne->zF8,drop_drop->zFm,mem_of_find?_eq_some->zFn,nodup_nil->zFo,all_cons->zGJ,take_of_length_le->zGP,getElem?_zipIdx->zGe,getElem_toArray->zGf,mem_of_mem_take->zGg,getElem?_range->zGt,getElem_of_mem->zGu,range'->zGv,contains_cons->zHD,filter_append->zHE,find?_eq_none->zHF,zip_nil_right->zHG,all_eq_false->zHU,any_eq_false->zHV,foldl->zHW,getElem?_set->zHX,pairwise_map->zHY,zip_map_left->zHZ,zip_nil_left->zH0,ext_getElem->zHi,getLast_mem->zHj,mem_reverse->zHk,nodup_range->zHl,perm_middle->zHm,range'_succ->zHn,take_length->zHo,range_succ->zID,zip_append->zIE,map_drop->zIV,map_take->zIW,sum_cons->zIX,all_map->zIb
open List.Nodup renaming length_le_of_subset->zE9
open List.Pairwise renaming nil->zF7
open List.Perm renaming refl->zBS,swap->zEN,cons->zGs
open List.Sublist renaming map->zE3
open Nat renaming le_refl->zAM,lt_of_lt_of_le->zAY,ne_of_lt->zAZ,le_trans->zA6,zero_le->zAp,lt_irrefl->zBQ,lt_succ_self->zBd,ne_of_gt->zBg,le_of_lt_succ->zBi,le_of_lt->zBu,lt_trans->zCR,lt_succ_of_lt->zCW,succ_pos->zCc,mod_lt->zCu,le_succ->zEi,lt_trichotomy->zFE,min_self->zFO,zero_add->zFP,le_add_right->zFT,mul_le_mul->zFt,not_lt->zGK,le_of_eq->zGh,lt_of_le_of_lt->zH1,le_max_right->zIF,le_of_not_lt->zIG,le_max_left->zIJ,not_lt_zero->zIK
open Nat.succ renaming inj->zHp
open Ne renaming symm->zDR
open Option renaming map_some->zCO,map_eq_some_iff->zEA,none->zG7,bind_some->zHH,getD_none->zHI,map_none->zH2
open Option.some renaming inj->zAq,injEq->zFu
open Or renaming inr->zC8,inl->zD7
open Prod renaming fst->zFU,ext->zGL,snd->zGM
open PyProof.Rows renaming IntsAre->zBM,slot_tuple_getitem->zBY,seqObj->zBr,KeyOrd->zCC,callWith_type1->zCF,SortSt->zDH,kindOf->zDI,SortKind->zDS,envOfC->zE5,AllBare->zEh,get?_update_seq->zEl,listUpdate_at->zFW,lt_int->zF2,failedOf->zGO,pendingOf->zGW,sortedHeap->zGz,subscriptTail->zHP,subscriptTail_builtinR->zHa,isTrue_or->zHw,listItems_at->zHy,entry_tuple_getitem->zIN,seqEpoch_at->zIP,args_tuple_getitem->zI0,Subscript_->zIg,boot_range->zIj
open PyProof.Rows.F renaming plain_set_update_loop->zCI,entry_set_update_loop->zDi
open PyProof.Rows.IsTup renaming new->zHh
open PyProof.Rows.KeyOrd renaming kle_refl->zCb,kle_trans->zDv,kle_of_klt->zEp,kle_antisymm->zG6
open PySem renaming wpAny_bind->zAB,Shared->zAD,wpAny_pure->zAG,sizeLine->zAS,Program->zAT,starEach->zAV,FuncData->zA7,mainGlobals->zA9,Around->zAa,compareOp->zAs,mem_of_lookup->zAv,bootBuiltins->zAw,wpAny_newObj_type->zBH,codeAny_builtin->zBJ,wpAny_mono->zBN,wpAny_setState_of->zBO,wpAny_callSpecial?_slot->zB1,wpAny_holding->zB2,wpAny_call_entry->zB7,behindInMarks->zBj,foldedSetIterable->zBl,wpAny_truthy_bool->zBm,codeAny->zBq,SetTable->zBt,binaryOp->zBy,Keyword->zCA,backTo->zCB,attributeBase->zCM,sizeLine_eq->zCN,sysModules->zCQ,Builtin->zCY,wpAny_loadPart'->zCZ,wpAny_passesOwn->zC0,GenState->zCg,keywordEach->zCo,wpAny_typeOf->zCr,letOwnedTupleGo->zCv,wpAny_pyIter_tuple->zCw,assignEach->zDN,wpAny_field->zDO,wpAny_loadPart_at->zDP,builtinLookup_eq_fast->zDV,wpAny_askSetting->zD2,wpAny_forIn_list->zD3,NameKind->zDa,call_meets->zDg,typeLookup->zDh,Result->zDl,cellsFrom->zDn,sliceBounds->zDo,swapsWith->zDp,wpAny_execs_nil->zDq,codeAny_mono->zEC,wpAny_Call_Name_kw->zEE,holding->zEK,wpAny_seqItems->zEL,wpAny_setField->zEM,ofAClassStatement->zER,typeIs_str->zES,wpAny_comprehension_free->zET,backToKw->zE2,wpAny_execs_cons->zE6,getItem->zEm,typeLookup_type->zEn,wpAny_specialOf->zEo,wpAny_rule->zEs,codeAny_call_builtin->zEx,firstArgMember->zFA,newFunctionEnv->zFB,pyNext->zFC,wpAny_runValue->zFD,callerA->zFH,Arguments->zFQ,IsPart->zFS,wpAny_standAt->zFX,BindsTo->zF5,closureFor->zFe,newList->zFf,relabel->zFg,wpAny_pyIter_list->zFh,assign->zFr,checkBuiltinCall->zGC,noFill_tuple_add->zGD,wpAny_eqBool_int->zGE,wpAny_isInstance->zGF,Ctx->zGQ,excClassObj->zGU,hashByValue->zGV,rawInt->zGX,richCompare->zGY,subscripted->zGZ,unsupported->zG0,valueAt->zG1,wpAny_of_eq->zG2,isSubtype_type->zGo,recursionLimit->zGp,Paired->zGw,pyIter->zGy,stored->zHA,call->zHJ,entryFor->zHL,plainId_quiet->zHM,seq_tuple_add->zHN,strLen_append->zHO,wpAny_attempt->zHQ,wpAny_newList->zHR,wpAny_pyNext_tuple_item->zHS,richCompare_meets_room->zH9,wpAny_pyNext_tuple_end->zHb,PassesOwn->zHr,concat_meets->zHu,isSubtype->zHv,lastMarks->zHx,setSearch->zHz,tupleKind->zIA,wpAny_eqIsQuiet_tuple->zIB,wpAny_isTrue_Compare1->zIC,collect->zIM,intKind->zIO,standAt->zIQ,wpAny_dictSet_pairs->zIR,wpAny_isSubtype_exc->zIS,Within->zIZ,getAttr?->zI1,getattributeRaised->zI2,tupleKind_room_in1->zI3,builtinsNs->zIk,searchCouldBeSeen->zIl,setsByText->zIm,slot_list_getitem->zIn,typeIs_int->zIo,wpAny_Call_method->zIp,wpAny_Name->zIq,wpAny_assign_Name->zIr,wpAny_load->zIs,wpAny_pyIter_enum->zIt,wpAny_pyIter_slot->zIu,wpAny_sequenceKey->zIv
open PySem.Around renaming under_plainId->zBK
open PySem.AutoSeq1 renaming sub_tuple_tuple->zFR,list_insert_list_int_val_1->zIY
open PySem.Builtin.Dict renaming updateFrom->zEy
open PySem.Builtin.Frozenset renaming addrOf->zHc,newClass->zHd,sizeOf->zHe,slot0->zHf,updateFrom->zHg
open PySem.Builtin.List renaming listExtendWith->zCs,listFitsIndex->zCx,listTooLong->zDQ,listLengthHint->zEb
open PySem.Builtin.Range renaming rangeSize->zDU,rangeFitsLong->zE7,small->zI5
open PySem.Builtin.Slice renaming slicePlaces->zCJ,sliceAdjust->zDC,sliceApplied->zEc,sliceFields->zI6,slicePartIndex->zI7
open PySem.Builtin.SmallTypes renaming nextOf->zCD
open PySem.Builtin.Str renaming occurrences->zBv,partsBetween->zCU,strKind->zF6
open PySem.Builtin.Tuple renaming tupleExact->zCP,tupleCompareSizes->zEP,tupleItemsOf->zEd,tupleHashOf->zI8,tupleIsExact->zI9
open PySem.Calls renaming callWith_builtin->zCp,evalArgs_plain->zDE,Constant_str->zD4,spliced_cons->zD5,spliced_nil->zEu,Name_function_global->zFZ
open PySem.Code renaming quiet_builtin->zCK
open PySem.F renaming slot_tuple_iterator_next->zC1,called_set->zCf,slot_str_split->zCl,args_str_split_2->zDb,args_tuple_add_2->zDc,entry_str_split->zDj,entry_tuple_add->zDk,slot_tuple_getattribute->zDu,plainAttrs_str->zDw,slot_tuple_add->zDx,typeOf_object_class->zE8,slot_dict_values->zF3,slot_list_insert->zF4,plainAttrs_dict->zF9,plainAttrs_list->zFa,plain_list_iadd->zFb,args_tuple_iterator_next_1->zFl,entry_tuple_iterator_next->zFs,plain_set_new->zFv,slot_dict_get->zFw,slot_set_iter->zFx,slot_list_append->zG4,slot_gs_get->zGd,slot_enumerate_next->zHB,slot_int_rmul->zIa
open PySem.Heap renaming get?_push_of_some->zAE,get?_push_size->zAL,lt_size->zAR,size_push->zBV,SameBut->zCy,get?_update_ne->zDW,get?_update_self->zEU
open PySem.Heap.IsSliceOf renaming new->zIU
open PySem.Heap.SameBut renaming update->zBW
open PySem.NameKind renaming free->zBk,cell->zDA
open PySem.Obj renaming mapSeq->zCH,data_mapFields->zEv,isFreed_of_fields->zGi,putSet->zHq,mapFields->zIc
open PySem.Paired renaming length->zFp
open PySem.SeqAt renaming EqAt->zC9
open PySem.SeqAt.EqAt renaming of_refs->zE0,same->zEr,int_int->zFz,int_str->zGA,str_int->zGB
open PySem.SeqAt.RcAt renaming lists_lengths->zFG,tuples->zGN,lists->zGS
open PySem.SetTable renaming runEnd->zAd,below->zAi,leap->zAk,bits->zAl,turns->zAz,insertAt->zBD,Probe->zBf,grown->zCn,layClean->zD8,toList_insertAt->zD9,has->zEB,sizeAbove->zE4,insertAt_perm->zFc,advance->zGl,gaveWay->zGm,relaid->zGx,fresh->zHK,fill->zH5,fits->zH6,laid->zH7,slot->zH8
open PySem.SetTable.below renaming go->zDG
open PySem.SetTable.layClean renaming free->zBB
open PySem.SetTable.probe renaming go->zBU
open PySem.Shared renaming TypeIs->zEg
open PySem.Str renaming cps_append->zBb,join->zCX,ofString->zDD
open PySem.StrLaws renaming join_split->zGa,split_free->zGb
open PySem.Txt renaming split->zCT,join->zDf,replace->zFd,slice->zGn
open PySem.Value renaming ref->zAr,none->zBF,type->zB4,builtin->zDM,bool->zDm,int->zEQ,str->zGT,notImplemented->zGc,isStrOf->zIL,float->zIh,isInt->zIi
open PySem.W renaming Frag->zAA,nsIn->zAn,mg_none_of->zAo,kia_one->zBC,findIn->zBT,emptyDict->zB0,mg_of->zBe,instObj->zBw,fnOf->zBz,keepIn->zCq,looks_findIn->zDB,hideAll->zDK,hideAll_get->zDL,codeIn->zD0,kitOne->zD1,kas_rev->zEJ,lookIn->zEZ,Looks->zEa,kitx_dict->zEj,methodObj->zEk,plainGet->zEw,OpenLaw->zFF,cellsFrom_some->zFq,KasT->zFy,plainGet_of->zGR,kitx_tuple->zG8,of_hideAll->zG9,kas_place->zGj,kitx_list->zGk,InstAt->zH3,KdlSrc->zH4,WalkO->zHs,excIn->zHt,isFn->zIH
open PySem.W.Looks renaming ld->zId,now->zIe
open PySem.W.WData renaming list->zIf
open Sum renaming inl->zCL,inr->zCS
open ToString renaming toString->zED
open True renaming intro->zCa
noncomputable section
namespace PySem.W.Fast
def tw16682701574004793923:=0
def tw16813177133117579075:=0
def tw12547041706173564163:=0
def tw13479401953054795139:=0
def tw8282942749525020131:=0
def tw12449556710904448515:=0
def tw5030744178701265411:=0
def tw13263581480582247587:=0
def tw16094567418499171043:=0
def tw16550344982053589330:=0
def tw5587873719094257010:=0
def tw1968723941138319730:=0
def tw3801534065941165106:=0
def tw10616707185624276850:=0
def tw10282731203654810162:=0
def tw17468784270132025458:=0
def tw15280337157257478930:=0
def tw12378552987957379281:=0
def tw13512327149963780881:=0
def tw7598513890903094321:=0
def tw15457673934581106833:=0
def tw1019518400242071697:=0
def tw12079135431198809937:=0
def tw4557034166236689632:=0
def tw4326934709448490624:=0
def tw5878758036462745344:=0
def tw3769269010942611232:=0
def tw13121284522584691584:=0
def tw5607034517428418464:=0
def tw1678054080515955264:=0
def tw18018239094107859776:=0
def tw1595676480162992992:=0
def tw5564031939169868640:=0
def tw8391971781912080672:=0
def tw16247569771363821343:=0
def tw14325211839496913791:=0
def tw17006509369659109535:=0
def tw16109878931394026751:=0
def tw16419477322683329791:=0
def tw1539857400167591647:=0
def tw12501350002473696639:=0
def tw1320539627793780095:=0
def tw2682942629142052383:=0
def tw6995622404390772671:=0
def tw12477988945852436894:=0
def tw5852353172812894270:=0
def tw11730592349958783742:=0
def tw12863580807542494686:=0
def tw351220881101466334:=0
def tw14527469420745343853:=0
def tw16048571504504589261:=0
def tw13979040841359950829:=0
def tw4573438588557095149:=0
def tw8697884769497393933:=0
def tw14815818411438915341:=0
def tw14777546387394016045:=0
def tw15048601900745635277:=0
def tw6548901198999542349:=0
def tw12671428375339289165:=0
def tw5580163833865431500:=0
def tw11259204739929002572:=0
def tw11169102479050003052:=0
def tw17537003118336912652:=0
def tw12746753355367386636:=0
def tw3996747886770544268:=0
def tw12921605593376083628:=0
def tw10896362289434096844:=0
def tw16681889323881874668:=0
def tw6314053747424414060:=0
def tw9920698860322566156:=0
def tw7453626480836612587:=0
def tw16279512866031839851:=0
def tw5991084156749545419:=0
def tw1667337479320128587:=0
def tw11419927248986622155:=0
def tw2171071141926808907:=0
def tw9618072274492689163:=0
def tw15754831069836082874:=0
def tw18374569095135974106:=0
def tw5645417235655452058:=0
def tw1691989646685163834:=0
def tw3276354783664217305:=0
def tw3240239843455325049:=0
def tw3481145217532679161:=0
def tw3302928945422980537:=0
def tw17656675145300132985:=0
def tw4085395990702700697:=0
def tw773746571785206329:=0
def tw13339724928423555641:=0
def tw10743053385661319897:=0
def tw8156142474848954745:=0
def tw1471622608554193273:=0
def tw15959066659707091353:=0
def tw11561996428453883513:=0
def tw10960161369150664345:=0
def tw13699451135348399816:=0
def tw13752350246375924072:=0
def tw12507171757535315752:=0
def tw12009842453034212392:=0
def tw14680054761097777000:=0
def tw8439140335244089320:=0
def tw8948459923985483463:=0
def tw3359285743410314343:=0
def tw1952223522749662023:=0
def tw1617332664987342759:=0
def tw7053408281349015463:=0
def tw1585124724614571047:=0
def tw2227235173951451623:=0
def tw11848774671948387527:=0
def tw7305849093885117063:=0
def tw15470672067878602375:=0
def tw8020511213331963175:=0
def tw15383828718231585095:=0
def tw16224195182994445766:=0
def tw13578036915632997478:=0
def tw5210445488407305766:=0
def tw15619321252061292806:=0
def tw10373686502616185237:=0
def tw1512708245822229749:=0
def tw7314108730958696245:=0
def tw9315983905598950197:=0
def tw6302933915952124949:=0
def tw13769076363480140949:=0
def tw13852389755049661300:=0
def tw2873808570074344820:=0
def tw10172849066221660628:=0
def tw13395169202352228660:=0
def tw16083170191754104564:=0
def tw2480333486051424403:=0
def tw6476317455703236563:=0
def tw12552984956912685459:=0
def tw5417559896550200403:=0
def tw5161181943190522995:=0
def tw11041203258554634771:=0
def tw7113707884348830963:=0
def tw17810633808369418579:=0
def tw13463628177008502227:=0
def tw7344292236167460339:=0
def tw2797178256345881171:=0
def tw13616043010630486611:=0
def tw16193703982267399219:=0
def tw4103201823452785122:=0
def tw7470630300156140034:=0
def tw14776884604026108770:=0
def tw11389738513805669506:=0
def tw17786306963346034946:=0
def tw4192401136452784386:=0
def tw10371043615855438753:=0
def tw4450168520925516705:=0
def tw4321516752715825889:=0
def tw6249692173068484129:=0
def tw2511554940290866273:=0
def tw17975098636158945200:=0
def tw11874804079220595024:=0
def tw15707483594714701264:=0
def tw18109920653374185072:=0
def tw10383301300014762256:=0
def tw4144131119328568720:=0
def tw16730147113632522064:=0
def tw14086213320889713168:=0
def tw7778838595242078192:=0
def tw292717765472091344:=0
def tw17491921479860667855:=0
def tw16687569032453656303:=0
def tw14301763655496180463:=0
def tw10075948787601575311:=0
def tw5886709531223354895:=0
def tw11007689143462932015:=0
def tw13701838076895001230:=0
def tw856903976918348910:=0
def tw7456504690952258766:=0
def tw1880811103935620334:=0
def tw5562979833291268014:=0
def tw4327682553041331214:=0
def tw5124085691794330670:=0
def tw11661307264373019118:=0
def tw4625114732084164750:=0
def tw13854692333268365454:=0
def tw7472658911558699598:=0
def tw8814201484570704142:=0
def tw13507642256218074542:=0
def tw2692669754894389774:=0
def tw15919460807988544061:=0
def tw7151432002004777565:=0
def tw7468383324456482525:=0
def tw14065560539549922685:=0
def tw4826878713926228381:=0
def tw8762517826393715517:=0
def tw7760704373399297533:=0
def tw14635459167196883741:=0
def tw3008611595971784925:=0
def tw3628888192420370332:=0
def tw5093999345121671196:=0
def tw15555107460759713948:=0
def tw12939224097669467964:=0
def tw18103419913475620092:=0
def tw3961028251608299452:=0
def tw9127599303337781788:=0
def tw16099349938040713756:=0
def tw8666026046724321916:=0
def tw12727017192160258491:=0
def tw10375907140670448091:=0
def tw4191729010126121531:=0
def tw11894508470090412763:=0
def tw6749981435717646171:=0
def tw13809227211493415867:=0
def tw4227282999958547515:=0
def tw6980847423715349482:=0
def tw8533332511819118602:=0
def tw13390064145349185770:=0
def tw7439819322208404874:=0
def tw13794977710749770570:=0
def tw12465940039685031850:=0
def tw4129302124476349386:=0
def tw12800052418664978026:=0
def tw13144095508742676106:=0
def tw16969685626720686825:=0
def tw8526733526597486729:=0
def tw8439650245954026537:=0
def tw3998796717230634473:=0
def tw1924033437030317545:=0
def tw15051434027181306136:=0
def tw11790198571289580184:=0
def tw3746619581042815640:=0
def tw2719406130488146488:=0
def tw3019215495892349624:=0
def tw10397727620452037784:=0
def tw14238052710189999352:=0
def tw11080067584085827511:=0
def tw1493323828953293751:=0
def tw10069171102874722391:=0
def tw7514139252604334871:=0
def tw1874415276374837015:=0
def tw11423829782961415063:=0
def tw16135817055370125879:=0
def tw4748427023125139574:=0
def tw9384980254922324118:=0
def tw2542998108751671574:=0
def tw16944303100681483766:=0
def tw2299696103879977590:=0
def tw14693228094751887798:=0
def tw14985625017526550966:=0
def tw488362645440578102:=0
def tw2559137720855013974:=0
def tw12497907901128128293:=0
def tw14516876306848814309:=0
def tw5358166341424859365:=0
def tw16204137885091182949:=0
def tw4401485168392217957:=0
def tw1689733933400348133:=0
def tw341367932390410757:=0
def tw13438558187423303877:=0
def tw11764105878596583621:=0
def tw4422878519099932997:=0
def tw12733233722540609989:=0
def tw12428602471344611205:=0
def tw13111973390609383301:=0
def tw12665633982942807013:=0
def tw11410089847061776389:=0
def tw6762021546862952996:=0
def tw5938835482212414724:=0
def tw8583281825038821764:=0
def tw6417406404953973668:=0
def tw17594025914649505732:=0
def tw13161245769648175748:=0
def tw1088411086074832644:=0
def tw5370799136204293316:=0
def tw998983576704152868:=0
def tw10788283363564520452:=0
def tw11323529335849117092:=0
def tw10182464638538631651:=0
def tw3100399832321850118:=0
end PySem.W.Fast
abbrev gX:=List (Int×Int)
abbrev gV:=List (List Int)
abbrev hV:=List (PySem.Addr×PySem.Obj)
abbrev iX:=Array (Int×PySem.Value)
abbrev kQ:=List (PySem.Value×List Int)
abbrev kX:=List (Option Nat)
set_option bootstrap.genMatcherCode false
set_option compiler.extract_closed false
set_option Elab.async false
set_option linter.all false
set_option maxRecDepth 100000
namespace L2
open PySem PySem.Spec PyProof.Rows
abbrev Key:=Sum Int Str
def aA1:Key->Value->Bool
 | .inl k,v=>zIi k v
 | .inr x,v=>zIL x v
def aOv(w:World):Key->Int
 | .inl k=>hashInt k
 | .inr x=>hashStr w x
def cW:∀{k:Key} {v:Value},aA1 k v=true->(∃i t,k=zCL i/\v=zEQ i t)\/(∃x t,k=zCS x/\v=zGT x t)
 | .inl i,v,h=>by
  obtain⟨t,e⟩:=Value.isInt_shape (k:=i) (v:=v) h;exact .inl ⟨i,t,rfl,e⟩
 | .inr x,v,h=>by
  obtain⟨t,e⟩:=Value.isStrOf_shape (x:=x) (v:=v) h;exact .inr ⟨x,t,rfl,e⟩
def aFx(i:Int)(t:Tok):aA1 (.inl i) (.int i t)=true:=by simp[aA1,zIi]
def aFw(x:Str)(t:Tok):aA1 (.inr x) (.str x t)=true:=by simp[aA1,zIL]
def aMr(a b:Int):decide ((zCL a:Key)=zCL b)=(a==b):=by
 by_cases e:a=b
 .subst e;simp
 .have h:¬(zCL a:Key)=zCL b:=λ q=>e (Sum.inl.inj q)
  rw[decide_eq_false h];exact(beq_eq_false_iff_ne.mpr e).symm
def aMo(a b:Str):decide ((zCS a:Key)=zCS b)=decide (a=b):=by
 by_cases e:a=b
 .subst e;simp
 .have h:¬(zCS a:Key)=zCS b:=λ q=>e (Sum.inr.inj q)
  rw[decide_eq_false h,decide_eq_false e]
def aMq(a:Int)(b:Str):decide ((zCL a:Key)=zCS b)=false:=decide_eq_false (λ q=>nomatch q)
def aMp(a:Str)(b:Int):decide ((zCS a:Key)=zCL b)=false:=decide_eq_false (λ q=>nomatch q)
def cM(prog:zAT)(w:World):PySem.KeyKind prog w Key where
 is:=aA1
 hash:=aOv w
 inj:=λ v a b ha hb=>by
  rcases cW ha with ⟨i,t,rfl,rfl⟩|⟨x,t,rfl,rfl⟩
  .rcases cW hb with ⟨j,u,rfl,e⟩|⟨y,u,rfl,e⟩
   .injection e with e1 _;rw[e1]
   .exact nomatch e
  .rcases cW hb with ⟨j,u,rfl,e⟩|⟨y,u,rfl,e⟩
   .exact nomatch e
   .injection e with e1 _;rw[e1]
 byValue:=λ k v h=>by
  rcases cW h with ⟨i,t,rfl,rfl⟩|⟨x,t,rfl,rfl⟩<;>rfl
 pyHash:=λ hv h=>by
  rcases cW hv with ⟨i,t,rfl,rfl⟩|⟨x,t,rfl,rfl⟩
  .exact wpAny_pyHash_int h
  .exact wpAny_pyHash_str h
 eqBool:=λ hu hv h=>by
  rcases cW hu with ⟨i,t,rfl,rfl⟩|⟨x,t,rfl,rfl⟩
  .rcases cW hv with ⟨j,u,rfl,rfl⟩|⟨y,u,rfl,rfl⟩
   .rw[aMr]at h;exact zGE h
   .rw[aMq]at h;exact zGA i t y u _ _ _ _ h
  .rcases cW hv with ⟨j,u,rfl,rfl⟩|⟨y,u,rfl,rfl⟩
   .rw[aMp]at h;exact zGB x t j u _ _ _ _ h
   .rw[aMo]at h;exact wpAny_eqBool_str h
 «strs»:=λ k x t v h=>by
  rcases cW h with ⟨i,u,rfl,e⟩|⟨y,u,rfl,e⟩
  .exact nomatch e
  .injection e with e1 _
   subst e1;cases v<;>rfl
def aCY(prog:zAT)(w:World)(i:Int)(t:Tok):(cM prog w).is (.inl i) (.int i t)=true:=aFx i t
def aCX(prog:zAT)(w:World)(x:Str)(t:Tok):(cM prog w).is (.inr x) (.str x t)=true:=aFw x t
inductive V where
 |non|bl (b:Bool)|int (i:Int)|str (x:Str)|byt (b:Array UInt8)|flt (b:UInt64)|ref (a:Addr)|ty (n:String)
 deriving DecidableEq
def RelV:V->Value->Prop
 | .non,u=>u=zBF
 | .bl b,u=>u=zDm b
 | .int i,u=>∃t,u=zEQ i t
 | .str x,u=>∃t,u=zGT x t
 | .byt b,u=>∃t,u=Value.bytes b t
 | .flt b,u=>∃t,u=zIh b t
 | .ref a,u=>u=zAr a
 | .ty n,u=>u=zB4 n
abbrev Vals:List V->List Value->Prop:=zGw RelV
theorem Vals.length(r:Vals xs us):xs.length=us.length:=zFp r
theorem Vals.get:∀{xs:List V} {us:List Value} {i:Nat} {x:V},Vals xs us->xs[i]? =some x->∃u,us[i]? =some u/\RelV x u
 |_,_,_,_,.nil,e=>by simp at e
 |_,_,0,_,.cons r _,e=>by simp at e;subst e;exact⟨_,rfl,r⟩
 |_,_,i+1,x,.cons _ t,e=>by
  obtain⟨u,h1,h2⟩:=Vals.get (i:=i) (x:=x) t (by simpa using e);exact⟨u,by simpa using h1,h2⟩
theorem Vals.append:∀{xs ys:List V} {us ws:List Value},Vals xs us->Vals ys ws->Vals (xs++ys) (us++ws)
 |_,_,_,_,.nil,s=>s
 |_,_,_,_,.cons r t,s=>.cons r (Vals.append t s)
theorem Vals.take:∀{xs:List V} {us:List Value} (n:Nat),Vals xs us->Vals (xs.take n) (us.take n)
 |_,_,0,_=>.nil
 |_,_,_+1,.nil=>.nil
 |_,_,n+1,.cons r t=>.cons r (Vals.take n t)
theorem Vals.drop:∀{xs:List V} {us:List Value} (n:Nat),Vals xs us->Vals (xs.drop n) (us.drop n)
 |_,_,0,r=>r
 |_,_,_+1,.nil=>.nil
 |_,_,n+1,.cons _ t=>Vals.drop n t
def qH:Option V->Option Value->Prop
 |some v,some u=>RelV v u
 |none,none=>True
 |_,_=>False
def KV{κ:Type}:List (κ×V)->List (κ×Value)->Prop:=zGw λ(p:κ×V) (q:κ×Value)=>p.1=q.1/\RelV p.2 q.2
def kV:Key->V
 | .inl i=>.int i
 | .inr x=>.str x
inductive HO where
 |lst (xs:List V)
 |tup (xs:List V)
 |dK (kvs:List (Key×V))|dT (kvs:List (List Key×V))
 |set (S:Int->Bool) (n:Nat)
 |ins (C dx:Addr) (fs:List (Str×V))
 |own (x:Addr)
 |xd (fs:List (Str×V))
 |met (f x:Addr)
 |rng (lo hi:Int)
 |frz (o:Obj) (u:HO)
 |tbl (q:Str)
 |ext (φ:Heap->Prop)
abbrev Hp:=Addr->Option HO
def upd(H:Hp)(a:Addr)(o:HO):Hp:=λ b=>if b=a then some o else H b
def bG:upd H a o a=some o:=by unfold upd;rw[if_pos rfl]
def bA(h:b≠a):upd H a o b=H b:=by unfold upd;rw[if_neg h]
def bZ{H:Hp}{a b:Addr}{o:HO}(h:H a=some o)(h':H b=none):a≠b:=by
 intro e;subst e;rw[h]at h';cases h'
def NoD(h:Heap)(a:Addr):Prop:=∀o,h.get? a=some o->o.dict=none
theorem NoD.push(h:Heap){o:Obj}(hl:o.isFreed=false:=by rfl)(hd:o.dict=none:=by rfl):NoD (h.push o) h.objs.size:=λ u e=>by rw[zAL _ hl]at e;cases e;exact hd
def NoD.keep{h h':Heap}{a:Addr}{o:Obj}(n:NoD h a)(e:h.get? a=some o)(e':h'.get? a=some o):NoD h' a:=λ u q=>by rw[e']at q;cases q;exact n o e
section
variable{H H':Hp}
def aOf(q:Str)(oc:Obj):Prop:=∃vs t,oc.data= .fields vs/\vs[1]? =some (.str q t)
def TabOk(q:Str)(H:Hp)(ps:Array Value):Prop:=TriplesOk ps.toList/\∀pos cv,codeAmong pos ps.toList=some cv->∃c' oc,cv= .ref c'/\H c'=some (.frz oc (.own c'))/\aOf q oc
def TabOk.mono(t:TabOk q H ps)(f:∀b o u,H b=some (.frz o u)->H' b=some (.frz o u)):TabOk q H' ps:=⟨t.1,λ pos cv hc=>let⟨c',oc,z,a,b⟩:=t.2 pos cv hc;⟨c',oc,z,f _ _ _ a,b⟩⟩
end
section
variable(P:zAT)(w:World)
def cO(H:Hp)(h:Heap)(a:Addr):HO->Prop
 | .lst xs=>xs.length<=zAS/\∃(its:List Value) (n:Nat),Vals xs its/\h.get? a=some {cls:=.type "list",data:=.seq its.toArray n}
 | .tup xs=>(xs.length<=zAS/\NoD h a)/\∃its:List Value,Vals xs its/\IsTup h a its.toArray
 | .dK kvs=>kvs.length<=zAS/\(a==zCQ)=false/\∃vs,KV kvs vs/\h.DictOf (cM P w) a vs
 | .dT kvs=>kvs.length<=zAS/\(a==zCQ)=false/\∃xs:List (List Key×Addr×Value),
   zGw (λ(p:List Key×V) (q:List Key×Addr×Value)=>p.1=q.1/\H q.2.1=some (.tup (p.1.map kV))/\RelV p.2 q.2.2) kvs xs/\
   ∃o es ep,h.get? a=some o/\o.ExactDict/\o.data= .dict es ep/\es.toList=xs.map (entryOfKey (zIA (cM P w)))/\(xs.map (·.1)).Nodup
 | .set S n=>h.SetOf (zIO P w) a S n
 | .ins C dx fs=>H dx=some (.own a)/\fs.length<=1000/\dx≠a/\h.get? a=some (zBw C dx)/\
   ∃mA,h.Ns1 dx mA/\(∀f,qH (fs.lookup f) (mA f))/\zIZ mA (fs.map (·.1))
 | .own _=>∃o,h.get? a=some o
 | .xd fs=>∃mA,h.Ns1 a mA/\∀f,qH (fs.lookup f) (mA f)
 | .rng lo hi=>∃t u v,h.get? a=some {cls:=.type "range",data:=.fields #[.int lo t,.int hi u,.int 1 v]}
 | .frz o u=>h.get? a=some o/\cO H h a u
 | .tbl q=>∃ps,h.get? a=some {cls:=.none,data:=.fields ps}/\TabOk q H ps
 | .met f x=>h.get? a=some (zEk (.ref f) (.ref x))
 | .ext φ=>φ h/\(∃o,h.get? a=some o)/\∀h1 h2:Heap,φ h1->(∀o,h1.get? a=some o->h2.get? a=some o)->φ h2
def HOk(H:Hp)(h:Heap):Prop:=∀a o,H a=some o->cO P w H h a o
end
section
variable{P:zAT}{w:World}{H H':Hp}{h h':Heap}{a:Addr}{o:HO}
theorem cO.lt(x:cO P w H h a o):a<h.objs.size:=by
 cases o with
 |lst xs=>obtain⟨_,_,_,_,e⟩:=x;exact zAR e
 |tup xs=>obtain⟨_,_,_,p⟩:=x;exact p.lt
 |dK kvs=>obtain⟨_,_,_,_,o,_,_,e,_⟩:=x;exact zAR e
 |dT kvs=>obtain⟨_,_,_,_,o,_,_,e,_⟩:=x;exact zAR e
 |set S n=>obtain⟨o,_,_,_,e,_⟩:=x;exact zAR e
 |ins C dx fs=>obtain⟨_,_,_,e,_⟩:=x;exact zAR e
 |own y=>obtain⟨_,e⟩:=x;exact zAR e
 |xd fs=>obtain⟨_,⟨_,_,_,e,_⟩,_⟩:=x;exact zAR e
 |rng lo hi=>obtain⟨_,_,_,e⟩:=x;exact zAR e
 |frz ob u=>obtain⟨e,_⟩:=x;exact zAR e
 |tbl q=>obtain⟨ps,e,_⟩:=x;exact zAR e
 |met f y=>exact zAR (show h.get? a=some _ from x)
 |ext φ=>obtain⟨_,⟨_,e⟩,_⟩:=x;exact zAR e
theorem Paired.mapP:∀{l₁:List α} {l₂:List β},zGw F l₁ l₂->(∀a b,F a b->G a b)->zGw G l₁ l₂
 |_,_,.nil,_=>.nil
 |_,_,.cons r t,f=>.cons (f _ _ r) (Paired.mapP t f)
def cO.stay(x:cO P w H h a o)(k:∀b u,(b=a\/H b=some (.own a))->h.get? b=some u->h'.get? b=some u)
  (ho:∀b,H b=some (.own a)->H' b=some (.own a))(ht:∀b xs,H b=some (.tup xs)->H' b=some (.tup xs))(hz:∀b o u,H b=some (.frz o u)->H' b=some (.frz o u):=by exact λ _ _ _ q=>q):cO P w H' h' a o:=by
 induction o with
 |lst xs=>obtain⟨z,its,n,r,e⟩:=x;exact⟨z,its,n,r,k _ _ (.inl rfl) e⟩
 |tup xs=>obtain⟨z,its,r,ob,e,c⟩:=x;exact⟨⟨z.1,z.2.keep e (k _ _ (.inl rfl) e)⟩,its,r,ob,k _ _ (.inl rfl) e,c⟩
 |dK kvs=>obtain⟨z,y,vs,r,ob,es,ep,e,c⟩:=x;exact⟨z,y,vs,r,ob,es,ep,k _ _ (.inl rfl) e,c⟩
 |dT kvs=>
  obtain⟨z,y,xs,r,ob,es,ep,e,c⟩:=x;exact⟨z,y,xs,Paired.mapP r λ p q z=>⟨z.1,ht _ _ z.2.1,z.2.2⟩,ob,es,ep,k _ _ (.inl rfl) e,c⟩
 |set S n=>obtain⟨ob,es,ep,t,e,c⟩:=x;exact⟨ob,es,ep,t,k _ _ (.inl rfl) e,c⟩
 |ins C dx fs=>
  obtain⟨d,z,ne,e,mA,⟨od,es,ep,e2,c⟩,r⟩:=x;exact⟨ho _ d,z,ne,k _ _ (.inl rfl) e,mA,⟨od,es,ep,k _ _ (.inr d) e2,c⟩,r⟩
 |own y=>obtain⟨ob,e⟩:=x;exact⟨ob,k _ _ (.inl rfl) e⟩
 |xd fs=>obtain⟨mA,⟨od,es,ep,e,c⟩,r⟩:=x;exact⟨mA,⟨od,es,ep,k _ _ (.inl rfl) e,c⟩,r⟩
 |rng lo hi=>obtain⟨t,u,v,e⟩:=x;exact⟨t,u,v,k _ _ (.inl rfl) e⟩
 |frz ob u ih=>obtain⟨e,q⟩:=x;exact⟨k _ _ (.inl rfl) e,ih q⟩
 |tbl q=>
  obtain⟨ps,e,t⟩:=x;exact⟨ps,k _ _ (.inl rfl) e,t.mono hz⟩
 |met f y=>
  have e:h.get? a=some (zEk (.ref f) (.ref y)):=x;show h'.get? a=some (zEk (.ref f) (.ref y));exact k a _ (.inl rfl) e
 |ext φ=>obtain⟨p,⟨o,e⟩,st⟩:=x;exact⟨st _ _ p λ o q=>k _ _ (.inl rfl) q,⟨o,k _ _ (.inl rfl) e⟩,st⟩
theorem HOk.lt(x:HOk P w H h)(e:H a=some o):a<h.objs.size:=(x a o e).lt
def HOk.fresh(x:HOk P w H h)(e:h.objs.size<=a):H a=none:=by
 cases q:H a with
 |none=>rfl
 |some u=>exact absurd (zAY (x.lt q) e) (zBQ _)
def HOk.kept(x:HOk P w H h)(k:∀b u,h.get? b=some u->h'.get? b=some u):HOk P w H h':=λ a o e=>
 (x a o e).stay (λ b u _ q=>k b u q) (λ _ q=>q) λ _ _ q=>q
def HOk.laid(x:HOk P w H h)(k:∀b u,h.get? b=some u->h'.get? b=some u)(hp:h.objs.size<=a)(new:cO P w (upd H a o) h' a o):HOk P w (upd H a o) h':=λ b u e=>by
 have hn:=x.fresh hp;by_cases hb:b=a
 .subst hb;rw[bG]at e;cases e;exact new
 .rw[bA hb]at e
  exact(x b u e).stay (λ c v _ q=>k c v q) (λ c q=>by rw[bA (bZ q hn)];exact q) (λ c xs q=>by rw[bA (bZ q hn)];exact q) λ c o' u' q=>by rw[bA (bZ q hn)];exact q
end
def Rd(H:Hp)(a:Addr)(u:HO):Prop:=H a=some u\/∃o,H a=some (.frz o u)
def Rd.ok(r:Rd H a u)(x:HOk P w H h):cO P w H h a u:=by
 rcases r with r|⟨o,r⟩
 .exact x a u r
 .obtain⟨_,q⟩:=x a _ r
  exact q
def Mut:Option HO->Prop
 |some (.lst _)=>True
 |some (.dK _)=>True
 |some (.dT _)=>True
 |some (.set _ _)=>True
 |some (.ins _ _ _)=>True
 |some (.ext _)=>True
 |_=>False
section
variable{P:zAT}{w:World}{H:Hp}{h h':Heap}{x e:Addr}{o':HO}
def HOk.write(ok:HOk P w H h)(mu:Mut (H x))(he:e=x\/H e=some (.own x))(k:∀b u,b≠e->h.get? b=some u->h'.get? b=some u)(heo:∃u,h'.get? e=some u)
  (new:cO P w (upd H x o') h' x o'):HOk P w (upd H x o') h':=λ b u q=>by
 have nown:∀c y,H c=some (.own y)->c≠x:=λ c y r z=>by subst z;rw[r]at mu;exact mu
 have ntup:∀c xs,H c=some (.tup xs)->c≠x:=λ c xs r z=>by subst z;rw[r]at mu;exact mu
 by_cases hb:b=x
 .subst hb;rw[bG]at q;cases q;exact new
 .rw[bA hb]at q
  by_cases hbe:b=e
  .have q':H b=some (.own x):=by
    rcases he with z|z
    .exact absurd (hbe.trans z) hb
    .rw[hbe];exact z
   rw[q]at q';cases q';obtain⟨v,hv⟩:=heo;exact⟨v,by rw[hbe];exact hv⟩
  .refine(ok b u q).stay (λ c v hc r=>k c v ?_ r) (λ c r=>by rw[bA (nown c b r)];exact r) (λ c xs r=>by rw[bA (ntup c xs r)];exact r) λ c o2 u2 r=>by rw[bA λ z=>by subst z;rw[r]at mu;exact mu];exact r
   rcases hc with rfl|hc
   .exact hbe
   .rintro rfl
    rcases he with z|z
    .exact nown c b hc z
    .rw[hc]at z;cases z;exact hb rfl
end
structure Un(fs ex:List Addr)(H H':Hp)(h h':Heap):Prop where
 keep:∀b o,h.get? b=some o->H b=none->b∉fs->b∉ex->h'.get? b=some o
 slot:∀b o,h.get? b=some o->H b=none->b∈fs->b∉ex->∃sl,h'.get? b=some {o with slots:=sl}
 free:∀b o,h.get? b=some o->H b=none->b∉ex->H' b=none
 there:∀b o,h.get? b=some o->b∉ex->∃o',h'.get? b=some o'
 tups:∀b xs,H b=some (.tup xs)->H' b=some (.tup xs)
 frzs:∀b o u,H b=some (.frz o u)->H' b=some (.frz o u)
 tbls:∀b q,H b=some (.tbl q)->H' b=some (.tbl q)
section
variable{fs ex:List Addr}{H H1:Hp}{h h1 h':Heap}{a x e:Addr}{o:HO}
def Un.any(u:Un fs ex H H1 h h1)(q:h.get? b=some ob)(n:H b=none)(hx:b∉ex):∃sl,h1.get? b=some {ob with slots:=sl}:=by
 by_cases hb:b∈fs
 .exact u.slot b ob q n hb hx
 .exact⟨ob.slots,u.keep b ob q n hb hx⟩
def Un.kept(k:∀b u,h.get? b=some u->h'.get? b=some u):Un fs ex H H h h':=
 ⟨λ b ob q _ _ _=>k b ob q,λ b ob q _ _ _=>⟨ob.slots,k b ob q⟩,λ _ _ _ n _=>n,λ b ob q _=>⟨ob,k b ob q⟩,λ _ _ q=>q,λ _ _ _ q=>q,λ _ _ q=>q⟩
def Un.refl:Un fs ex H H h h:=Un.kept λ _ _ q=>q
def Un.laid(k:∀b u,h.get? b=some u->h'.get? b=some u)(hp:h.objs.size<=a)(hn:H a=none):Un fs ex H (upd H a o) h h' where
 keep:=λ b u q _ _ _=>k b u q
 slot:=λ b u q _ _ _=>⟨u.slots,k b u q⟩
 free:=λ b u q n _=>by rw[bA (zAZ (zAY (zAR q) hp))];exact n
 there:=λ b u q _=>⟨u,k b u q⟩
 tups:=λ b xs q=>by rw[bA (bZ q hn)];exact q
 frzs:=λ b u xs q=>by rw[bA (bZ q hn)];exact q
 tbls:=λ b r q=>by rw[bA (bZ q hn)];exact q
def Un.write(mu:Mut (H x))(he:e=x\/H e=some (.own x))(k:∀b u,b≠e->h.get? b=some u->h'.get? b=some u)(heo:∃u,h'.get? e=some u):Un fs ex H (upd H x o) h h':=by
 have hx:∀b,H b=none->b≠x:=λ b n z=>by subst z;rw[n]at mu;exact mu
 have hb:∀b,H b=none->b≠e:=λ b n z=>by
  subst z;rcases he with r|r
  .exact hx b n r
  .rw[n]at r;cases r
 have hm:∀b u,H b=some u->¬Mut (some u)->b≠x:=λ b u q nm z=>by subst z;rw[q]at mu;exact nm mu
 refine⟨λ b u q n _ _=>k b u (hb b n) q,λ b u q n _ _=>⟨u.slots,k b u (hb b n) q⟩,λ b u q n _=>by rw[bA (hx b n)];exact n,λ b u q _=>?_,
  λ b xs q=>by rw[bA (hm b _ q λ z=>z)];exact q,λ b u xs q=>by rw[bA (hm b _ q λ z=>z)];exact q,λ b r q=>by rw[bA (hm b _ q λ z=>z)];exact q⟩
 by_cases hbe:b=e
 .subst hbe;exact heo
 .exact⟨u,k b u hbe q⟩
end
def trk(h:Heap)(H:Hp):List Addr:=(zAf h.objs.size).filter λ a=>(H a).isSome
def aBY(h:Heap)(H:Hp):Heap:=zDK h (trk h H)
def aGE(h:Heap)(H:Hp):(aBY h H).objs.size=h.objs.size:=PySem.W.hideAll_size _ _
def aHy(e:h.get? b=some o)(n:H b=none):(aBY h H).get? b=some o:=
 zDL _ e λ hm=>by
  have q:(H b).isSome=true:=(zAh.mp hm).2;rw[n]at q;simp at q
def aJs(e:(aBY h H).get? b=some o):h.get? b=some o/\H b=none:=by
 have e':h.get? b=some o:=zG9 (trk h H) e;refine⟨e',?_⟩;cases q:H b with
 |none=>rfl
 |some x=>
  have hm:b∈trk h H:=zAh.mpr ⟨zB9.mpr (zAR e'),by simp[q]⟩;have z:(aBY h H).get? b=none:=PySem.W.hideAll_none (trk h H) hm;rw[z]at e;cases e
def aKn(g h:Heap)(L:Addr):hV:=(zAf h.objs.size).filterMap λ a=>if a=L\/(g.get? a).isSome=true then none else(h.get? a).map λ o=>(a,o)
def rest(g h:Heap)(L d:Addr):hV:=(aKn g h L).filter λ p=>decide (p.1≠d)
structure Mod(K:zAA)(mg:Str->Option Value)(base:Heap):Prop where
 kin:K.In base
 glob:base.Ns zA9 mg
 blt:∃mb,base.Ns zIk mb/\∀x:Str,x≠"__name__"->mb x=zAw x
 nolimit:base.NoLimit
structure Cx where
 prog:zAT
 w:World
 K:zAA
 mg:Str->Option Value
 base:Heap
 A:zAa
 N:List Str
 zI:zAD
 zD:Hp
 env:Env
 outer:List Env
 stack:List Env
 ex:List Addr
 fn:Str->Bool
 calm:Bool
 pn:hV
 xe:Value->zAD->Prop
 ta:hV:=[]
 tq:Str:=""
def frs(l:List Env):List Addr:=l.filterMap (·.frame)
abbrev Cx.fs(X:Cx):List Addr:=frs X.outer
def Vis(sc:Scope)(x:Str):Prop:=sc.names.lookup x=some .local\/sc.names.lookup x=some .cell\/sc.names.lookup x=some .free
def Loc(sc:Scope)(x:Str):Prop:=sc.names.lookup x=some .local\/sc.names.lookup x=some .cell
def Look(env:Env)(h:Heap)(m:Str->Option Value)(x:Str)(u:Value):Prop:=
 (env.kindOf x=some .local/\m x=some u)\/((env.kindOf x=some .cell\/env.kindOf x=some .free)/\∃c,env.cells.lookup x=some c/\h.IsCell c (some u))
structure Cx.Ok(X:Cx):Prop where
 mod:Mod X.K X.mg X.base
 kind:X.env.scope.kind= .function
 glob:X.env.globals=zA9
 blt:X.env.builtins=zIk
 above:X.zI.heap.objs.size<=X.env.locals
 inj:∀x y c,X.env.cells.lookup x=some c->X.env.cells.lookup y=some c->x=y
 has:∀x,(X.env.kindOf x=some .cell\/X.env.kindOf x=some .free)->∃c,X.env.cells.lookup x=some c
 cab:∀x c,X.fn x=true->X.env.cells.lookup x=some c->X.zI.heap.objs.size<=c
 hd:X.calm=true->X.A.handled=none
 frames:X.A.frames=some X.stack
 stk:X.stack=X.outer\/(X.stack=X.env::X.outer/\X.env.frame=some X.env.locals)
 exf:∀b∈X.ex,b≠X.env.locals/\∀x c,X.env.cells.lookup x=some c->c≠b
 bs:∀b o,X.base.get? b=some o->X.zI.heap.get? b=some o/\X.zD b=none
 bsz:X.base.objs.size<=X.zI.heap.objs.size
 noex:∀b o,X.base.get? b=some o->b∉X.ex
 exfs:∀b∈X.ex,b∉X.fs
 funs:X.zI.heap.FunFrames X.base X.outer
 frf:∀b∈X.fs,X.zD b=none
structure Inv(X:Cx)(kK:hV)(Z:List (Option V))(H:Hp)(s:zAD):Prop where
 ok:X.Ok
 os:s.os=X.zI.os
 bare:zEh s.gens
 base:Un X.fs X.ex X.zD H X.zI.heap s.heap
 loc:∃m,s.heap.Ns X.env.locals m/\∀(i:Nat) (x:Str) (v:V),X.N[i]? =some x->Z[i]? =some (some v)->Vis X.env.scope x->∃u,RelV v u/\Look X.env s.heap m x u
 cell:∀x c,X.env.cells.lookup x=some c->∃v,s.heap.IsCell c v
 free:H X.env.locals=none
 freeC:∀x c,X.env.cells.lookup x=some c->H c=none
 pin:∀p∈X.pn++kK,s.heap.get? p.1=some p.2/\H p.1=none/\p.1≠X.env.locals/\p.1∉X.fs/\∀v,p.2.data≠.cell v
 hok:HOk X.prog X.w H s.heap
 len:Z.length=X.N.length
 tab:∀p∈X.ta,H p.1=none/\p.1≠X.env.locals/\p.1∉X.fs/\(∀q∈X.pn++kK,q.1≠p.1)/\∃ps,s.heap.get? p.1=some {cls:=.none,data:=.fields ps}/\TabOk X.tq H ps
section
variable{X:Cx}{kK:hV}{Z:List (Option V)}{H H':Hp}{s:zAD}{h':Heap}
def Cx.Ok.nofr(ok:X.Ok)(e:X.base.get? b=some o):b∉X.fs:=λ hb=>by
 have:=(ok.funs.mem hb).1
 rw[e]at this;cases this
theorem Inv.bs(I:Inv X kK Z H s):∀b o,X.base.get? b=some o->s.heap.get? b=some o/\H b=none:=λ b o e=>
 ⟨I.base.keep b o (I.ok.bs b o e).1 (I.ok.bs b o e).2 (I.ok.nofr e) (I.ok.noex b o e),I.base.free b o (I.ok.bs b o e).1 (I.ok.bs b o e).2 (I.ok.noex b o e)⟩
def Inv.bk(I:Inv X kK Z H s):∀b o,X.base.get? b=some o->s.heap.get? b=some o:=λ b o e=>(I.bs b o e).1
theorem Inv.mod(I:Inv X kK Z H s):Mod X.K X.mg X.base:=I.ok.mod
def Inv.kIn(I:Inv X kK Z H s):X.K.In s.heap:=I.ok.mod.kin.keeps I.bk
def Inv.fr(I:Inv X kK Z H s):∃m,Fr X.base X.env.locals s.heap m:=
 let⟨m,hn,_⟩:=I.loc
 ⟨m,hn,I.bk,zA6 I.ok.bsz I.ok.above⟩
theorem Inv.lt(I:Inv X kK Z H s):X.env.locals<s.heap.objs.size:=let⟨_,hn,_⟩:=I.loc;hn.lt
def Inv.sz(I:Inv X kK Z H s):X.zI.heap.objs.size<=s.heap.objs.size:=zA6 I.ok.above (zBu I.lt)
def Inv.nofs(I:Inv X kK Z H s)(h:s.heap.objs.size<=a):a∉X.fs:=λ hb=>by
 obtain⟨_,o,ho,_⟩:=I.ok.funs.mem hb;exact absurd (zAY (zAR ho) (zA6 I.sz h)) (zBQ _)
def Inv.cne(I:Inv X kK Z H s):∀x c,X.env.cells.lookup x=some c->c≠X.env.locals:=λ x c e z=>by
 obtain⟨v,o,ho,hd⟩:=I.cell x c e;obtain⟨m,⟨o',es,ep,ho',hd',_⟩,_⟩:=I.loc;rw[z,ho']at ho;cases ho;rw[hd']at hd;cases hd
theorem Inv.funs(I:Inv X kK Z H s):s.heap.FunFrames X.base X.outer:=by
 have all:∀(l:List Env),(∀b∈frs l,b∈X.fs)->X.zI.heap.FunFrames X.base l->s.heap.FunFrames X.base l:=by
  intro l;induction l with
  |nil=>intro _ _;trivial
  |cons env r ih=>
   intro hs hl;obtain⟨hk,⟨L,o,hf,hn,ho,hd⟩,hr⟩:=hl;have hL:L∈X.fs:=hs L (by unfold frs;rw[zBR,hf];exact zAH);obtain⟨sl,e⟩:=I.base.slot L o ho (I.ok.frf L hL) hL λ z=>I.ok.exfs L z hL
   exact⟨hk,⟨L,_,hf,hn,e,hd⟩,ih (λ b hb=>hs b (by unfold frs;rw[zBR,hf];exact zAI _ hb)) hr⟩
 exact all X.outer (λ _ hb=>hb) I.ok.funs
theorem Inv.stack(I:Inv X kK Z H s):s.heap.FunFrames X.base X.stack:=by
 rcases I.ok.stk with e|⟨e,hf⟩
 .rw[e];exact I.funs
 .rw[e]
  obtain⟨m,hn,_⟩:=I.loc;refine .cons (by rw[I.ok.kind];decide) hf hn ?_ I.funs;exact Heap.get?_none_of_le (zA6 I.ok.bsz I.ok.above)
def Inv.stkSub(I:Inv X kK Z H s):∀b∈frs X.stack,b∈X.env.locals::X.fs:=λ b hb=>by
 rcases I.ok.stk with e|⟨e,hf⟩
 .rw[e]at hb;exact zAI _ hb
 .rw[e]at hb
  unfold frs at hb;rw[zBR,hf]at hb;exact hb
def Inv.stkFree(I:Inv X kK Z H s):∀b∈frs X.stack,H b=none:=λ b hb=>by
 rcases zAQ.mp (I.stkSub b hb)with e|hb
 .rw[e];exact I.free
 .obtain⟨_,o,ho,_⟩:=I.ok.funs.mem hb
  exact I.base.free b o ho (I.ok.frf b hb) λ z=>I.ok.exfs b z hb
def Inv.step{g':Array zCg}{t':Nat}{d':Drawn}{ch:List Addr}(I:Inv X kK Z H s)
  (hch:∀b∈ch,(b∈X.ex\/X.zI.heap.objs.size<=b)/\b≠X.env.locals/\(∀x c,X.env.cells.lookup x=some c->c≠b)/\∀p∈X.ta++(X.pn++kK),p.1≠b)
  (keep:∀b o,b≠X.env.locals->b∉X.fs->b∉ch->s.heap.get? b=some o->H b=none->h'.get? b=some o)
  (slot:∀b o,b≠X.env.locals->b∈X.fs->b∉ch->s.heap.get? b=some o->H b=none->∃sl,h'.get? b=some {o with slots:=sl})(free:∀b o,b∉ch->s.heap.get? b=some o->H b=none->H' b=none)
  (there:∀b o,b∉ch->s.heap.get? b=some o->∃o',h'.get? b=some o')
  (tups:∀b xs,H b=some (.tup xs)->H' b=some (.tup xs))(frzs:∀b o u,H b=some (.frz o u)->H' b=some (.frz o u))(tbls:∀b q,H b=some (.tbl q)->H' b=some (.tbl q))
  (ns:∀m,s.heap.Ns X.env.locals m->h'.Ns X.env.locals m)(hok:HOk X.prog X.w H' h')(hg:zEh g'):
  Inv X kK Z H' {s with heap:=h',gens:=g',drawn:=d',toks:=t'}:=by
 have neL:∀b o,X.zI.heap.get? b=some o->b≠X.env.locals:=λ b o e=>zAZ (zAY (zAR e) I.ok.above)
 have neC:∀b o,X.zI.heap.get? b=some o->b∉X.ex->b∉ch:=λ b o e hx hb=>by
  rcases(hch b hb).1 with z|z
  .exact hx z
  .exact absurd (zAY (zAR e) z) (zBQ _)
 have dE:∀x c,X.env.cells.lookup x=some c->∀v,s.heap.IsCell c v->h'.IsCell c v:=λ x c e v ⟨o,ho,hd⟩=>by
  have nch:c∉ch:=λ z=>(hch c z).2.2.1 x c e rfl
  by_cases hc:c∈X.fs
  .obtain⟨sl,q⟩:=slot c o (I.cne x c e) hc nch ho (I.freeC x c e)
   exact⟨_,q,hd⟩
  .exact⟨o,keep c o (I.cne x c e) hc nch ho (I.freeC x c e),hd⟩
 refine⟨I.ok,I.os,hg,⟨λ b o e n hb hx=>?_,λ b o e n hb hx=>?_,λ b o e n hx=>?_,λ b o e hx=>?_,λ b xs e=>tups b xs (I.base.tups b xs e),λ b o xs e=>frzs b o xs (I.base.frzs b o xs e),λ b q e=>tbls b q (I.base.tbls b q e)⟩,?_,λ x c e=>?_,?_,λ x c e=>?_,λ p hp=>?_,hok,I.len,λ p hp=>?_⟩
 .exact keep b o (neL b o e) hb (neC b o e hx) (I.base.keep b o e n hb hx) (I.base.free b o e n hx)
 .obtain⟨sl,e1⟩:=I.base.slot b o e n hb hx
  obtain⟨sl',e2⟩:=slot b _ (neL b o e) hb (neC b o e hx) e1 (I.base.free b o e n hx);exact⟨sl',e2⟩
 .obtain⟨o',e1⟩:=I.base.there b o e hx
  exact free b o' (neC b o e hx) e1 (I.base.free b o e n hx)
 .obtain⟨o',e1⟩:=I.base.there b o e hx
  exact there b o' (neC b o e hx) e1
 .obtain⟨m,hn,hl⟩:=I.loc
  refine⟨m,ns m hn,λ i x v e1 e2 e3=>?_⟩;obtain⟨u,r,l⟩:=hl i x v e1 e2 e3;refine⟨u,r,?_⟩;rcases l with l|⟨k,c,e,z⟩
  .exact .inl l
  .exact .inr ⟨k,c,e,dE x c e _ z⟩
 .obtain⟨v,z⟩:=I.cell x c e
  exact⟨v,dE x c e v z⟩
 .obtain⟨m,⟨o,_,_,ho,_⟩,_⟩:=I.loc
  exact free _ o (λ z=>(hch _ z).2.1 rfl) ho I.free
 .obtain⟨v,o,ho,hd⟩:=I.cell x c e
  exact free c o (λ z=>(hch c z).2.2.1 x c e rfl) ho (I.freeC x c e)
 .obtain⟨e,n,ne,nf,d⟩:=I.pin p hp
  have nch:p.1∉ch:=λ z=>(hch p.1 z).2.2.2 p (zA8 _ hp) rfl
  exact⟨keep p.1 p.2 ne nf nch e n,free p.1 p.2 nch e n,ne,nf,d⟩
 .obtain⟨n,ne,nf,np,ps,e,t⟩:=I.tab p hp
  have nch:p.1∉ch:=λ z=>(hch p.1 z).2.2.2 p (zAc _ hp) rfl
  exact⟨free p.1 _ nch e n,ne,nf,np,ps,keep p.1 _ ne nf nch e n,t.mono frzs⟩
def Inv.pinL(I:Inv X kK Z H s)(hp:p∈X.ta++(X.pn++kK)):p.1<s.heap.objs.size:=by
 rcases zA5.mp hp with z|z
 .obtain⟨_,_,_,_,_,e,_⟩:=I.tab p z
  exact zAR e
 .exact zAR (I.pin p z).1
def Inv.un{t':Nat}(I:Inv X kK Z H s)(u:Un X.fs [] H H' s.heap h')(hok:HOk X.prog X.w H' h'):Inv X kK Z H' {s with heap:=h',toks:=t'}:=by
 obtain⟨m,⟨o,es,ep,ho,r⟩,_⟩:=id I.loc;obtain⟨sl,hL⟩:=u.any ho I.free (by simp);exact I.step (g':=s.gens) (d':=s.drawn) (ch:=[]) (λ _ z=>nomatch z) (λ b o _ hb _ e n=>u.keep b o e n hb (by simp)) (λ b o _ hb _ e n=>u.slot b o e n hb (by simp)) (λ b o _ e n=>u.free b o e n (by simp)) (λ b o _ e=>u.there b o e (by simp)) u.tups u.frzs u.tbls (λ m' hm=>by
  obtain⟨o',es',ep',ho',r'⟩:=hm;rw[ho]at ho';cases ho';exact⟨_,es',ep',hL,r'⟩) hok I.bare
def Inv.call{g':Array zCg}{t':Nat}{d':Drawn}{ch:List Addr}(I:Inv X kK Z H s)(u:Un (frs X.stack) ch H H' s.heap h')(hok:HOk X.prog X.w H' h')(hg:zEh g')
  (hch:∀b∈ch,(b∈X.ex\/X.zI.heap.objs.size<=b)/\b≠X.env.locals/\(∀x c,X.env.cells.lookup x=some c->c≠b)/\∀p∈X.ta++(X.pn++kK),p.1≠b):
  Inv X kK Z H' {s with heap:=h',gens:=g',drawn:=d',toks:=t'}:=by
 obtain⟨m,⟨o,es,ep,ho,r⟩,_⟩:=id I.loc;obtain⟨sl,hL⟩:=u.any ho I.free λ z=>(hch _ z).2.1 rfl
 exact I.step (ch:=ch) hch (λ b o hL hb hc e n=>u.keep b o e n (λ z=>(zAQ.mp (I.stkSub b z)).elim hL hb) hc) (λ b o _ _ hc e n=>u.any e n hc) (λ b o hc e n=>u.free b o e n hc) (λ b o hc e=>u.there b o e hc) u.tups u.frzs u.tbls (λ m' hm=>by
  obtain⟨o',es',ep',ho',r'⟩:=hm;rw[ho]at ho';cases ho';exact⟨_,es',ep',hL,r'⟩) hok hg
def Inv.turned{t':Nat}{it:Addr}(I:Inv X kK Z H s)(k:∀b o,b≠it->s.heap.get? b=some o->h'.get? b=some o)(hn:H it=none)(hL:it≠X.env.locals)
  (h1:it∈X.ex\/X.zI.heap.objs.size<=it)(h2:∀x c,X.env.cells.lookup x=some c->c≠it)(h3:∀p∈X.ta++(X.pn++kK),p.1≠it):Inv X kK Z H {s with heap:=h',toks:=t'}:=by
 have nit:∀b u,H b=some u->b≠it:=λ b u e z=>by rw[z,hn]at e;cases e
 refine I.step (g':=s.gens) (d':=s.drawn) (ch:=[it]) (λ b hb=>?_) (λ b o _ _ hc e _=>k b o (λ z=>hc (by simp[z])) e) (λ b o _ _ hc e _=>⟨o.slots,k b o (λ z=>hc (by simp[z])) e⟩) (λ _ _ _ _ n=>n)
  (λ b o hc e=>⟨o,k b o (λ z=>hc (by simp[z])) e⟩) (λ _ _ e=>e) (λ _ _ _ e=>e) (λ _ _ e=>e) (λ m hm=>?_) (λ b u e=>?_) I.bare
 .have e:b=it:=by simpa using hb
  subst e;exact⟨h1,hL,h2,h3⟩
 .obtain⟨o,es,ep,ho,r⟩:=hm
  exact⟨o,es,ep,k _ o (zDR hL) ho,r⟩
 .refine(I.hok b u e).stay (λ c v hc q=>k c v ?_ q) (λ _ q=>q) λ _ _ q=>q
  rcases hc with z|z
  .rw[z];exact nit b u e
  .exact nit c _ z
def Inv.tok(I:Inv X kK Z H s)(t:Nat):Inv X kK Z H {s with toks:=t}:=I.un (h':=s.heap) (t':=t) Un.refl I.hok
theorem Inv.kept(I:Inv X kK Z H s)(k:∀b u,s.heap.get? b=some u->h'.get? b=some u):Inv X kK Z H {s with heap:=h',toks:=t'}:=I.un (Un.kept k) (I.hok.kept k)
theorem Inv.laid(I:Inv X kK Z H s)(k:∀b u,s.heap.get? b=some u->h'.get? b=some u)(hp:s.heap.objs.size<=a)(new:cO X.prog X.w (upd H a o) h' a o):
  Inv X kK Z (upd H a o) {s with heap:=h',toks:=t'}:=I.un (Un.laid k hp (I.hok.fresh hp)) (I.hok.laid k hp new)
theorem Inv.write(I:Inv X kK Z H s)(mu:Mut (H x))(he:e=x\/H e=some (.own x))(k:∀b u,b≠e->s.heap.get? b=some u->h'.get? b=some u)(heo:∃u,h'.get? e=some u)
  (new:cO X.prog X.w (upd H x o) h' x o):Inv X kK Z (upd H x o) {s with heap:=h',toks:=t'}:=I.un (Un.write mu he k heo) (I.hok.write mu he k heo new)
def Inv.weak(I:Inv X kK Z H s)(hl:Z'.length=Z.length)(w:∀(i:Nat) v,Z'[i]? =some (some v)->Z[i]? =some (some v)):Inv X kK Z' H s:=
 ⟨I.ok,I.os,I.bare,I.base,let⟨m,hn,hl'⟩:=I.loc;⟨m,hn,λ i x v e1 e2 e3=>hl' i x v e1 (w i v e2) e3⟩,I.cell,I.free,I.freeC,I.pin,I.hok,hl.trans I.len,I.tab⟩
def Inv.pins_of(I:Inv X kK Z H s)(h:∀p∈pins',s.heap.get? p.1=some p.2/\H p.1=none/\p.1≠X.env.locals/\p.1∉X.fs/\∀v,p.2.data≠.cell v)(h2:∀q∈pins',∀p∈X.ta,q.1≠p.1):Inv X pins' Z H s:=
 ⟨I.ok,I.os,I.bare,I.base,I.loc,I.cell,I.free,I.freeC,λ p hp=>(zA5.mp hp).elim (λ z=>I.pin p (zAc _ z)) (h p),I.hok,I.len,λ p hp=>let⟨a,b,c,d,e⟩:=I.tab p hp;⟨a,b,c,λ q hq=>(zA5.mp hq).elim (λ z=>d q (zAc _ z)) (λ z=>h2 q z p hp),e⟩⟩
def aCV{N:List Str}(hN:N.Nodup){i j:Nat}{x:Str}(a:N[i]? =some x)(b:N[j]? =some x):i=j:=by
 obtain⟨h1,e1⟩:=zAO.mp a;obtain⟨h2,e2⟩:=zAO.mp b;exact(List.getElem_inj hN).mp (e1.trans e2.symm)
def aAL{M:Model}{A:zAa}{E:Value->zAD->Prop}{i:Nat}{x:Str}{v:V}{u:Value}{Q:Unit->zAD->Prop}(I:Inv X kK Z H s)(hN:X.N.Nodup)(hi:X.N[i]? =some x)(hx:Loc X.env.scope x)(r:RelV v u)
  (h:∀s',Inv X kK (Z.set i (some v)) H s'->(∃a,zCy a s.heap s'.heap/\(a=X.env.locals\/X.env.cells.lookup x=some a))->Q () s')(hf:X.fn x=true\/X.env.scope.names.lookup x=some .local:=by first|exact .inl rfl|exact .inr rfl|assumption):wpAny M A (storeName X.env x u) Q E s:=by
 obtain⟨m,hn,hl⟩:=id I.loc;have hcls:(X.env.scope.kind== .class||(X.env.scope.kind== .module&&X.env.locals !=X.env.globals))=false:=by rw[I.ok.kind];rfl
 have hiZ:i<Z.length:=by rw[I.len];exact(zAO.mp hi).1
 have cne:=I.cne;have bP:∀{a:Addr} {h':Heap},(∃o,s.heap.get? a=some o/\H a=none)->zCy a s.heap h'->HOk X.prog X.w H h':=λ{a h'} ha hs b ob e=>by
  obtain⟨_,_,hfree⟩:=ha;refine(I.hok b ob e).stay (λ c w' hc q=>(hs.2 c ?_).trans q) (λ _ q=>q) λ _ _ q=>q
  rintro rfl;rcases hc with rfl|hc
  .rw[hfree]at e;cases e
  .rw[hfree]at hc;cases hc
 rcases hx with hk|hk
 .refine wpAny_storeName_local hk hn (λ h' hn' hs=>?_) hcls
  obtain⟨oL,_,_,hoL,_⟩:=id hn;refine h _ ⟨I.ok,I.os,I.bare,⟨λ b o e n hb hx=>?_,λ b o e n hb hx=>?_,I.base.free,λ b o e hx=>?_,I.base.tups,I.base.frzs,I.base.tbls⟩,⟨_,hn',λ j y v' e1 e2 e3=>?_⟩,λ y c e=>?_,I.free,I.freeC,λ p hp=>?_,bP ⟨oL,hoL,I.free⟩ hs,by simpa using I.len,λ p hp=>?_⟩ ⟨_,hs,.inl rfl⟩
  .exact(hs.2 b (zAZ (zAY (zAR e) I.ok.above))).trans (I.base.keep b o e n hb hx)
  .obtain⟨sl,e1⟩:=I.base.slot b o e n hb hx
   exact⟨sl,(hs.2 b (zAZ (zAY (zAR e) I.ok.above))).trans e1⟩
  .obtain⟨o',e1⟩:=I.base.there b o e hx
   exact⟨o',(hs.2 b (zAZ (zAY (zAR e) I.ok.above))).trans e1⟩
  .by_cases hj:j=i
   .subst hj
    rw[hi]at e1;cases e1;rw[zCG hiZ]at e2;cases e2;exact⟨u,r,.inl ⟨hk,by simp⟩⟩
   .rw[zBx (zDR hj)]at e2
    obtain⟨u',r',q⟩:=hl j y v' e1 e2 e3;refine⟨u',r',?_⟩;rcases q with ⟨k,e⟩|⟨k,c,e,z⟩
    .refine .inl ⟨k,?_⟩
     have:y≠x:=λ e=>hj (aCV hN e1 (e▸hi))
     simp[this,e]
    .exact .inr ⟨k,c,e,z.sameBut hs (cne y c e)⟩
  .obtain⟨w',z⟩:=I.cell y c e
   exact⟨w',z.sameBut hs (cne y c e)⟩
  .obtain⟨e,n,ne,nf,d⟩:=I.pin p hp
   exact⟨(hs.2 p.1 ne).trans e,n,ne,nf,d⟩
  .obtain⟨n,ne,nf,np,ps,e,t⟩:=I.tab p hp
   exact⟨n,ne,nf,np,ps,(hs.2 p.1 ne).trans e,t⟩
 .have hfn:X.fn x=true:=by
   rcases hf with z|z
   .exact z
   .rw[z]at hk;cases hk
  obtain⟨c,hc⟩:=I.ok.has x (.inl hk);obtain⟨w',z⟩:=I.cell x c hc;refine wpAny_storeName_cell I.ok.kind hk hc z (λ h' hc' hs=>?_);obtain⟨oc,hoc,hocd⟩:=id z;refine h {s with heap:=h'} ⟨I.ok,I.os,I.bare,⟨λ b o e n hb hx=>?_,λ b o e n hb hx=>?_,I.base.free,λ b o e hx=>?_,I.base.tups,I.base.frzs,I.base.tbls⟩,⟨m,hn.sameBut hs (zDR (cne x c hc)),λ j y v' e1 e2 e3=>?_⟩,λ y c' e=>?_,I.free,I.freeC,λ p hp=>?_,bP ⟨oc,hoc,I.freeC x c hc⟩ hs,by simpa using I.len,λ p hp=>?_⟩ ⟨c,hs,.inr hc⟩
  .exact(hs.2 b (zAZ (zAY (zAR e) (I.ok.cab x c hfn hc)))).trans (I.base.keep b o e n hb hx)
  .obtain⟨sl,e1⟩:=I.base.slot b o e n hb hx
   exact⟨sl,(hs.2 b (zAZ (zAY (zAR e) (I.ok.cab x c hfn hc)))).trans e1⟩
  .obtain⟨o',e1⟩:=I.base.there b o e hx
   exact⟨o',(hs.2 b (zAZ (zAY (zAR e) (I.ok.cab x c hfn hc)))).trans e1⟩
  .by_cases hj:j=i
   .subst hj
    rw[hi]at e1;cases e1;rw[zCG hiZ]at e2;cases e2;exact⟨u,r,.inr ⟨.inl hk,c,hc,hc'⟩⟩
   .rw[zBx (zDR hj)]at e2
    obtain⟨u',r',q⟩:=hl j y v' e1 e2 e3;refine⟨u',r',?_⟩;rcases q with q|⟨k,c',e,z'⟩
    .exact .inl q
    .refine .inr ⟨k,c',e,z'.sameBut hs ?_⟩
     rintro rfl;exact hj (aCV hN e1 (I.ok.inj _ _ _ e hc▸hi))
  .by_cases hcc:c'=c
   .subst hcc;exact⟨_,hc'⟩
   .obtain⟨w2,z2⟩:=I.cell y c' e
    exact⟨w2,z2.sameBut hs hcc⟩
  .obtain⟨e,n,ne,nf,d⟩:=I.pin p hp
   refine⟨(hs.2 p.1 ?_).trans e,n,ne,nf,d⟩;intro q;rw[q,hoc]at e;have q':oc=p.2:=zAq e;exact d w' (by rw[<-q'];exact hocd)
  .obtain⟨n,ne,nf,np,ps,e,t⟩:=I.tab p hp
   refine⟨n,ne,nf,np,ps,(hs.2 p.1 ?_).trans e,t⟩;intro q;rw[q,hoc]at e;rw[zAq e]at hocd;cases hocd
def aBp(I:Inv X kK Z H s)(hN:X.N.Nodup)(hi:X.N[i]? =some x)(hx:Loc X.env.scope x)(r:RelV v u)
  (h:∀s',Inv X kK (Z.set i (some v)) H s'->Q () s')(hf:X.fn x=true\/X.env.scope.names.lookup x=some .local:=by first|exact .inl rfl|exact .inr rfl|assumption):wpAny M A (storeName X.env x u) Q E s:=
 aAL I hN hi hx r (λ s' I' _=>h s' I') hf
def Inv.call'(I:Inv X kK Z H s)(ho:s'.os=s.os)(u:Un (frs X.stack) ch H H' s.heap s'.heap)(hok:HOk X.prog X.w H' s'.heap)(hg:zEh s'.gens)
  (hch:∀b∈ch,(b∈X.ex\/X.zI.heap.objs.size<=b)/\b≠X.env.locals/\(∀x c,X.env.cells.lookup x=some c->c≠b)/\∀p∈X.ta++(X.pn++kK),p.1≠b):Inv X kK Z H' s':=by
 obtain⟨h',g',d',t',o'⟩:=s';have e:o'=s.os:=ho;subst e;exact I.call (g':=g') (t':=t') (d':=d') u hok hg hch
end
abbrev XK:=Value->Option Addr->Hp->Prop
abbrev St:=List (Option V)
abbrev VK:=V->Hp->Prop
abbrev TE:=St->Hp->VK->Prop
abbrev TT:=St->Hp->(Bool->Hp->Prop)->Prop
abbrev TA:=St->Hp->(List V->Hp->Prop)->Prop
structure Ends where
 nx:St->Hp->Prop
 rt:VK
 bk:St->Hp->Prop:=λ _ _=>False
 ct:St->Hp->Prop:=λ _ _=>False
abbrev TS:=Ends->St->Hp->Prop
def EP(X:Cx)(kK:hV)(Z:St)(Q:VK)(u:Value)(s':zAD):Prop:=∃v H',Inv X kK Z H' s'/\RelV v u/\Q v H'
def TP(X:Cx)(kK:hV)(Z:St)(Q:Bool->Hp->Prop)(b:Bool)(s':zAD):Prop:=∃H',Inv X kK Z H' s'/\Q b H'
def AP(X:Cx)(kK:hV)(Z:St)(Q:List V->Hp->Prop)(us:List Value)(s':zAD):Prop:=∃vs H',Inv X kK Z H' s'/\Vals vs us/\Q vs H'
def SP(X:Cx)(kK:hV)(D:Ends)(f:Flow)(s':zAD):Prop:=
 match f with
 | .next=>∃Z' H',Inv X kK Z' H' s'/\D.nx Z' H'
 | .brk=>∃Z' H',Inv X kK Z' H' s'/\D.bk Z' H'
 | .cont=>∃Z' H',Inv X kK Z' H' s'/\D.ct Z' H'
 | .ret u=>∃v Z' H',Inv X kK Z' H' s'/\RelV v u/\D.rt v H'
def PE(X:Cx)(e:Expr)(t:TE):Prop:=
 ∀(kK:hV) (s:zAD) (Z:St) (H:Hp) (Q:VK),Inv X kK Z H s->t Z H Q->wpAny (model X.prog X.w) X.A (eval e X.env) (EP X kK Z Q) X.xe s
def PT(X:Cx)(e:Expr)(t:TT):Prop:=
 ∀(kK:hV) (s:zAD) (Z:St) (H:Hp) (Q:Bool->Hp->Prop),Inv X kK Z H s->t Z H Q->wpAny (model X.prog X.w) X.A (isTrue e X.env (eval e X.env)) (TP X kK Z Q) X.xe s
def PW(X:Cx)(e:Expr)(t:TT):Prop:=
 ∀(whole:Sem Value) (kK:hV) (s:zAD) (Z:St) (H:Hp) (Q:Bool->Hp->Prop),Inv X kK Z H s->t Z H Q->wpAny (model X.prog X.w) X.A (isTrue e X.env whole) (TP X kK Z Q) X.xe s
def PW.pt(h:PW X e t):PT X e t:=h _
def PA(X:Cx)(es:List Expr)(t:TA):Prop:=
 ∀(pos:Pos) (kK:hV) (s:zAD) (Z:St) (H:Hp) (Q:List V->Hp->Prop),Inv X kK Z H s->t Z H Q->wpAny (model X.prog X.w) X.A (spliced (zCB pos (zAV es X.env))) (AP X kK Z Q) X.xe s
def PS(X:Cx)(st:Stmt)(t:TS):Prop:=
 ∀(kK:hV) (s:zAD) (Z:St) (H:Hp) (D:Ends),Inv X kK Z H s->t D Z H->wpAny (model X.prog X.w) X.A (exec st X.env) (SP X kK D) X.xe s
def PSs(X:Cx)(st:List Stmt)(t:TS):Prop:=
 ∀(kK:hV) (s:zAD) (Z:St) (H:Hp) (D:Ends),Inv X kK Z H s->t D Z H->wpAny (model X.prog X.w) X.A (execs st X.env) (SP X kK D) X.xe s
def thn(h:wpAny M A t Q E s)(hQ:∀a s,Q a s->Q' a s):wpAny M A t Q' E s:=zBN h hQ λ _ _ x=>x
section
variable{X:Cx}
def aBn(i:Nat):TE:=λ Z H Q=>∃v,Z[i]? =some (some v)/\Q v H
def tC(v:V):TE:=λ _ H Q=>Q v H
abbrev _root_.Nd(x:PySem.Str):Prop:=(x==("__debug__":PySem.Str))=false
def rG(hN:X.N[i]? =some x)(hv:Vis X.env.scope x)(hd:Nd x:=by decide)(hcd:(x==("__classdict__":Str))=false:=by decide):PE X (.Name x pos) (aBn i):=by
 intro kK s Z H Q I h;obtain⟨v,e,h⟩:=h;obtain⟨m,hn,hl⟩:=I.loc;obtain⟨u,r,l⟩:=hl i x v hN e hv;have fin:EP X kK Z Q u s:=⟨v,H,I,r,h⟩;rcases l with ⟨hk,hm⟩|⟨hk,c,hc,hcell⟩
 .exact zIq (wpAny_loadName_local I.ok.kind hk hn hm fin) hd
 .rcases hk with hk|hk
  .exact zIq (wpAny_loadName_cell I.ok.kind hk hc hcell fin) hd
  .exact zIq (wpAny_loadName_free I.ok.kind hk hc hcell fin hcd) hd
def aMO{i j pos}:PE X (.Constant (.int i) j pos) (tC (.int i)):=λ _ _ _ H _ I h=>wpAny_Constant_int ⟨.int i,H,I.tok _,⟨_,rfl⟩,h⟩
def aOE{b j pos}:PE X (.Constant (.bool b) j pos) (tC (.bl b)):=λ _ _ _ H _ I h=>Constant_bool ⟨.bl b,H,I,rfl,h⟩
def aMK{x j pos}:PE X (.Constant (.str x) j pos) (tC (.str x)):=λ _ _ _ H _ I h=>zD4 ⟨.str x,H,I.tok _,⟨_,rfl⟩,h⟩
def Gl(X:Cx)(x:Str):Prop:=X.env.kindOf x=some .globalImplicit
def aBT(I:Inv X kK Z H s)(hg:Gl X x)(hm:X.mg x=some u)(h:Q u s)
  (hd:Nd x:=by decide):wpAny (model X.prog X.w) X.A (eval (.Name x pos) X.env) Q E s:=
 zFZ I.ok.kind hg (Calls.loadGlobal_global (by rw[I.ok.glob];exact I.mod.glob.keeps I.bk) hm h) hd
def um(I:Inv X kK Z H s)(hg:Gl X x)(hm:X.mg x=none)(hv:zAw x=some u)(h:Q u s)
  (hn:x≠"__name__":=by decide)(hd:Nd x:=by decide):wpAny (model X.prog X.w) X.A (eval (.Name x pos) X.env) Q E s:=by
 obtain⟨mb,h1,h2⟩:=I.mod.blt;exact zFZ I.ok.kind hg (Calls.loadGlobal_builtin (by rw[I.ok.glob];exact I.mod.glob.keeps I.bk) hm (by rw[I.ok.blt];exact h1.keeps I.bk) ((h2 x hn).trans hv) h) hd
def aJ9(hg:Gl X x)(hm:X.mg x=some u)(r:RelV v u)(hd:Nd x:=by decide):PE X (.Name x pos) (tC v):=
 λ _ _ _ H _ I h=>aBT I hg hm ⟨v,H,I,r,h⟩ hd
def aJd(hg:Gl X x)(hm:X.mg x=none)(hv:zAw x=some u)(r:RelV v u)(hn:x≠"__name__":=by decide)(hd:Nd x:=by decide):PE X (.Name x pos) (tC v):=
 λ _ _ _ H _ I h=>um I hg hm hv ⟨v,H,I,r,h⟩ hn hd
variable{a b:Expr}{ta tb:TE}{pos:Pos}
def tB(t:TE):TT:=λ Z H Q=>t Z H λ x H1=>∃c,x= .bl c/\Q c H1
variable{tA tB':TT}{rest:List Expr}
def aOq(t u:TT):TT:=λ Z H Q=>t Z H λ c H1=>if c=true then u Z H1 Q else Q false H1
def tOr(t u:TT):TT:=λ Z H Q=>t Z H λ c H1=>if c=true then Q true H1 else u Z H1 Q
def aOm(t:TT):TT:=λ Z H Q=>t Z H λ c H1=>Q (!c) H1
def aJW(ha:PT X a tA):PW X (.BoolOp .And [a] pos) tA:=by
 intro wh kK s Z H Q I h;refine isTrue_and (thn (ha kK s Z H Q I h) λ c s1 e=>?_);cases c with
 |true=>exact isTrue_and_nil e
 |false=>exact e
def aLu(ha:PT X a tA):PW X (.BoolOp .Or [a] pos) tA:=by
 intro wh kK s Z H Q I h;refine zHw (thn (ha kK s Z H Q I h) λ c s1 e=>?_);cases c with
 |false=>exact isTrue_or_nil e
 |true=>exact e
def aLv(ha:PT X a tA)(hb:PW X (.BoolOp .And (b::rest) pos) tB'):PW X (.BoolOp .And (a::b::rest) pos) (aOq tA tB'):=by
 intro wh kK s Z H Q I h;refine isTrue_and (thn (ha kK s Z H _ I h) λ c s1 ⟨H1,I1,q1⟩=>?_);cases c with
 |true=>exact hb wh kK s1 Z H1 Q I1 q1
 |false=>exact⟨H1,I1,q1⟩
def aNw(ha:PT X a tA)(hb:PW X (.BoolOp .Or (b::rest) pos) tB'):PW X (.BoolOp .Or (a::b::rest) pos) (tOr tA tB'):=by
 intro wh kK s Z H Q I h;refine zHw (thn (ha kK s Z H _ I h) λ c s1 ⟨H1,I1,q1⟩=>?_);cases c with
 |true=>exact⟨H1,I1,q1⟩
 |false=>exact hb wh kK s1 Z H1 Q I1 q1
def aLz(ha:PT X a tA):PT X (.UnaryOp .Not a pos) (aOm tA):=by
 intro kK s Z H Q I h;exact isTrue_not (ha kK s Z H (λ c H1=>Q (!c) H1) I h)
def aNd(ta tb:TE):TE:=λ Z H Q=>ta Z H λ x H1=>∃c,x= .bl c/\if c=true then tb Z H1 Q else Q (.bl false) H1
def aOl(ta tb:TE):TE:=λ Z H Q=>ta Z H λ x H1=>∃c,x= .bl c/\if c=true then Q (.bl true) H1 else tb Z H1 Q
def aN7(ta:TE):TE:=λ Z H Q=>ta Z H λ x H1=>∃c,x= .bl c/\Q (.bl (!c)) H1
def aML{op}(h:PE X a t):PE X (.BoolOp op [a] pos) t:=λ kK s Z H Q I hw=>BoolOp_one (h kK s Z H Q I hw)
def aMR(ha:PE X a ta)(hb:PE X (.BoolOp .And (b::rest) pos) tb):PE X (.BoolOp .And (a::b::rest) pos) (aNd ta tb):=by
 intro kK s Z H Q I h;refine BoolOp_and (thn (ha kK s Z H _ I h) λ v s1 ⟨x,H1,I1,r1,q1⟩=>?_);obtain⟨c,rfl,q1⟩:=q1;cases r1;refine zBm ?_;cases c with
 |true=>exact hb kK s1 Z H1 Q I1 q1
 |false=>exact⟨.bl false,H1,I1,rfl,q1⟩
def aNz(ha:PE X a ta)(hb:PE X (.BoolOp .Or (b::rest) pos) tb):PE X (.BoolOp .Or (a::b::rest) pos) (aOl ta tb):=by
 intro kK s Z H Q I h;refine BoolOp_or (thn (ha kK s Z H _ I h) λ v s1 ⟨x,H1,I1,r1,q1⟩=>?_);obtain⟨c,rfl,q1⟩:=q1;cases r1;refine zBm ?_;cases c with
 |false=>exact hb kK s1 Z H1 Q I1 q1
 |true=>exact⟨.bl true,H1,I1,rfl,q1⟩
def aMM(ha:PE X a ta):PE X (.UnaryOp .Not a pos) (aN7 ta):=by
 intro kK s Z H Q I h;refine UnaryOp_ (thn (ha kK s Z H _ I h) λ v s1 ⟨x,H1,I1,r1,q1⟩=>?_);obtain⟨c,rfl,q1⟩:=q1;cases r1;exact not_of (zBm ⟨.bl (!c),H1,I1,rfl,q1⟩)
def tIf(t:TT)(ta tb:TE):TE:=λ Z H Q=>t Z H λ c H1=>if c=true then ta Z H1 Q else tb Z H1 Q
def aHS(hc:PT X c tA)(ha:PE X a ta)(hb:PE X b tb):PE X (.IfExp c a b pos) (tIf tA ta tb):=by
 intro kK s Z H Q I h;refine wpAny_IfExp (thn (hc kK s Z H _ I h) λ d s1 ⟨H1,I1,q1⟩=>?_);cases d with
 |true=>exact ha kK s1 Z H1 Q I1 q1
 |false=>exact hb kK s1 Z H1 Q I1 q1
end
def SqL(K:zAA)(H:Hp)(a:Addr)(xs:List V):Prop:=
 Rd H a (.lst xs)\/
  ∃(o:Obj) (its:Array Value) (n:Nat),K.lookup a=some o/\o.cls= .type "list"/\o.dict=none/\o.data= .seq its n/\its.size<=zAS/\Vals xs its.toList
def SqT(K:zAA)(H:Hp)(a:Addr)(xs:List V):Prop:=
 Rd H a (.tup xs)\/
  ∃(o:Obj) (its:Array Value) (n:Nat),K.lookup a=some o/\o.cls= .type "tuple"/\o.dict=none/\o.data= .seq its n/\its.size<=zAS/\Vals xs its.toList
def aPC:Value->Option V
 | .none=>some .non
 | .bool b=>some (.bl b)
 | .int i _=>some (.int i)
 | .str x _=>some (.str x)
 | .bytes b _=>some (.byt b)
 | .float b _=>some (.flt b)
 | .ref a=>some (.ref a)
 | .type n=>some (.ty n)
 |_=>none
def RelV.abs(r:RelV x u):aPC u=some x:=by
 cases x with
 |non=>cases r;rfl
 |bl _=>cases r;rfl
 |int _=>obtain⟨t,rfl⟩:=r;rfl
 |str _=>obtain⟨t,rfl⟩:=r;rfl
 |byt _=>obtain⟨t,rfl⟩:=r;rfl
 |flt _=>obtain⟨t,rfl⟩:=r;rfl
 |ref _=>cases r;rfl
 |ty _=>cases r;rfl
def RelV.inj(r:RelV x u)(q:RelV y u):x=y:=zAq (r.abs.symm.trans q.abs)
theorem Vals.inj:∀{xs ys:List V} {us:List Value},Vals xs us->Vals ys us->xs=ys
 |_,_,_,.nil,.nil=>rfl
 |_,_,_,.cons r t,.cons r' t'=>by rw[r.inj r',Vals.inj t t']
section
variable{X:Cx}{kK:hV}{Z:St}{H:Hp}{s:zAD}{a:Addr}{xs ys:List V}
def SqL.of{K:zAA}(h:H a=some (.lst xs)):SqL K H a xs:=.inl (.inl h)
def SqT.of{K:zAA}(h:H a=some (.tup xs)):SqT K H a xs:=.inl (.inl h)
def Inv.list(I:Inv X kK Z H s)(h:SqL X.K H a xs):∃its:List Value,Vals xs its/\PlainL s.heap a its.toArray/\xs.length<=zAS:=by
 rcases h with h|⟨o,its,n,hk,hc,hd,hs,hz,r⟩
 .obtain⟨z,its,n,r,e⟩:=h.ok I.hok
  exact⟨its,r,⟨_,n,e,rfl,rfl,rfl⟩,z⟩
 .refine⟨its.toList,r,⟨o,n,I.kIn a o hk,hc,hd,by simpa using hs⟩,?_⟩
  have e:=r.length;simp only[zA0]at e;lia
def Inv.tuple(I:Inv X kK Z H s)(h:SqT X.K H a xs):∃its:List Value,Vals xs its/\IsTup s.heap a its.toArray/\xs.length<=zAS:=by
 rcases h with h|⟨o,its,n,hk,hc,hd,hs,hz,r⟩
 .obtain⟨z,its,r,p⟩:=h.ok I.hok
  exact⟨its,r,p,z.1⟩
 .refine⟨its.toList,r,⟨o,I.kIn a o hk,hc,n,by simpa using hs⟩,?_⟩
  have e:=r.length;simp only[zA0]at e;lia
def Inv.noD(I:Inv X kK Z H s)(h:SqT X.K H a xs):NoD s.heap a:=by
 rcases h with h|⟨o,its,n,hk,hc,hd,hs,hz,r⟩
 .obtain⟨z,its,r,p⟩:=h.ok I.hok
  exact z.2
 .intro u e
  rw[I.kIn a o hk]at e;cases e;exact hd
def Inv.list_inj(I:Inv X kK Z H s)(h:SqL X.K H a xs)(h':SqL X.K H a ys):xs=ys:=by
 obtain⟨its,r,⟨o,n,e,_,_,d⟩,_⟩:=I.list h;obtain⟨its',r',⟨o',n',e',_,_,d'⟩,_⟩:=I.list h';rw[e]at e';cases e';rw[d]at d';injection d' with d1 _
 have:its=its':=by simpa using congrArg zIT d1
 subst this;exact r.inj r'
def Inv.tuple_inj(I:Inv X kK Z H s)(h:SqT X.K H a xs)(h':SqT X.K H a ys):xs=ys:=by
 obtain⟨its,r,⟨o,e,_,n,d⟩,_⟩:=I.tuple h;obtain⟨its',r',⟨o',e',_,n',d'⟩,_⟩:=I.tuple h';rw[e]at e';cases e';rw[d]at d';injection d' with d1 _
 have:its=its':=by simpa using congrArg zIT d1
 subst this;exact r.inj r'
end
section
variable{X:Cx}{st:Stmt}{rest:List Stmt}{t u:TS}{e:Expr}{te:TE}{pos:Pos}
def aN8:TS:=λ D Z H=>D.nx Z H
def aLa(t u:TS):TS:=λ D Z H=>t {D with nx:=u D} Z H
def aJZ:PSs X [] aN8:=λ _ _ Z H _ I h=>zDq ⟨Z,H,I,h⟩
def aHH(h1:PS X st t)(h2:PSs X rest u):PSs X (st::rest) (aLa t u):=by
 intro kK s Z H D I h;refine zE6 (thn (h1 kK s Z H {D with nx:=u D} I h) λ f s1 q=>?_);cases f with
 |next=>
  obtain⟨Z',H',I',q⟩:=q;exact h2 kK s1 Z' H' D I' q
 |ret v=>exact q
 |brk=>exact q
 |cont=>exact q
def aJY(h1:PS X st t):PSs X [st] t:=by
 intro kK s Z H D I h;refine zE6 (thn (h1 kK s Z H D I h) λ f s1 q=>?_);cases f with
 |next=>exact zDq q
 |ret v=>exact q
 |brk=>exact q
 |cont=>exact q
def Inv.quiet(I:Inv X kK Z H s):interactive X.env=false:=by simp[interactive,I.ok.kind]
def aG5(te:TE):TS:=λ D Z H=>te Z H λ _ H1=>D.nx Z H1
def aBJ(he:PE X e te)(hs:zDp e none pos.line X.env=pure false:=by rfl):PS X (.Expr e pos) (aG5 te):=by
 intro kK s Z H D I h;exact wpAny_Expr_any (thn (he kK s Z H _ I h) λ v s1 ⟨x,H1,I1,r1,q1⟩=>⟨Z,H1,I1,q1⟩) I.quiet hs
def aOk(te:TE):TS:=λ D Z H=>te Z H D.rt
def aMB(he:PE X e te):PS X (.Return (some e) pos) (aOk te):=by
 intro kK s Z H D I h;exact wpAny_Return_some (thn (he kK s Z H _ I h) λ v s1 ⟨x,H1,I1,r1,q1⟩=>⟨x,Z,H1,I1,r1,q1⟩)
def aLc(c:TT)(t u:TS):TS:=λ D Z H=>c Z H λ b H1=>if b=true then t D Z H1 else u D Z H1
def aNx(hc:PT X c tc)(ha:PSs X a t)(hb:PSs X b u):PS X (.If c a b pos) (aLc tc t u):=by
 intro kK s Z H D I h;refine wpAny_If (thn (hc kK s Z H _ I h) λ d s1 ⟨H1,I1,q1⟩=>?_);cases d with
 |true=>exact ha kK s1 Z H1 D I1 q1
 |false=>exact hb kK s1 Z H1 D I1 q1
end
abbrev TG:=V->St->Hp->(St->Hp->Prop)->Prop
abbrev TGs:=List V->St->Hp->(St->Hp->Prop)->Prop
def PG(X:Cx)(target:Expr)(t:TG):Prop:=
 ∀(kK:hV) (s:zAD) (Z:St) (H:Hp) (v:V) (u:Value) (Q:St->Hp->Prop),Inv X kK Z H s->RelV v u->t v Z H Q->
  wpAny (model X.prog X.w) X.A (zFr target X.env u) (λ _ s'=>∃Z' H',Inv X kK Z' H' s'/\Q Z' H') X.xe s
def PGs(X:Cx)(ts:List Expr)(t:TGs):Prop:=
 ∀(kK:hV) (s:zAD) (Z:St) (H:Hp) (vs:List V) (us:List Value) (Q:St->Hp->Prop),Inv X kK Z H s->Vals vs us->t vs Z H Q->
  wpAny (model X.prog X.w) X.A (assignInOrder ((zDN ts X.env).map (·.2)) us) (λ _ s'=>∃Z' H',Inv X kK Z' H' s'/\Q Z' H') X.xe s
section
variable{X:Cx}{pos:Pos}
def vY(i:Nat):TG:=λ v Z H Q=>Q (Z.set i (some v)) H
def aJ7(hN:X.N.Nodup)(hi:X.N[i]? =some x)(hx:Loc X.env.scope x)(hf:X.fn x=true\/X.env.scope.names.lookup x=some .local:=by first|exact .inl rfl|exact .inr rfl|assumption):PG X (.Name x pos) (vY i):=by
 intro kK s Z H v u Q I r h;exact zIr (aBp I hN hi hx r (λ s' I'=>⟨_,H,I',h⟩) hf)
def aNC:TGs:=λ vs Z H Q=>vs=[]/\Q Z H
def aIF(t:TG)(u:TGs):TGs:=λ vs Z H Q=>∃v r,vs=v::r/\t v Z H λ Z' H'=>u r Z' H' Q
def aJ6:PGs X [] aNC:=by
 intro kK s Z H vs us Q I r h;obtain⟨e,h⟩:=h;subst e;cases r;exact assignInOrder_nil ⟨Z,H,I,h⟩
def aHQ(h1:PG X e t)(h2:PGs X es u)
  (hs:(zDN (e::es) X.env).map (·.2)=zFr e X.env::(zDN es X.env).map (·.2):=by rfl):PGs X (e::es) (aIF t u):=by
 intro kK s Z H vs us Q I r h;obtain⟨v,vr,e1,h⟩:=h;subst e1;cases r with
 |cons r rr=>
  rw[hs];refine assignInOrder_cons (thn (h1 kK s Z H _ _ _ I r h) λ _ s1 ⟨Z1,H1,I1,q1⟩=>?_);exact h2 kK s1 Z1 H1 _ _ Q I1 rr q1
def aK5(K:zAA)(n:Nat)(t:TGs):TG:=λ v Z H Q=>∃a xs,v= .ref a/\SqT K H a xs/\xs.length=n/\t xs Z H Q
def aMG(hc:X.calm=true)(h:PGs X es t)
  (hn:(zDN es X.env).length=n:=by rfl)(hst:(zDN es X.env).findIdx? (·.1)=none:=by rfl):PG X (.Tuple es k pos) (aK5 X.K n t):=by
 intro kK s Z H v u Q I r hw;obtain⟨a,xs,e1,hq,hl,hw⟩:=hw;subst e1;cases r;obtain⟨its,rv,ht,hz⟩:=I.tuple hq;refine assign_Tuple_tuple (I.ok.hd hc) ht (by simp[hn,<-hl,rv.length]) hst λ h' hx=>?_
 have I1:Inv X kK Z H {s with heap:=h'}:=I.kept (t':=s.toks) λ b o e=>hx b o (zAZ (zAR e)) e
 exact h kK _ Z H xs _ Q I1 (by simpa using rv) hw
def aIt(te:TE)(g:TG):TS:=λ D Z H=>te Z H λ x H1=>g x Z H1 D.nx
def aHK(hN:X.N.Nodup)(hi:X.N[i]? =some x)(hx:Loc X.env.scope x)(he:PE X e te)(hs:zDp e (some (.Name x pos')) pos.line X.env=pure false:=by rfl)(hf:X.fn x=true\/X.env.scope.names.lookup x=some .local:=by first|exact .inl rfl|exact .inr rfl|assumption):
  PS X (.Assign [.Name x pos'] e pos) (aIt te (vY i)):=by
 intro kK s Z H D I h;refine wpAny_Assign_Name (thn (he kK s Z H _ I h) λ v s1 ⟨y,H1,I1,r1,q1⟩=>?_) hs;exact aBp I1 hN hi hx r1 (λ s2 I2=>⟨_,H1,I2,q1⟩) hf
end
section
variable{X:Cx}{pos:Pos}
def aL9(c:TT)(tb:TS):TS:=λ D Z H=>∃W:Nat->St->Hp->Prop,(∃m,W m Z H)/\∀m Z H,W m Z H->
 c Z H λ b H1=>if b=true then∃N:St->Hp->Prop,(∀Z' H',N Z' H'->∃m',m'<m/\W m' Z' H')/\tb {D with nx:=N,ct:=N,bk:=D.nx} Z H1 else D.nx Z H1
def aHI(hp:zHr (model X.prog X.w) X.A X.env X.xe)(hc:PT X c tc)(hb:PSs X body tb):PS X (.While c body [] pos) (aL9 tc tb):=by
 intro kK s Z H D I h;obtain⟨W,⟨m0,w0⟩,turn⟩:=h;refine wpAny_While (codeAny_whileLoop (λ n s'=>∃Z' H',Inv X kK Z' H' s'/\W n Z' H') ?_ m0 ⟨Z,H,I,w0⟩);rintro n s1 ⟨Z1,H1,I1,w1⟩;refine zC0 hp (thn (hc kK s1 Z1 H1 _ I1 (turn n Z1 H1 w1)) λ b s2 ⟨H2,I2,q2⟩=>?_);cases b with
 |true=>
  obtain⟨N,hN,q2⟩:=q2;rw[if_pos rfl];refine zC0 hp (thn (hb kK s2 Z1 H2 _ I2 q2) λ f s3 q3=>?_);cases f with
  |next=>
   obtain⟨Z3,H3,I3,n3⟩:=q3;obtain⟨m',hm,w3⟩:=hN Z3 H3 n3;exact⟨m',hm,Z3,H3,I3,w3⟩
  |cont=>
   obtain⟨Z3,H3,I3,n3⟩:=q3;obtain⟨m',hm,w3⟩:=hN Z3 H3 n3;exact⟨m',hm,Z3,H3,I3,w3⟩
  |brk=>exact q3
  |ret v=>exact q3
 |false=>
  rw[if_neg zAX];exact zDq ⟨Z1,H2,I2,q2⟩
end
structure It where
 go:Nat->Hp->Prop
 yld:Nat->Hp->V->Hp->Prop
 stop:Nat->Hp->Prop
def uN(X:Cx)(kK:hV)(H:Hp)(b:Addr):Prop:=
 H b=none/\b≠X.env.locals/\b∉X.fs/\(b∈X.ex\/X.zI.heap.objs.size<=b)/\(∀x c,X.env.cells.lookup x=some c->c≠b)/\∀p∈X.ta++(X.pn++kK),p.1≠b
def Inv.fpOk(I:Inv X kK Z H s)(hb:s.heap.objs.size<=b)(hn:H' b=none):uN X kK H' b:=by
 refine⟨hn,zBg (zAY I.lt hb),I.nofs hb,.inr (zA6 I.sz hb),λ x c e z=>?_,λ p hp z=>?_⟩
 .obtain⟨v,q⟩:=I.cell x c e
  exact absurd (zAY q.lt (by rw[z];exact hb)) (zBQ _)
 .exact absurd (zAY (I.pinL hp) (by rw[z];exact hb)) (zBQ _)
structure Turn(P:zAT)(w:World)(K:zAA)(tg:Expr)(J:It)(fp:List Addr)(it:Addr)(tn:Nat->Heap->Prop):Prop where
 mem:it∈fp
 obj:∀i h,tn i h->∀b∈fp,∃o,h.get? b=some o/\∀v,o.data≠.cell v
 keep:∀i h h',tn i h->(∀b∈fp,∀o,h.get? b=some o->h'.get? b=some o)->tn i h'
 item:∀(X:Cx),X.prog=P->X.w=w->X.K=K->X.calm=true->∀(i:Nat) (kK:hV) (s:zAD) (Z:St) (H:Hp) (E:Value->zAD->Prop),Inv X kK Z H s->(∀b∈fp,uN X kK H b)->tn i s.heap->J.go i H->
  wpAny (model P w) X.A (zFC (.ref it)) (λ r s1=>∃u,r=some u/\
   wpAny (model P w) X.A (zCv tg (.ref it) u) (λ _ s2=>∃x H',Inv X kK Z H' s2/\RelV x u/\J.yld i H x H'/\tn (i+1) s2.heap/\∀b∈fp,H' b=none) E s1) E s
 done:∀(X:Cx),X.prog=P->X.w=w->X.K=K->X.calm=true->∀(i:Nat) (kK:hV) (s:zAD) (Z:St) (H:Hp) (E:Value->zAD->Prop),Inv X kK Z H s->(∀b∈fp,uN X kK H b)->tn i s.heap->J.stop i H->
  wpAny (model P w) X.A (zFC (.ref it)) (λ r s1=>r=none/\Inv X kK Z H s1) E s
 self:∀(A:zAa) (i:Nat) (s:zAD) (Q:Value->zAD->Prop) (E:Value->zAD->Prop),tn i s.heap->Q (.ref it) s->wpAny (model P w) A (zGy (.ref it)) Q E s
abbrev TI:=St->Hp->(It->Hp->Prop)->Prop
def PIE(X:Cx)(kK:hV)(Z:St)(tg:Expr)(R:It->Hp->Prop)(itv:Value)(s2:zAD):Prop:=
 ∃(it:Addr) (fp:List Addr) (tn:Nat->Heap->Prop) (J:It) (H':Hp),itv= .ref it/\Inv X kK Z H' s2/\Turn X.prog X.w X.K tg J fp it tn/\tn 0 s2.heap/\(∀b∈fp,uN X kK H' b)/\R J H'
def PI(X:Cx)(tg iter:Expr)(wi:TI):Prop:=
 ∀(kK:hV) (s:zAD) (Z:St) (H:Hp) (R:It->Hp->Prop),Inv X kK Z H s->wi Z H R->
  wpAny (model X.prog X.w) X.A (eval iter X.env) (λ v s1=>wpAny (model X.prog X.w) X.A (zGy v) (PIE X kK Z tg R) X.xe s1) X.xe s
def aIC(ho:s.heap.get? it=some o)(hc:o.cls= .type n)(hd:o.data= .fields vs)
    (hn:["enumerate","zip","dict_itemiterator","dict_reverseitemiterator","odict_iterator","itertools.zip_longest","itertools.pairwise"].contains n=false)(hQ:Q () s):wpAny M A (zCv tg (.ref it) u) Q E s:=by
  unfold zCv;cases tg<;>first
    |exact zAG hQ
    | (cases u <;> first
        |exact zAG hQ
        | (refine zAB (zIs ho ?_)
           rw[hc,hd];show wpAny M A (if (["enumerate","zip","dict_itemiterator","dict_reverseitemiterator","odict_iterator","itertools.zip_longest","itertools.pairwise"].contains n&&vs[0]? ==some (zGX _))=true then _ else _) Q E s;rw[if_neg (by intro h;rw[hn,zII]at h;cases h)];exact zAG hQ))
def Itl(K:zAA)(a:Addr):It:=
 ⟨λ i H=>∃xs x,SqL K H a xs/\xs[i]? =some x,λ i H x H'=>H'=H/\∀xs,SqL K H a xs->xs[i]? =some x,λ i H=>∃xs,SqL K H a xs/\xs.length<=i⟩
def Itt(K:zAA)(a:Addr):It:=
 ⟨λ i H=>∃xs x,SqT K H a xs/\xs[i]? =some x,λ i H x H'=>H'=H/\∀xs,SqT K H a xs->xs[i]? =some x,λ i H=>∃xs,SqT K H a xs/\xs.length<=i⟩
def Itr(lo:Int)(n:Nat):It:=⟨λ i _=>i<n,λ i H x H'=>H'=H/\x= .int (lo+i),λ i _=>n<=i⟩
def aF2{P:zAT}{w:World}{K:zAA}{tg:Expr}(a it:Addr):Turn P w K tg (Itl K a) [it] it (λ i h=>h.IsListIter it a i) where
 mem:=by simp
 obj:=λ i h st b hb=>by
  have e:b=it:=by simpa using hb
  subst e;obtain⟨o,e,c,d⟩:=st;exact⟨o,e,λ v z=>by rw[d]at z;cases z⟩
 keep:=λ i h h' st k=>st.at λ o e=>k it (by simp) o e
 item:=by
  intro X hP hw hK hc i kK s Z H E I hf st hg;subst hP hw hK;obtain⟨xs,x,hq,hx⟩:=hg;obtain⟨its,rv,p,hz⟩:=I.list hq;obtain⟨u,hu,ru⟩:=rv.get hx;obtain⟨f0,f1,f2,f3,f4,f5⟩:=hf it (by simp);refine wpAny_pyNext_list_item st p.isList (x:=u) (by simpa using hu) λ h' st' sb=>?_
  have I1:Inv X kK Z H {s with heap:=h'}:=I.turned (t':=s.toks) (λ b o hb e=>(sb.2 b hb).trans e) f0 f1 f3 f4 f5;obtain⟨o,e,c,d⟩:=id st';exact⟨u,rfl,aIC (s:={s with heap:=h'}) e c d (by decide) ⟨x,H,I1,ru,⟨rfl,λ ys hy=>by rw[I.list_inj hy hq];exact hx⟩,st',λ b hb=>(hf b hb).1⟩⟩
 done:=by
  intro X hP hw hK hc i kK s Z H E I hf st hg;subst hP hw hK;obtain⟨xs,hq,hx⟩:=hg;obtain⟨its,rv,p,hz⟩:=I.list hq;obtain⟨f0,f1,f2,f3,f4,f5⟩:=hf it (by simp);have hl:=rv.length;exact wpAny_pyNext_list_end (I.ok.hd hc) st p.isList (by simp;lia) λ h' eb=>⟨rfl,I.turned (t':=s.toks) (λ b o hb e=>eb b o hb e) f0 f1 f3 f4 f5⟩
 self:=λ _ _ _ _ _ st h=>wpAny_pyIter_listiter st h
def aDQ{P:zAT}{w:World}{K:zAA}{tg:Expr}(a it:Addr):Turn P w K tg (Itt K a) [it] it (λ i h=>h.IsTupleIter it a i) where
 mem:=by simp
 obj:=λ i h st b hb=>by
  have e:b=it:=by simpa using hb
  subst e;obtain⟨o,e,c,d⟩:=st;exact⟨o,e,λ v z=>by rw[d]at z;cases z⟩
 keep:=λ i h h' st k=>st.at λ o e=>k it (by simp) o e
 item:=by
  intro X hP hw hK hc i kK s Z H E I hf st hg;subst hP hw hK;obtain⟨xs,x,hq,hx⟩:=hg;obtain⟨its,rv,p,hz⟩:=I.tuple hq;obtain⟨u,hu,ru⟩:=rv.get hx;obtain⟨f0,f1,f2,f3,f4,f5⟩:=hf it (by simp);refine zHS st (show s.heap.IsTuple a its.toArray from p) (x:=u) (by simpa using hu) λ h' st' sb=>?_
  have I1:Inv X kK Z H {s with heap:=h'}:=I.turned (t':=s.toks) (λ b o hb e=>(sb.2 b hb).trans e) f0 f1 f3 f4 f5;obtain⟨o,e,c,d⟩:=id st';exact⟨u,rfl,aIC (s:={s with heap:=h'}) e c d (by decide) ⟨x,H,I1,ru,⟨rfl,λ ys hy=>by rw[I.tuple_inj hy hq];exact hx⟩,st',λ b hb=>(hf b hb).1⟩⟩
 done:=by
  intro X hP hw hK hc i kK s Z H E I hf st hg;subst hP hw hK;obtain⟨xs,hq,hx⟩:=hg;obtain⟨its,rv,p,hz⟩:=I.tuple hq;obtain⟨f0,f1,f2,f3,f4,f5⟩:=hf it (by simp);have hl:=rv.length;exact zHb (I.ok.hd hc) st (show s.heap.IsTuple a its.toArray from p) (by simp;lia) λ h' eb=>⟨rfl,I.turned (t':=s.toks) (λ b o hb e=>eb b o hb e) f0 f1 f3 f4 f5⟩
 self:=λ _ _ _ _ _ st h=>wpAny_pyIter_tupleiter st h
def aDR{P:zAT}{w:World}{K:zAA}{tg:Expr}(it:Addr)(lo:Int)(n:Nat):Turn P w K tg (Itr lo n) [it] it (λ i h=>IsRangeIter h it (lo+(i:Nat)*1) ((n:Int)-(i:Nat)) 1) where
 mem:=by simp
 obj:=λ i h st b hb=>by
  have e:b=it:=by simpa using hb
  subst e;exact⟨_,st,λ v z=>by
   have z':Data.fields _=Data.cell v:=z;cases z'⟩
 keep:=λ i h h' st k=>k it (by simp) _ st
 item:=by
  intro X hP hw hK hc i kK s Z H E I hf st hg;subst hP hw hK;obtain⟨f0,f1,f2,f3,f4,f5⟩:=hf it (by simp);have W:=Walks.range (prog:=X.prog) (w:=X.w) (I.ok.hd hc) it lo 1 n;refine W.item i s _ _ hg st λ v h' tk hv st' kk=>?_
  obtain⟨t,rfl⟩:=hv;have I1:Inv X kK Z H {s with heap:=h',toks:=tk}:=I.turned (λ b o hb e=>kk b o (by simpa using hb) e) f0 f1 f3 f4 f5;refine⟨_,rfl,aIC (s:={s with heap:=h',toks:=tk}) (n:="range_iterator") st' rfl rfl (by decide) ⟨.int (lo+i),H,I1,⟨t,?_⟩,⟨rfl,rfl⟩,st',λ b hb=>(hf b hb).1⟩⟩;rw[zHC]
 done:=by
  intro X hP hw hK hc i kK s Z H E I hf st hg;subst hP hw hK;obtain⟨f0,f1,f2,f3,f4,f5⟩:=hf it (by simp);exact wpAny_pyNext_range_end (I.ok.hd hc) st (by have:n<=i:=hg;lia) λ h' eb=>⟨rfl,I.turned (t':=s.toks) (λ b o hb e=>eb b o hb e) f0 f1 f3 f4 f5⟩
 self:=λ _ _ _ _ _ st h=>wpAny_pyIter_rangeiter st h
section
variable{X:Cx}{tg:Expr}
def aCK{kK:hV}{Z:St}{H:Hp}{s:zAD}{R:It->Hp->Prop}{E:Value->zAD->Prop}{lo hi:Int}{t u v:Tok}{tk:Nat}(I:Inv X kK Z H s)(h1: -(2^62)<=lo)(h2:lo<2^62)(h3: -(2^62)<=hi)(h4:hi<2^62)
  (q:R (Itr lo (hi-lo).toNat) H):wpAny (model X.prog X.w) X.A (zGy (.ref s.heap.objs.size)) (PIE X kK Z tg R) E {s with heap:=s.heap.push {cls:=.type "range",data:=.fields #[.int lo t,.int hi u,.int 1 v]},toks:=tk}:=by
 refine wpAny_pyIter_range (IsRange.new ..) (small_one h1 h2 h3 h4) ?_;have I1:Inv X kK Z H {s with heap:=s.heap.push {cls:=.type "range",data:=.fields #[.int lo t,.int hi u,.int 1 v]},toks:=tk}:=I.kept λ b o e=>zAE _ e
 refine⟨(s.heap.push {cls:=.type "range",data:=.fields #[.int lo t,.int hi u,.int 1 v]}).objs.size,[(s.heap.push {cls:=.type "range",data:=.fields #[.int lo t,.int hi u,.int 1 v]}).objs.size],_,_,H,rfl,
  I1.kept (t':=tk) λ b o e=>zAE _ e,aDR _ lo (hi-lo).toNat,?_,λ b hb=>?_,q⟩
 .have e1:lo+((0:Nat):Int)*1=lo:=by simp
  have e2:(((hi-lo).toNat:Nat):Int)-((0:Nat):Int)=zDU lo hi 1:=by rw[rangeSize_one];split<;>lia
  show IsRangeIter _ _ (lo+((0:Nat):Int)*1) ((((hi-lo).toNat:Nat):Int)-((0:Nat):Int)) 1;rw[e1,e2];exact zAL _ rfl
 .have e:b=(s.heap.push {cls:=.type "range",data:=.fields #[.int lo t,.int hi u,.int 1 v]}).objs.size:=by simpa using hb
  subst e;exact I1.fpOk (zAM _) (I1.hok.fresh (zAM _))
def aO0(ta:TA):TI:=λ Z H R=>ta Z H λ vs H1=>∃j:Int,vs=[.int j]/\-(2^62)<=j/\j<2^62/\R (Itr 0 j.toNat) H1
def aOZ(ta:TA):TI:=λ Z H R=>ta Z H λ vs H1=>∃i j:Int,vs=[.int i,.int j]/\(-(2^62)<=i/\i<2^62/\-(2^62)<=j/\j<2^62)/\R (Itr i (j-i).toNat) H1
def aFp{a:Expr}{ta:TA}{p pos:Pos}(hg:Gl X "range")(hm:X.mg "range"=none)(ha:PA X [a] ta)(hs:zAV [a] X.env=[(false,eval a X.env)]:=by rfl):PI X tg (.Call (.Name "range" p) [a] [] pos) (aO0 ta):=by
 intro kK s Z H R I h;refine Call_ (um I hg hm zIj (zCF (thn (ha pos kK s Z H _ I h) λ us s1 ⟨vs,H1,I1,r1,q1⟩=>?_) hs rfl));obtain⟨j,e,q1,q2,q⟩:=q1;subst e;cases r1 with
 |cons r rr=>
  cases rr;obtain⟨t,rfl⟩:=r;exact call_range_1 (aCK I1 (by lia) (by lia) q1 q2 (by simpa using q))
def aFo(hg:Gl X "range")(hm:X.mg "range"=none)(ha:PA X [a,b] ta)(hs:zAV [a,b] X.env=[(false,eval a X.env),(false,eval b X.env)]:=by rfl)(hs2:zAV [b] X.env=[(false,eval b X.env)]:=by rfl):
  PI X tg (.Call (.Name "range" p) [a,b] [] pos) (aOZ ta):=by
 intro kK s Z H R I h;refine Call_ (um I hg hm zIj (zCF (thn (ha pos kK s Z H _ I h) λ us s1 ⟨vs,H1,I1,r1,q1⟩=>?_) (by rw[hs,hs2]) (by rw[hs2];rfl)));obtain⟨i,j,e,⟨q1,q2,q3,q4⟩,q⟩:=q1;subst e;cases r1 with
 |cons r rr=>
  cases rr with
  |cons r' rr=>
   cases rr;obtain⟨t,rfl⟩:=r;obtain⟨t',rfl⟩:=r';exact call_range_2 (aCK I1 q1 q2 q3 q4 q)
def aOp(wi:TI)(g:TG)(tb:TS):TS:=λ D Z H=>wi Z H λ J H1=>∃W:Nat->Nat->St->Hp->Prop,(∃m,W 0 m Z H1)/\∀i m Z H,W i m Z H->
 (J.stop i H/\D.nx Z H)\/(J.go i H/\∃N:St->Hp->Prop,(∀Z' H',N Z' H'->∃m',m'<m/\W (i+1) m' Z' H')/\∀x H',J.yld i H x H'->g x Z H' λ Z2 H2=>tb {D with nx:=N,ct:=N,bk:=D.nx} Z2 H2)
def ug(fp:List Addr)(h:Heap):hV:=fp.filterMap λ b=>(h.get? b).map λ o=>(b,o)
def m9(hb:b∈fp)(e:h.get? b=some o):(b,o)∈ug fp h:=zBc.mpr ⟨b,hb,by rw[e];rfl⟩
def aAV(hp:p∈ug fp h):p.1∈fp/\h.get? p.1=some p.2:=by
 obtain⟨b,hb,e⟩:=zBc.mp hp;cases q:h.get? b with
 |none=>rw[q]at e;cases e
 |some o=>
  rw[q]at e;have e':(b,o)=p:=zAq e;subst e';exact⟨hb,q⟩
def Inv.pinned(I:Inv X kK Z H s)(hf:∀b∈fp,uN X kK H b)(ho:∀b∈fp,∃o,s.heap.get? b=some o/\∀v,o.data≠.cell v):Inv X (kK++ug fp s.heap) Z H s:=
 I.pins_of (λ p hp=>(zA5.mp hp).elim (λ z=>I.pin p (zA8 _ z)) λ z=>by
  obtain⟨hb,e⟩:=aAV z;obtain⟨f0,f1,f2,_⟩:=hf p.1 hb;obtain⟨o,e',d⟩:=ho p.1 hb;rw[e]at e';cases e';exact⟨e,f0,f1,f2,d⟩) λ q hq p hp=>(zA5.mp hq).elim (λ z=>(I.tab p hp).2.2.2.1 q (zA8 _ z)) λ z=>((hf q.1 (aAV z).1).2.2.2.2.2 p (zAc _ hp)).symm
def Inv.unpinned(I:Inv X (kK++pl) Z H s):Inv X kK Z H s:=I.pins_of (λ p hp=>I.pin p (zA8 _ (zAc _ hp))) λ q hq p hp=>(I.tab p hp).2.2.2.1 q (zA8 _ (zAc _ hq))
def aMC(hp:zHr (model X.prog X.w) X.A X.env X.xe)(hc:X.calm=true)(hi:PI X tg iter wi)(hg:PG X tg g)(hb:PSs X body tb)
  (hs:∀x,zBl iter X.env x=pure x:=by intro _;rfl):PS X (.For tg iter body [] pos) (aOp wi g tb):=by
 intro kK s Z H D I h;refine wpAny_For (thn (hi kK s Z H _ I h) λ v s1 h1=>thn h1 λ itv s2 h2=>?_) hs;obtain⟨it,fp,tn,J,H2,e,I2,T,st2,f2,W,⟨m0,w0⟩,turn⟩:=h2;subst e;have aS:∀{H':Hp},(∀b∈fp,H' b=none)->∀b∈fp,uN X kK H' b:=λ hn b hb=>⟨hn b hb,(f2 b hb).2⟩
 refine codeAny_forLoop_any (λ n s'=>∃i Z' H',Inv X kK Z' H' s'/\tn i s'.heap/\(∀b∈fp,H' b=none)/\W i n Z' H') ?_ m0 ⟨0,Z,H2,I2,st2,λ b hb=>(f2 b hb).1,w0⟩;rintro n s3 ⟨i,Z3,H3,I3,st3,fr3,w3⟩;rcases turn i n Z3 H3 w3 with ⟨stop,qn⟩|⟨go,N,hN,step⟩
 .refine zC0 hp (thn (T.done X rfl rfl rfl hc i kK s3 Z3 H3 X.xe I3 (aS fr3) st3 stop) λ r s4 ⟨hr,I4⟩=>?_)
  subst hr;exact zDq ⟨Z3,H3,I4,qn⟩
 .refine zC0 hp (thn (T.item X rfl rfl rfl hc i kK s3 Z3 H3 X.xe I3 (aS fr3) st3 go) λ r s4 ⟨u,hr,h4⟩=>?_)
  subst hr;refine zC0 hp (thn h4 λ _ s5 ⟨x,H5,I5,r5,y5,st5,fr5⟩=>?_);have I5':=I5.pinned (aS fr5) (T.obj _ _ st5);refine zC0 hp (thn (hg _ s5 Z3 H5 x u _ I5' r5 (step x H5 y5)) λ _ s6 ⟨Z6,H6,I6,q6⟩=>?_);refine zC0 hp (thn (hb _ s6 Z6 H6 _ I6 q6) λ f s7 q7=>?_);have again:∀{Z7:St} {H7:Hp},Inv X (kK++ug fp s5.heap) Z7 H7 s7->N Z7 H7->∃m,m<n/\∃i Z' H',Inv X kK Z' H' s7/\tn i s7.heap/\(∀b∈fp,H' b=none)/\W i m Z' H':=λ{Z7 H7} I7 n7=>by
   obtain⟨m',hm,w7⟩:=hN Z7 H7 n7;refine⟨m',hm,i+1,Z7,H7,I7.unpinned,T.keep _ _ _ st5 λ b hb o e=>(I7.pin (b,o) (zA8 _ (zA8 _ (m9 hb e)))).1,λ b hb=>?_,w7⟩;obtain⟨o,e,d⟩:=T.obj _ _ st5 b hb;exact(I7.pin (b,o) (zA8 _ (zA8 _ (m9 hb e)))).2.1
  cases f with
  |next=>obtain⟨Z7,H7,I7,n7⟩:=q7;exact again I7 n7
  |cont=>obtain⟨Z7,H7,I7,n7⟩:=q7;exact again I7 n7
  |brk=>obtain⟨Z7,H7,I7,q7⟩:=q7;exact⟨Z7,H7,I7.unpinned,q7⟩
  |ret v=>obtain⟨x7,Z7,H7,I7,r7,q7⟩:=q7;exact⟨x7,Z7,H7,I7.unpinned,r7,q7⟩
end
abbrev R2:=V->V->Hp->VK->Prop
def OpR(X:Cx)(f:Value->Value->Sem Value)(r:R2):Prop:=
 ∀(kK:hV) (s:zAD) (Z:St) (H:Hp) (x y:V) (v u:Value) (Q:VK),Inv X kK Z H s->RelV x v->RelV y u->r x y H Q->
  wpAny (model X.prog X.w) X.A (f v u) (EP X kK Z Q) X.xe s
def UnR(X:Cx)(f:Value->Sem Value)(r:V->Hp->VK->Prop):Prop:=
 ∀(kK:hV) (s:zAD) (Z:St) (H:Hp) (x:V) (v:Value) (Q:VK),Inv X kK Z H s->RelV x v->r x H Q->
  wpAny (model X.prog X.w) X.A (f v) (EP X kK Z Q) X.xe s
def gH(X:Cx)(f:Value)(r:List V->Hp->VK->Prop):Prop:=
 ∀(kK:hV) (s:zAD) (Z:St) (H:Hp) (xs:List V) (us:List Value) (Q:VK),Inv X kK Z H s->Vals xs us->r xs H Q->
  wpAny (model X.prog X.w) X.A (call f us) (EP X kK Z Q) X.xe s
def aPD(X:Cx)(r:V->Hp->(Bool->Hp->Prop)->Prop):Prop:=
 ∀(kK:hV) (s:zAD) (Z:St) (H:Hp) (x:V) (v:Value) (Q:Bool->Hp->Prop),Inv X kK Z H s->RelV x v->r x H Q->
  wpAny (model X.prog X.w) X.A (truthy v) (TP X kK Z Q) X.xe s
def tOp(r:R2)(ta tb:TE):TE:=λ Z H Q=>ta Z H λ x H1=>tb Z H1 λ y H2=>r x y H2 Q
def tUn(r:V->Hp->VK->Prop)(ta:TE):TE:=λ Z H Q=>ta Z H λ x H1=>r x H1 Q
def rI(C:Int->Int->Prop)(g:Int->Int->V):R2:=λ x y H Q=>∃i j,x= .int i/\y= .int j/\C i j/\Q (g i j) H
def rI0(g:Int->Int->V):R2:=λ x y H Q=>∃i j,x= .int i/\y= .int j/\Q (g i j) H
def rU(g:Int->V):V->Hp->VK->Prop:=λ x H Q=>∃i,x= .int i/\Q (g i) H
section
variable{X:Cx}{a b:Expr}{ta tb:TE}{pos:Pos}
def aNO(ha:PE X a ta)(hb:PE X b tb){kK:hV}{s:zAD}{Z:St}{H:Hp}{R:V->V->Hp->Prop}(I:Inv X kK Z H s)
  (h:ta Z H λ x H1=>tb Z H1 λ y H2=>R x y H2){Q:Value->zAD->Prop}{f:Value->Value->Sem Value}
  (hf:∀v u s2 x y H2,Inv X kK Z H2 s2->RelV x v->RelV y u->R x y H2->wpAny (model X.prog X.w) X.A (f v u) Q X.xe s2):
  wpAny (model X.prog X.w) X.A (eval a X.env) (λ v zC=>wpAny (model X.prog X.w) X.A (eval b X.env) (λ u zS=>wpAny (model X.prog X.w) X.A (f v u) Q X.xe zS) X.xe zC) X.xe s:=by
 refine thn (ha kK s Z H _ I h) λ v s1 ⟨x,H1,I1,r1,q1⟩=>?_
 refine thn (hb kK s1 Z H1 _ I1 q1) λ u s2 ⟨y,H2,I2,r2,q2⟩=>?_
 exact hf v u s2 x y H2 I2 r1 r2 q2
def aOA{op:Operator}{r:R2}(ho:OpR X (zBy op) r)(ha:PE X a ta)(hb:PE X b tb):PE X (.BinOp a op b pos) (tOp r ta tb):=by
 intro kK s Z H Q I h;exact wpAny_BinOp (aNO ha hb I h λ v u s2 x y H2 I2 rx ry q=>ho kK s2 Z H2 x y v u Q I2 rx ry q)
def aNy(ho:UnR X (unaryOp op) r)(ha:PE X a ta):PE X (.UnaryOp op a pos) (tUn r ta):=by
 intro kK s Z H Q I h;exact UnaryOp_ (thn (ha kK s Z H _ I h) λ v s1 ⟨x,H1,I1,r1,q1⟩=>ho kK s1 Z H1 x v Q I1 r1 q1)
def opI{f:Value->Value->Sem Value}{C:Int->Int->Prop}{g:Int->Int->Int}
  (rule:∀(i j:Int) (t u:Tok) (s:zAD) (Q:Value->zAD->Prop) (E:Value->zAD->Prop),C i j->Q (.int (g i j) s.toks) {s with toks:=s.toks+1}->wpAny (model X.prog X.w) X.A (f (.int i t) (.int j u)) Q E s):
  OpR X f (rI C λ i j=>.int (g i j)):=by
 intro kK s Z H x y v u Q I rx ry h;obtain⟨i,j,rfl,rfl,hc,q⟩:=h;obtain⟨t,rfl⟩:=rx;obtain⟨t',rfl⟩:=ry;exact rule i j t t' s _ _ hc ⟨.int (g i j),H,I.tok _,⟨_,rfl⟩,q⟩
def aOK{f:Value->Value->Sem Value}{g:Int->Int->Int}
  (rule:∀(i j:Int) (t u:Tok) (s:zAD) (Q:Value->zAD->Prop) (E:Value->zAD->Prop),Q (.int (g i j) s.toks) {s with toks:=s.toks+1}->wpAny (model X.prog X.w) X.A (f (.int i t) (.int j u)) Q E s):
  OpR X f (rI0 λ i j=>.int (g i j)):=by
 intro kK s Z H x y v u Q I rx ry h;obtain⟨i,j,rfl,rfl,q⟩:=h;obtain⟨t,rfl⟩:=rx;obtain⟨t',rfl⟩:=ry;exact rule i j t t' s _ _ ⟨.int (g i j),H,I.tok _,⟨_,rfl⟩,q⟩
def aJr{f:Value->Value->Sem Value}{g:Int->Int->Bool}
  (rule:∀(i j:Int) (t u:Tok) (s:zAD) (Q:Value->zAD->Prop) (E:Value->zAD->Prop),Q (.bool (g i j)) s->wpAny (model X.prog X.w) X.A (f (.int i t) (.int j u)) Q E s):
  OpR X f (rI0 λ i j=>.bl (g i j)):=by
 intro kK s Z H x y v u Q I rx ry h;obtain⟨i,j,rfl,rfl,q⟩:=h;obtain⟨t,rfl⟩:=rx;obtain⟨t',rfl⟩:=ry;exact rule i j t t' s _ _ ⟨.bl (g i j),H,I,rfl,q⟩
def aOg(i j:Int):Prop:=0<j/\j<1073741824
def aPK(i j:Int):Prop:=0<=j/\j<=1000000/\i.natAbs<2^64
def aKv(i j:Int):Prop:=(-(2^64)<i/\i<2^64)\/(-(2^64)<j/\j<2^64)
def aKv.ok(h:aKv i j):IntMulOk i j:=by
 rcases h with ⟨h1,h2⟩|⟨h1,h2⟩
 .exact .of_left (intBits_le_64 h1 h2)
 .exact .of_right (intBits_le_64 h1 h2)
def aMb:OpR X (zBy .Add) (rI0 λ i j=>.int (i+j)):=aOK λ _ _ _ _ _ _ _ q=>add_int q
def aMX:OpR X (zBy .Sub) (rI0 λ i j=>.int (i-j)):=aOK λ _ _ _ _ _ _ _ q=>sub_int q
def aM1:OpR X (zBy .Mult) (rI aKv λ i j=>.int (i*j)):=opI λ _ _ _ _ _ _ _ hc q=>mul_int q hc.ok
def aJm:OpR X (zBy .FloorDiv) (rI aOg λ i j=>.int (i / j)):=opI λ i j _ _ _ _ _ hc q=>by
 have h1:(0:Int)<j:=hc.1;have h2:j<1073741824:=hc.2;exact floordiv_int (by lia) (by rw[Int.fdiv_eq_ediv_of_nonneg i (by lia)];exact q) (.inl (PyProof.noPylong_small (by lia)))
def aM2:OpR X (zBy .Mod) (rI (λ _ j=>0<j) λ i j=>.int (i%j)):=opI λ i j _ _ _ _ _ hc q=>by
 have h1:(0:Int)<j:=hc;exact mod_int' (by lia) (by rw[Int.fmod_eq_emod_of_nonneg i (by lia)];exact q)
def aMZ:OpR X (zBy .Pow) (rI aPK λ i j=>.int (i^j.toNat)):=opI λ _ _ _ _ _ _ _ hc q=>pow_int_small hc.1 hc.2.1 hc.2.2 q
def unI{f:Value->Sem Value}{g:Int->Int}
  (rule:∀(i:Int) (t:Tok) (s:zAD) (Q:Value->zAD->Prop) (E:Value->zAD->Prop),Q (.int (g i) s.toks) {s with toks:=s.toks+1}->wpAny (model X.prog X.w) X.A (f (.int i t)) Q E s):
  UnR X f (rU λ i=>.int (g i)):=by
 intro kK s Z H x v Q I rx h;obtain⟨i,rfl,q⟩:=h;obtain⟨t,rfl⟩:=rx;exact rule i t s _ _ ⟨.int (g i),H,I.tok _,⟨_,rfl⟩,q⟩
def aL2:UnR X (unaryOp .USub) (rU λ i=>.int (-i)):=unI λ _ _ _ _ _ q=>neg_int q
end
section
variable{X:Cx}{a b c:Expr}{ta tb tc:TE}{pos:Pos}
def aOH:OpR X (zAs .Lt) (rI0 λ i j=>.bl (decide (i<j))):=aJr λ _ _ _ _ _ _ _ q=>lt_int q
def aOI:OpR X (zAs .LtE) (rI0 λ i j=>.bl (decide (i<=j))):=aJr λ _ _ _ _ _ _ _ q=>le_int q
def aLL:OpR X (zAs .Gt) (rI0 λ i j=>.bl (decide (j<i))):=aJr λ _ _ _ _ _ _ _ q=>gt_int q
def aOJ:OpR X (zAs .GtE) (rI0 λ i j=>.bl (decide (j<=i))):=aJr λ _ _ _ _ _ _ _ q=>ge_int q
def isObj:HO->Bool
 | .lst _=>true
 | .ins _ _ _=>true
 |_=>false
def aDo(b:Expr)(h:op≠.In:=by decide)(h2:op≠.NotIn:=by decide):zBj op b=false:=by
 have e1:(op==CmpOp.In)=false:=by cases op<;>first|rfl|exact absurd rfl h
 have e2:(op==CmpOp.NotIn)=false:=by cases op<;>first|rfl|exact absurd rfl h2
 cases b<;>simp[zBj,e1,e2]
def aJb{op:CmpOp}{r:R2}(ho:OpR X (zAs op) r)(ha:PE X a ta)(hb:PE X b tb)(hm:zBj op b=false):PE X (.Compare a [op] [b] pos) (tOp r ta tb):=by
 intro kK s Z H Q I h;exact wpAny_Compare1 (aNO ha hb I h λ v u s2 x y H2 I2 rx ry q=>ho kK s2 Z H2 x y v u Q I2 rx ry q) hm
def aE5(t:TE):TT:=λ Z H Q=>t Z H λ x H'=>∃k,x= .bl k/\Q k H'
def aEq(ho:OpR X (zAs op) r)(ha:PE X a ta)(hb:PE X b tb)(hm:zBj op b=false):PT X (.Compare a [op] [b] pos) (aE5 (tOp r ta tb)):=by
 intro kK s Z H Q I h;refine zIC (thn (ha kK s Z H _ I h) λ v s1 ⟨x,H1,I1,r1,q1⟩=>thn (hb kK s1 Z H1 _ I1 q1) λ u s2 ⟨y,H2,I2,r2,q2⟩=>
  thn (ho kK s2 Z H2 x y v u _ I2 r1 r2 q2) λ c s3 ⟨z,H3,I3,r3,k,e,q3⟩=>?_) hm
 subst e;cases r3;exact zBm ⟨H3,I3,q3⟩
def aG7(r r':R2)(ta tb tc:TE):TE:=λ Z H Q=>ta Z H λ x H1=>tb Z H1 λ y H2=>r x y H2 λ z H3=>∃k,z= .bl k/\
 (if k=true then tc Z H3 λ w' H4=>r' y w' H4 Q else Q (.bl false) H3)
def aHU(ho:OpR X (zAs op) r)(ho':OpR X (zAs op') r')(ha:PE X a ta)(hb:PE X b tb)(hc:PE X c tc)
  (hm:zHx [op,op'] [b,c]=false:=by with_unfolding_all rfl):PE X (.Compare a [op,op'] [b,c] pos) (aG7 r r' ta tb tc):=by
 intro kK s Z H Q I h;refine Compare_chain (thn (ha kK s Z H _ I h) λ v s1 ⟨x,H1,I1,r1,q1⟩=>chain_link (thn (hb kK s1 Z H1 _ I1 q1) λ u s2 ⟨y,H2,I2,r2,q2⟩=>
  thn (ho kK s2 Z H2 x y v u _ I2 r1 r2 q2) λ d s3 ⟨z,H3,I3,r3,k,e,q3⟩=>?_)) hm
 subst e;cases r3;refine zBm ?_;cases k with
 |false=>exact ite_ff ⟨.bl false,H3,I3,rfl,q3⟩
 |true=>exact ite_tt (chain_last (thn (hc kK s3 Z H3 _ I3 q3) λ w' s4 ⟨z',H4,I4,r4,q4⟩=>ho' kK s4 Z H4 y z' u w' Q I4 r2 r4 q4))
def aNU(K:zAA)(x:V)(H:Hp)(k:Bool):Prop:=
 match x with
 | .non=>k=false
 | .bl b=>k=b
 | .int i=>k=(i !=0)
 | .str y=>y.length<=zAS/\k=((y.length:Int)!=0)
 | .byt y=>y.size<=zAS/\k=((y.size:Int)!=0)
 | .ref p=>(∃xs,SqL K H p xs/\k= !xs.isEmpty)\/(∃xs,SqT K H p xs/\k= !xs.isEmpty)\/∃kvs,H p=some (.dK kvs)/\k= !kvs.isEmpty
 |_=>False
def aEH(r:KV kvs vs):(!vs.isEmpty)= !kvs.isEmpty:=by
 cases r<;>rfl
def yj(r:Vals xs its):(!its.toArray.isEmpty)= !xs.isEmpty:=by
 cases r<;>simp
def yW:(zAS:Nat)<2^63:=by rw[zCN];decide
def aL5:aPD X (λ x H Q=>∃k,aNU X.K x H k/\Q k H):=by
 intro kK s Z H x v Q I rx h;obtain⟨k,e,q⟩:=h;have hl:=yW;have hs:zAS=16777216:=zCN;cases x with
 |non=>
  cases rx;have e':k=false:=e;subst e';exact truthy_none ⟨H,I,q⟩
 |bl b=>
  cases rx;have e':k=b:=e;subst e';exact zBm ⟨H,I,q⟩
 |int i=>
  obtain⟨t,rfl⟩:=rx;have e':k=(i !=0):=e;subst e';exact PySem.P.truthy_int ⟨H,I,q⟩
 |str y=>
  obtain⟨t,rfl⟩:=rx;obtain⟨hy,e'⟩:y.length<=zAS/\k=((y.length:Int)!=0):=e;subst e';exact PySem.P.truthy_str (by lia) ⟨H,I.tok _,q⟩
 |byt y=>
  obtain⟨t,rfl⟩:=rx;obtain⟨hy,e'⟩:y.size<=zAS/\k=((y.size:Int)!=0):=e;subst e';exact PySem.W.truthy_bytes (by lia) ⟨H,I.tok _,q⟩
 |ref p=>
  cases rx;have e':(∃xs,SqL X.K H p xs/\k= !xs.isEmpty)\/(∃xs,SqT X.K H p xs/\k= !xs.isEmpty)\/∃kvs,H p=some (.dK kvs)/\k= !kvs.isEmpty:=e
  rcases e' with ⟨xs,hx,e'⟩|⟨xs,hx,e'⟩|⟨kvs,hx,e'⟩
  .subst e'
   obtain⟨its,r,pl,hz⟩:=I.list hx;have oQ:=r.length;exact wpAny_truthy_list pl.isList (by simp only[zAP];lia) ⟨H,I.tok _,by rw[yj r];exact q⟩
  .subst e'
   obtain⟨its,r,pl,hz⟩:=I.tuple hx;have oQ:=r.length;exact truthy_tuple pl (by simp only[zAP];lia) ⟨H,I.tok _,by rw[yj r];exact q⟩
  .subst e'
   obtain⟨hz,hS,vs,r,m⟩:kvs.length<=zAS/\(p==zCQ)=false/\∃vs,KV kvs vs/\s.heap.DictOf (cM X.prog X.w) p vs:=I.hok p _ hx
   have oQ:kvs.length=vs.length:=zFp r;exact wpAny_truthy_dict hS m (by lia) ⟨H,I.tok _,by rw[aEH r];exact q⟩
 |_=>exact(show False from e).elim
def aHF(ha:PE X a ta)(he:∀whole,isTrue a X.env whole=(do let v <-whole;zIQ a.pos;zEK [v] (truthy v))):
  PT X a (λ Z H Q=>ta Z H λ x H'=>∃k,aNU X.K x H' k/\Q k H'):=by
 intro kK s Z H Q I h;exact isTrue_plain (thn (ha kK s Z H _ I h) λ v s1 ⟨x,H1,I1,r1,q1⟩=>aL5 kK s1 Z H1 x v Q I1 r1 q1) (he _)
def vals1(r:Vals [x] us):∃u,us=[u]/\RelV x u:=by
 cases r with
 |cons r1 r2=>cases r2;exact⟨_,rfl,r1⟩
def vals2(r:Vals [x,y] us):∃u w',us=[u,w']/\RelV x u/\RelV y w':=by
 cases r with
 |cons r1 r2=>
  cases r2 with
  |cons r3 r4=>cases r4;exact⟨_,_,rfl,r1,r3⟩
def aGN(hc:X.calm=true):gH X (.builtin "max") (λ xs H Q=>∃i j,xs=[.int i,.int j]/\Q (.int (if j>i then j else i)) H):=by
 intro kK s Z H xs us Q I r h;obtain⟨i,j,rfl,q⟩:=h;obtain⟨u,w',rfl,⟨t,rfl⟩,⟨t',rfl⟩⟩:=vals2 r;refine max_two_ints (I.ok.hd hc) λ h' tk k=>⟨_,H,I.kept k,?_,q⟩
 by_cases hj:j>i
 .rw[if_pos hj,if_pos hj];exact⟨_,rfl⟩
 .rw[if_neg hj,if_neg hj];exact⟨_,rfl⟩
def aGM(hc:X.calm=true):gH X (.builtin "min") (λ xs H Q=>∃i j,xs=[.int i,.int j]/\Q (.int (if j<i then j else i)) H):=by
 intro kK s Z H xs us Q I r h;obtain⟨i,j,rfl,q⟩:=h;obtain⟨u,w',rfl,⟨t,rfl⟩,⟨t',rfl⟩⟩:=vals2 r;refine min_two_ints (I.ok.hd hc) λ h' tk k=>⟨_,H,I.kept k,?_,q⟩
 by_cases hj:j<i
 .rw[if_pos hj,if_pos hj];exact⟨_,rfl⟩
 .rw[if_neg hj,if_neg hj];exact⟨_,rfl⟩
def aB6:gH X (.type "str") (λ xs H Q=>∃i,xs=[.int i]/\i.natAbs.log2<1920/\Q (.str (zED i)) H):=by
 intro kK s Z H xs us Q I r h;obtain⟨i,rfl,hz,q⟩:=h;obtain⟨u,rfl,t,rfl⟩:=vals1 r;exact PySem.P.str_of_int hz ⟨.str _,H,I.tok _,⟨_,rfl⟩,q⟩
end
structure aKs(h:Heap)(x dx C:Addr)(mA:Str->Option Value):Prop where
 obj:h.get? x=some (zBw C dx)
 ns:h.Ns1 dx mA
 ne:dx≠x
def aFv{h:Heap}{dx:Addr}{mA:Str->Option Value}(n:h.Ns1 dx mA):∃od,h.get? dx=some od/\∀name,zEZ name od=some (mA name):=by
 obtain⟨o,es,ep,ho,hd,hk,_,hm⟩:=n;refine⟨o,ho,λ name=>?_⟩;have e:=hm name;unfold nsFind findBy at e;rw[<-Array.find?_toList]at e;unfold zEZ;rw[hd];dsimp only;split
 .rename_i y q
  rw[q]at e;exact congrArg some e
 .rename_i q
  rw[q]at e;have a:es.toList.any (·.refKey)=false:=by
   rw[zHV];intro y hy;obtain⟨z,t,hkey⟩:=hk y (Array.mem_toList_iff.mp hy);simp[DictEntry.refKey,hkey]
  have a':¬es.toList.any (·.refKey)=true:=by rw[a];exact zAX
  rw[if_neg a'];exact congrArg some e
def aKs.look(I:aKs h x dx C mA):∃od,zH3 h x (zBw C dx) C (some od)/\∀name,zEZ name od=some (mA name):=
 let⟨od,ho,hl⟩:=aFv I.ns
 ⟨od,⟨I.obj,rfl,rfl,ho⟩,hl⟩
section
variable{prog:zAT}{w:World}{A:zAa}{E:Value->zAD->Prop}{s:zAD}{K:zAA}{x dx C f:Addr}{mA:Str->Option Value}{name:Str}
def aIE(X:K.In s.heap)(I:aKs s.heap x dx C mA)(hg:zEw K C name=true)
  (hf:zBT K (.ref C) name=some (some (.ref f)))(ht:zIH K (.ref f)=true)(hv:mA name=none)(h:Q (.ref f,[.ref x]) s):
  wpAny (model prog w) A (getMethod (.ref x) name pl) Q E s:=by
 obtain⟨od,J,hl⟩:=I.look;exact PySem.W.method_fn X J (zGR hg).1 (zGR hg).2 hf (beq_iff_eq.mp ht) (by show(zEZ name od).map (·.isSome)=some false;rw[hl,hv];rfl) h
def make_map(X:K.In s.heap)(hm:PySem.W.makesIn K C=true)
  (hi:zBT K (.ref C) "__init__"=some (some (.ref f)))(hf:PySem.W.typeIn K (.ref f)=some (.type "function"))
  (h:zBq (model prog w) (A.under (.builtin "type.__call__" ⟨.ref C::vs,kw⟩)) (.call (.ref f) ⟨.ref (s.heap.objs.size+1)::vs,kw⟩) (PySem.W.InitBack (s.heap.objs.size+1) R)
   {s with heap:=(s.heap.push zB0).push (zBw C s.heap.objs.size)}):
  zBq (model prog w) A (.call (.ref C) ⟨vs,kw⟩) R s:=by
 obtain⟨hh,g,d,t,os⟩:=s;exact PySem.W.make_core (PySem.W.makes_of X hm) (zDB X hi) (λ self=>PySem.W.bind_fn X self hf) (.inl rfl) h
end
def qH.some_of(r:qH (some v) o):∃u,o=some u/\RelV v u:=by
 cases o with
 |none=>exact(show False from r).elim
 |some u=>exact⟨u,rfl,r⟩
def qH.none_of(r:qH none o):o=none:=by
 cases o with
 |none=>rfl
 |some u=>exact(show False from r).elim
section
variable{P:zAT}{w:World}{H:Hp}{h:Heap}{a C dx:Addr}{fs:List (Str×V)}
def w5(hok:HOk P w H h)(e:H a=some (.ins C dx fs)):∃mA,aKs h a dx C mA/\(∀f,qH (fs.lookup f) (mA f))/\zIZ mA (fs.map (·.1))/\fs.length<=1000/\H dx=some (.own a):=by
 obtain⟨d,z,ne,ob,mA,n,r,q⟩:=(show cO P w H h a (.ins C dx fs)from hok a _ e);exact⟨mA,⟨ob,n,ne⟩,r,q,z,d⟩
end
structure Cls(K:zAA)(C:Addr):Prop where
 pg:zEw K C Str.empty=true
 hd:PySem.W.hasDictIn K C=true
 po:PySem.W.plainOver K C=true
 sa:zBT K (.ref C) "__setattr__"=some (some (.builtin "object.__setattr__"))
def Cls.get{K:zAA}{C:Addr}(c:Cls K C)(f:Str):zEw K C f=true:=c.pg
def aNX(K:zAA)(C:Addr)(f:Str):Prop:=zBT K (.ref C) f=some none
structure Meth(K:zAA)(C:Addr)(m:Str)(f:Addr):Prop where
 at_:zBT K (.ref C) m=some (some (.ref f))
 fn:zIH K (.ref f)=true
 kp:zCq K (.ref f)=true
section
variable{X:Cx}{kK:hV}{Z:St}{H:Hp}{s:zAD}{a C dx:Addr}{fs:List (Str×V)}{A:zAa}{E:Value->zAD->Prop}
def aEM(I:Inv X kK Z H s)(e:H a=some (.ins C dx fs))(c:Cls X.K C)(k:Meth X.K C m g)(l:fs.lookup m=none)
  (h:Q (.ref g,[.ref a]) s):wpAny (model X.prog X.w) A (getMethod (.ref a) m pl) Q E s:=by
 obtain⟨mA,O,r,_,_,_⟩:=w5 I.hok e;have hn:mA m=none:=qH.none_of (by rw[<-l];exact r m);exact aIE I.kIn O (c.get m) k.at_ k.fn hn h
def Inv.made(I:Inv X kK Z H s):Inv X kK Z (upd (upd H s.heap.objs.size (.own (s.heap.objs.size+1))) (s.heap.objs.size+1) (.ins C s.heap.objs.size []))
  {s with heap:=(s.heap.push zB0).push (zBw C s.heap.objs.size)}:=by
 have e1:(s.heap.push zB0).get? s.heap.objs.size=some zB0:=zAL s.heap rfl;have e2:((s.heap.push zB0).push (zBw C s.heap.objs.size)).get? (s.heap.objs.size+1)=some (zBw C s.heap.objs.size):=by
  have:=zAL (s.heap.push zB0) (o:=zBw C s.heap.objs.size) rfl
  rwa [zBV]at this
 have e3:(s.heap.push zB0).Ns s.heap.objs.size (λ _=>none):=⟨zB0,#[],_,e1,rfl,(λ e he=>absurd he (by simp)),λ _=>rfl⟩;have I1:=I.laid (a:=s.heap.objs.size) (o:=.own (s.heap.objs.size+1)) (h':=s.heap.push zB0) (t':=s.toks) (λ b u q=>zAE _ q) (zAM _) ⟨_,e1⟩;refine I1.laid (a:=s.heap.objs.size+1) (o:=.ins C s.heap.objs.size []) (t':=s.toks) (λ b u q=>zAE _ q) (zGh (zBV _ _)) ?_;have ne:s.heap.objs.size≠s.heap.objs.size+1:=zAZ (zBd _);refine⟨by rw[bA ne,bG],zAp _,ne,e2,λ _=>none,(Heap.Ns1.of_empty e3).at λ o q=>zAE _ q,λ _=>zCa,λ y hy=>absurd rfl hy⟩
end
def tFld(K:zAA)(ta:TE)(f:Str):TE:=λ Z H Q=>ta Z H λ x H1=>∃a C dx fs v,x= .ref a/\H1 a=some (.ins C dx fs)/\Cls K C/\aNX K C f/\fs.lookup f=some v/\Q v H1
section
variable{X:Cx}{e:Expr}{f:Str}{pos:Pos}
def methcall_of(he:PE X e te)(I:Inv X kK Z H s)
  (h:te Z H λ x H1=>∃a C dx fs g,x= .ref a/\H1 a=some (.ins C dx fs)/\Cls X.K C/\Meth X.K C m g/\fs.lookup m=none/\
   ∀s1,Inv X kK Z H1 s1->wpAny (model X.prog X.w) X.A (callWith pos (.ref g) [.ref a] (zCB pos (zAV args X.env)) (zE2 pos (zCo [] X.env))) Q X.xe s1)
  (ht:eval (.Call (.Attribute e m apos) args [] pos) X.env=(do
   let ov <-eval e X.env
   zIQ apos.atName
   let(f,first) <-zEK [ov] (getMethod ov m pl)
   callWith pos f first (zCB pos (zAV args X.env)) (zE2 pos (zCo [] X.env)))):
  wpAny (model X.prog X.w) X.A (eval (.Call (.Attribute e m apos) args [] pos) X.env) Q X.xe s:=by
 refine PySem.W.methodCall_KW (pl:=pl) (thn (he kK s Z H _ I h) λ u s1 ⟨x,H1,I1,rx,a,C,dx,fs,g,ex,ea,c,k,l,q⟩=>?_) ht;subst ex;obtain rfl:u=zAr a:=rx;exact aEM I1 ea c k l (q s1 I1)
end
section
variable{X:Cx}{kK:hV}{Z:St}{H:Hp}{s:zAD}{A:zAa}{E:Value->zAD->Prop}{Q:Value->zAD->Prop}{c:Value}{b:Bool}
inductive vA(K:zAA)(H:Hp):V->Value->Prop where
 |non:vA K H .non (.type "NoneType")
 |bl (x:Bool):vA K H (.bl x) (.type "bool")
 |int (i:Int):vA K H (.int i) (.type "int")
 |str (x:Str):vA K H (.str x) (.type "str")
 |flt (x:UInt64):vA K H (.flt x) (.type "float")
 |lst {a:Addr} {xs:List V} (e:H a=some (.lst xs)):vA K H (.ref a) (.type "list")
 |frz {a:Addr} {o:Obj} {xs:List V} (e:H a=some (.frz o (.lst xs))):vA K H (.ref a) (.type "list")
 |tup {a:Addr} {xs:List V} (e:H a=some (.tup xs)):vA K H (.ref a) (.type "tuple")
 |dK {a:Addr} {kvs:List (Key×V)} (e:H a=some (.dK kvs)):vA K H (.ref a) (.type "dict")
 |dT {a:Addr} {kvs:List (List Key×V)} (e:H a=some (.dT kvs)):vA K H (.ref a) (.type "dict")
 |ins {a C dx:Addr} {fs:List (Str×V)} (e:H a=some (.ins C dx fs)) (cl:Cls K C) (ha:zBT K (.ref C) "__class__"=some (some (.builtin "object.__class__")))
   (hn:PySem.W.specialIn K (.builtin "object.__class__") "__get__"=some (some (.builtin "getset_descriptor.__get__"))) (htk:PySem.W.takesIn K (.builtin "object.__class__")=some true)
   (hm:PySem.W.mroIn K C (.type "object")=some true):vA K H (.ref a) (.ref C)
def aFz(I:Inv X kK Z H s)(rx:RelV x u)(ty:vA X.K H x t)(e:zD1 X.K t c=some b)(h:∀tk,Q (.bool b) {s with toks:=tk}):
  wpAny (model X.prog X.w) A (call (.builtin "isinstance") [u,c]) Q E s:=by
 cases ty with
 |non=>cases (show u=zBF from rx);exact zBC PySem.W.kitx_none I.kIn zCa e (λ z=>nomatch z) h
 |bl y=>cases (show u=zDm y from rx);exact zBC PySem.W.kitx_bool I.kIn zCa e (λ z=>nomatch z) h
 |int i=>obtain⟨t,q⟩:=(show∃t,u=zEQ i t from rx);cases q;exact zBC PySem.W.kitx_int I.kIn zCa e (λ z=>nomatch z) h
 |str y=>obtain⟨t,q⟩:=(show∃t,u=zGT y t from rx);cases q;exact zBC PySem.W.kitx_str I.kIn zCa e (λ z=>nomatch z) h
 |flt y=>obtain⟨t,q⟩:=(show∃t,u=zIh y t from rx);cases q;exact zBC PySem.W.kitx_float I.kIn zCa e (λ z=>nomatch z) h
 |@lst a xs ea=>
  cases (show u=zAr a from rx);obtain⟨_,_,n,_,h1⟩:=(show cO X.prog X.w H s.heap a (.lst xs)from I.hok a _ ea);exact zBC zGk I.kIn ⟨_,h1,rfl⟩ e (λ z=>nomatch z) h
 |@frz a ob xs ea=>
  cases (show u=zAr a from rx);obtain⟨_,_,_,n,_,h1⟩:=(show cO X.prog X.w H s.heap a (.frz ob (.lst xs))from I.hok a _ ea);exact zBC zGk I.kIn ⟨_,h1,rfl⟩ e (λ z=>nomatch z) h
 |@tup a xs ea=>
  cases (show u=zAr a from rx);obtain⟨_,_,_,p⟩:=(show cO X.prog X.w H s.heap a (.tup xs)from I.hok a _ ea);obtain⟨o,h1,h2,_⟩:=p;exact zBC zG8 I.kIn ⟨o,h1,h2⟩ e (λ z=>nomatch z) h
 |@dK a kvs ea=>
  cases (show u=zAr a from rx);obtain⟨_,_,vs,_,p⟩:=(show cO X.prog X.w H s.heap a (.dK kvs)from I.hok a _ ea);obtain⟨o,es,ep,h1,h2,_⟩:=p;exact zBC zEj I.kIn ⟨o,h1,h2.1⟩ e (λ z=>nomatch z) h
 |@dT a kvs ea=>
  cases (show u=zAr a from rx);obtain⟨_,_,xs,_,o,es,ep,h1,h2,_⟩:=(show cO X.prog X.w H s.heap a (.dT kvs)from I.hok a _ ea);exact zBC zEj I.kIn ⟨o,h1,h2.1⟩ e (λ z=>nomatch z) h
 |@ins a C dx fs ea cl ha hn htk hm=>
  cases (show u=zAr a from rx);obtain⟨mA,O,_⟩:=w5 I.hok ea;obtain⟨od,J,_⟩:=O.look;exact zBC (PySem.W.kitx_own (cl.get _) cl.hd ha hn htk hm) I.kIn J e (λ z=>nomatch z) h
end
structure jq(k:Nat)(A:zAa):Prop where
 hd:A.handled=none
 dp:A.depth+3*k+5<zGp
 un:A.units+16*k+200<cLine
def jq.mono(r:jq k A)(h:j<=k):jq j A:=⟨r.hd,by have:=r.dp;lia,by have:=r.un;lia⟩
theorem jq.deeper(r:jq (k+1) A)(env:Env):jq k (A.deeper env):=
 ⟨r.hd,by have:=r.dp;show A.depth+1+3*k+5<_;lia,by have:=r.un;show A.units+3+16*k+200<_;lia⟩
theorem jq.depth(r:jq k A):A.depth<zGp:=by have:=r.dp;lia
theorem jq.units(r:jq k A):A.units+64<cLine:=by have:=r.un;lia
def jq.units0(r:jq k A):A.units<cLine:=by have:=r.un;lia
def z8:TA:=λ _ H Q=>Q [] H
def lJ(ta:TE)(tr:TA):TA:=λ Z H Q=>ta Z H λ x H1=>tr Z H1 λ xs H2=>Q (x::xs) H2
section
variable{X:Cx}{e:Expr}{es:List Expr}{te:TE}{t:TA}{pos:Pos}
def lD:PA X [] z8:=λ _ _ _ _ H Q I h=>zEu ⟨[],H,I,.nil,h⟩
def fD(ha:PE X e te)(hr:PA X es t)(hs:zAV (e::es) X.env=(false,eval e X.env)::zAV es X.env:=by rfl):PA X (e::es) (lJ te t):=by
 intro pos kK s Z H Q I h;rw[hs];show wpAny _ _ (spliced ((false,eval e X.env)::zCB pos (zAV es X.env))) _ _ s;refine zD5 (thn (ha kK s Z H _ I h) λ u s1 ⟨x,H1,I1,r1,q1⟩=>?_);exact thn (hr pos kK s1 Z H1 _ I1 q1) λ us s2 ⟨xs,H2,I2,r2,q2⟩=>⟨x::xs,H2,I2,.cons r1 r2,q2⟩
def aOj(t:TA):TE:=λ Z H Q=>t Z H λ xs H1=>xs.length<=zAS/\∀p,H1 p=none->Q (.ref p) (upd H1 p (.tup xs))
def aOn(t:TA):TE:=λ Z H Q=>t Z H λ xs H1=>xs.length<=zAS/\∀p,H1 p=none->Q (.ref p) (upd H1 p (.lst xs))
def aMJ{x1}(h:PA X es t):PE X (.Tuple es x1 pos) (aOj t):=by
 intro kK s Z H Q I hq;refine wpAny_Tuple_spliced (thn (h pos kK s Z H _ I hq) λ us s1 ⟨xs,H1,I1,r,z,q⟩=>⟨by rw[<-r.length];exact z,?_⟩);have hf:H1 s1.heap.objs.size=none:=I1.hok.fresh (zAM _);refine⟨.ref s1.heap.objs.size,upd H1 s1.heap.objs.size (.tup xs),I1.laid (t':=s1.toks) (λ b u e=>zAE _ e) (zAM _) ?_,rfl,q _ hf⟩;exact⟨⟨z,NoD.push _⟩,us,r,⟨_,zAL _ rfl,rfl,_,rfl⟩⟩
def aMN(h:PA X es t):PE X (.List es pos) (aOn t):=by
 intro kK s Z H Q I hq;refine wpAny_List_spliced (thn (h pos kK s Z H _ I hq) λ us s1 ⟨xs,H1,I1,r,z,q⟩=>⟨by rw[<-r.length];exact z,?_⟩);have hf:H1 s1.heap.objs.size=none:=I1.hok.fresh (zAM _);refine⟨.ref s1.heap.objs.size,upd H1 s1.heap.objs.size (.lst xs),I1.laid (t':=s1.toks) (λ b u e=>zAE _ e) (zAM _) ?_,rfl,q _ hf⟩;exact⟨z,us,0,r,zAL _ rfl⟩
end
abbrev Sp:=List V->Hp->VK->XK->Prop
abbrev CXT:=List Env->Hp->zAD->XK->Value->zAD->Prop
structure aIh(P:zAT)(w:World)(K:zAA)(mg:Str->Option Value)(base:Heap)(A:zAa)(outer:List Env)(s:zAD)(H:Hp):Prop where
 frames:A.frames=some outer
 mod:Mod K mg base
 bs:∀b o,base.get? b=some o->s.heap.get? b=some o/\H b=none
 bsz:base.objs.size<=s.heap.objs.size
 funs:s.heap.FunFrames base outer
 frf:∀b∈frs outer,H b=none
 hok:HOk P w H s.heap
 bare:zEh s.gens
def CE(outer:List Env)(P:zAT)(w:World)(H:Hp)(s:zAD)(Q:VK)(u:Value)(s':zAD):Prop:=
 ∃v H',s'.os=s.os/\zEh s'.gens/\Un (frs outer) [] H H' s.heap s'.heap/\HOk P w H' s'.heap/\RelV v u/\Q v H'
def CR(CX:CXT)(outer:List Env)(P:zAT)(w:World)(H:Hp)(s:zAD)(Q:VK)(E:XK)(r:zDl)(s':zAD):Prop:=
 match r with
 | .ok (.ret u)=>CE outer P w H s Q u s'
 | .ok _=>False
 | .error e=>CX outer H s E e s'
structure bu(P:zAT)(w:World)(K:zAA)(mg:Str->Option Value)(base:Heap)(CX:CXT)(k:Nat)(f:Addr)(fd:zA7)(ps:List Str)(sp:Sp):Prop where
 len:∀vs H Q E,sp vs H Q E->vs.length=ps.length
 run:∀(A:zAa) (outer:List Env) (s:zAD) (H:Hp) (args:Args) (us:List Value) (vs:List V) (Q:VK) (E:XK),jq k A->aIh P w K mg base A outer s H->zF5 s fd args (ps.zip us)->Vals vs us->sp vs H Q E->
  zBq (model P w) A (.call (.ref f) args) (CR CX outer P w H s Q E) s
def bu.imp{P:zAT}{w:World}{K:zAA}{mg:Str->Option Value}{base:Heap}{CX:CXT}{k:Nat}{f:Addr}{fd:zA7}{ps:List Str}{sp sp':Sp}(F:bu P w K mg base CX k f fd ps sp)
  (h:∀vs H Q E,sp' vs H Q E->sp vs H Q E):bu P w K mg base CX k f fd ps sp':=
 ⟨λ vs H Q E q=>F.len vs H Q E (h _ _ _ _ q),λ A outer s H args us vs Q E hr he hb hv hs=>F.run A outer s H args us vs Q E hr he hb hv (h _ _ _ _ hs)⟩
section
variable{X:Cx}{kK:hV}{Z:St}{H:Hp}{s s':zAD}
def Inv.env0(I:Inv X kK Z H s):aIh X.prog X.w X.K X.mg X.base X.A X.stack s H:=
 ⟨I.ok.frames,I.ok.mod,I.bs,zA6 I.ok.bsz I.sz,I.stack,I.stkFree,I.hok,I.bare⟩
def Inv.after(I:Inv X kK Z H s)(h:CE X.stack X.prog X.w H s Q u s'):EP X kK Z Q u s':=by
 obtain⟨v,H',os,bare,un,hok,r,q⟩:=h;obtain⟨hh,g,d,t,os'⟩:=s';obtain rfl:os'=s.os:=os;exact⟨v,H',I.call (h':=hh) (g':=g) (d':=d) (t':=t) (ch:=[]) un hok bare (λ b z=>absurd z (by simp)),r,q⟩
end
def aKy(sp:Sp)(dvs:List V)(E:XK)(t:TA):TE:=λ Z H Q=>t Z H λ vs H1=>sp (vs++dvs) H1 Q E
def tMeth(C:Addr)(m:Str)(sp:Sp)(dvs:List V)(E:XK)(ta:TE)(t:TA):TE:=λ Z H Q=>ta Z H λ x H1=>∃a dx fs,x= .ref a/\H1 a=some (.ins C dx fs)/\fs.lookup m=none/\
 t Z H1 λ vs H2=>sp (x::(vs++dvs)) H2 Q E
def tMake(C:Addr)(sp:Sp)(dvs:List V)(E:XK)(t:TA):TE:=λ Z H Q=>t Z H λ vs H1=>∀x dx,H1 x=none->H1 dx=none->dx≠x->
 sp (.ref x::(vs++dvs)) (upd (upd H1 dx (.own x)) x (.ins C dx [])) (λ v H2=>v= .non/\Q (.ref x) H2) E
def Binds(K:zAA)(fd:zA7)(ps:List Str)(ds:List Value):Prop:=
 ∀(s:zAD) (us:List Value),K.In s.heap->(us++ds).length=ps.length->zF5 s fd ⟨us,[]⟩ (ps.zip (us++ds))
def Binds.all{K:zAA}{fd:zA7}{ps:List Str}(h:∀us:List Value,us.length=ps.length->bindArgs fd ⟨us,[]⟩=pure (ps.zip us)):Binds K fd ps []:=λ s us _ hl=>by
 rw[zBX]at hl ⊢;exact .of_eq (h us hl)
def aBi(CX:CXT)(X:Cx)(E:XK):Prop:=∀(kK:hV) (Z:St) (H:Hp) (s:zAD) (e:Value) (s':zAD),Inv X kK Z H s->CX X.stack H s E e s'->X.xe e s'
section
variable{X:Cx}{CX:CXT}{k:Nat}{f:Addr}{fd:zA7}{ps:List Str}{sp:Sp}{dvs:List V}{ds:List Value}{E:XK}{x:Str}{p pos:Pos}{e:Expr}{es:List Expr}{t:TA}
def aLp(F:bu X.prog X.w X.K X.mg X.base CX k f fd ps sp)(hr:jq k X.A)(hb:Binds X.K fd ps ds)(hd:Vals dvs ds)(hx:aBi CX X E)
  (I:Inv X kK Z H s)(r:Vals vs us)(h:sp (vs++dvs) H Q E):wpAny (model X.prog X.w) X.A (call (.ref f) us) (EP X kK Z Q) X.xe s:=by
 have r2:Vals (vs++dvs) (us++ds):=r.append hd;have hl:(us++ds).length=ps.length:=by rw[<-r2.length];exact F.len _ _ _ _ h
 refine wpAny_call (zEC (F.run X.A X.stack s H ⟨us,[]⟩ (us++ds) (vs++dvs) Q E hr I.env0 (hb s us I.kIn hl) r2 h) λ r s' hq=>?_);cases r with
 |error e=>exact hx kK Z H s e s' I hq
 |ok fl=>
  cases fl with
  |ret u=>exact I.after hq
  |next=>exact zAN hq
  |brk=>exact zAN hq
  |cont=>exact zAN hq
def aJc(F:bu X.prog X.w X.K X.mg X.base CX k f fd ps sp)(hr:jq k X.A)(hg:Gl X x)(hm:X.mg x=some (.ref f))(hk:zCq X.K (.ref f)=true)(hb:Binds X.K fd ps ds)(hd:Vals dvs ds)(hx:aBi CX X E)
  (ha:PA X (e::es) t)(hdb:Nd x:=by decide)(he:zAV (e::es) X.env=(false,eval e X.env)::zAV es X.env:=by rfl)(hpl:(zCB pos (zAV es X.env)).any (·.1)=false:=by rfl):
  PE X (.Call (.Name x p) (e::es) [] pos) (aKy sp dvs E t):=by
 intro kK s Z H Q I h;refine zEE (aBT I hg hm ?_ hdb);refine PySem.W.callWith_K (h₀:=X.base) I.ok.mod.kin hk (thn (ha pos kK s Z H _ I h) λ us s1 ⟨vs,H1,I1,r,q⟩=>⟨I1.kIn,?_⟩) he hpl;exact aLp F hr hb hd hx I1 r q
end
structure aV(N P:List Str)(sc:Scope):Prop where
 kind:sc.kind= .function
 co:sc.isCoroutine=false
 gen:sc.isGenerator=false
 nd:N.Nodup
 pre:N.take P.length=P
 par:∀x∈P,sc.names.lookup x=some .local\/sc.names.lookup x=some .cell
 nofree:∀y∈sc.names,y.2≠.free
theorem aAo{zDI:Str->Option zDa}{x:Str}:∀{binds:List (Str×Value)} {m:Str->Option Value},(∀v,(x,v)∉binds)->bindL zDI binds m x=m x
 |[],_,_=>rfl
 |(n,v)::r,m,h=>by
  unfold bindL;rw[aAo λ w hw=>h w (zAI _ hw)];split
  .have:x≠n:=by rintro rfl;exact h v zAH
   simp[this]
  .rfl
theorem aAq{zDI:Str->Option zDa}{x:Str}:∀{binds:List (Str×Value)} {m:Str->Option Value},(∀v,(x,v)∉binds)->bindC zDI binds m x=m x
 |[],_,_=>rfl
 |(n,v)::r,m,h=>by
  unfold bindC;rw[aAq λ w hw=>h w (zAI _ hw)];split
  .rfl
  .have:x≠n:=by rintro rfl;exact h v zAH
   simp[this]
theorem aAp{zDI:Str->Option zDa}{x:Str}{v:Value}:∀{P:List Str} {vs:List Value} {i:Nat} {m:Str->Option Value},P.Nodup->P[i]? =some x->vs[i]? =some v->zDI x=some .local->
  bindL zDI (P.zip vs) m x=some v
 |[],_,_,_,_,h,_,_=>by simp at h
 |_::_,[],_,_,_,_,h,_=>by simp at h
 |p::P,w::vs,0,m,nd,h1,h2,hk=>by
  simp at h1 h2;subst h1;subst h2;show bindL zDI ((p,w)::P.zip vs) m p=_;unfold bindL;rw[aAo λ v hv=>(zBa.mp nd).1 (zCk hv).1,if_pos hk];simp
 |p::P,w::vs,i+1,m,nd,h1,h2,hk=>by
  show bindL zDI ((p,w)::P.zip vs) m x=_;unfold bindL;exact aAp (i:=i) (zBa.mp nd).2 (by simpa using h1) (by simpa using h2) hk
theorem aAr{zDI:Str->Option zDa}{x:Str}{v:Value}:∀{P:List Str} {vs:List Value} {i:Nat} {m:Str->Option Value},P.Nodup->P[i]? =some x->vs[i]? =some v->zDI x≠some .local->
  bindC zDI (P.zip vs) m x=some v
 |[],_,_,_,_,h,_,_=>by simp at h
 |_::_,[],_,_,_,_,h,_=>by simp at h
 |p::P,w::vs,0,m,nd,h1,h2,hk=>by
  simp at h1 h2;subst h1;subst h2;show bindC zDI ((p,w)::P.zip vs) m p=_;unfold bindC;rw[aAq λ v hv=>(zBa.mp nd).1 (zCk hv).1,if_neg hk];simp
 |p::P,w::vs,i+1,m,nd,h1,h2,hk=>by
  show bindC zDI ((p,w)::P.zip vs) m x=_;unfold bindC;exact aAr (i:=i) (zBa.mp nd).2 (by simpa using h1) (by simpa using h2) hk
def start(N:List Str)(vs:List V):St:=vs.map some++zAy (N.length-vs.length) none
def aCu(CX:CXT)(P:zAT)(w:World)(K:zAA)(mg:Str->Option Value)(base:Heap)(N:List Str)(qual:Str)(scope:Scope)(f:Addr)(cd:Value)(A:zAa)(outer:List Env)(s:zAD)(H:Hp)(E:XK):Cx where
 prog:=P
 w:=w
 K:=K
 mg:=mg
 base:=base
 A:=A.deeper (zE5 qual scope s.heap.objs.size f cd)
 N:=N
 zI:=s
 zD:=H
 env:=zE5 qual scope s.heap.objs.size f cd
 outer:=outer
 stack:=zE5 qual scope s.heap.objs.size f cd::outer
 ex:=[]
 calm:=true
 fn:=λ _=>true
 pn:=[]
 xe:=λ e s'=>wpAny (model P w) (A.deeper (zE5 qual scope s.heap.objs.size f cd)) (leaving (zE5 qual scope s.heap.objs.size f cd) e) (λ _ s''=>CX outer H s E e s'') (λ e' s''=>CX outer H s E e' s'') s'
def uF{sc:Scope}{n:Nat}{x:Str}(h:sc.names.lookup x=some .cell):∃c,(zDn n sc.names []).lookup x=some c:=by
 have q:=zFq sc.names n [] (.inl h);exact Option.isSome_iff_exists.mp q
def aGA{CX:CXT}{P:zAT}{w:World}{K:zAA}{mg:Str->Option Value}{base:Heap}{N ps:List Str}{qual:Str}{scope:Scope}{f:Addr}{cd:Value}{A:zAa}{outer:List Env}{s s1:zAD}{H:Hp}{E:XK}{us:List Value}{vs:List V}
  (S:aV N ps scope)(hd:A.handled=none)(e0:aIh P w K mg base A outer s H)(hl:vs.length=ps.length)(r:Vals vs us)
  (x:InCallC s s.heap.objs.size (bindL (zE5 qual scope s.heap.objs.size f cd).kindOf (ps.zip us) λ _=>none) (zDn (s.heap.objs.size+1) scope.names []) (bindC (zE5 qual scope s.heap.objs.size f cd).kindOf (ps.zip us) λ _=>none) s1):
  Inv (aCu CX P w K mg base N qual scope f cd A outer s H E) [] (start N vs) H s1:=by
 have hpl:ps.length<=N.length:=by have:=congrArg zEf S.pre;rw[zBp]at this;lia
 obtain⟨h1,tk,rfl,hk⟩:=x.done;have noA:∀b:Addr,b∉(aCu CX P w K mg base N qual scope f cd A outer s H E).ex:=λ b z=>absurd (show b∈([]:List Addr)from z) (by simp)
 refine⟨⟨e0.mod,S.kind,rfl,rfl,zAM _,λ y z c h1 h2=>?_,λ y hy=>?_,λ y c _ h=>?_,λ _=>hd,Around.frames_deeper e0.frames,.inr ⟨rfl,rfl⟩,λ b z=>absurd z (noA b),e0.bs,e0.bsz,λ b _ _=>noA b,λ b z=>absurd z (noA b),e0.funs,e0.frf⟩,
  rfl,e0.bare,Un.kept hk,⟨_,x.toInCall.ns,λ i y v h1 h2 h3=>?_⟩,λ y c h=>⟨_,x.cell y c h⟩,e0.hok.fresh (zAM _),λ y c h=>?_,λ p hp=>absurd (show p∈([]:hV)from hp) (by simp),e0.hok.kept hk,?_,λ p hp=>absurd (show p∈([]:hV)from hp) (by simp)⟩
 .exact name_of_addr x.apart (zAv h1) (zAv h2)
 .have hy:scope.names.lookup y=some .cell\/scope.names.lookup y=some .free:=hy
  rcases hy with hy|hy
  .exact uF hy
  .exact absurd rfl (S.nofree _ (zAv hy))
 .exact zBu (x.above y c (zAv h))
 .have hi:i<vs.length:=by
   unfold start at h2;by_cases hi:i<vs.length
   .exact hi
   .rw[zD6 (by simpa using hi)]at h2
    rw[zDz]at h2;split at h2<;>cases h2
  have ha:vs[i]? =some v:=by
   unfold start at h2;rw[zC2 (by simpa using hi),zA2]at h2;cases e:vs[i]? with
   |none=>rw[e]at h2;cases h2
   |some a=>rw[e]at h2;cases h2;rfl
  obtain⟨u,hu,rv⟩:=r.get ha;have hp:ps[i]? =some y:=by
   rw[<-S.pre,List.getElem?_take_of_lt (by lia)];exact h1
  have ndP:ps.Nodup:=by rw[<-S.pre];exact S.nd.sublist (List.take_sublist _ _)
  refine⟨u,rv,?_⟩;rcases S.par y (zBL hp)with k|k
  .exact .inl ⟨k,aAp ndP hp hu k⟩
  .obtain⟨c,e⟩:=uF (n:=s.heap.objs.size+1) k
   refine .inr ⟨.inl k,c,e,?_⟩;have q:=x.cell y c e;rw[aAr ndP hp hu (by show scope.names.lookup y≠_;rw[k];decide)]at q;exact q
 .exact e0.hok.fresh (zBu (x.above y c (zAv h)))
 .unfold start
  show _=N.length;rw[zAj,zAF,List.length_replicate];lia
def aO2{CX:CXT}{P:zAT}{w:World}{K:zAA}{mg:Str->Option Value}{base:Heap}{k:Nat}{f:Addr}{name qual:Str}{params:zFQ}{body:List Stmt}{scope:Scope}{dV kV doc pm cdv ct oc:Value}{an od:Option Addr}
  {osl:Array (Option Value)}{N ps:List Str}{sp:Sp}(lk:K.lookup f=some ⟨oc,od,.func (zBz name qual params body scope dV kV doc pm an cdv ct),osl⟩)(hcd:zD0 K cdv qual=true)(S:aV N ps scope)
  (len:∀vs H Q E,sp vs H Q E->vs.length=ps.length)
  (hbody:∀(A:zAa) (outer:List Env) (s:zAD) (H:Hp) (vs:List V) (Q:VK) (E:XK),jq k (A.deeper (zE5 qual scope s.heap.objs.size f cdv))->sp vs H Q E->
   ∃t,PSs (aCu CX P w K mg base N qual scope f cdv A outer s H E) body t/\t {nx:=λ _ H'=>Q .non H',rt:=Q} (start N vs) H):
  bu P w K mg base CX (k+1) f (zBz name qual params body scope dV kV doc pm an cdv ct) ps sp:=by
 refine⟨len,λ A outer s H args us vs Q E hr e0 hb r hsp=>?_⟩;have hl:=len _ _ _ _ hsp;have KX:K.In s.heap:=e0.mod.kin.keeps λ b o e=>(e0.bs b o e).1
 have lim:s.heap.NoLimit:=e0.mod.nolimit.keeps λ b o e=>(e0.bs b o e).1
 have hkind:∀y∈ps.zip us,scope.names.lookup y.1=some .local\/(scope.names.lookup y.1=some .cell/\((zDn (s.heap.objs.size+1) scope.names []).lookup y.1).isSome=true):=λ⟨n,v⟩ hy=>by
  rcases S.par n (zCk hy).1 with q|q
  .exact .inl q
  .exact .inr ⟨q,zFq _ _ _ (.inl q)⟩
 refine codeAny_call_function hr.depth (KX _ _ lk) rfl S.co S.gen rfl (PySem.W.codeRec_of KX hcd) (hb _ _ _ _ ?_);refine wpAny_newFunctionEnv_cells S.kind hkind λ env he s1 x=>?_
 subst he;refine⟨lim.keeps x.toInCall.keep,codeAny_func ?_⟩;obtain⟨t,ht,hq⟩:=hbody A outer s H vs Q E (hr.deeper _) hsp;have I:Inv (aCu CX P w K mg base N qual scope f cdv A outer s H E) [] (start N vs) H s1:=aGA S hr.hd e0 hl r x;refine zBN (ht [] s1 (start N vs) H _ I hq) (λ fl s' hs=>?_) λ e s' hs=>hs
 have fin:∀{Z':St} {H':Hp} {v:V} {u:Value},Inv (aCu CX P w K mg base N qual scope f cdv A outer s H E) [] Z' H' s'->RelV v u->Q v H'->CE outer P w H s Q u s':=
  λ{Z' H' v u} J rv q=>⟨v,H',J.os,J.bare,J.base,J.hok,rv,q⟩
 cases fl with
 |ret u=>
  obtain⟨v,Z',H',J,rv,q⟩:=hs;exact fin J rv q
 |next=>
  obtain⟨Z',H',J,q⟩:=hs;exact fin (v:=V.non) (u:=zBF) J rfl q
 |brk=>
  obtain⟨_,_,_,q⟩:=hs;exact zAN q
 |cont=>
  obtain⟨_,_,_,q⟩:=hs;exact zAN q
section
variable{X:Cx}{x:Str}{p pos:Pos}{e:Expr}{es:List Expr}{t:TA}{id T:String}{r:List V->Hp->VK->Prop}
def tCB(r:List V->Hp->VK->Prop)(t:TA):TE:=λ Z H Q=>t Z H λ vs H1=>r vs H1 Q
def oU(hc:gH X (.builtin id) r)(hg:Gl X x)(hm:X.mg x=none)(hv:zAw x=some (.builtin id))(ha:PA X (e::es) t)(hn:x≠"__name__":=by decide)(hdb:Nd x:=by decide)
  (he:zAV (e::es) X.env=(false,eval e X.env)::zAV es X.env:=by rfl)(hpl:(zCB pos (zAV es X.env)).any (·.1)=false:=by rfl):PE X (.Call (.Name x p) (e::es) [] pos) (tCB r t):=by
 intro kK s Z H Q I h;refine zEE (um I hg hm hv ?_ hn hdb);exact PyProof.Rows.callWith_builtin1 (thn (ha pos kK s Z H _ I h) λ us s1 ⟨vs,H1,I1,r1,q1⟩=>hc kK s1 Z H1 vs us Q I1 r1 q1) he hpl
def lO(hc:gH X (.type T) r)(hg:Gl X x)(hm:X.mg x=none)(hv:zAw x=some (.type T))(ha:PA X (e::es) t)(hn:x≠"__name__":=by decide)(hdb:Nd x:=by decide)
  (he:zAV (e::es) X.env=(false,eval e X.env)::zAV es X.env:=by rfl)(hpl:(zCB pos (zAV es X.env)).any (·.1)=false:=by rfl):PE X (.Call (.Name x p) (e::es) [] pos) (tCB r t):=by
 intro kK s Z H Q I h;refine zEE (um I hg hm hv ?_ hn hdb);exact zCF (thn (ha pos kK s Z H _ I h) λ us s1 ⟨vs,H1,I1,r1,q1⟩=>hc kK s1 Z H1 vs us Q I1 r1 q1) he hpl
end
end L2
namespace HT
open PySem PyProof.Rows
def lexLt:List Int->List Int->Bool
 |[],[]=>false
 |[],_::_=>true
 |_::_,[]=>false
 |x::xs,y::ys=>if x=y then lexLt xs ys else decide (x<y)
def j7(x y:Int)(xs ys:List Int):lexLt (x::xs) (y::ys)=if x=y then lexLt xs ys else decide (x<y):=rfl
def zu:lexLt [] []=false:=rfl
def yX(y:Int)(ys:List Int):lexLt [] (y::ys)=true:=rfl
def yZ(x:Int)(xs:List Int):lexLt (x::xs) []=false:=rfl
def aCp(A:zAa)(s:zAD)(a:Int)(t:Tok)(c:Int)(u:Tok):∃e,zC9 A s (.int a t) (.int c u) e/\(e=true↔a=c):=
 ⟨(a==c),zFz a t c u,by simp⟩
def aGw(A:zAa)(s:zAD)(a:Int)(t:Tok)(c:Int)(u:Tok)(prog:zAT)(w:World)(E:Value->zAD->Prop)(Q:Value->zAD->Prop)(h:Q (.bool (decide (a<c))) s):
  wpAny (model prog w) A (zGY .Lt (.int a t) (.int c u)) Q E s:=
 (zF2 h:wpAny (model prog w) A (zAs .Lt (.int a t) (.int c u)) Q E s)
section
open PySem.SeqAt
open PySem.AutoSeq1(wpAny_loadPart')
open PySem.MeetsSeq PySem.MeetsSeq2 PySem.MeetsSeq3
def z6(l b:Addr)(items items2:Array Value)(n n2:Nat)(dd dd2:Option Addr)(sl sl2:Array (Option Value))(ns ms:List Int)(hi:zBM items.toList ns)(hj:zBM items2.toList ms):
  Meets (zCY.«tuple.__lt__» ⟨[.ref l,.ref b],[]⟩)
   (λ _ R s=>s.heap.get? l=some {cls:=.type "tuple",dict:=dd,data:=.seq items n,slots:=sl}/\s.heap.get? b=some {cls:=.type "tuple",dict:=dd2,data:=.seq items2 n2,slots:=sl2}/\
    R (.ok (.ret (.bool (lexLt ns ms)))) s):=
 .of_wp λ prog w A R s h=>by
  obtain⟨hp,g,d,tk,os⟩:=s;obtain⟨hl,hb,h⟩:=h;have f2:=zFR;have z1:items.size=ns.length:=by rw[<-hi.length];simp
  have z2:items2.size=ms.length:=by rw[<-hj.length];simp
  wp_walk using zCZ hl,zCZ hb,zD3 _ (λ rest b s'=>b.1=none/\s'=⟨hp,g,d,tk,os⟩/\∃(vs ws:List Value) (ns' ms':List Int),rest=vs.zip ws/\
   zBM vs ns'/\zBM ws ms'/\ns'.length+items2.size=ms'.length+items.size/\R (.ok (.ret (.bool (lexLt ns' ms')))) ⟨hp,g,d,tk,os⟩) _
  case turn=>
   rintro⟨y,x⟩ rest b s' ⟨hb',rfl,vs,ws,ns',ms',hz,hvi,hwi,oQ,hR⟩;cases hvi with
   |nil=>rw[zH0]at hz;cases hz
   |cons a t hvi'=>
    cases hwi with
    |nil=>rw[zHG]at hz;cases hz
    |cons c u hwi'=>
     rw[zBA]at hz;injection hz with hyx b0
     injection hyx with hy hx
     subst hy hx;rw[j7]at hR;simp only[zA3]at oQ;obtain⟨e,he,hiff⟩:=aCp A.in1 ⟨hp,g,d,tk,os⟩ a t c u;refine zAB (he prog w _ _ ?_);cases e with
     |true=>
      rw[if_pos (hiff.mp rfl)]at hR;wp_walk;exact⟨rfl,rfl,_,_,_,_,b0,hvi',hwi',by lia,hR⟩
     |false=>
      rw[if_neg (λ q=>absurd (hiff.mpr q) zAX)]at hR;have hri:=aGw A.in1 ⟨hp,g,d,tk,os⟩ a t c u prog w;wp_walk using hri;exact⟨_,rfl,by simpa using hR⟩
  case fin=>
   rintro⟨b1,b2⟩ s' ⟨hb',rfl,vs,ws,ns',ms',hz,hvi,hwi,oQ,hR⟩;simp only at hb';subst hb';have hv:lexLt ns' ms'=decide (items.size<items2.size):=by
    cases hvi with
    |nil=>
     cases hwi with
     |nil=>
      simp only[zBE]at oQ;rw[zu];exact(decide_eq_false (by lia)).symm
     |cons c u hw=>
      simp only[zBE,zA3]at oQ;rw[yX];exact(decide_eq_true (by lia)).symm
    |cons a t hv=>
     cases hwi with
     |nil=>
      simp only[zBE,zA3]at oQ;rw[yZ];exact(decide_eq_false (by lia)).symm
     |cons c u hw=>
      rw[zBA]at hz;cases hz
   rw[hv]at hR;wp_walk;exact⟨_,rfl,by simpa[zEP]using hR⟩
  case h=>
   exact⟨rfl,rfl,items.toList,items2.toList,ns,ms,rfl,hi,hj,by lia,h⟩
end
section
variable{prog:zAT}{w:World}{A:zAa}{E:Value->zAD->Prop}{s:zAD}
def aDs(hl:IsTup s.heap l items)(hb:IsTup s.heap b items2)(hi:zBM items.toList ns)(hj:zBM items2.toList ms)
  (hu:A.units<cLine)(h:Q (.bool (lexLt ns ms)) s):wpAny (model prog w) A (zAs .Lt (.ref l) (.ref b)) Q E s:=by
 obtain⟨⟨cls,dd,data,sl⟩,ho,hc,n,hd⟩:=id hl;obtain⟨⟨cls2,dd2,data2,sl2⟩,ho2,hc2,n2,hd2⟩:=id hb;simp only at hc hd hc2 hd2;subst hc hd hc2 hd2;exact zH9 (op:=.Lt) ⟨_,ho,rfl⟩ ⟨_,ho2,rfl⟩ PySem.F.slot_tuple_lt PySem.F.entry_tuple_lt (PySem.F.args_tuple_lt_2 _ _) (z6 l b items items2 n n2 dd dd2 sl sl2 ns ms hi hj)
  ⟨ho,ho2,show zDm (lexLt ns ms)≠zGc/\Q (.bool (lexLt ns ms)) s from⟨(λ x=>nomatch x),h⟩⟩ hu
def aKk(ht:IsTup s.heap t vs.toArray)(hb:IsTup s.heap b ws.toArray)(hv:vs≠[])
  (h1:ws=[]->Q (.ref t) s)(h2:ws≠[]->Q (.ref s.heap.objs.size) {s with heap:=s.heap.push {cls:=.type "tuple",data:=.seq (vs++ws).toArray}})
  (hsz:vs.length+ws.length<=zAS):wpAny (model prog w) A (zBy .Add (.ref t) (.ref b)) Q E s:=by
 obtain⟨⟨cls,dd,data,sl⟩,ho,hc,n,hd⟩:=id ht;obtain⟨⟨cls2,dd2,data2,sl2⟩,ho2,hc2,n2,hd2⟩:=id hb;simp only at hc hd hc2 hd2;subst hc hd hc2 hd2;have e:vs.toArray++ws.toArray=(vs++ws).toArray:=by simp
 by_cases hw:ws=[]
 .exact zHu ⟨_,ho,rfl⟩ ⟨_,ho2,rfl⟩ zGD zHN zDx zDk (zDc _ _)
   (tuple_addW1 t b vs.toArray ws.toArray n n2 dd dd2 sl sl2 (by simpa using hv) (by simp[hw])) ⟨ho,ho2,h1 hw⟩
 .refine zHu ⟨_,ho,rfl⟩ ⟨_,ho2,rfl⟩ zGD zHN zDx zDk (zDc _ _)
   (tuple_addW2 t b vs.toArray ws.toArray n n2 dd dd2 sl sl2 (by simpa using hv) (by simpa using hw) (by rw[zAP,zAP];exact hsz)) ⟨ho,ho2,?_⟩
  rw[e];exact h2 hw
def sIx(n d:Nat):Option Int->Nat
 |none=>d
 |some v=>if v<0 then(v+(n:Int)).toNat else min v.toNat n
def aLo(n d:Nat)(hd:d<=n)(o:Option Int):sIx n d o<=n:=by
 cases o with
 |none=>exact hd
 |some v=>
  show(if v<0 then(v+(n:Int)).toNat else min v.toNat n)<=n
  by_cases hv:v<0
  .rw[if_pos hv];lia
  .rw[if_neg hv];exact Nat.min_le_right _ _
def aFV(v:Int)(n d:Nat):(if v<0 then max (v+(n:Int)) 0 else min v (n:Int))=((sIx n d (some v):Nat):Int):=by
 show(if v<0 then max (v+(n:Int)) 0 else min v (n:Int))=(((if v<0 then(v+(n:Int)).toNat else min v.toNat n):Nat):Int)
 by_cases hv:v<0
 .simp only[if_pos hv];lia
 .simp only[if_neg hv];lia
def aEZ(lo hi:Option Int)(n:Nat):zDC lo hi 1 (n:Int)=(((sIx n 0 lo:Nat):Int),((sIx n n hi:Nat):Int)):=by
 have h1:¬((1:Int)<0):=by lia
 unfold zDC;simp only[h1,if_false];refine zGL ?_ ?_
 .cases lo with
  |none=>rfl
  |some v=>exact aFV v n 0
 .cases hi with
  |none=>rfl
  |some v=>exact aFV v n n
def aDg(i j:Nat):zCJ (i:Int) (j:Int) 1=j-i:=by
 unfold zCJ;have h1:(1:Int)>0:=by lia
 simp only[h1,if_true,Int.ediv_one];split<;>lia
def xT(p:zFS v o)(h:Q o s):wpAny (model prog w) A (zI7 v) Q E s:=by
 cases p with
 |none=>exact slicePart_none h
 |int i t=>exact slicePart_int h
def lL{sl:Addr}{vl vu:Value}{lo hi:Option Int}{n:Nat}{Q:Int×Int×Nat->zAD->Prop}(hs:s.heap.IsSliceOf sl vl vu .none)(pl:zFS vl lo)(pu:zFS vu hi)
  (h:Q (((sIx n 0 lo:Nat):Int),1,sIx n n hi-sIx n 0 lo) s):wpAny (model prog w) A (zEc (.ref sl) (pure (n:Int))) Q E s:=by
 obtain⟨os,hos,hcs,hds⟩:=id hs;unfold zEc zI6;refine zAB (zAB (zDO hos hds (x:=vl) rfl (zAB (zDO hos hds (x:=vu) rfl (zAB (zDO hos hds (x:=.none) rfl (zAG ?_)))))));refine zAB (slicePart_none ?_);show wpAny _ _ (if ((1:Int)==0)=true then _ else _) _ _ s;rw[if_neg (by decide)];refine zAB (xT pl (zAB (xT pu (zAB (zAG ?_)))));show wpAny _ _ (match zDC lo hi 1 (n:Int)with|(lo,hi)=>pure (lo,(1:Int),zCJ lo hi 1)) _ _ s;rw[aEZ lo hi n];show wpAny _ _ (pure (((sIx n 0 lo:Nat):Int),(1:Int),zCJ ((sIx n 0 lo:Nat):Int) ((sIx n n hi:Nat):Int) 1)) _ _ s;rw[aDg];exact zAG h
def aHP(xs:Array Value)(i k:Nat):((zAf k).filterMap λ(m:Nat)=>xs[((i:Int)+(m:Int)*1).toNat]?).toArray=((xs.toList.drop i).take k).toArray:=by
 have e:(λ(m:Nat)=>xs[((i:Int)+(m:Int)*1).toNat]?)=λ m=>xs[i+m]?:=by
  funext m
  have:((i:Int)+(m:Int)*1).toNat=i+m:=by lia
  rw[this]
 rw[e]
 have:=pick_run xs i k
 rw[List.filterMap_map]at this;have e2:((λ x=>xs[x]?)∘λ x=>i+x)=λ m=>xs[i+m]?:=rfl
 rw[e2]at this;rw[this]
def tM{t sl:Addr}{items:Array Value}{vl vu:Value}{lo hi:Option Int}{Q:Value->zAD->Prop}(ht:IsTup s.heap t items)(hs:s.heap.IsSliceOf sl vl vu .none)(pl:zFS vl lo)(pu:zFS vu hi)
  (hw:¬(sIx items.size 0 lo=0/\sIx items.size items.size hi=items.size))
  (h:Q (.ref s.heap.objs.size) {s with heap:=s.heap.push {cls:=.type "tuple",data:=.seq ((items.toList.drop (sIx items.size 0 lo)).take (sIx items.size items.size hi-sIx items.size 0 lo)).toArray}})
  (hsz:items.size<=zAS):wpAny (model prog w) A (zEm (.ref t) (.ref sl)) Q E s:=by
 have bE:sizeOk (.seq ((items.toList.drop (sIx items.size 0 lo)).take (sIx items.size items.size hi-sIx items.size 0 lo)).toArray):=by
  show((items.toList.drop (sIx items.size 0 lo)).take (sIx items.size items.size hi-sIx items.size 0 lo)).toArray.size<=zAS
  rw[zAP,zBp,zC7,zA0];lia
 have hj:sIx items.size items.size hi<=items.size:=aLo _ _ (zAM _) hi;obtain⟨os,hos,hcs,hds⟩:=id hs;have hTs:s.TypeIs (.ref sl) "slice":=⟨os,hos,hcs⟩;unfold zEm
 try with_reducible refine zB2 ?_
 first|refine zAB (zAG ?_)|skip
 refine zAB (zIv ht.typeIs (by decide) ?_);refine zAB (zB1 (name:=zDD "__getitem__") ht.typeIs zBY
  (zB7 zBY ht.typeIs zIN ?_ (zI0 _ _)))
 show wpAny _ _ (zEd (.ref t)>>=_) _ _ s;refine zAB (tupleItemsOf_ ht ?_);refine zAB (zCr hTs ?_);rw[if_pos (by decide)];refine zAB (lL hs pl pu ?_);have hno:¬((((sIx items.size 0 lo:Nat):Int)==0&&(1:Int)==1&&(sIx items.size items.size hi-sIx items.size 0 lo)==items.size)=true):=by
  intro q;rw[zAW,zAW]at q;have q1:((sIx items.size 0 lo:Nat):Int)=0:=zFV q.1.1;have q2:sIx items.size items.size hi-sIx items.size 0 lo=items.size:=zFV q.2;exact hw ⟨by lia,by lia⟩
 show wpAny _ _ (if (((sIx items.size 0 lo:Nat):Int)==0&&(1:Int)==1&&(sIx items.size items.size hi-sIx items.size 0 lo)==items.size)=true then _ else _) _ _ s;rw[if_neg hno,aHP]
 first
  |exact zAB (m:=zCP _) (zBH (zAG ⟨_,rfl,zAG h⟩) bE)
  |exact zAB (m:=zCP _) (zBH (zAB (zAG (zAG ⟨_,rfl,zAG h⟩))) bE)
  |exact zAB (zAB (m:=zCP _) (zBH (zAG (zAG ⟨_,rfl,zAG h⟩)) bE))
  |exact zAB (zAB (m:=zCP _) (zBH (zAG ⟨_,rfl,zAG h⟩) bE))
end
end HT
namespace L2
open PySem PySem.Spec PyProof.Rows
abbrev TO:=St->Hp->(Option Int->Hp->Prop)->Prop
def PO(X:Cx)(e:Option Expr)(t:TO):Prop:=
 ∀(kK:hV) (s:zAD) (Z:St) (H:Hp) (Q:Option Int->Hp->Prop),Inv X kK Z H s->t Z H Q->
  wpAny (model X.prog X.w) X.A (evalPart e X.env) (λ u s'=>∃o H',Inv X kK Z H' s'/\zFS u o/\Q o H') X.xe s
def aIs:TO:=λ _ H Q=>Q none H
def aN6(t:TE):TO:=λ Z H Q=>t Z H λ x H1=>∃i,x= .int i/\Q (some i) H1
def intsAre_of:∀{us:List Value},Vals (ns.map V.int) us->zBM us ns:=by
 induction ns with
 |nil=>intro us r;rw[zEX]at r;cases r;exact .nil
 |cons n ns ih=>
  intro us r;rw[zAC]at r;cases r with
  |cons r1 r2=>
   obtain⟨t,e⟩:=r1;subst e;exact .cons n t (ih r2)
section
variable{X:Cx}{e:Expr}{te:TE}{lo hi:Option Expr}{tl th:TO}{pos p2:Pos}
def aJ4:PO X none aIs:=by
 intro kK s Z H Q I h;rw[evalPart_none];exact zAG ⟨none,H,I,.none,h⟩
def aJ3(h:PE X e te):PO X (some e) (aN6 te):=by
 intro kK s Z H Q I hw;rw[evalPart_some];refine thn (h kK s Z H _ I hw) λ u s1 ⟨x,H1,I1,r1,q1⟩=>?_
 obtain⟨i,rfl,q⟩:=q1;obtain⟨t,rfl⟩:=r1;exact⟨some i,H1,I1,.int i t,q⟩
def SlR(X:Cx)(r:V->Option Int->Option Int->Hp->VK->Prop):Prop:=
 ∀(kK:hV) (s:zAD) (Z:St) (H:Hp) (x:V) (v vl vu:Value) (lo hi:Option Int) (sl:Addr) (Q:VK),Inv X kK Z H s->RelV x v->s.heap.IsSliceOf sl vl vu .none->zFS vl lo->zFS vu hi->r x lo hi H Q->
  ∃T id,zDh (.type T) "__getitem__"=pure (some (.builtin id))/\s.TypeIs v T/\wpAny (model X.prog X.w) X.A (zEm v (.ref sl)) (EP X kK Z Q) X.xe s
def SlR.or(h:SlR X r)(h':SlR X r'):SlR X (λ x lo hi H Q=>r x lo hi H Q\/r' x lo hi H Q):=by
 intro kK s Z H x v vl vu lo hi sl Q I rx hs pl pu q;rcases q with q|q
 .exact h kK s Z H x v vl vu lo hi sl Q I rx hs pl pu q
 .exact h' kK s Z H x v vl vu lo hi sl Q I rx hs pl pu q
def tSl(r:V->Option Int->Option Int->Hp->VK->Prop)(te:TE)(tl th:TO):TE:=λ Z H Q=>te Z H λ x H1=>tl Z H1 λ l H2=>th Z H2 λ u H3=>r x l u H3 Q
def aCR(hr:SlR X r)(he:PE X e te)(hl:PO X lo tl)(hu:PO X hi th):PE X (.Subscript e (.Slice lo hi none p2) pos) (tSl r te tl th):=by
 intro kK s Z H Q I h;refine zIg (thn (he kK s Z H _ I h) λ v s1 ⟨x,H1,I1,r1,q1⟩=>?_);refine wpAny_Slice (thn (hl kK s1 Z H1 _ I1 q1) λ vl s2 ⟨l,H2,I2,pl,q2⟩=>thn (hu kK s2 Z H2 _ I2 q2) λ vu s3 ⟨u,H3,I3,pu,q3⟩=>?_);rw[evalPart_none];refine zAG ?_;have I4:Inv X kK Z H3 {s3 with heap:=s3.heap.push {cls:=.type "slice",data:=.fields #[vl,vu,.none]}}:=I3.kept (t':=s3.toks) λ b ob q=>zAE _ q
 obtain⟨T,id,hT,ht,hg⟩:=hr kK {s3 with heap:=s3.heap.push {cls:=.type "slice",data:=.fields #[vl,vu,.none]}} Z H3 x v vl vu l u s3.heap.objs.size Q I4 r1 (zIU ..) pl pu q3;show wpAny (model X.prog X.w) X.A (zHP e (.Slice lo hi none p2) v (.ref s3.heap.objs.size)) (EP X kK Z Q) X.xe {s3 with heap:=s3.heap.push {cls:=.type "slice",data:=.fields #[vl,vu,.none]}};exact tail_any (ops:=[.ref s3.heap.objs.size,v]) ht hT hg (by with_unfolding_all rfl)
def zR(xs:List V)(lo hi:Option Int):List V:=(xs.drop (HT.sIx xs.length 0 lo)).take (HT.sIx xs.length xs.length hi-HT.sIx xs.length 0 lo)
def vf(xs:List V)(lo hi:Option Int):(zR xs lo hi).length<=xs.length:=by
 unfold zR;rw[zBp,zC7];lia
def aJS(K:zAA):R2:=λ x y H Q=>∃a b ns ms,x= .ref a/\y= .ref b/\SqT K H a (ns.map V.int)/\SqT K H b (ms.map V.int)/\Q (.bl (HT.lexLt ns ms)) H
def aM4(hu:X.A.units<cLine):OpR X (zAs .Lt) (aJS X.K):=by
 intro kK s Z H x y v u Q I rx ry h;obtain⟨a,b,ns,ms,rfl,rfl,ha,hb,q⟩:=h;cases rx;cases ry;obtain⟨its,r1,p1,_⟩:=I.tuple ha;obtain⟨its2,r2,p2,_⟩:=I.tuple hb;have i1:zBM its.toArray.toList ns:=intsAre_of r1;have i2:zBM its2.toArray.toList ms:=intsAre_of r2;exact HT.aDs p1 p2 i1 i2 hu ⟨.bl (HT.lexLt ns ms),H,I,rfl,q⟩
def aNu(K:zAA):R2:=λ x y H Q=>∃a b xs ys,x= .ref a/\y= .ref b/\SqT K H a xs/\SqT K H b ys/\xs≠[]/\xs.length+ys.length<=zAS/\
 (ys=[]->Q (.ref a) H)/\(ys≠[]->∀p,H p=none->Q (.ref p) (upd H p (.tup (xs++ys))))
def Vals.nil_iff(r:Vals xs us):us=[]↔xs=[]:=by
 cases r with
 |nil=>simp
 |cons _ _=>simp
def aJo:OpR X (zBy .Add) (aNu X.K):=by
 intro kK s Z H x y v u Q I rx ry h;obtain⟨a,b,xs,ys,rfl,rfl,ha,hb,hx,hz,q1,q2⟩:=h;cases rx;cases ry;obtain⟨its,r1,p1,_⟩:=I.tuple ha;obtain⟨its2,r2,p2,_⟩:=I.tuple hb;refine HT.aKk p1 p2 (λ z=>hx (r1.nil_iff.mp z)) (λ z=>⟨.ref a,H,I,rfl,q1 (r2.nil_iff.mp z)⟩) (λ z=>?_) (by rw[<-r1.length,<-r2.length];exact hz);refine⟨.ref s.heap.objs.size,_,I.laid (t':=s.toks) (o:=.tup (xs++ys)) (λ b ob q=>zAE _ q) (zAM _) ?_,rfl,q2 (λ w=>z (r2.nil_iff.mpr w)) _ (I.hok.fresh (zAM _))⟩;exact⟨⟨by rw[zAj];exact hz,NoD.push _⟩,_,r1.append r2,zHh _ _⟩
end
def ixN(n:Nat)(i:Int):Option Nat:=if 0<=i then(if i<n then some i.toNat else none)else if -(n:Int)<=i then some (i+n).toNat else none
def atI{α:Type}(xs:List α)(i:Int):Option α:=(ixN xs.length i).bind λ j=>xs[j]?
def aKK(h:ixN n i=some j):seqIndex? i n=some j/\j<n/\-(n:Int)<=i/\i<n:=by
 unfold ixN at h;by_cases h0:0<=i
 .rw[if_pos h0]at h
  by_cases h1:i<n
  .rw[if_pos h1]at h
   have e:i.toNat=j:=zAq h;exact⟨by rw[seqIndex_of h0 h1,e],by lia,by lia,h1⟩
  .rw[if_neg h1]at h;cases h
 .rw[if_neg h0]at h
  by_cases h1: -(n:Int)<=i
  .rw[if_pos h1]at h
   have e:(i+n).toNat=j:=zAq h;exact⟨by rw[seqIndex_neg (by lia) h1,e],by lia,h1,by lia⟩
  .rw[if_neg h1]at h;cases h
def aBd(h:atI xs i=some v):∃j,seqIndex? i xs.length=some j/\xs[j]? =some v/\j<xs.length/\-(xs.length:Int)<=i/\i<xs.length:=by
 unfold atI at h;cases e:ixN xs.length i with
 |none=>rw[e]at h;cases h
 |some j=>
  rw[e]at h;obtain⟨h1,h2,h3,h4⟩:=aKK e;exact⟨j,h1,h,h2,h3,h4⟩
def aBh(b:Expr):Prop:=∀o i,zGZ b false o i=operate [o,i] (zEm o i)
def IxR(X:Cx)(r:R2):Prop:=
 ∀(value slice:Expr) (kK:hV) (s:zAD) (Z:St) (H:Hp) (x y:V) (v u:Value) (Q:VK),Inv X kK Z H s->RelV x v->RelV y u->r x y H Q->
  zGZ slice false v u=operate [v,u] (zEm v u)->wpAny (model X.prog X.w) X.A (zHP value slice v u) (EP X kK Z Q) X.xe s
def MtR(X:Cx)(id:String)(r:V->List V->Hp->VK->Prop):Prop:=
 ∀(kK:hV) (s:zAD) (Z:St) (H:Hp) (x:V) (xs:List V) (v:Value) (us:List Value) (Q:VK),Inv X kK Z H s->RelV x v->Vals xs us->r x xs H Q->
  wpAny (model X.prog X.w) X.A (call (.builtin id) (v::us)) (EP X kK Z Q) X.xe s
section
variable{X:Cx}{a b:Expr}{ta tb:TE}{pos:Pos}
def IxR.or(h:IxR X r)(h':IxR X r'):IxR X (λ x y H Q=>r x y H Q\/r' x y H Q):=by
 intro value slice kK s Z H x y v u Q I rx ry q hs;rcases q with q|q
 .exact h value slice kK s Z H x y v u Q I rx ry q hs
 .exact h' value slice kK s Z H x y v u Q I rx ry q hs
def aOC{r:R2}(hr:IxR X r)(ha:PE X a ta)(hb:PE X b tb)(hs:aBh b):PE X (.Subscript a b pos) (tOp r ta tb):=by
 intro kK s Z H Q I h;exact zIg (aNO ha hb I h λ v u s2 x y H2 I2 rx ry q=>hr a b kK s2 Z H2 x y v u Q I2 rx ry q (hs _ _))
def aNt(K:zAA):R2:=λ x y H Q=>∃p xs i v,x= .ref p/\y= .int i/\SqL K H p xs/\atI xs i=some v/\Q v H
def aNr(K:zAA):R2:=λ x y H Q=>∃p xs i v,x= .ref p/\y= .int i/\SqT K H p xs/\atI xs i=some v/\Q v H
def aNs:R2:=λ x y H Q=>∃z i c,x= .str z/\y= .int i/\z.length<=zAS/\atI z.cps.toList i=some c/\Q (.str ⟨#[c]⟩) H
def aKJ:IxR X (aNt X.K):=by
 intro value slice kK s Z H x y v u Q I rx ry h hs;obtain⟨p,xs,i,z,rfl,rfl,hq,he,q⟩:=h;cases rx;obtain⟨t,rfl⟩:=ry;obtain⟨its,r,pl,hz⟩:=I.list hq;obtain⟨j,h1,h2,h3,h4,h5⟩:=aBd he;obtain⟨w,ew,rw'⟩:=r.get h2;have hl:=r.length;have hn:=yW;have fin:EP X kK Z Q w s:=⟨z,H,I,rw',q⟩;by_cases h0:0<=i
 .have hj:i.toNat=j:=by
   rw[seqIndex_of h0 h5]at h1;exact zAq h1
  exact item_listR pl.isList h0 (by lia) (by rw[hj];simpa using ew) fin hs
 .have hj:(i+(its.toArray.size:Int)).toNat=j:=by
   rw[seqIndex_neg (by lia) h4]at h1;rw[zAP,<-hl];exact zAq h1
  exact zHa (x:=w) pl.isList.typeIs zIn.lookup
   (wpAny_getItem_list_neg (Q:=λ r s'=>r=w/\EP X kK Z Q r s') pl.isList (by lia) (by rw[zAP]<;>lia) (by lia) (by rw[hj];simpa using ew) ⟨rfl,fin⟩) hs
def aMt:IxR X (aNr X.K):=by
 intro value slice kK s Z H x y v u Q I rx ry h hs;obtain⟨p,xs,i,z,rfl,rfl,hq,he,q⟩:=h;cases rx;obtain⟨t,rfl⟩:=ry;obtain⟨its,r,pl,hz⟩:=I.tuple hq;obtain⟨j,h1,h2,h3,h4,h5⟩:=aBd he;obtain⟨w,ew,rw'⟩:=r.get h2;have hl:=r.length;have hn:=yW;have fin:EP X kK Z Q w s:=⟨z,H,I,rw',q⟩;exact zHa (x:=w) pl.typeIs slot_tuple_getitem.lookup
  (getItem_tuple (j:=j) (Q:=λ r s'=>r=w/\EP X kK Z Q r s') pl (by lia) (by lia) (by rw[zAP,<-hl];exact h1) (by simpa using ew) ⟨rfl,fin⟩) hs
def aMu:IxR X aNs:=by
 intro value slice kK s Z H x y v u Q I rx ry h hs;obtain⟨z,i,c,rfl,rfl,hz,he,q⟩:=h;obtain⟨t,rfl⟩:=rx;obtain⟨t',rfl⟩:=ry;obtain⟨j,h1,h2,h3,h4,h5⟩:=aBd he;have hl:z.cps.toList.length=z.length:=by simp[Str.length]
 rw[hl]at h1 h4 h5;have hn:=yW;exact tail_any (zES s z t) slot_str_getitem.lookup (getItem_str (c:=c) (by
  have e1:decide (i < -(2^63:Int))=false:=decide_eq_false (by lia);have e2:decide (i ≥ 2^63)=false:=decide_eq_false (by lia);rw[e1,e2,Bool.or_false]) (by rw[h1];simpa using h2) ⟨.str ⟨#[c]⟩,H,I.tok _,⟨_,rfl⟩,q⟩) hs
def rIx(K:zAA):R2:=λ x y H Q=>aNt K x y H Q\/aNr K x y H Q\/aNs x y H Q
def aMv:IxR X (rIx X.K):=aKJ.or (aMt.or aMu)
def aAw(lo hi:Option Int)(n:Nat):(zDo lo hi none n).1=((HT.sIx n 0 lo:Nat):Int)/\(zDo lo hi none n).2.1=((HT.sIx n n hi:Nat):Int)/\(zDo lo hi none n).2.2=1:=by
 refine⟨?_,?_,rfl⟩
 .cases lo with
  |none=>simp[zDo,HT.sIx]
  |some i=>
   simp only[zDo,HT.sIx,zHI,show(1:Int)>0 by decide,if_true];by_cases h:i<0
   .simp only[h,if_true]<;>lia
   .simp only[h,if_false]<;>lia
 .cases hi with
  |none=>simp[zDo,HT.sIx]
  |some i=>
   simp only[zDo,HT.sIx,zHI,show(1:Int)>0 by decide,if_true];by_cases h:i<0
   .simp only[h,if_true]<;>lia
   .simp only[h,if_false]<;>lia
def z9(its:List Value)(lo hi:Option Int):slicePick its.toArray lo hi none=((its.drop (HT.sIx its.length 0 lo)).take (HT.sIx its.length its.length hi-HT.sIx its.length 0 lo)).toArray:=by
 obtain⟨h1,h2,h3⟩:=aAw lo hi its.toArray.size;unfold slicePick;rw[h1,h2,h3];simp only[sliceRange_one,pick_run,zAP]<;>rfl
def aNo(K:zAA):V->Option Int->Option Int->Hp->VK->Prop:=λ x lo hi H Q=>∃a xs,x= .ref a/\SqL K H a xs/\∀p,H p=none->Q (.ref p) (upd H p (.lst (zR xs lo hi)))
def aJA:SlR X (aNo X.K):=by
 intro kK s Z H x v vl vu lo hi sl Q I rx hs pl pu h;obtain⟨a,xs,rfl,hx,q⟩:=h;cases rx;obtain⟨its,r,ht,hz⟩:=I.list hx;have oQ:=r.length;refine⟨"list",_,zIn.lookup,ht.isList.typeIs,?_⟩;refine wpAny_getItem_list_slice ht.isList hs pl pu .none (by simp) ?_ (by rw[zAP]<;>lia);rw[z9,<-oQ];refine⟨.ref s.heap.objs.size,_,I.laid (t':=s.toks) (o:=.lst (zR xs lo hi)) (λ b ob q=>zAE _ q) (zAM _) ?_,rfl,q _ (I.hok.fresh (zAM _))⟩;exact⟨zA6 (vf xs lo hi) hz,_,0,(r.drop (HT.sIx xs.length 0 lo)).take (HT.sIx xs.length xs.length hi-HT.sIx xs.length 0 lo),zAL _ rfl⟩
def aB8:gH X (.builtin "len") (λ xs H Q=>∃p ys,xs=[.ref p]/\(SqL X.K H p ys\/SqT X.K H p ys)/\Q (.int ys.length) H):=by
 intro kK s Z H xs us Q I r h;obtain⟨p,ys,rfl,hq,q⟩:=h;obtain⟨u,rfl,rx⟩:=vals1 r;cases rx;have hn:=yW;rcases hq with hq|hq
 .obtain⟨its,r',pl,hz⟩:=I.list hq
  have oQ:=r'.length;exact Calls.call_len_list pl.isList (by simp only[zAP]<;>lia) ⟨.int ys.length,H,I.tok _,⟨s.toks+1,by rw[zAP,oQ]⟩,q⟩
 .obtain⟨its,r',pl,hz⟩:=I.tuple hq
  have oQ:=r'.length;exact len_tuple pl (by simp only[zAP]<;>lia) ⟨.int ys.length,H,I.tok _,⟨s.toks+1,by rw[zAP,oQ]⟩,q⟩
def aAD:gH X (.type "tuple") (λ xs H Q=>∃p ys,xs=[.ref p]/\((SqL X.K H p ys/\∀l,H l=none->Q (.ref l) (upd H l (.tup ys)))\/(SqT X.K H p ys/\Q (.ref p) H))):=by
 intro kK s Z H xs us Q I r h;obtain⟨p,ys,rfl,h⟩:=h;obtain⟨u,rfl,rx⟩:=vals1 r;cases rx;rcases h with ⟨hq,q⟩|⟨hq,q⟩
 .obtain⟨its,r',pl,hz⟩:=I.list hq
  have oQ:=r'.length;refine call_tuple_list pl.isList (λ h' kp=>?_) (by simp only[zAP]<;>lia);have I1:Inv X kK Z H {s with heap:=h'}:=I.kept (t':=s.toks) kp;have I2:Inv X kK Z (upd H h'.objs.size (.tup ys)) {s with heap:=h'.push {cls:=.type "tuple",data:=.seq its.toArray}}:=
   I1.laid (t':=s.toks) (λ b o e=>zAE _ e) (zAM _) (show cO X.prog X.w _ _ _ (.tup ys)from⟨⟨hz,NoD.push _⟩,its,r',zHh _ _⟩)
  exact⟨.ref h'.objs.size,_,I2,rfl,q _ (I1.hok.fresh (zAM _))⟩
 .obtain⟨its,r',pl,hz⟩:=I.tuple hq
  exact call_tuple_same pl ⟨.ref p,H,I,rfl,q⟩
def tyV(K:zAA)(T:String)(x:V)(H:Hp):Prop:=match x with
 | .str _=>T="str"
 | .int _=>T="int"
 | .ref p=>(T="list"/\∃xs,SqL K H p xs)\/(T="tuple"/\∃o,K.lookup p=some o/\o.cls= .type "tuple"/\o.dict=none)\/
   (T="dict"/\((∃kvs,H p=some (.dK kvs))\/∃kvs,H p=some (.dT kvs)))\/(T="set"/\∃S n,H p=some (.set S n))
 |_=>False
def aG2(I:Inv X kK Z H s)(r:RelV x v)(ty:tyV X.K T x H):
  s.TypeIs v T/\∀a,v= .ref a->∃ob,s.heap.get? a=some ob/\ob.dict=none:=by
 cases x with
 |str z=>
  obtain⟨t,rfl⟩:=r;cases (show T="str" from ty);exact⟨zES s z t,λ _ e=>nomatch e⟩
 |int i=>
  obtain⟨t,rfl⟩:=r;cases (show T="int" from ty);exact⟨zIo s i t,λ _ e=>nomatch e⟩
 |ref p=>
  cases r;rcases ty with ⟨rfl,xs,hq⟩|⟨rfl,o,hk,hc,hd⟩|⟨rfl,hk⟩|⟨rfl,S,n,hk⟩
  .obtain⟨its,_,pl,_⟩:=I.list hq
   refine⟨pl.isList.typeIs,λ a e=>?_⟩;cases e;obtain⟨o,n,e,c,hd,_⟩:=pl;exact⟨o,e,hd⟩
  .refine⟨⟨o,I.kIn p o hk,hc⟩,λ a e=>?_⟩
   cases e;exact⟨o,I.kIn _ o hk,hd⟩
  .have z:∃o,s.heap.get? p=some o/\o.ExactDict:=by
    rcases hk with ⟨kvs,hk⟩|⟨kvs,hk⟩
    .obtain⟨_,_,_,_,o,_,_,e,ex,_⟩:=I.hok p _ hk
     exact⟨o,e,ex⟩
    .obtain⟨_,_,_,_,o,_,_,e,ex,_⟩:=I.hok p _ hk
     exact⟨o,e,ex⟩
   obtain⟨o,e,ex⟩:=z;refine⟨⟨o,e,ex.1⟩,λ a e2=>?_⟩;cases e2;exact⟨o,e,ex.2.1⟩
  .obtain⟨o,_,_,_,e,ex,_⟩:=I.hok p _ hk
   refine⟨⟨o,e,ex.1⟩,λ a e2=>?_⟩;cases e2;exact⟨o,e,ex.2.1⟩
 |_=>exact zAN ty
def aLd(K:zAA)(T:String)(r:V->List V->Hp->VK->Prop)(to:TE):TE:=λ Z H Q=>to Z H λ x H1=>tyV K T x H1/\r x [] H1 Q
def tBM(K:zAA)(T:String)(r:V->List V->Hp->VK->Prop)(to:TE)(t:TA):TE:=λ Z H Q=>to Z H λ x H1=>tyV K T x H1/\t Z H1 λ xs H2=>r x xs H2 Q
variable{o e:Expr}{es:List Expr}{to:TE}{t:TA}{name:Str}{apos cpos:Pos}{T id:String}{r:V->List V->Hp->VK->Prop}
def aMQ(pa:PlainAttrs T)(slot:Slot T name id)(hty:typeOf (.builtin id)=pure (.type "method_descriptor"))(hm:MtR X id r)(ho:PE X o to)
  (hbase:zCM o name X.env (eval o X.env)=eval o X.env:=by rfl)(hline:(apos.endLine==cpos.line)=true:=by rfl):PE X (.Call (.Attribute o name apos) [] [] cpos) (aLd X.K T r to):=by
 intro kK s Z H Q I h;refine wpAny_Call_method0_late hbase hline (thn (ho kK s Z H _ I h) λ v s1 ⟨x,H1,I1,r1,ty,q1⟩=>?_);obtain⟨h1,h2⟩:=aG2 I1 r1 ty;exact⟨T,id,pa,slot,hty,h1,h2,zCp rfl (PySem.evalArgs_none (hm kK s1 Z H1 x [] v [] Q I1 r1 .nil q1))⟩
def aEv(pa:PlainAttrs T)(slot:Slot T name id)(hty:typeOf (.builtin id)=pure (.type "method_descriptor"))(hm:MtR X id r)(ho:PE X o to)(ha:PA X (e::es) t)
  (hbase:zCM o name X.env (eval o X.env)=eval o X.env:=by rfl)
  (hfew:((zCB cpos (zAV (e::es) X.env)).all (λ x=>!x.1)&&(zE2 cpos (zCo [] X.env)).all (λ x=>x.1.isSome)
   &&decide ((e::es).length+([]:List zCA).length+(if ([]:List zCA).isEmpty then 0 else 1)<30))=true:=by rfl)
  (hline:(apos.endLine==cpos.line)=true:=by rfl)(hs:zAV (e::es) X.env=(false,eval e X.env)::zAV es X.env:=by rfl)(hplain:(zCB cpos (zAV es X.env)).any (·.1)=false:=by rfl):
  PE X (.Call (.Attribute o name apos) (e::es) [] cpos) (tBM X.K T r to t):=by
 intro kK s Z H Q I h;refine wpAny_Call_method_late hbase hfew hline rfl (thn (ho kK s Z H _ I h) λ v s1 ⟨x,H1,I1,r1,ty,q1⟩=>?_);obtain⟨h1,h2⟩:=aG2 I1 r1 ty;refine⟨T,id,pa,slot,hty,h1,h2,?_⟩;have hA:=ha cpos kK s1 Z H1 _ I1 q1;rw[hs]at hA ⊢;refine zCp (by show(false||(zCB cpos (zAV es X.env)).any (·.1))=false;rw[hplain]<;>rfl) (zDE ?_);exact thn hA λ us s2 ⟨vs,H2,I2,r2,q2⟩=>hm kK s2 Z H2 x vs v us Q I2 r1 r2 q2
end
def MtM(X:Cx)(id:String)(r:V->List V->Hp->VK->Prop):Prop:=
 ∀(kK:hV) (s:zAD) (Z:St) (H:Hp) (x:V) (xs:List V) (v:Value) (us:List Value) (Q:VK),Inv X kK Z H s->RelV x v->Vals xs us->r x xs H Q->
  wpAny (model X.prog X.w) X.A (call (.builtin id) (v::us)) (EP X kK Z Q) X.xe s
def Vals.one:∀{x:V} {us:List Value},Vals [x] us->∃u,us=[u]/\RelV x u
 |_,_,.cons r .nil=>⟨_,rfl,r⟩
theorem Vals.rep(h:Vals xs us):∀k:Nat,Vals (zAy k xs).flatten (zAy k us).flatten
 |0=>.nil
 |k+1=>by
  rw[zB6,zB6,zB5,zB5];exact Vals.append h (Vals.rep h k)
theorem foldl_rep(its:List Value):∀(k:Nat) (acc:List Value),
  zHW (λ x1 x2=>x1++x2) acc.toArray (zAy k its.toArray)=(acc++(zAy k its).flatten).toArray
 |0,acc=>by simp
 |k+1,acc=>by
  have e:acc.toArray++its.toArray=(acc++its).toArray:=by simp
  have e2:(acc++its)++(zAy k its).flatten=acc++(zAy (k+1) its).flatten:=by
   rw[zB6,zB5,zBG]
  rw[<-e2,<-foldl_rep its k (acc++its),<-e,zB6,zBP]
section
variable{X:Cx}{kK:hV}{Z:St}{H:Hp}{s:zAD}{l:Addr}{xs ys:List V}
def Inv.lset{its its':List Value}{n:Nat}{f:Array Value->Array Value}{t':Nat}(I:Inv X kK Z H s)(hH:H l=some (.lst xs))
  (e:s.heap.get? l=some {cls:=.type "list",data:=.seq its.toArray n})(hf:f its.toArray=its'.toArray)(hv:Vals ys its')(hz:ys.length<=zAS):
  Inv X kK Z (upd H l (.lst ys)) {s with heap:=s.heap.update l (zCH f),toks:=t'}:=by
 have q:=PySem.IsL.update e f;rw[hf]at q;refine I.write (x:=l) (e:=l) (by rw[hH];exact trivial) (.inl rfl) (λ b' u hb hu=>(Heap.get?_update_other s.heap (zCH f) (zDR hb)).trans hu) ⟨_,q⟩ ?_;exact⟨hz,its',_,hv,q⟩
def Inv.lnew(I:Inv X kK Z H s)(hv:Vals ys its)(hz:ys.length<=zAS):
  Inv X kK Z (upd H s.heap.objs.size (.lst ys)) {s with heap:=s.heap.push {cls:=.type "list",data:=.seq its.toArray},toks:=t'}:=
 I.laid (λ _ _ q=>zAE _ q) (zAM _) ⟨hz,its,0,hv,zAL _ rfl⟩
theorem Inv.fresh(I:Inv X kK Z H s):H s.heap.objs.size=none:=I.hok.fresh (zAM _)
def Inv.lstM(I:Inv X kK Z H s)(hH:H l=some (.lst xs)):xs.length<=zAS/\∃(its:List Value) (n:Nat),Vals xs its/\xs.length=its.length/\s.heap.get? l=some {cls:=.type "list",data:=.seq its.toArray n}:=by
 obtain⟨z,its,n,r,e⟩:=I.hok l _ hH;exact⟨z,its,n,r,r.length,e⟩
def aH3(h:n<=zAS):zDQ n=false:=by
 unfold zDQ;exact decide_eq_false (by lia)
end
section
variable{X:Cx}
def aJU:V->List V->Hp->VK->Prop:=λ x vs H Q=>∃l xs y,x= .ref l/\vs=[y]/\H l=some (.lst xs)/\xs.length<zAS/\Q .non (upd H l (.lst (xs++[y])))
def aAY:MtM X "list.append" aJU:=by
 intro kK s Z H x vs v us Q I rx rv h;obtain⟨l,xs,y,rfl,rfl,hH,hz,q⟩:=h;cases rx;obtain⟨u,rfl,ru⟩:=rv.one;obtain⟨z,its,n,r,hl,e⟩:=I.lstM hH;refine zDg zG4 ⟨_,e,rfl⟩ F.entry_list_append (F.args_list_append_2 _ _) (PySem.list_append l its.toArray n u (by rw[zAP];lia)) ⟨e,?_⟩;refine⟨.non,_,I.lset (its':=its++[u]) hH e (by simp) (r.append (.cons ru .nil)) ?_,rfl,q⟩;rw[zAj,zEW];lia
def aOu:R2:=λ x y H Q=>∃l b xs zs,x= .ref l/\y= .ref b/\H l=some (.lst xs)/\H b=some (.lst zs)/\xs.length+zs.length<=zAS/\∀p,H p=none->Q (.ref p) (upd H p (.lst (xs++zs)))
def aMa:OpR X (zBy .Add) aOu:=by
 intro kK s Z H x y v u Q I rx ry h;obtain⟨l,b,xs,zs,rfl,rfl,hH,hB,hz,q⟩:=h;cases rx;cases ry;obtain⟨z,its,n,r,hl,e⟩:=I.lstM hH;obtain⟨z2,its2,n2,r2,hl2,e2⟩:=I.lstM hB;refine PySem.P.add_list e e2 ?_ (by rw[zAP,zAP];lia);have ea:its.toArray++its2.toArray=(its++its2).toArray:=by simp
 rw[ea];exact⟨.ref _,_,I.lnew (t':=s.toks) (r.append r2) (by rw[zAj];lia),rfl,q _ I.fresh⟩
def aNq:R2:=λ x y H Q=>∃l k xs,x= .ref l/\y= .int k/\H l=some (.lst xs)/\-(2^63)<=k/\k<2^63/\xs.length*k.toNat<=zAS/\
 ∀p,H p=none->Q (.ref p) (upd H p (.lst (zAy k.toNat xs).flatten))
def len_rep(xs:List α)(k:Nat):(zAy k xs).flatten.length=k*xs.length:=by
 induction k with
 |zero=>simp
 |succ k ih=>rw[zB6,zB5,zAj,ih,Nat.succ_mul,Nat.add_comm]
def aMY:OpR X (zBy .Mult) aNq:=by
 intro kK s Z H x y v u Q I rx ry h;obtain⟨l,k,xs,rfl,rfl,hH,h1,h2,hz,q⟩:=h;cases rx;obtain⟨t,rfl⟩:=ry;obtain⟨z,its,n,r,hl,e⟩:=I.lstM hH;have oQ:its.toArray.size*k.toNat<=zAS:=by rw[zAP,<-hl];exact hz
 have hcap:¬its.toArray.size*k.toNat>(2^63-1) / 8:=by
  have:(zAS:Nat)<=(2^63-1) / 8:=by decide
  lia
 have hfit:¬(!zCx k)=true:=by
  rw[fitsIndex_both h1 h2];exact zAX
 have hlong:¬zDQ (its.toArray.size*k.toNat)=true:=by
  rw[aH3 oQ];exact zAX
 have hnew:zHW (λ x1 x2=>x1++x2) #[] (zAy (if its.toArray.isEmpty=true then 0 else k.toNat) its.toArray)=(zAy k.toNat its).flatten.toArray:=by
  have f0:∀m:Nat,zHW (λ x1 x2=>x1++x2) #[] (zAy m its.toArray)=(zAy m its).flatten.toArray:=λ m=>by
   have:=foldl_rep its m []
   rw[zF1]at this;exact this
  rw[f0];cases its with
  |nil=>simp
  |cons a r'=>rw[if_neg (by simp)]
 refine wpAny_binaryOp_repeat_ref (T:="list") (U:="int") (by decide) ⟨_,e,rfl⟩ (λ s'=>zIo s' k t) noFill_list_mul F.fills_int_mul zIa repeat_list F.slot_int_index.lookup
  (zDg zIa (zIo s k t) F.entry_int_rmul (F.args_int_rmul_2 _ _) (int___rmul___int_list k t l its.toArray n)
   ⟨e,rfl,⟨_,e,rfl⟩,zDg F.slot_list_mul ⟨_,e,rfl⟩ F.entry_list_mul (F.args_list_mul_2 _ _) (AutoListH.list___mul___list_int_3 l its.toArray n k t hfit hcap hlong) ⟨e,?_⟩⟩)
 rw[hnew];exact⟨.ref _,_,I.lnew (t':=s.toks) (r.rep k.toNat) (by rw[len_rep,Nat.mul_comm];exact hz),rfl,q _ I.fresh⟩
end
end L2
namespace Att
open PySem PySem.W PySem.Calls PyProof.Rows
def wK:∀(ns:List Int) (vs:List Value),WellAll P h vs (ns.map WData.int)->zBM vs ns:=by
 intro ns;induction ns with
 |nil=>
  intro vs w;rw[zEX]at w;cases w;exact .nil
 |cons n ns ih=>
  intro vs w;rw[zAC]at w;cases w with
  |cons a b=>
   cases a;exact .cons _ _ (ih _ b)
def aFc{l:OpenLaw}{n:Nat}(hn:l.most=some n){P:Params}{h:Heap}{args:List WData}{vals:List Value}
  (hpre:l.row.toRowW.claim.pre args=true)(hwl:WellAll P h vals args):
  ∃a vs ns,vals=[zAr a]/\args=[WData.list (ns.map WData.int)]/\h.get? a=some {cls:=.type "list",data:=.seq vs.toArray}/\zBM vs ns/\ns.length<=n:=by
 have hsh:WShape.hasAll [] args [.list .int]=true:=(pre_splitW hpre).1;have hc:l.pre.holds [] {args:=args}=true:=(pre_splitW hpre).2;obtain⟨d,r,rfl,h1,h2⟩:=hasAllW_cons hsh;obtain rfl:=hasAllW_nil h2;obtain⟨xs,rfl,h3⟩:=hasW_list h1;obtain⟨ns,rfl⟩:=items_int h3;have oQ:ns.length<=n:=by
  unfold OpenLaw.pre at hc;have h4:(WTm.not (.lt (.lit (.int (n:Int))) (.len (.arg 0)))).holds [] {args:=[.list (ns.map .int)]}=true:=by
   have h4:=(holds_andW hc).1;rw[hn]at h4;exact h4
  have h5:=condW_of h4 (w_not (w_lt w_lit (w_len_list (w_arg rfl))));rw[zAF]at h5;refine zIG λ q=>?_
  have q':(n:Int)<((ns.length:Nat):Int):=by lia
  first
   |(rw[decide_eq_true q']at h5;exact absurd h5 (by decide))
   |(simp at h5;lia)
 cases hwl with
 |cons w1 w2=>
  cases w2;cases w1 with
  |list ho qV=>exact⟨_,_,ns,rfl,rfl,ho,wK ns _ qV,oQ⟩
def aFk(l:OpenLaw)(args:List WData):l.row.toRowW.claim.post args (.bool true) args=true:=
 postW_of (r:=l.row.toRowW) (X:=(true==true))
  (show WShape.has [] (.bool true) .bool=true by first|rfl|decide|simp[WShape.has,WShape.arms,WShape.armsAll])
  (show(WTm.eq .res (.lit (.bool true))).value [] {args:=args,res:=some (.bool true),after:=args}=some (.bool (true==true))from w_eq_bool (w_res rfl) w_lit) rfl
def aDC{l:OpenLaw}{n:Nat}{q:zAT}{loose:List Str}{XP:(Str->Option Value)->Heap->Prop}{YP:World->Heap->Prop}{d:DefRec}
  (hn:l.most=some n)(hdf:d.params.defaults=[])
  (call:∀(w:World) (zI zC:zAD) (mg mb:Str->Option Value) (fa:Addr) (o:Obj) (pm cd doc:Value) (a:Addr) (vs:List Value) (ns:List Int),
   Ground q loose [] XP w zI mg mb zC.heap->YP w zC.heap->
   zC.heap.get? fa=some o->o.data= .func (docDef d.name d.params d.body d.scope pm cd doc)->zC.heap.CodeRec cd d.name->mg d.name=some (.ref fa)->
   zC.heap.get? a=some {cls:=.type "list",data:=.seq vs.toArray}->zBM vs ns->ns.length<=n->zC.gens=#[]->
   zBq (model l.prog w) zFH (.call (.ref fa) ⟨[.ref a],[]⟩) (λ r s'=>r= .ok (.ret (.bool true))/\OldK zC.heap s'.heap/\s'.os=zC.os/\zEh s'.gens) zC):
  WalkO q loose XP YP l.row.toRowW d [] (λ f vs=>zHJ f vs):=by
 intro w zI zC mg mb G Y fa o pm cd doc dV kV ho hd hcd hD hmg hg args vals as hpre hlay hrd hwl hlo;obtain rfl:dV= .none:=Dflts.none hD hdf;obtain rfl:kV= .none:=Dflts.noKw hD;obtain⟨a,vs,ns,rfl,rfl,hobj,hints,oQ⟩:=aFc hn hpre hwl;refine enter_call (zEC (call w zI zC mg mb fa o pm cd doc a vs ns G Y ho (fd_plain hd) hcd hmg hobj hints oQ hg) λ r s' hq=>?_);obtain⟨rfl,h2,h3,h4⟩:=hq;exact⟨.inl ⟨.bool true,.bool true,[],rfl,λ _=>rfl,.bool true,aFk l _,λ _=>⟨zF7,λ _ hm=>(nomatch hm)⟩⟩,h2,h3,h4⟩
section
variable{prog:zAT}{w:World}{A:zAa}{E:Value->zAD->Prop}{s:zAD}{K:Frag}
def make_obj(X:K.In s.heap)(hm:makesIn K C=true)(hi:findIn K (.ref C) "__init__"=some (some (.ref fI)))(hf:isFn K (.ref fI)=true)
  (h:zBq (model prog w) (A.under (.builtin "type.__call__" ⟨.ref C::rest,kw⟩)) (.call (.ref fI) ⟨.ref (s.heap.objs.size+1)::rest,kw⟩) (InitBack (s.heap.objs.size+1) R)
   {s with heap:=(s.heap.push emptyDict).push (instObj C s.heap.objs.size)}):zBq (model prog w) A (.call (.ref C) ⟨rest,kw⟩) R s:=by
 obtain⟨hh,g,d,t,os⟩:=s;exact make_core (makes_of X hm) (looks_findIn X hi) (λ self=>bind_fn X self (beq_iff_eq.mp hf)) (.inl rfl) h
def get_field(X:K.In s.heap)(I:zH3 s.heap x ox C (some (dictOf es n)))(hg:plainGet K C name=true)(hh:hasDictIn K C=true)(ha:findIn K (.ref C) name=some none)
  (hl:getL name es=some (some v))(hv:handedIn v=true)(h:Q v {s with toks:=s.toks+1}):wpAny (model prog w) A (getAttr (.ref x) name expr) Q E s:=
 get_value X I (plainGet_of hg).1 (findObj_own hh ha rfl hl) hv h
def ledger(h:Heap)(L d:Addr):hV:=(zAf h.objs.size).filterMap λ a=>if a=L\/a=d then none else(h.get? a).map λ o=>(a,o)
end
end Att
namespace L2
open PySem PySem.Spec PyProof.Rows
theorem aAK:∀{vs:List Value} {ns:List Int},zBM vs ns->Vals (ns.map V.int) vs
 |_,_,.nil=>.nil
 |_,_,.cons n t h=>.cons ⟨t,rfl⟩ (aAK h)
def Only(H:Hp):Prop:=∀b,H b=none\/∃o xs,H b=some (.frz o (.lst xs))
def aHf{P:zAT}{w:World}{K:zAA}{mg mb:Str->Option Value}{CX:CXT}{k:Nat}{fa a:Addr}{fd:zA7}{x:Str}{sp:Sp}{zC:zAD}{vs:List Value}{ns:List Int}
  (KX:K.In zC.heap)(hns:zC.heap.Ns zA9 mg)(hb:zC.heap.Ns zIk mb)(hbb:∀x:Str,x≠"__name__"->mb x=zAw x)(hlim:zC.heap.NoLimit)(hg:zC.gens=#[])
  (ha:zC.heap.get? a=some {cls:=.type "list",data:=.seq vs.toArray})(hi:zBM vs ns)(hl:ns.length<=zAS)(hr:jq k zFH)
  (F:∀base:Heap,K.In base->base.Ns zA9 mg->bu P w K mg base CX k fa fd [x] sp)(hbind:∀(s:zAD) (u:Value),zF5 s fd ⟨[u],[]⟩ [(x,u)])
  (hsp:∀H:Hp,Only H->SqL K H a (ns.map V.int)->sp [.ref a] H (λ v _=>v= .bl true) λ _ _ _=>False)
  (hCX:∀H e s',CX [] H zC (λ _ _ _=>False) e s'->False):
  zBq (model P w) zFH (.call (.ref fa) ⟨[.ref a],[]⟩) (λ r s'=>r= .ok (.ret (.bool true))/\OldK zC.heap s'.heap/\s'.os=zC.os/\zEh s'.gens) zC:=by
 have rv:=aAK hi;have lenV:=hi.length;have core:∀H:Hp,Only H->SqL K H a (ns.map V.int)->HOk P w H zC.heap->(∀b,H b≠none->b=a)->(H a≠none->K.lookup a=none)->
   zBq (model P w) zFH (.call (.ref fa) ⟨[.ref a],[]⟩) (λ r s'=>r= .ok (.ret (.bool true))/\OldK zC.heap s'.heap/\s'.os=zC.os/\zEh s'.gens) zC:=by
  intro H hO hS hok hA hK;have base_of:∀{b:Addr} {o:Obj},zC.heap.get? b=some o->H b=none->(aBY zC.heap H).get? b=some o:=λ e n=>aHy e n
  have noA:∀{b:Addr} {o:Obj} {es:Array DictEntry} {ep:Nat},zC.heap.get? b=some o->o.data= .dict es ep->H b=none:=λ{b o es ep} e d=>by
   cases q:H b with
   |none=>rfl
   |some u=>
    have e':b=a:=hA b (by rw[q];simp);subst e';rw[ha]at e;cases e;have d':Data.seq vs.toArray _=Data.dict es ep:=d;cases d'
  have nsK:∀{b:Addr} {m:Str->Option Value},zC.heap.Ns b m->(aBY zC.heap H).Ns b m:=λ{b m} ⟨o,es,ep,e,d,r⟩=>⟨o,es,ep,base_of e (noA e d),d,r⟩
  have hKb:K.In (aBY zC.heap H):=λ b o e=>base_of (KX b o e) (by
   cases q:H b with
   |none=>rfl
   |some u=>
    have e':b=a:=hA b (by rw[q];simp);subst e';rw[hK (by rw[q];simp)]at e;cases e)
  have hM:Mod K mg (aBY zC.heap H):=⟨hKb,nsK hns,⟨mb,nsK hb,hbb⟩,let⟨mc,h1,h2⟩:=hlim;⟨mc,nsK h1,h2⟩⟩;have e0:aIh P w K mg (aBY zC.heap H) zFH [] zC H:=⟨rfl,hM,λ b o e=>aJs e,zGh (aGE _ _),trivial,λ b hb=>absurd (show b∈([]:List Addr)from hb) (by simp),hok,.of_eq hg⟩;refine zEC ((F _ hKb (nsK hns)).run zFH [] zC H ⟨[.ref a],[]⟩ [.ref a] [.ref a] _ _ hr e0 (hbind zC (.ref a)) (.cons rfl .nil) (hsp H hO hS)) λ r s' h=>?_
  cases r with
  |error e=>exact(hCX H e s' h).elim
  |ok fl=>
   cases fl with
   |next=>exact zAN h
   |brk=>exact zAN h
   |cont=>exact zAN h
   |ret u=>
    obtain⟨v,H',os,bare,un,hok',r',q⟩:=h;have q':v= .bl true:=q;subst q';obtain rfl:u=zDm true:=r';refine⟨rfl,OldK.of_keep λ b o e=>?_,os,bare⟩;cases q:H b with
    |none=>exact un.keep b o e q (by intro z;exact absurd (show b∈([]:List Addr)from z) (by simp)) (by simp)
    |some u=>
     rcases hO b with z|⟨ob,xs,z⟩
     .rw[q]at z;cases z
     .have z2:=un.frzs b ob _ z
      obtain⟨e1,_⟩:=hok b _ z;obtain⟨e2,_⟩:=hok' b _ z2;rw[e]at e1;cases e1;exact e2
 cases hk:K.lookup a with
 |some o=>
  have e:=KX a o hk;rw[ha]at e;cases e;refine core (λ _=>none) (λ _=>.inl rfl) (.inr ⟨_,vs.toArray,_,hk,rfl,rfl,rfl,by rw[zAP,lenV];exact hl,by simpa using rv⟩) (λ b u z=>by have z':(none:Option HO)=some u:=z;cases z') (λ b z=>absurd rfl z) λ z=>absurd rfl z
 |none=>
  refine core (λ b=>if b=a then some (.frz {cls:=.type "list",data:=.seq vs.toArray} (.lst (ns.map V.int)))else none) (λ b=>?_) (.inl (.inr ⟨{cls:=.type "list",data:=.seq vs.toArray},if_pos rfl⟩)) (λ b u z=>?_) (λ b z=>?_) λ _=>hk
  .by_cases hb:b=a
   .exact .inr ⟨_,_,if_pos hb⟩
   .exact .inl (if_neg hb)
  .by_cases hb:b=a
   .have z':=(if_pos hb).symm.trans z
    cases z';subst hb;exact⟨ha,by rw[zAF];exact hl,vs,_,rv,ha⟩
   .have z':=(if_neg hb).symm.trans z
    cases z'
  .by_cases hb:b=a
   .exact hb
   .exact absurd (if_neg hb) z
def aIo{l:zFF}{n k:Nat}{q:zAT}{loose:List Str}{XP:(Str->Option Value)->Heap->Prop}{YP:World->Heap->Prop}{d:DefRec}{K:Params->zAA}{CX:World->CXT}{sp:World->Sp}{x:Str}
  (hn:l.most=some n)(hn2:n<=zAS)(hdf:d.params.defaults=[])(hr:jq k zFH)
  (hY:∀(w:World) (h:Heap),YP w h->(K w.params).In h)
  (F:∀(w:World) (mg:Str->Option Value) (fa:Addr) (h:Heap),(K w.params).In h->h.Ns zA9 mg->mg d.name=some (.ref fa)->
   ∃fd:zA7,(∀(s:zAD) (u:Value),zF5 s fd ⟨[u],[]⟩ [(x,u)])/\
    ∀base:Heap,(K w.params).In base->base.Ns zA9 mg->bu l.prog w (K w.params) mg base (CX w) k fa fd [x] (sp w))
  (hsp:∀(w:World) (H:Hp) (a:Addr) (ns:List Int),ns.length<=n->Only H->SqL (K w.params) H a (ns.map V.int)->sp w [.ref a] H (λ v _=>v= .bl true) λ _ _ _=>False)
  (hCX:∀(w:World) (H:Hp) (s:zAD) (e:Value) (s':zAD),CX w [] H s (λ _ _ _=>False) e s'->False):
  zHs q loose XP YP l.row.toRowW d [] (λ f vs=>zHJ f vs):=by
 refine Att.aDC hn hdf λ w zI zC mg mb fa o pm cd doc a vs ns G Y ho hd hcd hmg hobj hints oQ hg=>?_
 have KX:=hY w _ Y;obtain⟨fd,hb,hF⟩:=F w mg fa _ KX G.T.g hmg;exact aHf KX G.T.g G.T.b G.T.builtins G.T.nolimit hg hobj hints (zA6 oQ hn2) hr hF hb (λ H hO hS=>hsp w H a ns oQ hO hS) λ H e s'=>hCX w H zC e s'
def pZ(s:Stmt):zFQ:=match s with
 | .FunctionDef _ a _ _ _ _ _ _ _ _=>a
 |_=>{posonlyargs:=[],args:=[],vararg:=none,kwonlyargs:=[],kw_defaults:=[],kwarg:=none,defaults:=[]}
def iR(s:Stmt):List Stmt:=match s with
 | .FunctionDef _ _ b _ _ _ _ _ _ _=>b
 |_=>[]
def aP(s:Stmt):Scope:=match s with
 | .FunctionDef _ _ _ _ _ _ sc _ _ _=>sc
 |_=>{kind:=.function,names:=[],isGenerator:=false,isCoroutine:=false}
abbrev CX0:CXT:=λ _ _ _ _ _ _=>False
abbrev E0:XK:=λ _ _ _=>False
structure Fun(K:zAA)(x qual:Str)(st:Stmt)(f:Addr)(fd:zA7):Prop where
 ex:∃(oc:Value) (od:Option Addr) (kV doc pm:Value) (an:Option Addr) (cdv ct:Value) (osl:Array (Option Value)),
  fd=zBz x qual (pZ st) (iR st) (aP st) .none kV doc pm an cdv ct/\K.lookup f=some ⟨oc,od,.func fd,osl⟩/\zD0 K cdv qual=true
 kp:zCq K (.ref f)=true
section
variable{K:zAA}
def Fun.binds{x qual:Str}{st:Stmt}{f:Addr}{fd:zA7}{ps:List Str}(F:Fun K x qual st f fd)
  (h:∀(kV doc pm:Value) (an:Option Addr) (cdv ct:Value) (us:List Value),us.length=ps.length->bindArgs (zBz x qual (pZ st) (iR st) (aP st) .none kV doc pm an cdv ct) ⟨us,[]⟩=pure (ps.zip us)):Binds K fd ps []:=by
 obtain⟨oc,od,kV,doc,pm,an,cdv,ct,osl,rfl,lk,hcd⟩:=F.ex;exact .all (h kV doc pm an cdv ct)
def aND{x qual:Str}{st:Stmt}{f:Addr}{oc:Value}{od an:Option Addr}{osl:Array (Option Value)}{kV doc pm cdv ct:Value}(l:K.lookup f=some ⟨oc,od,.func (zBz x qual (pZ st) (iR st) (aP st) .none kV doc pm an cdv ct),osl⟩)
  (c:zD0 K cdv qual=true)(k:zCq K (.ref f)=true):Fun K x qual st f (zBz x qual (pZ st) (iR st) (aP st) .none kV doc pm an cdv ct):=⟨⟨oc,od,kV,doc,pm,an,cdv,ct,osl,rfl,l,c⟩,k⟩
end
def aW(H H':Hp):Prop:=∀b o,H b=some o->H' b=some o
def aW.refl(H:Hp):aW H H:=λ _ _ h=>h
def aW.trans(a:aW H H1)(b:aW H1 H2):aW H H2:=λ c o h=>b c o (a c o h)
def aW.free(e:aW H H')(h:H' l=zG7):H l=zG7:=by
 cases q:H l with
 |none=>rfl
 |some o=>
  rw[e l o q]at h;cases h
end L2
set_option maxHeartbeats 4000000
namespace HT
open PySem PyProof.Rows
def lexLe:List Int->List Int->Bool
 |[],_=>true
 |_::_,[]=>false
 |x::xs,y::ys=>if x=y then lexLe xs ys else decide (x<=y)
def aDy(x y:Int)(xs ys:List Int):lexLe (x::xs) (y::ys)=if x=y then lexLe xs ys else decide (x<=y):=rfl
def aGx(A:zAa)(s:zAD)(a:Int)(t:Tok)(c:Int)(u:Tok)(prog:zAT)(w:World)(E:Value->zAD->Prop)(Q:Value->zAD->Prop)(h:Q (.bool (decide (a<=c))) s):
  wpAny (model prog w) A (zGY .LtE (.int a t) (.int c u)) Q E s:=
 (PyProof.Rows.le_int h:wpAny (model prog w) A (zAs .LtE (.int a t) (.int c u)) Q E s)
section
open PySem.SeqAt
open PySem.AutoSeq1(wpAny_loadPart')
open PySem.MeetsSeq PySem.MeetsSeq2 PySem.MeetsSeq3
def z7(l b:Addr)(items items2:Array Value)(n n2:Nat)(dd dd2:Option Addr)(sl sl2:Array (Option Value))(ns ms:List Int)(hi:zBM items.toList ns)(hj:zBM items2.toList ms):
  Meets (zCY.«tuple.__le__» ⟨[.ref l,.ref b],[]⟩)
   (λ _ R s=>s.heap.get? l=some {cls:=.type "tuple",dict:=dd,data:=.seq items n,slots:=sl}/\s.heap.get? b=some {cls:=.type "tuple",dict:=dd2,data:=.seq items2 n2,slots:=sl2}/\
    R (.ok (.ret (.bool (lexLe ns ms)))) s):=
 .of_wp λ prog w A R s h=>by
  obtain⟨hp,g,d,tk,os⟩:=s;obtain⟨hl,hb,h⟩:=h;have f2:=zFR;have z1:items.size=ns.length:=by rw[<-hi.length];simp
  have z2:items2.size=ms.length:=by rw[<-hj.length];simp
  wp_walk using zCZ hl,zCZ hb,zD3 _ (λ rest b s'=>b.1=none/\s'=⟨hp,g,d,tk,os⟩/\∃(vs ws:List Value) (ns' ms':List Int),rest=vs.zip ws/\
   zBM vs ns'/\zBM ws ms'/\ns'.length+items2.size=ms'.length+items.size/\R (.ok (.ret (.bool (lexLe ns' ms')))) ⟨hp,g,d,tk,os⟩) _
  case turn=>
   rintro⟨y,x⟩ rest b s' ⟨hb',rfl,vs,ws,ns',ms',hz,hvi,hwi,oQ,hR⟩;cases hvi with
   |nil=>rw[zH0]at hz;cases hz
   |cons a t hvi'=>
    cases hwi with
    |nil=>rw[zHG]at hz;cases hz
    |cons c u hwi'=>
     rw[zBA]at hz;injection hz with hyx b0
     injection hyx with hy hx
     subst hy hx;rw[aDy]at hR;simp only[zA3]at oQ;obtain⟨e,he,hiff⟩:=aCp A.in1 ⟨hp,g,d,tk,os⟩ a t c u;refine zAB (he prog w _ _ ?_);cases e with
     |true=>
      rw[if_pos (hiff.mp rfl)]at hR;wp_walk;exact⟨rfl,rfl,_,_,_,_,b0,hvi',hwi',by lia,hR⟩
     |false=>
      rw[if_neg (λ q=>absurd (hiff.mpr q) zAX)]at hR;have hri:=aGx A.in1 ⟨hp,g,d,tk,os⟩ a t c u prog w;wp_walk using hri;exact⟨_,rfl,by simpa using hR⟩
  case fin=>
   rintro⟨b1,b2⟩ s' ⟨hb',rfl,vs,ws,ns',ms',hz,hvi,hwi,oQ,hR⟩;simp only at hb';subst hb';have hv:lexLe ns' ms'=decide (items.size<=items2.size):=by
    cases hvi with
    |nil=>
     simp only[zBE]at oQ;have e:lexLe [] ms'=true:=by cases ms'<;>rfl
     rw[e];exact(decide_eq_true (by lia)).symm
    |cons a t hv=>
     cases hwi with
     |nil=>
      simp only[zBE,zA3]at oQ;show false=_;exact(decide_eq_false (by lia)).symm
     |cons c u hw=>
      rw[zBA]at hz;cases hz
   rw[hv]at hR;wp_walk;exact⟨_,rfl,by simpa[zEP]using hR⟩
  case h=>
   exact⟨rfl,rfl,items.toList,items2.toList,ns,ms,rfl,hi,hj,by lia,h⟩
end
section
variable{prog:zAT}{w:World}{A:zAa}{E:Value->zAD->Prop}{s:zAD}
def aDz(hl:IsTup s.heap l items)(hb:IsTup s.heap b items2)(hi:zBM items.toList ns)(hj:zBM items2.toList ms)
  (hu:A.units<cLine)(h:Q (.bool (lexLe ns ms)) s):wpAny (model prog w) A (zAs .LtE (.ref l) (.ref b)) Q E s:=by
 obtain⟨⟨cls,dd,data,sl⟩,ho,hc,n,hd⟩:=id hl;obtain⟨⟨cls2,dd2,data2,sl2⟩,ho2,hc2,n2,hd2⟩:=id hb;simp only at hc hd hc2 hd2;subst hc hd hc2 hd2;exact zH9 (op:=.LtE) ⟨_,ho,rfl⟩ ⟨_,ho2,rfl⟩ PySem.F.slot_tuple_le PySem.F.entry_tuple_le (PySem.F.args_tuple_le_2 _ _) (z7 l b items items2 n n2 dd dd2 sl sl2 ns ms hi hj)
  ⟨ho,ho2,show zDm (lexLe ns ms)≠zGc/\Q (.bool (lexLe ns ms)) s from⟨(λ x=>nomatch x),h⟩⟩ hu
def aIY{ws:List Value}(ht:IsTup s.heap t #[])(hb:IsTup s.heap b ws.toArray)(h1:Q (.ref b) s):wpAny (model prog w) A (zBy .Add (.ref t) (.ref b)) Q E s:=by
 obtain⟨⟨cls,dd,data,sl⟩,ho,hc,n,hd⟩:=id ht;obtain⟨⟨cls2,dd2,data2,sl2⟩,ho2,hc2,n2,hd2⟩:=id hb;simp only at hc hd hc2 hd2;subst hc hd hc2 hd2;exact zHu ⟨_,ho,rfl⟩ ⟨_,ho2,rfl⟩ zGD zHN zDx zDk (zDc _ _)
   (tuple_addW0 t b #[] ws.toArray n n2 dd dd2 sl sl2 (by simp)) ⟨ho,ho2,h1⟩
def tO{lo hi:Option Int}(ht:IsTup s.heap t items)(hs:s.heap.IsSliceOf sl vl vu .none)(pl:zFS vl lo)(pu:zFS vu hi)
  (h1:sIx items.size 0 lo=0)(h2:sIx items.size items.size hi=items.size)
  (h:Q (.ref t) s):wpAny (model prog w) A (zEm (.ref t) (.ref sl)) Q E s:=by
 obtain⟨os,hos,hcs,hds⟩:=id hs;have hTs:s.TypeIs (.ref sl) "slice":=⟨os,hos,hcs⟩;obtain⟨ot,hot,hct,hdt⟩:=id ht;unfold zEm
 try with_reducible refine zB2 ?_
 first|refine zAB (zAG ?_)|skip
 refine zAB (zIv ht.typeIs (by decide) ?_);refine zAB (zB1 (name:=zDD "__getitem__") ht.typeIs zBY
  (zB7 zBY ht.typeIs zIN ?_ (zI0 _ _)))
 show wpAny _ _ (zEd (.ref t)>>=_) _ _ s;refine zAB (tupleItemsOf_ ht ?_);refine zAB (zCr hTs ?_);rw[if_pos (by decide)];refine zAB (lL hs pl pu ?_);have hyes:(((sIx items.size 0 lo:Nat):Int)==0&&(1:Int)==1&&(sIx items.size items.size hi-sIx items.size 0 lo)==items.size)=true:=by
  rw[h1,h2];simp
 show wpAny _ _ (if (((sIx items.size 0 lo:Nat):Int)==0&&(1:Int)==1&&(sIx items.size items.size hi-sIx items.size 0 lo)==items.size)=true then _ else _) _ _ s;rw[if_pos hyes];unfold zI9;refine zAB (zAB (zCr ht.typeIs (zAG ?_)));rw[if_pos (by decide)];exact zAB (zEs (zAG ⟨_,rfl,zAG h⟩))
end
end HT
namespace L2
open PySem PySem.Spec PyProof.Rows
def aKM(t T:String):Bool:=decide (t=T)||(decide (t="bool")&&decide (T="int"))
def aKH{K:zAA}(ht:t∈["NoneType","bool","int","str","list","tuple","dict"])(hT:T∈["bool","int","str","list","tuple","dict"]):
  zD1 K (.type t) (.type T)=some (aKM t T):=by
 simp only[zAQ,zEI,or_false]at ht hT;rcases ht with rfl|rfl|rfl|rfl|rfl|rfl|rfl<;>rcases hT with rfl|rfl|rfl|rfl|rfl|rfl<;>kernel_rfl
def o7(t T:String)(b:Bool):Bool:=decide (t∈["NoneType","bool","int","str","list","tuple","dict"])&&decide (T∈["bool","int","str","list","tuple","dict"])&&(aKM t T==b)
def aED{K:zAA}(h:o7 t T b=true):zD1 K (.type t) (.type T)=some b:=by
 unfold o7 at h;rw[zAW,zAW]at h;rw[aKH (of_decide_eq_true h.1.1) (of_decide_eq_true h.1.2),zFV h.2]
def bJ(h:H p=none)(o:HO):aW H (upd H p o):=λ b u q=>by rw[bA (bZ q h)];exact q
section
variable{X:Cx}
def aOs(K:zAA):List V->Hp->VK->Prop:=λ xs H Q=>∃x T t b,xs=[x,.ty T]/\vA K H x (.type t)/\o7 t T b=true/\Q (.bl b) H
def lu:gH X (.builtin "isinstance") (aOs X.K):=by
 intro kK s Z H xs us Q I r h;obtain⟨x,T,t,b,rfl,ty,ok,q⟩:=h;obtain⟨u,w',rfl,r1,r2⟩:=vals2 r;obtain rfl:w'=zB4 T:=r2;exact aFz I r1 ty (aED ok) λ tk=>⟨.bl b,H,I.tok tk,rfl,q⟩
def aJT(K:zAA):R2:=λ x y H Q=>∃a b ns ms,x= .ref a/\y= .ref b/\SqT K H a (ns.map V.int)/\SqT K H b (ms.map V.int)/\Q (.bl (HT.lexLe ns ms)) H
def aM6(hu:X.A.units<cLine):OpR X (zAs .LtE) (aJT X.K):=by
 intro kK s Z H x y v u Q I rx ry h;obtain⟨a,b,ns,ms,rfl,rfl,ha,hb,q⟩:=h;cases rx;cases ry;obtain⟨its,r1,p1,_⟩:=I.tuple ha;obtain⟨its2,r2,p2,_⟩:=I.tuple hb;have i1:zBM its.toArray.toList ns:=intsAre_of r1;have i2:zBM its2.toArray.toList ms:=intsAre_of r2;exact HT.aDz p1 p2 i1 i2 hu ⟨.bl (HT.lexLe ns ms),H,I,rfl,q⟩
end
def nj(l:Addr)(H H':Hp):Prop:=∀b o,b≠l->H b=some o->H' b=some o
def aW.sqt{K:zAA}(e:aW H H')(h:SqT K H a xs):SqT K H' a xs:=by
 rcases h with (h|⟨o,h⟩)|h
 .exact .inl (.inl (e _ _ h))
 .exact .inl (.inr ⟨o,e _ _ h⟩)
 .exact .inr h
inductive D where
 |non|bl (b:Bool)|int (i:Int)|str (x:Str)|tup (l:List D)|lst (l:List D)|dct
mutual
inductive Rep(H:Hp):V->D->Prop where
 |non:Rep H .non .non
 |bl (b:Bool):Rep H (.bl b) (.bl b)
 |int (i:Int):Rep H (.int i) (.int i)
 |str (x:Str):Rep H (.str x) (.str x)
 |tup {a:Addr} {xs:List V} {ds:List D} (h:H a=some (.tup xs)) (r:aIa H xs ds):Rep H (.ref a) (.tup ds)
 |lst {a:Addr} {xs:List V} {ds:List D} (h:H a=some (.lst xs)) (r:aIa H xs ds):Rep H (.ref a) (.lst ds)
 |dct {a:Addr} (h:H a=some (.dK [])):Rep H (.ref a) .dct
inductive aIa(H:Hp):List V->List D->Prop where
 |nil:aIa H [] []
 |cons {x:V} {d:D} {xs:List V} {ds:List D} (h:Rep H x d) (r:aIa H xs ds):aIa H (x::xs) (d::ds)
end
def PE.weaken(h:PE X e t)(imp:∀Z H Q,t' Z H Q->t Z H Q):PE X e t':=λ kK s Z H Q I q=>h kK s Z H Q I (imp Z H Q q)
def OpR.weaken(h:OpR X f r)(imp:∀x y H Q,r' x y H Q->r x y H Q):OpR X f r':=λ kK s Z H x y v u Q I rx ry q=>h kK s Z H x y v u Q I rx ry (imp x y H Q q)
def New(H:Hp)(o:HO)(Q:VK):Prop:=∀p H',aW H H'->H' p=some o->H p=none->Q (.ref p) H'
def New.at(n:New H o Q)(hp:H p=none):Q (.ref p) (upd H p o):=n p _ (bJ hp o) bG hp
section
variable{X:Cx}{es:List Expr}{t:TA}{pos:Pos}
def aN5(t:TA):TE:=λ Z H Q=>t Z H λ xs H1=>xs.length<=zAS/\New H1 (.tup xs) Q
def aN9(t:TA):TE:=λ Z H Q=>t Z H λ xs H1=>xs.length<=zAS/\New H1 (.lst xs) Q
def aJ8{x1}(h:PA X es t):PE X (.Tuple es x1 pos) (aN5 t):=by
 have h':PA X es (λ Z H Q=>∃R:List V->Hp->Prop,t Z H R/\∀xs H',R xs H'->Q xs H'):=by
  intro pos kK s Z H Q I ⟨R,q,imp⟩;exact thn (h pos kK s Z H R I q) λ us s' ⟨vs,H',I',r,q'⟩=>⟨vs,H',I',r,imp _ _ q'⟩
 exact(aMJ h').weaken λ Z H Q q=>⟨_,q,λ xs H' ⟨z,n⟩=>⟨z,λ p hp=>n.at hp⟩⟩
def aEu(h:PA X es t):PE X (.List es pos) (aN9 t):=by
 have h':PA X es (λ Z H Q=>∃R:List V->Hp->Prop,t Z H R/\∀xs H',R xs H'->Q xs H'):=by
  intro pos kK s Z H Q I ⟨R,q,imp⟩;exact thn (h pos kK s Z H R I q) λ us s' ⟨vs,H',I',r,q'⟩=>⟨vs,H',I',r,imp _ _ q'⟩
 exact(aMN h').weaken λ Z H Q q=>⟨_,q,λ xs H' ⟨z,n⟩=>⟨z,λ p hp=>n.at hp⟩⟩
def aLH:R2:=λ x y H Q=>∃l b xs zs,x= .ref l/\y= .ref b/\H l=some (.lst xs)/\H b=some (.lst zs)/\xs.length+zs.length<=zAS/\New H (.lst (xs++zs)) Q
def aJp:OpR X (zBy .Add) aLH:=aMa.weaken λ x y H Q ⟨l,b,xs,zs,e1,e2,h1,h2,z,n⟩=>⟨l,b,xs,zs,e1,e2,h1,h2,z,λ p hp=>n.at hp⟩
def aCM:V->List V->Hp->VK->Prop:=λ x vs H Q=>∃l xs y,x= .ref l/\vs=[y]/\H l=some (.lst xs)/\xs.length<zAS/\∀H',nj l H H'->H' l=some (.lst (xs++[y]))->Q .non H'
def aDq:MtM X "list.append" aCM:=λ kK s Z H x xs v us Q I rx rv ⟨l,ys,y,e1,e2,h,z,n⟩=>
 aAY kK s Z H x xs v us Q I rx rv ⟨l,ys,y,e1,e2,h,z,n _ (λ b o ne hb=>by rw[bA ne];exact hb) bG⟩
end
def bH(scope:Scope)(env:Env):List (Str×Addr):=(scope.names.filterMap λ y=>if y.2== .free then(env.cells.lookup y.1).map λ c=>(y.1,c)else none).reverse
theorem zT(env:Env):∀(names:List (Str×zDa)) (acc:List (Str×Addr)),(∀y∈names,y.2= .free->∃c,env.cells.lookup y.1=some c)->
  (forIn names acc λ(x:Str×zDa) r=>if (x.2== .free)=true then do let c <-cellOf env x.1;pure (zB3 ((x.1,c)::r))else pure (zB3 r):Sem (List (Str×Addr)))=
   pure ((names.filterMap λ y=>if y.2== .free then(env.cells.lookup y.1).map λ c=>(y.1,c)else none).reverse++acc)
 |[],acc,_=>rfl
 |(n,k)::r,acc,h=>by
  rw[List.forIn_cons];have ih:=λ acc'=>zT env r acc' λ y hy=>h y (zAI _ hy)
  by_cases hk:k= .free
  .subst hk
   obtain⟨c,hc⟩:=h (n,.free) zAH rfl;have hc':env.cells.lookup n=some c:=hc;simp only[beq_self_eq_true,if_true,cellOf,hc',zBR,zCO,List.reverse_cons,zBG,List.singleton_append];exact ih _
  .have hb:(k==zBk)=false:=by simpa using hk
   simp only[hb,zA1,if_false,zBR];exact ih _
def lH(h:∀y∈scope.names,y.2= .free->∃c,env.cells.lookup y.1=some c):zFe scope env=pure (bH scope env):=by
 have e:=zT env scope.names [] h;rw[zBX]at e;have e2:zFe scope env=((forIn scope.names ([]:List (Str×Addr)) λ(x:Str×zDa) r=>if (x.2== .free)=true then do let c <-cellOf env x.1;pure (zB3 ((x.1,c)::r))else pure (zB3 r):Sem (List (Str×Addr)))>>=λ r=>pure r):=rfl;rw[e2,e];rfl
def vg(h:(bH scope env).lookup x=some c):env.cells.lookup x=some c:=by
 have hm:=zAv h;unfold bH at hm;rw[zHk,zBc]at hm;obtain⟨y,hy,e⟩:=hm;split at e
 .cases q:env.cells.lookup y.1 with
  |none=>rw[q]at e;cases e
  |some c'=>
   rw[q]at e;have e':=zAq e;injection e' with e1 e2
   subst e1 e2;exact q
 .cases e
def aCy(hx:scope.names.lookup x=some .free)(h:env.cells.lookup x=some c):(bH scope env).lookup x=some c:=by
 have hm:(x,zBk)∈scope.names:=zAv hx
 have:(x,c)∈bH scope env:=by
  unfold bH;rw[zHk,zBc];exact⟨_,hm,by simp[h]⟩
 cases q:(bH scope env).lookup x with
 |none=>
  exact absurd this (by
   intro hm'
   have:=List.lookup_eq_none_iff.mp q _ hm'
   simp at this)
 |some c'=>
  have:=vg q
  rw[h]at this;exact this.symm▸rfl
def wG(scope:Scope)(C:Addr):List (Str×Addr):=zDn (C+1) scope.names []
theorem lr:∀(names:List (Str×zDa)) (n:Nat) (acc:List (Str×Addr)),zDn n names acc=zDn n names []++acc
 |[],_,_=>rfl
 |(x,k)::r,n,acc=>by
  unfold zDn;split
  .rw[lr r (n+1) ((x,n)::acc),lr r (n+1) [(x,n)],zBG];rfl
  .exact lr r n acc
theorem rm:∀{names:List (Str×zDa)} {n:Nat} {x:Str} {c:Addr},(x,c)∈zDn n names []->(x,zDA)∈names
 |(y,k)::r,n,x,c,h=>by
  unfold zDn at h;split at h
  .rename_i hk
   rw[lr,zA5]at h;rcases h with h|h
   .exact zAI _ (rm h)
   .have e:=zAK.mp h
    cases e;rw[zFV hk];exact zAH
  .exact zAI _ (rm h)
 |[],_,_,_,h=>by cases h
def lU{l m:List (Str×Addr)}(h:(l++m).lookup x=some c):l.lookup x=some c\/(l.lookup x=none/\m.lookup x=some c):=by
 rw[zEq]at h;cases e:l.lookup x with
 |some c'=>rw[e]at h;exact .inl h
 |none=>rw[e]at h;exact .inr ⟨rfl,h⟩
def aFB{M:Model}{A:zAa}{E:Value->zAD->Prop}{s:zAD}{scope:Scope}{globals:Addr}{cl:List (Str×Addr)}{qual:Str}{env:Env}{Q:Env->zAD->Prop}
  (h:∀h':Heap,h'.Ns s.heap.objs.size (λ _=>none)->(∀b o,s.heap.get? b=some o->h'.get? b=some o)->CellsOk h' (s.heap.objs.size+1) (wG scope s.heap.objs.size)->
   Q {scope:=scope,locals:=s.heap.objs.size,globals:=globals,cells:=wG scope s.heap.objs.size++cl,qual:=qual,func:=none,code:=env.code,frame:=env.frame,builtins:=env.builtins} {s with heap:=h'}):
  wpAny M A (zFB scope globals cl [] qual none .none (some env)) Q E s:=by
 simp only[zFB,Option.isSome_some,if_true];refine zAB (wpAny_alloc ?_);refine zAB (wpAny_layCells _ (λ name kind cells=>by cases hkc:kind==zDA<;>simp[hkc]) _ _ _ _ ?_);have ok:=cellsFrom_ok scope.names (s.heap.push {cls:=.type "dict",data:=.dict #[]}) (s.heap.objs.size+1) [] ⟨λ _ _ hm=>(nomatch hm),zF7⟩ (by rw[zBV];exact zAM _);rw[zBV]at ok;rw[show({s with heap:=s.heap.push {cls:=.type "dict",data:=.dict #[]}}:zAD).heap.objs.size=s.heap.objs.size+1 from zBV ..,lr];refine zAG ?_;exact h _ ((Heap.Ns.new s.heap (.type "dict")).keeps (pushCells_keeps _ _)) (λ b o e=>pushCells_keeps _ _ b o (zAE _ e)) ok
def Cx.block(X:Cx)(scope:Scope)(C:Addr)(N:List Str)(fp:List Addr)(zI:zAD)(zD:Hp):Cx:=
  {prog:=X.prog,w:=X.w,K:=X.K,mg:=X.mg,base:=X.base,A:=X.A,N:=N,zI:=zI,zD:=zD,env:=compEnvC scope (wG scope C++bH scope X.env) C X.env,outer:=X.stack,stack:=X.stack,ex:=fp,
    fn:=λ x=>scope.names.lookup x==some .cell,calm:=X.calm,pn:=[],xe:=λ _ _=>False}
structure fY(X:Cx)(scope:Scope)(N:List Str)(st:St->St)(ks:List Nat):Prop where
 kind:scope.kind= .function
 sep:∀y∈scope.names,y.2= .cell->scope.names.lookup y.1=some .cell
 loc:∀y∈scope.names,y.2= .local->scope.names.lookup y.1=some .local
 free:∀y∈scope.names,y.2= .free->X.env.kindOf y.1=some .cell\/X.env.kindOf y.1=some .free
 len:∀Z,(st Z).length=N.length
 val:∀Z (i:Nat) x v,N[i]? =some x->(st Z)[i]? =some (some v)->scope.names.lookup x=some .free/\i∉ks/\∃j:Nat,X.N[j]? =some x/\Z[j]? =some (some v)
def aBG(h:(zFg scope env).names.lookup x=some .cell\/(zFg scope env).names.lookup x=some .free):scope.names.lookup x=some .free\/scope.names.lookup x=some .cell:=by
 have go:∀names:List (Str×zDa),((names.map λ(n,k)=>if (k==zBk&&env.scope.kind== .function&&env.kindOf n==some .cell)then(n,zDA)else(n,k)).lookup x=some .cell\/
   (names.map λ(n,k)=>if (k==zBk&&env.scope.kind== .function&&env.kindOf n==some .cell)then(n,zDA)else(n,k)).lookup x=some .free)->names.lookup x=some .free\/names.lookup x=some .cell:=by
  intro names;induction names with
  |nil=>intro h;simp at h
  |cons y r ih=>
   obtain⟨n,k⟩:=y;intro h;rw[zAC]at h;by_cases hx:x==n
   .rw[zAe,hx]
    show some k=some .free\/some k=some .cell;by_cases hcc:(k==zBk&&env.scope.kind== .function&&env.kindOf n==some .cell)=true
    .rw[zAW,zAW]at hcc
     rw[zFV hcc.1.1];exact .inl rfl
    .simp only[if_neg hcc,zAe,hx]at h
     exact h.elim .inr .inl
   .have hx':(x==n)=false:=by simpa using hx
    rw[zAe,hx'];refine ih ?_;by_cases hcc:(k==zBk&&env.scope.kind== .function&&env.kindOf n==some .cell)=true
    .simp only[if_pos hcc,zAe,hx']at h
     exact h
    .simp only[if_neg hcc,zAe,hx']at h
     exact h
 exact go scope.names h
def aBH(h:scope.names.lookup x=some .free):(zFg scope env).names.lookup x=some .cell\/(zFg scope env).names.lookup x=some .free:=by
 have go:∀names:List (Str×zDa),names.lookup x=some .free->((names.map λ(n,k)=>if (k==zBk&&env.scope.kind== .function&&env.kindOf n==some .cell)then(n,zDA)else(n,k)).lookup x=some .cell\/
   (names.map λ(n,k)=>if (k==zBk&&env.scope.kind== .function&&env.kindOf n==some .cell)then(n,zDA)else(n,k)).lookup x=some .free):=by
  intro names;induction names with
  |nil=>intro h;simp at h
  |cons y r ih=>
   obtain⟨n,k⟩:=y;intro h;rw[zAC];by_cases hx:x==n
   .rw[zAe,hx]at h
    have hk:k= .free:=zAq h;by_cases hcc:(k==zBk&&env.scope.kind== .function&&env.kindOf n==some .cell)=true
    .simp only[if_pos hcc,zAe,hx]
     exact .inl trivial
    .simp only[if_neg hcc,zAe,hx]
     exact .inr (by rw[hk])
   .have hx':(x==n)=false:=by simpa using hx
    rw[zAe,hx']at h;by_cases hcc:(k==zBk&&env.scope.kind== .function&&env.kindOf n==some .cell)=true
    .simp only[if_pos hcc,zAe,hx']
     exact ih h
    .simp only[if_neg hcc,zAe,hx']
     exact ih h
 exact go scope.names h
section
variable{X:Cx}{kK:hV}{Z:St}{H:Hp}{s:zAD}
theorem Inv.block{st:St->St}{D C:Addr}(I:Inv X kK Z H s)(B:fY X scope N st ks)
  (hfp:∀b∈fp,uN X kK H b)(hob:∀b∈fp,∃ob,s.heap.get? b=some ob)
  (hD:s.heap.objs.size<=D)(hC:s.heap.objs.size<=C)(hDC:D≠C)(keep:∀b u,s.heap.get? b=some u->h'.get? b=some u)(hns:h'.Ns C λ _=>none)(hcs:CellsOk h' (C+1) (wG scope C))(hDo:∀c,C<c->D≠c)(aE:cO X.prog X.w (upd H D o) h' D o):
  Inv (X.block scope C N fp s H) [] (st Z) (upd H D o) {s with heap:=h',toks:=tk}:=by
 have hHD:H D=none:=I.hok.fresh hD;have hcl:∀x c,(bH scope X.env).lookup x=some c->X.env.cells.lookup x=some c:=λ x c e=>vg e
 have hol:∀x c,(wG scope C).lookup x=some c->C<c/\h'.IsCell c none:=λ x c e=>let⟨q1,q2⟩:=hcs.empty x c (zAv e);⟨q2,q1⟩
 have hlt:∀x c,(bH scope X.env).lookup x=some c->c<s.heap.objs.size:=λ x c e=>let⟨v,ic⟩:=I.cell x c (hcl x c e);ic.lt
 have bX:∀b∈fp,b<s.heap.objs.size:=λ b hb=>by
  obtain⟨ob,e⟩:=hob b hb;exact zAR e
 refine⟨⟨I.mod,?_,I.ok.glob,I.ok.blt,hC,λ x y c e1 e2=>?_,λ x hx=>?_,λ x c hf e=>?_,I.ok.hd,I.ok.frames,.inl rfl,λ b hb=>⟨?_,λ x c e z=>?_⟩,
  I.bs,?_,λ b ob e hb=>?_,λ b hb hs=>?_,I.stack,I.stkFree⟩,rfl,I.bare,Un.laid keep hD hHD,⟨_,hns,λ i x v e1 e2 hv=>?_⟩,λ x c e=>?_,?_,λ x c e=>?_,λ p hp=>absurd (show p∈([]:hV)from hp) (by simp),I.hok.laid keep hD aE,B.len Z,λ p hp=>absurd (show p∈([]:hV)from hp) (by simp)⟩
 .show(zFg scope X.env).kind= .function
  exact B.kind
 .rcases lU e1 with a1|⟨_,a1⟩<;>rcases lU e2 with a2|⟨_,a2⟩
  .exact PySem.name_of_addr hcs.apart (zAv a1) (zAv a2)
  .exact absurd (hlt y c a2) (zGK.mpr (zA6 hC (zBu (hol x c a1).1)))
  .exact absurd (hlt x c a1) (zGK.mpr (zA6 hC (zBu (hol y c a2).1)))
  .exact I.ok.inj x y c (hcl x c a1) (hcl y c a2)
 .show∃c,(wG scope C++bH scope X.env).lookup x=some c
  rw[zEq];cases e:(wG scope C).lookup x with
  |some c=>exact⟨c,rfl⟩
  |none=>
   rcases aBG hx with hfree|hcell
   .obtain⟨c,hc⟩:=I.ok.has x (B.free (x,.free) (zAv hfree) rfl)
    exact⟨c,aCy hfree hc⟩
   .obtain⟨c,hc⟩:=uF (n:=C+1) hcell
    rw[show(wG scope C).lookup x=some c from hc]at e;cases e
 .rcases lU e with a1|⟨a0,_⟩
  .exact zA6 hC (zBu (hol x c a1).1)
  .obtain⟨c',hc'⟩:=uF (n:=C+1) (zFV hf)
   rw[show(wG scope C).lookup x=some c' from hc']at a0;cases a0
 .exact zAZ (zAY (bX b hb) hC)
 .rcases lU e with a1|⟨_,a1⟩
  .exact absurd (bX b hb) (zGK.mpr (by rw[<-z];exact zA6 hC (zBu (hol x c a1).1)))
  .exact(hfp b hb).2.2.2.2.1 x c (hcl x c a1) z
 .exact zA6 I.ok.bsz I.sz
 .rcases(hfp b hb).2.2.2.1 with z|z
  .exact I.ok.noex b ob e z
  .exact absurd (zAY (zAR (I.ok.bs b ob e).1) z) (zBQ _)
 .rcases zAQ.mp (I.stkSub b hs)with z|z
  .exact(hfp b hb).2.1 z
  .exact(hfp b hb).2.2.1 z
 .obtain⟨hfree,_,j,f1,f2⟩:=B.val Z i x v e1 e2
  obtain⟨m,hn,hl⟩:=I.loc;have hk:=B.free (x,.free) (zAv hfree) rfl;obtain⟨u,ru,hu⟩:=hl j x v f1 f2 (hk.elim (λ z=>.inr (.inl z)) λ z=>.inr (.inr z));rcases hu with ⟨k,_⟩|⟨_,c,ec,ic⟩
  .rcases hk with z|z
   .exact absurd (k.symm.trans z) (by decide)
   .exact absurd (k.symm.trans z) (by decide)
  .have hno:(wG scope C).lookup x=none:=by
    cases e:(wG scope C).lookup x with
    |none=>rfl
    |some c'=>
     have:=B.sep _ (rm (zAv e)) rfl
     rw[hfree]at this;cases this
   refine⟨u,ru,.inr ⟨?_,c,by show(wG scope C++bH scope X.env).lookup x=some c;rw[zEq,hno];exact aCy hfree ec,ic.keeps keep⟩⟩;rcases hv with z|z|z
   .have z':(zFg scope X.env).names.lookup x=some .local:=z
    rcases aBH (env:=X.env) hfree with y|y
    .exact absurd (z'.symm.trans y) (by decide)
    .exact absurd (z'.symm.trans y) (by decide)
   .exact .inl z
   .exact .inr z
 .rcases lU e with a1|⟨_,a1⟩
  .exact⟨_,(hol x c a1).2⟩
  .obtain⟨v,ic⟩:=I.cell x c (hcl x c a1)
   exact⟨v,ic.keeps keep⟩
 .show upd H D o C=none
  rw[bA (zDR hDC)];exact I.hok.fresh hC
 .show upd H D o c=none
  rcases lU e with a1|⟨_,a1⟩
  .rw[bA (zDR (hDo c (hol x c a1).1))]
   exact I.hok.fresh (zA6 hC (zBu (hol x c a1).1))
  .obtain⟨v,ic⟩:=I.cell x c (hcl x c a1)
   rw[bA (zAZ (zAY ic.lt hD))];exact I.freeC x c (hcl x c a1)
end
section
variable{prog:zAT}{w:World}{A:zAa}{R:zDl->zAD->Prop}{s:zAD}
def aB1(I:Nat->zAD->Prop)
  (turn:∀n s,I n s->wpAny (model prog w) A (zFC it) (λ r zC=>match r with
   |none=>R (.ok .next) zC
   |some v=>wpAny (model prog w) A (zCv target it v) (λ _ zC=>wpAny (model prog w) A (zFr target env v) (λ _ zS=>
     wpAny (model prog w) A (forIn ifs true λ c r=>if r=true then do let ok <-isTrue c env (eval c env);pure (zB3 ok)else pure (zB3 r)) (λ ok y8=>
      if ok=true then wpAny (model prog w) A (eval elt env) (λ x yB=>
       wpAny (model prog w) A (call (.builtin "list.append") [acc,x]) (λ _ s₅=>∃m,m<n/\I m s₅) (λ _ _=>False) yB) (λ _ _=>False) y8
      else∃m,m<n/\I m y8) (λ _ _=>False) zS) (λ _ _=>False) zC) (λ _ _=>False) zC) (λ _ _=>False) s)
  (n:Nat)(h:I n s):zBq (model prog w) A (.compLoop (.ListComp elt [⟨target,iter,ifs,0⟩] scope pos) 0 it acc env) R s:=by
 refine codeAny_loop rfl I (λ n s hI=>?_) n h;show wpAny _ A ((compTurn (.ListComp elt [⟨target,iter,ifs,0⟩] scope pos) 0 it acc env).onRaise (λ x=>do noteFrame x env;theTreesLotGoes x)) _ _ s;refine wpAny_noted ?_;rw[compTurn_list];refine zAB (zFX (zAB (zBN (turn n s hI) (λ r zC y9=>?_) λ _ _ h'=>h'.elim)));cases r with
 |none=>exact zAG y9
 |some v=>
  refine zAB (zBN y9 (λ _ zC y9=>?_) λ _ _ h'=>h'.elim);refine zAB (zBN y9 (λ _ zS y6=>zAB (zBN y6 (λ ok y8 yA=>?_) λ _ _ h'=>h'.elim)) λ _ _ h'=>h'.elim);cases ok with
  |false=>exact zAG ⟨rfl,yA⟩
  |true=>
   exact zAB (zAB (zBN yA (λ x yB h₄=>zAB (zBN h₄ (λ _ s₅ h₅=>zAG (zAG ⟨rfl,h₅⟩)) λ _ _ h'=>h'.elim)) λ _ _ h'=>h'.elim))
end
def uM(g:TG)(ks:List Nat):Prop:=∀v Z H (Q:St->Hp->Prop),g v Z H Q->g v Z H (λ Z' H'=>Q Z' H'/\Z'.length=Z.length/\∀k,k∉ks->Z'[k]? =Z[k]?)
def zY(g:TGs)(ks:List Nat):Prop:=∀vs Z H (Q:St->Hp->Prop),g vs Z H Q->g vs Z H (λ Z' H'=>Q Z' H'/\Z'.length=Z.length/\∀k,k∉ks->Z'[k]? =Z[k]?)
def aK2(h:i∈ks):uM (vY i) ks:=λ v Z H Q q=>⟨q,zCj,λ k hk=>zBx (λ(e:i=k)=>hk (e▸h))⟩
def aK1:zY aNC ks:=λ vs Z H Q ⟨e,q⟩=>⟨e,q,rfl,λ _ _=>rfl⟩
def aDL(g:TG):Prop:=∀v Z H (Q Q':St->Hp->Prop),(∀Z' H',Q Z' H'->Q' Z' H')->g v Z H Q->g v Z H Q'
def vB(g:TGs):Prop:=∀v Z H (Q Q':St->Hp->Prop),(∀Z' H',Q Z' H'->Q' Z' H')->g v Z H Q->g v Z H Q'
def aK4:aDL (vY i):=λ v Z H Q Q' imp q=>imp _ _ q
def aK3:vB aNC:=λ v Z H Q Q' imp ⟨e,q⟩=>⟨e,imp _ _ q⟩
def aID(h1:aDL t)(h2:vB u):vB (aIF t u):=λ vs Z H Q Q' imp ⟨v,r,e,q⟩=>⟨v,r,e,h1 _ _ _ _ _ (λ Z' H' q'=>h2 _ _ _ _ _ imp q') q⟩
def aHz(h1:uM t ks)(m1:aDL t)(h2:zY u ks)(m2:vB u):zY (aIF t u) ks:=λ vs Z H Q ⟨v,r,e,q⟩=>
 ⟨v,r,e,m1 _ _ _ _ _ (λ Z' H' ⟨q',l',k'⟩=>m2 _ _ _ _ _ (λ Z2 H2 ⟨q2,l2,k2⟩=>⟨q2,l2.trans l',λ k hk=>(k2 k hk).trans (k' k hk)⟩) (h2 _ _ _ _ q')) (h1 _ _ _ _ q)⟩
def aNA{K:zAA}(h:zY t ks):uM (aK5 K n t) ks:=λ v Z H Q ⟨a,xs,e1,e2,e3,q⟩=>⟨a,xs,e1,e2,e3,h _ _ _ _ q⟩
def aNB{K:zAA}(h:vB t):aDL (aK5 K n t):=λ v Z H Q Q' imp ⟨a,xs,e1,e2,e3,q⟩=>⟨a,xs,e1,e2,e3,h _ _ _ _ _ imp q⟩
def aDJ(X:Cx)(ifs:List Expr)(t:TT):Prop:=
 ∀(kK:hV) (s:zAD) (Z:St) (H:Hp) (Q:Bool->Hp->Prop),Inv X kK Z H s->t Z H Q->
  wpAny (model X.prog X.w) X.A (forIn ifs true λ c r=>if r=true then do let ok <-isTrue c X.env (eval c X.env);pure (zB3 ok)else pure (zB3 r)) (TP X kK Z Q) X.xe s
def aOi:TT:=λ _ H Q=>Q true H
def aMI:aDJ X [] aOi:=λ _ _ _ H _ I h=>wpAny_tests_nil ⟨H,I,h⟩
def aMH(h:PT X c t):aDJ X [c] t:=λ kK s Z H Q I q=>wpAny_tests_one (h kK s Z H Q I q)
def tLC(wi:TI)(st:St->St)(g:TG)(tt:TT)(te:TE):TE:=λ Z H Q=>wi Z H λ J H1=>∀l,H1 l=none->∃W:Nat->Nat->List V->Hp->Prop,(∃m,W 0 m [] (upd H1 l (.lst [])))/\
 ∀i m acc H2,W i m acc H2->H2 l=some (.lst acc)/\acc.length<zAS/\((J.stop i H2/\Q (.ref l) H2)\/(J.go i H2/\∀x H3,J.yld i H2 x H3->g x (st Z) H3 λ Z4 H4=>tt Z4 H4 λ ok H5=>
  if ok=true then te Z4 H5 λ y H6=>H6 l=some (.lst acc)/\∃m',m'<m/\W (i+1) m' (acc++[y]) (upd H6 l (.lst (acc++[y])))else∃m',m'<m/\W (i+1) m' acc H5))
section
variable{X:Cx}{elt tg iter:Expr}{ifs:List Expr}{scope:Scope}{pos:Pos}{N:List Str}{st:St->St}{ks:List Nat}{wi:TI}{g:TG}{tt:TT}{te:TE}
def aC9(B:fY X scope N st ks)(hc:X.calm=true)(hg:∀C fp zI zD,PG (X.block scope C N fp zI zD) tg g)(hgo:uM g ks)(ht:∀C fp zI zD,aDJ (X.block scope C N fp zI zD) ifs tt)
  (he:∀C fp zI zD,PE (X.block scope C N fp zI zD) elt te){H1:Hp}{Q:VK}{RR:Value->Addr->zDl->zAD->Prop}
  (I:Inv X kK Z H1 zS)(T:Turn X.prog X.w X.K tg J fp it tn)(h0:tn 0 zS.heap)(hfp:∀b∈fp,uN X kK H1 b)
  (h:∀l,H1 l=none->∃W:Nat->Nat->List V->Hp->Prop,(∃m,W 0 m [] (upd H1 l (.lst [])))/\
   ∀i m acc H2,W i m acc H2->H2 l=some (.lst acc)/\acc.length<zAS/\((J.stop i H2/\Q (.ref l) H2)\/(J.go i H2/\∀x H3,J.yld i H2 x H3->g x (st Z) H3 λ Z4 H4=>tt Z4 H4 λ ok H5=>
    if ok=true then te Z4 H5 λ y H6=>H6 l=some (.lst acc)/\∃m',m'<m/\W (i+1) m' (acc++[y]) (upd H6 l (.lst (acc++[y])))else∃m',m'<m/\W (i+1) m' acc H5)))
  (hRR:∀D C H' s',(∃Z',Inv (X.block scope C N fp zS H1) [] Z' H' s')->zS.heap.objs.size<=C->Q (.ref D) H'->RR (.ref D) C (.ok .next) s'):
  wpAny (model X.prog X.w) X.A (zFf []) (λ acc y8=>wpAny (model X.prog X.w) X.A (zFB scope X.env.globals (bH scope X.env) [] X.env.qual none .none (some X.env)) (λ cenv yB=>
   zBq (model X.prog X.w) X.A (.compStart (.ListComp elt [⟨tg,iter,ifs,0⟩] scope pos) 0 (.ref it) acc {cenv with scope:=zFg scope X.env}) (RR acc cenv.locals) yB) E y8) E zS:=by
 refine zBH (aFB λ y9 yY y7 yT=>?_);dsimp only at yY y7 yT ⊢;generalize hH2:zS.heap.push {cls:=.type "list",dict:=none,data:=.seq ([]:List Value).toArray}=P2 at yY y7 yT ⊢;have hC:P2.objs.size=zS.heap.objs.size+1:=by rw[<-hH2,zBV]
 have hDC:zS.heap.objs.size≠P2.objs.size:=by rw[hC];exact zAZ (zBd _)
 have pV:zS.heap.objs.size<=P2.objs.size:=by rw[hC];exact zEi _
 have old:∀b o,zS.heap.get? b=some o->y9.get? b=some o:=λ b o e=>y7 b o (hH2▸zAE _ e)
 have aE:y9.get? zS.heap.objs.size=some {cls:=.type "list",dict:=none,data:=.seq ([]:List Value).toArray}:=y7 _ _ (hH2▸zAL _ rfl);generalize hCe:P2.objs.size=C at yY y7 yT hDC pV hC ⊢;have hHD:H1 zS.heap.objs.size=none:=I.hok.fresh (zAM _);have I0:Inv (X.block scope C N fp zS H1) [] (st Z) (upd H1 zS.heap.objs.size (.lst [])) {zS with heap:=y9,toks:=zS.toks}:=
  I.block B hfp (λ b hb=>by obtain⟨o,e,_⟩:=T.obj 0 _ h0 b hb;exact⟨o,e⟩) (zAM _) pV hDC old yY yT (λ c hc=>zAZ (zH1 pV hc)) ⟨zAp _,[],0,.nil,aE⟩
 obtain⟨W,⟨m0,w0⟩,step⟩:=h _ hHD;have h01:tn 0 y9:=T.keep 0 _ _ h0 λ b _ o e=>old b o e
 have aS:∀{H':Hp},(∀b∈fp,H' b=none)->∀b∈fp,uN (X.block scope C N fp zS H1) [] H' b:=λ{H'} hn b hb=>
  ⟨hn b hb,(I0.ok.exf b hb).1,I0.ok.exfs b hb,.inl hb,λ x c e=>(I0.ok.exf b hb).2 x c e,λ p hp=>absurd (show p∈([]:hV)from hp) (by simp)⟩
 have fr0:∀b∈fp,upd H1 zS.heap.objs.size (.lst []) b=none:=λ b hb=>by
  obtain⟨o,e,_⟩:=T.obj 0 _ h0 b hb;rw[bA (zAZ (zAR e))];exact(hfp b hb).1
 have loop:∀y8:zAD,y8={zS with heap:=y9,toks:=zS.toks}->
   zBq (model X.prog X.w) X.A (.compLoop (.ListComp elt [⟨tg,iter,ifs,0⟩] scope pos) 0 (.ref it) (.ref zS.heap.objs.size) (X.block scope C N fp zS H1).env) (RR (.ref zS.heap.objs.size) C) y8:=by
  rintro y8 rfl;refine aB1 (λ n s'=>∃i acc H2,Inv (X.block scope C N fp zS H1) [] (st Z) H2 s'/\tn i s'.heap/\(∀b∈fp,H2 b=none)/\W i n acc H2) ?_ m0 ⟨0,[],_,I0,h01,fr0,w0⟩;rintro n s3 ⟨i,acc,H2,I2,st2,fr2,w2⟩;obtain⟨hl,hz,alt⟩:=step i n acc H2 w2;rcases alt with ⟨stop,q⟩|⟨go,nxt⟩
  .refine thn (T.done (X.block scope C N fp zS H1) rfl rfl rfl hc i [] s3 (st Z) H2 _ I2 (aS fr2) st2 stop) λ r s4 ⟨hr,I4⟩=>?_
   subst hr;exact hRR _ C H2 s4 ⟨_,I4⟩ pV q
  .refine thn (T.item (X.block scope C N fp zS H1) rfl rfl rfl hc i [] s3 (st Z) H2 _ I2 (aS fr2) st2 go) λ r s4 ⟨u,hr,h4⟩=>?_
   subst hr;refine thn h4 λ _ s5 ⟨x,H5,I5,r5,y5,st5,fr5⟩=>?_
   have I5':=I5.pinned (aS fr5) (T.obj _ _ st5);refine thn (hg C fp zS H1 _ s5 (st Z) H5 x u _ I5' r5 (hgo _ _ _ _ (nxt x H5 y5))) λ _ s6 ⟨Z6,H6,I6,q6,aKD,ag6⟩=>?_
   refine thn (ht C fp zS H1 _ s6 Z6 H6 _ I6 q6) λ ok s7 ⟨H7,I7,q7⟩=>?_
   have again:∀{H9:Hp} {s9:zAD} {acc':List V},Inv (X.block scope C N fp zS H1) ([]++ug fp s5.heap) Z6 H9 s9->(∃m',m'<n/\W (i+1) m' acc' H9)->
     ∃m,m<n/\∃i acc H2,Inv (X.block scope C N fp zS H1) [] (st Z) H2 s9/\tn i s9.heap/\(∀b∈fp,H2 b=none)/\W i m acc H2:=λ{H9 s9 acc'} I9 ⟨m',hm,w9⟩=>by
    have cE:∀b∈fp,∀o,s5.heap.get? b=some o->s9.heap.get? b=some o/\H9 b=none:=λ b hb o e=>by
     have z:=I9.pin (b,o) (zA8 _ (zA8 _ (m9 hb e)));exact⟨z.1,z.2.1⟩
    refine⟨m',hm,i+1,acc',H9,I9.unpinned.weak (by rw[aKD]) (λ k v e=>?_),T.keep _ _ _ st5 λ b hb o e=>(cE b hb o e).1,λ b hb=>?_,w9⟩
    .have hk:k<(st Z).length:=(zAO.mp e).1
     have hkN:k<N.length:=by rw[<-B.len Z];exact hk
     obtain⟨_,hks,_⟩:=B.val Z k _ v (zAJ hkN) e;rw[ag6 k hks];exact e
    .obtain⟨o,e,_⟩:=T.obj _ _ st5 b hb
     exact(cE b hb o e).2
   cases ok with
   |false=>
    rw[if_neg zAX]at q7 ⊢;exact again I7 q7
   |true=>
    rw[if_pos rfl]at q7 ⊢;refine thn (he C fp zS H1 _ s7 Z6 H7 _ I7 q7) λ u8 s8 ⟨y,H8,I8,r8,hl8,q8⟩=>?_
    refine thn (aAY _ s8 Z6 H8 (.ref zS.heap.objs.size) [y] (.ref zS.heap.objs.size) [u8] (λ _ H9=>H9=upd H8 zS.heap.objs.size (.lst (acc++[y]))) I8 rfl (.cons r8 .nil) ⟨_,acc,y,rfl,rfl,hl8,hz,rfl⟩) λ _ s9 ⟨_,H9,I9,_,e9⟩=>?_
    subst e9;exact again I9 q8
 exact codeAny_compStart_list (loop _ rfl) (T.self X.A 0 _ _ _ h01 (loop _ rfl))
def aBc(I:Inv X kK Z H1 zS)(hfp:∀b∈fp,uN X kK H1 b)(h:∃Z',Inv (X.block scope C N fp zS H1) [] Z' H' s'):Inv X kK Z H' s':=by
 obtain⟨Z',J⟩:=h;exact I.call' (ch:=fp) J.os J.base J.hok J.bare λ b hb=>⟨(hfp b hb).2.2.2.1,(hfp b hb).2.1,(hfp b hb).2.2.2.2.1,(hfp b hb).2.2.2.2.2⟩
def aOB(B:fY X scope N st ks)(hc:X.calm=true)(hi:PI X tg iter wi)(hg:∀C fp zI zD,PG (X.block scope C N fp zI zD) tg g)(hgo:uM g ks)(ht:∀C fp zI zD,aDJ (X.block scope C N fp zI zD) ifs tt)
  (he:∀C fp zI zD,PE (X.block scope C N fp zI zD) elt te)(hs:∀x,zBl iter X.env x=pure x:=by intro _;rfl):PE X (.ListComp elt [⟨tg,iter,ifs,0⟩] scope pos) (tLC wi st g tt te):=by
 intro kK s Z H Q I h;have hcl:zFe scope X.env=pure (bH scope X.env):=lH λ y hy hk=>I.ok.has _ (B.free y hy hk)
 rw[eval_ListComp];refine zET (use:=none) rfl hs hcl B.kind B.loc (thn (hi kK s Z H _ I h) λ v s1 h1=>thn h1 λ itv s2 h2=>?_);obtain⟨it,fp,tn,J,H2,e,I2,T,st2,f2,hq⟩:=h2;subst e;refine aC9 (RR:=λ acc C=>compPost (model X.prog X.w) X.A X.xe none (EP X kK Z Q) acc C) B hc hg hgo ht he I2 T st2 f2 hq ?_;intro D C H' s' hJ pV q;have I3:=aBc I2 f2 hJ;obtain⟨Z',J'⟩:=hJ;obtain⟨m,hn,_⟩:=id J'.loc;have hHC:H' C=none:=J'.free;refine⟨m,hn,λ h'' hs''=>⟨.ref D,H',?_,rfl,q⟩⟩;exact I3.turned (t':=s'.toks) (λ b o ne e=>(hs''.2 b ne).trans e) hHC (zBg (zAY I2.lt pV)) (.inr (zA6 I2.sz pV))
  (λ x c e z=>by obtain⟨v,ic⟩:=I2.cell x c e;exact absurd (zAY ic.lt (by rw[z];exact pV)) (zBQ _))
  (λ p hp z=>absurd (zAY (I2.pinL hp) (by rw[z];exact pV)) (zBQ _))
def aHJ(hN:X.N.Nodup)(hx1:X.N[i]? =some x)(hx2:Loc X.env.scope x)(B:fY X scope N st ks)(hc:X.calm=true)(hi:PI X tg iter wi)(hg:∀C fp zI zD,PG (X.block scope C N fp zI zD) tg g)(hgo:uM g ks)
  (ht:∀C fp zI zD,aDJ (X.block scope C N fp zI zD) ifs tt)(he:∀C fp zI zD,PE (X.block scope C N fp zI zD) elt te)(hsw:zDp (.ListComp elt [⟨tg,iter,ifs,0⟩] scope pos) (some (.Name x pos')) spos.line X.env=pure true)
  (hs:∀x,zBl iter X.env x=pure x:=by intro _;rfl)(hf:X.fn x=true\/X.env.scope.names.lookup x=some .local:=by first|exact .inl rfl|exact .inr rfl|assumption):
  PS X (.Assign [.Name x pos'] (.ListComp elt [⟨tg,iter,ifs,0⟩] scope pos) spos) (aIt (tLC wi st g tt te) (vY i)):=by
 intro kK s Z H D I h;have hcl:zFe scope X.env=pure (bH scope X.env):=lH λ y hy hk=>I.ok.has _ (B.free y hy hk)
 rw[exec_Assign_Name_used _ _ _ _ hsw];refine zAB (zFX (zAB ?_));show wpAny _ _ (do let _ <-comprehension (.ListComp elt [⟨tg,iter,ifs,0⟩] scope pos) scope X.env _ (zFf []) false (eval iter X.env) (some (zFr (.Name x pos') X.env))) _ _ s;refine zAB (zBN (zET (use:=some (zFr (.Name x pos') X.env)) (Q:=λ _ s'=>SP X kK D .next s') rfl hs hcl B.kind B.loc (thn (hi kK s Z H _ I h) λ v s1 h1=>thn h1 λ itv s2 h2=>?_)) (λ _ s' hq=>zAG (zAG hq)) λ _ _ e=>e);obtain⟨it,fp,tn,J,H2,e,I2,T,st2,f2,hq⟩:=h2;subst e;refine aC9 (Q:=λ x H1=>vY i x Z H1 D.nx) (RR:=λ acc C=>compPost (model X.prog X.w) X.A X.xe (some (zFr (.Name x pos') X.env)) (λ _ s'=>SP X kK D .next s') acc C) B hc hg hgo ht he I2 T st2 f2 hq ?_;intro DD C H' s' hJ pV q;have I3:=aBc I2 f2 hJ;obtain⟨Z',J'⟩:=hJ;obtain⟨m,hn,_⟩:=id J'.loc;have hHC:H' C=none:=J'.free;have neL:C≠X.env.locals:=zBg (zAY I2.lt pV);have neC:∀x c,X.env.cells.lookup x=some c->c≠C:=λ x c e z=>by obtain⟨v,ic⟩:=I2.cell x c e;exact absurd (zAY ic.lt (by rw[z];exact pV)) (zBQ _)
 show wpAny _ _ (zFr (.Name x pos') X.env (.ref DD)) _ _ _;refine zIr ?_;refine aAL I3 hN hx1 hx2 (show RelV (.ref DD) (.ref DD)from rfl) (λ s4 I4 ⟨a,hsa,ha⟩=>?_) hf;have nea:C≠a:=by
  rcases ha with z|z
  .rw[z];exact neL
  .exact zDR (neC _ _ z)
 refine⟨m,hn.sameBut hsa nea,λ h'' hs''=>⟨_,H',?_,q⟩⟩;exact I4.turned (t':=s4.toks) (λ b o ne e=>(hs''.2 b ne).trans e) hHC neL (.inr (zA6 I2.sz pV)) neC
  (λ p hp z=>absurd (zAY (I2.pinL hp) (by rw[z];exact pV)) (zBQ _))
end
def CX1(P:zAT)(w:World):CXT:=λ outer H s E e s'=>∃(ea:Addr) (cls a0:Value) (B:Heap) (H':Hp),e= .ref ea/\s'.os=s.os/\zEh s'.gens/\Un (frs outer) [] H H' s.heap s'.heap/\HOk P w H' B/\Heap.FlyingW B outer ea cls a0 s'.heap/\
 (∀b o,s.heap.get? b=some o->H b=none->b∉frs outer->B.get? b=some o)/\(∀b o,s.heap.get? b=some o->b∉frs outer->∃o',B.get? b=some o')/\E cls none H'
structure jk(X:Cx)(E:XK):Prop where
 stk:X.stack=X.env::X.outer
 fr:X.env.frame=some X.env.locals
 ex:X.ex=[]
 xe:X.xe=λ e s'=>wpAny (model X.prog X.w) X.A (leaving X.env e) (λ _ s''=>CX1 X.prog X.w X.outer X.zD X.zI E e s'') (λ e' s''=>CX1 X.prog X.w X.outer X.zD X.zI E e' s'') s'
def jk.of{K:zAA}:
  jk (aCu (CX1 P w) P w K mg base N qual scope f cd A outer zI zD E) E:=⟨rfl,rfl,rfl,rfl⟩
section
variable{X:Cx}{E:XK}
def aII{B h':Heap}(hX:X.ex=[])(I:Inv X kK Z H s)
  (a1:∀b o,s.heap.get? b=some o->H b=none->b∉frs X.stack->B.get? b=some o)(a2:∀b o,s.heap.get? b=some o->b∉frs X.stack->∃o',B.get? b=some o')
  (a3:B.StaysIn h')(a4:∀b o,b∈frs X.outer->s.heap.get? b=some o->H b=none->(∀vs,o.data≠.fields vs)->∃sl,h'.get? b=some {o with slots:=sl})
  (a5:∀b o,s.heap.get? b=some o->H b=none->H' b=none)(a6:∀b xs,H b=some (.tup xs)->H' b=some (.tup xs))(a7:∀b o u,H b=some (.frz o u)->H' b=some (.frz o u))(a8:∀b q,H b=some (.tbl q)->H' b=some (.tbl q)):
  Un (frs X.outer) [] X.zD H' X.zI.heap h'/\(∀b o,X.zI.heap.get? b=some o->X.zD b=none->b∉frs X.outer->B.get? b=some o)/\(∀b o,X.zI.heap.get? b=some o->b∉frs X.outer->∃o',B.get? b=some o'):=by
 have nx:∀b,b∉X.ex:=λ b z=>by rw[hX]at z;cases z
 have noS:∀b o,X.zI.heap.get? b=some o->b∉frs X.outer->b∉frs X.stack:=λ b o e nf hb=>by
  rcases zAQ.mp (I.stkSub b hb)with z|z
  .exact absurd z (zAZ (zAY (zAR e) I.ok.above))
  .exact nf z
 have bk:∀b o,X.zI.heap.get? b=some o->X.zD b=none->b∉frs X.outer->B.get? b=some o:=λ b o e n nf=>
  a1 b o (I.base.keep b o e n nf (nx b)) (I.base.free b o e n (nx b)) (noS b o e nf)
 have ba:∀b o,X.zI.heap.get? b=some o->b∉frs X.outer->∃o',B.get? b=some o':=λ b o e nf=>by
  obtain⟨o1,e1⟩:=I.base.there b o e (nx b);exact a2 b o1 e1 (noS b o e nf)
 have sl:∀b o,X.zI.heap.get? b=some o->X.zD b=none->b∈frs X.outer->∃sl,h'.get? b=some {o with slots:=sl}:=λ b o e n hb=>by
  obtain⟨sl1,e1⟩:=I.base.slot b o e n hb (nx b);obtain⟨_,o2,ho2,hnf⟩:=I.ok.funs.mem hb;rw[e]at ho2;cases ho2;obtain⟨sl2,e2⟩:=a4 b _ hb e1 (I.base.free b o e n (nx b)) hnf;exact⟨sl2,e2⟩
 refine⟨⟨λ b o e n nf _=>a3 b o (bk b o e n nf),λ b o e n hb _=>sl b o e n hb,λ b o e n _=>?_,λ b o e _=>?_,λ b xs e=>a6 b xs (I.base.tups b xs e),λ b o u e=>a7 b o u (I.base.frzs b o u e),λ b q e=>a8 b q (I.base.tbls b q e)⟩,bk,ba⟩
 .obtain⟨o1,e1⟩:=I.base.there b o e (nx b)
  exact a5 b o1 e1 (I.base.free b o e n (nx b))
 .by_cases hb:b∈frs X.outer
  .obtain⟨s2,e2⟩:=sl b o e (I.ok.frf b hb) hb
   exact⟨_,e2⟩
  .obtain⟨o',e'⟩:=ba b o e hb
   exact⟨o',a3 b o' e'⟩
def jk.pass(D:jk X E):aBi (CX1 X.prog X.w) X E:=by
 intro kK Z H s e s' I h;obtain⟨ea,cls,a0,B,H',rfl,os,bare,un,hok,fly,bk,ba,hE⟩:=h;rw[D.xe];have fly':=fly;rw[D.stk]at fly';have hfr:=I.ok.frames;rw[D.stk]at hfr;refine wpAny_leaves_onW (L:=X.env.locals) hfr D.fr fly' λ h' fl up=>?_
 have a4:∀b o,b∈frs X.outer->s.heap.get? b=some o->H b=none->(∀vs,o.data≠.fields vs)->∃sl,h'.get? b=some {o with slots:=sl}:=λ b o hb e n nf=>by
  have hb':b∈frs X.stack:=by
   rw[D.stk];unfold frs;rw[zBR,D.fr];exact zAI _ hb
  obtain⟨s1,e1⟩:=un.slot b o e n hb' (λ z=>nomatch z);obtain⟨s2,e2⟩:=up b _ e1 nf;exact⟨s2,e2⟩
 obtain⟨u1,u2,u3⟩:=aII (B:=B) (h':=h') (H':=H') D.ex I bk ba fl.1 a4 (λ b o e n=>un.free b o e n (λ z=>nomatch z)) un.tups un.frzs un.tbls;exact⟨ea,cls,a0,B,H',rfl,os.trans I.os,bare,u1,hok,fl,u2,u3,hE⟩
def jk.raise(D:jk X E){ea:Addr}(I:Inv X kK Z H s)
  (hx:Heap.MadeExcOf s.heap h1 ea cls vs)(hE:E cls none H):X.xe (.ref ea) {s with heap:=h1}:=by
 rw[D.xe];have stk:s.heap.FunFrames X.base X.stack:=I.stack;have hin:∀env∈X.stack,∀a,env.frame=some a->a∈frs X.stack:=λ env he a ha=>zBc.mpr ⟨env,he,ha⟩
 have stk2:=PySem.W.funFrames_hide stk hin;have hfr:=I.ok.frames;rw[D.stk]at hfr;have stk3:s.heap.FunFrames (zDK s.heap (frs X.stack)) (X.env::X.outer):=by rw[<-D.stk];exact stk2
 refine wpAny_leaves_madeW (L:=X.env.locals) (base:=zDK s.heap (frs X.stack)) hfr D.fr (λ b o q=>zG9 _ q) stk3 hx λ h' t fl tup bn up=>?_
 have hok:HOk X.prog X.w H (zDK s.heap (frs X.stack)):=λ a o e=>by
  refine(I.hok a o e).stay (λ b u hb q=>zDL _ q λ hm=>?_) (λ _ z=>z) λ _ _ z=>z
  have hn:=I.stkFree b hm;rcases hb with z|z
  .rw[z,e]at hn;cases hn
  .rw[z]at hn;cases hn
 obtain⟨u1,u2,u3⟩:=aII (B:=zDK s.heap (frs X.stack)) (h':=h') (H':=H) D.ex I (λ b o e n nf=>zDL _ e nf) (λ b o e nf=>⟨o,zDL _ e nf⟩) fl.1
  (λ b o hb e n nf=>up b o (hx.keeps b o e) nf) (λ b o e n=>n) (λ _ _ e=>e) (λ _ _ _ e=>e) (λ _ _ e=>e)
 exact⟨ea,cls,.ref t,_,H,rfl,I.os,I.bare,u1,hok,fl,u2,u3,hE⟩
def jk.own(D:jk X E):zHr (model X.prog X.w) X.A X.env X.xe:=λ e s' h=>by
 rw[D.xe]at h ⊢;exact wpAny_leaving_again (SameStack.refl _) h
end
section
variable{P:zAT}{w:World}{K:zAA}{mg:Str->Option Value}{base:Heap}
def Fun.okX{st:Stmt}(F:Fun K x q st f fd)(S:aV N ps (aP st))(len:∀vs H Q E,sp vs H Q E->vs.length=ps.length)
  (hbody:∀(cdv:Value) (A:zAa) (outer:List Env) (s:zAD) (H:Hp) (vs:List V) (Q:VK) (E:XK),jq k (A.deeper (zE5 q (aP st) s.heap.objs.size f cdv))->sp vs H Q E->
   ∃t,PSs (aCu (CX1 P w) P w K mg base N q (aP st) f cdv A outer s H E) (iR st) t/\t {nx:=λ _ H'=>Q .non H',rt:=Q} (start N vs) H):bu P w K mg base (CX1 P w) (k+1) f fd ps sp:=by
 obtain⟨oc,od,kV,doc,pm,an,cdv,ct,osl,rfl,lk,hcd⟩:=F.ex;exact aO2 lk hcd S len λ A outer s H vs Q E hr hsp=>hbody cdv A outer s H vs Q E hr hsp
end
def ni(K:zAA)(C:Addr):Prop:=zHt K C [.type "ValueError",.type "Exception",.type "BaseException",.type "object"] "ValueError.__new__"=true
def aBM{K:zAA}(X:K.In h)(hm:mg x=some (.ref C))(q:ni K C):OwnCls x C [.type "ValueError",.type "Exception",.type "BaseException",.type "object"] "ValueError.__new__" mg h:=by
 refine⟨hm,?_⟩;unfold ni zHt at q;split at q
 .rename_i dd cd sl ho
  split at q
  .rename_i C' bm k0 k1 k2 k3 n k5 hm' hs
   simp only[zAW,beq_iff_eq,zDr]at q;obtain⟨⟨⟨⟨⟨rfl,rfl⟩,hdel⟩,ht⟩,hok⟩,hni⟩:=q;obtain⟨nm,bs,mro,ns,qn,hd,sn,sub,ab,col,del⟩:=cd;dsimp only at hm' hdel hok hni;subst hm' hdel;have hsl:sl=#[k0,k1,k2,k3,some (.builtin "ValueError.__new__"),k5]:=by
    obtain⟨l⟩:=sl;simp only at hs;rw[hs]
   subst hsl;exact⟨bm,ns,nm,qn,bs,hd,sn,sub,ab,col,dd,k0,k1,k2,k3,k5,_,X _ _ ho,.of_isNs (PySem.W.isNs_of_in X hok),PySem.W.nsMap_none_of_in X hok hni,PySem.W.tail_of_in X ht⟩
  .cases q
 .cases q
def aLb(C:Addr)(E:XK)(ta:TA):TS:=λ _ Z H=>ta Z H λ vs H1=>vs.length<=zAS/\E (.ref C) none H1
section
variable{X:Cx}{E:XK}
def aHL(D:jk X E)(hc:X.calm=true){rest:List Expr}(hm:X.mg x=some (.ref C))(hC:ni X.K C)(hg:Gl X x)
  (ha:PA X (x9::rest) ta)(he:zAV (x9::rest) X.env=(false,eval x9 X.env)::zAV rest X.env:=by rfl)
  (hplain:(zCB cpos (zAV rest X.env)).any (·.1)=false:=by rfl)(hd:Nd x:=by decide):
  PS X (.Raise (some (.Call (.Name x np) (x9::rest) [] cpos)) none pos) (aLb C E ta):=by
 intro kK s Z H DD I h;obtain⟨tl,NN,nm,q,bs,hdct,sn,sub,ab,col,dd,k0,k1,k2,k3,k5,mN,hCo,hN,hni,T⟩:=(aBM (h:=X.base) I.mod.kin hm hC).obj;have FB:=PySem.F.excBase_ValueError;refine wpAny_Raise_call_subU (C:=C) (nm:=nm) (q:=q) (N:=NN) (bs:=bs) (bm:=tl) (hdct:=hdct) (sn:=sn) (sub:=sub) (ab:=ab) (col:=col) (dd:=dd) (k0:=k0) (k1:=k1) (k2:=k2) (k3:=k3) (k5:=k5)
  FB FB.hasB FB (mN:=mN) (T.hasType FB.hasBase) (I.ok.hd hc) (by rw[he];show(false||(zCB cpos (zAV rest X.env)).any (·.1))=false;rw[hplain];rfl) hni
  (aBT I hg hm ⟨rfl,?_⟩ hd)
 have harg:=ha cpos kK s Z H _ I h;rw[he]at harg ⊢;refine zDE (zBN harg (λ vs zS y6=>?_) λ _ _ y=>y);obtain⟨xs,H2,I2,rv,hz,hE⟩:=y6;refine⟨rfl,by show vs.length<=zAS;rw[<-rv.length];exact hz,I2.bk _ _ hCo,hN.keeps I2.bk,T.keeps I2.bk,λ h' ea hx=>D.raise I2 hx hE⟩
end
section
variable{κ:Type}[DecidableEq κ]
def qe(kvs:List (κ×V))(k:κ):Option V:=(kvs.find? λ kv=>decide (kv.1=k)).map (·.2)
def putK(kvs:List (κ×V))(k:κ)(v:V):List (κ×V):=
 if (kvs.any λ kv=>decide (kv.1=k))=true then kvs.map (λ kv=>if kv.1=k then(kv.1,v)else kv)else kvs++[(k,v)]
def sJ{p:κ×V}{r:List (κ×V)}{k:κ}(e:p.1=k):qe (p::r) k=some p.2:=by simp[qe,zCh,e]
def sO{p:κ×V}{r:List (κ×V)}{k:κ}(e:¬p.1=k):qe (p::r) k=qe r k:=by simp[qe,zCh,e]
def o5(kvs:List (κ×V))(k:κ)(v:V):(putK kvs k v).length<=kvs.length+1:=by
 unfold putK;split
 .rw[zAF];omega
 .rw[zAj,zA3,zBE];omega
def qH.isSome_eq{o:Option V}{u:Option Value}(r:qH o u):o.isSome=u.isSome:=by
 cases o with
 |none=>cases u with
  |none=>rfl
  |some _=>exact(show False from r).elim
 |some _=>cases u with
  |none=>exact(show False from r).elim
  |some _=>rfl
def KV.val{kvs:List (κ×V)}{vs:List (κ×Value)}(r:KV kvs vs)(k:κ):qH (qe kvs k) (zG1 vs k):=by
 unfold KV at r;induction r with
 |nil=>exact zCa
 |@cons p q ps qs h t ih=>
  obtain⟨h1,h2⟩:=h;by_cases e:p.1=k
  .have e':q.1=k:=h1.symm.trans e
   have b:zG1 (q::qs) k=some q.2:=by simp[zG1,zCh,e']
   rw[sJ e,b];exact h2
  .have e':¬q.1=k:=λ z=>e (h1.trans z)
   have b:zG1 (q::qs) k=zG1 qs k:=by simp[zG1,zCh,e']
   rw[sO e,b];exact ih
theorem KV.any{kvs:List (κ×V)}{vs:List (κ×Value)}(r:KV kvs vs)(k:κ):(kvs.any λ kv=>decide (kv.1=k))=vs.any λ kv=>decide (kv.1=k):=by
 unfold KV at r;induction r with
 |nil=>rfl
 |cons h t ih=>rw[zBs,zBs,ih,h.1]
def KV.repl{kvs:List (κ×V)}{vs:List (κ×Value)}(r:KV kvs vs)(k:κ){y:V}{u:Value}(ry:RelV y u):
  KV (kvs.map λ kv=>if kv.1=k then(kv.1,y)else kv) (vs.map λ kv=>if kv.1=k then(kv.1,u)else kv):=by
 unfold KV at r ⊢;induction r with
 |nil=>exact .nil
 |@cons p q ps qs h t ih=>
  rw[zAC,zAC];refine .cons ?_ ih;obtain⟨h1,h2⟩:=h;by_cases e:p.1=k
  .rw[if_pos e,if_pos (h1.symm.trans e)];exact⟨h1,ry⟩
  .rw[if_neg e,if_neg (λ z=>e (h1.trans z))];exact⟨h1,h2⟩
def KV.put{kvs:List (κ×V)}{vs:List (κ×Value)}(r:KV kvs vs)(k:κ){y:V}{u:Value}(ry:RelV y u):KV (putK kvs k y) (zHA vs k u):=by
 unfold putK zHA;rw[r.any k];by_cases e:(vs.any λ kv=>decide (kv.1=k))=true
 .rw[if_pos e,if_pos e];exact r.repl k ry
 .rw[if_neg e,if_neg e];exact Paired.snoc r ⟨rfl,ry⟩
theorem KV.length{kvs:List (κ×V)}{vs:List (κ×Value)}(r:KV kvs vs):kvs.length=vs.length:=zFp r
end
def aA2{P:zAT}{w:World}{k:Key}{u:Value}(r:RelV (kV k) u):(cM P w).is k u=true:=by
 cases k with
 |inl i=>obtain⟨t,e⟩:=(show∃t,u=zEQ i t from r);subst e;exact aCY P w i t
 |inr x=>obtain⟨t,e⟩:=(show∃t,u=zGT x t from r);subst e;exact aCX P w x t
theorem aA4{P:zAT}{w:World}:∀{ks:List Key} {us:List Value},Vals (ks.map kV) us->ItemsAre (cM P w) ks us
 |[],_,r=>by rw[zEX]at r;cases r;exact .nil
 |k::ks,_,r=>by
  rw[zAC]at r;cases r with
  |cons h t=>exact .cons (aA2 h) (aA4 t)
abbrev KT(H:Hp):List (List Key×V)->List (List Key×Addr×Value)->Prop:=zGw λ p q=>p.1=q.1/\H q.2.1=some (.tup (p.1.map kV))/\RelV p.2 q.2.2
def KT.val{H:Hp}{kvs:List (List Key×V)}{xs:List (List Key×Addr×Value)}(r:KT H kvs xs)(k:List Key):qH (qe kvs k) ((atKey xs k).map (·.2)):=by
 induction r with
 |nil=>exact zCa
 |@cons p q ps qs h t ih=>
  obtain⟨h1,_,h2⟩:=h;by_cases e:p.1=k
  .have e':q.1=k:=h1.symm.trans e
   have b:atKey (q::qs) k=some q.2:=by simp[atKey,zCh,e']
   rw[sJ e,b];exact h2
  .have e':¬q.1=k:=λ z=>e (h1.trans z)
   have b:atKey (q::qs) k=atKey qs k:=by simp[atKey,zCh,e']
   rw[sO e,b];exact ih
section
variable{P:zAT}{w:World}{H:Hp}{h:Heap}{a:Addr}
def aLB{u:HO}(ok:HOk P w H h)(e:Rd H a u):cO P w H h a u:=e.ok ok
def aAk{kvs:List (Key×V)}(ok:HOk P w H h)(e:Rd H a (.dK kvs)):kvs.length<=zAS/\(a==zCQ)=false/\∃vs,KV kvs vs/\h.DictOf (cM P w) a vs:=
 show cO P w H h a (.dK kvs)from aLB ok e
def aIP{kvs:List (Key×V)}(ok:HOk P w H h)(e:H a=some (.dK kvs)):kvs.length<=zAS/\(a==zCQ)=false/\∃vs,KV kvs vs/\h.DictOf (cM P w) a vs:=aAk ok (.inl e)
def aEE{ks:List Key}(ok:HOk P w H h)(e:H a=some (.tup (ks.map kV))):(zIA (cM P w)).is h ks a:=by
 obtain⟨_,its,r,o,h1,h2,n,h3⟩:=(show cO P w H h a (.tup (ks.map kV))from ok a _ e);exact⟨o,its.toArray,n,h1,h2,h3,by simpa using aA4 r⟩
def aFR{kvs:List (List Key×V)}(ok:HOk P w H h)(e:Rd H a (.dT kvs)):kvs.length<=zAS/\(a==zCQ)=false/\
  ∃xs,KT H kvs xs/\h.DictOfH (zIA (cM P w)) a xs:=by
 obtain⟨z,y,xs,r,o,es,ep,h1,h2,h3,h4,h5⟩:=(show cO P w H h a (.dT kvs)from aLB ok e);refine⟨z,y,xs,r,o,es,ep,h1,h2,h3,h4,λ x hx=>?_,h5⟩;have all:∀{l:List (List Key×V)} {m:List (List Key×Addr×Value)},KT H l m->∀x∈m,(zIA (cM P w)).is h x.1 x.2.1:=by
  intro l m q;induction q with
  |nil=>intro x hx;exact nomatch hx
  |@cons p q ps qs hq t ih=>
   intro x hx;rcases zAQ.mp hx with e|hx
   .subst e
    exact aEE ok (by rw[<-hq.1];exact hq.2.1)
   .exact ih x hx
 exact all r x hx
end
def zZ(H:Hp)(a:Addr)(y:V)(r:Option V):Prop:=
 (∃kvs k,Rd H a (.dK kvs)/\y=kV k/\r=qe kvs k)\/∃kvs k b,Rd H a (.dT kvs)/\y= .ref b/\H b=some (.tup (k.map kV))/\r=qe kvs k
theorem zZ.k{H:Hp}{a:Addr}{kvs:List (Key×V)}{k:Key}(e:H a=some (.dK kvs)):zZ H a (kV k) (qe kvs k):=.inl ⟨kvs,k,.inl e,rfl,rfl⟩
section
variable{X:Cx}{kK:hV}{Z:St}{H:Hp}{s:zAD}{a:Addr}{y v:V}{u:Value}{o:Option V}{A:zAa}{E:Value->zAD->Prop}
def Inv.big(I:Inv X kK Z H s):zCQ<s.heap.objs.size:=by
 have h:zA9<s.heap.objs.size:=(I.mod.glob.keeps I.bk).lt;exact zCR (by decide) h
def aGJ{Q:Value->zAD->Prop}(hu:A.units+1<cLine)(I:Inv X kK Z H s)(g:zZ H a y (some v))(ry:RelV y u)(h:∀w' s',Inv X kK Z H s'->RelV v w'->Q w' s'):
  wpAny (model X.prog X.w) A (zEm (.ref a) u) Q E s:=by
 rcases g with ⟨kvs,k,e,ey,l⟩|⟨kvs,k,b,e,ey,eb,l⟩
 .subst ey
  obtain⟨z,hd,vs,rel,dd⟩:=aAk I.hok e;obtain⟨w',hw,rw'⟩:=qH.some_of (v:=v) (o:=zG1 vs k) (by rw[l];exact rel.val k);exact wpAny_getItem_of (aA2 ry) dd.mapOf hw (h w' _ (I.tok _) rw')
 .subst ey
  cases (show u=zAr b from ry);obtain⟨z,hd,xs,rel,dd⟩:=aFR I.hok e;obtain⟨w',hw,rw'⟩:=qH.some_of (v:=v) (o:=(atKey xs k).map (·.2)) (by rw[l];exact rel.val k);obtain⟨p,hp,hp2⟩:=zEA.mp hw;refine wpAny_getItem_heap (zI3 hu) (aEE I.hok eb) dd hp ?_;rw[hp2];exact h w' _ (I.tok _) rw'
def aOx{Q:Value->zAD->Prop}(hu:A.units+1<cLine)(I:Inv X kK Z H s)(g:zZ H a y o)(ry:RelV y u)(h:∀s',Inv X kK Z H s'->Q (.bool o.isSome) s'):
  wpAny (model X.prog X.w) A (zAs .In u (.ref a)) Q E s:=by
 rcases g with ⟨kvs,k,e,ey,l⟩|⟨kvs,k,b,e,ey,eb,l⟩
 .subst ey
  obtain⟨z,hd,vs,rel,dd⟩:=aAk I.hok e;refine wpAny_in_of (aA2 ry) hd dd.mapOf ?_;rw[<-(rel.val k).isSome_eq,<-l];exact h _ (I.tok _)
 .subst ey
  cases (show u=zAr b from ry);obtain⟨z,hd,xs,rel,dd⟩:=aFR I.hok e;refine wpAny_in_heap (zI3 hu) (aEE I.hok eb) hd dd ?_;have q:=(rel.val k).isSome_eq;rw[Option.isSome_map]at q;rw[<-q,<-l];exact h _ (I.tok _)
def aKg{h':Heap}{t':Nat}{ob:HO}(I:Inv X kK Z H s)(mu:Mut (H a))(hs:zCy a s.heap h')(he:∃q,h'.get? a=some q)(new:cO X.prog X.w (upd H a ob) h' a ob):
  Inv X kK Z (upd H a ob) {s with heap:=h',toks:=t'}:=
 I.write (x:=a) (e:=a) mu (.inl rfl) (λ b q hb z=>(hs.2 b hb).trans z) he new
def aIQ{P:zAT}{w:World}{H':Hp}{h':Heap}{kvs:List (Key×V)}{vs:List (Key×Value)}(z:kvs.length<=zAS)(hd:(a==zCQ)=false)(rel:KV kvs vs)(dd:h'.DictOf (cM P w) a vs):
  cO P w H' h' a (.dK kvs):=⟨z,hd,vs,rel,dd⟩
end
def aOc(i:Expr):Prop:=∀ov iv,zGZ i false ov iv=operate [ov,iv] (zEm ov iv)
def aIu{prog:zAT}{w:World}{A:zAa}{E:Value->zAD->Prop}{s:zAD}{env:Env}{value slice:Expr}{pos:Pos}{T id:String}{Q:Value->zAD->Prop}
  (hl:zDh (.type T) "__getitem__"=pure (some (.builtin id)))(hs:aOc slice)
  (h:wpAny (model prog w) A (eval value env) (λ o zC=>wpAny (model prog w) A (eval slice env) (λ i zS=>zS.TypeIs o T/\wpAny (model prog w) A (zEm o i) Q E zS) E zC) E s):
  wpAny (model prog w) A (eval (.Subscript value slice pos) env) Q E s:=by
 refine zIg (zBN h (λ o zC y9=>zBN y9 (λ i zS y6=>?_) λ _ _ x=>x) λ _ _ x=>x);obtain⟨hT,y6⟩:=y6;unfold zHP;refine zAB ?_;rw[getitemInPython_of_ne hT.not_modules];refine zAB (zEo hT hl ?_);have fin:wpAny (model prog w) A (zGZ slice false o i) (λ r y8=>wpAny (model prog w) A (letTemporaryGo value o r>>=λ _=>pure r) Q E y8) E zS:=by
  rw[hs o i];exact wpAny_operating (zBN y6 (λ r y8 yA=>zAB (wpAny_letTemporaryGo (zAG yA))) λ _ _ x=>x)
 first
  |exact zAG (zAB fin)
  |exact zAB (zAG (zAB fin))
  |exact zAB fin
def aCs{X:Cx}{kK:hV}{Z:St}{H:Hp}{s:zAD}{a:Addr}{y:V}{o:Option V}(I:Inv X kK Z H s)(g:zZ H a y o):s.TypeIs (.ref a) "dict":=by
 rcases g with ⟨kvs,k,e,_,_⟩|⟨kvs,k,b,e,_,_,_⟩
 .obtain⟨_,_,vs,_,dd⟩:=aAk I.hok e
  exact dd.typeIs
 .obtain⟨_,_,xs,_,dd⟩:=aFR I.hok e
  exact dd.typeIs
def aNb(td ty:TE):TE:=λ Z H Q=>td Z H λ x H1=>ty Z H1 λ y H2=>∃a v,x= .ref a/\zZ H2 a y (some v)/\Q v H2
section
variable{X:Cx}{o i:Expr}{pos:Pos}{td ty:TE}
def aJa(hu:X.A.units+1<cLine)(ho:PE X o td)(hi:PE X i ty)(hs:aOc i):PE X (.Subscript o i pos) (aNb td ty):=by
 intro kK s Z H Q I h;refine aIu PySem.F.slot_dict_getitem.lookup hs (thn (ho kK s Z H _ I h) λ u s1 ⟨x,H1,I1,rx,q1⟩=>thn (hi kK s1 Z H1 _ I1 q1) λ iv s2 ⟨y,H2,I2,ry,a,v,ex,g,q2⟩=>?_);subst ex;obtain rfl:u=zAr a:=rx;exact⟨aCs I2 g,aGJ hu I2 g ry λ w' s3 I3 rw'=>⟨v,H2,I3,rw',q2⟩⟩
end
end L2
namespace Att
open PySem PySem.W PySem.Calls PyProof.Rows
end Att
namespace L2
open PySem PySem.Spec PyProof.Rows
section
variable{κ:Type}[DecidableEq κ]
end
section
variable{κ:Type}[DecidableEq κ]
theorem qH.getD{o:Option V}{u:Option Value}{d:V}{d':Value}(r:qH o u)(rd:RelV d d'):RelV (o.getD d) (u.getD d'):=by
 cases o with
 |none=>cases u with
  |none=>exact rd
  |some _=>exact(show False from r).elim
 |some _=>cases u with
  |none=>exact(show False from r).elim
  |some _=>exact r
end
structure M2(X:Cx)(o:Expr)(m:Str)(apos:Pos)(e f:Expr)(cpos:Pos):Prop where
 base:zCM o m X.env (eval o X.env)=eval o X.env
 few:((zCB cpos (zAV [e,f] X.env)).all (λ x=>!x.1)&&(zE2 cpos (zCo [] X.env)).all (λ x=>x.1.isSome)
  &&decide (([e,f]:List Expr).length+([]:List zCA).length+(if ([]:List zCA).isEmpty then 0 else 1)<30))=true
 line:(apos.endLine==cpos.line)=true
 trees:zCB cpos (zAV [e,f] X.env)=[(false,eval e X.env),(false,eval f X.env)]
def IsD(H:Hp)(a:Addr):Prop:=(∃kvs,Rd H a (.dK kvs))\/∃kvs,Rd H a (.dT kvs)
def aMx{X:Cx}{kK:hV}{Z:St}{H:Hp}{s:zAD}{a:Addr}(I:Inv X kK Z H s)(d:IsD H a):
  s.TypeIs (.ref a) "dict"/\(∀b,zAr a= .ref b->∃ob,s.heap.get? b=some ob/\ob.dict=none)/\(a==zCQ)=false:=by
 rcases d with ⟨kvs,e⟩|⟨kvs,e⟩
 .obtain⟨_,hd,vs,_,dd⟩:=aAk I.hok e
  refine⟨dd.typeIs,λ b q=>?_,hd⟩;cases q;obtain⟨ob,_,_,h1,h2,_⟩:=dd;exact⟨ob,h1,h2.2.1⟩
 .obtain⟨_,hd,xs,_,dd⟩:=aFR I.hok e
  refine⟨dd.typeIs,λ b q=>?_,hd⟩;cases q;obtain⟨ob,_,_,h1,h2,_⟩:=dd;exact⟨ob,h1,h2.2.1⟩
end L2
namespace Att
open PySem PySem.W PySem.Calls PyProof.Rows
end Att
namespace L2
open PySem PySem.Spec PyProof.Rows
section
variable{κ:Type}[DecidableEq κ]
end
section
variable{X:Cx}
structure aOd(X:Cx)(P:Addr):Prop where
 ta:∃o,X.ta=[(P,o)]
 ex:P∈X.ex
 tq:X.tq=X.env.qual++"<lambda>"
 code:∃c,X.env.code= .ref c/\PySem.W.CodeHd X.base c P
 blt:X.base.BuiltinsAt X.mg P
 gne:zA9≠P
end
abbrev bmV:List Value:=[.type "ValueError",.type "Exception",.type "BaseException",.type "object"]
section
variable{prog:zAT}{w:World}{A:zAa}{E:Value->zAD->Prop}{h:Heap}{g:Array zCg}{d:Drawn}{t:Nat}{os:OsState}{a:Addr}{o:Obj}
 {nm q:Str}{C N:Addr}{bs bm:List Value}{hdct:Bool}{sn:List Str}{sub:List Value}{ab:Bool}{col:Option Bool}{dd:Option Addr}{k0 k1 k2 k3 k5:Option Value}{newId:String}{K:zAA}
def aCx{R:zDl->zAD->Prop}(hC:h.get? C=some (zGU nm q C N bs bm hdct sn sub ab col dd k0 k1 k2 k3 k5 newId))(T:OwnTail h bmV bm)
  (hx:h.get? a=some o)(hc:o.cls= .ref C)(hq:R (.ok (.ret (.ref C))) ⟨h,g,d,t,os⟩):
  zBq (model prog w) A (.call (.builtin "getset_descriptor.__get__") ⟨[.builtin "object.__class__",.ref a,.ref C],[]⟩) R ⟨h,g,d,t,os⟩:=by
 have hT5:(⟨h,g,d,t,os⟩:zAD).TypeIs (.builtin "object.__class__") "getset_descriptor":=zE8;have hcB:(zAr C::bm).contains (.type (".".intercalate ("object.__class__".cutAt '.').dropLast))=true:=by
  rw[F.owner_object_class,zHD,T.hasType (X:="object") (b:=true) (by decide+kernel)];rfl
 refine zEx zGd.plain F.entry_gs_get (zGd.check _ _ _ _ _ _ _ _ hT5 (F.args_gs_get _ _ _) ?_)
 repeat (any_goals (first|assumption|(with_reducible refine zDP hx ?_;rw[hc])|(with_reducible refine zIS hC ?_;rw[hcB])|wp_step))
 refine⟨zCK _ (by decide+kernel),zBJ F.entry_object_class ?_⟩
 repeat (any_goals (first|assumption|(with_reducible refine zDP hx ?_;rw[hc])|wp_step))
def aB5{M:Model}{nameV:Value}{Q:Unit->zAD->Prop}(hC:h.get? C=some (zGU nm q C N bs bm hdct sn sub ab col dd k0 k1 k2 k3 k5 newId))(T:OwnTail h bmV bm)
  (hx:h.get? a=some o)(hc:o.cls= .ref C)(hq:Q () ⟨h,g,d,t,os⟩):wpAny M A (zGC "BaseException.__getattribute__" ⟨[.ref a,nameV],[]⟩) Q E ⟨h,g,d,t,os⟩:=by
 have hk:builtinKind "BaseException.__getattribute__"=some .slot:=by decide+kernel
 have dS:splitId "BaseException.__getattribute__"=some ("BaseException","__getattribute__"):=by decide+kernel
 have hcB:(zAr C::bm).contains (.type "BaseException")=true:=by rw[zHD,T.hasType (X:="BaseException") (b:=true) (by decide+kernel)];rfl
 have ha:=F.args_bexc_ga (.ref a) nameV;simp only[zGC,hk,dS];refine zAB ?_
 .unfold isInstance
  repeat (first|(with_reducible refine zDP hx ?_;rw[hc])|(with_reducible refine zIS hC ?_;rw[hcB])|wp_step)
  exact hq
def aAC{tk:Tok}{Q:Fin->zAD->Prop}(hC:h.get? C=some (zGU nm q C N bs bm hdct sn sub ab col dd k0 k1 k2 k3 k5 newId))(T:OwnTail h bmV bm)(lk:∀M:Model,zEa M h (zDh (.ref C) "__class__") (some (.builtin "object.__class__")))
  (hx:h.get? a=some o)(hc:o.cls= .ref C)(hq:Q (.done (.ret (.ref C))) ⟨h,g,d,t,os⟩):
  wpAny (model prog w) A (zCY.«object.__getattribute__» ⟨[.ref a,.str "__class__" tk],[]⟩) Q E ⟨h,g,d,t,os⟩:=by
 have hT5:(⟨h,g,d,t,os⟩:zAD).TypeIs (.builtin "object.__class__") "getset_descriptor":=zE8;have f5:=zE8;have f6:=zGd.lookup;have f7:=F.slot_gs_set.lookup
 repeat (any_goals (first|assumption|(with_reducible refine zDP hx ?_;rw[hc])|with_reducible refine(lk _).here ?_|wp_step))
 refine aCx hC T hx hc ?_
 repeat (any_goals (first|assumption|wp_step))
def aB3{Q:Option Value->zAD->Prop}(hC:h.get? C=some (zGU nm q C N bs bm hdct sn sub ab col dd k0 k1 k2 k3 k5 newId))(T:OwnTail h bmV bm)(lk:∀M:Model,zEa M h (zDh (.ref C) "__class__") (some (.builtin "object.__class__")))
  (lg:∀M:Model,zEa M h (zDh (.ref C) "__getattribute__") (some (.builtin "BaseException.__getattribute__")))(ln:∀M:Model,zEa M h (zDh (.ref C) "__getattr__") none)
  (hx:h.get? a=some o)(hc:o.cls= .ref C)(hq:Q (some (.ref C)) ⟨h,g,d,t+1,os⟩):wpAny (model prog w) A (zI1 (.ref a) "__class__") Q E ⟨h,g,d,t,os⟩:=by
 have by_exc:∀{E:Value->zAD->Prop} {t:Nat} {tk:Tok} {Q:Value->zAD->Prop},Q (.ref C) ⟨h,g,d,t,os⟩->wpAny (model prog w) A (getAttrBy (.ref a) (.str "__class__" tk) false) Q E ⟨h,g,d,t,os⟩:=by
  intro E t tk Q hq;have FB:=PySem.F.excAttr_ValueError;have f3:=FB.ga.bind (.ref a);have hx0:(false&&onTheHeap (zDM "BaseException.__getattribute__"))=false:=rfl;have hx2:(zDM "BaseException.__getattribute__"==zDM "object.__getattribute__")=false:=by decide+kernel
  have hx1:(onTheHeap (zAr C)&&zDM "BaseException.__getattribute__"==zDM "object.__getattribute__")=false:=by rw[hx2];rfl
  repeat (any_goals (first|assumption|(with_reducible refine zDP hx ?_;rw[hc])|with_reducible refine(lg _).here ?_|with_reducible refine(ln _).here ?_|wp_step))
  refine zEx FB.ga.plain F.entry_bexc_ga (aB5 hC T hx hc (aAC hC T lk hx hc ?_))
  repeat (any_goals (first|assumption|wp_step))
 unfold zI1 getAttrBy?
 repeat (any_goals (first|assumption|with_reducible apply by_exc|wp_step))
def aHh(hE:ni K C)(ha:zBT K (.ref C) "__class__"=some (some (.builtin "object.__class__")))(hgt:zBT K (.ref C) "__getattribute__"=some (some (.builtin "BaseException.__getattribute__")))
  (hga:zBT K (.ref C) "__getattr__"=some none):PySem.W.KitX K (.ref a) (.ref C) (λ h=>∃o,h.get? a=some o/\o.cls= .ref C) where
 ty:=λ M h _ ⟨o,h1,h2⟩=>h2▸(zId h1).andThen .now
 it:=λ M h X _=>by
  obtain⟨bm,NN,nm,q,bs,hdct,sn,sub,ab,col,dd,k0,k1,k2,k3,k5,mN,hC,_⟩:=(aBM (h:=h) (mg:=λ _=>some (.ref C)) (x:="x") X rfl hE).obj;intro A' Q' E' s' k q;unfold isType loadHead;exact zAB (wpAny_loadPart (k _ _ hC) (zAG q))
 ne:=λ h tp dd its n sl X htp=>by
  obtain⟨bm,NN,nm,q,bs,hdct,sn,sub,ab,col,dd,k0,k1,k2,k3,k5,mN,hC,_⟩:=(aBM (h:=h) (mg:=λ _=>some (.ref C)) (x:="x") X rfl hE).obj;refine zHT.mpr λ z=>?_
  have e:C=tp:=Value.ref.inj (beq_iff_eq.mp z);subst e;rw[hC]at htp;exact absurd (congrArg Obj.cls (zAq htp)) (by show zB4 "type"≠zB4 "tuple";decide+kernel)
 ca:=λ{prog w A E Q s} X ⟨o,h1,h2⟩ k=>by
  obtain⟨h,g,d,t,os⟩:=s;obtain⟨bm,NN,nm,q,bs,hdct,sn,sub,ab,col,dd,k0,k1,k2,k3,k5,mN,hC,hN,hni,T⟩:=(aBM (h:=h) (mg:=λ _=>some (.ref C)) (x:="x") X rfl hE).obj;exact aB3 hC T (λ M=>zDB X ha) (λ M=>zDB X hgt) (λ M=>zDB X hga) h1 h2 k
end
def excφ(a C:Addr):Heap->Prop:=λ h=>∃o,h.get? a=some o/\o.cls= .ref C
structure aPH(K:zAA)(C:Addr):Prop where
 ex:ni K C
 ca:zBT K (.ref C) "__class__"=some (some (.builtin "object.__class__"))
 gt:zBT K (.ref C) "__getattribute__"=some (some (.builtin "BaseException.__getattribute__"))
 ga:zBT K (.ref C) "__getattr__"=some none
section
variable{X:Cx}
def aLE(K:zAA):List V->Hp->VK->Prop:=λ xs H Q=>∃a C y c b,xs=[.ref a,y]/\RelV y c/\H a=some (.ext (excφ a C))/\aPH K C/\zD1 K (.ref C) c=some b/\Q (.bl b) H
def aGP:gH X (.builtin "isinstance") (aLE X.K):=by
 intro kK s Z H xs us Q I r h;obtain⟨a,C,y,c,b,rfl,ry,ha,kc,e,q⟩:=h;obtain⟨u,w',rfl,r1,r2⟩:=vals2 r;cases r1;have hc:w'=c:=by
  cases y<;>first
   |(cases r2;cases ry;rfl)
   |(obtain⟨t1,rfl⟩:=r2;obtain⟨t2,rfl⟩:=ry;exact absurd e (by simp[zD1,PySem.W.kitCls]))
 subst hc;obtain⟨p,_⟩:excφ a C s.heap/\_:=I.hok a _ ha;exact zBC (aHh kc.ex kc.ca kc.gt kc.ga) I.kIn p e (λ z=>nomatch z) λ tk=>⟨.bl b,H,I.tok tk,rfl,q⟩
end
structure aOb(k:Nat)(A:zAa):Prop where
 dp:A.depth+3*k+5<zGp
 un:A.units+16*k+200<cLine
structure FnH(P:zAT)(w:World)(K:zAA)(mg:Str->Option Value)(base:Heap)(k:Nat)(f:Addr)(fd:zA7)(ps:List Str)(sp:Sp):Prop where
 len:∀vs H Q E,sp vs H Q E->vs.length=ps.length
 run:∀(A:zAa) (outer:List Env) (s:zAD) (H:Hp) (args:Args) (us:List Value) (vs:List V) (Q:VK) (E:XK),aOb k A->aIh P w K mg base A outer s H->zF5 s fd args (ps.zip us)->Vals vs us->sp vs H Q E->
  zBq (model P w) A (.call (.ref f) args) (CR CX0 outer P w H s Q E) s
def aOo(K:zAA)(c:V):TE:=tCB (aLE K) (lJ (aBn 0) (lJ (tC c) z8))
section
variable{X:Cx}{n0 n1 n2 odd:Str}{c1 c2:V}{k1 k2 k3 k4:List V}{l1 l2:List Str}{a1 a2:Expr}{as1 as2 e1 e2 e3 e4 w1 w2:List Expr}{kw1 kw2:List zCA}{Q:VK}{H:Hp}{vs:List V}
 {p1 p2 p3 p4 p5 p6 p7 p8 p9 p10 p11 p12 p13 p14 p15 p16 p17 p18 p19 p20 p21 p22 p23 p24 p25 p26 p27 p28 p29 p30 p31 p32 p33 p34 p35 p36 p37 p38 p39 p40:Pos}{q1 q2 q3 q4 q5 q6 q7:Pos}{j1 j2 j3 j4 j5:Nat}{E0:XK}{wd:Addr->Option Str}
end
structure aBf(d:Nat)(e tg iter:Expr)(ifs:List Expr)(body:Env->Addr->Sem Unit):Prop where
 under:∀(A:zAa) (it:Value) (D:Addr) (env:Env),A.under (.compLoop e d it (.ref D) env)=A
 den:∀(prog:zAT) (w:World) (it:Value) (D:Addr) (env:Env),(model prog w).den (.compLoop e d it (.ref D) env)=(compTurn e d it (.ref D) env).onRaise (λ x=>do noteFrame x env;theTreesLotGoes x)
 turn:∀(it:Value) (D:Addr) (env:Env),compTurn e d it (.ref D) env=(do
   zIQ iter.pos
   match <-zFC it with
   |none=>pure (.done .next)
   |some v=>
    zCv tg it v
    zFr tg env v
    let mut ok:=true
    for c in ifs do if ok then ok <-isTrue c env (eval c env)
    if ok then
     body env D
    again (.compLoop e d it (.ref D) env))
section
variable{s:zAD}{A:zAa}{prog:zAT}{w:World}{R:zDl->zAD->Prop}
def aB2{D:Addr}(hb:aBf d e tg iter ifs body)(I:Nat->zAD->Prop)
  (one:∀n s,I n s->wpAny (model prog w) A (zFC it) (λ r zC=>match r with
   |none=>R (.ok .next) zC
   |some v=>wpAny (model prog w) A (zCv tg it v) (λ _ zC=>wpAny (model prog w) A (zFr tg env v) (λ _ zS=>
     wpAny (model prog w) A (forIn ifs true λ c r=>if r=true then do let ok <-isTrue c env (eval c env);pure (zB3 ok)else pure (zB3 r)) (λ ok y8=>if ok=true then wpAny (model prog w) A (body env D) (λ _ s₅=>∃m,m<n/\I m s₅) (λ _ _=>False) y8
      else∃m,m<n/\I m y8) (λ _ _=>False) zS) (λ _ _=>False) zC) (λ _ _=>False) zC) (λ _ _=>False) s)
  (n:Nat)(h:I n s):zBq (model prog w) A (.compLoop e d it (.ref D) env) R s:=by
 refine codeAny_loop rfl I (λ n s hJ=>?_) n h;rw[hb.under,hb.den];refine wpAny_noted ?_;rw[hb.turn];refine zAB (zFX (zAB (zBN (one n s hJ) (λ r zC y9=>?_) λ _ _ h'=>h'.elim)));cases r with
 |none=>exact zAG y9
 |some v=>
  refine zAB (zBN y9 (λ _ zC y9=>?_) λ _ _ h'=>h'.elim);refine zAB (zBN y9 (λ _ zS y6=>zAB (zBN y6 (λ ok y8 yA=>?_) λ _ _ h'=>h'.elim)) λ _ _ h'=>h'.elim);cases ok with
  |false=>exact zAG (And.intro rfl yA)
  |true=>exact zAB (zBN yA (λ _ yB h₄=>zAG ⟨rfl,h₄⟩) λ _ _ h'=>h'.elim)
end
def aBg(d:Nat)(e:Expr):Prop:=∀{prog:zAT} {w:World} {A:zAa} {R:zDl->zAD->Prop} {s:zAD} {it acc:Value} {env:Env},
  zBq (model prog w) A (.compLoop e d it acc env) R s->
  wpAny (model prog w) A (zGy it) (λ it' s'=>zBq (model prog w) A (.compLoop e d it' acc env) R s') (notedBy (model prog w) A env λ x s'=>R (.error x) s') s->
  zBq (model prog w) A (.compStart e d it acc env) R s
structure aIj(prog:zAT)(w:World)(mk:Sem Value)(obs:Obj->Prop)(o:Addr->HO):Prop where
 make:∀{A:zAa} {Q:Value->zAD->Prop} {E:Value->zAD->Prop} {s:zAD},(∀ob,obs ob->Q (.ref s.heap.objs.size) {s with heap:=s.heap.push ob})->wpAny (model prog w) A mk Q E s
 live:∀ob,obs ob->ob.isFreed=false
 ok:∀{H:Hp} {h:Heap} {a:Addr} {ob:Obj},obs ob->h.get? a=some ob->zCQ<a->cO prog w H h a (o a)
def PB(X:Cx)(body:Env->Addr->Sem Unit)(tb:Addr->St->Hp->(Hp->Prop)->Prop):Prop:=
 ∀(D:Addr) (kK:hV) (s:zAD) (Z:St) (H:Hp) (Q:Hp->Prop),Inv X kK Z H s->tb D Z H Q->wpAny (model X.prog X.w) X.A (body X.env D) (λ _ s'=>∃H',Inv X kK Z H' s'/\Q H') X.xe s
def aOz(I:Inv X kK Z H s):zCQ<s.heap.objs.size:=
 zCR (by decide) (I.mod.glob.keeps I.bk).lt
def aNc(o:Addr->HO)(wi:TI)(st:St->St)(g:TG)(tt:TT)(tb:Addr->St->Hp->(Hp->Prop)->Prop):TE:=λ Z H Q=>wi Z H λ J H1=>∀l,H1 l=none->∃W:Nat->Nat->Hp->Prop,(∃m,W 0 m (upd H1 l (o l)))/\
 ∀i m H2,W i m H2->((J.stop i H2/\Q (.ref l) H2)\/(J.go i H2/\∀x H3,J.yld i H2 x H3->g x (st Z) H3 λ Z4 H4=>tt Z4 H4 λ ok H5=>
  if ok=true then tb l Z4 H5 λ H6=>∃m',m'<m/\W (i+1) m' H6 else∃m',m'<m/\W (i+1) m' H5))
section
variable{X:Cx}{e tg iter:Expr}{ifs:List Expr}{scope:Scope}{N:List Str}{st:St->St}{ks:List Nat}{wi:TI}{g:TG}{tt:TT}{body:Env->Addr->Sem Unit}{tb:Addr->St->Hp->(Hp->Prop)->Prop}{pos:Pos}{mk:Sem Value}{obs:Obj->Prop}{o:Addr->HO}
def aIX(B:fY X scope N st ks)(hc:X.calm=true)(hT:aBf 0 e tg iter ifs body)(hS:aBg 0 e)(hA:aIj X.prog X.w mk obs o)(hg:∀C fp zI zD,PG (X.block scope C N fp zI zD) tg g)(hgo:uM g ks)(ht:∀C fp zI zD,aDJ (X.block scope C N fp zI zD) ifs tt)
  (he:∀C fp zI zD,PB (X.block scope C N fp zI zD) body tb){Q:VK}{RR:Value->Addr->zDl->zAD->Prop}
  (I:Inv X kK Z H1 zS)(T:Turn X.prog X.w X.K tg J fp it tn)(h0:tn 0 zS.heap)(hfp:∀b∈fp,uN X kK H1 b)
  (h:∀l,H1 l=none->∃W:Nat->Nat->Hp->Prop,(∃m,W 0 m (upd H1 l (o l)))/\
   ∀i m H2,W i m H2->((J.stop i H2/\Q (.ref l) H2)\/(J.go i H2/\∀x H3,J.yld i H2 x H3->g x (st Z) H3 λ Z4 H4=>tt Z4 H4 λ ok H5=>
    if ok=true then tb l Z4 H5 λ H6=>∃m',m'<m/\W (i+1) m' H6 else∃m',m'<m/\W (i+1) m' H5)))
  (hRR:∀D C H' s',(∃Z',Inv (X.block scope C N fp zS H1) [] Z' H' s')->zS.heap.objs.size<=C->Q (.ref D) H'->RR (.ref D) C (.ok .next) s'):
  wpAny (model X.prog X.w) X.A mk (λ acc y8=>wpAny (model X.prog X.w) X.A (zFB scope X.env.globals (bH scope X.env) [] X.env.qual none .none (some X.env)) (λ cenv yB=>
   zBq (model X.prog X.w) X.A (.compStart e 0 (.ref it) acc {cenv with scope:=zFg scope X.env}) (RR acc cenv.locals) yB) E y8) E zS:=by
 refine hA.make λ ob hob=>aFB λ y9 yY y7 yT=>?_
 dsimp only at yY y7 yT ⊢;generalize hH2:zS.heap.push ob=P2 at yY y7 yT ⊢;have hC:P2.objs.size=zS.heap.objs.size+1:=by rw[<-hH2,zBV]
 have hDC:zS.heap.objs.size≠P2.objs.size:=by rw[hC];exact zAZ (zBd _)
 have pV:zS.heap.objs.size<=P2.objs.size:=by rw[hC];exact zEi _
 have old:∀b o,zS.heap.get? b=some o->y9.get? b=some o:=λ b o e=>y7 b o (hH2▸zAE _ e)
 have aE:y9.get? zS.heap.objs.size=some ob:=y7 _ _ (hH2▸zAL _ (hA.live ob hob));generalize hCe:P2.objs.size=C at yY y7 yT hDC pV hC ⊢;have hHD:H1 zS.heap.objs.size=none:=I.hok.fresh (zAM _);have I0:Inv (X.block scope C N fp zS H1) [] (st Z) (upd H1 zS.heap.objs.size (o zS.heap.objs.size)) {zS with heap:=y9,toks:=zS.toks}:=
  I.block B hfp (λ b hb=>by obtain⟨o,e,_⟩:=T.obj 0 _ h0 b hb;exact⟨o,e⟩) (zAM _) pV hDC old yY yT (λ c hc=>zAZ (zH1 pV hc)) (hA.ok hob aE (aOz I))
 obtain⟨W,⟨m0,w0⟩,step⟩:=h _ hHD;have h01:tn 0 y9:=T.keep 0 _ _ h0 λ b _ o e=>old b o e
 have aS:∀{H':Hp},(∀b∈fp,H' b=none)->∀b∈fp,uN (X.block scope C N fp zS H1) [] H' b:=λ{H'} hn b hb=>
  ⟨hn b hb,(I0.ok.exf b hb).1,I0.ok.exfs b hb,.inl hb,λ x c e=>(I0.ok.exf b hb).2 x c e,λ p hp=>absurd (show p∈([]:hV)from hp) (by simp)⟩
 have fr0:∀b∈fp,upd H1 zS.heap.objs.size (o zS.heap.objs.size) b=none:=λ b hb=>by
  obtain⟨o,e,_⟩:=T.obj 0 _ h0 b hb;rw[bA (zAZ (zAR e))];exact(hfp b hb).1
 have loop:∀sx:zAD,sx={zS with heap:=y9,toks:=zS.toks}->
   zBq (model X.prog X.w) X.A (.compLoop e 0 (.ref it) (.ref zS.heap.objs.size) (X.block scope C N fp zS H1).env) (RR (.ref zS.heap.objs.size) C) sx:=by
  rintro sx rfl;refine aB2 hT (λ n s'=>∃i H2,Inv (X.block scope C N fp zS H1) [] (st Z) H2 s'/\tn i s'.heap/\(∀b∈fp,H2 b=none)/\W i n H2) ?_ m0 ⟨0,_,I0,h01,fr0,w0⟩;rintro n s3 ⟨i,H2,I2,st2,fr2,w2⟩;rcases step i n H2 w2 with ⟨stop,q⟩|⟨go,nxt⟩
  .refine thn (T.done (X.block scope C N fp zS H1) rfl rfl rfl hc i [] s3 (st Z) H2 _ I2 (aS fr2) st2 stop) λ r s4 ⟨hr,I4⟩=>?_
   subst hr;exact hRR _ C H2 s4 ⟨_,I4⟩ pV q
  .refine thn (T.item (X.block scope C N fp zS H1) rfl rfl rfl hc i [] s3 (st Z) H2 _ I2 (aS fr2) st2 go) λ r s4 ⟨u,hr,h4⟩=>?_
   subst hr;refine thn h4 λ _ s5 ⟨x,H5,I5,r5,y5,st5,fr5⟩=>?_
   have I5p:=I5.pinned (aS fr5) (T.obj _ _ st5);refine thn (hg C fp zS H1 _ s5 (st Z) H5 x u _ I5p r5 (hgo _ _ _ _ (nxt x H5 y5))) λ _ s6 ⟨Z6,H6,I6,q6,aKD,ag6⟩=>?_
   refine thn (ht C fp zS H1 _ s6 Z6 H6 _ I6 q6) λ ok s7 ⟨H7,I7,q7⟩=>?_
   have again:∀{H9:Hp} {s9:zAD},Inv (X.block scope C N fp zS H1) ([]++ug fp s5.heap) Z6 H9 s9->(∃m',m'<n/\W (i+1) m' H9)->
     ∃m,m<n/\∃i H2,Inv (X.block scope C N fp zS H1) [] (st Z) H2 s9/\tn i s9.heap/\(∀b∈fp,H2 b=none)/\W i m H2:=λ{H9 s9} I9 ⟨m',hm,w9⟩=>by
    have cE:∀b∈fp,∀o,s5.heap.get? b=some o->s9.heap.get? b=some o/\H9 b=none:=λ b hb o e=>by
     have z:=I9.pin (b,o) (zA8 _ (zA8 _ (m9 hb e)));exact⟨z.1,z.2.1⟩
    refine⟨m',hm,i+1,H9,I9.unpinned.weak (by rw[aKD]) (λ k v e=>?_),T.keep _ _ _ st5 λ b hb o e=>(cE b hb o e).1,λ b hb=>?_,w9⟩
    .have hk:k<(st Z).length:=(zAO.mp e).1
     have hkN:k<N.length:=by rw[<-B.len Z];exact hk
     obtain⟨_,hks,_⟩:=B.val Z k _ v (zAJ hkN) e;rw[ag6 k hks];exact e
    .obtain⟨o,e,_⟩:=T.obj _ _ st5 b hb
     exact(cE b hb o e).2
   cases ok with
   |false=>
    rw[if_neg zAX]at q7 ⊢;exact again I7 q7
   |true=>
    rw[if_pos rfl]at q7 ⊢;exact thn (he C fp zS H1 _ _ s7 Z6 H7 _ I7 q7) λ _ s8 ⟨H8,I8,q8⟩=>again I8 q8
 exact hS (loop _ rfl) (T.self X.A 0 _ _ _ h01 (loop _ rfl))
def aOD(B:fY X scope N st ks)(hc:X.calm=true)(hi:PI X tg iter wi)(hg:∀C fp zI zD,PG (X.block scope C N fp zI zD) tg g)(hgo:uM g ks)(ht:∀C fp zI zD,aDJ (X.block scope C N fp zI zD) ifs tt)
  (hT:aBf 0 e tg iter ifs body)(hS:aBg 0 e)(hA:aIj X.prog X.w mk obs o)(he:∀C fp zI zD,PB (X.block scope C N fp zI zD) body tb)(hcs:clausesOf e=⟨tg,iter,ifs,0⟩::gs)(hev:eval e X.env=comprehension e scope X.env (firstIterPos (⟨tg,iter,ifs,0⟩::gs) pos) mk false (eval iter X.env))(hs:∀x,zBl iter X.env x=pure x:=by intro _;rfl):PE X e (aNc o wi st g tt tb):=by
 intro kK s Z H Q I h;have hcl:zFe scope X.env=pure (bH scope X.env):=lH λ y hy hk=>I.ok.has _ (B.free y hy hk)
 rw[hev];refine zET (use:=none) hcs hs hcl B.kind B.loc (thn (hi kK s Z H _ I h) λ v s1 h1=>thn h1 λ itv s2 h2=>?_);obtain⟨it,fp,tn,J,H2,e,I2,T,st2,f2,hq⟩:=h2;subst e;refine aIX (RR:=λ acc C=>compPost (model X.prog X.w) X.A X.xe none (EP X kK Z Q) acc C) B hc hT hS hA hg hgo ht he I2 T st2 f2 hq ?_;intro D C H' s' hJ pV q;have I3:=aBc I2 f2 hJ;obtain⟨Z',J'⟩:=hJ;obtain⟨m,hn,_⟩:=id J'.loc;have hHC:H' C=none:=J'.free;refine⟨m,hn,λ h'' hs''=>⟨.ref D,H',?_,rfl,q⟩⟩;exact I3.turned (t':=s'.toks) (λ b o ne e=>(hs''.2 b ne).trans e) hHC (zBg (zAY I2.lt pV)) (.inr (zA6 I2.sz pV))
  (λ x c e z=>by obtain⟨v,ic⟩:=I2.cell x c e;exact absurd (zAY ic.lt (by rw[z];exact pV)) (zBQ _))
  (λ p hp z=>absurd (zAY (I2.pinL hp) (by rw[z];exact pV)) (zBQ _))
end
def zP(kx vx:Expr)(env:Env)(D:Addr):Sem Unit:=do
 let kv <-eval kx env;let vv <-zEK [kv] (eval vx env);zIQ {kx.pos with endLine:=vx.pos.endLine,endCol:=vx.pos.endCol}
 zEK [kv,vv] (dictSet D kv vv)
def aF4(kx vx tg iter:Expr)(ifs:List Expr)(scope:Scope)(pos:Pos):aBf 0 (.DictComp kx vx [⟨tg,iter,ifs,0⟩] scope pos) tg iter ifs (zP kx vx):=
 ⟨λ _ _ _ _=>rfl,λ _ _ _ _ _=>rfl,λ _ _ _=>rfl⟩
def aDS(kx vx tg iter:Expr)(ifs:List Expr)(scope:Scope)(pos:Pos):aBg 0 (.DictComp kx vx [⟨tg,iter,ifs,0⟩] scope pos):=λ h0 h=>codeAny_compStart_dict h0 h
end L2
namespace VL
open PySem PySem.Spec PyProof.Rows L2
inductive D where
 |non|bl (b:Bool)|int (i:Int)|str (x:Str)|tup (l:List D)|lst (l:List D)|dct (ks vs:List D)|set (l:List Int)|scr (l:List Int)|fn (x:Str)|itm (o:Option Nat) (l:gX)
instance:Inhabited D:=⟨.non⟩
def kD:Key->D
 | .inl i=>.int i
 | .inr x=>.str x
variable{K:zAA}
def pK(K:zAA)(H:Hp)(a:Addr)(ns:List Int):Prop:=(∃o,H a=some (.frz o (.lst (ns.map V.int))))\/
 ∃(o:Obj) (its:Array Value) (n:Nat),K.lookup a=some o/\o.cls= .type "list"/\o.dict=none/\o.data= .seq its n/\its.size<=zAS/\Vals (ns.map V.int) its.toList
def pK.sq(h:pK K H a ns):SqL K H a (ns.map V.int):=by
 rcases h with h|h
 .exact .inl (.inr h)
 .exact .inr h
def zX(H:Hp)(a:Addr)(oo:Option Nat)(l:gX):Prop:=∃o es ep,o.data= .dict es ep/\(oo=none\/oo=some ep)/\H a=some (.frz o (.dK (l.map λ p=>(.inl p.1,V.int p.2))))
def hsh(ns:List Int):Int:=reduceHash (zI8 (ns.map hashInt))
def dxO(a:Addr)(es:List (List Int×Addr×V)):HO:=.ext λ h=>es.length<=zAS/\(a==zCQ)=false/\∃(xs:List (List Int×Addr×Value)) (o:Obj) (ts:Array DictEntry) (ep:Nat),zGw (λ e x=>e.1=x.1/\e.2.1=x.2.1/\RelV e.2.2 x.2.2) es xs/\
 h.get? a=some o/\o.ExactDict/\o.data= .dict ts ep/\ts.toList=xs.map λ x=>⟨hsh x.1,.ref x.2.1,x.2.2⟩
structure DxK(K:zAA)(H:Hp)(a:Addr)(es:List (List Int×Addr×V)):Prop where
 at_:H a=some (dxO a es)
 ks:∀e∈es,SqT K H e.2.1 (e.1.map V.int)
 nd:(es.map (·.1)).Nodup
mutual
inductive Rp(K:zAA):(Addr->Prop)->Hp->V->D->Prop where
 |non {A:Addr->Prop} {H:Hp}:Rp K A H .non .non
 |bl {A:Addr->Prop} {H:Hp} (b:Bool):Rp K A H (.bl b) (.bl b)
 |int {A:Addr->Prop} {H:Hp} (i:Int):Rp K A H (.int i) (.int i)
 |str {A:Addr->Prop} {H:Hp} (x:Str):Rp K A H (.str x) (.str x)
 |tup {A:Addr->Prop} {H:Hp} {a:Addr} {xs:List V} {ds:List D} (h:SqT K H a xs) (r:Rps K A H xs ds):Rp K A H (.ref a) (.tup ds)
 |lst {A:Addr->Prop} {H:Hp} {a:Addr} {xs:List V} {ds:List D} (h:H a=some (.lst xs)) (m:A a) (r:Rps K (λ p=>A p/\p≠a) H xs ds):Rp K A H (.ref a) (.lst ds)
 |dK {A:Addr->Prop} {H:Hp} {a:Addr} {kvs:List (Key×V)} {ds:List D} (h:H a=some (.dK kvs)) (m:A a) (r:Rps K (λ p=>A p/\p≠a) H (kvs.map (·.2)) ds):Rp K A H (.ref a) (.dct (kvs.map λ p=>kD p.1) ds)
 |dT {A:Addr->Prop} {H:Hp} {a:Addr} {es:List (List Int×Addr×V)} {ds:List D} (h:DxK K H a es) (m:A a) (r:Rps K (λ p=>A p/\p≠a) H (es.map (·.2.2)) ds):Rp K A H (.ref a) (.dct (.non::es.map λ e=>.tup (e.1.map .int)) ds)
 |set {A:Addr->Prop} {H:Hp} {a:Addr} {S:Int->Bool} {l:List Int} (h:H a=some (.set S l.length)) (m:A a) (hS:∀i,S i=decide (i∈l)) (nd:l.Nodup):Rp K A H (.ref a) (.set l)
 |scr {A:Addr->Prop} {H:Hp} {a:Addr} {ns:List Int} (h:pK K H a ns):Rp K A H (.ref a) (.scr ns)
 |fn {A:Addr->Prop} {H:Hp} {a:Addr} {x:Str} (h:zAn K zA9 x=some (some (.ref a))):Rp K A H (.ref a) (.fn x)
 |itm {A:Addr->Prop} {H:Hp} {a:Addr} {oo:Option Nat} {l:gX} (h:zX H a oo l):Rp K A H (.ref a) (.itm oo l)
inductive Rps(K:zAA):(Addr->Prop)->Hp->List V->List D->Prop where
 |nil {A:Addr->Prop} {H:Hp}:Rps K A H [] []
 |cons {A:Addr->Prop} {H:Hp} {x:V} {d:D} {xs:List V} {ds:List D} (h:Rp K A H x d) (r:Rps K A H xs ds):Rps K A H (x::xs) (d::ds)
end
def pK.mono(s:aW H H')(h:pK K H a ns):pK K H' a ns:=by
 rcases h with ⟨o,h⟩|h
 .exact .inl ⟨o,s _ _ h⟩
 .exact .inr h
def zX.mono(h:zX H a oo l)(s:aW H H'):zX H' a oo l:=let⟨o,es,ep,y,z,e⟩:=h;⟨o,es,ep,y,z,s _ _ e⟩
def DxK.mono(h:DxK K H a es)(s:aW H H'):DxK K H' a es:=⟨s _ _ h.at_,λ e he=>s.sqt (h.ks e he),h.nd⟩
def Rp.mono'(s:aW H H')(r:Rp K A H x d)(hA:∀p o,H p=some o->A p->A' p):Rp K A' H' x d:=
 Rp.rec (motive_1:=λ A H x d _=>∀H',aW H H'->∀A':Addr->Prop,(∀p o,H p=some o->A p->A' p)->Rp K A' H' x d) (motive_2:=λ A H xs ds _=>∀H',aW H H'->∀A':Addr->Prop,(∀p o,H p=some o->A p->A' p)->Rps K A' H' xs ds)
  (λ _ _ _ _=>.non) (λ b _ _ _ _=>.bl b) (λ i _ _ _ _=>.int i) (λ x _ _ _ _=>.str x) (λ h _ ih _ s _ hA=>.tup (s.sqt h) (ih _ s _ hA))
  (λ h m _ ih _ s _ hA=>.lst (s _ _ h) (hA _ _ h m) (ih _ s _ λ p o e z=>⟨hA p o e z.1,z.2⟩)) (λ h m _ ih _ s _ hA=>.dK (s _ _ h) (hA _ _ h m) (ih _ s _ λ p o e z=>⟨hA p o e z.1,z.2⟩))
  (λ h m _ ih _ s _ hA=>.dT (h.mono s) (hA _ _ h.at_ m) (ih _ s _ λ p o e z=>⟨hA p o e z.1,z.2⟩)) (λ h m hS nd _ s _ hA=>.set (s _ _ h) (hA _ _ h m) hS nd) (λ h _ s _ _=>.scr (h.mono s)) (λ h _ _ _ _=>.fn h) (λ h _ s _ _=>.itm (h.mono s)) (λ _ _ _ _=>.nil) (λ _ _ ih ir _ s _ hA=>.cons (ih _ s _ hA) (ir _ s _ hA)) r H' s A' hA
def Rps.mono'(s:aW H H')(r:Rps K A H xs ds)(hA:∀p o,H p=some o->A p->A' p):Rps K A' H' xs ds:=
 Rps.rec (motive_1:=λ A H x d _=>∀H',aW H H'->∀A':Addr->Prop,(∀p o,H p=some o->A p->A' p)->Rp K A' H' x d) (motive_2:=λ A H xs ds _=>∀H',aW H H'->∀A':Addr->Prop,(∀p o,H p=some o->A p->A' p)->Rps K A' H' xs ds)
  (λ _ _ _ _=>.non) (λ b _ _ _ _=>.bl b) (λ i _ _ _ _=>.int i) (λ x _ _ _ _=>.str x) (λ h _ ih _ s _ hA=>.tup (s.sqt h) (ih _ s _ hA))
  (λ h m _ ih _ s _ hA=>.lst (s _ _ h) (hA _ _ h m) (ih _ s _ λ p o e z=>⟨hA p o e z.1,z.2⟩)) (λ h m _ ih _ s _ hA=>.dK (s _ _ h) (hA _ _ h m) (ih _ s _ λ p o e z=>⟨hA p o e z.1,z.2⟩))
  (λ h m _ ih _ s _ hA=>.dT (h.mono s) (hA _ _ h.at_ m) (ih _ s _ λ p o e z=>⟨hA p o e z.1,z.2⟩)) (λ h m hS nd _ s _ hA=>.set (s _ _ h) (hA _ _ h m) hS nd) (λ h _ s _ _=>.scr (h.mono s)) (λ h _ _ _ _=>.fn h) (λ h _ s _ _=>.itm (h.mono s)) (λ _ _ _ _=>.nil) (λ _ _ ih ir _ s _ hA=>.cons (ih _ s _ hA) (ir _ s _ hA)) r H' s A' hA
def Rp.mono(s:aW H H')(hA:∀p o,H p=some o->A p->A' p)(r:Rp K A H x d):Rp K A' H' x d:=r.mono' s hA
def Rps.mono(s:aW H H')(hA:∀p o,H p=some o->A p->A' p)(r:Rps K A H x d):Rps K A' H' x d:=r.mono' s hA
def Rp.up(s:aW H H')(r:Rp K A H x d):Rp K A H' x d:=r.mono s λ _ _ _ h=>h
def Rp.wk(hA:∀p o,H p=some o->A p->A' p)(r:Rp K A H x d):Rp K A' H x d:=r.mono (aW.refl H) hA
def Rps.up(s:aW H H')(r:Rps K A H x d):Rps K A H' x d:=r.mono s λ _ _ _ h=>h
def Rps.wk(hA:∀p o,H p=some o->A p->A' p)(r:Rps K A H x d):Rps K A' H x d:=r.mono (aW.refl H) hA
def jc:HO->Bool
 | .lst _=>true| .dK _=>true| .dT _=>true| .set _ _=>true| .ext _=>true|_=>false
def aAt(s:nj l H H')(hl:H l=some o)(ho:jc o=true)(h:SqT K H a xs):SqT K H' a xs:=by
 rcases h with (h|⟨u,h⟩)|h
 .refine .inl (.inl (s _ _ (λ e=>?_) h))
  subst e;rw[hl]at h;cases h;cases ho
 .refine .inl (.inr ⟨u,s _ _ (λ e=>?_) h⟩)
  subst e;rw[hl]at h;cases h;cases ho
 .exact .inr h
def aEj(s:nj l H H')(hl:H l=some o)(ho:jc o=true)(h:pK K H a ns):pK K H' a ns:=by
 rcases h with ⟨u,h⟩|h
 .exact .inl ⟨u,s _ _ (λ e=>by subst e;rw[hl]at h;cases h;cases ho) h⟩
 .exact .inr h
def zX.but(h:zX H a oo q)(s:nj l H H')(hl:H l=some o)(ho:jc o=true):zX H' a oo q:=let⟨u,es,ep,y,z,e⟩:=h;⟨u,es,ep,y,z,s _ _ (λ z=>by subst z;rw[hl]at e;cases e;cases ho) e⟩
def DxK.but(h:DxK K H a es)(s:nj l H H')(hl:H l=some o)(ho:jc o=true)(ne:a≠l):DxK K H' a es:=
 ⟨s _ _ ne h.at_,λ e he=>aAt s hl ho (h.ks e he),h.nd⟩
def Rp.but'(s:nj l H H')(hl:H l=some o)(ho:jc o=true)(r:Rp K A H x d)(hA:¬A l):Rp K A H' x d:=
 Rp.rec (motive_1:=λ A H x d _=>∀H',nj l H H'->∀o:HO,H l=some o->jc o=true->¬A l->Rp K A H' x d) (motive_2:=λ A H xs ds _=>∀H',nj l H H'->∀o:HO,H l=some o->jc o=true->¬A l->Rps K A H' xs ds)
  (λ _ _ _ _ _ _=>.non) (λ b _ _ _ _ _ _=>.bl b) (λ i _ _ _ _ _ _=>.int i) (λ x _ _ _ _ _ _=>.str x) (λ h _ ih _ s o hl ho hA=>.tup (aAt s hl ho h) (ih _ s o hl ho hA))
  (λ h m _ ih _ s o hl ho hA=>.lst (s _ _ (λ e=>hA (e▸m)) h) m (ih _ s o hl ho λ z=>hA z.1)) (λ h m _ ih _ s o hl ho hA=>.dK (s _ _ (λ e=>hA (e▸m)) h) m (ih _ s o hl ho λ z=>hA z.1))
  (λ h m _ ih _ s o hl ho hA=>.dT (h.but s hl ho λ e=>hA (e▸m)) m (ih _ s o hl ho λ z=>hA z.1)) (λ h m hS nd _ s o hl ho hA=>.set (s _ _ (λ e=>hA (e▸m)) h) m hS nd) (λ h _ s o hl ho _=>.scr (aEj s hl ho h)) (λ h _ _ _ _ _ _=>.fn h) (λ h _ s o hl ho _=>.itm (h.but s hl ho)) (λ _ _ _ _ _ _=>.nil) (λ _ _ ih ir _ s o hl ho hA=>.cons (ih _ s o hl ho hA) (ir _ s o hl ho hA)) r H' s o hl ho hA
def Rps.but'(s:nj l H H')(hl:H l=some o)(ho:jc o=true)(r:Rps K A H xs ds)(hA:¬A l):Rps K A H' xs ds:=
 Rps.rec (motive_1:=λ A H x d _=>∀H',nj l H H'->∀o:HO,H l=some o->jc o=true->¬A l->Rp K A H' x d) (motive_2:=λ A H xs ds _=>∀H',nj l H H'->∀o:HO,H l=some o->jc o=true->¬A l->Rps K A H' xs ds)
  (λ _ _ _ _ _ _=>.non) (λ b _ _ _ _ _ _=>.bl b) (λ i _ _ _ _ _ _=>.int i) (λ x _ _ _ _ _ _=>.str x) (λ h _ ih _ s o hl ho hA=>.tup (aAt s hl ho h) (ih _ s o hl ho hA))
  (λ h m _ ih _ s o hl ho hA=>.lst (s _ _ (λ e=>hA (e▸m)) h) m (ih _ s o hl ho λ z=>hA z.1)) (λ h m _ ih _ s o hl ho hA=>.dK (s _ _ (λ e=>hA (e▸m)) h) m (ih _ s o hl ho λ z=>hA z.1))
  (λ h m _ ih _ s o hl ho hA=>.dT (h.but s hl ho λ e=>hA (e▸m)) m (ih _ s o hl ho λ z=>hA z.1)) (λ h m hS nd _ s o hl ho hA=>.set (s _ _ (λ e=>hA (e▸m)) h) m hS nd) (λ h _ s o hl ho _=>.scr (aEj s hl ho h)) (λ h _ _ _ _ _ _=>.fn h) (λ h _ s o hl ho _=>.itm (h.but s hl ho)) (λ _ _ _ _ _ _=>.nil) (λ _ _ ih ir _ s o hl ho hA=>.cons (ih _ s o hl ho hA) (ir _ s o hl ho hA)) r H' s o hl ho hA
def Rp.but(s:nj l H H')(hl:H l=some o)(ho:jc o=true)(hA:¬A l)(r:Rp K A H x d):Rp K A H' x d:=r.but' s hl ho hA
def Rps.but(s:nj l H H')(hl:H l=some o)(ho:jc o=true)(hA:¬A l)(r:Rps K A H x d):Rps K A H' x d:=r.but' s hl ho hA
mutual
def imm:D->Bool
 | .tup l=>ou l
 | .lst _=>false
 | .dct _ _=>false
 | .set _=>false
 |_=>true
def ou:List D->Bool
 |[]=>true
 |d::r=>imm d&&ou r
end
def aA7(e:ou (d::r)=true):imm d=true/\ou r=true:=by
 simp only[ou,zAW]at e;exact e
def aKR(e:imm (.tup l)=true):ou l=true:=by simpa[imm]using e
def aKW(e:imm (.lst l)=true):False:=by simp[imm]at e
def aFK(e:imm (.dct l k)=true):False:=by simp[imm]at e
def aKT(e:imm (.set l)=true):False:=by simp[imm]at e
def Rp.imm'(r:Rp K A H x d)(e:VL.imm d=true):Rp K A' H x d:=
 Rp.rec (motive_1:=λ _ H x d _=>VL.imm d=true->Rp K A' H x d) (motive_2:=λ _ H xs ds _=>ou ds=true->Rps K A' H xs ds)
  (λ _=>.non) (λ b _=>.bl b) (λ i _=>.int i) (λ x _=>.str x) (λ h _ ih e=>.tup h (ih (aKR e)))
  (λ _ _ _ _ e=>(aKW e).elim) (λ _ _ _ _ e=>(aFK e).elim) (λ _ _ _ _ e=>(aFK e).elim) (λ _ _ _ _ e=>(aKT e).elim) (λ h _=>.scr h) (λ h _=>.fn h) (λ h _=>.itm h) (λ _=>.nil) (λ _ _ ih ir e=>.cons (ih (aA7 e).1) (ir (aA7 e).2)) r e
theorem Rp.imm(r:Rp K A H x d)(h:VL.imm d=true):Rp K A' H x d:=r.imm' h
def Rp.int_inv(r:Rp K A H v (.int i)):v= .int i:=by cases r;rfl
def Rp.tup_inv(r:Rp K A H v (.tup ds)):∃a xs,v= .ref a/\SqT K H a xs/\Rps K A H xs ds:=by cases r with|tup h r=>exact⟨_,_,rfl,h,r⟩
def Rp.lst_inv(r:Rp K A H v (.lst ds)):∃a xs,v= .ref a/\H a=some (.lst xs)/\A a/\Rps K (λ p=>A p/\p≠a) H xs ds:=by cases r with|lst h m r=>exact⟨_,_,rfl,h,m,r⟩
def Rp.scr_inv(r:Rp K A H v (.scr ns)):∃a,v= .ref a/\pK K H a ns:=by cases r with|scr h=>exact⟨_,rfl,h⟩
def Rps.one_inv(r:Rps K A H vs [d]):∃v,vs=[v]/\Rp K A H v d:=by cases r with|cons h r=>cases r;exact⟨_,rfl,h⟩
section
variable{A:Addr->Prop}{H:Hp}
theorem Rps.length:∀{xs:List V} {ds:List D},Rps K A H xs ds->xs.length=ds.length:=by
 intro xs ds h;induction xs generalizing ds with
 |nil=>cases h;rfl
 |cons x xs ih=>cases h with|cons _ r=>exact congrArg (·+1) (ih r)
theorem Rps.get:∀{xs:List V} {ds:List D} {i:Nat} {x:V},Rps K A H xs ds->xs[i]? =some x->∃d,ds[i]? =some d/\Rp K A H x d
 |_,_,_,_,.nil,e=>by simp at e
 |_,_,0,_,.cons h _,e=>by simp at e;subst e;exact⟨_,rfl,h⟩
 |_,_,i+1,x,.cons _ r,e=>by
  obtain⟨d,h1,h2⟩:=Rps.get (i:=i) (x:=x) r (by simpa using e);exact⟨d,by simpa using h1,h2⟩
theorem Rps.getD:∀{xs:List V} {ds:List D} {i:Nat} {d:D},Rps K A H xs ds->ds[i]? =some d->∃x,xs[i]? =some x/\Rp K A H x d
 |_,_,_,_,.nil,e=>by simp at e
 |_,_,0,_,.cons h _,e=>by simp at e;subst e;exact⟨_,rfl,h⟩
 |_,_,i+1,d,.cons _ r,e=>by
  obtain⟨x,h1,h2⟩:=Rps.getD (i:=i) (d:=d) r (by simpa using e);exact⟨x,by simpa using h1,h2⟩
def Rps.append:∀{xs ys:List V} {ds es:List D},Rps K A H xs ds->Rps K A H ys es->Rps K A H (xs++ys) (ds++es):=by
 intro xs ys ds es h s;induction xs generalizing ds with
 |nil=>cases h;exact s
 |cons x xs ih=>cases h with|cons h r=>exact .cons h (ih r)
theorem Rps.take:∀{xs:List V} {ds:List D} (n:Nat),Rps K A H xs ds->Rps K A H (xs.take n) (ds.take n)
 |_,_,0,_=>.nil
 |_,_,_+1,.nil=>.nil
 |_,_,n+1,.cons h r=>.cons h (Rps.take n r)
theorem Rps.drop:∀{xs:List V} {ds:List D} (n:Nat),Rps K A H xs ds->Rps K A H (xs.drop n) (ds.drop n)
 |_,_,0,r=>r
 |_,_,_+1,.nil=>.nil
 |_,_,n+1,.cons _ r=>Rps.drop n r
theorem Rps.ints:∀{ns:List Int},Rps K A H (ns.map V.int) (ns.map D.int)
 |[]=>.nil
 |n::ns=>.cons (.int n) Rps.ints
theorem Rps.ints_of:∀{xs:List V} {ns:List Int},Rps K A H xs (ns.map D.int)->xs=ns.map V.int
 |_,[],.nil=>rfl
 |_,n::ns,.cons h r=>by
  cases h;rw[zAC,Rps.ints_of r]
end
def aR(h:a=b):a=b:=h
inductive Rs(α:Type) where
 |ok (a:α)|ex (c:Str)|st
noncomputable def Rs.bd{α β:Type}:Rs α->(α->Rs β)->Rs β
 | .ok a,f=>f a
 | .ex c,_=>.ex c
 | .st,_=>.st
@[simp] def aK(a:α)(f:α->Rs β):(Rs.ok a).bd f=f a:=aR rfl
def dN{r:Rs α}(h:r.bd f= .ok b):∃a,r= .ok a/\f a= .ok b:=by
 cases r with
 |ok a=>exact⟨a,rfl,h⟩
 |ex c=>cases h
 |st=>cases h
inductive Slot where
 |no|sh (d:D)|nw (d:D)|ow (d:D)|oz (d:D)|o2 (l:List (List D))
abbrev En:=List Slot
abbrev Lab:=Addr->Nat×Nat
abbrev Mode:=Option (List Nat)
def inM(m:Mode)(n:Nat):Prop:=match m with
 |none=>True
 |some L=>n∈L
def jn:Mode->Mode->Mode
 |some a,some b=>some (a++b)
 |_,_=>none
def aOX(h:inM a n):inM (jn a b) n:=by
 cases a with
 |none=>cases b<;>exact trivial
 |some L=>
  cases b with
  |none=>exact trivial
  |some M=>exact zAc _ h
def aOW(h:inM b n):inM (jn a b) n:=by
 cases a with
 |none=>cases b<;>exact trivial
 |some L=>
  cases b with
  |none=>exact trivial
  |some M=>exact zA8 _ h
def fpM(m:Mode)(lab:Lab)(H:Hp):Addr->Prop:=λ p=>H p=none\/inM m (lab p).1
def aIH(h:fpM a lab H p):fpM (jn a b) lab H p:=h.imp id aOX
def aIG(h:fpM b lab H p):fpM (jn a b) lab H p:=h.imp id aOW
def lY(s:aW H H')(h:fpM m lab H' p):fpM m lab H p:=h.imp (λ z=>s.free z) id
structure Gx where
 H0:Hp
 E:XK
 cl:Str->Addr
def aH5:D->Bool
 | .lst _=>true
 | .dct _ _=>true
 | .set _=>true
 |_=>false
def iK(K:zAA)(H:Hp)(lab:Lab)(i:Nat)(v:V):Slot->Prop
 | .no=>True
 | .sh d=>Rp K (λ p=>(lab p).1<=1) H v d
 | .nw d=>Rp K (λ p=>(lab p).1=1) H v d
 | .ow d=>Rp K (λ p=>(lab p).1=1\/(lab p).1=i+2) H v d/\(aH5 d=true->∃a,v= .ref a/\(lab a).1=i+2)
 | .oz d=>∃a xs ds,v= .ref a/\d= .lst ds/\H a=some (.lst xs)/\(lab a).1=i+2/\Rps K (λ p=>(lab p).1<=1) H xs ds
 | .o2 l=>∃a xs,v= .ref a/\H a=some (.lst xs)/\lab a=(i+2,0)/\xs.length=l.length/\∀(j:Nat) x ds,xs[j]? =some x->l[j]? =some ds->Rp K (λ p=>lab p=(i+2,j+1)) H x (.lst ds)
structure RR(K:zAA)(G:Gx)(U:List (V×D))(Y:En)(Z:L2.St)(H:Hp)(lab:Lab):Prop where
 len:Z.length=Y.length
 sl:∀(i:Nat) (s:Slot),Y[i]? =some s->s= .no\/∃v,Z[i]? =some (some v)/\iK K H lab i v s
 old:aW G.H0 H
 new:∀p,(lab p).1≠0->G.H0 p=none
 tm:∀q∈U,Rp K (λ p=>(lab p).1<=1) H q.1 q.2
theorem iK.up(s:aW H H')(h:iK K H lab i v x):iK K H' lab i v x:=by
 cases x with
 |no=>exact trivial
 |sh d=>exact Rp.up s h
 |nw d=>exact Rp.up s h
 |ow d=>exact⟨Rp.up s h.1,h.2⟩
 |oz d=>
  obtain⟨a,xs,ds,e1,e2,e3,e4,e5⟩:=h;exact⟨a,xs,ds,e1,e2,s _ _ e3,e4,e5.up s⟩
 |o2 l=>
  obtain⟨a,xs,e1,e2,e3,e4,e5⟩:=h;exact⟨a,xs,e1,s _ _ e2,e3,e4,λ j x ds f1 f2=>(e5 j x ds f1 f2).up s⟩
def aLq(r:Rp K A H (.ref a) d)(hm:aH5 d=true):∃o,H a=some o/\jc o=true/\A a:=by
 cases r with
 |lst h m _=>exact⟨_,h,rfl,m⟩
 |dK h m _=>exact⟨_,h,rfl,m⟩
 |dT h m _=>exact⟨_,h.at_,rfl,m⟩
 |set h m _ _=>exact⟨_,h,rfl,m⟩
 |tup _ _=>cases hm
 |scr _=>cases hm
 |fn _=>cases hm
 |itm _=>cases hm
theorem iK.lab{lab lab':Lab}(hl:∀p o,H p=some o->lab' p=lab p)(h:iK K H lab i v x):iK K H lab' i v x:=by
 cases x with
 |no=>exact trivial
 |sh d=>exact Rp.wk (λ p o e q=>(hl p o e).symm▸q) h
 |nw d=>exact Rp.wk (λ p o e q=>(hl p o e).symm▸q) h
 |ow d=>
  obtain⟨h,t⟩:=h;refine⟨Rp.wk (λ p o e q=>(hl p o e).symm▸q) h,λ m=>?_⟩;obtain⟨a,rfl,ea⟩:=t m;obtain⟨o,ho,_⟩:=aLq h m;exact⟨a,rfl,(congrArg (·.1) (hl a o ho)).trans ea⟩
 |oz d=>
  obtain⟨a,xs,ds,e1,e2,e3,e4,e5⟩:=h;exact⟨a,xs,ds,e1,e2,e3,(congrArg (·.1) (hl _ _ e3)).trans e4,Rps.wk (λ p o e q=>(hl p o e).symm▸q) e5⟩
 |o2 l=>
  obtain⟨a,xs,e1,e2,e3,e4,e5⟩:=h;exact⟨a,xs,e1,e2,(hl _ _ e2).trans e3,e4,λ j x ds f1 f2=>Rp.wk (λ p o e q=>(hl p o e).symm▸q) (e5 j x ds f1 f2)⟩
section
variable{G:Gx}{U:List (V×D)}{Y:En}{Z:L2.St}{H H':Hp}{lab lab':Lab}
theorem RR.up(R:RR K G U Y Z H lab)(s:aW H H'):RR K G U Y Z H' lab:=
 ⟨R.len,λ i x e=>(R.sl i x e).imp id λ⟨v,e1,e2⟩=>⟨v,e1,e2.up s⟩,R.old.trans s,R.new,λ q hq=>(R.tm q hq).up s⟩
def RR.relab(R:RR K G U Y Z H lab)(hl:∀p o,H p=some o->lab' p=lab p)(hn:∀p,(lab' p).1≠0->G.H0 p=none):RR K G U Y Z H lab':=
 ⟨R.len,λ i x e=>(R.sl i x e).imp id λ⟨v,e1,e2⟩=>⟨v,e1,e2.lab hl⟩,R.old,hn,λ q hq=>Rp.wk (λ p o e z=>by rw[hl p o e];exact z) (R.tm q hq)⟩
def RR.drop(R:RR K G (U'++U) Y Z H lab):RR K G U Y Z H lab:=⟨R.len,R.sl,R.old,R.new,λ z hz=>R.tm z (zA8 _ hz)⟩
def RR.put(R:RR K G U Y Z H lab)(h:iK K H lab i v s):RR K G U (Y.set i s) (Z.set i (some v)) H lab:=by
 refine⟨by rw[zCj,zCj,R.len],λ j x e=>?_,R.old,R.new,R.tm⟩;by_cases hj:i=j
 .subst hj
  have hi:i<Y.length:=by
   have:=(zAO.mp e).1
   rwa [zCj]at this
  rw[zCG hi]at e;cases e;exact .inr ⟨v,by rw[zCG (by rw[R.len];exact hi)],h⟩
 .rw[zBx hj]at e
  rcases R.sl j x e with z|⟨u,e1,e2⟩
  .exact .inl z
  .exact .inr ⟨u,by rw[zBx hj];exact e1,e2⟩
def eQ(H:Hp)(n:Nat)(lab:Lab):Lab:=λ p=>match H p with
 |none=>(n,0)
 |some _=>lab p
def cC(h:H p=some o):eQ H n lab p=lab p:=by unfold eQ;rw[h]
def yP(h:H p=none):eQ H n lab p=(n,0):=by unfold eQ;rw[h]
def RR.fresh{P:Nat->Prop}(h1:P 1)(hm:∀k,inM m k->P k)(R:RR K G U Y Z H lab)(s:aW H H')(r:Rp K (fpM m lab H) H' v d):
  RR K G U Y Z H' (eQ H 1 lab)/\Rp K (λ p=>P (eQ H 1 lab p).1) H' v d:=by
 refine⟨(R.relab (λ p o e=>cC e) λ p hp=>?_).up s,Rp.wk (λ p o e z=>?_) r⟩
 .cases e:H p with
  |none=>exact R.old.free e
  |some o=>rw[cC e]at hp;exact R.new p hp
 .rcases z with z|z
  .rw[yP z];exact h1
  .cases e:H p with
   |none=>rw[yP e];exact h1
   |some o=>rw[cC e];exact hm _ z
def RR.freshO(i:Nat)(hm:∀k,inM m k->k=1\/k=i+2)(R:RR K G U Y Z H lab)(s:aW H H')(r:Rp K (fpM m lab H) H' v d)(ht:aH5 d=true->∃a,v= .ref a/\H a=none):
  ∃lab',RR K G U Y Z H' lab'/\iK K H' lab' i v (.ow d):=by
 obtain⟨R',r'⟩:=R.fresh (P:=λ k=>k=1\/k=i+2) (.inl rfl) hm s r;cases hd:aH5 d with
 |false=>exact⟨_,R',r',λ z=>absurd z (by simp[hd])⟩
 |true=>
  obtain⟨a,rfl,ha⟩:=ht hd;refine⟨λ p=>if p=a then(i+2,0)else eQ H 1 lab p,?_,Rp.wk (λ p o e z=>?_) r',λ _=>⟨a,rfl,by show(if a=a then((i+2,0):Nat×Nat)else eQ H 1 lab a).1=i+2;rw[if_pos rfl]⟩⟩
  .refine(R.relab (lab':=λ p=>if p=a then(i+2,0)else eQ H 1 lab p) (λ p o e=>?_) λ p hp=>?_).up s
   .rw[if_neg (λ z=>by subst z;rw[ha]at e;cases e),cC e]
   .by_cases z:p=a
    .subst z;exact R.old.free ha
    .rw[if_neg z]at hp;exact R'.new p hp
  .dsimp only
   by_cases q:p=a
   .rw[if_pos q];exact .inr rfl
   .rw[if_neg q];exact z
def aLJ(h:iK K H lab i v (.oz d)):Rp K (λ p=>(lab p).1<=1\/(lab p).1=i+2) H v d:=by
 obtain⟨a,xs,ds,rfl,rfl,h1,h2,h3⟩:=h;exact .lst h1 (.inr h2) (h3.wk λ p o e z=>⟨.inl z,λ q=>by subst q;lia⟩)
end
structure Ct where
 ι:Type
 X:ι->Cx
 prog:zAT
 w:World
 K:zAA
 mg:Str->Option Value
 base:Heap
 k:Nat
 G:Gx
 cx:∀i,(X i).prog=prog/\(X i).w=w/\(X i).K=K/\(X i).mg=mg/\(X i).base=base
 calm:∀i,(X i).calm=true
 room:∀i,jq k (X i).A
 own:∀i,zHr (model (X i).prog (X i).w) (X i).A (X i).env (X i).xe
 pass:∀i,aBi (CX1 (X i).prog (X i).w) (X i) G.E
 dOk:Bool
 dcx:dOk=true->∀i,jk (X i) G.E
def Ct.hK(C:Ct)(i:C.ι):(C.X i).K=C.K:=(C.cx i).2.2.1
def WR{α:Type}(G:Gx)(r:Rs α)(P:α->Prop):Prop:=match r with
 | .ok a=>P a
 | .ex c=>∀H',aW G.H0 H'->G.E (.ref (G.cl c)) none H'
 | .st=>False
theorem WR.bd(h:WR G (r.bd k) P):WR G r (λ a=>WR G (k a) P):=by
 cases r with
 |ok a=>exact h
 |ex c=>exact h
 |st=>exact h
def WR.imp(h:WR G r P)(f:∀a,r= .ok a->P a->P' a):WR G r P':=by
 cases r with
 |ok a=>exact f a rfl h
 |ex c=>exact h
 |st=>exact h
abbrev QE(K:zAA)(m:Mode)(lab:Lab)(H:Hp)(Q:VK):D->Prop:=λ d=>∀v H',aW H H'->Rp K (fpM m lab H) H' v d->Q v H'
abbrev QA(K:zAA)(m:Mode)(lab:Lab)(H:Hp)(Q:List V->Hp->Prop):List D->Prop:=λ ds=>∀vs H',aW H H'->Rps K (fpM m lab H) H' vs ds->Q vs H'
abbrev QT(H:Hp)(Q:Bool->Hp->Prop):Bool->Prop:=λ b=>∀H',aW H H'->Q b H'
def gZ(K:zAA)(G:Gx)(m:Mode)(t:TE)(f:En->Rs D):Prop:=∀U Z H Y lab (Q:VK),RR K G U Y Z H lab->WR G (f Y) (QE K m lab H Q)->t Z H Q
def aKp(K:zAA)(G:Gx)(m:Mode)(t:TA)(f:En->Rs (List D)):Prop:=∀U Z H Y lab (Q:List V->Hp->Prop),RR K G U Y Z H lab->WR G (f Y) (QA K m lab H Q)->t Z H Q
def aAH(K:zAA)(G:Gx)(t:TT)(f:En->Rs Bool):Prop:=∀U Z H Y lab (Q:Bool->Hp->Prop),RR K G U Y Z H lab->WR G (f Y) (QT H Q)->t Z H Q
def SE(C:Ct)(m:Mode)(e:Expr)(f:En->Rs D):Prop:=∃t,(∀i,PE (C.X i) e t)/\gZ C.K C.G m t f
def SA(C:Ct)(m:Mode)(es:List Expr)(f:En->Rs (List D)):Prop:=∃t,(∀i,PA (C.X i) es t)/\aKp C.K C.G m t f
def ST(C:Ct)(e:Expr)(f:En->Rs Bool):Prop:=∃t,(∀i,PT (C.X i) e t)/\aAH C.K C.G t f
def SW(C:Ct)(e:Expr)(f:En->Rs Bool):Prop:=∃t,(∀i,PW (C.X i) e t)/\aAH C.K C.G t f
def SW.st(h:SW C e f):ST C e f:=let⟨t,h1,h2⟩:=h;⟨t,λ i=>(h1 i).pt,h2⟩
def jD(i:Nat):En->Rs D:=λ Y=>match Y[i]? with
 |some (.sh d)=>.ok d
 |some (.nw d)=>.ok d
 |some (.ow d)=>.ok d
 |some (.oz d)=>.ok d
 |some (.o2 l)=>.ok (.lst (l.map .lst))
 |_=>.st
def aD(i:Nat):En->Rs D:=λ Y=>match Y[i]? with
 |some (.sh d)=>.ok d
 |some (.nw d)=>.ok d
 |_=>.st
def jC(i:Nat):En->Rs D:=λ Y=>match Y[i]? with
 |some (.nw d)=>.ok d
 |_=>.st
def aBm(i:Nat):En->Rs D:=λ Y=>match Y[i]? with
 |some (.ow d)=>.ok d
 |some (.o2 l)=>.ok (.lst (l.map .lst))
 |_=>.st
def cD(d:D):En->Rs D:=λ _=>.ok d
def aH2{K:zAA}{H:Hp}{lab:Lab}{i:Nat}{v:V}{l:List (List D)}(h:iK K H lab i v (.o2 l)):Rp K (λ p=>(lab p).1=i+2) H v (.lst (l.map .lst)):=by
 obtain⟨a,xs,rfl,ha,hla,oQ,hin⟩:=h;refine .lst ha (by rw[hla]) ?_;have go:∀(xs:List V) (l:List (List D)) (n:Nat),xs.length=l.length->0<n->(∀(j:Nat) x ds,xs[j]? =some x->l[j]? =some ds->Rp K (λ p=>lab p=(i+2,n+j)) H x (.lst ds))->Rps K (λ p=>(lab p).1=i+2/\p≠a) H xs (l.map .lst):=by
  intro xs;induction xs with
  |nil=>intro l n hl _ _;cases l with|nil=>exact .nil|cons _ _=>simp at hl
  |cons x xs ih=>
   intro l n hl hn h;cases l with
   |nil=>simp at hl
   |cons ds l=>
    refine .cons (Rp.wk (λ p o e z=>⟨by rw[z],λ e=>by rw[e,hla]at z;have z2:(0:Nat)=n+0:=congrArg zGM z;lia⟩) (h 0 x ds rfl rfl)) (ih l (n+1) (by simpa using hl) (by lia) λ j y es e1 e2=>?_);have z:=h (j+1) y es (by simpa using e1) (by simpa using e2);rw[show n+1+j=n+(j+1)by lia];exact z
 exact go xs l 1 oQ (by lia) λ j x ds e1 e2=>by have z:=hin j x ds e1 e2;rw[show 1+j=j+1 by lia];exact z
section
variable{C:Ct}{pos:Pos}
def aJC(K:zAA)(G:Gx)(i:Nat):gZ K G (some [0,1,i+2]) (aBn i) (jD i):=by
 intro U Z H Y lab Q R W;unfold jD at W;cases e:Y[i]? with
 |none=>rw[e]at W;exact W.elim
 |some s=>
  rw[e]at W;rcases R.sl i s e with rfl|⟨v,ev,hv⟩
  .exact zAN W
  .cases s with
   |no=>exact zAN W
   |sh d=>exact⟨v,ev,W v H (aW.refl H) (Rp.wk (λ p o e z=>.inr (by show(lab p).1∈[0,1,i+2];rcases(show(lab p).1=0\/(lab p).1=1 by lia)with q|q<;>rw[q]<;>simp)) hv)⟩
   |nw d=>exact⟨v,ev,W v H (aW.refl H) (Rp.wk (λ p o e z=>.inr (by show(lab p).1∈[0,1,i+2];rw[z];simp)) hv)⟩
   |ow d=>exact⟨v,ev,W v H (aW.refl H) (Rp.wk (λ p o e z=>.inr (by show(lab p).1∈[0,1,i+2];rcases z with q|q<;>rw[q]<;>simp)) hv.1)⟩
   |oz d=>exact⟨v,ev,W v H (aW.refl H) (Rp.wk (λ p o e z=>.inr (by show(lab p).1∈[0,1,i+2];rcases(show(lab p).1=0\/(lab p).1=1\/(lab p).1=i+2 by lia)with q|q|q<;>rw[q]<;>simp)) (aLJ hv))⟩
   |o2 l=>exact⟨v,ev,W v H (aW.refl H) (Rp.wk (λ p o e z=>.inr (by show(lab p).1∈[0,1,i+2];rw[z];simp)) (aH2 hv))⟩
def aGe(K:zAA)(G:Gx)(i:Nat):gZ K G (some [0,1]) (aBn i) (aD i):=by
 intro U Z H Y lab Q R W;unfold aD at W;cases e:Y[i]? with
 |none=>rw[e]at W;exact W.elim
 |some s=>
  rw[e]at W;rcases R.sl i s e with rfl|⟨v,ev,hv⟩
  .exact zAN W
  .cases s with
   |sh d=>exact⟨v,ev,W v H (aW.refl H) (Rp.wk (λ p o e z=>.inr (by show(lab p).1∈[0,1];rcases(show(lab p).1=0\/(lab p).1=1 by lia)with q|q<;>rw[q]<;>simp)) hv)⟩
   |nw d=>exact⟨v,ev,W v H (aW.refl H) (Rp.wk (λ p o e z=>.inr (by show(lab p).1∈[0,1];rw[z];simp)) hv)⟩
   |_=>exact zAN W
def aGg(K:zAA)(G:Gx)(i:Nat):gZ K G (some [1]) (aBn i) (jC i):=by
 intro U Z H Y lab Q R W;unfold jC at W;cases e:Y[i]? with
 |none=>rw[e]at W;exact W.elim
 |some s=>
  rw[e]at W;rcases R.sl i s e with rfl|⟨v,ev,hv⟩
  .exact zAN W
  .cases s with
   |nw d=>exact⟨v,ev,W v H (aW.refl H) (Rp.wk (λ p o e z=>.inr (by show(lab p).1∈[1];rw[z];simp)) hv)⟩
   |_=>exact zAN W
def aGf(K:zAA)(G:Gx)(i:Nat):gZ K G (some [1,i+2]) (aBn i) (aBm i):=by
 intro U Z H Y lab Q R W;unfold aBm at W;cases e:Y[i]? with
 |none=>rw[e]at W;exact W.elim
 |some s=>
  rw[e]at W;rcases R.sl i s e with rfl|⟨v,ev,hv⟩
  .exact zAN W
  .cases s with
   |ow d=>exact⟨v,ev,W v H (aW.refl H) (Rp.wk (λ p o e z=>.inr (by show(lab p).1∈[1,i+2];rcases z with q|q<;>rw[q]<;>simp)) hv.1)⟩
   |o2 l=>exact⟨v,ev,W v H (aW.refl H) (Rp.wk (λ p o e z=>.inr (by show(lab p).1∈[1,i+2];rw[z];simp)) (aH2 hv))⟩
   |_=>exact zAN W
def mQ(i:Nat)(hN:∀j,(C.X j).N[i]? =some x:=by intro _;rfl)(hv:∀j,Vis (C.X j).env.scope x:=by intro _;first|exact zD7 rfl|exact zC8 (zD7 rfl)|exact zC8 (zC8 rfl))(hd:Nd x:=by decide)
  (hcd:(x==("__classdict__":Str))=false:=by decide):SE C (some [0,1,i+2]) (.Name x pos) (jD i):=⟨_,λ j=>rG (hN j) (hv j) hd hcd,aJC _ _ i⟩
def aB(i:Nat)(hN:∀j,(C.X j).N[i]? =some x:=by intro _;rfl)(hv:∀j,Vis (C.X j).env.scope x:=by intro _;first|exact zD7 rfl|exact zC8 (zD7 rfl)|exact zC8 (zC8 rfl))(hd:Nd x:=by decide)
  (hcd:(x==("__classdict__":Str))=false:=by decide):SE C (some [0,1]) (.Name x pos) (aD i):=⟨_,λ j=>rG (hN j) (hv j) hd hcd,aGe _ _ i⟩
def fZ(i:Nat)(hN:∀j,(C.X j).N[i]? =some x:=by intro _;rfl)(hv:∀j,Vis (C.X j).env.scope x:=by intro _;first|exact zD7 rfl|exact zC8 (zD7 rfl)|exact zC8 (zC8 rfl))(hd:Nd x:=by decide)
  (hcd:(x==("__classdict__":Str))=false:=by decide):SE C (some [1]) (.Name x pos) (jC i):=⟨_,λ j=>rG (hN j) (hv j) hd hcd,aGg _ _ i⟩
def wW(i:Nat)(hN:∀j,(C.X j).N[i]? =some x:=by intro _;rfl)(hv:∀j,Vis (C.X j).env.scope x:=by intro _;first|exact zD7 rfl|exact zC8 (zD7 rfl)|exact zC8 (zC8 rfl))(hd:Nd x:=by decide)
  (hcd:(x==("__classdict__":Str))=false:=by decide):SE C (some [1,i+2]) (.Name x pos) (aBm i):=⟨_,λ j=>rG (hN j) (hv j) hd hcd,aGf _ _ i⟩
def aH:SE C (some []) (.Constant (.int i) j pos) (cD (.int i)):=⟨_,λ _=>aMO,λ U Z H Y lab Q R W=>W _ H (aW.refl H) (.int i)⟩
def lN:SE C (some []) (.Constant (.bool b) j pos) (cD (.bl b)):=⟨_,λ _=>aOE,λ U Z H Y lab Q R W=>W _ H (aW.refl H) (.bl b)⟩
def bN:SE C (some []) (.Constant (.str x) j pos) (cD (.str x)):=⟨_,λ _=>aMK,λ U Z H Y lab Q R W=>W _ H (aW.refl H) (.str x)⟩
def pM(hm:C.mg x=some u)(r:RelV v u)(hd:∀A H,Rp C.K A H v d)(hdb:Nd x:=by decide)(hg:∀i,Gl (C.X i) x:=by intro _;rfl):SE C (some []) (.Name x pos) (cD d):=
 ⟨_,λ i=>aJ9 (hg i) (by rw[(C.cx i).2.2.2.1];exact hm) r hdb,λ U Z H Y lab Q R W=>W _ H (aW.refl H) (hd _ _)⟩
def zz(d:D):Rs D:=if imm d=true then .ok d else .st
def bT(f:En->Rs D):En->Rs D:=λ Y=>(f Y).bd zz
def bY(h:SE C m e f):SE C (some []) e (bT f):=by
 obtain⟨t,h1,h2⟩:=h;refine⟨t,h1,λ U Z H Y lab Q R W=>h2 U Z H Y lab Q R (W.bd.imp λ d _ w v H' s r=>?_)⟩;unfold zz at w;by_cases hd:imm d=true
 .rw[if_pos hd]at w
  exact w v H' s (r.imm hd)
 .rw[if_neg hd]at w
  exact zAN w
def aF:En->Rs (List D):=λ _=>.ok []
def aA(f:En->Rs D)(g:En->Rs (List D)):En->Rs (List D):=λ Y=>(f Y).bd λ d=>(g Y).bd λ ds=>.ok (d::ds)
variable{m m1 m2:Mode}{e a b:Expr}{es:List Expr}{f fa fb:En->Rs D}{g:En->Rs (List D)}
def aG:SA C (some []) [] aF:=⟨_,λ _=>lD,λ U Z H Y lab Q R W=>W _ H (aW.refl H) .nil⟩
def aC(h:SE C m1 e f)(hr:SA C m2 es g)(hs:∀i,zAV (e::es) (C.X i).env=(false,eval e (C.X i).env)::zAV es (C.X i).env:=by intro _;rfl):SA C (jn m1 m2) (e::es) (aA f g):=by
 obtain⟨t,h1,h2⟩:=h;obtain⟨u,k1,k2⟩:=hr;refine⟨_,λ i=>fD (h1 i) (k1 i) (hs i),λ U Z H Y lab Q R W=>?_⟩;refine h2 U Z H Y lab _ R (W.bd.imp λ d _ w x H1 s1 r1=>?_);refine k2 U Z H1 Y lab _ (R.up s1) (w.bd.imp λ ds _ w xs H2 s2 r2=>?_);exact w (x::xs) H2 (s1.trans s2) (.cons (r1.mono s2 λ p o _ z=>aIH z) (r2.wk λ p o _ z=>aIG (lY s1 z)))
def dD(g:En->Rs (List D)):En->Rs D:=λ Y=>(g Y).bd λ ds=>if ds.length<=zAS then .ok (.tup ds)else .st
def eU(g:En->Rs (List D)):En->Rs D:=λ Y=>(g Y).bd λ ds=>if ds.length<=zAS then .ok (.lst ds)else .st
def cg{x1}(h:SA C m es g):SE C m (.Tuple es x1 pos) (dD g):=by
 obtain⟨t,h1,h2⟩:=h;refine⟨_,λ i=>aJ8 (h1 i),λ U Z H Y lab Q R W=>h2 U Z H Y lab _ R (W.bd.imp λ ds _ w xs H1 s1 r1=>?_)⟩;by_cases hz:ds.length<=zAS
 .rw[if_pos hz]at w
  exact⟨by rw[r1.length];exact hz,λ p H' s hp _=>w _ H' (s1.trans s) (.tup (SqT.of hp) (r1.up s))⟩
 .rw[if_neg hz]at w
  exact zAN w
def qm(h:SA C m es g):SE C m (.List es pos) (eU g):=by
 obtain⟨t,h1,h2⟩:=h;refine⟨_,λ i=>aEu (h1 i),λ U Z H Y lab Q R W=>h2 U Z H Y lab _ R (W.bd.imp λ ds _ w xs H1 s1 r1=>?_)⟩;by_cases hz:ds.length<=zAS
 .rw[if_pos hz]at w
  exact⟨by rw[r1.length];exact hz,λ p H' s hp hn=>w _ H' (s1.trans s) (.lst hp (.inl (s1.free hn)) ((r1.wk λ q o e z=>⟨z,λ e'=>by subst e';rw[hn]at e;cases e⟩).up s))⟩
 .rw[if_neg hz]at w
  exact zAN w
def aOh(H:Hp)(v:V)(d:D):Prop:=aH5 d=true->∃a,v= .ref a/\H a=none
def aOa(K:zAA)(G:Gx)(m:Mode)(t:TE)(f:En->Rs D):Prop:=∀U Z H Y lab (Q:VK),RR K G U Y Z H lab->WR G (f Y) (λ d=>∀v H',aW H H'->Rp K (fpM m lab H) H' v d->aOh H v d->Q v H')->t Z H Q
def SF(C:Ct)(m:Mode)(e:Expr)(f:En->Rs D):Prop:=∃t,(∀i,PE (C.X i) e t)/\aOa C.K C.G m t f
def oF(h:SA C m es g):SF C m (.List es pos) (eU g):=by
 obtain⟨t,h1,h2⟩:=h;refine⟨_,λ i=>aEu (h1 i),λ U Z H Y lab Q R W=>h2 U Z H Y lab _ R (W.bd.imp λ ds _ w xs H1 s1 r1=>?_)⟩;by_cases hz:ds.length<=zAS
 .rw[if_pos hz]at w
  exact⟨by rw[r1.length];exact hz,λ p H' s hp hn=>w _ H' (s1.trans s) (.lst hp (.inl (s1.free hn)) ((r1.wk λ q o e z=>⟨z,λ e'=>by subst e';rw[hn]at e;cases e⟩).up s)) λ _=>⟨p,rfl,s1.free hn⟩⟩
 .rw[if_neg hz]at w
  exact zAN w
def OpS(K:zAA)(r:R2)(fd:D->D->Rs D):Prop:=∀(A:Addr->Prop) x y d e H (Q:VK) z,Rp K A H x d->Rp K A H y e->fd d e= .ok z->(∀v H',aW H H'->Rp K (λ p=>H p=none\/A p) H' v z->Q v H')->r x y H Q
def UnS(K:zAA)(r:V->Hp->VK->Prop)(fd:D->Rs D):Prop:=∀(A:Addr->Prop) x d H (Q:VK) z,Rp K A H x d->fd d= .ok z->(∀v H',aW H H'->Rp K (λ p=>H p=none\/A p) H' v z->Q v H')->r x H Q
def uO(K:zAA)(r:List V->Hp->VK->Prop)(fd:List D->Rs D):Prop:=∀(A:Addr->Prop) xs ds H (Q:VK) z,Rps K A H xs ds->fd ds= .ok z->(∀v H',aW H H'->Rp K (λ p=>H p=none\/A p) H' v z->Q v H')->r xs H Q
def okD(r:Rs D):Rs D:=match r with
 | .ok d=>.ok d
 |_=>.st
def op2(fd:D->D->Rs D)(fa fb:En->Rs D):En->Rs D:=λ Y=>(fa Y).bd λ x=>(fb Y).bd λ y=>okD (fd x y)
def op1(fd:D->Rs D)(fa:En->Rs D):En->Rs D:=λ Y=>(fa Y).bd λ x=>okD (fd x)
def opA(fd:List D->Rs D)(fa:En->Rs (List D)):En->Rs D:=λ Y=>(fa Y).bd λ x=>okD (fd x)
theorem WR.okD(h:WR G (okD r) P):∃z,r= .ok z/\P z:=by
 cases r with
 |ok z=>exact⟨z,rfl,h⟩
 |ex c=>exact zAN h
 |st=>exact zAN h
def wU{K:zAA}{G:Gx}{r:R2}{ta tb:TE}{fd:D->D->Rs D}(hs:OpS K r fd)(h1:gZ K G m1 ta fa)(h2:gZ K G m2 tb fb):gZ K G (jn m1 m2) (tOp r ta tb) (op2 fd fa fb):=by
 intro U Z H Y lab Q R W;refine h1 U Z H Y lab _ R (W.bd.imp λ d _ w x H1 s1 r1=>?_);refine h2 U Z H1 Y lab _ (R.up s1) (w.bd.imp λ e _ w y H2 s2 r2=>?_);obtain⟨z,ez,w⟩:=w.okD;refine hs (fpM (jn m1 m2) lab H) x y d e H2 Q z (r1.mono s2 λ p o _ q=>aIH q) (r2.wk λ p o _ q=>aIG (lY s1 q)) ez λ v H' s r=>w v H' ((s1.trans s2).trans s) (r.wk λ p o _ q=>?_)
 rcases q with q|q
 .exact .inl ((s1.trans s2).free q)
 .exact q
def aJF{K:zAA}{G:Gx}{r:V->Hp->VK->Prop}{ta:TE}{fd:D->Rs D}(hs:UnS K r fd)(h1:gZ K G m ta fa):gZ K G m (tUn r ta) (op1 fd fa):=by
 intro U Z H Y lab Q R W;refine h1 U Z H Y lab _ R (W.bd.imp λ d _ w x H1 s1 r1=>?_);obtain⟨z,ez,w⟩:=w.okD;refine hs (fpM m lab H) x d H1 Q z r1 ez λ v H' s r=>w v H' (s1.trans s) (r.wk λ p o _ q=>?_)
 rcases q with q|q
 .exact .inl (s1.free q)
 .exact q
def aEd{K:zAA}{G:Gx}{r:List V->Hp->VK->Prop}{ta:TA}{fd:List D->Rs D}(hs:uO K r fd)(h1:aKp K G m ta g):gZ K G m (tCB r ta) (opA fd g):=by
 intro U Z H Y lab Q R W;refine h1 U Z H Y lab _ R (W.bd.imp λ d _ w x H1 s1 r1=>?_);obtain⟨z,ez,w⟩:=w.okD;refine hs (fpM m lab H) x d H1 Q z r1 ez λ v H' s r=>w v H' (s1.trans s) (r.wk λ p o _ q=>?_)
 rcases q with q|q
 .exact .inl (s1.free q)
 .exact q
def fU(h:SE C m e f)(hi:∀Y d,f Y= .ok d->imm d=true):SE C (some []) e f:=by
 obtain⟨t,h1,h2⟩:=h;exact⟨t,h1,λ U Z H Y lab Q R W=>h2 U Z H Y lab Q R (W.imp λ d ed w v H' s r=>w v H' s (r.imm (hi Y d ed)))⟩
def jF(h:∀x y z,fd x y= .ok z->imm z=true)(e:op2 fd fa fb Y= .ok d):imm d=true:=by
 obtain⟨x,_,e⟩:=dN e;obtain⟨y,_,e⟩:=dN e;unfold okD at e;split at e
 .rename_i z hz
  cases e;exact h x y _ hz
 .cases e
def aKU(h:∀x z,fd x= .ok z->imm z=true)(e:op1 fd fa Y= .ok d):imm d=true:=by
 obtain⟨x,_,e⟩:=dN e;unfold okD at e;split at e
 .rename_i z hz
  cases e;exact h x _ hz
 .cases e
def pW(h:∀x z,fd x= .ok z->imm z=true)(e:opA fd g Y= .ok d):imm d=true:=by
 obtain⟨x,_,e⟩:=dN e;unfold okD at e;split at e
 .rename_i z hz
  cases e;exact h x _ hz
 .cases e
def xZ(ro:∀i,OpR (C.X i) (zBy op) r)(hs:OpS C.K r fd)(ha:SE C m1 a fa)(hb:SE C m2 b fb):SE C (jn m1 m2) (.BinOp a op b pos) (op2 fd fa fb):=by
 obtain⟨t,h1,h2⟩:=ha;obtain⟨u,k1,k2⟩:=hb;exact⟨_,λ i=>aOA (ro i) (h1 i) (k1 i),wU hs h2 k2⟩
def aNg(ro:∀i,UnR (C.X i) (unaryOp op) r)(hs:UnS C.K r fd)(ha:SE C m a fa):SE C m (.UnaryOp op a pos) (op1 fd fa):=by
 obtain⟨t,h1,h2⟩:=ha;exact⟨_,λ i=>aNy (ro i) (h1 i),aJF hs h2⟩
def aBA(ro:∀i,OpR (C.X i) (zAs op) r)(hs:OpS C.K r fd)(ha:SE C m1 a fa)(hb:SE C m2 b fb)(hm:zBj op b=false:=by first|exact aDo _|(with_unfolding_all rfl)):
  SE C (jn m1 m2) (.Compare a [op] [b] pos) (op2 fd fa fb):=by
 obtain⟨t,h1,h2⟩:=ha;obtain⟨u,k1,k2⟩:=hb;exact⟨_,λ i=>aJb (ro i) (h1 i) (k1 i) hm,wU hs h2 k2⟩
variable{p:Pos}{x:Str}{id T:String}
def sr(ro:∀i,gH (C.X i) (.builtin id) r)(hs:uO C.K r fd)(hg:∀i,Gl (C.X i) x)(hm:C.mg x=none)(hv:zAw x=some (.builtin id))(ha:SA C m (e::es) g)
  (hn:x≠"__name__":=by decide)(hdb:Nd x:=by decide)(he:∀i,zAV (e::es) (C.X i).env=(false,eval e (C.X i).env)::zAV es (C.X i).env:=by intro _;rfl)
  (hpl:∀i,(zCB pos (zAV es (C.X i).env)).any (·.1)=false:=by intro _;rfl):SE C m (.Call (.Name x p) (e::es) [] pos) (opA fd g):=by
 obtain⟨t,h1,h2⟩:=ha;exact⟨_,λ i=>oU (ro i) (hg i) (by rw[(C.cx i).2.2.2.1];exact hm) hv (h1 i) hn hdb (he i) (hpl i),aEd hs h2⟩
def xg(ro:∀i,gH (C.X i) (.type T) r)(hs:uO C.K r fd)(hg:∀i,Gl (C.X i) x)(hm:C.mg x=none)(hv:zAw x=some (.type T))(ha:SA C m (e::es) g)
  (hn:x≠"__name__":=by decide)(hdb:Nd x:=by decide)(he:∀i,zAV (e::es) (C.X i).env=(false,eval e (C.X i).env)::zAV es (C.X i).env:=by intro _;rfl)
  (hpl:∀i,(zCB pos (zAV es (C.X i).env)).any (·.1)=false:=by intro _;rfl):SE C m (.Call (.Name x p) (e::es) [] pos) (opA fd g):=by
 obtain⟨t,h1,h2⟩:=ha;exact⟨_,λ i=>lO (ro i) (hg i) (by rw[(C.cx i).2.2.2.1];exact hm) hv (h1 i) hn hdb (he i) (hpl i),aEd hs h2⟩
def uK(f g:En->Rs D):En->Rs D:=λ Y=>(f Y).bd λ d=>match d with
 | .bl true=>g Y
 | .bl false=>.ok (.bl false)
 |_=>.st
def orD(f g:En->Rs D):En->Rs D:=λ Y=>(f Y).bd λ d=>match d with
 | .bl false=>g Y
 | .bl true=>.ok (.bl true)
 |_=>.st
def aMe:D->Rs D
 | .bl b=>.ok (.bl (!b))
 |_=>.st
variable{rest:List Expr}
def jQ{op}(h:SE C m a fa):SE C m (.BoolOp op [a] pos) fa:=by
 obtain⟨t,h1,h2⟩:=h;exact⟨_,λ i=>aML (h1 i),h2⟩
def ig(ha:SE C m1 a fa)(hb:SE C m2 (.BoolOp .And (b::rest) pos) fb):SE C m2 (.BoolOp .And (a::b::rest) pos) (uK fa fb):=by
 obtain⟨t,h1,h2⟩:=ha;obtain⟨u,k1,k2⟩:=hb;refine⟨_,λ i=>aMR (h1 i) (k1 i),λ U Z H Y lab Q R W=>h2 U Z H Y lab _ R (W.bd.imp λ d _ w x H1 s1 r1=>?_)⟩;cases r1 with
 |bl c=>
  refine⟨c,rfl,?_⟩;cases c with
  |true=>
   rw[if_pos rfl];exact k2 U Z H1 Y lab Q (R.up s1) (w.imp λ z _ w v H' s r=>w v H' (s1.trans s) (r.wk λ p o _ q=>lY s1 q))
  |false=>
   rw[if_neg zAX];exact w _ H1 s1 (.bl false)
 |_=>exact zAN w
def aNh(ha:SE C m1 a fa)(hb:SE C m2 (.BoolOp .Or (b::rest) pos) fb):SE C m2 (.BoolOp .Or (a::b::rest) pos) (orD fa fb):=by
 obtain⟨t,h1,h2⟩:=ha;obtain⟨u,k1,k2⟩:=hb;refine⟨_,λ i=>aNz (h1 i) (k1 i),λ U Z H Y lab Q R W=>h2 U Z H Y lab _ R (W.bd.imp λ d _ w x H1 s1 r1=>?_)⟩;cases r1 with
 |bl c=>
  refine⟨c,rfl,?_⟩;cases c with
  |false=>
   rw[if_neg zAX];exact k2 U Z H1 Y lab Q (R.up s1) (w.imp λ z _ w v H' s r=>w v H' (s1.trans s) (r.wk λ p o _ q=>lY s1 q))
  |true=>
   rw[if_pos rfl];exact w _ H1 s1 (.bl true)
 |_=>exact zAN w
def aLi(ha:SE C m a fa):SE C (some []) (.UnaryOp .Not a pos) (op1 aMe fa):=by
 obtain⟨t,h1,h2⟩:=ha;refine⟨_,λ i=>aMM (h1 i),λ U Z H Y lab Q R W=>h2 U Z H Y lab _ R (W.bd.imp λ d _ w x H1 s1 r1=>?_)⟩;obtain⟨z,ez,w⟩:=w.okD;cases r1 with
 |bl c=>cases ez;exact⟨c,rfl,w _ H1 s1 (.bl _)⟩
 |_=>cases ez
def ifD(c:En->Rs Bool)(f g:En->Rs D):En->Rs D:=λ Y=>(c Y).bd λ k=>if k=true then f Y else g Y
def aEh(hc:ST C c fc)(ha:SE C m1 a fa)(hb:SE C m2 b fb):SE C (jn m1 m2) (.IfExp c a b pos) (ifD fc fa fb):=by
 obtain⟨tc,c1,c2⟩:=hc;obtain⟨t,h1,h2⟩:=ha;obtain⟨u,k1,k2⟩:=hb;refine⟨_,λ i=>aHS (c1 i) (h1 i) (k1 i),λ U Z H Y lab Q R W=>c2 U Z H Y lab _ R (W.bd.imp λ k _ w H1 s1=>?_)⟩;cases k with
 |true=>
  rw[if_pos rfl]at w ⊢;exact h2 U Z H1 Y lab Q (R.up s1) (w.imp λ z _ w v H' s r=>w v H' (s1.trans s) (r.wk λ p o _ q=>aIH (lY s1 q)))
 |false=>
  rw[if_neg zAX]at w ⊢;exact k2 U Z H1 Y lab Q (R.up s1) (w.imp λ z _ w v H' s r=>w v H' (s1.trans s) (r.wk λ p o _ q=>aIG (lY s1 q)))
def chD(fd fd':D->D->Rs D)(fa fb fc:En->Rs D):En->Rs D:=λ Y=>(fa Y).bd λ x=>(fb Y).bd λ y=>(okD (fd x y)).bd λ z=>match z with
 | .bl true=>(fc Y).bd λ w=>okD (fd' y w)
 | .bl false=>.ok (.bl false)
 |_=>.st
def aF8{K:zAA}{G:Gx}{r r':R2}{ta tb tc:TE}{fd fd':D->D->Rs D}{fc:En->Rs D}{m3:Mode}(hs:OpS K r fd)(hs':OpS K r' fd')(hi:∀x y z,fd' x y= .ok z->imm z=true)(h1:gZ K G m1 ta fa)(h2:gZ K G m2 tb fb)(h3:gZ K G m3 tc fc):
  gZ K G (some []) (aG7 r r' ta tb tc) (chD fd fd' fa fb fc):=by
 intro U Z H Y lab Q R W;refine h1 U Z H Y lab _ R (W.bd.imp λ d _ w x H1 s1 r1=>?_);refine h2 U Z H1 Y lab _ (R.up s1) (w.bd.imp λ e _ w y H2 s2 r2=>?_);obtain⟨z,ez,w⟩:=w.bd.okD;refine hs (λ _=>True) x y d e H2 _ z (r1.mono s2 λ p o _ q=>trivial) (r2.wk λ p o _ q=>trivial) ez λ v H3 s3 r3=>?_
 cases r3 with
 |bl c=>
  refine⟨c,rfl,?_⟩;cases c with
  |false=>
   rw[if_neg zAX];exact w _ H3 ((s1.trans s2).trans s3) (.bl false)
  |true=>
   rw[if_pos rfl];refine h3 U Z H3 Y lab _ ((R.up s1).up (s2.trans s3)) (w.bd.imp λ e' _ w y' H4 s4 r4=>?_);obtain⟨z',ez',w⟩:=w.okD;exact hs' (λ _=>True) y y' e e' H4 Q z' (r2.mono (s3.trans s4) λ p o _ q=>trivial) (r4.wk λ p o _ q=>trivial) ez' λ v H5 s5 r5=>w v H5 ((((s1.trans s2).trans s3).trans s4).trans s5) (r5.imm (hi _ _ _ ez'))
 |_=>exact zAN w
def aBw(ro:∀i,OpR (C.X i) (zAs op) r)(hs:OpS C.K r fd)(ro':∀i,OpR (C.X i) (zAs op') r')(hs':OpS C.K r' fd')(hi:∀x y z,fd' x y= .ok z->imm z=true)
  (ha:SE C m1 a fa)(hb:SE C m2 b fb)(hc:SE C m3 c fc)(hm:zHx [op,op'] [b,c]=false:=by with_unfolding_all rfl):SE C (some []) (.Compare a [op,op'] [b,c] pos) (chD fd fd' fa fb fc):=by
 obtain⟨t,h1,h2⟩:=ha;obtain⟨u,k1,k2⟩:=hb;obtain⟨v,l1,l2⟩:=hc;exact⟨_,λ i=>aHU (ro i) (ro' i) (h1 i) (k1 i) (l1 i) hm,aF8 hs hs' hi h2 k2 l2⟩
def aL6:D->Rs Bool
 | .non=>.ok false
 | .bl b=>.ok b
 | .int i=>.ok (i !=0)
 | .tup l=>.ok (!l.isEmpty)
 | .lst l=>.ok (!l.isEmpty)
 |_=>.st
def blD:D->Rs Bool
 | .bl b=>.ok b
 |_=>.st
def tst(f:En->Rs D):En->Rs Bool:=λ Y=>(f Y).bd aL6
def tsb(f:En->Rs D):En->Rs Bool:=λ Y=>(f Y).bd blD
def yh{K:zAA}{A:Addr->Prop}{H:Hp}{xs:List V}{ds:List D}(r:Rps K A H xs ds):(!ds.isEmpty)= !xs.isEmpty:=by cases r<;>rfl
def eH(ha:SE C m a fa)(he:∀i whole,isTrue a (C.X i).env whole=(do let v <-whole;zIQ a.pos;zEK [v] (truthy v)):=by intro _ _;rfl):ST C a (tst fa):=by
 obtain⟨t,h1,h2⟩:=ha;refine⟨λ Z H Q=>t Z H λ x H'=>∃k,aNU C.K x H' k/\Q k H',λ i=>by rw[<-C.hK i];exact aHF (h1 i) (he i),λ U Z H Y lab Q R W=>h2 U Z H Y lab _ R (W.bd.imp λ d _ w x H1 s1 r1=>?_)⟩;cases r1 with
 |non=>exact⟨false,rfl,w H1 s1⟩
 |bl b=>exact⟨b,rfl,w H1 s1⟩
 |int i=>exact⟨i !=0,rfl,w H1 s1⟩
 |tup h r=>exact⟨_,.inr (.inl ⟨_,h,rfl⟩),by rw[<-yh r];exact w H1 s1⟩
 |lst h m r=>exact⟨_,.inl ⟨_,SqL.of h,rfl⟩,by rw[<-yh r];exact w H1 s1⟩
 |_=>exact zAN w
def aAy{K:zAA}{G:Gx}{t:TE}{f:En->Rs D}(h:gZ K G m t f):aAH K G (aE5 t) (tsb f):=λ U Z H Y lab Q R W=>h U Z H Y lab _ R (W.bd.imp λ d _ w x H1 s1 r1=>by
 cases r1 with
 |bl b=>exact⟨b,rfl,w H1 s1⟩
 |_=>exact zAN w)
def nu(ro:∀i,OpR (C.X i) (zAs op) r)(hs:OpS C.K r fd)(ha:SE C m1 a fa)(hb:SE C m2 b fb)(hm:zBj op b=false:=by first|exact aDo _|(with_unfolding_all rfl)):
  ST C (.Compare a [op] [b] pos) (tsb (op2 fd fa fb)):=by
 obtain⟨t,h1,h2⟩:=ha;obtain⟨u,k1,k2⟩:=hb;exact⟨_,λ i=>aEq (ro i) (h1 i) (k1 i) hm,aAy (wU hs h2 k2)⟩
variable{ga gb:En->Rs Bool}
def qG(f g:En->Rs Bool):En->Rs Bool:=λ Y=>(f Y).bd λ k=>if k=true then g Y else .ok false
def orT(f g:En->Rs Bool):En->Rs Bool:=λ Y=>(f Y).bd λ k=>if k=true then .ok true else g Y
def rM(f:En->Rs Bool):En->Rs Bool:=λ Y=>(f Y).bd λ k=>.ok (!k)
def pL(ha:ST C a ga):SW C (.BoolOp .And [a] pos) ga:=let⟨t,h1,h2⟩:=ha;⟨t,λ i=>aJW (h1 i),h2⟩
def mK(ha:ST C a ga):SW C (.BoolOp .Or [a] pos) ga:=let⟨t,h1,h2⟩:=ha;⟨t,λ i=>aLu (h1 i),h2⟩
def qi(ha:ST C a ga)(hb:SW C (.BoolOp .And (b::rest) pos) gb):SW C (.BoolOp .And (a::b::rest) pos) (qG ga gb):=by
 obtain⟨t,h1,h2⟩:=ha;obtain⟨u,k1,k2⟩:=hb;refine⟨_,λ i=>aLv (h1 i) (k1 i),λ U Z H Y lab Q R W=>h2 U Z H Y lab _ R (W.bd.imp λ k _ w H1 s1=>?_)⟩;cases k with
 |true=>
  rw[if_pos rfl]at w ⊢;exact k2 U Z H1 Y lab Q (R.up s1) (w.imp λ z _ w H' s=>w H' (s1.trans s))
 |false=>
  rw[if_neg zAX]at w ⊢;exact w H1 s1
def sV(ha:ST C a ga)(hb:SW C (.BoolOp .Or (b::rest) pos) gb):SW C (.BoolOp .Or (a::b::rest) pos) (orT ga gb):=by
 obtain⟨t,h1,h2⟩:=ha;obtain⟨u,k1,k2⟩:=hb;refine⟨_,λ i=>aNw (h1 i) (k1 i),λ U Z H Y lab Q R W=>h2 U Z H Y lab _ R (W.bd.imp λ k _ w H1 s1=>?_)⟩;cases k with
 |false=>
  rw[if_neg zAX]at w ⊢;exact k2 U Z H1 Y lab Q (R.up s1) (w.imp λ z _ w H' s=>w H' (s1.trans s))
 |true=>
  rw[if_pos rfl]at w ⊢;exact w H1 s1
def kZ(ha:ST C a ga):ST C (.UnaryOp .Not a pos) (rM ga):=by
 obtain⟨t,h1,h2⟩:=ha;exact⟨_,λ i=>aLz (h1 i),λ U Z H Y lab Q R W=>h2 U Z H Y lab _ R (W.bd.imp λ k _ w H1 s1=>w H1 s1)⟩
end
inductive Ou where
 |nx (Y:En)|rt (d:D)|bk (Y:En)|ct (Y:En)|ex (c:Str)|st
noncomputable def Rs.bo{α:Type}:Rs α->(α->Ou)->Ou
 | .ok a,f=>f a
 | .ex c,_=>.ex c
 | .st,_=>.st
@[simp] def bW(a:α)(f:α->Ou):(Rs.ok a).bo f=f a:=aR rfl
noncomputable def Ou.sq:Ou->(En->Ou)->Ou
 | .nx Y,f=>f Y
 |o,_=>o
@[simp] def aj(Y:En)(f:En->Ou):(Ou.nx Y).sq f=f Y:=aR rfl
@[simp] def sq_rt(d:D)(f:En->Ou):(Ou.rt d).sq f= .rt d:=aR rfl
def WS(K:zAA)(G:Gx)(U:List (V×D))(o:Ou)(De:Ends):Prop:=match o with
 | .nx Y=>∀Z H lab,RR K G U Y Z H lab->De.nx Z H
 | .bk Y=>∀Z H lab,RR K G U Y Z H lab->De.bk Z H
 | .ct Y=>∀Z H lab,RR K G U Y Z H lab->De.ct Z H
 | .rt d=>∀v H,aW G.H0 H->Rp K (λ p=>G.H0 p=none) H v d->De.rt v H
 | .ex c=>∀H',aW G.H0 H'->G.E (.ref (G.cl c)) none H'
 | .st=>False
theorem WS.bo{K:zAA}(h:WS K G U (r.bo k) De):WR G r (λ a=>WS K G U (k a) De):=by
 cases r with
 |ok a=>exact h
 |ex c=>exact h
 |st=>exact h
def aDI(K:zAA)(G:Gx)(t:TS)(f:En->Ou):Prop:=∀U Z H Y lab (De:Ends),RR K G U Y Z H lab->WS K G U (f Y) De->t De Z H
def SS(C:Ct)(s:Stmt)(f:En->Ou):Prop:=∃t,(∀i,PS (C.X i) s t)/\aDI C.K C.G t f
def SSs(C:Ct)(s:List Stmt)(f:En->Ou):Prop:=∃t,(∀i,PSs (C.X i) s t)/\aDI C.K C.G t f
section
variable{C:Ct}{pos:Pos}{s:Stmt}{ss:List Stmt}{f g:En->Ou}{e:Expr}{m:Mode}{fe:En->Rs D}
def au:SSs C [] .nx:=⟨_,λ _=>aJZ,λ U Z H Y lab De R W=>W Z H lab R⟩
def ao(f g:En->Ou):En->Ou:=λ Y=>(f Y).sq g
def aL(h:SS C s f):SSs C [s] f:=let⟨t,h1,h2⟩:=h;⟨t,λ i=>aJY (h1 i),h2⟩
def aJ(h:SS C s f)(k:SSs C ss g):SSs C (s::ss) (ao f g):=by
 obtain⟨t,h1,h2⟩:=h;obtain⟨u,k1,k2⟩:=k;refine⟨_,λ i=>aHH (h1 i) (k1 i),λ U Z H Y lab De R W=>h2 U Z H Y lab _ R ?_⟩;unfold ao at W;cases h:f Y with
 |nx Y'=>rw[h]at W;exact λ Z' H' lab' R'=>k2 U Z' H' Y' lab' De R' W
 |rt d=>rw[h]at W;exact W
 |bk Y'=>rw[h]at W;exact W
 |ct Y'=>rw[h]at W;exact W
 |ex c=>rw[h]at W;exact W
 |st=>rw[h]at W;exact W
def frz(i:Nat)(Y:En):En:=match Y[i]? with
 |some (.ow d)=>Y.set i (.nw d)
 |some (.o2 l)=>Y.set i (.nw (.lst (l.map .lst)))
 |_=>Y
def aOL:Mode->Bool
 |some L=>L.all (·!=0)
 |none=>false
def retS(fe:En->Rs D):En->Ou:=λ Y=>(fe Y).bo .rt
def aY(he:SE C m e fe)(hm:aOL m=true:=by rfl):SS C (.Return (some e) pos) (retS fe):=by
 obtain⟨t,h1,h2⟩:=he;refine⟨_,λ i=>aMB (h1 i),λ U Z H Y lab De R W=>h2 U Z H Y lab _ R (W.bo.imp λ d _ w v H' s r=>w v H' (R.old.trans s) (r.wk λ p o _ z=>?_))⟩;rcases z with z|z
 .exact R.old.free z
 .cases m with
  |none=>cases hm
  |some L=>
   refine R.new p λ e0=>?_
   have:=zAu.mp hm _ z
   rw[e0]at this;simp at this
def aFS(fe:En->Rs D):En->Ou:=λ Y=>(fe Y).bo λ _=>.nx Y
def aE7(he:SE C m e fe)(hs:∀i,zDp e none pos.line (C.X i).env=pure false:=by intro _;rfl):SS C (.Expr e pos) (aFS fe):=by
 obtain⟨t,h1,h2⟩:=he;exact⟨_,λ i=>aBJ (h1 i) (hs i),λ U Z H Y lab De R W=>h2 U Z H Y lab _ R (W.bo.imp λ d _ w v H' s r=>w Z H' lab (R.up s))⟩
def ifS(c:En->Rs Bool)(f g:En->Ou):En->Ou:=λ Y=>(c Y).bo λ k=>if k=true then f Y else g Y
def cI{a b:List Stmt}(hc:ST C c fc)(ha:SSs C a f)(hb:SSs C b g):SS C (.If c a b pos) (ifS fc f g):=by
 obtain⟨tc,c1,c2⟩:=hc;obtain⟨t,h1,h2⟩:=ha;obtain⟨u,k1,k2⟩:=hb;refine⟨_,λ i=>aNx (c1 i) (h1 i) (k1 i),λ U Z H Y lab De R W=>c2 U Z H Y lab _ R (W.bo.imp λ k _ w H1 s1=>?_)⟩;cases k with
 |true=>rw[if_pos rfl]at w ⊢;exact h2 U Z H1 Y lab De (R.up s1) w
 |false=>rw[if_neg zAX]at w ⊢;exact k2 U Z H1 Y lab De (R.up s1) w
def SV(C:Ct)(i:Nat)(s:Stmt)(m:Mode)(f:En->Rs D):Prop:=∃t,(∀j,PS (C.X j) s (aIt t (vY i)))/\gZ C.K C.G m t f
def dh(he:SE C m e fe)(hN:∀j,(C.X j).N[i]? =some x:=by intro _;rfl)(hx:∀j,Loc (C.X j).env.scope x:=by intro _;first|exact zD7 rfl|exact zC8 rfl)(hs:∀j,zDp e (some (.Name x pos')) pos.line (C.X j).env=pure false:=by intro _;rfl)(hf:∀j,(C.X j).fn x=true\/(C.X j).env.scope.names.lookup x=some .local:=by intro _;first|exact .inl rfl|exact .inr rfl)(nd:∀j,(C.X j).N.Nodup:=by intro _;assumption):
  SV C i (.Assign [.Name x pos'] e pos) m fe:=by
 obtain⟨t,h1,h2⟩:=he;exact⟨t,λ j=>aHK (nd j) (hN j) (hx j) (h1 j) (hs j) (hf j),h2⟩
def SVF(C:Ct)(i:Nat)(s:Stmt)(m:Mode)(f:En->Rs D):Prop:=∃t,(∀j,PS (C.X j) s (aIt t (vY i)))/\aOa C.K C.G m t f
def vH(he:SF C m e fe)(hN:∀j,(C.X j).N[i]? =some x:=by intro _;rfl)(hx:∀j,Loc (C.X j).env.scope x:=by intro _;first|exact zD7 rfl|exact zC8 rfl)(hs:∀j,zDp e (some (.Name x pos')) pos.line (C.X j).env=pure false:=by intro _;rfl)(hf:∀j,(C.X j).fn x=true\/(C.X j).env.scope.names.lookup x=some .local:=by intro _;first|exact .inl rfl|exact .inr rfl)(nd:∀j,(C.X j).N.Nodup:=by intro _;assumption):
  SVF C i (.Assign [.Name x pos'] e pos) m fe:=by
 obtain⟨t,h1,h2⟩:=he;exact⟨t,λ j=>aHK (nd j) (hN j) (hx j) (h1 j) (hs j) (hf j),h2⟩
def aFA(P:Nat->Bool):Mode->Bool
 |some L=>L.all P
 |none=>false
def tD(h:aFA P m=true):∀k,inM m k->P k=true:=by
 intro k hk;cases m with
 |none=>cases h
 |some L=>exact zAu.mp h k hk
abbrev okS:Mode->Bool:=aFA λ k=>decide (k<=1)
abbrev okN:Mode->Bool:=aFA λ k=>k==1
abbrev okO(i:Nat):Mode->Bool:=aFA λ k=>k==1||k==i+2
def bU(i:Nat)(fe:En->Rs D):En->Ou:=λ Y=>(fe Y).bo λ d=>.nx (Y.set i (.sh d))
def pq(i:Nat)(fe:En->Rs D):En->Ou:=λ Y=>(fe Y).bo λ d=>.nx (Y.set i (.nw d))
def oG(i:Nat)(fe:En->Rs D):En->Ou:=λ Y=>(fe Y).bo λ d=>.nx (Y.set i (.ow d))
def RR.shared{K:zAA}(hm:okS m=true)(R:RR K G U Y Z H lab)(s:aW H H')(r:Rp K (fpM m lab H) H' v d):
  RR K G U Y Z H' (eQ H 1 lab)/\Rp K (λ p=>(eQ H 1 lab p).1<=1) H' v d:=R.fresh (P:=λ k=>k<=1) (by decide) (λ k hk=>of_decide_eq_true (tD hm k hk)) s r
def az{i:Nat}(h:SV C i s m fe)(hm:okS m=true:=by rfl):SS C s (bU i fe):=by
 obtain⟨t,h1,h2⟩:=h;refine⟨_,h1,λ U Z H Y lab De R W=>h2 U Z H Y lab _ R (W.bo.imp λ d _ w v H' s r=>?_)⟩;obtain⟨R',r'⟩:=R.shared hm s r;exact w _ _ _ (R'.put (s:=.sh d) r')
def jw(h:SV C i s m fe)(hm:okN m=true:=by rfl):SS C s (pq i fe):=by
 obtain⟨t,h1,h2⟩:=h;refine⟨_,h1,λ U Z H Y lab De R W=>h2 U Z H Y lab _ R (W.bo.imp λ d _ w v H' s r=>?_)⟩;obtain⟨R',r'⟩:=R.fresh (P:=λ k=>k=1) rfl (λ k hk=>beq_iff_eq.mp (tD hm k hk)) s r;exact w _ _ _ (R'.put (s:=.nw d) r')
def ju(h:SVF C i s m fe)(hm:okO i m=true:=by rfl):SS C s (oG i fe):=by
 obtain⟨t,h1,h2⟩:=h;refine⟨_,h1,λ U Z H Y lab De R W=>h2 U Z H Y lab _ R (W.bo.imp λ d _ w v H' s r ht=>?_)⟩;obtain⟨lab',R',r'⟩:=R.freshO i (λ k hk=>by have:=tD hm k hk;simpa using this) s r ht;exact w _ _ _ (R'.put (s:=.ow d) r')
def aNW(K:zAA)(G:Gx)(g:TG)(fg:D->En->Rs En):Prop:=∀U v d Z H Y lab (Q:L2.St->Hp->Prop) Y',RR K G U Y Z H lab->Rp K (λ p=>(lab p).1<=1) H v d->fg d Y= .ok Y'->(∀Z',RR K G U Y' Z' H lab->Q Z' H)->g v Z H Q
def aO9(K:zAA)(G:Gx)(g:TGs)(fg:List D->En->Rs En):Prop:=∀U vs ds Z H Y lab (Q:L2.St->Hp->Prop) Y',RR K G U Y Z H lab->Rps K (λ p=>(lab p).1<=1) H vs ds->fg ds Y= .ok Y'->(∀Z',RR K G U Y' Z' H lab->Q Z' H)->g vs Z H Q
def SG(C:Ct)(tg:Expr)(ks:List Nat)(fg:D->En->Rs En):Prop:=∃g,(∀i,PG (C.X i) tg g)/\aNW C.K C.G g fg/\uM g ks/\aDL g
def SGs(C:Ct)(tg:List Expr)(ks:List Nat)(fg:List D->En->Rs En):Prop:=∃g,(∀i,PGs (C.X i) tg g)/\aO9 C.K C.G g fg/\zY g ks/\vB g
def gnm(i:Nat):D->En->Rs En:=λ d Y=>.ok (Y.set i (.sh d))
def tL:List D->En->Rs En:=λ ds Y=>match ds with
 |[]=>.ok Y
 |_=>.st
def dO(f:D->En->Rs En)(g:List D->En->Rs En):List D->En->Rs En:=λ ds Y=>match ds with
 |d::r=>(f d Y).bd (g r)
 |_=>.st
def rR(n:Nat)(g:List D->En->Rs En):D->En->Rs En:=λ d Y=>match d with
 | .tup ds=>if ds.length=n then g ds Y else .st
 |_=>.st
variable{ks:List Nat}{fg:D->En->Rs En}{fgs:List D->En->Rs En}{tg:Expr}{tgs:List Expr}
def eN(hN:∀j,(C.X j).N[i]? =some x:=by intro _;rfl)(hx:∀j,Loc (C.X j).env.scope x:=by intro _;first|exact zD7 rfl|exact zC8 rfl)(hf:∀j,(C.X j).fn x=true\/(C.X j).env.scope.names.lookup x=some .local:=by intro _;first|exact .inl rfl|exact .inr rfl)(nd:∀j,(C.X j).N.Nodup:=by intro _;assumption)(hk:i∈ks:=by decide):SG C (.Name x pos) ks (gnm i):=
 ⟨_,λ j=>aJ7 (nd j) (hN j) (hx j) (hf j),λ U v d Z H Y lab Q Y' R r e q=>by cases e;exact q _ (R.put (s:=.sh d) r),aK2 hk,aK4⟩
def wV:SGs C [] ks tL:=by
 refine⟨_,λ _=>aJ6,λ U vs ds Z H Y lab Q Y' R r e q=>?_,aK1,aK3⟩;cases r with
 |nil=>cases e;exact⟨rfl,q _ R⟩
 |cons _ _=>cases e
def iU(h:SG C tg ks fg)(k:SGs C tgs ks fgs)(hs:∀i,(zDN (tg::tgs) (C.X i).env).map (·.2)=zFr tg (C.X i).env::(zDN tgs (C.X i).env).map (·.2):=by intro _;rfl):SGs C (tg::tgs) ks (dO fg fgs):=by
 obtain⟨g,h1,h2,h3,h4⟩:=h;obtain⟨u,k1,k2,k3,k4⟩:=k;refine⟨_,λ i=>aHQ (h1 i) (k1 i) (hs i),λ U vs ds Z H Y lab Q Y' R r e q=>?_,aHz h3 h4 k3 k4,aID h4 k4⟩;cases r with
 |nil=>cases e
 |cons h r=>
  obtain⟨Y1,e1,e2⟩:=dN e;exact⟨_,_,rfl,h2 U _ _ Z H Y lab _ Y1 R h e1 λ Z1 R1=>k2 U _ _ Z1 H Y1 lab Q Y' R1 r e2 q⟩
def aAz(h:SGs C tgs ks fgs)(hn:∀i,(zDN tgs (C.X i).env).length=n:=by intro _;rfl)(hst:∀i,(zDN tgs (C.X i).env).findIdx? (·.1)=none:=by intro _;rfl):SG C (.Tuple tgs k pos) ks (rR n fgs):=by
 obtain⟨u,k1,k2,k3,k4⟩:=h;refine⟨aK5 C.K n u,λ i=>by rw[<-C.hK i];exact aMG (C.calm i) (k1 i) (hn i) (hst i),λ U v d Z H Y lab Q Y' R r e q=>?_,aNA k3,aNB k4⟩;cases r with
 |tup h r=>
  unfold rR at e;dsimp only at e;split at e
  .rename_i hl
   exact⟨_,_,rfl,h,by rw[r.length];exact hl,k2 U _ _ Z H Y lab Q Y' R r e q⟩
  .cases e
 |_=>cases e
def JL(K:zAA)(lab:Lab)(J:It)(H:Hp)(ds:List D):Prop:=∀i,(ds.length<=i->J.stop i H)/\(i<ds.length->J.go i H/\∀x H',J.yld i H x H'->aW H H'/\∃d,ds[i]? =some d/\Rp K (λ p=>(lab p).1<=1) H' x d)
def aNV(K:zAA)(G:Gx)(wi:TI)(f:En->Rs (List D)):Prop:=∀U Z H Y lab (Rr:It->Hp->Prop),RR K G U Y Z H lab->
 WR G (f Y) (λ ds=>∀J H1 lab1 U1,aW H H1->(∀p o,H p=some o->lab1 p=lab p)->RR K G (U1++U) Y Z H1 lab1->(∀lab' H',(∀q∈U1,Rp K (λ p=>(lab' p).1<=1) H' q.1 q.2)->JL K lab' J H' ds)->Rr J H1)->wi Z H Rr
def SI(C:Ct)(tg iter:Expr)(f:En->Rs (List D)):Prop:=∃wi,(∀i,PI (C.X i) tg iter wi)/\aNV C.K C.G wi f
def aOY(K:zAA)(tl:TE):TI:=λ Z H R=>tl Z H λ x H1=>∃a,x= .ref a/\(((∃xs,SqL K H1 a xs)/\R (Itl K a) H1)\/((∃xs,SqT K H1 a xs)/\R (Itt K a) H1))
def aMF(hl:PE X l tl):PI X tg l (aOY X.K tl):=by
 intro kK s Z H R I h;refine thn (hl kK s Z H _ I h) λ v s1 ⟨x,H1,I1,r1,a,e,q1⟩=>?_
 subst e;cases r1;have hp:∀b∈[s1.heap.objs.size],uN X kK H1 b:=λ b hb=>by
  have e:b=s1.heap.objs.size:=by simpa using hb
  rw[e];exact I1.fpOk (zAM _) (I1.hok.fresh (zAM _))
 rcases q1 with ⟨⟨xs,hq⟩,q⟩|⟨⟨xs,hq⟩,q⟩
 .obtain⟨its,rv,p,hz⟩:=I1.list hq
  refine zFh p.isList ?_;exact⟨_,_,_,_,H1,rfl,I1.kept (t':=s1.toks) λ b o e=>zAE _ e,aF2 a _,⟨_,zAL _ rfl,rfl,rfl⟩,hp,q⟩
 .obtain⟨its,rv,p,hz⟩:=I1.tuple hq
  refine zCw (show s1.heap.IsTuple a its.toArray from p) ?_;exact⟨_,_,_,_,H1,rfl,I1.kept (t':=s1.toks) λ b o e=>zAE _ e,aDQ a _,⟨_,zAL _ rfl,rfl,rfl⟩,hp,q⟩
def itD:D->Rs (List D)
 | .tup l=>.ok l
 | .lst l=>.ok l
 | .scr l=>.ok (l.map .int)
 |_=>.st
def cj(fe:En->Rs D):En->Rs (List D):=λ Y=>(fe Y).bd itD
def aFG{K:zAA}(h:SqL K H a xs)(r:Rps K (λ p=>(lab p).1<=1) H xs ds):JL K lab (Itl K a) H ds:=by
 have hl:=r.length;refine λ i=>⟨λ hi=>⟨xs,h,by lia⟩,λ hi=>⟨⟨xs,xs[i]'(by lia),h,by simp[hl,hi]⟩,λ x H' y=>?_⟩⟩
 obtain⟨e,y⟩:=y;subst e;obtain⟨d,h1,h2⟩:=r.get (y xs h);exact⟨aW.refl _,d,h1,h2⟩
def aMs{K:zAA}(h:SqT K H a xs)(r:Rps K (λ p=>(lab p).1<=1) H xs ds):JL K lab (Itt K a) H ds:=by
 have hl:=r.length;refine λ i=>⟨λ hi=>⟨xs,h,by lia⟩,λ hi=>⟨⟨xs,xs[i]'(by lia),h,by simp[hl,hi]⟩,λ x H' y=>?_⟩⟩
 obtain⟨e,y⟩:=y;subst e;obtain⟨d,h1,h2⟩:=r.get (y xs h);exact⟨aW.refl _,d,h1,h2⟩
def eO(he:SE C m e fe)(hm:okS m=true:=by rfl):SI C tg e (cj fe):=by
 obtain⟨t,p1,p2⟩:=he;refine⟨aOY C.K t,λ i=>by rw[<-C.hK i];exact aMF (p1 i),λ U Z H Y lab Rr R W=>p2 U Z H Y lab _ R (W.bd.imp λ d _ w v H1 s r=>?_)⟩;obtain⟨R',r'⟩:=R.shared hm s r;cases d with
 |tup l=>
  cases r' with
  |tup h q=>
   rename_i a xs;refine⟨_,rfl,.inr ⟨⟨_,h⟩,w _ H1 _ [(.ref a,.tup l)] s (λ p o e=>cC e) ⟨R'.len,R'.sl,R'.old,R'.new,λ z hz=>?_⟩ λ lab' H' hq=>?_⟩⟩
   .rcases zAQ.mp hz with rfl|hz
    .exact .tup h q
    .exact R'.tm z hz
   .have z:=hq _ (zAH ..)
    cases z with
    |tup h' q'=>exact aMs h' q'
 |lst l=>
  cases r' with
  |lst h mm q=>
   rename_i a xs;refine⟨_,rfl,.inl ⟨⟨_,SqL.of h⟩,w _ H1 _ [(.ref a,.lst l)] s (λ p o e=>cC e) ⟨R'.len,R'.sl,R'.old,R'.new,λ z hz=>?_⟩ λ lab' H' hq=>?_⟩⟩
   .rcases zAQ.mp hz with rfl|hz
    .exact .lst h mm q
    .exact R'.tm z hz
   .have z:=hq _ (zAH ..)
    cases z with
    |lst h' _ q'=>exact aFG (SqL.of h') (q'.wk λ _ _ _ z=>z.1)
 |scr l=>
  cases r' with
  |scr h=>
   rename_i a;refine⟨_,rfl,.inl ⟨⟨_,h.sq⟩,w _ H1 _ [(.ref a,.scr l)] s (λ p o e=>cC e) ⟨R'.len,R'.sl,R'.old,R'.new,λ z hz=>?_⟩ λ lab' H' hq=>?_⟩⟩
   .rcases zAQ.mp hz with rfl|hz
    .exact .scr h
    .exact R'.tm z hz
   .have z:=hq _ (zAH ..)
    cases z with
    |scr h'=>exact aFG h'.sq Rps.ints
 |_=>exact zAN w
end
section
variable{C:Ct}{pos:Pos}{s:Stmt}{ss:List Stmt}{f:En->Ou}{e a b:Expr}{es:List Expr}{m:Mode}{fa:En->Rs D}{ks:List Nat}{fg:D->En->Rs En}{tg:Expr}{fi:En->Rs (List D)}{ga:En->Rs (List D)}
def cQ(lo hi:Int):List D:=(zAf (hi-lo).toNat).map λ(k:Nat)=>.int (lo+(k:Int))
def gn:List D->Rs (List D)
 |[.int j]=>if -(2^62)<=j/\j<2^62 then .ok (cQ 0 j)else .st
 |_=>.st
def aGq:List D->Rs (List D)
 |[.int i,.int j]=>if (-(2^62)<=i/\i<2^62)/\(-(2^62)<=j/\j<2^62)then .ok (cQ i j)else .st
 |_=>.st
def gJ(r:List D->Rs (List D))(ga:En->Rs (List D)):En->Rs (List D):=λ Y=>(ga Y).bd r
def aHi{K:zAA}{lo hi:Int}:JL K lab (Itr lo (hi-lo).toNat) H (cQ lo hi):=by
 have hl:(cQ lo hi).length=(hi-lo).toNat:=by unfold cQ;simp
 refine λ i=>⟨λ h=>by show(hi-lo).toNat<=i;lia,λ h=>⟨by show i<(hi-lo).toNat;lia,λ x H' y=>?_⟩⟩
 obtain⟨e,rfl⟩:=y;subst e;refine⟨aW.refl _,.int (lo+i),?_,.int _⟩;unfold cQ;rw[zA2,zGt (by lia)];rfl
def iM(ha:SA C m [a] ga)(hm:C.mg "range"=none)(hs:∀i,zAV [a] (C.X i).env=[(false,eval a (C.X i).env)]:=by intro _;rfl)(hg:∀i,Gl (C.X i) "range":=by intro _;rfl):SI C tg (.Call (.Name "range" p) [a] [] pos) (gJ gn ga):=by
 obtain⟨t,h1,h2⟩:=ha;refine⟨_,λ i=>aFp (hg i) (by rw[(C.cx i).2.2.2.1];exact hm) (h1 i) (hs i),λ U Z H Y lab Rr R W=>h2 U Z H Y lab _ R (W.bd.imp λ ds _ w vs H1 s r=>?_)⟩;unfold gn at w;split at w
 .rename_i j _
  split at w
  .rename_i hj
   cases r with
   |cons h r=>
    cases h;cases r;refine⟨j,rfl,hj.1,hj.2,?_⟩;have z:=w (Itr 0 (j-0).toNat) H1 lab [] s (λ _ _ _=>rfl) (R.up s) λ lab' H' _=>aHi
    rwa [Int.sub_zero]at z
  .exact zAN w
 .exact zAN w
def aJH(ha:SA C m [a,b] ga)(hm:C.mg "range"=none)(hs:∀i,zAV [a,b] (C.X i).env=[(false,eval a (C.X i).env),(false,eval b (C.X i).env)]:=by intro _;rfl)(hs2:∀i,zAV [b] (C.X i).env=[(false,eval b (C.X i).env)]:=by intro _;rfl)(hg:∀i,Gl (C.X i) "range":=by intro _;rfl):SI C tg (.Call (.Name "range" p) [a,b] [] pos) (gJ aGq ga):=by
 obtain⟨t,h1,h2⟩:=ha;refine⟨_,λ i=>aFo (hg i) (by rw[(C.cx i).2.2.2.1];exact hm) (h1 i) (hs i) (hs2 i),λ U Z H Y lab Rr R W=>h2 U Z H Y lab _ R (W.bd.imp λ ds _ w vs H1 s r=>?_)⟩;unfold aGq at w;split at w
 .rename_i i j _
  split at w
  .rename_i hj
   cases r with
   |cons h r=>
    cases h;cases r with
    |cons h r=>
     cases h;cases r;exact⟨i,j,rfl,⟨hj.1.1,hj.1.2,hj.2.1,hj.2.2⟩,w (Itr i (j-i).toNat) H1 lab [] s (λ _ _ _=>rfl) (R.up s) λ lab' H' _=>aHi⟩
  .exact zAN w
 .exact zAN w
def forL(fg:D->En->Rs En)(b:En->Ou):List D->En->Ou
 |[],Y=>.nx Y
 |d::ds,Y=>match fg d Y with
  | .ok Y1=>match b Y1 with
   | .nx Y2=>forL fg b ds Y2
   | .ct Y2=>forL fg b ds Y2
   | .bk Y2=>.nx Y2
   |o=>o
  |_=>.st
def n8(fi:En->Rs (List D))(fg:D->En->Rs En)(b:En->Ou):En->Ou:=λ Y=>(fi Y).bo λ ds=>forL fg b ds Y
def iZ(hi:SI C tg e fi)(hg:SG C tg ks fg)(hb:SSs C ss f)(hs:∀i,∀x,zBl e (C.X i).env x=pure x:=by intro _ _;rfl):SS C (.For tg e ss [] pos) (n8 fi fg f):=by
 obtain⟨wi,i1,i2⟩:=hi;obtain⟨gg,g1,g2,_,g4⟩:=hg;obtain⟨tb,b1,b2⟩:=hb;refine⟨_,λ i=>aMC (C.own i) (C.calm i) (i1 i) (g1 i) (b1 i) (hs i),λ U Z H Y lab De R W=>i2 U Z H Y lab _ R (W.bo.imp λ ds _ w J H1 lab1 U1 s1 _ R1 jl=>?_)⟩;refine⟨λ i n Z' H'=>∃Y' lab',RR C.K C.G (U1++U) Y' Z' H' lab'/\n=ds.length-i/\i<=ds.length/\WS C.K C.G U (forL fg f (ds.drop i) Y') De,⟨ds.length,Y,lab1,R1,by lia,by lia,w⟩,?_⟩;rintro i n Z' H' ⟨Y',lab',R',rfl,hi,w'⟩;have jj:=jl lab' H' λ q hq=>R'.tm q (zAc _ hq)
 by_cases hlt:i<ds.length
 .obtain⟨go,yl⟩:=(jj i).2 hlt
  refine .inr ⟨go,λ Z2 H2=>∃Y2 lab2,RR C.K C.G (U1++U) Y2 Z2 H2 lab2/\WS C.K C.G U (forL fg f (ds.drop (i+1)) Y2) De,λ Z2 H2 ⟨Y2,lab2,R2,w2⟩=>⟨ds.length-(i+1),by lia,Y2,lab2,R2,rfl,hlt,w2⟩,λ x H2 hy=>?_⟩;obtain⟨s2,d,ed,rx⟩:=yl x H2 hy;replace R':=R'.up s2;have ed2:ds.drop i=d::ds.drop (i+1):=by
   rw[zDe hlt]
   have:=zAJ hlt
   rw[ed]at this;cases this;rfl
  rw[ed2]at w';unfold forL at w';cases eg:fg d Y' with
  |ex c=>rw[eg]at w';exact zAN w'
  |st=>rw[eg]at w';exact zAN w'
  |ok Y1=>
   rw[eg]at w';refine g2 (U1++U) x d Z' H2 Y' lab' _ Y1 R' rx eg λ Z1 R1'=>b2 (U1++U) Z1 H2 Y1 lab' _ R1' ?_
   dsimp only at w';cases eb:f Y1 with
   |nx Y2=>rw[eb]at w';exact λ Z2 H3 lab2 R2=>⟨Y2,lab2,R2,w'⟩
   |ct Y2=>rw[eb]at w';exact λ Z2 H3 lab2 R2=>⟨Y2,lab2,R2,w'⟩
   |bk Y2=>rw[eb]at w';exact λ Z2 H3 lab2 R2=>w' Z2 H3 lab2 R2.drop
   |rt d=>rw[eb]at w';exact w'
   |ex c=>rw[eb]at w';exact w'
   |st=>rw[eb]at w';exact w'
 .have e:i=ds.length:=by lia
  subst e;rw[zFK]at w';exact .inl ⟨(jj _).1 (zAM _),w' Z' H' lab' R'.drop⟩
def itW(c:En->Rs Bool)(b:En->Ou):Nat->En->Ou
 |0,_=>.st
 |n+1,Y=>(c Y).bo λ k=>if k=true then(match b Y with
   | .nx Y2=>itW c b n Y2
   | .ct Y2=>itW c b n Y2
   | .bk Y2=>.nx Y2
   |o=>o)else .nx Y
def fuel:Nat:=1000000
def qd(c:En->Rs Bool)(b:En->Ou):En->Ou:=itW c b fuel
def xO(hc:ST C c fc)(hb:SSs C ss f):SS C (.While c ss [] pos) (qd fc f):=by
 obtain⟨tc,c1,c2⟩:=hc;obtain⟨tb,b1,b2⟩:=hb;refine⟨_,λ i=>aHI (C.own i) (c1 i) (b1 i),λ U Z H Y lab De R W=>?_⟩;refine⟨λ n Z' H'=>∃Y' lab',RR C.K C.G U Y' Z' H' lab'/\WS C.K C.G U (itW fc f n Y') De,⟨fuel,Y,lab,R,W⟩,?_⟩;rintro n Z' H' ⟨Y',lab',R',w'⟩;cases n with
 |zero=>exact zAN w'
 |succ n=>
  refine c2 U Z' H' Y' lab' _ R' (WS.bo (show WS C.K C.G U ((fc Y').bo _) De from w') |>.imp λ k _ w H1 s1=>?_);cases k with
  |false=>
   rw[if_neg zAX]at w ⊢;exact w Z' H1 lab' (R'.up s1)
  |true=>
   rw[if_pos rfl]at w ⊢;refine⟨λ Z2 H2=>∃Y2 lab2,RR C.K C.G U Y2 Z2 H2 lab2/\WS C.K C.G U (itW fc f n Y2) De,λ Z2 H2 ⟨Y2,lab2,R2,w2⟩=>⟨n,zBd n,Y2,lab2,R2,w2⟩,?_⟩;refine b2 U Z' H1 Y' lab' _ (R'.up s1) ?_;cases eb:f Y' with
   |nx Y2=>rw[eb]at w;exact λ Z2 H3 lab2 R2=>⟨Y2,lab2,R2,w⟩
   |ct Y2=>rw[eb]at w;exact λ Z2 H3 lab2 R2=>⟨Y2,lab2,R2,w⟩
   |bk Y2=>rw[eb]at w;exact w
   |rt d=>rw[eb]at w;exact w
   |ex c=>rw[eb]at w;exact w
   |st=>rw[eb]at w;exact w
def oO(x:Str)(ga:En->Rs (List D)):En->Ou:=λ Y=>(ga Y).bo λ ds=>if ds.length<=zAS then .ex x else .st
def oA{rest:List Expr}(hd:C.dOk=true)(hm:C.mg x=some (.ref Ca))(hcl:C.G.cl x=Ca)(hC:ni C.K Ca)(ha:SA C m (x9::rest) ga)(he:∀i,zAV (x9::rest) (C.X i).env=(false,eval x9 (C.X i).env)::zAV rest (C.X i).env:=by intro _;rfl)(hplain:∀i,(zCB cpos (zAV rest (C.X i).env)).any (·.1)=false:=by intro _;rfl)(hdb:Nd x:=by decide)(hg:∀i,Gl (C.X i) x:=by intro _;rfl):SS C (.Raise (some (.Call (.Name x np) (x9::rest) [] cpos)) none pos) (oO x ga):=by
 obtain⟨t,h1,h2⟩:=ha;refine⟨_,λ i=>aHL (C.dcx hd i) (C.calm i) (by rw[(C.cx i).2.2.2.1];exact hm) (by rw[C.hK i];exact hC) (hg i) (h1 i) (he i) (hplain i) hdb,λ U Z H Y lab De R W=>h2 U Z H Y lab _ R (W.bo.imp λ ds _ w vs H1 s r=>?_)⟩;by_cases hz:ds.length<=zAS
 .rw[if_pos hz]at w
  refine⟨by rw[r.length];exact hz,?_⟩
  have:=w H1 (R.old.trans s)
  rwa [hcl]at this
 .rw[if_neg hz]at w
  exact zAN w
def spF(K:zAA)(cl:Str->Addr)(n:Nat)(F:List D->Rs D):Sp:=λ vs H Q E=>∃ds,vs.length=n/\Rps K (λ _=>True) H vs ds/\WR ⟨H,E,cl⟩ (F ds) (λ d=>∀v H',aW H H'->Rp K (λ p=>H p=none) H' v d->Q v H')
def aM(F:List D->Rs D)(ga:En->Rs (List D)):En->Rs D:=λ Y=>(ga Y).bd F
def aGj{K:zAA}(hn:∀Y ds,ga Y= .ok ds->ds.length=n)(h:aKp K G m t ga):gZ K G (some []) (aKy (spF K G.cl n F) [] G.E t) (aM F ga):=by
 intro U Z H Y lab Q R W;refine h U Z H Y lab _ R (W.bd.imp λ ds eds w vs H1 s r=>⟨ds,by rw[zBX,r.length];exact hn Y ds eds,by rw[zBX];exact r.wk λ _ _ _ _=>trivial,?_⟩);cases hF:F ds with
 |ok d=>
  rw[hF]at w;exact λ v H' s' r'=>w v H' (s.trans s') (r'.wk λ p o _ z=>.inl (s.free z))
 |ex c=>rw[hF]at w;exact λ H' s'=>w H' ((R.old.trans s).trans s')
 |st=>rw[hF]at w;exact w
variable{k:Nat}{fn:Addr}{fd:zA7}{ps:List Str}{x:Str}{p:Pos}{F:List D->Rs D}{n:Nat}
def aJM(hF:bu C.prog C.w C.K C.mg C.base (CX1 C.prog C.w) k fn fd ps (spF C.K C.G.cl n F))(hr:k<=C.k)(hm:C.mg x=some (.ref fn))(hk:zCq C.K (.ref fn)=true)(hb:Binds C.K fd ps [])(ha:SA C m (e::es) ga)(hn:∀Y ds,ga Y= .ok ds->ds.length=n)(hdb:Nd x:=by decide)(he:∀i,zAV (e::es) (C.X i).env=(false,eval e (C.X i).env)::zAV es (C.X i).env:=by intro _;rfl)(hpl:∀i,(zCB pos (zAV es (C.X i).env)).any (·.1)=false:=by intro _;rfl)(hg:∀i,Gl (C.X i) x:=by intro _;rfl):SE C (some []) (.Call (.Name x p) (e::es) [] pos) (aM F ga):=by
 obtain⟨t,h1,h2⟩:=ha;refine⟨_,λ i=>?_,aGj hn h2⟩;obtain⟨e1,e2,e3,e4,e5⟩:=C.cx i;refine aJc (CX:=CX1 (C.X i).prog (C.X i).w) (by rw[e1,e2,e3,e4,e5];exact hF) ((C.room i).mono hr) (hg i) (by rw[e4];exact hm) (by rw[e3];exact hk) (by rw[e3];exact hb) .nil (C.pass i) (h1 i) hdb (he i) (hpl i)
def aKC(h:aF Y= .ok ds):ds.length=0:=by cases h;rfl
def aHd(h:∀Y ds,ga Y= .ok ds->ds.length=n):∀Y ds,aA fa ga Y= .ok ds->ds.length=n+1:=λ Y ds e=>by
 obtain⟨d,_,e⟩:=dN e;obtain⟨r,er,e⟩:=dN e;cases e;rw[zA3,h Y r er]
end
def bH(mg:Str->Option Value):Str->Addr:=λ x=>match mg x with
 |some (.ref a)=>a
 |_=>0
abbrev ctD(P:zAT)(w:World)(K:zAA)(mg:Str->Option Value)(base:Heap)(N:List Str)(q:Str)(sc:Scope)(f:Addr)(cdv:Value)(A:zAa)(outer:List Env)(s:zAD)(H:Hp)(E:XK)(k:Nat)(hr:jq k (A.deeper (zE5 q sc s.heap.objs.size f cdv))):Ct where
 ι:=Unit
 X:=λ _=>aCu (CX1 P w) P w K mg base N q sc f cdv A outer s H E
 prog:=P
 w:=w
 K:=K
 mg:=mg
 base:=base
 k:=k
 G:=⟨H,E,bH mg⟩
 cx:=λ _=>⟨rfl,rfl,rfl,rfl,rfl⟩
 calm:=λ _=>rfl
 room:=λ _=>hr
 own:=λ _=>jk.own jk.of
 pass:=λ _=>jk.pass jk.of
 dOk:=true
 dcx:=λ _ _=>jk.of
def aZ(n:Nat)(ds:List D):En:=ds.map .sh++zAy (n-ds.length) .no
def dF(n:Nat)(f:En->Ou):List D->Rs D:=λ ds=>match f (aZ n ds)with
 | .nx _=>.ok .non
 | .rt d=>.ok d
 | .ex c=>.ex c
 |_=>.st
theorem RR.start{K:zAA}(r:Rps K (λ _=>True) H vs ds):RR K ⟨H,E,cl⟩ [] (aZ N.length ds) (start N vs) H (λ _=>(0,0)):=by
 have hl:=r.length;refine⟨by unfold aZ L2.start;simp[hl],λ i s e=>?_,aW.refl H,λ p hp=>absurd rfl hp,λ q hq=>by cases hq⟩;unfold aZ at e;by_cases hi:i<ds.length
 .rw[zC2 (by simpa using hi),zA2]at e
  cases ed:ds[i]? with
  |none=>rw[ed]at e;cases e
  |some d=>
   rw[ed]at e;cases e;obtain⟨x,ex,rx⟩:=r.getD ed;refine .inr ⟨x,?_,rx.wk λ _ _ _ _=>zAp _⟩;unfold L2.start;rw[zC2 (by simpa[hl]using hi),zA2,ex];rfl
 .rw[zD6 (by simpa using hi),zDz]at e
  split at e
  .cases e;exact .inl rfl
  .cases e
section
variable{P:zAT}{w:World}{K:zAA}{mg:Str->Option Value}{base:Heap}
def aNE{x q:Str}{st:Stmt}(F:L2.Fun K x q st fn fd)(S:aV N ps (aP st))
  (hb:∀cdv A outer s H E hr,SSs (ctD P w K mg base N q (aP st) fn cdv A outer s H E k hr) (iR st) f):
  bu P w K mg base (CX1 P w) (k+1) fn fd ps (spF K (bH mg) ps.length (dF N.length f)):=by
 refine F.okX S (λ vs H Q E ⟨ds,hl,_⟩=>hl) λ cdv A outer s H vs Q E hr ⟨ds,hl,r,W⟩=>?_
 obtain⟨t,h1,h2⟩:=hb cdv A outer s H E hr;refine⟨t,h1 (),h2 [] _ H _ _ _ (RR.start r) ?_⟩;unfold dF at W;cases e:f (aZ N.length ds)with
 |nx Y=>rw[e]at W;exact λ Z' H' lab R=>W .non H' R.old .non
 |rt d=>rw[e]at W;exact λ v H' s r=>W v H' s r
 |ex c=>rw[e]at W;exact W
 |bk Y=>rw[e]at W;exact zAN W
 |ct Y=>rw[e]at W;exact zAN W
 |st=>rw[e]at W;exact zAN W
def aK6{st:Stmt}(F:L2.Fun K x q st fn fd)(S:aV N ps (aP st))
  (hb:∀cdv A outer s H E hr,SSs (ctD P w K mg base N q (aP st) fn cdv A outer s H E k hr) (iR st) f)(hn:ps.length=n)(hF:dF N.length f=FF):
  bu P w K mg base (CX1 P w) (k+1) fn fd ps (spF K (bH mg) n FF):=by
 subst hn hF;exact aNE F S hb
end
def OpR.or(h:OpR X f r)(h':OpR X f r'):OpR X f (λ x y H Q=>r x y H Q\/r' x y H Q):=by
 intro kK s Z H x y v u Q I rx ry q;rcases q with q|q
 .exact h kK s Z H x y v u Q I rx ry q
 .exact h' kK s Z H x y v u Q I rx ry q
def OpS.or{K:zAA}(h:OpS K r fd)(h':OpS K r' fd'):OpS K (λ x y H Q=>r x y H Q\/r' x y H Q) (λ d e=>match fd d e with
  | .ok z=>.ok z
  |_=>fd' d e):=by
 intro A x y d e H Q z rx ry ez q;dsimp only at ez;cases hd:fd d e with
 |ok w=>rw[hd]at ez;cases ez;exact .inl (h A x y d e H Q _ rx ry hd q)
 |ex c=>rw[hd]at ez;exact .inr (h' A x y d e H Q z rx ry ez q)
 |st=>rw[hd]at ez;exact .inr (h' A x y d e H Q z rx ry ez q)
section
variable{K:zAA}
def i2(p:Int->Int->Bool)(g:Int->Int->D):D->D->Rs D
 | .int i,.int j=>if p i j=true then .ok (g i j)else .st
 |_,_=>.st
def aDj{g:Int->Int->Int}(hp:∀i j,p i j=true->c i j):OpS K (rI c λ i j=>.int (g i j)) (i2 p λ i j=>.int (g i j)):=by
 intro A x y d e H Q z rx ry ez q;unfold i2 at ez;split at ez
 .rename_i i j
  split at ez
  .rename_i h
   cases ez;obtain rfl:=rx.int_inv;obtain rfl:=ry.int_inv;exact⟨i,j,rfl,rfl,hp i j h,q _ H (aW.refl H) (.int _)⟩
  .cases ez
 .cases ez
def aJi{g:Int->Int->Int}:OpS K (rI0 λ i j=>.int (g i j)) (i2 (λ _ _=>true) λ i j=>.int (g i j)):=by
 intro A x y d e H Q z rx ry ez q;unfold i2 at ez;split at ez
 .rename_i i j
  cases ez;obtain rfl:=rx.int_inv;obtain rfl:=ry.int_inv;exact⟨i,j,rfl,rfl,q _ H (aW.refl H) (.int _)⟩
 .cases ez
def yJ{g:Int->Int->Bool}:OpS K (rI0 λ i j=>.bl (g i j)) (i2 (λ _ _=>true) λ i j=>.bl (g i j)):=by
 intro A x y d e H Q z rx ry ez q;unfold i2 at ez;split at ez
 .rename_i i j
  cases ez;obtain rfl:=rx.int_inv;obtain rfl:=ry.int_inv;exact⟨i,j,rfl,rfl,q _ H (aW.refl H) (.bl _)⟩
 .cases ez
def aBW{g:Int->Int->Int}:∀x y z,i2 p (λ i j=>.int (g i j)) x y= .ok z->imm z=true:=by
 intro x y z e;unfold i2 at e;split at e
 .split at e
  .cases e;rfl
  .cases e
 .cases e
def aEI{g:Int->Int->Bool}:∀x y z,i2 p (λ i j=>.bl (g i j)) x y= .ok z->imm z=true:=by
 intro x y z e;unfold i2 at e;split at e
 .split at e
  .cases e;rfl
  .cases e
 .cases e
def cG:D->D->Rs D
 | .int i,.int j=>.ok (.int (i+j))
 | .lst l,.lst m=>if l.length+m.length<=zAS then .ok (.lst (l++m))else .st
 | .tup l,.tup m=>if l.length+m.length<=zAS then .ok (.tup (l++m))else .st
 |_,_=>.st
def aLG(K:zAA):R2:=λ x y H Q=>∃a b xs ys,x= .ref a/\y= .ref b/\SqT K H a xs/\SqT K H b ys/\xs.length+ys.length<=zAS/\
 (xs=[]->Q (.ref b) H)/\(ys=[]->Q (.ref a) H)/\New H (.tup (xs++ys)) Q
def aJn:OpR X (zBy .Add) (aLG X.K):=by
 intro kK s Z H x y v u Q I rx ry h;obtain⟨a,b,xs,ys,rfl,rfl,ha,hb,hz,q0,q1,q2⟩:=h;by_cases hx:xs=[]
 .subst hx
  cases rx;cases ry;obtain⟨its,r1,p1,_⟩:=I.tuple ha;obtain⟨its2,r2,p2,_⟩:=I.tuple hb;cases r1;exact HT.aIY p1 p2 ⟨.ref b,H,I,rfl,q0 rfl⟩
 .exact aJo kK s Z H _ _ v u Q I rx ry ⟨a,b,xs,ys,rfl,rfl,ha,hb,hx,hz,q1,λ _ p hp=>q2.at hp⟩
def aHC(K:zAA):R2:=λ x y H Q=>rI0 (λ i j=>.int (i+j)) x y H Q\/(aLH x y H Q\/aLG K x y H Q)
def aJq:OpR X (zBy .Add) (aHC X.K):=OpR.or aMb (OpR.or aJp aJn)
def aMV:OpS K (aHC K) cG:=by
 intro A x y d e H Q z rx ry ez q;unfold cG at ez;split at ez
 .cases ez;obtain rfl:=rx.int_inv;obtain rfl:=ry.int_inv;exact .inl ⟨_,_,rfl,rfl,q _ H (aW.refl H) (.int _)⟩
 .split at ez
  .rename_i hl
   cases ez;obtain⟨_,_,rfl,h1,m1,r1⟩:=rx.lst_inv;obtain⟨_,_,rfl,h2,m2,r2⟩:=ry.lst_inv;refine .inr (.inl ⟨_,_,_,_,rfl,rfl,h1,h2,by rw[r1.length,r2.length];exact hl,λ p H' s hp hn=>q _ H' s (.lst hp (.inl hn) ?_)⟩);exact(((r1.wk λ _ _ _ z=>z.1).append (r2.wk λ _ _ _ z=>z.1)).wk (A':=λ q=>(H q=none\/A q)/\q≠p) λ q o e z=>⟨.inr z,λ e'=>by subst e';rw[hn]at e;cases e⟩).up s
  .cases ez
 .split at ez
  .rename_i hl
   cases ez;obtain⟨_,_,rfl,h1,r1⟩:=rx.tup_inv;obtain⟨_,_,rfl,h2,r2⟩:=ry.tup_inv;have r1':=r1.wk (A':=λ p=>H p=none\/A p) λ _ _ _ z=>.inr z
   have r2':=r2.wk (A':=λ p=>H p=none\/A p) λ _ _ _ z=>.inr z
   refine .inr (.inr ⟨_,_,_,_,rfl,rfl,h1,h2,by rw[r1.length,r2.length];exact hl,λ e=>?_,λ e=>?_,λ p H' s hp hn=>q _ H' s (.tup (SqT.of hp) ((r1'.append r2').up s))⟩)
   .subst e
    cases r1';exact q _ H (aW.refl H) (.tup h2 r2')
   .subst e
    cases r2';rw[zBX]at q;exact q _ H (aW.refl H) (.tup h1 r1')
  .cases ez
 .cases ez
def lR:D->D->Rs D
 | .int i,.int j=>if (decide (-(2^64)<i)&&decide (i<2^64))||(decide (-(2^64)<j)&&decide (j<2^64))then .ok (.int (i*j))else .st
 | .lst l,.int k=>if decide (-(2^63)<=k)&&decide (k<2^63)&&decide (l.length*k.toNat<=zAS)&&ou l then .ok (.lst (zAy k.toNat l).flatten)else .st
 |_,_=>.st
theorem Rps.rep(r:Rps K A H xs ds):∀k:Nat,Rps K A H (zAy k xs).flatten (zAy k ds).flatten
 |0=>.nil
 |k+1=>by
  rw[zB6,zB6,zB5,zB5];exact r.append (Rps.rep r k)
def aLC:R2:=λ x y H Q=>rI aKv (λ i j=>.int (i*j)) x y H Q\/aNq x y H Q
def aJl:OpR X (zBy .Mult) aLC:=OpR.or aM1 aMY
def aMT:OpS K aLC lR:=by
 intro A x y d e H Q z rx ry ez q;unfold lR at ez;split at ez
 .split at ez
  .rename_i hc
   cases ez;obtain rfl:=rx.int_inv;obtain rfl:=ry.int_inv;refine .inl ⟨_,_,rfl,rfl,?_,q _ H (aW.refl H) (.int _)⟩;simp only[zFY,zAW,decide_eq_true_eq]at hc;exact hc
  .cases ez
 .split at ez
  .rename_i hc
   simp only[zAW,decide_eq_true_eq]at hc;cases ez;obtain⟨_,_,rfl,h1,m1,r1⟩:=rx.lst_inv;obtain rfl:=ry.int_inv;refine .inr ⟨_,_,_,rfl,rfl,h1,hc.1.1.1,hc.1.1.2,by rw[r1.length];exact hc.1.2,λ p hp=>q _ _ (bJ hp _) (.lst bG (.inl hp) ?_)⟩;exact((r1.rep _).wk (A':=λ q=>(H q=none\/A q)/\q≠p) λ q o e z=>⟨.inr z.1,λ e'=>by subst e';rw[hp]at e;cases e⟩).up (bJ hp _)
  .cases ez
 .cases ez
def intsOf:List D->Option (List Int)
 |[]=>some []
 | .int i::r=>(intsOf r).map (i::·)
 |_=>none
theorem iV:∀{l:List D} {ns:List Int},intsOf l=some ns->l=ns.map .int
 |[],ns,h=>by cases h;rfl
 | .int i::r,ns,h=>by
  simp only[intsOf,zEA]at h;obtain⟨ms,h1,rfl⟩:=h;rw[iV h1];rfl
 | .non::_,_,h=>by cases h
 | .bl _::_,_,h=>by cases h
 | .str _::_,_,h=>by cases h
 | .tup _::_,_,h=>by cases h
 | .lst _::_,_,h=>by cases h
 | .dct _ _::_,_,h=>by cases h
 | .set _::_,_,h=>by cases h
 | .scr _::_,_,h=>by cases h
theorem jd:∀ns:List Int,intsOf (ns.map .int)=some ns
 |[]=>rfl
 |n::ns=>by simp only[zAC,intsOf,jd ns,zCO]
def ltT(p:List Int->List Int->Bool):D->D->Rs D
 | .tup l,.tup m=>match intsOf l,intsOf m with
  |some ns,some ms=>.ok (.bl (p ns ms))
  |_,_=>.st
 |_,_=>.st
def aEo(r:Rp K A H x (.tup l))(e:intsOf l=some ns):∃a,x= .ref a/\SqT K H a (ns.map V.int):=by
 have:=iV e
 subst this;cases r with
 |tup h r=>
  have:=r.ints_of
  subst this;exact⟨_,rfl,h⟩
def aEy(hr:∀x y H Q,(∃a b ns ms,x= .ref a/\y= .ref b/\SqT K H a (ns.map V.int)/\SqT K H b (ms.map V.int)/\Q (.bl (p ns ms)) H)->r x y H Q):OpS K r (ltT p):=by
 intro A x y d e H Q z rx ry ez q;unfold ltT at ez;split at ez
 .split at ez
  .rename_i ns ms e1 e2
   cases ez;obtain⟨a,rfl,ha⟩:=aEo rx e1;obtain⟨b,rfl,hb⟩:=aEo ry e2;exact hr _ _ _ _ ⟨a,b,ns,ms,rfl,rfl,ha,hb,q _ H (aW.refl H) (.bl _)⟩
  .cases ez
 .cases ez
def ltD:D->D->Rs D:=λ d e=>match i2 (λ _ _=>true) (λ i j=>.bl (decide (i<j))) d e with
 | .ok z=>.ok z
 |_=>ltT HT.lexLt d e
def leD:D->D->Rs D:=λ d e=>match i2 (λ _ _=>true) (λ i j=>.bl (decide (i<=j))) d e with
 | .ok z=>.ok z
 |_=>ltT HT.lexLe d e
def gtD:D->D->Rs D:=i2 (λ _ _=>true) (λ i j=>.bl (decide (j<i)))
def geD:D->D->Rs D:=i2 (λ _ _=>true) (λ i j=>.bl (decide (j<=i)))
def aM3(hu:X.A.units<cLine):OpR X (zAs .Lt) (λ x y H Q=>rI0 (λ i j=>.bl (decide (i<j))) x y H Q\/aJS X.K x y H Q):=OpR.or aOH (aM4 hu)
def aM5(hu:X.A.units<cLine):OpR X (zAs .LtE) (λ x y H Q=>rI0 (λ i j=>.bl (decide (i<=j))) x y H Q\/aJT X.K x y H Q):=OpR.or aOI (aM6 hu)
def aH0:OpS K (λ x y H Q=>rI0 (λ i j=>.bl (decide (i<j))) x y H Q\/aJS K x y H Q) ltD:=OpS.or yJ (aEy λ _ _ _ _ h=>h)
def aH1:OpS K (λ x y H Q=>rI0 (λ i j=>.bl (decide (i<=j))) x y H Q\/aJT K x y H Q) leD:=OpS.or yJ (aEy λ _ _ _ _ h=>h)
def aFJ(e:ltT p x y= .ok z):imm z=true:=by
 unfold ltT at e;split at e
 .split at e
  .cases e;rfl
  .cases e
 .cases e
def aHu:∀x y z,ltD x y= .ok z->imm z=true:=by
 intro x y z e;unfold ltD at e;split at e
 .rename_i w hw;cases e;exact aEI _ _ _ hw
 .exact aFJ e
def aMz:∀x y z,leD x y= .ok z->imm z=true:=by
 intro x y z e;unfold leD at e;split at e
 .rename_i w hw;cases e;exact aEI _ _ _ hw
 .exact aFJ e
def zr:D->Rs D
 | .int i=>.ok (.int (-i))
 |_=>.st
def aL1:UnS K (rU λ i=>.int (-i)) zr:=by
 intro A x d H Q z rx ez q;cases rx with
 |int i=>cases ez;exact⟨i,rfl,q _ H (aW.refl H) (.int _)⟩
 |_=>cases ez
def aKV:∀x z,zr x= .ok z->imm z=true:=by
 intro x z e;cases x with
 |int i=>cases e;rfl
 |_=>cases e
def atD(l:List D)(i:Int):Rs D:=match atI l i with
 |some d=>.ok d
 |none=>.st
def ixD:D->D->Rs D
 | .tup l,.int i=>atD l i
 | .lst l,.int i=>atD l i
 | .scr l,.int i=>atD (l.map .int) i
 |_,_=>.st
theorem Rps.at(r:Rps K A H xs ds)(e:atI ds i=some d):∃x,atI xs i=some x/\Rp K A H x d:=by
 unfold atI at e ⊢;rw[r.length];cases h:ixN ds.length i with
 |none=>rw[h]at e;cases e
 |some j=>
  rw[h]at e;obtain⟨x,e1,e2⟩:=r.getD (i:=j) (d:=d) e;exact⟨x,e1,e2⟩
def aOG:OpS K (rIx K) ixD:=by
 intro A x y d e H Q z rx ry ez q;unfold ixD at ez;split at ez
 .unfold atD at ez
  split at ez
  .rename_i w hw
   cases ez;obtain⟨_,_,rfl,h,r⟩:=rx.tup_inv;obtain rfl:=ry.int_inv;obtain⟨v,e1,e2⟩:=r.at hw;exact .inr (.inl ⟨_,_,_,v,rfl,rfl,h,e1,q v H (aW.refl H) (e2.wk λ _ _ _ z=>.inr z)⟩)
  .cases ez
 .unfold atD at ez
  split at ez
  .rename_i w hw
   cases ez;obtain⟨_,_,rfl,h,m,r⟩:=rx.lst_inv;obtain rfl:=ry.int_inv;obtain⟨v,e1,e2⟩:=r.at hw;exact .inl ⟨_,_,_,v,rfl,rfl,SqL.of h,e1,q v H (aW.refl H) (e2.wk λ _ _ _ z=>.inr z.1)⟩
  .cases ez
 .unfold atD at ez
  split at ez
  .rename_i w hw
   cases ez;obtain⟨_,rfl,h⟩:=rx.scr_inv;obtain rfl:=ry.int_inv;obtain⟨v,e1,e2⟩:=(Rps.ints (K:=K) (A:=A) (H:=H)).at hw;exact .inl ⟨_,_,_,v,rfl,rfl,h.sq,e1,q v H (aW.refl H) (e2.wk λ _ _ _ z=>.inr z)⟩
  .cases ez
 .cases ez
def ul:List D->Rs D
 |[.tup l]=>.ok (.int l.length)
 |[.lst l]=>.ok (.int l.length)
 |[.scr l]=>.ok (.int l.length)
 |_=>.st
def aNM:uO K (λ xs H Q=>∃p ys,xs=[.ref p]/\(SqL K H p ys\/SqT K H p ys)/\Q (.int ys.length) H) ul:=by
 intro A xs ds H Q z r ez q;unfold ul at ez;split at ez
 .cases ez
  obtain⟨_,rfl,h0⟩:=r.one_inv;obtain⟨_,_,rfl,h,r⟩:=h0.tup_inv;exact⟨_,_,rfl,.inr h,by rw[r.length];exact q _ H (aW.refl H) (.int _)⟩
 .cases ez
  obtain⟨_,rfl,h0⟩:=r.one_inv;obtain⟨_,_,rfl,h,m,r⟩:=h0.lst_inv;exact⟨_,_,rfl,.inl (SqL.of h),by rw[r.length];exact q _ H (aW.refl H) (.int _)⟩
 .cases ez
  obtain⟨_,rfl,h0⟩:=r.one_inv;obtain⟨_,rfl,h⟩:=h0.scr_inv;exact⟨_,_,rfl,.inl h.sq,by rw[zAF];exact q _ H (aW.refl H) (.int _)⟩
 .cases ez
def aKX:∀x z,ul x= .ok z->imm z=true:=by
 intro x z e;unfold ul at e;split at e<;>first|(cases e;rfl)|cases e
def tyD:D->String
 | .non=>"NoneType"| .bl _=>"bool"| .int _=>"int"| .str _=>"str"| .tup _=>"tuple"| .lst _=>"list"| .dct _ _=>"dict"| .set _=>"set"| .scr _=>"script"| .fn _=>"function"| .itm _ _=>"items"
def jm(T:String):D->Rs D:=λ d=>if o7 (tyD d) T true=true then .ok (.bl true)else if o7 (tyD d) T false=true then .ok (.bl false)else .st
def aLD(K:zAA)(T:String):List V->Hp->VK->Prop:=λ xs H Q=>∃x d A b,xs=[x,.ty T]/\Rp K A H x d/\o7 (tyD d) T b=true/\Q (.bl b) H
def aGO:gH X (.builtin "isinstance") (aLD X.K T):=by
 intro kK s Z H xs us Q I rv h;obtain⟨x,d,A,b,rfl,rd,ok,q⟩:=h;cases rd with
 |tup h r=>
  obtain⟨u,w',rfl,ru,rw'⟩:=vals2 rv;cases ru;cases rw';obtain⟨its,_,⟨o,h1,h2,_⟩,_⟩:=I.tuple h;exact zBC zG8 I.kIn ⟨o,h1,h2⟩ (aED ok) (λ z=>nomatch z) λ tk=>⟨.bl b,H,I.tok _,rfl,q⟩
 |set h m hS nd=>cases b<;>simp[o7,tyD]at ok
 |scr h=>cases b<;>simp[o7,tyD]at ok
 |fn h=>cases b<;>simp[o7,tyD]at ok
 |itm h=>cases b<;>simp[o7,tyD]at ok
 |non=>exact lu kK s Z H _ us Q I rv ⟨_,T,_,b,rfl,.non,ok,q⟩
 |bl c=>exact lu kK s Z H _ us Q I rv ⟨_,T,_,b,rfl,.bl c,ok,q⟩
 |int c=>exact lu kK s Z H _ us Q I rv ⟨_,T,_,b,rfl,.int c,ok,q⟩
 |str c=>exact lu kK s Z H _ us Q I rv ⟨_,T,_,b,rfl,.str c,ok,q⟩
 |lst h m r=>exact lu kK s Z H _ us Q I rv ⟨_,T,_,b,rfl,.lst h,ok,q⟩
 |dK h m r=>exact lu kK s Z H _ us Q I rv ⟨_,T,_,b,rfl,.dK h,ok,q⟩
 |dT h m r=>
  obtain⟨u,w',rfl,ru,rw'⟩:=vals2 rv;cases ru;cases rw';obtain⟨⟨_,_,_,o,_,_,_,h1,h2,_⟩,_⟩:=(show cO X.prog X.w H s.heap _ (dxO _ _)from I.hok _ _ h.at_);exact zBC zEj I.kIn ⟨o,h1,h2.1⟩ (aED ok) (λ z=>nomatch z) λ tk=>⟨.bl b,H,I.tok _,rfl,q⟩
end
section
variable{C:Ct}{pos p p2:Pos}{m:Mode}{a:Expr}{fa:En->Rs D}
def kh(ha:SE C m a fa)(hm:C.mg "isinstance"=none)(hmT:C.mg x=none)(hn:x≠"__name__":=by decide)(hd:Nd x:=by decide)(he:∀i,zAV [a,.Name x p2] (C.X i).env=(false,eval a (C.X i).env)::zAV [.Name x p2] (C.X i).env:=by intro _;rfl)(hpl:∀i,(zCB pos (zAV [.Name x p2] (C.X i).env)).any (·.1)=false:=by intro _;rfl)(hg:∀i,Gl (C.X i) "isinstance":=by intro _;rfl)(hv:zAw "isinstance"=some (.builtin "isinstance"):=by decide+kernel)(hgT:∀i,Gl (C.X i) x:=by intro _;rfl)(hvT:zAw x=some (.type T):=by decide+kernel):
  SE C (some []) (.Call (.Name "isinstance" p) [a,.Name x p2] [] pos) (op1 (jm T) fa):=by
 obtain⟨t,h1,h2⟩:=ha;refine⟨tCB (aLD C.K T) (lJ t (lJ (tC (.ty T)) z8)),λ i=>?_,λ U Z H Y lab Q R W=>?_⟩
 .rw[<-C.hK i]
  exact oU aGO (hg i) (by rw[(C.cx i).2.2.2.1];exact hm) hv (fD (h1 i) (fD (aJd (v:=.ty T) (hgT i) (by rw[(C.cx i).2.2.2.1];exact hmT) hvT rfl hn hd) lD) (he i)) (by decide) (by decide) (he i) (hpl i)
 .refine h2 U Z H Y lab _ R (W.bd.imp λ d _ w x H1 s1 r1=>?_)
  obtain⟨z,ez,w⟩:=w.okD;unfold jm at ez;split at ez
  .rename_i h;cases ez;exact⟨x,d,_,true,rfl,r1,h,w _ H1 s1 (.bl _)⟩
  .split at ez
   .rename_i h;cases ez;exact⟨x,d,_,false,rfl,r1,h,w _ H1 s1 (.bl _)⟩
   .cases ez
end
def aF5:Slot->Slot
 | .ow d=>.sh d
 | .nw d=>.sh d
 | .oz d=>.sh d
 | .o2 l=>.sh (.lst (l.map .lst))
 |s=>s
def shE(Y:En):En:=Y.map aF5
def stV(js:kX)(Z:L2.St):L2.St:=js.map λ o=>o.bind λ j=>(Z[j]?).join
def stE(js:kX)(Y:En):En:=js.map λ o=>match o with
 |none=>.no
 |some j=>(Y[j]?).getD .no
def aJO{K:zAA}(h:iK K H lab i v s):∃d,(s= .no\/aF5 s= .sh d)/\(s= .no\/Rp K (λ _=>True) H v d):=by
 cases s with
 |no=>exact⟨.non,.inl rfl,.inl rfl⟩
 |sh d=>exact⟨d,.inr rfl,.inr (Rp.wk (λ _ _ _ _=>trivial) h)⟩
 |nw d=>exact⟨d,.inr rfl,.inr (Rp.wk (λ _ _ _ _=>trivial) h)⟩
 |ow d=>exact⟨d,.inr rfl,.inr (Rp.wk (λ _ _ _ _=>trivial) h.1)⟩
 |oz d=>exact⟨d,.inr rfl,.inr (Rp.wk (λ _ _ _ _=>trivial) (aLJ h))⟩
 |o2 l=>exact⟨_,.inr rfl,.inr (Rp.wk (λ _ _ _ _=>trivial) (aH2 h))⟩
theorem RR.shE{K:zAA}(R:RR K G U Y Z H lab):RR K G U (shE Y) Z H (λ _=>(0,0)):=by
 refine⟨by unfold VL.shE;rw[zAF];exact R.len,λ i s e=>?_,R.old,λ p hp=>absurd rfl hp,λ q hq=>(R.tm q hq).wk λ _ _ _ _=>zAp _⟩;unfold VL.shE at e;rw[zA2]at e;cases e0:Y[i]? with
 |none=>rw[e0]at e;cases e
 |some s0=>
  rw[e0]at e;cases e;rcases R.sl i s0 e0 with rfl|⟨v,ev,hv⟩
  .exact .inl rfl
  .obtain⟨d,h1,h2⟩:=aJO hv
   rcases h1 with rfl|h1
   .exact .inl rfl
   .rcases h2 with rfl|h2
    .exact .inl rfl
    .exact .inr ⟨v,ev,by rw[h1];exact h2.wk λ _ _ _ _=>zAp _⟩
def aGb{i:Nat}(e:(stE js Y)[i]? =some s):s= .no\/∃j,js[i]? =some (some j)/\Y[j]? =some s:=by
 unfold stE at e;rw[zA2]at e;cases ej:js[i]? with
 |none=>rw[ej]at e;cases e
 |some o=>
  rw[ej]at e;cases o with
  |none=>cases e;exact .inl rfl
  |some j=>
   cases er:Y[j]? with
   |none=>simp[er]at e;exact .inl e.symm
   |some s'=>simp[er]at e;subst e;exact .inr ⟨j,rfl,er⟩
def RR.block{K:zAA}{U:List (V×D)}(R:RR K G U (VL.shE Y) Z H lab)(hz:∀p,(lab p).1<=1)(hl:H l=none):
  RR K G U (stE js (VL.shE Y)) (stV js Z) H (λ p=>if p=l then(2,0)else(0,0)):=by
 have nl:∀p o,H p=some o->p≠l:=λ p o e z=>by subst z;rw[hl]at e;cases e
 refine⟨by unfold stE stV;rw[zAF,zAF],λ i s e=>?_,R.old,λ p hp=>?_,λ q hq=>(R.tm q hq).wk λ p o e _=>by rw[if_neg (nl p o e)];exact zAp _⟩
 .rcases aGb e with rfl|⟨j,ej,es⟩
  .exact .inl rfl
  .rcases R.sl j s es with rfl|⟨v,ev,hv⟩
   .exact .inl rfl
   .refine .inr ⟨v,?_,?_⟩
    .unfold stV
     rw[zA2,ej];simp[ev]
    .unfold VL.shE at es
     rw[zA2]at es;cases e0:Y[j]? with
     |none=>rw[e0]at es;cases es
     |some s0=>
      rw[e0]at es;cases es;cases s0 with
      |no=>trivial
      |oz d=>exact Rp.wk (λ p o e _=>by show(if p=l then((2,0):Nat×Nat)else(0,0)).1<=1;rw[if_neg (nl p o e)];exact zAp _) hv
      |nw d=>exact Rp.wk (λ p o e _=>by show(if p=l then((2,0):Nat×Nat)else(0,0)).1<=1;rw[if_neg (nl p o e)];exact zAp _) hv
      |sh d=>exact Rp.wk (λ p o e _=>by show(if p=l then((2,0):Nat×Nat)else(0,0)).1<=1;rw[if_neg (nl p o e)];exact zAp _) hv
      |ow d=>exact Rp.wk (λ p o e _=>by show(if p=l then((2,0):Nat×Nat)else(0,0)).1<=1;rw[if_neg (nl p o e)];exact zAp _) hv
      |o2 d=>exact Rp.wk (λ p o e _=>by show(if p=l then((2,0):Nat×Nat)else(0,0)).1<=1;rw[if_neg (nl p o e)];exact zAp _) hv
 .by_cases hp':p=l
  .subst hp';exact R.old.free hl
  .exact absurd (show(if p=l then((2,0):Nat×Nat)else(0,0)).1=0 by rw[if_neg hp']) hp
def aOy(XN N:List Str)(js:kX)(ks:List Nat)(sc:Scope):Bool:=(zAf js.length).all λ i=>match js[i]? with
 |some (some j)=>match N[i]?,XN[j]? with
  |some x,some y=>x==y&&sc.names.lookup x==some .free&& !ks.contains i
  |_,_=>false
 |_=>true
def aEV(h1:sc.kind= .function)(h2:(sc.names.all λ y=>y.2 != .cell||sc.names.lookup y.1==some .cell)=true)(h3:(sc.names.all λ y=>y.2 != .local||sc.names.lookup y.1==some .local)=true)
  (h4:(sc.names.all λ y=>y.2 != .free||(X.env.kindOf y.1==some .cell||X.env.kindOf y.1==some .free))=true)(h5:js.length=N.length)(h6:aOy X.N N js ks sc=true):fY X sc N (stV js) ks:=by
 refine⟨h1,λ y hy e=>?_,λ y hy e=>?_,λ y hy e=>?_,λ Z=>by unfold stV;rw[zAF];exact h5,λ Z i x v e1 e2=>?_⟩
 .have:=zAu.mp h2 y hy
  rw[e]at this;simpa using this
 .have:=zAu.mp h3 y hy
  rw[e]at this;simpa using this
 .have:=zAu.mp h4 y hy
  rw[e]at this;simpa using this
 .unfold stV at e2
  rw[zA2]at e2;cases ej:js[i]? with
  |none=>rw[ej]at e2;cases e2
  |some o=>
   rw[ej]at e2;cases o with
   |none=>cases e2
   |some j=>
    have hi:i<js.length:=(zAO.mp ej).1
    have:=zAu.mp h6 i (zB9.mpr hi)
    rw[ej,e1]at this;dsimp only at this;cases ey:X.N[j]? with
    |none=>rw[ey]at this;cases this
    |some y=>
     rw[ey]at this;simp only[zAW,beq_iff_eq,zDr]at this;obtain⟨⟨h,h'⟩,h''⟩:=this;subst h;refine⟨h',λ hk=>?_,j,ey,?_⟩
     .rw[List.contains_iff_mem.mpr hk]at h'';cases h''
     .simp only[zCO,zHH,zFu]at e2
      cases es:Z[j]? with
      |none=>rw[es]at e2;cases e2
      |some w=>rw[es]at e2;simp at e2;subst e2;rfl
abbrev Ct.blk(C:Ct)(sc:Scope)(N:List Str):Ct where
 ι:=C.ι×Addr×List Addr×zAD×Hp
 X:=λ i=>(C.X i.1).block sc i.2.1 N i.2.2.1 i.2.2.2.1 i.2.2.2.2
 prog:=C.prog
 w:=C.w
 K:=C.K
 mg:=C.mg
 base:=C.base
 k:=C.k
 G:={C.G with E:=λ _ _ _=>False}
 cx:=λ i=>C.cx i.1
 calm:=λ i=>C.calm i.1
 room:=λ i=>C.room i.1
 own:=λ i=>PassesOwn.never
 pass:=λ i kK Z H s e s' I h=>by obtain⟨_,_,_,_,_,_,_,_,_,_,_,_,_,hE⟩:=h;exact hE
 dOk:=false
 dcx:=λ h=>absurd h zAX
def lcL(Y:En)(fg:D->En->Rs En)(ft:En->Rs Bool)(fe:En->Rs D):List D->Rs (List D)
 |[]=>.ok []
 |d::ds=>(fg d Y).bd λ Y1=>(ft Y1).bd λ k=>if k=true then(fe Y1).bd λ y=>(lcL Y fg ft fe ds).bd λ ys=>.ok (y::ys)else lcL Y fg ft fe ds
def lcD(fi:En->Rs (List D))(js:kX)(fg:D->En->Rs En)(ft:En->Rs Bool)(fe:En->Rs D):En->Rs D:=λ Y=>(fi (shE Y)).bd λ ds=>
 if ds.length<zAS then(match lcL (stE js (shE Y)) fg ft fe ds with
  | .ok l=>.ok (.lst l)
  |_=>.st)else .st
def aI9(C:Ct)(ifs:List Expr)(f:En->Rs Bool):Prop:=∃t,(∀i,aDJ (C.X i) ifs t)/\aAH C.K C.G t f
def dZ:En->Rs Bool:=λ _=>.ok true
def ie:aI9 C [] dZ:=⟨_,λ _=>aMI,λ U Z H Y lab Q R W=>W H (aW.refl H)⟩
def xU(h:ST C c f):aI9 C [c] f:=let⟨t,h1,h2⟩:=h;⟨t,λ i=>aMH (h1 i),h2⟩
def aCa(h:lcL Y fg ft fe (d::ds)= .ok l):
  ∃Y1 k,fg d Y= .ok Y1/\ft Y1= .ok k/\((k=true/\∃y ys,fe Y1= .ok y/\lcL Y fg ft fe ds= .ok ys/\l=y::ys)\/(k=false/\lcL Y fg ft fe ds= .ok l)):=by
 unfold lcL at h;obtain⟨Y1,e1,h⟩:=dN h;obtain⟨k,e2,h⟩:=dN h;refine⟨Y1,k,e1,e2,?_⟩;cases k with
 |true=>
  rw[if_pos rfl]at h;obtain⟨y,e3,h⟩:=dN h;obtain⟨ys,e4,h⟩:=dN h;cases h;exact .inl ⟨rfl,y,ys,e3,e4,rfl⟩
 |false=>
  rw[if_neg zAX]at h;exact .inr ⟨rfl,h⟩
def RR.but_blk{K:zAA}{U:List (V×D)}(R:RR K G U (stE js (VL.shE Y)) Z H (λ p=>if p=l then(2,0)else(0,0)))(B:nj l H H')(hl:H l=some o)(ho:jc o=true)(h0:G.H0 l=none):
  RR K G U (stE js (VL.shE Y)) Z H' (λ p=>if p=l then(2,0)else(0,0)):=by
 have cK:¬((λ p=>if p=l then((2,0):Nat×Nat)else(0,0)) l).1<=1:=by simp
 refine⟨R.len,λ j s e=>?_,λ b o hb=>?_,R.new,λ q hq=>(R.tm q hq).but B hl ho cK⟩
 .rcases R.sl j s e with z|⟨u,e1,e2⟩
  .exact .inl z
  .refine .inr ⟨u,e1,?_⟩
   rcases aGb e with rfl|⟨jx,ej,es⟩
   .trivial
   .unfold VL.shE at es
    rw[zA2]at es;cases e0:Y[jx]? with
    |none=>rw[e0]at es;cases es
    |some s0=>rw[e0]at es;cases es;cases s0<;>first|trivial|exact Rp.but B hl ho cK e2
 .exact B b o (λ z=>by subst z;rw[h0]at hb;cases hb) (R.old b o hb)
def RR.blk0{K:zAA}(R:RR K G U (VL.shE Y) Z H lab)(hG:G'.H0=G.H0):RR K G' U (VL.shE Y) Z H (λ _=>(0,0)):=by
 refine⟨R.len,λ i s e=>?_,by rw[hG];exact R.old,λ p hp=>absurd rfl hp,λ q hq=>(R.tm q hq).wk λ _ _ _ _=>zAp _⟩;rcases R.sl i s e with rfl|⟨v,ev,hv⟩
 .exact .inl rfl
 .unfold VL.shE at e
  rw[zA2]at e;cases e0:Y[i]? with
  |none=>rw[e0]at e;cases e
  |some s0=>rw[e0]at e;cases e;cases s0<;>first|exact .inl rfl|exact .inr ⟨v,ev,Rp.wk (λ _ _ _ _=>zAp _) hv⟩
section
variable{K:zAA}{G:Gx}{wi:TI}{fi:En->Rs (List D)}{js:kX}{g:TG}{fg:D->En->Rs En}{tt:TT}{ft:En->Rs Bool}{te:TE}{fe:En->Rs D}
def aGi(hi:aNV K G wi fi)(hg:aNW K {G with E:=λ _ _ _=>False} g fg)(ht:aAH K {G with E:=λ _ _ _=>False} tt ft)(he:gZ K {G with E:=λ _ _ _=>False} (some []) te fe):
  gZ K G (some []) (tLC wi (stV js) g tt te) (lcD fi js fg ft fe):=by
 intro U Z H Y lab Q R W;refine hi U Z H _ _ _ R.shE (W.bd.imp λ ds _ w J H1 lab1 U1 s1 _ R1 jl=>?_);intro l hl;obtain⟨oQ,out,aI,w⟩:ds.length<zAS/\∃out,lcL (stE js (VL.shE Y)) fg ft fe ds= .ok out/\QE K (some []) lab H Q (.lst out):=by
  by_cases oQ:ds.length<zAS
  .rw[if_pos oQ]at w
   cases aI:lcL (stE js (VL.shE Y)) fg ft fe ds with
   |ok out=>rw[aI]at w;exact⟨oQ,out,rfl,w⟩
   |ex c=>rw[aI]at w;exact zAN w
   |st=>rw[aI]at w;exact zAN w
  .rw[if_neg oQ]at w
   exact zAN w
 have R0:RR K {G with E:=λ _ _ _=>False} (U1++U) (VL.shE Y) Z H1 (λ _=>(0,0)):=R1.blk0 rfl;have RB:=R0.block (js:=js) (λ _=>zAp _) hl;have hHl:H l=none:=s1.free hl;have cK:¬((λ p=>if p=l then((2,0):Nat×Nat)else(0,0)) l).1<=1:=by simp
 refine⟨λ i n acc H2=>∃pre,n=ds.length-i/\i<=ds.length/\H2 l=some (.lst acc)/\RR K {G with E:=λ _ _ _=>False} (U1++U) (stE js (VL.shE Y)) (stV js Z) H2 (λ p=>if p=l then(2,0)else(0,0))/\aW H H2/\acc.length<=i/\
  Rps K (λ p=>H p=none/\p≠l) H2 acc pre/\∃post,lcL (stE js (VL.shE Y)) fg ft fe (ds.drop i)= .ok post/\out=pre++post,⟨ds.length,[],by lia,by lia,bG,RB.up (bJ hl _),s1.trans (bJ hl _),zAM _,.nil,out,aI,rfl⟩,?_⟩
 rintro i n acc H2 ⟨pre,rfl,hi,hH2,R2,s2,aE,rpre,post,hpost,eout⟩;refine⟨hH2,by lia,?_⟩;have jj:=jl _ H2 λ q hq=>R2.tm q (zAc _ hq)
 by_cases hlt:i<ds.length
 .obtain⟨go,yl⟩:=(jj i).2 hlt
  refine .inr ⟨go,λ x H3 hy=>?_⟩;obtain⟨s3,d,ed,rx⟩:=yl x H3 hy;replace R2:=R2.up s3;replace hH2:=s3 _ _ hH2;replace s2:=s2.trans s3;replace rpre:=rpre.up s3;have ed2:ds.drop i=d::ds.drop (i+1):=by
   rw[zDe hlt]
   have:=zAJ hlt
   rw[ed]at this;cases this;rfl
  rw[ed2]at hpost;obtain⟨Y1,k,e1,e2,e3⟩:=aCa hpost;refine hg (U1++U) x d _ H3 _ _ _ Y1 R2 rx e1 λ Z4 R4=>?_
  refine ht (U1++U) Z4 H3 Y1 _ _ R4 ?_;rw[e2];intro H5 s5;rcases e3 with ⟨rfl,y,ys,e3,e4,rfl⟩|⟨rfl,e4⟩
  .rw[if_pos rfl]
   refine he (U1++U) Z4 H5 Y1 _ _ (R4.up s5) ?_;rw[e3];intro v H6 s6 r6;have hl6:H6 l=some (.lst acc):=s6 _ _ (s5 _ _ hH2);have B:nj l H6 (upd H6 l (.lst (acc++[v]))):=λ b o ne hb=>by rw[bA ne];exact hb
   refine⟨hl6,ds.length-(i+1),by lia,pre++[y],rfl,hlt,bG,?_,?_,by rw[zAj];simp;lia,?_,ys,e4,by rw[eout];simp⟩
   .exact(R2.up (s5.trans s6)).but_blk B hl6 rfl (R1.old.free hl)
   .exact λ b o hb=>B b o (λ z=>by subst z;rw[hHl]at hb;cases hb) (((s2.trans s5).trans s6) b o hb)
   .refine((rpre.up (s5.trans s6)).append (.cons (r6.wk λ p o _ z=>?_) .nil)).but B hl6 rfl λ z=>z.2 rfl
    rcases z with z|z
    .exact⟨(s2.trans s5).free z,λ e=>by subst e;rw[s5 _ _ hH2]at z;cases z⟩
    .cases z
  .rw[if_neg zAX]
   exact⟨ds.length-(i+1),by lia,pre,rfl,hlt,s5 _ _ hH2,R2.up s5,s2.trans s5,by lia,rpre.up s5,post,e4,eout⟩
 .have ei:i=ds.length:=by lia
  subst ei;rw[zFK]at hpost;cases hpost;rw[zBX]at eout;subst eout;exact .inl ⟨(jj _).1 (zAM _),w _ H2 s2 (.lst hH2 (.inl hHl) (rpre.wk λ p o _ z=>⟨.inl z.1,z.2⟩))⟩
end
section
variable{C:Ct}{pos:Pos}{elt tg iter:Expr}{ifs:List Expr}{sc:Scope}{N:List Str}{js:kX}{ks:List Nat}{fi:En->Rs (List D)}{fg:D->En->Rs En}{ft:En->Rs Bool}{fe:En->Rs D}
def bQ{C:Ct}(nd:N.Nodup:=by decide+kernel)(hk:i∈ks:=by decide)(hN:∀j,((C.blk sc N).X j).N[i]? =some x:=by intro _;rfl)(hx:∀j,Loc ((C.blk sc N).X j).env.scope x:=by intro _;first|exact zD7 rfl|exact zC8 rfl)
  (hf:∀j,((C.blk sc N).X j).fn x=true\/((C.blk sc N).X j).env.scope.names.lookup x=some .local:=by intro _;first|exact .inl rfl|exact .inr rfl):SG (C.blk sc N) (.Name x pos) ks (gnm i):=
 eN hN hx hf (λ _=>nd) hk
def lM(hi:SI C tg iter fi)(hg:SG (C.blk sc N) tg ks fg)(ht:aI9 (C.blk sc N) ifs ft)(he:SE (C.blk sc N) (some []) elt fe)(hs:∀i x,zBl iter (C.X i).env x=pure x:=by intro _ _;rfl)(hB:∀i,fY (C.X i) sc N (stV js) ks:=by intro _;exact aEV rfl rfl rfl rfl rfl rfl):SE C (some []) (.ListComp elt [⟨tg,iter,ifs,0⟩] sc pos) (lcD fi js fg ft fe):=by
 obtain⟨wi,i1,i2⟩:=hi;obtain⟨g,g1,g2,g3,g4⟩:=hg;obtain⟨tt,t1,t2⟩:=ht;obtain⟨te,e1,e2⟩:=he;exact⟨_,λ i=>aOB (hB i) (C.calm i) (i1 i) (λ c fp zI zD=>g1 (i,c,fp,zI,zD)) g3 (λ c fp zI zD=>t1 (i,c,fp,zI,zD)) (λ c fp zI zD=>e1 (i,c,fp,zI,zD)) (hs i),aGi i2 g2 t2 e2⟩
def aG8(hi:SI C tg iter fi)(hg:SG (C.blk sc N) tg ks fg)(ht:aI9 (C.blk sc N) ifs ft)(he:SE (C.blk sc N) (some []) elt fe)(hN:∀j,(C.X j).N[i]? =some x:=by intro _;rfl)(hx:∀j,Loc (C.X j).env.scope x:=by intro _;first|exact zD7 rfl|exact zC8 rfl)(hsw:∀j,zDp (.ListComp elt [⟨tg,iter,ifs,0⟩] sc pos) (some (.Name x pos')) spos.line (C.X j).env=pure true:=by intro _;rfl)(hs:∀i x,zBl iter (C.X i).env x=pure x:=by intro _ _;rfl)(hf:∀j,(C.X j).fn x=true\/(C.X j).env.scope.names.lookup x=some .local:=by intro _;first|exact .inl rfl|exact .inr rfl)(nd:∀j,(C.X j).N.Nodup:=by intro _;assumption)(hB:∀i,fY (C.X i) sc N (stV js) ks:=by intro _;exact aEV rfl rfl rfl rfl rfl rfl):
  SV C i (.Assign [.Name x pos'] (.ListComp elt [⟨tg,iter,ifs,0⟩] sc pos) spos) (some []) (lcD fi js fg ft fe):=by
 obtain⟨wi,i1,i2⟩:=hi;obtain⟨g,g1,g2,g3,g4⟩:=hg;obtain⟨tt,t1,t2⟩:=ht;obtain⟨te,e1,e2⟩:=he;exact⟨_,λ j=>aHJ (nd j) (hN j) (hx j) (hB j) (C.calm j) (i1 j) (λ c fp zI zD=>g1 (j,c,fp,zI,zD)) g3 (λ c fp zI zD=>t1 (j,c,fp,zI,zD)) (λ c fp zI zD=>e1 (j,c,fp,zI,zD)) (hsw j) (hs j) (hf j),aGi i2 g2 t2 e2⟩
end
def RR.mut{K:zAA}(R:RR K G U Y Z H lab)(ev:Z[i]? =some (some v))(hl:H l=some o)(ho:jc o=true)(hlab:(lab l).1=i+2)
  (B:nj l H H')(h':iK K H' lab i v s'):RR K G U (Y.set i s') Z H' lab:=by
 refine⟨by rw[zCj];exact R.len,λ j x e=>?_,λ b u hb=>B b u (λ z=>?_) (R.old b u hb),R.new,λ q hq=>(R.tm q hq).but B hl ho λ z=>by lia⟩
 .by_cases hj:i=j
  .subst hj
   have hi:i<Y.length:=by
    have:=(zAO.mp e).1
    rwa [zCj]at this
   rw[zCG hi]at e;cases e;exact .inr ⟨v,ev,h'⟩
  .rw[zBx hj]at e
   rcases R.sl j x e with z|⟨u,e1,e2⟩
   .exact .inl z
   .refine .inr ⟨u,e1,?_⟩
    cases x with
    |no=>trivial
    |sh d=>exact Rp.but B hl ho (λ z=>by lia) e2
    |nw d=>exact Rp.but B hl ho (λ z=>by lia) e2
    |ow d=>exact⟨Rp.but B hl ho (λ z=>by lia) e2.1,e2.2⟩
    |oz d=>
     obtain⟨a,xs,ds,q1,q2,q3,q4,q5⟩:=e2;exact⟨a,xs,ds,q1,q2,B a _ (λ z=>by subst z;exact hj (by lia)) q3,q4,Rps.but B hl ho (λ z=>by lia) q5⟩
    |o2 ll=>
     obtain⟨a,xs,q1,q2,q3,q4,q5⟩:=e2;refine⟨a,xs,q1,B a _ (λ z=>?_) q2,q3,q4,λ jj y ds f1 f2=>(q5 jj y ds f1 f2).but B hl ho λ z=>?_⟩
     .rw[z]at q3;rw[q3]at hlab;exact hj (by simpa using hlab.symm)
     .rw[z]at hlab;exact hj (by simpa using hlab.symm)
 .subst z
  have:=R.new b (by rw[hlab];lia)
  rw[this]at hb;cases hb
section
variable{C:Ct}{pos apos cpos p:Pos}{e:Expr}{fe:En->Rs D}{i:Nat}{x:Str}{m:Mode}
def jo(i:Nat)(fe:En->Rs D):En->Ou:=λ Y=>match Y[i]? with
 |some (.ow (.lst ds))=>(fe Y).bo λ d=>if ds.length<zAS then .nx (Y.set i (.ow (.lst (ds++[d]))))else .st
 |_=>.st
def fC(i:Nat)(he:SE C m e fe)(hm:okN m=true:=by rfl)(hN:∀j,(C.X j).N[i]? =some x:=by intro _;rfl)(hv:∀j,Vis (C.X j).env.scope x:=by intro _;first|exact zD7 rfl|exact zC8 (zD7 rfl)|exact zC8 (zC8 rfl))(hd:Nd x:=by decide)
  (hcd:(x==("__classdict__":Str))=false:=by decide)(hs1:∀j,zAV [e] (C.X j).env=[(false,eval e (C.X j).env)]:=by intro _;rfl)
  (hbase:∀j,zCM (.Name x p) "append" (C.X j).env (eval (.Name x p) (C.X j).env)=eval (.Name x p) (C.X j).env:=by intro _;rfl)
  (hfew:∀j,((zCB cpos (zAV [e] (C.X j).env)).all (λ x=>!x.1)&&(zE2 cpos (zCo [] (C.X j).env)).all (λ x=>x.1.isSome)&&decide ([e].length+([]:List zCA).length+(if ([]:List zCA).isEmpty then 0 else 1)<30))=true:=by intro _;rfl)
  (hline:(apos.endLine==cpos.line)=true:=by rfl)
  (hsw:∀j,zDp (.Call (.Attribute (.Name x p) "append" apos) [e] [] cpos) none pos.line (C.X j).env=pure false:=by intro _;rfl):
  SS C (.Expr (.Call (.Attribute (.Name x p) "append" apos) [e] [] cpos) pos) (jo i fe):=by
 obtain⟨t,h1,h2⟩:=he;refine⟨aG5 (tBM C.K "list" aCM (aBn i) (lJ t z8)),λ j=>aBJ (by rw[<-C.hK j];exact aEv zFa zG4 PySem.F.type_list_append aDq (rG (hN j) (hv j) hd hcd) (fD (h1 j) lD (hs1 j)) (hbase j) (hfew j) hline (hs1 j) rfl) (hsw j),λ U Z H Y lab De R W=>?_⟩;unfold jo at W;cases es:Y[i]? with
 |none=>rw[es]at W;exact zAN W
 |some s=>
  rw[es]at W;split at W
  .rename_i ds hs
   cases hs;rcases R.sl i _ es with z|⟨v,ev,hv'⟩
   .cases z
   .obtain⟨hv1,htop⟩:=hv'
    obtain⟨a0,ea0,la0⟩:=htop rfl;subst ea0;cases hv1 with
    |lst h mm r=>
     rename_i xs;refine⟨.ref a0,ev,.inl ⟨rfl,xs,SqL.of h⟩,h2 U Z H Y lab _ R (W.bo.imp λ d _ w y H2 s2 r2=>?_)⟩;by_cases hz:ds.length<zAS
     .rw[if_pos hz]at w
      refine⟨a0,xs,y,rfl,rfl,s2 _ _ h,by rw[r.length];exact hz,λ H3 B h3=>?_⟩;obtain⟨R',r'⟩:=R.fresh (P:=λ k=>k=1) rfl (λ k hk=>beq_iff_eq.mp (tD hm k hk)) s2 r2;have la:(eQ H 1 lab a0).1=i+2:=by rw[cC h];exact la0
      refine w Z H3 _ (R'.mut ev (s2 _ _ h) rfl la B ⟨.lst h3 (.inr la) ?_,λ _=>⟨a0,rfl,la⟩⟩);have ra:Rps C.K (λ p=>((eQ H 1 lab p).1=1\/(eQ H 1 lab p).1=i+2)/\p≠a0) H2 (xs++[y]) (ds++[d]):=by
       refine(r.mono s2 λ p o e z=>⟨by rw[cC e];exact z.1,z.2⟩).append (.cons (r'.wk λ p o e z=>⟨.inl z,λ q=>?_⟩) .nil);subst q;rw[la]at z;lia
      exact ra.but B (s2 _ _ h) rfl λ z=>z.2 rfl
     .rw[if_neg hz]at w
      exact zAN w
  .exact zAN W
end
mutual
def eqD:D->D->Bool
 | .non,.non=>true
 | .bl a,.bl b=>a==b
 | .bl a,.int b=>(if a then 1 else 0)==b
 | .int a,.bl b=>a==(if b then 1 else 0)
 | .int a,.int b=>a==b
 | .str a,.str b=>a==b
 | .tup l,.tup m=>tY l m
 | .lst l,.lst m=>tY l m
 |_,_=>false
def tY:List D->List D->Bool
 |[],[]=>true
 |x::xs,y::ys=>eqD x y&&tY xs ys
 |_,_=>false
end
mutual
def gr:D->Nat
 | .tup l=>cN l+1
 | .lst l=>cN l+1
 |_=>0
def cN:List D->Nat
 |[]=>0
 |d::r=>max (gr d) (cN r)
end
mutual
def ak:D->Bool
 | .tup l=>aq l
 | .lst l=>aq l
 | .dct _ _=>false
 | .set _=>false
 | .scr _=>false
 | .fn _=>false
 | .itm _ _=>false
 |_=>true
def aq:List D->Bool
 |[]=>true
 |d::r=>ak d&&aq r
end
mutual
theorem tZ:∀d:D,ak d=true->eqD d d=true
 | .non,_=>by simp[eqD]
 | .bl b,_=>by simp[eqD]
 | .int i,_=>by simp[eqD]
 | .str x,_=>by simp[eqD]
 | .tup l,h=>by exact uv l (by simpa[ak]using h)
 | .lst l,h=>by exact uv l (by simpa[ak]using h)
 | .dct _ _,h=>by simp[ak]at h
 | .set _,h=>by simp[ak]at h
 | .scr _,h=>by simp[ak]at h
theorem uv:∀l:List D,aq l=true->tY l l=true
 |[],_=>by simp[tY]
 |d::r,h=>by
  simp only[aq,zAW]at h;simp only[tY,zAW];exact⟨tZ d h.1,uv r h.2⟩
end
structure lz(K:zAA)(H:Hp)(s:zAD):Prop where
 tup:∀{a:Addr} {xs:List V},SqT K H a xs->∃its:List Value,Vals xs its/\s.heap.IsTuple a its.toArray
 lst:∀{a:Addr} {xs:List V},H a=some (.lst xs)->∃its:List Value,Vals xs its/\s.heap.IsList a its.toArray
 inj:∀{a:Addr} {xs ys:List V},SqT K H a xs->SqT K H a ys->xs=ys
 ne:∀{a:Addr} {xs ys:List V},SqT K H a xs->H a=some (.lst ys)->False
def Inv.seqOk(I:L2.Inv X kK Z H s):lz X.K H s where
 tup:=λ h=>let⟨its,r,p,_⟩:=I.tuple h;⟨its,r,p⟩
 lst:=λ h=>let⟨its,r,p,_⟩:=I.list (SqL.of h);⟨its,r,p.isList⟩
 inj:=λ h h'=>I.tuple_inj h h'
 ne:=λ h h'=>by
  obtain⟨its,_,⟨o,e,c,_⟩,_⟩:=I.tuple h;obtain⟨its2,_,⟨o2,n2,e2,c2,_⟩,_⟩:=I.list (SqL.of h');rw[e]at e2;cases e2;rw[c]at c2;injection c2 with c3
  exact absurd c3 (by decide)
section
variable{K:zAA}{H:Hp}{s:zAD}
def ndP:D->Prop
 | .dct _ _=>False
 | .set _=>False
 | .scr _=>False
 | .fn _=>False
 | .itm _ _=>False
 |_=>True
def ndx{d:D}(h:ak d=true):ndP d:=by cases d<;>first|exact zCa|(simp[ak]at h)
def bI(h:ak (.dct a b)=true):False:=by simp[ak]at h
def fH(h:ak (.set a)=true):False:=by simp[ak]at h
def fJ(h:ak (.scr a)=true):False:=by simp[ak]at h
def gP(h:ak (.fn a)=true):False:=by simp[ak]at h
def fK(h:ak (.itm o a)=true):False:=by simp[ak]at h
def jH(h:ak (.tup a)=true):aq a=true:=by simpa[ak]using h
def jJ(h:ak (.lst a)=true):aq a=true:=by simpa[ak]using h
def jz(h:aq (d::a)=true):ak d=true/\aq a=true:=by
 simp only[aq,zAW]at h;exact h
def aKu(K:zAA)(s:zAD)(H:Hp)(x:V)(d:D):Prop:=lz K H s->∀(A':Addr->Prop) (e:D),Rp K A' H x e->ak d=true->ak e=true->d=e
def aDK(K:zAA)(s:zAD)(H:Hp)(xs:List V)(ds:List D):Prop:=lz K H s->∀(A':Addr->Prop) (es:List D),Rps K A' H xs es->aq ds=true->aq es=true->ds=es
def aKP(ha:SqT K H a xs)(ih:aDK K s H xs ds):aKu K s H (.ref a) (.tup ds):=λ ok A' e h n1 n2=>by
 cases h with
 |tup hb r'=>
  have e:=ok.inj ha hb;subst e;rw[ih ok _ _ r' (jH n1) (jH n2)]
 |lst hb _ _=>exact(ok.ne ha hb).elim
 |_=>exact zAN (ndx n2)
def aKQ(ha:H a=some (.lst xs))(ih:aDK K s H xs ds):aKu K s H (.ref a) (.lst ds):=λ ok A' e h n1 n2=>by
 cases h with
 |tup hb r'=>exact(ok.ne hb ha).elim
 |lst hb _ r'=>
  rw[ha]at hb;cases hb;rw[ih ok _ _ r' (jJ n1) (jJ n2)]
 |_=>exact zAN (ndx n2)
def aHq(h1:aKu K s H x d)(h2:aDK K s H xs ds):aDK K s H (x::xs) (d::ds):=λ ok A' es h n1 n2=>by
 cases h with
 |cons k r'=>rw[h1 ok _ _ k (jz n1).1 (jz n2).1,h2 ok _ _ r' (jz n1).2 (jz n2).2]
def Rp.inj(ok:lz K H s)(r:Rp K A H x d)(h:Rp K A' H x e)(n1:ak d=true)(n2:ak e=true):d=e:=
 Rp.rec (motive_1:=λ _ H x d _=>aKu K s H x d) (motive_2:=λ _ H xs ds _=>aDK K s H xs ds)
  (λ _ _ _ h _ _=>by cases h;rfl) (λ _ _ _ _ h _ _=>by cases h;rfl) (λ _ _ _ _ h _ _=>by cases h;rfl) (λ _ _ _ _ h _ _=>by cases h;rfl) (λ ha _ ih=>aKP ha ih) (λ ha _ _ ih=>aKQ ha ih)
  (λ _ _ _ _ _ _ _ _ n1 _=>(bI n1).elim) (λ _ _ _ _ _ _ _ _ n1 _=>(bI n1).elim) (λ _ _ _ _ _ _ _ _ n1 _=>(fH n1).elim) (λ _ _ _ _ _ n1 _=>(fJ n1).elim) (λ _ _ _ _ _ n1 _=>(gP n1).elim) (λ _ _ _ _ _ n1 _=>(fK n1).elim)
  (λ _ _ _ h _ _=>by cases h;rfl) (λ _ _ h1 h2=>aHq h1 h2) r ok A' e h n1 n2
end
theorem aCo:∀(l m:List D),tY l m=((zAf (min l.length m.length)).all (λ j=>match l[j]?,m[j]? with|some a,some b=>eqD a b|_,_=>true)&&l.length==m.length)
 |[],[]=>by simp[tY]
 |[],y::ys=>by simp[tY]
 |x::xs,[]=>by simp[tY]
 |x::xs,y::ys=>by
  have ih:=aCo xs ys;simp only[tY,ih,zA3,Nat.succ_min_succ,List.range_succ_eq_map,zGJ,zIb,zDy,zG5,zCi,Nat.succ_eq_add_one,Nat.add_one_inj,zFj];congr 1;congr 1;simp
theorem aAl:∀{l:List D} {d:D},d∈l->gr d<=cN l
 |x::r,d,h=>by
  simp only[cN];rcases zAQ.mp h with rfl|h
  .exact zIJ _ _
  .exact zA6 (aAl h) (zIF _ _)
theorem rN:∀{l:List D} {d:D},d∈l->aq l=true->ak d=true
 |x::r,d,h,n=>by
  simp only[aq,zAW]at n;rcases zAQ.mp h with rfl|h
  .exact n.1
  .exact rN h n.2
def jf(hn:n=ds.length)(hm:m=es.length):((zAf (min n m)).all (λ j=>match ds[j]?,es[j]? with|some a,some b=>eqD a b|_,_=>true)&&n==m)=tY ds es:=by
 subst hn hm;exact(aCo ds es).symm
section
variable{K:zAA}{H:Hp}{s:zAD}
def aIf(K:zAA)(H:Hp)(s:zAD)(n:Nat):Prop:=∀(A1 A2:Addr->Prop) (x y:V) (d e:D) (A:zAa) (u v:Value),Rp K A1 H x d->Rp K A2 H y e->RelV x u->RelV y v->gr d<=n->ak d=true->ak e=true->A.units+n<cLine->zC9 A s u v (eqD d e)
def aIg(K:zAA)(H:Hp)(s:zAD)(n:Nat):Prop:=∀(A1 A2:Addr->Prop) (xs ys:List V) (ds es:List D) (A:zAa) (us vs:List Value),Rps K A1 H xs ds->Rps K A2 H ys es->Vals xs us->Vals ys vs->cN ds<=n->aq ds=true->aq es=true->A.units+n<cLine->
  ∀(j:Nat) (h1:j<us.toArray.size) (h2:j<vs.toArray.size),zC9 A s us.toArray[j] vs.toArray[j] (match ds[j]?,es[j]? with|some a,some b=>eqD a b|_,_=>true)
def zL(ok:lz K H s)(n:Nat)(IH:∀k,n=k+1->aIg K H s k):aIf K H s n:=by
 intro A1 A2 x y d e A u v r1 r2 ru rv hd nd ne hu;have hu0:A.units<cLine:=by lia
 cases r1 with
 |tup h1 q1=>
  rename_i a xs ds;cases ru;obtain⟨its,w1,t1⟩:=ok.tup h1;cases r2 with
  |tup h2 q2=>
   rename_i b ys es;cases rv;obtain⟨its2,w2,t2⟩:=ok.tup h2;by_cases hab:a=b
   .subst hab
    have e:=Rp.inj ok (Rp.tup h1 q1) (Rp.tup h2 q2) nd ne;rw[<-e,tZ _ nd];exact zEr _
   .simp only[gr]at hd
    obtain⟨k,rfl⟩:∃k,n=k+1:=⟨n-1,by lia⟩
    have z:=zGN t1 t2 hu0 (IH k rfl _ _ _ _ _ _ _ _ _ q1 q2 w1 w2 (by lia) (jH nd) (jH ne) (by show A.units+1+k<cLine;lia));rw[jf (by rw[zAP,<-w1.length,q1.length]) (by rw[zAP,<-w2.length,q2.length])]at z;simp only[eqD];exact zE0 hab z
  |lst h2 mm2 q2=>
   cases rv;obtain⟨its2,w2,t2⟩:=ok.lst h2;simp only[eqD];exact SeqAt.EqAt.tuple_list t1 t2 hu0
  |non=>cases rv;exact SeqAt.EqAt.tuple_none t1 hu0
  |bl b=>cases rv;exact SeqAt.EqAt.tuple_bool b t1 hu0
  |int i=>obtain⟨tk,rfl⟩:=rv;exact SeqAt.EqAt.tuple_int i tk t1 hu0
  |str i=>obtain⟨tk,rfl⟩:=rv;exact SeqAt.EqAt.tuple_str i tk t1 hu0
  |_=>exact zAN (ndx ne)
 |lst h1 mm1 q1=>
  rename_i a xs ds;cases ru;obtain⟨its,w1,t1⟩:=ok.lst h1;cases r2 with
  |lst h2 mm2 q2=>
   rename_i b ys es;cases rv;obtain⟨its2,w2,t2⟩:=ok.lst h2;by_cases hab:a=b
   .subst hab
    have e:=Rp.inj ok (Rp.lst h1 mm1 q1) (Rp.lst h2 mm2 q2) nd ne;rw[<-e,tZ _ nd];exact zEr _
   .simp only[gr]at hd
    obtain⟨k,rfl⟩:∃k,n=k+1:=⟨n-1,by lia⟩
    have l1:its.toArray.size=ds.length:=by rw[zAP,<-w1.length,q1.length]
    have l2:its2.toArray.size=es.length:=by rw[zAP,<-w2.length,q2.length]
    by_cases hl:its.toArray.size=its2.toArray.size
    .have z:=zGS t1 t2 hl hu0 (IH k rfl _ _ _ _ _ _ _ _ _ q1 q2 w1 w2 (by lia) (jJ nd) (jJ ne) (by show A.units+1+k<cLine;lia))
     have z':=jf (ds:=ds) (es:=es) l1 l2;rw[<-hl,zFO,beq_self_eq_true,zCd]at z';rw[z']at z;simp only[eqD];exact zE0 hab z
    .have z:=zFG t1 t2 (by simpa using hl) hu0
     have z':=jf (ds:=ds) (es:=es) l1 l2;rw[beq_eq_false_iff_ne.mpr hl,zFk]at z';simp only[eqD];rw[<-z'];exact zE0 hab z
  |tup h2 q2=>
   cases rv;obtain⟨its2,w2,t2⟩:=ok.tup h2;simp only[eqD];exact SeqAt.EqAt.list_tuple t1 t2 hu0
  |non=>cases rv;exact SeqAt.EqAt.list_none t1 hu0
  |bl b=>cases rv;exact SeqAt.EqAt.list_bool b t1 hu0
  |int i=>obtain⟨tk,rfl⟩:=rv;exact SeqAt.EqAt.list_int i tk t1 hu0
  |str i=>obtain⟨tk,rfl⟩:=rv;exact SeqAt.EqAt.list_str i tk t1 hu0
  |_=>exact zAN (ndx ne)
 |non=>
  cases ru;cases r2 with
  |tup h2 q2=>cases rv;obtain⟨_,_,t2⟩:=ok.tup h2;exact SeqAt.EqAt.none_tuple t2 hu0
  |lst h2 mm2 q2=>cases rv;obtain⟨_,_,t2⟩:=ok.lst h2;exact SeqAt.EqAt.none_list t2 hu0
  |dK _ _ _=>exact(bI ne).elim
  |dT _ _ _=>exact(bI ne).elim
  |set _ _ _ _=>exact(fH ne).elim
  |scr _=>exact(fJ ne).elim
  |fn _=>exact(gP ne).elim
  |itm _=>exact(fK ne).elim
  |non=>cases rv;exact zEr _
  |bl b=>cases rv;exact SeqAt.EqAt.none_bool b
  |int i=>obtain⟨tk,rfl⟩:=rv;exact SeqAt.EqAt.none_int i tk
  |str i=>obtain⟨tk,rfl⟩:=rv;exact SeqAt.EqAt.none_str i tk
 |bl a=>
  cases ru;cases r2 with
  |tup h2 q2=>cases rv;obtain⟨_,_,t2⟩:=ok.tup h2;exact SeqAt.EqAt.bool_tuple a t2 hu0
  |lst h2 mm2 q2=>cases rv;obtain⟨_,_,t2⟩:=ok.lst h2;exact SeqAt.EqAt.bool_list a t2 hu0
  |dK _ _ _=>exact(bI ne).elim
  |dT _ _ _=>exact(bI ne).elim
  |set _ _ _ _=>exact(fH ne).elim
  |scr _=>exact(fJ ne).elim
  |fn _=>exact(gP ne).elim
  |itm _=>exact(fK ne).elim
  |non=>cases rv;exact SeqAt.EqAt.bool_none a
  |bl b=>cases rv;exact SeqAt.EqAt.bool_bool a b
  |int i=>obtain⟨tk,rfl⟩:=rv;exact SeqAt.EqAt.bool_int a i tk
  |str i=>obtain⟨tk,rfl⟩:=rv;exact SeqAt.EqAt.bool_str a i tk
 |int a=>
  obtain⟨tu,rfl⟩:=ru;cases r2 with
  |tup h2 q2=>cases rv;obtain⟨_,_,t2⟩:=ok.tup h2;exact SeqAt.EqAt.int_tuple a tu t2 hu0
  |lst h2 mm2 q2=>cases rv;obtain⟨_,_,t2⟩:=ok.lst h2;exact SeqAt.EqAt.int_list a tu t2 hu0
  |dK _ _ _=>exact(bI ne).elim
  |dT _ _ _=>exact(bI ne).elim
  |set _ _ _ _=>exact(fH ne).elim
  |scr _=>exact(fJ ne).elim
  |fn _=>exact(gP ne).elim
  |itm _=>exact(fK ne).elim
  |non=>cases rv;exact SeqAt.EqAt.int_none a tu
  |bl b=>cases rv;exact SeqAt.EqAt.int_bool a tu b
  |int i=>obtain⟨tk,rfl⟩:=rv;exact zFz a tu i tk
  |str i=>obtain⟨tk,rfl⟩:=rv;exact zGA a tu i tk
 |str a=>
  obtain⟨tu,rfl⟩:=ru;cases r2 with
  |tup h2 q2=>cases rv;obtain⟨_,_,t2⟩:=ok.tup h2;exact SeqAt.EqAt.str_tuple a tu t2 hu0
  |lst h2 mm2 q2=>cases rv;obtain⟨_,_,t2⟩:=ok.lst h2;exact SeqAt.EqAt.str_list a tu t2 hu0
  |dK _ _ _=>exact(bI ne).elim
  |dT _ _ _=>exact(bI ne).elim
  |set _ _ _ _=>exact(fH ne).elim
  |scr _=>exact(fJ ne).elim
  |fn _=>exact(gP ne).elim
  |itm _=>exact(fK ne).elim
  |non=>cases rv;exact SeqAt.EqAt.str_none a tu
  |bl b=>cases rv;exact SeqAt.EqAt.str_bool a tu b
  |int i=>obtain⟨tk,rfl⟩:=rv;exact zGB a tu i tk
  |str i=>obtain⟨tk,rfl⟩:=rv;exact SeqAt.EqAt.str_str a tu i tk
 |_=>exact zAN (ndx nd)
def aAg(ok:lz K H s)(n:Nat)(IH:aIf K H s n):aIg K H s n:=by
 intro A1 A2 xs ys ds es A us vs q1 q2 w1 w2 hd nd ne hu j h1 h2;have hj1:j<us.length:=by simpa using h1
 have hj2:j<vs.length:=by simpa using h2
 have hx:j<xs.length:=by rw[w1.length];exact hj1
 have hy:j<ys.length:=by rw[w2.length];exact hj2
 have ex:=zAJ hx;have ey:=zAJ hy;obtain⟨d,ed,rd⟩:=q1.get ex;obtain⟨e,ee,re⟩:=q2.get ey;obtain⟨u,eu,ru⟩:=w1.get ex;obtain⟨v,ev,rv⟩:=w2.get ey;have e1:us.toArray[j]=u:=by
  rw[zGf];exact zAq ((zAJ hj1).symm.trans eu)
 have e2:vs.toArray[j]=v:=by
  rw[zGf];exact zAq ((zAJ hj2).symm.trans ev)
 rw[e1,e2,ed,ee];exact IH _ _ _ _ _ _ _ _ _ rd re ru rv (zA6 (aAl (zBL ed)) hd) (rN (zBL ed) nd) (rN (zBL ee) ne) hu
theorem aIN(ok:lz K H s):∀n,aIf K H s n
 |0=>zL ok 0 λ k h=>absurd h (by simp)
 |n+1=>zL ok (n+1) λ k h=>by
  have h':=zHp h;subst h';exact aAg ok n (aIN ok n)
def aNG(ok:lz K H s):∀{A1 A2:Addr->Prop} {x y:V} {d e:D} (n:Nat) {A:zAa} {u v:Value},Rp K A1 H x d->Rp K A2 H y e->RelV x u->RelV y v->gr d<=n->ak d=true->ak e=true->A.units+n<cLine->zC9 A s u v (eqD d e)
 |_,_,_,_,_,_,n,A,u,v,r1,r2,ru,rv,hd,nd,ne,hu=>aIN ok n _ _ _ _ _ _ _ _ _ r1 r2 ru rv hd nd ne hu
def aLU(ok:lz K H s):∀{A1 A2:Addr->Prop} {xs ys:List V} {ds es:List D} (n:Nat) {A:zAa} {us vs:List Value},Rps K A1 H xs ds->Rps K A2 H ys es->Vals xs us->Vals ys vs->cN ds<=n->aq ds=true->aq es=true->A.units+n<cLine->
  ∀(j:Nat) (h1:j<us.toArray.size) (h2:j<vs.toArray.size),zC9 A s us.toArray[j] vs.toArray[j] (match ds[j]?,es[j]? with|some a,some b=>eqD a b|_,_=>true)
 |_,_,xs,ys,ds,es,n,A,us,vs,q1,q2,w1,w2,hd,nd,ne,hu,j,h1,h2=>aAg ok n (aIN ok n) _ _ _ _ _ _ _ _ _ q1 q2 w1 w2 hd nd ne hu j h1 h2
def aGy(ok:lz K H s)(n:Nat)(r1:Rp K A1 H x d)(r2:Rp K A2 H y e)(ru:RelV x u)(rv:RelV y v)(hd:gr d<=n)(nd:ak d=true)(ne:ak e=true)(hu:A.units+n<cLine):
  SeqAt.RcAt A s u v (eqD d e)/\SeqAt.RcNeAt A s u v (!eqD d e):=by
 have hu0:A.units<cLine:=by lia
 cases r1 with
 |tup h1 q1=>
  rename_i a xs ds;cases ru;obtain⟨its,w1,t1⟩:=ok.tup h1;cases r2 with
  |tup h2 q2=>
   rename_i b ys es;cases rv;obtain⟨its2,w2,t2⟩:=ok.tup h2;simp only[gr]at hd;obtain⟨k,rfl⟩:∃k,n=k+1:=⟨n-1,by lia⟩
   have he:=aLU ok (A:=A.in1) k q1 q2 w1 w2 (by lia) (jH nd) (jH ne) (by show A.units+1+k<cLine;lia);have z:=zGN t1 t2 hu0 he;have z2:=SeqAt.RcNeAt.tuples t1 t2 hu0 he;rw[jf (by rw[zAP,<-w1.length,q1.length]) (by rw[zAP,<-w2.length,q2.length])]at z z2;simp only[eqD];exact⟨z,z2⟩
  |lst h2 mm2 q2=>
   cases rv;obtain⟨its2,w2,t2⟩:=ok.lst h2;simp only[eqD];exact⟨SeqAt.RcAt.tuple_list t1 t2 hu0,SeqAt.RcNeAt.tuple_list t1 t2 hu0⟩
  |non=>cases rv;exact⟨SeqAt.RcAt.tuple_none t1 hu0,SeqAt.RcNeAt.tuple_none t1 hu0⟩
  |bl b=>cases rv;exact⟨SeqAt.RcAt.tuple_bool b t1 hu0,SeqAt.RcNeAt.tuple_bool b t1 hu0⟩
  |int i=>obtain⟨tk,rfl⟩:=rv;exact⟨SeqAt.RcAt.tuple_int i tk t1 hu0,SeqAt.RcNeAt.tuple_int i tk t1 hu0⟩
  |str i=>obtain⟨tk,rfl⟩:=rv;exact⟨SeqAt.RcAt.tuple_str i tk t1 hu0,SeqAt.RcNeAt.tuple_str i tk t1 hu0⟩
  |_=>exact zAN (ndx ne)
 |lst h1 mm1 q1=>
  rename_i a xs ds;cases ru;obtain⟨its,w1,t1⟩:=ok.lst h1;cases r2 with
  |lst h2 mm2 q2=>
   rename_i b ys es;cases rv;obtain⟨its2,w2,t2⟩:=ok.lst h2;simp only[gr]at hd;obtain⟨k,rfl⟩:∃k,n=k+1:=⟨n-1,by lia⟩
   have l1:its.toArray.size=ds.length:=by rw[zAP,<-w1.length,q1.length]
   have l2:its2.toArray.size=es.length:=by rw[zAP,<-w2.length,q2.length]
   have z':=jf (ds:=ds) (es:=es) l1 l2;by_cases hl:its.toArray.size=its2.toArray.size
   .have he:=aLU ok (A:=A.in1) k q1 q2 w1 w2 (by lia) (jJ nd) (jJ ne) (by show A.units+1+k<cLine;lia)
    have z:=zGS t1 t2 hl hu0 he;have z2:=SeqAt.RcNeAt.lists t1 t2 hl hu0 he;rw[<-hl,zFO,beq_self_eq_true,zCd]at z';rw[z']at z z2;simp only[eqD];exact⟨z,z2⟩
   .rw[beq_eq_false_iff_ne.mpr hl,zFk]at z'
    simp only[eqD];rw[<-z'];exact⟨zFG t1 t2 (by simpa using hl) hu0,SeqAt.RcNeAt.lists_lengths t1 t2 (by simpa using hl) hu0⟩
  |tup h2 q2=>
   cases rv;obtain⟨its2,w2,t2⟩:=ok.tup h2;simp only[eqD];exact⟨SeqAt.RcAt.list_tuple t1 t2 hu0,SeqAt.RcNeAt.list_tuple t1 t2 hu0⟩
  |non=>cases rv;exact⟨SeqAt.RcAt.list_none t1 hu0,SeqAt.RcNeAt.list_none t1 hu0⟩
  |bl b=>cases rv;exact⟨SeqAt.RcAt.list_bool b t1 hu0,SeqAt.RcNeAt.list_bool b t1 hu0⟩
  |int i=>obtain⟨tk,rfl⟩:=rv;exact⟨SeqAt.RcAt.list_int i tk t1 hu0,SeqAt.RcNeAt.list_int i tk t1 hu0⟩
  |str i=>obtain⟨tk,rfl⟩:=rv;exact⟨SeqAt.RcAt.list_str i tk t1 hu0,SeqAt.RcNeAt.list_str i tk t1 hu0⟩
  |_=>exact zAN (ndx ne)
 |non=>
  cases ru;cases r2 with
  |tup h2 q2=>cases rv;obtain⟨_,_,t2⟩:=ok.tup h2;exact⟨SeqAt.RcAt.none_tuple t2 hu0,SeqAt.RcNeAt.none_tuple t2 hu0⟩
  |lst h2 mm2 q2=>cases rv;obtain⟨_,_,t2⟩:=ok.lst h2;exact⟨SeqAt.RcAt.none_list t2 hu0,SeqAt.RcNeAt.none_list t2 hu0⟩
  |dK _ _ _=>exact(bI ne).elim
  |dT _ _ _=>exact(bI ne).elim
  |set _ _ _ _=>exact(fH ne).elim
  |scr _=>exact(fJ ne).elim
  |fn _=>exact(gP ne).elim
  |itm _=>exact(fK ne).elim
  |non=>cases rv;exact⟨SeqAt.RcAt.none_none,SeqAt.RcNeAt.none_none⟩
  |bl b=>cases rv;exact⟨SeqAt.RcAt.none_bool b,SeqAt.RcNeAt.none_bool b⟩
  |int i=>obtain⟨tk,rfl⟩:=rv;exact⟨SeqAt.RcAt.none_int i tk,SeqAt.RcNeAt.none_int i tk⟩
  |str i=>obtain⟨tk,rfl⟩:=rv;exact⟨SeqAt.RcAt.none_str i tk,SeqAt.RcNeAt.none_str i tk⟩
 |bl a=>
  cases ru;cases r2 with
  |tup h2 q2=>cases rv;obtain⟨_,_,t2⟩:=ok.tup h2;exact⟨SeqAt.RcAt.bool_tuple a t2 hu0,SeqAt.RcNeAt.bool_tuple a t2 hu0⟩
  |lst h2 mm2 q2=>cases rv;obtain⟨_,_,t2⟩:=ok.lst h2;exact⟨SeqAt.RcAt.bool_list a t2 hu0,SeqAt.RcNeAt.bool_list a t2 hu0⟩
  |dK _ _ _=>exact(bI ne).elim
  |dT _ _ _=>exact(bI ne).elim
  |set _ _ _ _=>exact(fH ne).elim
  |scr _=>exact(fJ ne).elim
  |fn _=>exact(gP ne).elim
  |itm _=>exact(fK ne).elim
  |non=>cases rv;exact⟨SeqAt.RcAt.bool_none a,SeqAt.RcNeAt.bool_none a⟩
  |bl b=>cases rv;exact⟨SeqAt.RcAt.bool_bool a b,SeqAt.RcNeAt.bool_bool a b⟩
  |int i=>obtain⟨tk,rfl⟩:=rv;exact⟨SeqAt.RcAt.bool_int a i tk,SeqAt.RcNeAt.bool_int a i tk⟩
  |str i=>obtain⟨tk,rfl⟩:=rv;exact⟨SeqAt.RcAt.bool_str a i tk,SeqAt.RcNeAt.bool_str a i tk⟩
 |int a=>
  obtain⟨tu,rfl⟩:=ru;cases r2 with
  |tup h2 q2=>cases rv;obtain⟨_,_,t2⟩:=ok.tup h2;exact⟨SeqAt.RcAt.int_tuple a tu t2 hu0,SeqAt.RcNeAt.int_tuple a tu t2 hu0⟩
  |lst h2 mm2 q2=>cases rv;obtain⟨_,_,t2⟩:=ok.lst h2;exact⟨SeqAt.RcAt.int_list a tu t2 hu0,SeqAt.RcNeAt.int_list a tu t2 hu0⟩
  |dK _ _ _=>exact(bI ne).elim
  |dT _ _ _=>exact(bI ne).elim
  |set _ _ _ _=>exact(fH ne).elim
  |scr _=>exact(fJ ne).elim
  |fn _=>exact(gP ne).elim
  |itm _=>exact(fK ne).elim
  |non=>cases rv;exact⟨SeqAt.RcAt.int_none a tu,SeqAt.RcNeAt.int_none a tu⟩
  |bl b=>cases rv;exact⟨SeqAt.RcAt.int_bool a tu b,SeqAt.RcNeAt.int_bool a tu b⟩
  |int i=>obtain⟨tk,rfl⟩:=rv;exact⟨SeqAt.RcAt.int_int a tu i tk,SeqAt.RcNeAt.int_int a tu i tk⟩
  |str i=>obtain⟨tk,rfl⟩:=rv;exact⟨SeqAt.RcAt.int_str a tu i tk,SeqAt.RcNeAt.int_str a tu i tk⟩
 |str a=>
  obtain⟨tu,rfl⟩:=ru;cases r2 with
  |tup h2 q2=>cases rv;obtain⟨_,_,t2⟩:=ok.tup h2;exact⟨SeqAt.RcAt.str_tuple a tu t2 hu0,SeqAt.RcNeAt.str_tuple a tu t2 hu0⟩
  |lst h2 mm2 q2=>cases rv;obtain⟨_,_,t2⟩:=ok.lst h2;exact⟨SeqAt.RcAt.str_list a tu t2 hu0,SeqAt.RcNeAt.str_list a tu t2 hu0⟩
  |dK _ _ _=>exact(bI ne).elim
  |dT _ _ _=>exact(bI ne).elim
  |set _ _ _ _=>exact(fH ne).elim
  |scr _=>exact(fJ ne).elim
  |fn _=>exact(gP ne).elim
  |itm _=>exact(fK ne).elim
  |non=>cases rv;exact⟨SeqAt.RcAt.str_none a tu,SeqAt.RcNeAt.str_none a tu⟩
  |bl b=>cases rv;exact⟨SeqAt.RcAt.str_bool a tu b,SeqAt.RcNeAt.str_bool a tu b⟩
  |int i=>obtain⟨tk,rfl⟩:=rv;exact⟨SeqAt.RcAt.str_int a tu i tk,SeqAt.RcNeAt.str_int a tu i tk⟩
  |str i=>obtain⟨tk,rfl⟩:=rv;exact⟨SeqAt.RcAt.str_str a tu i tk,SeqAt.RcNeAt.str_str a tu i tk⟩
 |_=>exact zAN (ndx nd)
end
section
variable{K:zAA}{H:Hp}{s:zAD}
open Classical in
def qF(K:zAA)(H:Hp)(d:D)(u:Value):Bool:=if h:∃e,ak e=true/\∃y,RelV y u/\Rp K (λ _=>True) H y e then eqD (choose h) d else false
def aFQ(ok:lz K H s)(r:RelV y u)(h:Rp K A H y e)(ne:ak e=true):qF K H d u=eqD e d:=by
 have hx:∃e,ak e=true/\∃y,RelV y u/\Rp K (λ _=>True) H y e:=⟨e,ne,y,r,h.wk λ _ _ _ _=>trivial⟩
 unfold qF;rw[dif_pos hx];obtain⟨n',y',r',h'⟩:=Classical.choose_spec hx;have e1:=RelV.inj r r';subst e1;rw[Rp.inj ok h' h n' ne]
def inD(d:D)(es:List D):Bool:=es.any λ e=>eqD e d
def uJ(ok:lz K H s):∀{A:Addr->Prop} {xs:List V} {es:List D} {us:List Value},Rps K A H xs es->Vals xs us->aq es=true->us.any (qF K H d)=inD d es:=by
 intro A xs es us h v n;induction v generalizing es with
 |nil=>cases h;rfl
 |cons k t ih=>
  cases h with
  |cons h r=>
   simp only[aq,zAW]at n;unfold inD;rw[zBs,zBs,aFQ ok k h n.1,ih r n.2];rfl
def wu(ok:lz K H s)(rx:Rp K A0 H x d)(rv:RelV x v)(hu:A.units+n<cLine)(nd:ak d=true):∀{A1:Addr->Prop} {xs:List V} {es:List D} {us:List Value},Rps K A1 H xs es->Vals xs us->cN es<=n->aq es=true->∀u∈us,zC9 A s u v (qF K H d u):=by
 intro A1 xs es us h v' hd ne u hm;induction v' generalizing es with
 |nil=>cases hm
 |cons k t ih=>
  cases h with
  |cons h r=>
   simp only[cN]at hd;simp only[aq,zAW]at ne;rcases zAQ.mp hm with z|z
   .subst z
    rw[aFQ ok k h ne.1];exact aNG ok n h rx k rv (zA6 (zIJ _ _) hd) ne.1 nd hu
   .exact ih r (zA6 (zIF _ _) hd) ne.2 z
end
section
variable{X:Cx}
def aHB(K:zAA)(neg:Bool):R2:=λ x y H Q=>∃A B d e,Rp K A H x d/\Rp K B H y e/\gr d<=60/\ak d=true/\ak e=true/\Q (.bl (if neg then !eqD d e else eqD d e)) H
def aM8(hu:X.A.units+64<cLine):OpR X (zAs .Eq) (aHB X.K false):=by
 intro kK s Z H x y v u Q I rx ry h;obtain⟨A,B,d,e,r1,r2,hd,nd,ne,q⟩:=h;exact(aGy (Inv.seqOk I) 60 r1 r2 rx ry hd nd ne (by lia)).1 X.prog X.w X.xe _ ⟨.bl (eqD d e),H,I,rfl,q⟩
def aM0(hu:X.A.units+64<cLine):OpR X (zAs .NotEq) (aHB X.K true):=by
 intro kK s Z H x y v u Q I rx ry h;obtain⟨A,B,d,e,r1,r2,hd,nd,ne,q⟩:=h;exact(aGy (Inv.seqOk I) 60 r1 r2 rx ry hd nd ne (by lia)).2 X.prog X.w X.xe _ ⟨.bl (!eqD d e),H,I,rfl,q⟩
def aHA(K:zAA)(neg:Bool):R2:=λ x y H Q=>∃A B d a es,Rp K A H x d/\y= .ref a/\(Rp K B H (.ref a) (.lst es)\/Rp K B H (.ref a) (.tup es))/\cN es<=60/\ak d=true/\aq es=true/\Q (.bl (if neg then !inD d es else inD d es)) H
def aM7(hu:X.A.units+64<cLine):OpR X (zAs .In) (aHA X.K false):=by
 intro kK s Z H x y v u Q I rx ry h;obtain⟨A,B,d,a,es,rd,rfl,ra,hd,nd,ne,q⟩:=h;cases ry;have ok:=Inv.seqOk I;have hu1:X.A.in1.units+60<cLine:=by show X.A.units+1+60<cLine;lia
 rcases ra with ra|ra
 .cases ra with
  |lst ha _ r=>
   obtain⟨its,rv,tl⟩:=ok.lst ha;refine SeqAt.in_listAt (qF X.K H d) tl (λ w hw=>wu ok rd rx hu1 nd r rv hd ne w (by simpa using hw)) ⟨.bl _,H,I,rfl,?_⟩;rw[show its.toArray.any (qF X.K H d)=its.any (qF X.K H d)by simp,uJ ok r rv ne];exact q
 .cases ra with
  |tup ha r=>
   obtain⟨its,rv,tl⟩:=ok.tup ha;refine SeqAt.in_tupleAt (qF X.K H d) tl (λ w hw=>wu ok rd rx hu1 nd r rv hd ne w (by simpa using hw)) ⟨.bl _,H,I,rfl,?_⟩;rw[show its.toArray.any (qF X.K H d)=its.any (qF X.K H d)by simp,uJ ok r rv ne];exact q
def aFt(hu:X.A.units+64<cLine):OpR X (zAs .NotIn) (aHA X.K true):=by
 intro kK s Z H x y v u Q I rx ry h;obtain⟨A,B,d,a,es,rd,rfl,ra,hd,nd,ne,q⟩:=h;cases ry;have ok:=Inv.seqOk I;have hu1:X.A.in1.units+60<cLine:=by show X.A.units+1+60<cLine;lia
 rcases ra with ra|ra
 .cases ra with
  |lst ha _ r=>
   obtain⟨its,rv,tl⟩:=ok.lst ha;refine SeqAt.notIn_listAt (qF X.K H d) tl (λ w hw=>wu ok rd rx hu1 nd r rv hd ne w (by simpa using hw)) ⟨.bl _,H,I,rfl,?_⟩;rw[show its.toArray.any (qF X.K H d)=its.any (qF X.K H d)by simp,uJ ok r rv ne];exact q
 .cases ra with
  |tup ha r=>
   obtain⟨its,rv,tl⟩:=ok.tup ha;refine SeqAt.notIn_tupleAt (qF X.K H d) tl (λ w hw=>wu ok rd rx hu1 nd r rv hd ne w (by simpa using hw)) ⟨.bl _,H,I,rfl,?_⟩;rw[show its.toArray.any (qF X.K H d)=its.any (qF X.K H d)by simp,uJ ok r rv ne];exact q
end
section
variable{K:zAA}
def eqR(neg:Bool):D->D->Rs D:=λ d e=>if decide (gr d<=60)&&ak d&&ak e then .ok (.bl (if neg then !eqD d e else eqD d e))else .st
def inR(neg:Bool):D->D->Rs D:=λ d e=>match e with
 | .lst es=>if decide (cN es<=60)&&ak d&&aq es then .ok (.bl (if neg then !inD d es else inD d es))else .st
 | .tup es=>if decide (cN es<=60)&&ak d&&aq es then .ok (.bl (if neg then !inD d es else inD d es))else .st
 |_=>.st
def os_eq:OpS K (aHB K n) (eqR n):=by
 intro A x y d e H Q z rx ry ez q;unfold eqR at ez;split at ez
 .rename_i h
  simp only[zAW,decide_eq_true_eq]at h;cases ez;exact⟨A,A,d,e,rx,ry,h.1.1,h.1.2,h.2,q _ H (aW.refl H) (.bl _)⟩
 .cases ez
def aLK:OpS K (aHA K n) (inR n):=by
 intro A x y d e H Q z rx ry ez q;unfold inR at ez;split at ez
 .split at ez
  .rename_i h
   simp only[zAW,decide_eq_true_eq]at h;cases ez;cases ry with
   |lst ha mm r=>exact⟨A,A,d,_,_,rx,rfl,.inl (.lst ha mm r),h.1.1,h.1.2,h.2,q _ H (aW.refl H) (.bl _)⟩
  .cases ez
 .split at ez
  .rename_i h
   simp only[zAW,decide_eq_true_eq]at h;cases ez;cases ry with
   |tup ha r=>exact⟨A,A,d,_,_,rx,rfl,.inr (.tup ha r),h.1.1,h.1.2,h.2,q _ H (aW.refl H) (.bl _)⟩
  .cases ez
 .cases ez
def aHw:∀x y z,eqR n x y= .ok z->imm z=true:=by
 intro x y z e;unfold eqR at e;split at e
 .cases e;rfl
 .cases e
end
section
variable{K:zAA}
def boolsOf:List D->Option (List Bool)
 |[]=>some []
 | .bl i::r=>(boolsOf r).map (i::·)
 |_=>none
theorem uG:∀{l:List D} {ns:List Bool},boolsOf l=some ns->l=ns.map .bl
 |[],ns,h=>by cases h;rfl
 | .bl i::r,ns,h=>by
  simp only[boolsOf,zEA]at h;obtain⟨ms,h1,rfl⟩:=h;rw[uG h1];rfl
 | .non::_,_,h=>by cases h
 | .int _::_,_,h=>by cases h
 | .str _::_,_,h=>by cases h
 | .tup _::_,_,h=>by cases h
 | .lst _::_,_,h=>by cases h
 | .dct _ _::_,_,h=>by cases h
 | .set _::_,_,h=>by cases h
 | .scr _::_,_,h=>by cases h
theorem vh:∀ns:List Bool,boolsOf (ns.map .bl)=some ns
 |[]=>rfl
 |n::ns=>by simp only[zAC,boolsOf,vh ns,zCO]
theorem aAn{X:Cx}:∀{bs:List Bool} {us:List Value},Vals (bs.map V.bl) us->LSm.BoolsAre us bs
 |[],_,.nil=>.nil
 |b::bs,_,.cons r t=>by
  have e:_=zDm b:=r;subst e;exact .cons b (aAn (X:=X) t)
theorem Rps.bools_of:∀{xs:List V} {bs:List Bool},Rps K A H xs (bs.map D.bl)->xs=bs.map V.bl
 |_,[],.nil=>rfl
 |_,n::ns,.cons h r=>by
  cases h;rw[zAC,Rps.bools_of r]
def aBe(f:List Bool->Bool):List D->Rs D
 |[.lst l]=>match boolsOf l with
  |some bs=>.ok (.bl (f bs))
  |none=>.st
 |_=>.st
def aI0{X:Cx}(hc:X.calm=true):gH X (.builtin "all") (λ xs H Q=>∃(p:Addr) (bs:List Bool),xs=[.ref p]/\H p=some (.lst (bs.map V.bl))/\Q (.bl (bs.all id)) H):=by
 intro kK s Z H xs us Q I r h;obtain⟨p,bs,rfl,hp,q⟩:=h;obtain⟨u,rfl,ru⟩:=vals1 r;cases ru;obtain⟨its,rv,pl,hz⟩:=I.list (SqL.of hp);have hb:=aAn (X:=X) rv;have hl:=pl.isList;have hlt:p<s.heap.objs.size:=by obtain⟨_,e,_⟩:=hl;exact zAR e
 refine call_all_walk (zFh hl ?_);refine⟨s.heap.objs.size,[s.heap.objs.size,p],[s.heap.objs.size],its.toArray.size,_,_,λ i=>(bs[i]?).getD true,rfl,Walks.list (A:=X.A.in1) (I.ok.hd hc) _ p (zAZ hlt) its.toArray,
  ⟨⟨_,zAL _ rfl,rfl,rfl⟩,hl.push _⟩,λ i v s' Q' E' hP hQ=>?_,λ h' tk hk=>?_⟩
 .obtain⟨b,e,rfl⟩:=hb.get i v (by simpa using hP)
  simp only[e,Option.getD_some]at hQ;exact zBm hQ
 .have e:((zAf its.toArray.size).all λ i=>(bs[i]?).getD true)=bs.all id:=by
   rw[zAP,hb.length];exact LSm.range_all bs
  rw[e];exact⟨.bl _,H,I.kept (LSm.kept_iter hk),rfl,q⟩
def aNN:uO K (λ xs H Q=>∃(p:Addr) (bs:List Bool),xs=[.ref p]/\H p=some (.lst (bs.map V.bl))/\Q (.bl (f bs)) H) (aBe f):=by
 intro A xs ds H Q z r ez q;unfold aBe at ez;split at ez
 .split at ez
  .rename_i l bs e
   cases ez
   have:=uG e
   subst this;cases r with
   |cons h r=>
    cases r;cases h with
    |lst h m r=>
     have:=r.bools_of
     subst this;exact⟨_,bs,rfl,h,q _ H (aW.refl H) (.bl _)⟩
  .cases ez
 .cases ez
def aKY:∀x z,aBe f x= .ok z->imm z=true:=by
 intro x z e;unfold aBe at e;split at e
 .split at e
  .cases e;rfl
  .cases e
 .cases e
def mmD(f:Int->Int->Int):List D->Rs D
 |[.int i,.int j]=>.ok (.int (f i j))
 |_=>.st
def aLW:uO K (λ xs H Q=>∃i j,xs=[.int i,.int j]/\Q (.int (f i j)) H) (mmD f):=by
 intro A xs ds H Q z r ez q;unfold mmD at ez;split at ez
 .cases ez
  cases r with
  |cons h r=>
   cases h;cases r with
   |cons h r=>
    cases h;cases r;exact⟨_,_,rfl,q _ H (aW.refl H) (.int _)⟩
 .cases ez
def aHt:∀x z,mmD f x= .ok z->imm z=true:=by
 intro x z e;unfold mmD at e;split at e
 .cases e;rfl
 .cases e
def bM:List D->Rs D
 |[.lst l]=>.ok (.tup l)
 |[.tup l]=>.ok (.tup l)
 |_=>.st
def aIU:uO K (λ xs H Q=>∃p ys,xs=[.ref p]/\((SqL K H p ys/\∀l,H l=none->Q (.ref l) (upd H l (.tup ys)))\/(SqT K H p ys/\Q (.ref p) H))) bM:=by
 intro A xs ds H Q z r ez q;unfold bM at ez;split at ez
 .cases ez
  cases r with
  |cons h r=>
   cases r;cases h with
   |lst h m r=>exact⟨_,_,rfl,.inl ⟨SqL.of h,λ l hl=>q _ _ (bJ hl _) (.tup (SqT.of bG) ((r.wk λ _ _ _ z=>.inr z.1).up (bJ hl _)))⟩⟩
 .cases ez
  cases r with
  |cons h r=>
   cases r;cases h with
   |tup h r=>exact⟨_,_,rfl,.inr ⟨h,q _ H (aW.refl H) (.tup h (r.wk λ _ _ _ z=>.inr z))⟩⟩
 .cases ez
def fB:List D->Rs D
 |[.int i]=>if i.natAbs.log2<1920 then .ok (.str (zED i))else .st
 |_=>.st
def aNL:uO K (λ xs H Q=>∃i,xs=[.int i]/\i.natAbs.log2<1920/\Q (.str (zED i)) H) fB:=by
 intro A xs ds H Q z r ez q;unfold fB at ez;split at ez
 .split at ez
  .rename_i h
   cases ez;cases r with
   |cons h' r=>cases h';cases r;exact⟨_,rfl,h,q _ H (aW.refl H) (.str _)⟩
  .cases ez
 .cases ez
end
def cutD(l:List D)(lo hi:Option Int):List D:=(l.drop (HT.sIx l.length 0 lo)).take (HT.sIx l.length l.length hi-HT.sIx l.length 0 lo)
def Rps.cut{K:zAA}(r:Rps K A H xs ds)(lo hi:Option Int):Rps K A H (zR xs lo hi) (cutD ds lo hi):=by
 unfold zR cutD;rw[r.length];exact(r.drop _).take _
def slD(d:D)(lo hi:Option Int):Rs D:=match d with
 | .tup l=>.ok (.tup (cutD l lo hi))
 | .lst l=>.ok (.lst (cutD l lo hi))
 |_=>.st
def aNm(K:zAA):V->Option Int->Option Int->Hp->VK->Prop:=λ x lo hi H Q=>(∃a xs,x= .ref a/\SqT K H a xs/\∀c H',aW H H'->SqT K H' c (zR xs lo hi)->Q (.ref c) H')\/aNo K x lo hi H Q
def aIz:SlR X (λ x lo hi H Q=>∃a xs,x= .ref a/\SqT X.K H a xs/\∀c H',aW H H'->SqT X.K H' c (zR xs lo hi)->Q (.ref c) H'):=by
 intro kK s Z H x v vl vu lo hi sl Q I rx hs pl pu h;obtain⟨a,xs,rfl,hx,q⟩:=h;cases rx;obtain⟨its,r,ht,hz⟩:=I.tuple hx;have oQ:its.toArray.size=xs.length:=by rw[zAP];exact r.length.symm
 refine⟨"tuple",_,zBY.lookup,ht.typeIs,?_⟩;by_cases hw:HT.sIx xs.length 0 lo=0/\HT.sIx xs.length xs.length hi=xs.length
 .refine HT.tO ht hs pl pu (by rw[oQ];exact hw.1) (by rw[oQ];exact hw.2) ⟨.ref a,H,I,rfl,q a H (aW.refl H) ?_⟩
  have:zR xs lo hi=xs:=by
   unfold zR;rw[hw.1,hw.2,List.drop_zero,Nat.sub_zero,zHo]
  rw[this];exact hx
 .refine HT.tM ht hs pl pu (by rw[oQ];exact hw) ?_ (by rw[oQ];exact hz)
  rw[oQ];refine⟨.ref s.heap.objs.size,_,I.laid (t':=s.toks) (o:=.tup (zR xs lo hi)) (λ b ob q=>zAE _ q) (zAM _) ?_,rfl,q _ _ (bJ (I.hok.fresh (zAM _)) _) (SqT.of bG)⟩;exact⟨⟨zA6 (vf xs lo hi) hz,NoD.push _⟩,_,(r.drop (HT.sIx xs.length 0 lo)).take (HT.sIx xs.length xs.length hi-HT.sIx xs.length 0 lo),zHh _ _⟩
def aOr:SlR X (aNm X.K):=aIz.or aJA
section
variable{C:Ct}{pos p2:Pos}{m:Mode}{a e:Expr}{fa fe:En->Rs D}{lo hi:Option Expr}
def aPE(K:zAA)(G:Gx)(t:TO)(f:En->Rs (Option Int)):Prop:=∀U Z H Y lab (Q:Option Int->Hp->Prop),RR K G U Y Z H lab->WR G (f Y) (λ o=>∀H',aW H H'->Q o H')->t Z H Q
def SO(C:Ct)(e:Option Expr)(f:En->Rs (Option Int)):Prop:=∃t,(∀i,PO (C.X i) e t)/\aPE C.K C.G t f
def vR:En->Rs (Option Int):=λ _=>.ok none
def vQ(fe:En->Rs D):En->Rs (Option Int):=λ Y=>(fe Y).bd λ d=>match d with
 | .int i=>.ok (some i)
 |_=>.st
def aEa:SO C none vR:=⟨_,λ _=>aJ4,λ U Z H Y lab Q R W=>W H (aW.refl H)⟩
def aE9(h:SE C m e fe):SO C (some e) (vQ fe):=by
 obtain⟨t,h1,h2⟩:=h;refine⟨_,λ i=>aJ3 (h1 i),λ U Z H Y lab Q R W=>h2 U Z H Y lab _ R (W.bd.imp λ d _ w x H1 s r=>?_)⟩;cases r with
 |int i=>exact⟨i,rfl,w H1 s⟩
 |_=>exact zAN w
def aAx(fa:En->Rs D)(fl fh:En->Rs (Option Int)):En->Rs D:=λ Y=>(fa Y).bd λ d=>(fl Y).bd λ l=>(fh Y).bd λ h=>okD (slD d l h)
def aGm{fl fh:En->Rs (Option Int)}(ha:SE C m a fa)(hl:SO C lo fl)(hh:SO C hi fh):SE C m (.Subscript a (.Slice lo hi none p2) pos) (aAx fa fl fh):=by
 obtain⟨t,h1,h2⟩:=ha;obtain⟨tl,l1,l2⟩:=hl;obtain⟨th,k1,k2⟩:=hh;refine⟨tSl (aNm C.K) t tl th,λ i=>by rw[<-C.hK i];exact aCR aOr (h1 i) (l1 i) (k1 i),λ U Z H Y lab Q R W=>h2 U Z H Y lab _ R (W.bd.imp λ d _ w x H1 s1 r1=>?_)⟩;refine l2 U Z H1 Y lab _ (R.up s1) (w.bd.imp λ ol _ w H2 s2=>?_);refine k2 U Z H2 Y lab _ ((R.up s1).up s2) (w.bd.imp λ oh _ w H3 s3=>?_);obtain⟨z,ez,w⟩:=w.okD;have s:=s1.trans (s2.trans s3);have r3:=r1.up (s2.trans s3);cases d with
 |tup l=>
  cases ez;cases r3 with
  |tup h r=>exact .inl ⟨_,_,rfl,h,λ c H' s' hc=>w _ H' (s.trans s') (.tup hc ((r.cut ol oh).up s'))⟩
 |lst l=>
  cases ez;cases r3 with
  |lst h mm r=>
   exact .inr ⟨_,_,rfl,SqL.of h,λ p hp=>w _ _ (s.trans (bJ hp _)) (.lst bG (.inl (s.free hp)) (((r.cut ol oh).wk λ q o e z=>⟨z.1,λ e'=>by subst e';rw[hp]at e;cases e⟩).up (bJ hp _)))⟩
 |_=>cases ez
end
section
variable{C:Ct}{pos p:Pos}{m m1 m2 m3:Mode}{a b c e:Expr}{fa fb fc:En->Rs D}{ga:En->Rs (List D)}
def Ct.u0(C:Ct)(i:C.ι):(C.X i).A.units<cLine:=(C.room i).units0
def Ct.u64(C:Ct)(i:C.ι):(C.X i).A.units+64<cLine:=(C.room i).units
def Ct.ltR(C:Ct)(i:C.ι):OpR (C.X i) (zAs .Lt) (λ x y H Q=>rI0 (λ i j=>.bl (decide (i<j))) x y H Q\/aJS C.K x y H Q):=by have h:=aM3 (X:=C.X i) (C.u0 i);rw[C.hK i]at h;exact h
def Ct.leR(C:Ct)(i:C.ι):OpR (C.X i) (zAs .LtE) (λ x y H Q=>rI0 (λ i j=>.bl (decide (i<=j))) x y H Q\/aJT C.K x y H Q):=by have h:=aM5 (X:=C.X i) (C.u0 i);rw[C.hK i]at h;exact h
def Ct.eqRl(C:Ct)(i:C.ι):OpR (C.X i) (zAs .Eq) (aHB C.K false):=by have h:=aM8 (X:=C.X i) (C.u64 i);rw[C.hK i]at h;exact h
def Ct.neRl(C:Ct)(i:C.ι):OpR (C.X i) (zAs .NotEq) (aHB C.K true):=by have h:=aM0 (X:=C.X i) (C.u64 i);rw[C.hK i]at h;exact h
def Ct.inRl(C:Ct)(i:C.ι):OpR (C.X i) (zAs .In) (aHA C.K false):=by have h:=aM7 (X:=C.X i) (C.u64 i);rw[C.hK i]at h;exact h
def Ct.ninRl(C:Ct)(i:C.ι):OpR (C.X i) (zAs .NotIn) (aHA C.K true):=by have h:=aFt (X:=C.X i) (C.u64 i);rw[C.hK i]at h;exact h
def Ct.aO8(C:Ct)(i:C.ι):OpR (C.X i) (zBy .Add) (aHC C.K):=by have h:=aJq (X:=C.X i);rw[C.hK i]at h;exact h
def xM:D->D->Rs D:=i2 (λ _ _=>true) λ i j=>.int (i-j)
def yx:D->D->Rs D:=i2 (λ _ j=>decide (0<j)&&decide (j<1073741824)) λ i j=>.int (i / j)
def oZ:D->D->Rs D:=i2 (λ _ j=>decide (0<j)) λ i j=>.int (i%j)
def aMD:D->D->Rs D:=i2 (λ i j=>decide (0<=j)&&decide (j<=1000000)&&decide (i.natAbs<2^64)) λ i j=>.int (i^j.toNat)
def cP(ha:SE C m1 a fa)(hb:SE C m2 b fb):SE C (jn m1 m2) (.BinOp a .Add b pos) (op2 cG fa fb):=xZ C.aO8 aMV ha hb
def uT(ha:SE C m1 a fa)(hb:SE C m2 b fb):SE C (jn m1 m2) (.BinOp a .Mult b pos) (op2 lR fa fb):=xZ (λ _=>aJl) aMT ha hb
def xX(ha:SE C m1 a fa)(hb:SE C m2 b fb):SE C (some []) (.BinOp a .Sub b pos) (op2 xM fa fb):=fU (xZ (λ _=>aMX) aJi ha hb) λ _ _ h=>jF aBW h
def aEi(ha:SE C m1 a fa)(hb:SE C m2 b fb):SE C (some []) (.BinOp a .FloorDiv b pos) (op2 yx fa fb):=fU (xZ (λ _=>aJm) (aDj λ i j h=>by simpa[aOg]using h) ha hb) λ _ _ h=>jF aBW h
def oH(ha:SE C m1 a fa)(hb:SE C m2 b fb):SE C (some []) (.BinOp a .Mod b pos) (op2 oZ fa fb):=fU (xZ (λ _=>aM2) (aDj λ i j h=>by simpa using h) ha hb) λ _ _ h=>jF aBW h
def aLh(ha:SE C m1 a fa)(hb:SE C m2 b fb):SE C (some []) (.BinOp a .Pow b pos) (op2 aMD fa fb):=fU (xZ (λ _=>aMZ) (aDj λ i j h=>by simp only[zAW,decide_eq_true_eq]at h;exact⟨h.1.1,h.1.2,h.2⟩) ha hb) λ _ _ h=>jF aBW h
def xf(ha:SE C m a fa):SE C (some []) (.UnaryOp .USub a pos) (op1 zr fa):=fU (aNg (λ _=>aL2) aL1 ha) λ _ _ h=>aKU aKV h
def aLA(ha:SE C m1 a fa)(hb:SE C m2 b fb):SE C (some []) (.Compare a [.Lt] [b] pos) (op2 ltD fa fb):=fU (aBA C.ltR aH0 ha hb) λ _ _ h=>jF aHu h
def aNi(ha:SE C m1 a fa)(hb:SE C m2 b fb):SE C (some []) (.Compare a [.Gt] [b] pos) (op2 gtD fa fb):=fU (aBA (λ _=>aLL) yJ ha hb) λ _ _ h=>jF aEI h
def vK(ha:SE C m1 a fa)(hb:SE C m2 b fb):SE C (some []) (.Compare a [.Eq] [b] pos) (op2 (eqR false) fa fb):=fU (aBA C.eqRl os_eq ha hb) λ _ _ h=>jF aHw h
def aKz(ha:SE C m1 a fa)(hb:SE C m2 b fb):SE C (some []) (.Compare a [.NotEq] [b] pos) (op2 (eqR true) fa fb):=fU (aBA C.neRl os_eq ha hb) λ _ _ h=>jF aHw h
def aAM(ha:SE C m1 a fa)(hb:SE C m2 b fb):ST C (.Compare a [.Lt] [b] pos) (tsb (op2 ltD fa fb)):=nu C.ltR aH0 ha hb
def aE6(ha:SE C m1 a fa)(hb:SE C m2 b fb):ST C (.Compare a [.Gt] [b] pos) (tsb (op2 gtD fa fb)):=nu (λ _=>aLL) yJ ha hb
def aNf(ha:SE C m1 a fa)(hb:SE C m2 b fb):ST C (.Compare a [.GtE] [b] pos) (tsb (op2 geD fa fb)):=nu (λ _=>aOJ) yJ ha hb
def jt(ha:SE C m1 a fa)(hb:SE C m2 b fb):ST C (.Compare a [.Eq] [b] pos) (tsb (op2 (eqR false) fa fb)):=nu C.eqRl os_eq ha hb
def lK(ha:SE C m1 a fa)(hb:SE C m2 b fb):ST C (.Compare a [.NotEq] [b] pos) (tsb (op2 (eqR true) fa fb)):=nu C.neRl os_eq ha hb
def aNe(ha:SE C m1 a fa)(hb:SE C m2 b fb)(hm:zBj .In b=false:=by with_unfolding_all rfl):ST C (.Compare a [.In] [b] pos) (tsb (op2 (inR false) fa fb)):=nu C.inRl aLK ha hb hm
def aGa(ha:SE C m1 a fa)(hb:SE C m2 b fb)(hm:zBj .NotIn b=false:=by with_unfolding_all rfl):ST C (.Compare a [.NotIn] [b] pos) (tsb (op2 (inR true) fa fb)):=nu C.ninRl aLK ha hb hm
def aJL(ha:SE C m1 a fa)(hb:SE C m2 b fb)(hc:SE C m3 c fc)(hm:zHx [.LtE,.LtE] [b,c]=false:=by with_unfolding_all rfl):SE C (some []) (.Compare a [.LtE,.LtE] [b,c] pos) (chD leD leD fa fb fc):=aBw C.leR aH1 C.leR aH1 aMz ha hb hc hm
def aJK(ha:SE C m1 a fa)(hb:SE C m2 b fb)(hc:SE C m3 c fc)(hm:zHx [.LtE,.Lt] [b,c]=false:=by with_unfolding_all rfl):SE C (some []) (.Compare a [.LtE,.Lt] [b,c] pos) (chD leD ltD fa fb fc):=aBw C.leR aH1 C.ltR aH0 aHu ha hb hc hm
def aN(ha:SE C m1 a fa)(hb:SE C m2 b fb)(hp:aBh b:=by exact λ _ _=>rfl):SE C m1 (.Subscript a b pos) (op2 ixD fa fb):=by
 obtain⟨t,h1,h2⟩:=ha;obtain⟨u,k1,k2⟩:=hb;refine⟨tOp (rIx C.K) t u,λ i=>by rw[<-C.hK i];exact aOC aMv (h1 i) (k1 i) hp,λ U Z H Y lab Q R W=>?_⟩;refine h2 U Z H Y lab _ R (W.bd.imp λ d _ w x H1 s1 r1=>?_);refine k2 U Z H1 Y lab _ (R.up s1) (w.bd.imp λ e _ w y H2 s2 r2=>?_);obtain⟨z,ez,w⟩:=w.okD;have hi:imm e=true:=by
  unfold ixD at ez;split at ez<;>first|rfl|cases ez
 refine aOG (fpM m1 lab H) x y d e H2 Q z (r1.up s2) (r2.imm hi) ez λ v H' s r=>w v H' ((s1.trans s2).trans s) (r.wk λ p o _ q=>?_)
 rcases q with q|q
 .exact .inl ((s1.trans s2).free q)
 .exact q
def uU(hm:C.mg "len"=none)(ha:SA C m [a] ga)(he:∀i,zAV [a] (C.X i).env=[(false,eval a (C.X i).env)]:=by intro _;rfl)(hg:∀i,Gl (C.X i) "len":=by intro _;rfl):SE C (some []) (.Call (.Name "len" p) [a] [] pos) (opA ul ga):=
 fU (sr (λ i=>by have h:=aB8 (X:=C.X i);rw[C.hK i]at h;exact h) aNM hg hm PySem.boot_len ha (by decide) (by decide) he) λ _ _ h=>pW aKX h
def aLl(hm:C.mg "all"=none)(ha:SA C m [a] ga)(he:∀i,zAV [a] (C.X i).env=[(false,eval a (C.X i).env)]:=by intro _;rfl)(hg:∀i,Gl (C.X i) "all":=by intro _;rfl)(hv:zAw "all"=some (.builtin "all"):=by decide+kernel):SE C (some []) (.Call (.Name "all" p) [a] [] pos) (opA (aBe λ bs=>bs.all id) ga):=
 fU (sr (λ i=>aI0 (C.calm i)) aNN hg hm hv ha (by decide) (by decide) he) λ _ _ h=>pW aKY h
def aEe(hm:C.mg "min"=none)(ha:SA C m [a,b] ga)(he:∀i,zAV [a,b] (C.X i).env=(false,eval a (C.X i).env)::zAV [b] (C.X i).env:=by intro _;rfl)(hpl:∀i,(zCB pos (zAV [b] (C.X i).env)).any (·.1)=false:=by intro _;rfl)(hg:∀i,Gl (C.X i) "min":=by intro _;rfl)(hv:zAw "min"=some (.builtin "min"):=by decide+kernel):SE C (some []) (.Call (.Name "min" p) [a,b] [] pos) (opA (mmD λ i j=>if j<i then j else i) ga):=
 fU (sr (λ i=>aGM (C.calm i)) aLW hg hm hv ha (by decide) (by decide) he hpl) λ _ _ h=>pW aHt h
def aEf(hm:C.mg "max"=none)(ha:SA C m [a,b] ga)(he:∀i,zAV [a,b] (C.X i).env=(false,eval a (C.X i).env)::zAV [b] (C.X i).env:=by intro _;rfl)(hpl:∀i,(zCB pos (zAV [b] (C.X i).env)).any (·.1)=false:=by intro _;rfl)(hg:∀i,Gl (C.X i) "max":=by intro _;rfl)(hv:zAw "max"=some (.builtin "max"):=by decide+kernel):SE C (some []) (.Call (.Name "max" p) [a,b] [] pos) (opA (mmD λ i j=>if j>i then j else i) ga):=
 fU (sr (λ i=>aGN (C.calm i)) aLW hg hm hv ha (by decide) (by decide) he hpl) λ _ _ h=>pW aHt h
def di(hm:C.mg "tuple"=none)(ha:SA C m [a] ga)(he:∀i,zAV [a] (C.X i).env=[(false,eval a (C.X i).env)]:=by intro _;rfl)(hg:∀i,Gl (C.X i) "tuple":=by intro _;rfl)(hv:zAw "tuple"=some (.type "tuple"):=by decide+kernel):SE C m (.Call (.Name "tuple" p) [a] [] pos) (opA bM ga):=
 xg (λ i=>by have h:=aAD (X:=C.X i);rw[C.hK i]at h;exact h) aIU hg hm hv ha (by decide) (by decide) he
def aKS:∀x z,fB x= .ok z->imm z=true:=by
 intro x z e;unfold fB at e;split at e
 .split at e
  .cases e;rfl
  .cases e
 .cases e
def mR(hm:C.mg "str"=none)(ha:SA C m [a] ga)(he:∀i,zAV [a] (C.X i).env=[(false,eval a (C.X i).env)]:=by intro _;rfl)(hg:∀i,Gl (C.X i) "str":=by intro _;rfl)(hv:zAw "str"=some (.type "str"):=by decide+kernel):SE C (some []) (.Call (.Name "str" p) [a] [] pos) (opA fB ga):=
 fU (xg (λ i=>aB6) aNL hg hm hv ha (by decide) (by decide) he) λ _ _ h=>pW aKS h
def aE8(K:zAA):Sp:=λ vs H Q E=>∃a ns,vs=[.ref a]/\pK K H a ns/\ns.length<=63/\∀H',Q (.bl true) H'
def aKE{K:zAA}(h:∀ns:List Int,ns.length<=63->F [.scr ns]= .ok (.bl true)):∀vs H Q E,aE8 K vs H Q E->spF K cl 1 F vs H Q E:=by
 rintro vs H Q E ⟨a,ns,rfl,hs,hl,q⟩;refine⟨[.scr ns],rfl,.cons (.scr hs) .nil,?_⟩;rw[h ns hl];intro v H' s r;cases r;exact q H'
def aLm{K:zAA}{a:Addr}(hO:Only H)(h:SqL K H a (ns.map V.int)):pK K H a ns:=by
 rcases h with (h|⟨o,h⟩)|h
 .rcases hO a with z|⟨o,xs,z⟩
  .rw[h]at z;cases z
  .rw[h]at z;cases z
 .exact .inl ⟨o,h⟩
 .exact .inr h
end
end VL
namespace L2
open PySem PySem.Spec PyProof.Rows
def cxW(P:zAT)(w:World)(K:zAA)(mg:Str->Option Value)(base:Heap)(N:List Str)(qual:Str)(scope:Scope)(f:Addr)(cd:Value)(A:zAa)(s:zAD)(H:Hp)(Pt:Addr):Cx where
 prog:=P
 w:=w
 K:=K
 mg:=mg
 base:=base
 A:=A.deeper (zE5 qual scope s.heap.objs.size f cd)
 N:=N
 zI:=s
 zD:=H
 env:=zE5 qual scope s.heap.objs.size f cd
 outer:=[]
 stack:=[zE5 qual scope s.heap.objs.size f cd]
 ex:=[Pt]
 calm:=true
 fn:=λ _=>true
 pn:=[]
 xe:=λ _ _=>False
 ta:=[(Pt,PySem.W.tabObj #[])]
 tq:=qual++".<locals>."++"<lambda>"
end L2
namespace VL
open PySem PySem.Spec PyProof.Rows L2
end VL
namespace L2
open PySem PySem.Spec PyProof.Rows
def pe_isi{X:Cx}{n0:Str}{e:Expr}{c:V}{p p' pos:Pos}(hN:X.N[0]? =some n0)(hv:X.env.scope.names.lookup n0=some .local)(hg:Gl X "isinstance")(hm:X.mg "isinstance"=none)(hc:PE X e (tC c))(hse:zAV [e] X.env=(false,eval e X.env)::zAV [] X.env:=by rfl)
  (hpl:(zCB pos (zAV [e] X.env)).any (·.1)=false:=by rfl)(d:Nd n0:=by decide)(d':(n0==("__classdict__":Str))=false:=by decide):PE X (.Call (.Name "isinstance" p) [.Name n0 p',e] [] pos) (aOo X.K c):=
 oU aGP hg hm rfl (fD (rG hN (.inl hv) d d') (fD hc lD hse)) (hpl:=hpl)
section
variable{P:zAT}{w:World}{K:zAA}{mg:Str->Option Value}{base:Heap}{x q n0 n1 n2 odd:Str}{st:Stmt}{f:Addr}{fd:zA7}{k:Nat}{wd:Addr->Option Str}{c1 c2:V}{k1 k2 k3 k4:List V}{l1 l2:List Str}{a1 a2:Expr}{as1 as2 e1 e2 e3 e4 w1 w2:List Expr}{kw1 kw2:List zCA}
 {p1 p2 p3 p4 p5 p6 p7 p8 p9 p10 p11 p12 p13 p14 p15 p16 p17 p18 p19 p20 p21 p22 p23 p24 p25 p26 p27 p28 p29 p30 p31 p32 p33 p34 p35 p36 p37 p38 p39 p40:Pos}{q1 q2 q3 q4 q5 q6 q7:Pos}{j1 j2 j3 j4 j5:Nat}
end
structure LawOk(P:zAT)(w:World)(K:zAA)(mg:Str->Option Value)(fa Pt:Addr)(k n:Nat):Prop where
 ex:∃(x name qual:Str) (params:zFQ) (body:List Stmt) (scope:Scope) (dV kV doc pm ct oc:Value) (an od:Option Addr) (c:Addr) (osl:Array (Option Value)) (N:List Str),
  K.lookup Pt=none/\PySem.W.codeHdIn K c Pt=true/\K.lookup fa=some ⟨oc,od,.func (zBz name qual params body scope dV kV doc pm an (.ref c) ct),osl⟩/\zD0 K (.ref c) qual=true/\aV N [x] scope/\
  (∀(s:zAD) (u:Value),zF5 s (zBz name qual params body scope dV kV doc pm an (.ref c) ct) ⟨[u],[]⟩ [(x,u)])/\
  ∀(a:Addr) (ns:List Int),ns.length<=n->∀(base:Heap) (s:zAD) (H:Hp),jq k (callerA.deeper (zE5 qual scope s.heap.objs.size fa (.ref c)))->aOd (cxW P w K mg base N qual scope fa (.ref c) zFH s H Pt) Pt->Only H->SqL K H a (ns.map V.int)->
   ∃t,PSs (cxW P w K mg base N qual scope fa (.ref c) zFH s H Pt) body t/\t {nx:=λ _ _=>False,rt:=λ v _=>v= .bl true} (start N [.ref a]) H
end L2
namespace VL
open PySem PySem.Spec PyProof.Rows L2
section
variable{O:zCC}{kz:Nat->O.α}{n:Nat}
def Wr{α:Type}(kz:Nat->O.α)(n:Nat):zFy α->(α->Prop)->Prop
 | .ret a,Q=>Q a
 | .ask i j k,Q=>i<n/\j<n/\Wr kz n (k (O.blt (kz i) (kz j))) Q
theorem Wr.bindI:∀{t:zFy α},Wr kz n t (λ a=>Wr kz n (g a) Q)->Wr kz n (t.bind g) Q
 | .ret _,h=>h
 | .ask _ _ _,⟨h1,h2,h3⟩=>⟨h1,h2,Wr.bindI h3⟩
abbrev Pm(n:Nat)(p:Array Nat):Prop:=p.Perm (zAf n).toArray
def Pm.sz(h:Pm n p):p.size=n:=by
 have:=h.size_eq
 simpa using this
def Pm.in(h:Pm n p)(hi:i<n):p.getD i 0<n:=by
 have hs:i<p.size:=by rw[h.sz];exact hi
 have e:p.getD i 0=p[i]:=by simp[zBn,hs]
 rw[e];have hm:p[i]∈(zAf n).toArray:=h.mem_iff.mp (Array.getElem_mem hs);simpa using hm
def Kp(kz:Nat->O.α)(p:Array Nat)(i:Nat):O.α:=kz (p.getD i 0)
def aCc(h:p[i]? =q[j]?):Kp kz p i=Kp kz q j:=by
 unfold Kp;congr 1;rw[zBI,zBI,h]
def aHg(hs:c<p.size)(hd:d<=c)(k:Nat):
  Kp kz (bubble p c d) k=if k=c-d then Kp kz p c else if c-d<k/\k<=c then Kp kz p (k-1)else Kp kz p k:=by
 have e:=getElem?_bubble hs d hd k;by_cases u1:k=c-d
 .rw[if_pos u1]at e ⊢
  exact aCc e
 .rw[if_neg u1]at e ⊢
  by_cases u2:c-d<k/\k<=c
  .rw[if_pos u2]at e ⊢
   exact aCc e
  .rw[if_neg u2]at e ⊢
   exact aCc e
def aEC(hj:j<=p.size)(k:Nat):Kp kz (zEJ p i j) k=if i<=k/\k<j then Kp kz p (i+j-1-k)else Kp kz p k:=by
 unfold zEJ;have e:=getElem?_mirror_all (i:=i) hj k;by_cases u1:i<=k/\k<j
 .rw[if_pos u1]at e ⊢
  exact aCc e
 .rw[if_neg u1]at e ⊢
  exact aCc e
def pR(hj:j<=p.size)(he:∀k,i<=k->k<j->Kp kz p k=Kp kz p (j-1))(k:Nat):Kp kz (zEJ p i j) k=Kp kz p k:=by
 rw[aEC hj];split
 .rw[he _ (by lia) (by lia),he k (by lia) (by lia)]
 .rfl
def Up(kz:Nat->O.α)(p:Array Nat)(k:Nat):Prop:=∀i j,i<=j->j<k->O.kle (Kp kz p i) (Kp kz p j)
def Dn(kz:Nat->O.α)(p:Array Nat)(k:Nat):Prop:=∀i j,i<=j->j<k->O.kle (Kp kz p j) (Kp kz p i)
def yC(h:Pm n p)(i j:Nat):Pm n (zEJ p i j):=(mirror_perm _ _ _ _).trans h
def Up.succ(h:Up kz p m)(hm:1<=m)(hl:O.kle (Kp kz p (m-1)) (Kp kz p m)):Up kz p (m+1):=by
 intro i j hij hj;by_cases q:j<m
 .exact h i j hij q
 .have q':j=m:=by lia
  subst q';by_cases q2:i=j
  .rw[q2];exact zCb _
  .exact zDv (h i (j-1) (by lia) (by lia)) hl
def Dn.succ(h:Dn kz p m)(hm:1<=m)(hl:O.kle (Kp kz p m) (Kp kz p (m-1))):Dn kz p (m+1):=by
 intro i j hij hj;by_cases q:j<m
 .exact h i j hij q
 .have q':j=m:=by lia
  subst q';by_cases q2:i=j
  .rw[q2];exact zCb _
  .exact zDv hl (h i (j-1) (by lia) (by lia))
theorem aDM(hp:Pm n p)(hr:r<=n):∀(f m:Nat),1<=m->m+f=r->Up kz p m->
  (∀m',1<=m'->m'<=r->Up kz p m'->(m'=r\/O.klt (Kp kz p m') (Kp kz p (m'-1)))->Q m')->Wr kz n (PySem.W.kas_asc p f m) Q
 |0,m,h1,hm,hu,k=>k m h1 (by lia) hu (.inl (by lia))
 |f+1,m,h1,hm,hu,k=>by
  refine⟨hp.in (by lia),hp.in (by lia),?_⟩;have hd:O.blt (kz (p.getD m 0)) (kz (p.getD (m-1) 0))=O.blt (Kp kz p m) (Kp kz p (m-1)):=rfl;rw[hd];cases hb:O.blt (Kp kz p m) (Kp kz p (m-1))with
  |true=>exact k m h1 (by lia) hu (.inr hb)
  |false=>exact aDM hp hr f (m+1) (by lia) (by lia) (hu.succ h1 hb) k
theorem wQ(hr:r<=n):∀(f:Nat) (p:Array Nat) (m e:Nat),Pm n p->1<=m->m+f=r->Dn kz p m->e+1<=m->(∀i,m-(e+1)<=i->i<m->Kp kz p i=Kp kz p (m-1))->
  (∀p' m' e',Pm n p'->1<=m'->m'<=r->Dn kz p' m'->e'+1<=m'->(∀i,m'-(e'+1)<=i->i<m'->Kp kz p' i=Kp kz p' (m'-1))->Q (p',m',e'))->Wr kz n (PySem.W.kas_desc f p m e) Q
 |0,p,m,e,hp,h1,hm,hd,he,hq,k=>k p m e hp h1 (by lia) hd he hq
 |f+1,p,m,e,hp,h1,hm,hd,he,hq,k=>by
  have hsz:m<=p.size:=by rw[hp.sz];lia
  refine⟨hp.in (by lia),hp.in (by lia),?_⟩;have hx:O.blt (kz (p.getD m 0)) (kz (p.getD (m-1) 0))=O.blt (Kp kz p m) (Kp kz p (m-1)):=rfl;rw[hx];cases hb:O.blt (Kp kz p m) (Kp kz p (m-1))with
  |true=>
   have hd':Dn kz p (m+1):=hd.succ h1 (zEp hb);dsimp only;rw[if_pos rfl];by_cases hz:e>0
   .rw[if_pos hz]
    refine wQ hr f _ (m+1) 0 (yC hp _ _) (by lia) (by lia) (λ i j hij hj=>?_) (by lia) (λ i u v=>by congr 1;lia) k;rw[pR hsz hq,pR hsz hq];exact hd' i j hij hj
   .rw[if_neg hz]
    exact wQ hr f p (m+1) 0 hp (by lia) (by lia) hd' (by lia) (λ i u v=>by congr 1;lia) k
  |false=>
   dsimp only;rw[if_neg (by simp)];refine⟨hp.in (by lia),hp.in (by lia),?_⟩;have hy:O.blt (kz (p.getD (m-1) 0)) (kz (p.getD m 0))=O.blt (Kp kz p (m-1)) (Kp kz p m):=rfl;rw[hy];cases hc:O.blt (Kp kz p (m-1)) (Kp kz p m)with
   |true=>exact k p m e hp h1 (by lia) hd he hq
   |false=>
    dsimp only;rw[if_neg (by simp)];have hee:Kp kz p m=Kp kz p (m-1):=zG6 hc hb;refine wQ hr f p (m+1) (e+1) hp (by lia) (by lia) (hd.succ h1 hc) (by lia) (λ i u v=>?_) k;rw[show m+1-1=m by lia];by_cases hi:i=m
    .rw[hi]
    .rw[hee]
     exact hq i (by lia) (by lia)
def aE1(hr:r<=n)(hp:Pm n p)(h1:1<=m)(hm:m<=r)(hd:Dn kz p m)(k:∀m' p',Pm n p'->1<=m'->m'<=r->Up kz p' m'->Q (m',p')):Wr kz n (PySem.W.kas_tail3 m r p) Q:=by
 have hsz:m<=p.size:=by rw[hp.sz];lia
 refine Wr.bindI (aDM (yC hp 0 m) hr (r-m) m h1 (by lia) (λ i j hij hj=>?_) λ m' a1 a2 a3 _=>k m' _ (yC hp 0 m) a1 a2 a3);rw[aEC hsz,aEC hsz,if_pos (by lia),if_pos (by lia)];exact hd _ _ (by lia) (by lia)
def vC(hr:r<=n)(hp:Pm n p)(hm:m+1<=r)(hd:Dn kz p (m+1))(k:∀m' p',Pm n p'->1<=m'->m'<=r->Up kz p' m'->Q (m',p')):Wr kz n (PySem.W.kas_descPart m r p) Q:=by
 refine Wr.bindI (wQ hr (r-(m+1)) p (m+1) 0 hp (by lia) (by lia) hd (by lia) (λ i u v=>by congr 1;lia) λ p' m' e' a1 a2 a3 a4 a5 a6=>?_);have hsz:m'<=p'.size:=by rw[a1.sz];lia
 dsimp only;by_cases hz:e'>0
 .rw[if_pos hz]
  refine aE1 hr (yC a1 _ _) a2 a3 (λ i j hij hj=>?_) k;rw[pR hsz a6,pR hsz a6];exact a4 i j hij hj
 .rw[if_neg hz]
  exact aE1 hr a1 a2 a3 a4 k
def aGW(hr:r<=n)(hp:Pm n p)(h1:1<=r)(k:∀m' p',Pm n p'->1<=m'->m'<=r->Up kz p' m'->Q (m',p')):Wr kz n (PySem.W.kas_count r p) Q:=by
 refine Wr.bindI (aDM hp hr (r-1) 1 (zAM 1) (by lia) (λ i j hij hj=>by rw[show i=j by lia];exact zCb _) λ m a1 a2 a3 a4=>?_);by_cases hm:m=r
 .rw[if_pos (by simpa using hm)]
  exact k m p hp a1 a2 a3
 .rw[if_neg (by simpa using hm)]
  have hl:O.klt (Kp kz p m) (Kp kz p (m-1)):=a4.resolve_left hm;by_cases hg:m>1
  .rw[if_pos hg]
   refine⟨hp.in (by lia),hp.in (by lia),?_⟩;have hx:O.blt (kz (p.getD 0 0)) (kz (p.getD (m-1) 0))=O.blt (Kp kz p 0) (Kp kz p (m-1)):=rfl;rw[hx];cases hb:O.blt (Kp kz p 0) (Kp kz p (m-1))with
   |true=>exact k m p hp a1 a2 a3
   |false=>
    dsimp only;rw[if_neg (by simp)];have hsz:m<=p.size:=by rw[hp.sz];lia
    have qV:∀i,0<=i->i<m->Kp kz p i=Kp kz p (m-1):=λ i _ hi=>zG6 (a3 i (m-1) (by lia) (by lia)) (zDv hb (a3 0 i (by lia) hi))
    refine vC hr (yC hp 0 m) (by lia) (λ i j hij hj=>?_) k;rw[pR hsz qV,pR hsz qV];by_cases hjm:j<m
    .rw[qV i (by lia) (by lia),qV j (by lia) hjm];exact zCb _
    .have hj':j=m:=by lia
     subst hj';by_cases hi:i=j
     .rw[hi];exact zCb _
     .rw[qV i (by lia) (by lia)];exact zEp hl
  .rw[if_neg hg]
   have hm1:m=1:=by lia
   subst hm1;refine vC hr hp (by lia) (λ i j hij hj=>?_) k;by_cases hi:i=j
   .rw[hi];exact zCb _
   .have e1:i=0:=by lia
    have e2:j=1:=by lia
    subst e1 e2;exact zEp hl
theorem xF(hp:Pm n p)(hc:c<n)(hu:Up kz p c):∀(f l r:Nat),l<=r->r<=c->r-l<=f->(∀i,i<l->O.kle (Kp kz p i) (Kp kz p c))->(∀i,r<=i->i<c->O.klt (Kp kz p c) (Kp kz p i))->
  (∀l',l'<=c->(∀i,i<l'->O.kle (Kp kz p i) (Kp kz p c))->(∀i,l'<=i->i<c->O.klt (Kp kz p c) (Kp kz p i))->Q l')->Wr kz n (zGj p c f l r) Q
 |0,l,r,a1,a2,a3,a4,a5,k=>by
  have e:l=r:=by lia
  subst e;exact k l a2 a4 a5
 |f+1,l,r,a1,a2,a3,a4,a5,k=>by
  unfold zGj;by_cases hg:l ≥ r
  .rw[if_pos hg]
   have e:l=r:=by lia
   subst e;exact k l a2 a4 a5
  .rw[if_neg hg]
   refine⟨hp.in hc,hp.in (by lia),?_⟩;have hx:O.blt (kz (p.getD c 0)) (kz (p.getD ((l+r) / 2) 0))=O.blt (Kp kz p c) (Kp kz p ((l+r) / 2)):=rfl;rw[hx];cases hb:O.blt (Kp kz p c) (Kp kz p ((l+r) / 2))with
   |true=>exact xF hp hc hu f l ((l+r) / 2) (by lia) (by lia) (by lia) a4 (λ i u v=>KeyOrd.klt_of_klt_of_kle hb (hu _ _ u v)) k
   |false=>exact xF hp hc hu f ((l+r) / 2+1) r (by lia) a2 (by lia) (λ i u=>zDv (hu i ((l+r) / 2) (by lia) (by lia)) hb) a5 k
theorem aGX:∀(f:Nat) (p:Array Nat) (c:Nat),Pm n p->c+f=n->Up kz p c->(∀p',Pm n p'->Up kz p' n->Q p')->Wr kz n (PySem.W.kas_bin f p c) Q
 |0,p,c,hp,hc,hu,k=>k p hp (by rw[show n=c by lia];exact hu)
 |f+1,p,c,hp,hc,hu,k=>by
  refine Wr.bindI (xF hp (by lia) hu c 0 c (by lia) (zAM c) (by lia) (λ i u=>by lia) (λ i u v=>by lia) λ l a1 a2 a3=>?_);refine aGX f _ (c+1) ((bubble_perm _ _ _).trans hp) (by lia) (λ i j hij hj=>?_) k;have hs:c<p.size:=by rw[hp.sz];lia
  rw[aHg hs (by lia),aHg hs (by lia),show c-(c-l)=l by lia]
  repeat' split
  all_goals first
   |(exfalso;lia)
   |exact O.irrefl _
   |exact a2 _ (by lia)
   |exact KeyOrd.klt_asymm (a3 _ (by lia) (by lia))
   |exact hu _ _ (by lia) (by lia)
def aIm(h1:1<=n)(k:∀p,Pm n p->Up kz p n->Q p):Wr kz n (PySem.W.kas_sort n) Q:=by
 refine Wr.bindI (aGW (zAM n) (zG3 _) h1 λ m p a1 a2 a3 a4=>?_);dsimp only;by_cases hm:m<n
 .rw[if_pos hm]
  exact aGX _ p _ a1 (by lia) (by rw[show max m 1=m by lia];exact a4) k
 .rw[if_neg hm]
  exact k p a1 (by rw[show n=m by lia];exact a4)
theorem aBk{I:zAD->Prop}(hc:∀i j (C:Bool->zAD->Prop) s,I s->i<n->j<n->(∀s',I s'->C (O.blt (kz i) (kz j)) s')->cmp i j C s):
  ∀(t:zFy α) (s:zAD),I s->Wr kz n t (λ a=>∀s',I s'->Q a s')->t.kasWp cmp Q s
 | .ret a,s,hI,h=>h s hI
 | .ask i j k,s,hI,⟨h1,h2,h3⟩=>hc i j _ s hI h1 h2 λ s' hI'=>aBk hc _ s' hI' h3
end
theorem aBR:∀a:List Int,HT.lexLt a a=false
 |[]=>rfl
 |x::a=>by rw[HT.j7,if_pos rfl];exact aBR a
theorem tK:∀a b c:List Int,HT.lexLt a b=true->HT.lexLt b c=true->HT.lexLt a c=true
 |[],[],c,h,_=>by cases h
 |[],_::_,[],_,h=>by cases h
 |[],_::_,_::_,_,_=>rfl
 |_::_,[],_,h,_=>by cases h
 |_::_,_::_,[],_,h=>by cases h
 |x::a,y::b,z::c,h1,h2=>by
  rw[HT.j7]at h1 h2 ⊢;by_cases e1:x=y
  .subst e1
   rw[if_pos rfl]at h1;by_cases e2:x=z
   .rw[if_pos e2]at h2 ⊢
    exact tK a b c h1 h2
   .rw[if_neg e2]at h2 ⊢
    exact h2
  .rw[if_neg e1]at h1
   simp only[decide_eq_true_eq]at h1;by_cases e2:y=z
   .subst e2
    rw[if_neg e1];simpa using h1
   .rw[if_neg e2]at h2
    simp only[decide_eq_true_eq]at h2;rw[if_neg (by lia)];simp only[decide_eq_true_eq];lia
theorem yS:∀a b:List Int,HT.lexLt a b=false->HT.lexLt b a=false->a=b
 |[],[],_,_=>rfl
 |[],_::_,h,_=>by cases h
 |_::_,[],_,h=>by cases h
 |x::a,y::b,h1,h2=>by
  rw[HT.j7]at h1 h2;by_cases e:x=y
  .subst e
   rw[if_pos rfl]at h1 h2;rw[yS a b h1 h2]
  .rw[if_neg e]at h1
   rw[if_neg λ q=>e q.symm]at h2;simp only[decide_eq_false_iff_not]at h1 h2;lia
def aH8(a b c:List Int)(h:HT.lexLt a c=true):HT.lexLt a b=true\/HT.lexLt b c=true:=by
 cases e1:HT.lexLt a b with
 |true=>exact .inl rfl
 |false=>
  right;cases e2:HT.lexLt b a with
  |true=>exact tK b a c e2 h
  |false=>rw[<-yS a b e1 e2];exact h
def aDx:zCC:=⟨List Int,HT.lexLt,aBR,tK,aH8,yS⟩
inductive bO(h:Heap):List Value->List (List Int)->Prop where
 |nil:bO h [] []
 |cons {x:Addr} {o:Obj} {xs:Array Value} {k:Nat} {ns:List Int} {vs:List Value} {nss:gV} (ho:h.get? x=some o) (hc:o.cls= .type "tuple") (hd:o.data= .seq xs k) (hi:zBM xs.toList ns) (hne:ns≠[]) (r:bO h vs nss):bO h (.ref x::vs) (ns::nss)
theorem bO.mono(k:∀x o,h.get? x=some o->o.cls= .type "tuple"->h'.get? x=some o):∀{vs:List Value} {nss:gV},bO h vs nss->bO h' vs nss
 |_,_,.nil=>.nil
 |_,_,.cons ho hc hd hi hne r=>.cons (k _ _ ho hc) hc hd hi hne (bO.mono k r)
theorem bO.len:∀{vs:List Value} {nss:gV},bO h vs nss->vs.length=nss.length
 |_,_,.nil=>rfl
 |_,_,.cons _ _ _ _ _ r=>by rw[zA3,zA3,r.len]
theorem bO.at:∀{vs:List Value} {nss:gV} {i:Nat},bO h vs nss->i<vs.length->∃x o xs k,vs.getD i zBF= .ref x/\h.get? x=some o/\o.cls= .type "tuple"/\o.data= .seq xs k/\zBM xs.toList (nss.getD i [])/\nss.getD i []≠[]
 |_,_,_,.nil,hi=>by simp at hi
 |_,_,0,.cons ho hc hd hi hne _,_=>⟨_,_,_,_,rfl,ho,hc,hd,hi,hne⟩
 |_,_,i+1,.cons _ _ _ _ _ r,hi=>by
  obtain⟨x,o,xs,k,q⟩:=bO.at (i:=i) r (by simpa using hi);exact⟨x,o,xs,k,by simpa using q⟩
theorem bO.firsts:∀{vs:List Value} {nss:gV},bO h vs nss->∃fs,PySem.W.KatTups h vs fs/\fs.length=vs.length/\∀f∈fs,∃n t,f=zEQ n t
 |_,_,.nil=>⟨[],.nil,rfl,λ f hf=>by simp at hf⟩
 |_,_,.cons (xs:=xs) ho hc hd hi hne r=>by
  obtain⟨fs,h1,h2,h3⟩:=bO.firsts r;obtain⟨l,rfl⟩:∃l:List Value,xs=l.toArray:=⟨xs.toList,by simp⟩
  rw[show l.toArray.toList=l by simp]at hi;cases hi with
  |nil=>exact absurd rfl hne
  |cons n t q=>
   rename_i l' ns';refine⟨.int n t::fs,.cons ho hc hd (by simp) h1,by simp[h2],λ f hf=>?_⟩;rcases zAQ.mp hf with rfl|hf
   .exact⟨n,t,rfl⟩
   .exact h3 f hf
section
variable{prog:zAT}{w:World}{A:zAa}{E:Value->zAD->Prop}{s:zAD}
def aCd:∀{xs ys:List Value} {ns ms:List Int} (i:Nat),zBM xs ns->zBM ys ms->fin=decide (xs.length<ys.length)->Q (HT.lexLt ns ms) s->PySem.W.KatLex prog w A b fin Q (xs.zip ys) i s:=by
 intro xs ys ns ms i hx;induction hx generalizing ys ms i with
 |nil=>intro hy hf q;cases hy<;>(subst hf;exact q)
 |@cons x t xs ns r ih=>
  intro hy hf q;cases hy with
  |nil=>subst hf;exact q
  |@cons y u ys ms r'=>?_
  rw[zBA];refine PySem.W.kat_cons (zGE ?_);rw[HT.j7]at q;by_cases e:x=y
  .rw[if_pos e]at q
   rw[show(x==y)=true by simpa using e];exact PySem.W.kat_yes (ih (i+1) r' (by rw[hf];simp) q)
  .rw[if_neg e]at q
   rw[show(x==y)=false by simpa using e];refine PySem.W.kat_no ?_;cases hb:(b&&i==0)with
   |true=>exact oneLt_int q
   |false=>exact PySem.W.kat_one _ _ (zF2 q)
def aEF(hx:s.heap.get? x=some ox)(dx:ox.data= .seq xs n)(hy:s.heap.get? y=some oy)(dy:oy.data= .seq ys k)(hi:zBM xs.toList ns)(hj:zBM ys.toList ms)
  (q:Q (HT.lexLt ns ms) s):wpAny (model prog w) A (keyLt' (tuples' b) (.ref x) (.ref y)) Q E s:=
 PySem.W.kat_lt hx dx hy dy (aCd 0 hi hj (by simp) q)
def qD(vs:List Value)(p:Array Nat):Array Value:=(p.toList.map λ i=>vs.getD i zBF).toArray
def aIk(h:vs.length<2):(vs.toArray.zip vs.toArray).map (·.2)=qD vs (zAf vs.length).toArray:=by
 cases vs with
 |nil=>simp[qD]
 |cons v t=>
  cases t with
  |nil=>simp[qD]
  |cons u t=>exact absurd h (zGK.mpr (Nat.le_add_left 2 t.length))
def aDw(ho:s.heap.get? a=some (zBr "list" vs.toArray c))(ht:bO s.heap vs nss)(h64:vs.length<64)
  (h:∀p:Array Nat,Pm vs.length p->Up (O:=aDx) (λ i=>nss.getD i []) p vs.length->P (.done (.ret .none)) {s with heap:=zGz s.heap a vs (qD vs p)}):
  wpAny (model prog w) A (zCY.«list.sort» ⟨[.ref a],[]⟩) P E s:=by
 have hlt:a<s.heap.objs.size:=zAR ho;have hz:vs.length<=zAS:=by rw[zCN];lia
 obtain⟨e1,ho1⟩:∃e1,(s.heap.update a (zCH λ _=>(#[]:Array Value))).get? a=some (zBr "list" #[] e1):=⟨_,zEl ho λ _=>#[]⟩
 have keep:∀x o,s.heap.get? x=some o->o.cls= .type "tuple"->(((s.heap.update a (zCH λ _=>(#[]:Array Value))).push (zBr "tuple" vs.toArray 0)).push (zBr "list" #[] 0)).get? x=some o:=λ x o e q=>by
  have hxa:x≠a:=λ z=>by
   subst z;rw[ho]at e;cases e;exact absurd q (show¬(zB4 "list"=zB4 "tuple")by decide)
  refine zAE _ (zAE _ ?_);rw[zDW _ _ _ _ hxa];exact e
 have ho6:(((s.heap.update a (zCH λ _=>(#[]:Array Value))).push (zBr "tuple" vs.toArray 0)).push (zBr "list" #[] 0)).get? a=some (zBr "list" #[] e1):=zAE _ (zAE _ ho1);have ht6:=ht.mono keep;rw[list_sort_plain];refine zAB (zHy ho rfl (zAB (zFW ho rfl ?_ (by rw[zAP];exact hz) (zAp _))));refine zAB (zIP ho1 rfl (zAB (wpAny_newTuple ?_ (by show vs.length<=_;exact hz))));refine zAB (zHR (zB2 ?_) (zAp _));show wpAny (model prog w) A _ P E {s with heap:=((s.heap.update a (zCH λ _=>(#[]:Array Value))).push (zBr "tuple" vs.toArray 0)).push (zBr "list" #[] 0)};dsimp only;have hsz:∀p:Array Nat,Pm vs.length p->(qD vs p).size=vs.length:=λ p a1=>by unfold qD;rw[zAP,zAF,zA0,a1.sz]
 by_cases h2:vs.toArray.size<2
 .rw[if_pos h2,if_pos h2]
  refine zAB (zAG ?_);rw[StateT.run_pure];refine zAB (zAG ?_);have h2':vs.length<2:=by simpa using h2
  have a1:Pm vs.length (zAf vs.length).toArray:=zG3 _;have a3:=aIk h2';dsimp only;refine zAB (zIP ho6 rfl ?_);show wpAny (model prog w) A (Builtin.List.listUpdate (.ref a) (λ _=>(vs.toArray.zip vs.toArray).map (·.2))>>=_) P E _;rw[a3];refine zAB (zFW ho6 rfl ?_ (zAp _) (by show(qD vs _).size<=_;rw[hsz _ a1];lia));simp only[bne_self_eq_false,zA1,if_false];exact zAG (h _ a1 λ i j hij hj=>by rw[show i=j by lia];exact aBR _)
 .rw[if_neg h2,if_neg h2]
  have h2':2<=vs.length:=zIG (show¬vs.length<2 by simpa using h2);obtain⟨fs,f1,f2,f3⟩:=ht6.firsts;refine zAB (PySem.W.kat_kind (T:=.type "int") f1 (by lia) (λ v hv=>?_) (by decide) ?_)
  .obtain⟨n,t,rfl⟩:=f3 v hv
   exact zIe
  rw[show(zB4 "int" !=zB4 "tuple")=true by decide];refine zAB (zBN (PySem.W.kat_run (κ:=tuples' true) (ks:=vs) (vs:=vs) (Q:=λ st s'=>s'={s with heap:=((s.heap.update a (zCH λ _=>(#[]:Array Value))).push (zBr "tuple" vs.toArray 0)).push (zBr "list" #[] 0)}/\∃p:Array Nat,Pm vs.length p/\Up (O:=aDx) (λ i=>nss.getD i []) p vs.length/\(arrOf st).map (·.2)=qD vs p/\zGO st=none)
   (G:=λ p s'=>s'={s with heap:=((s.heap.update a (zCH λ _=>(#[]:Array Value))).push (zBr "tuple" vs.toArray 0)).push (zBr "list" #[] 0)}/\Pm vs.length p/\Up (O:=aDx) (λ i=>nss.getD i []) p vs.length)
   rfl h2' h64 (λ p st s' _ b2 b3 b4=>⟨b4.1,p,b4.2.1,b4.2.2,PySem.W.kat_snds rfl b2,b3⟩) ?_) (λ r s' hr=>?_) λ _ _ e=>e)
  .refine aBk (O:=aDx) (kz:=λ i=>nss.getD i []) (n:=vs.length) (I:=λ s'=>s'={s with heap:=((s.heap.update a (zCH λ _=>(#[]:Array Value))).push (zBr "tuple" vs.toArray 0)).push (zBr "list" #[] 0)}) (λ i j C s' hI hi hj hC=>?_) _ _ rfl (aIm (by lia) λ p a1 a2 s' hs'=>⟨hs',a1,a2⟩)
   subst hI;unfold PySem.W.kas_ask;obtain⟨x,ox,xs,kx,x1,x2,_,x4,x5,_⟩:=ht6.at hi;obtain⟨y,oy,ys,ky,y1,y2,_,y4,y5,_⟩:=ht6.at hj;rw[x1,y1];exact aEF x2 x4 y2 y4 x5 y5 (hC _ rfl)
  .obtain⟨⟨⟩,st⟩:=r
   obtain⟨e,p,b1,b2,b3,b4⟩:=hr;subst e;refine zAB (zIP ho6 rfl ?_);rw[b3,b4];refine zAB (zFW ho6 rfl ?_ (zAp _) (by show(qD vs p).size<=_;rw[hsz p b1];lia));simp only[bne_self_eq_false,zA1,if_false];exact zAG (h p b1 b2)
end
theorem sub_len[BEq α][LawfulBEq α]:∀{l l':List α},l.Nodup->(∀x∈l,x∈l')->l.length<=l'.length
 |[],_,_,_=>zAp _
 |x::l,l',nd,h=>by
  have hx:x∈l':=h x zAH;have ih:=sub_len (l:=l) (l':=l'.erase x) (zBa.mp nd).2 λ y hy=>(List.mem_erase_of_ne λ e=>by subst e;exact(zBa.mp nd).1 hy).mpr (h y (zAI _ hy))
  rw[zDs hx]at ih
  have:0<l'.length:=zEO hx
  rw[zA3];lia
def Ris(xs:Array Nat):Prop:=∀i j,i<j->j<xs.size->xs.getD i 0<xs.getD j 0
theorem aBb(hr:Ris xs):∀(f lo hi:Nat),lo<=hi->hi<=xs.size->hi-lo<=f->(∀i,i<lo->xs.getD i 0<j)->(∀i,hi<=i->i<xs.size->j<=xs.getD i 0)->
  zDG xs j f lo hi<=xs.size/\(∀i,i<zDG xs j f lo hi->xs.getD i 0<j)/\∀i,zDG xs j f lo hi<=i->i<xs.size->j<=xs.getD i 0
 |0,lo,hi,h1,h2,h3,h4,h5=>by
  have e:lo=hi:=by lia
  subst e;exact⟨h2,h4,h5⟩
 |f+1,lo,hi,h1,h2,h3,h4,h5=>by
  unfold zDG;by_cases hl:lo<hi
  .rw[if_pos hl]
   dsimp only;have hm:(lo+hi) / 2<xs.size:=by lia
   have e:xs.getD ((lo+hi) / 2) j=xs.getD ((lo+hi) / 2) 0:=by simp[zBn,hm]
   rw[e];by_cases hc:xs.getD ((lo+hi) / 2) 0<j
   .rw[if_pos hc]
    refine aBb hr f _ hi (by lia) h2 (by lia) (λ i hi'=>?_) h5;by_cases q:i=(lo+hi) / 2
    .rw[q];exact hc
    .exact zCR (hr i ((lo+hi) / 2) (by lia) hm) hc
   .rw[if_neg hc]
    refine aBb hr f lo _ (by lia) (by lia) (by lia) h4 λ i q1 q2=>?_
    by_cases q:i=(lo+hi) / 2
    .rw[q];lia
    .have:=hr ((lo+hi) / 2) i (by lia) q2
     lia
  .rw[if_neg hl]
   have e:lo=hi:=by lia
   subst e;exact⟨h2,h4,h5⟩
def uH(hr:Ris xs)(j:Nat):zAi xs j<=xs.size/\(∀i,i<zAi xs j->xs.getD i 0<j)/\∀i,zAi xs j<=i->i<xs.size->j<=xs.getD i 0:=
 aBb hr xs.size 0 xs.size (zAp _) (zAM _) (by lia) (λ i h=>by lia) λ i h1 h2=>by lia
structure dm(t:zBt)(n:Nat):Prop where
 dum:t.dummies=#[]
 siz:t.place.size=n
 ris:Ris t.place
 top:∀i,i<n->t.place.getD i 0<=t.mask
 msk:t.mask=7/\n<5\/t.mask=31/\n<19\/t.mask=127/\n<77
 pla:t.plain=true
def dm.fresh(led:Bool):dm (zHK 0 0 led) 0:=⟨rfl,rfl,λ i j _ h=>by simp[zHK]at h,λ i h=>by lia,.inl ⟨rfl,by lia⟩,rfl⟩
def dm.few(h:dm t n):n<t.mask:=by
 rcases h.msk with ⟨e,l⟩|⟨e,l⟩|⟨e,l⟩<;>lia
theorem dm.fill(h:dm t n):t.fill=n:=by unfold zH5;rw[h.dum,h.siz];rfl
theorem dm.fits(h:dm t n):t.fits n=true:=by
 unfold zH6;rw[h.fill,h.siz]
 have:=h.few
 simp;lia
def sX(h:dm t n)(j:Nat):t.slot j= .empty\/∃i,i<n/\t.slot j= .live i/\t.place.getD i 0=j:=by
 unfold zH8;dsimp only;by_cases e:(t.place[zAi t.place j]? ==some j)=true
 .rw[if_pos e]
  have e':=beq_iff_eq.mp e;obtain⟨h1,h2⟩:=zBZ.mp e';exact .inr ⟨_,by rw[<-h.siz];exact h1,rfl,by simp[zBn,h1,h2]⟩
 .rw[if_neg e]
  have:zEB t.dummies j=false:=by rw[h.dum];unfold zEB;simp
  rw[this];exact .inl (by simp)
def aBu(h:dm t n)(e:t.slot j= .empty):∀i,i<n->t.place.getD i 0≠j:=by
 intro i hi q;obtain⟨b1,b2,b3⟩:=uH h.ris j;have hb:zAi t.place j=i:=by
  rcases zFE (zAi t.place j) i with z|z|z
  .have z1:=b3 _ (zAM _) (by rw[h.siz];lia)
   have z2:=h.ris _ i z (by rw[h.siz];exact hi);lia
  .exact z
  .have:=b2 i z
   lia
 have hi':i<t.place.size:=by rw[h.siz];exact hi
 have e2:t.place[i]? =some j:=by rw[zBZ];exact⟨hi',by rw[<-q];simp[zBn,hi']⟩
 unfold zH8 at e;dsimp only at e;rw[hb,e2]at e;simp at e
def n6(mask:Nat):Nat->Nat×Nat->Nat×Nat
 |0,st=>st
 |k+1,st=>n6 mask k (zAk mask st.1 st.2)
theorem aC4(mask:Nat):∀(k:Nat) (st:Nat×Nat),(n6 mask k st).2=st.2 / 32^k
 |0,st=>by simp[n6]
 |k+1,st=>by
  show(n6 mask k (zAk mask st.1 st.2)).2=_
  rw[aC4 mask k];show st.2 / 32 / 32^k=_;rw[Nat.div_div_eq_div_mul,Nat.pow_succ,Nat.mul_comm]
theorem aC7(mask:Nat):∀(j k:Nat) (st:Nat×Nat),n6 mask (j+k) st=n6 mask k (n6 mask j st)
 |0,k,st=>by rw[zFP];rfl
 |j+1,k,st=>by
  rw[show j+1+k=(j+k)+1 by lia];exact aC7 mask j k _
def orb(M:Nat):Nat->Nat->Nat
 |0,i=>i
 |k+1,i=>orb M k ((i*5+1)%M)
theorem wY(M:Nat):∀(j k i:Nat),orb M (j+k) i=orb M k (orb M j i)
 |0,k,i=>by rw[zFP];rfl
 |j+1,k,i=>by
  rw[show j+1+k=(j+k)+1 by lia];exact wY M j k _
theorem aC5(mask:Nat):∀(k i:Nat),n6 mask k (i,0)=(orb (mask+1) k i,0)
 |0,i=>rfl
 |k+1,i=>by
  show n6 mask k (zAk mask i 0)=_
  have:zAk mask i 0=((i*5+1)%(mask+1),0):=by simp[zAk]
  rw[this];exact aC5 mask k _
def aFs:∀M∈[8,32,128],(∀t∈zAf M,∃k∈zAf M,orb M k 0=t)/\orb M M 0=0:=by decide+kernel
def aJj(hm:mask=7\/mask=31\/mask=127)(hi:i<=mask)(ht:t<=mask):∃k,k<=mask/\orb (mask+1) k i=t:=by
 have hM:mask+1∈[8,32,128]:=by rcases hm with e|e|e<;>subst e<;>decide
 obtain⟨h1,h2⟩:=aFs _ hM;obtain⟨a,ha,ea⟩:=h1 i (by simp;lia);obtain⟨b,hb,eb⟩:=h1 t (by simp;lia);simp only[zB9]at ha hb;by_cases hab:a<=b
 .refine⟨b-a,by lia,?_⟩
  rw[<-ea,<-wY,show a+(b-a)=b by lia,eb]
 .refine⟨mask+1-a+b,by lia,?_⟩
  rw[<-ea,<-wY,show a+(mask+1-a+b)=(mask+1)+b by lia,wY,h2,eb]
def aKl(h:Int):zAl h<2^64:=by
 unfold zAl;have h1:=zDZ h (show(2^64:Int)≠0 by decide);have h2:=zCm h (show(0:Int)<2^64 by decide);lia
def aC6(hm:mask=7\/mask=31\/mask=127)(h:Int)(ht:t<=mask)(x8:Nat):∃k,k<mask+15/\(n6 mask k (x8,zAl h)).1=t:=by
 have e1:(n6 mask 13 (x8,zAl h)).2=0:=by
  rw[aC4]
  have:=aKl h
  exact Nat.div_eq_of_lt (zCR this (by decide))
 have e2:(n6 mask 13 (x8,zAl h)).1<=mask:=by
  show(n6 mask 12 (zAk mask x8 (zAl h))).1<=mask
  have go:∀k (st:Nat×Nat),st.1<=mask->(n6 mask k st).1<=mask:=by
   intro k;induction k with
   |zero=>intro st q;exact q
   |succ k ih=>
    intro st q;refine ih _ ?_
    show(st.1*5+1+st.2 / 32)%(mask+1)<=mask
    exact zBi (zCu _ (zCc _))
  refine go 12 _ ?_
  show(x8*5+1+zAl h / 32)%(mask+1)<=mask
  exact zBi (zCu _ (zCc _))
 obtain⟨k,hk,ek⟩:=aJj hm e2 ht;refine⟨13+k,by lia,?_⟩;rw[aC7];have e3:n6 mask 13 (x8,zAl h)=((n6 mask 13 (x8,zAl h)).1,0):=by rw[<-e1]
 rw[e3,aC5];exact ek
def uc(hi:i<=mask):i<=zAd mask i/\zAd mask i<=mask/\zAd mask i<=i+9:=by
 unfold zAd;split<;>lia
section
variable{t:zBt}{n:Nat}{hashAt:Nat->Int}{h:Int}
abbrev aEn(t:zBt)(i pert:Nat):zBf:={j:=i,more:=zAd t.mask i-i,i:=i,perturb:=pert,dummy:=none}
def yr(fuel:Nat)(p:zBf):zBU t hashAt h (fuel+1) p=(match t.slot p.j with
  | .empty=>some (.empty p.j p.dummy)
  | .dummy=>zBU t hashAt h fuel (t.advance {p with dummy:=some p.j})
  | .live i=>if hashAt i==h then some (.candidate p.j i (t.advance p))else zBU t hashAt h fuel (t.advance p)):=rfl
theorem aIB(T:dm t n)(hh:∀i,i<n->hashAt i≠h):∀(m fuel:Nat) (p:zBf),p.more=m->p.dummy=none->
  (∃j,p.j<=j/\j<=p.j+m/\t.slot j= .empty/\zBU t hashAt h (fuel+m+1) p=some (.empty j none))\/
  (t.slot p.j≠.empty/\zBU t hashAt h (fuel+m+1) p=zBU t hashAt h fuel (aEn t (zAk t.mask p.i p.perturb).1 (zAk t.mask p.i p.perturb).2))
 |0,fuel,p,hm,hd=>by
  rw[show fuel+0+1=fuel+1 from rfl,yr];rcases sX T p.j with e|⟨i,hi,e,_⟩
  .rw[e]
   exact .inl ⟨p.j,zAM _,zAM _,e,by rw[hd]⟩
  .rw[e]
   right;refine⟨by simp,?_⟩;dsimp only;rw[if_neg (by simpa using hh i hi)];congr 1;unfold zGl;rw[if_neg (by lia)];simp[aEn,hd]
 |m+1,fuel,p,hm,hd=>by
  rw[yr];rcases sX T p.j with e|⟨i,hi,e,_⟩
  .rw[e]
   exact .inl ⟨p.j,zAM _,by lia,e,by rw[hd]⟩
  .rw[e]
   dsimp only;rw[if_neg (by simpa using hh i hi)];have ha:t.advance p={p with j:=p.j+1,more:=p.more-1}:=by
    unfold zGl;rw[if_pos (by lia)]
   rw[ha];rcases aIB T hh m fuel {p with j:=p.j+1,more:=p.more-1} (by show p.more-1=m;lia) hd with ⟨j,q1,q2,q3,q4⟩|⟨q1,q2⟩
   .exact .inl ⟨j,by show p.j<=j;have:p.j+1<=j:=q1;lia,by have:j<=p.j+1+m:=q2;lia,q3,q4⟩
   .exact .inr ⟨by simp,q2⟩
theorem aFN(T:dm t n)(hh:∀i,i<n->hashAt i≠h):∀(N fuel i pert:Nat),i<=t.mask->10*N<=fuel->
  (∃j,j<=t.mask/\t.slot j= .empty/\zBU t hashAt h fuel (aEn t i pert)=some (.empty j none))\/∀k,k<N->t.slot (n6 t.mask k (i,pert)).1≠.empty
 |0,fuel,i,pert,hi,hf=>.inr λ k hk=>by lia
 |N+1,fuel,i,pert,hi,hf=>by
  obtain⟨r1,r2,r3⟩:=uc hi;obtain⟨f',rfl⟩:∃f',fuel=f'+(zAd t.mask i-i)+1:=⟨fuel-(zAd t.mask i-i)-1,by lia⟩
  rcases aIB T hh (zAd t.mask i-i) f' (aEn t i pert) rfl rfl with ⟨j,q1,q2,q3,q4⟩|⟨q1,q2⟩
  .exact .inl ⟨j,by have:j<=i+(zAd t.mask i-i):=q2;lia,q3,q4⟩
  .have hl:(zAk t.mask i pert).1<=t.mask:=zBi (zCu _ (zCc _))
   rcases aFN T hh N f' _ (zAk t.mask i pert).2 hl (by lia)with ⟨j,s1,s2,s3⟩|s
   .exact .inl ⟨j,s1,s2,q2.trans s3⟩
   .right
    intro k hk;cases k with
    |zero=>exact q1
    |succ k=>exact s k (by lia)
def dm.mask3(T:dm t n):t.mask=7\/t.mask=31\/t.mask=127:=by
 rcases T.msk with ⟨e,_⟩|⟨e,_⟩|⟨e,_⟩
 .exact .inl e
 .exact .inr (.inl e)
 .exact .inr (.inr e)
def aDf(T:dm t n)(hh:∀i,i<n->hashAt i≠h):∃j,j<=t.mask/\t.slot j= .empty/\t.probe hashAt h (t.probeStart h)=some (.empty j none):=by
 have hs:zAl h%(t.mask+1)<=t.mask:=zBi (zCu _ (zCc _));rcases aFN T hh (t.mask+15) (10*zAz t.mask) _ (zAl h) hs (by unfold zAz;lia)with z|z
 .exact z
 .exfalso
  have qV:∀x∈zAf (t.mask+1),x∈t.place.toList:=by
   intro x hx;simp only[zB9]at hx;obtain⟨k,hk,ek⟩:=aC6 T.mask3 h (t:=x) (by lia) (zAl h%(t.mask+1))
   have:=z k hk
   rw[ek]at this;rcases sX T x with e|⟨i,hi,_,e⟩
   .exact absurd e this
   .rw[<-e]
    have hi':i<t.place.size:=by rw[T.siz];exact hi
    rw[show t.place.getD i 0=t.place[i]by simp[zBn,hi']];exact zFi hi'
  have:=sub_len zHl qV
  have h2:=T.few;rw[zDt,zA0,T.siz]at this;lia
end
def w5(xs:Array α)(p:Nat)(x d:α)(hp:p<=xs.size)(i:Nat):(zBD xs p x).getD i d=if i<p then xs.getD i d else if i=p then x else xs.getD (i-1) d:=by
 have e:∀(ys:Array α) i,ys.getD i d=(ys.toList[i]?).getD d:=λ ys i=>by rw[zBI,zAb]
 rw[e,e,e,zD9];have hl:p<=xs.toList.length:=by simpa using hp
 by_cases h1:i<p
 .rw[if_pos h1,zC2 (by rw[zBp];lia),List.getElem?_take,if_pos h1]
 .rw[if_neg h1,zD6 (by rw[zBp];lia),zBp,Nat.min_eq_left hl]
  by_cases h2:i=p
  .rw[if_pos h2,h2,Nat.sub_self]
   rfl
  .rw[if_neg h2,show i-p=(i-p-1)+1 by lia,zCi,List.getElem?_drop]
   congr 2;lia
def ym(xs:Array α)(p:Nat)(x:α):(zBD xs p x).size=xs.size+1:=by
 rw[<-zA0,(zFc xs p x).length_eq,zEt];simp
def vG{t:zBt}(hf:t.fill=n):t.tooFull=decide (t.mask*3<=n*5):=by unfold SetTable.tooFull;rw[hf]
structure qb(t:zBt)(n:Nat):Prop where
 dum:t.dummies=#[]
 siz:t.place.size=n
 ris:Ris t.place
 top:∀i,i<n->t.place.getD i 0<=t.mask
 msk:t.mask=7/\n<=5\/t.mask=31/\n<=19\/t.mask=127/\n<77
 pla:t.plain=true
theorem qb.fill(h:qb t n):t.fill=n:=by unfold zH5;rw[h.dum,h.siz];rfl
theorem qb.fits(h:qb t n):t.fits n=true:=by
 unfold zH6;rw[h.fill,h.siz]
 have:=h.msk
 simp;lia
def aLw(T:dm t n)(h64:n<76)(hj:j<=t.mask)(he:t.slot j= .empty):qb (t.put j).1 (n+1)/\(t.put j).2=zAi t.place j/\(t.put j).2<=n/\(t.put j).1.mask=t.mask/\(t.put j).1.led=t.led:=by
 have hno:=aBu T he;obtain⟨b1,b2,b3⟩:=uH T.ris j;have hsz:=T.siz;have hg:=w5 t.place (zAi t.place j) j 0 b1;refine⟨⟨?_,?_,?_,?_,?_,T.pla⟩,rfl,by rw[<-hsz];exact b1,rfl,rfl⟩
 .show(if zEB t.dummies j then SetTable.eraseAt t.dummies (zAi t.dummies j)else t.dummies)=#[]
  rw[T.dum]
  have:zEB #[] j=false:=by unfold zEB;simp
  rw[this];rfl
 .show(zBD t.place _ j).size=n+1
  rw[ym,hsz]
 .intro a b hab hb
  have hb':b<n+1:=by
   have:b<(zBD t.place (zAi t.place j) j).size:=hb
   rw[ym,hsz]at this;exact this
  show(zBD t.place (zAi t.place j) j).getD a 0<(zBD t.place (zAi t.place j) j).getD b 0
  rw[hg,hg];by_cases a1:a<zAi t.place j
  .rw[if_pos a1]
   by_cases c1:b<zAi t.place j
   .rw[if_pos c1];exact T.ris a b hab (by lia)
   .rw[if_neg c1]
    by_cases c2:b=zAi t.place j
    .rw[if_pos c2];exact b2 a a1
    .rw[if_neg c2]
     exact T.ris a (b-1) (by lia) (by lia)
  .rw[if_neg a1,if_neg (show¬b<zAi t.place j by lia),if_neg (show¬b=zAi t.place j by lia)]
   by_cases a2:a=zAi t.place j
   .rw[if_pos a2]
    have q1:=b3 (b-1) (by lia) (by lia);have q2:=hno (b-1) (by lia);lia
   .rw[if_neg a2]
    exact T.ris (a-1) (b-1) (by lia) (by lia)
 .intro i hi
  show(zBD t.place (zAi t.place j) j).getD i 0<=t.mask
  rw[hg];split
  .exact T.top i (by lia)
  .split
   .exact hj
   .exact T.top (i-1) (by lia)
 .have:=T.msk
  show t.mask=7/\n+1<=5\/t.mask=31/\n+1<=19\/t.mask=127/\n+1<77;lia
def qb.still{t:zBt}(h:qb t n)(hf:t.tooFull=false):dm t n:=by
 rw[vG h.fill]at hf;simp only[decide_eq_false_iff_not]at hf;refine⟨h.dum,h.siz,h.ris,h.top,?_,h.pla⟩;rcases h.msk with ⟨e,l⟩|⟨e,l⟩|⟨e,l⟩<;>rw[e]at hf
 .exact .inl ⟨e,by lia⟩
 .exact .inr (.inl ⟨e,by lia⟩)
 .exact .inr (.inr ⟨e,by lia⟩)
def qb.full{t:zBt}(h:qb t n)(h64:n<=76)(hf:t.tooFull=true):n=5\/n=19:=by
 rw[vG h.fill]at hf;simp only[decide_eq_true_eq]at hf
 have:=h.msk
 lia
def heldBy(owner:Array (Option Nat)):List Nat:=owner.toList.filterMap id
theorem yq:∀(l:kX) (j x:Nat),l[j]? =some none->((l.set j (some x)).filterMap id).Perm (x::l.filterMap id)
 |[],j,x,h=>by simp at h
 |a::l,0,x,h=>by
  simp at h;subst h;exact zBS _
 |none::l,j+1,x,h=>by
  have ih:=yq l j x (by simpa using h);simpa using ih
 |some a::l,j+1,x,h=>by
  have ih:=yq l j x (by simpa using h)
  have:(((some a::l).set (j+1) (some x)).filterMap id).Perm (a::x::l.filterMap id):=by
   simpa using ih.cons a
  exact this.trans (zEN _ _ _)
theorem aA8:∀(l:kX),(∀j,j<l.length->∃x,l[j]? =some (some x))->(l.filterMap id).length=l.length
 |[],_=>rfl
 |a::l,h=>by
  obtain⟨x,e⟩:=h 0 (by simp);have ex:a=some x:=by simpa using e
  subst ex;have ih:=aA8 l λ j hj=>by simpa using h (j+1) (by simpa using hj)
  simp[ih]
theorem aFO(ho:owner.size=mask+1):∀(N i pert:Nat),i<=mask->
  (∃j,owner.toList[j]? =some none/\zBB mask owner N i pert=some j)\/∀k,k<N->∃x,owner.toList[(n6 mask k (i,pert)).1]? =some (some x)
 |0,i,pert,hi=>.inr λ k hk=>by lia
 |N+1,i,pert,hi=>by
  obtain⟨r1,r2,r3⟩:=uc hi;have bS:zBB mask owner (N+1) i pert=(match (zAf (zAd mask i+1-i)).find? λ k=>(owner.getD (i+k) (some 0)).isNone with
   |some k=>some (i+k)
   |none=>zBB mask owner N (zAk mask i pert).1 (zAk mask i pert).2):=rfl
  rw[bS];cases hf:(zAf (zAd mask i+1-i)).find? λ k=>(owner.getD (i+k) (some 0)).isNone with
  |some k=>
   left;have h1:=zFn hf;have h2:=List.find?_some hf;simp only[zB9]at h1;have hlt:i+k<owner.size:=by lia
   refine⟨i+k,?_,rfl⟩;have e:owner.getD (i+k) (some 0)=owner[i+k]:=by simp[zBn,hlt]
   rw[e]at h2;rw[zAb,zBZ];exact⟨hlt,by simpa using h2⟩
  |none=>
   have h0:=zHF.mp hf 0 (by simp;lia);have hlt:i<owner.size:=by lia
   have e:owner.getD (i+0) (some 0)=owner[i]:=by simp[zBn,hlt]
   rw[e]at h0;have hl:(zAk mask i pert).1<=mask:=zBi (zCu _ (zCc _));rcases aFO ho N _ (zAk mask i pert).2 hl with ⟨j,s1,s2⟩|s
   .exact .inl ⟨j,s1,s2⟩
   .right
    intro k hk;cases k with
    |zero=>
     show∃x,owner.toList[i]? =some (some x)
     rw[zAb];cases q:owner[i]with
     |none=>rw[q]at h0;simp at h0
     |some x=>exact⟨x,by rw[zBZ];exact⟨hlt,q⟩⟩
    |succ k=>exact s k (by lia)
def aGG(hm:mask=7\/mask=31\/mask=127)(ho:owner.size=mask+1)(hfew:(heldBy owner).length<mask+1)(h:Int):
  ∃j,owner.toList[j]? =some none/\zBB mask owner (zAz mask) (zAl h%(mask+1)) (zAl h)=some j:=by
 rcases aFO ho (zAz mask) _ (zAl h) (zBi (zCu (zAl h) (zCc mask)))with z|z
 .exact z
 .exfalso
  have:=aA8 owner.toList λ j hj=>by
   rw[zA0,ho]at hj;obtain⟨k,hk,ek⟩:=aC6 hm h (t:=j) (by lia) (zAl h%(mask+1));obtain⟨x,e⟩:=z k (by unfold zAz;lia);rw[ek]at e;exact⟨x,e⟩
  unfold heldBy at hfew;rw[this,zA0]at hfew;lia
def gQ(mask:Nat)(acc:Option (Array (Option Nat)×Nat))(h:Int):Option (Array (Option Nat)×Nat):=do
 let(owner,k) <-acc
 let j <-zBB mask owner (zAz mask) (zAl h%(mask+1)) (zAl h)
 pure (owner.setIfInBounds j (some k),k+1)
theorem yc(hm:mask=7\/mask=31\/mask=127):∀(hs:List Int) (owner:Array (Option Nat)) (k:Nat),owner.size=mask+1->(heldBy owner).Perm (zAf k)->k+hs.length<=mask->
  ∃owner',hs.foldl (gQ mask) (some (owner,k))=some (owner',k+hs.length)/\owner'.size=mask+1/\(heldBy owner').Perm (zAf (k+hs.length))
 |[],owner,k,ho,hp,hl=>⟨owner,rfl,ho,hp⟩
 |h::hs,owner,k,ho,hp,hl=>by
  rw[zA3]at hl;obtain⟨j,e1,e2⟩:=aGG hm ho (by rw[hp.length_eq,zDt];lia) h;have hst:gQ mask (some (owner,k)) h=some (owner.setIfInBounds j (some k),k+1):=by
   unfold gQ;simp[e2]
  rw[zBP,hst];obtain⟨o',f1,f2,f3⟩:=yc hm hs (owner.setIfInBounds j (some k)) (k+1) (by simpa using ho) (by
   unfold heldBy;rw[zDY];refine(yq owner.toList j k e1).trans ?_;rw[zID];exact(zGs k hp).trans (List.perm_append_singleton k _).symm) (by lia)
  refine⟨o',?_,f2,?_⟩
  .rw[f1,zA3,show k+1+hs.length=k+(hs.length+1)by lia]
  .rw[zA3,show k+(hs.length+1)=k+1+hs.length by lia]
   exact f3
def aCj(m:Nat):heldBy (zDT m none)=[]:=by
 unfold heldBy;rw[zGI];induction m with
 |zero=>rfl
 |succ m ih=>rw[zB6];simpa using ih
def aCb(hm:mask=7\/mask=31\/mask=127)(hs:Array Int)(hl:hs.size<=mask):∃owner,zD8 mask hs=some owner/\owner.size=mask+1/\(heldBy owner).Perm (zAf hs.size):=by
 obtain⟨o',f1,f2,f3⟩:=yc hm hs.toList (zDT (mask+1) none) 0 (by simp) (by rw[aCj];exact zBS _) (by simpa using hl);refine⟨o',?_,f2,by simpa using f3⟩;have e:zD8 mask hs=(hs.foldl (gQ mask) (some (zDT (mask+1) none,0))).map (·.1):=rfl;rw[e,<-zGq,f1];rfl
def dU(owner:Array (Option Nat))(m:Nat):List (Nat×Nat):=(zAf m).filterMap λ j=>(owner.getD j none).map (j,·)
theorem aC1:∀(l:kX) (b:Nat) (f:Nat->Option Nat),(∀i,i<l.length->f (b+i)=(l[i]?).getD none)->
  ((zGv b l.length).filterMap λ j=>(f j).map (j,·)).map (·.2)=l.filterMap id
 |[],_,_,_=>rfl
 |a::l,b,f,h=>by
  have h0:=h 0 (by simp);simp at h0;have ih:=aC1 l (b+1) f λ i hi=>by
   have:=h (i+1) (by simpa using hi)
   rw[show b+(i+1)=b+1+i by lia]at this;simpa using this
  rw[zA3,zHn,zBR,h0];cases a with
  |none=>simpa using ih
  |some x=>simpa using ih
def aDu(owner:Array (Option Nat)):(dU owner owner.size).map (·.2)=heldBy owner:=by
 have:=aC1 owner.toList 0 (λ j=>owner.getD j none) λ i hi=>by
  rw[zFP,zBI,zAb]
 unfold dU heldBy;rw[zDJ,<-this,zA0]
theorem aC2(f:Nat->Option Nat):∀(m b:Nat),(((zGv b m).filterMap λ j=>(f j).map (j,·)).map (·.1)).Pairwise (·< ·)/\∀x∈((zGv b m).filterMap λ j=>(f j).map (j,·)).map (·.1),b<=x/\x<b+m
 |0,b=>⟨.nil,λ x hx=>by simp at hx⟩
 |m+1,b=>by
  obtain⟨ih1,ih2⟩:=aC2 f m (b+1);rw[zHn,zBR];cases hf:f b with
  |none=>
   simp only[zH2];exact⟨ih1,λ x hx=>by have:=ih2 x hx;lia⟩
  |some y=>
   simp only[zCO,zAC];refine⟨zAx.mpr ⟨λ x hx=>by have:=ih2 x hx;lia,ih1⟩,λ x hx=>?_⟩;rcases zAQ.mp hx with e|hx
   .lia
   .have:=ih2 x hx
    lia
def aD4{l:List Nat}(h:l.Pairwise (·< ·)):Ris l.toArray:=by
 intro i j hij hj;have hj':j<l.length:=by simpa using hj
 have e:∀k,k<l.length->l.toArray.getD k 0=l[k]!:=λ k hk=>by simp[zBn,hk]
 have:=zC6.mp h i j (by lia) hj' hij
 simp[zBn,hj',show i<l.length by lia];exact this
def aGv{t:zBt}(hp:t.plain=true)(hn:n=5\/n=19)(hs:Array Int)(hl:hs.size=n):
  ∃t' order,t.relaid hs (zCn n)=some (t',order)/\dm t' n/\t'.led=t.led/\order.toList.Perm (zAf n):=by
 have hm:∃mask,zE4 (zCn n)-1=mask/\(mask=31/\n=5\/mask=127/\n=19):=by
  rcases hn with e|e<;>subst e
  .exact⟨31,by decide,.inl ⟨rfl,rfl⟩⟩
  .exact⟨127,by decide,.inr ⟨rfl,rfl⟩⟩
 obtain⟨mask,em,hmn⟩:=hm;have hm3:mask=7\/mask=31\/mask=127:=by lia
 obtain⟨owner,o1,o2,o3⟩:=aCb hm3 hs (by lia);have hsnd:=aDu owner;obtain⟨r1,r2⟩:=aC2 (λ j=>owner.getD j none) (mask+1) 0;rw[<-zDJ]at r1 r2;have oQ:((dU owner (mask+1)).map (·.1)).length=n:=by
  rw[zAF,<-zAF (f:=(·.2)),<-o2,hsnd,o3.length_eq,zDt,hl]
 refine⟨{mask:=mask,place:=((dU owner (mask+1)).map (·.1)).toArray,dummies:=#[],finger:=t.finger,led:=t.led,moves:=t.movedTo mask,plain:=t.plain},((dU owner (mask+1)).map (·.2)).toArray,?_,⟨rfl,?_,aD4 r1,?_,?_,hp⟩,rfl,?_⟩
 .unfold zGx zH7
  rw[em,o1];rfl
 .simpa using oQ
 .intro i hi
  have hi':i<((dU owner (mask+1)).map (·.1)).length:=by rw[oQ];exact hi
  show((dU owner (mask+1)).map (·.1)).toArray.getD i 0<=mask
  have:((dU owner (mask+1)).map (·.1)).toArray.getD i 0=((dU owner (mask+1)).map (·.1))[i]:=by
   rw[zBI,List.getElem?_toArray,zAJ hi'];rfl
  rw[this]
  have:=r2 _ (zEG hi')
  lia
 .show mask=7/\n<5\/mask=31/\n<19\/mask=127/\n<77
  lia
 .show((dU owner (mask+1)).map (·.2)).Perm (zAf n)
  rw[<-o2,hsnd,<-hl];exact o3
def aEY(mask:Nat)(p:zBf):zBf:=
 if p.more>0 then{p with j:=p.j+1,more:=p.more-1}else
 {p with j:=(zAk mask p.i p.perturb).1,more:=zAd mask (zAk mask p.i p.perturb).1-(zAk mask p.i p.perturb).1,i:=(zAk mask p.i p.perturb).1,perturb:=(zAk mask p.i p.perturb).2}
abbrev aFe(mask i pert:Nat):zBf:={j:=i,more:=zAd mask i-i,i:=i,perturb:=pert,dummy:=none}
def pst(mask:Nat)(h:Int):Nat->zBf
 |0=>aFe mask (zAl h%(mask+1)) (zAl h)
 |k+1=>aEY mask (pst mask h k)
def aI7(mask:Nat)(p:zBf):(aEY mask p).dummy=p.dummy:=by unfold aEY;split<;>rfl
theorem aEr(mask:Nat)(h:Int):∀k,(pst mask h k).dummy=none
 |0=>rfl
 |k+1=>(aI7 mask _).trans (aEr mask h k)
def kW(mask:Nat)(L:List (Int×Nat)):Prop:=∀e∈L,∃k,(pst mask e.1 k).j=e.2/\k<10*zAz mask/\∀k',k'<k->∃e'∈L,e'.2=(pst mask e.1 k').j
def kW.perm(h:kW mask L)(p:L'.Perm L):kW mask L':=λ e he=>by
 obtain⟨k,a,b,c⟩:=h e (p.mem_iff.mp he);exact⟨k,a,b,λ k' hk=>by obtain⟨e',x,y⟩:=c k' hk;exact⟨e',p.mem_iff.mpr x,y⟩⟩
def kW.cons(h:kW mask L)(hx:∃k,(pst mask x.1 k).j=x.2/\k<10*zAz mask/\∀k',k'<k->∃e'∈L,e'.2=(pst mask x.1 k').j):kW mask (x::L):=λ e he=>by
 rcases zAQ.mp he with rfl|he
 .obtain⟨k,a,b,c⟩:=hx
  exact⟨k,a,b,λ k' hk=>by obtain⟨e',x,y⟩:=c k' hk;exact⟨e',zAI _ x,y⟩⟩
 .obtain⟨k,a,b,c⟩:=h e he
  exact⟨k,a,b,λ k' hk=>by obtain⟨e',x,y⟩:=c k' hk;exact⟨e',zAI _ x,y⟩⟩
section
variable{t:zBt}{n:Nat}{hashAt:Nat->Int}{h:Int}
def aAN(T:dm t n)(hi:i<n):t.slot (t.place.getD i 0)= .live i:=by
 rcases sX T (t.place.getD i 0)with e|⟨i',h1,h2,h3⟩
 .exact absurd rfl (aBu T e i hi)
 .have:i'=i:=by
   rcases zFE i' i with z|z|z
   .have:=T.ris i' i z (by rw[T.siz];exact hi);lia
   .exact z
   .have:=T.ris i i' z (by rw[T.siz];exact h1);lia
  rw[h2,this]
theorem aCk(T:dm t n)(hi:i<n)(hh:hashAt i=h)(hu:∀i',i'<n->hashAt i'=h->i'=i):∀(d k fuel:Nat),(pst t.mask h (k+d)).j=t.place.getD i 0->d<fuel->(∀k',k'<k+d->∃i',i'<n/\t.place.getD i' 0=(pst t.mask h k').j)->
  ∃j nx,zBU t hashAt h fuel (pst t.mask h k)=some (.candidate j i nx)
 |d,k,0,_,hf,_=>by lia
 |0,k,fuel+1,hj,hf,hp=>by
  rw[yr];have hj':(pst t.mask h k).j=t.place.getD i 0:=hj;rw[hj',aAN T hi];dsimp only;rw[if_pos (by simp[hh])];exact⟨_,_,rfl⟩
 |d+1,k,fuel+1,hj,hf,hp=>by
  rw[yr];obtain⟨i',h1,h2⟩:=hp k (by lia);rw[<-h2,aAN T h1];dsimp only;by_cases e:hashAt i'=h
  .rw[if_pos (by simp[e]),hu i' h1 e]
   exact⟨_,_,rfl⟩
  .rw[if_neg (by simpa using e)]
   exact aCk T hi hh hu d (k+1) fuel (by rw[show k+1+d=k+(d+1)by lia];exact hj) (by lia) (by rw[show k+1+d=k+(d+1)by lia];exact hp)
theorem aIA(T:dm t n):∀(fuel k:Nat),zBU t hashAt h fuel (pst t.mask h k)=some (.empty j none)->∃K,k<=K/\K<k+fuel/\(pst t.mask h K).j=j/\∀k',k<=k'->k'<K->∃i',i'<n/\t.place.getD i' 0=(pst t.mask h k').j
 |0,k,e=>by cases e
 |fuel+1,k,e=>by
  rw[yr]at e;rcases sX T (pst t.mask h k).j with q|⟨i,hi,q,hp⟩
  .rw[q]at e
   dsimp only at e;rw[aEr]at e;injection e with e
   injection e with e
   exact⟨k,zAM _,by lia,e,λ k' a b=>by lia⟩
  .rw[q]at e
   dsimp only at e;split at e
   .cases e
   .obtain⟨K,a,b,c,d⟩:=aIA T fuel (k+1) e
    refine⟨K,by lia,by lia,c,λ k' a' b'=>?_⟩;by_cases z:k'=k
    .subst z;exact⟨i,hi,hp⟩
    .exact d k' (by lia) b'
end
def tlS(t:zBt)(es:iX):List (Int×Nat):=(es.toList.map (·.1)).zip t.place.toList
def aKw(T:dm t es.size)(hi:i<es.size):(es[i].1,t.place.getD i 0)∈tlS t es:=by
 have h2:i<t.place.size:=by rw[T.siz];exact hi
 refine zEY.mpr ⟨i,?_⟩;unfold tlS;rw[zC4];constructor
 .rw[zA2,zAb,zAm hi];rfl
 .rw[zAb,zAm h2]
  simp[zBn,h2]
def aL8(T:dm t es.size)(he:e∈tlS t es):∃i,i<es.size/\t.place.getD i 0=e.2:=by
 obtain⟨i,hi⟩:=zEY.mp he;unfold tlS at hi;have h:=(zC4.mp hi).2;rw[zAb]at h;obtain⟨h1,h2⟩:=zBZ.mp h;exact⟨i,by rw[<-T.siz];exact h1,by simp[zBn,h1,h2]⟩
def aCQ(T:dm t es.size)(P:kW t.mask (tlS t es))(hi:i<es.size)(hu:∀i' (q:i'<es.size),es[i'].1=es[i].1->i'=i):
  ∃j nx,t.probe (λ i=>(es[i]?.map (·.1)).getD 0) es[i].1 (t.probeStart es[i].1)=some (.candidate j i nx):=by
 obtain⟨k,a,b,c⟩:=P _ (aKw T hi);have hat:∀i' (q:i'<es.size),(es[i']?.map (·.1)).getD 0=es[i'].1:=λ i' q=>by rw[zAm q];rfl
 have:=aCk (hashAt:=λ i=>(es[i]?.map (·.1)).getD 0) T hi (hat i hi) (λ i' q e=>hu i' q ((hat i' q).symm.trans e)) k 0 (10*zAz t.mask) (by rw[zFP];exact a) b λ k' hk=>by
  obtain⟨e',x,y⟩:=c k' (by lia);obtain⟨i',z1,z2⟩:=aL8 T x;exact⟨i',z1,z2.trans y⟩
 unfold SetTable.probe;exact this
def aFj(T:dm t es.size)(e:t.probe hashAt h (t.probeStart h)=some (.empty j none)):∃k,(pst t.mask h k).j=j/\k<10*zAz t.mask/\∀k',k'<k->∃e'∈tlS t es,e'.2=(pst t.mask h k').j:=by
 obtain⟨K,a,b,c,d⟩:=aIA T (10*zAz t.mask) 0 e;refine⟨K,c,by lia,λ k' hk=>?_⟩;obtain⟨i',h1,h2⟩:=d k' (zAp _) hk;exact⟨_,aKw T h1,h2⟩
def aL7(T:dm t es.size)(hp:p<=es.size):(((zBD es p x).toList.map (·.1)).zip (zBD t.place p j).toList).Perm ((x.1,j)::tlS t es):=by
 rw[zD9,zD9,zAg,zAC];have hs:=T.siz;rw[zIE (by simp[hs]),zBA];refine zHm.trans (zGs _ ?_)
 have:tlS t es=((es.toList.map (·.1)).take p++(es.toList.map (·.1)).drop p).zip (t.place.toList.take p++t.place.toList.drop p):=by rw[zCz,zCz];rfl
 rw[this,zIE (by simp[hs]),zIW,zIV]
theorem wX(e:pst mask h k=aFe mask i pert):∀m,m<=zAd mask i-i->pst mask h (k+m)={aFe mask i pert with j:=i+m,more:=zAd mask i-i-m}
 |0,_=>by rw[Nat.add_zero,e];simp
 |m+1,hm=>by
  show aEY mask (pst mask h (k+m))=_;rw[wX e m (by lia)];unfold aEY;rw[if_pos (show zAd mask i-i-m>0 by lia)];simp;lia
def aHG(e:pst mask h k=aFe mask i pert):pst mask h (k+(zAd mask i-i)+1)=aFe mask (zAk mask i pert).1 (zAk mask i pert).2:=by
 show aEY mask (pst mask h (k+(zAd mask i-i)))=_;rw[wX e _ (zAM _)];unfold aEY;rw[if_neg (by show¬zAd mask i-i-(zAd mask i-i)>0;lia)]
theorem aCl(ho:owner.size=mask+1):∀(N i pert k:Nat),i<=mask->pst mask h k=aFe mask i pert->zBB mask owner N i pert=some j->
  ∃K,k<=K/\K<k+10*N/\(pst mask h K).j=j/\∀k',k<=k'->k'<K->∃x,owner.toList[(pst mask h k').j]? =some (some x)
 |0,i,pert,k,hi,e,q=>by cases q
 |N+1,i,pert,k,hi,e,q=>by
  obtain⟨r1,r2,r3⟩:=uc hi;have bS:zBB mask owner (N+1) i pert=(match (zAf (zAd mask i+1-i)).find? λ k=>(owner.getD (i+k) (some 0)).isNone with
   |some k=>some (i+k)
   |none=>zBB mask owner N (zAk mask i pert).1 (zAk mask i pert).2):=rfl
  rw[bS]at q;have full:∀m,m<=zAd mask i-i->((owner.getD (i+m) (some 0)).isNone)=false->∃x,owner.toList[(pst mask h (k+m)).j]? =some (some x):=λ m hm z=>by
   rw[wX e m hm]
   show∃x,owner.toList[i+m]? =some (some x)
   have hlt:i+m<owner.size:=by lia
   rw[show owner.getD (i+m) (some 0)=owner[i+m]by simp[zBn,hlt]]at z;rw[zAb];cases w:owner[i+m]with
   |none=>rw[w]at z;cases z
   |some x=>exact⟨x,by rw[zBZ];exact⟨hlt,w⟩⟩
  cases hf:(zAf (zAd mask i+1-i)).find? λ k=>(owner.getD (i+k) (some 0)).isNone with
  |some m=>
   rw[hf]at q;cases q;have h1:=zFn hf;simp only[zB9]at h1;refine⟨k+m,by lia,by lia,by rw[wX e m (by lia)],λ k' a b=>?_⟩;obtain⟨d,rfl⟩:∃d,k'=k+d:=⟨k'-k,by lia⟩
   refine full d (by lia) ?_
   have:=(List.find?_range_eq_some.mp hf).2.2 d (by lia)
   exact(zDr _).mp this
  |none=>
   rw[hf]at q;have hl:(zAk mask i pert).1<=mask:=zBi (zCu _ (zCc _));obtain⟨K,a,b,c,d⟩:=aCl ho N _ _ _ hl (aHG e) q;refine⟨K,by lia,by lia,c,λ k' a' b'=>?_⟩;by_cases z:k'<k+(zAd mask i-i)+1
   .obtain⟨m,rfl⟩:∃m,k'=k+m:=⟨k'-k,by lia⟩
    refine full m (by lia) ?_;exact zHT.mpr (zHF.mp hf m (by simp;lia))
   .exact d k' (by lia) b'
def aIb(mask:Nat)(hs:List Int)(owner:Array (Option Nat)):Prop:=∀j x,owner.toList[j]? =some (some x)->∃h,hs[x]? =some h/\∃K,(pst mask h K).j=j/\K<10*zAz mask/\∀k',k'<K->∃y,owner.toList[(pst mask h k').j]? =some (some y)
def aIb.set{K k j:Nat}(O:aIb mask hs owner)(hx:hs[k]? =some h)(hK:(pst mask h K).j=j)(hK2:K<10*zAz mask)(hp:∀k',k'<K->∃y,owner.toList[(pst mask h k').j]? =some (some y)):aIb mask hs (owner.setIfInBounds j (some k)):=by
 have keep:∀(a:Nat),(∃y,owner.toList[a]? =some (some y))->∃y,(owner.setIfInBounds j (some k)).toList[a]? =some (some y):=λ a ⟨y,e⟩=>by
  rw[zDY,zHX];by_cases z:j=a
  .subst z
   rw[if_pos rfl]
   have:=(zAO.mp e).1
   exact⟨k,by rw[if_pos this]⟩
  .rw[if_neg z];exact⟨y,e⟩
 intro a x e;rw[zDY,zHX]at e;by_cases z:j=a
 .subst z
  rw[if_pos rfl]at e;split at e
  .cases e
   exact⟨h,hx,K,hK,hK2,λ k' q=>keep _ (hp k' q)⟩
  .cases e
 .rw[if_neg z]at e
  obtain⟨h',a1,K',a2,a3,a4⟩:=O a x e;exact⟨h',a1,K',a2,a3,λ k' q=>keep _ (a4 k' q)⟩
theorem aFE(all:List Int):∀(hs:List Int) (owner:Array (Option Nat)) (k:Nat),owner.size=mask+1->all.drop k=hs->aIb mask all owner->∀o' k',hs.foldl (gQ mask) (some (owner,k))=some (o',k')->aIb mask all o'
 |[],owner,k,ho,hd,O,o',k',e=>by cases e;exact O
 |h::hs,owner,k,ho,hd,O,o',k',e=>by
  rw[zBP]at e;cases q:zBB mask owner (zAz mask) (zAl h%(mask+1)) (zAl h)with
  |none=>
   have hst:gQ mask (some (owner,k)) h=none:=by unfold gQ;simp[q]
   rw[hst]at e
   have:∀l:List Int,l.foldl (gQ mask) none=none:=λ l=>by induction l with
    |nil=>rfl
    |cons a l ih=>rw[zBP];exact ih
   rw[this]at e;cases e
  |some j=>
   have hst:gQ mask (some (owner,k)) h=some (owner.setIfInBounds j (some k),k+1):=by unfold gQ;simp[q]
   rw[hst]at e;obtain⟨K,a,b,c,d⟩:=aCl (h:=h) ho (zAz mask) _ _ 0 (zBi (zCu _ (zCc _))) rfl q;have hk:all[k]? =some h:=by
    have:=congrArg (·[0]?) hd
    simpa using this
   refine aFE all hs _ (k+1) (by simpa using ho) ?_ (O.set hk c (by lia) λ k' q=>d k' (zAp _) q) o' k' e
   have:=congrArg (List.drop 1) hd
   rw[zFm]at this;simpa using this
def yV(h:p∈dU owner m):owner.toList[p.1]? =some (some p.2):=by
 unfold dU at h;obtain⟨j,hj,e⟩:=zBc.mp h;cases q:owner.getD j none with
 |none=>rw[q]at e;cases e
 |some x=>
  rw[q]at e;cases e;rw[zAb];rw[zBI]at q;cases w:owner[j]? with
  |none=>rw[w]at q;cases q
  |some y=>rw[w]at q;rw[show y=some x from q]
def aDv(hj:j<m)(h:owner.toList[j]? =some (some x)):(j,x)∈dU owner m:=by
 unfold dU;refine zBc.mpr ⟨j,zB9.mpr hj,?_⟩;rw[zAb]at h;rw[zBI,h];rfl
theorem aFP(es:iX):∀l:List (Nat×Nat),(∀p∈l,∃h,(es.toList.map (·.1))[p.2]? =some h)->((l.map (·.2)).filterMap (es[·]?)).map (·.1)=l.map λ p=>((es.toList.map (·.1))[p.2]?).getD 0
 |[],_=>rfl
 |p::l,h=>by
  obtain⟨x,e⟩:=h p zAH;have ih:=aFP es l λ q hq=>h q (zAI _ hq)
  rw[zAC,zAC,zBR];have e':=e;rw[zA2,zAb]at e';cases w:es[p.2]? with
  |none=>rw[w]at e';cases e'
  |some y=>
   rw[w]at e';dsimp only;rw[zAC,ih,e];rw[show y.1=x from zAq e'];rfl
theorem aBj(f:α->β)(g:α->γ):∀l:List α,(l.map f).zip (l.map g)=l.map λ a=>(f a,g a)
 |[]=>rfl
 |a::l=>by rw[zAC,zAC,zBA,aBj f g l];rfl
def aFg{t:zBt}(hn:n=5\/n=19)(es:iX)(hl:es.size=n)(e:t.relaid (es.map (·.1)) (zCn n)=some (t',order)):kW t'.mask (tlS t' (order.filterMap (es[·]?))):=by
 have hm:∃mask,zE4 (zCn n)-1=mask/\(mask=31/\n=5\/mask=127/\n=19):=by
  rcases hn with e|e<;>subst e
  .exact⟨31,by decide,.inl ⟨rfl,rfl⟩⟩
  .exact⟨127,by decide,.inr ⟨rfl,rfl⟩⟩
 obtain⟨mask,em,hmn⟩:=hm;have hm3:mask=7\/mask=31\/mask=127:=by lia
 obtain⟨owner,f1,f2,f3⟩:=yc hm3 (es.map (·.1)).toList (zDT (mask+1) none) 0 (by simp) (by rw[aCj];exact zBS _) (by simp;lia);have o1:zD8 mask (es.map (·.1))=some owner:=by
  have e:zD8 mask (es.map (·.1))=((es.map (·.1)).foldl (gQ mask) (some (zDT (mask+1) none,0))).map (·.1):=rfl;rw[e,<-zGq,f1];rfl
 have O:=aFE (mask:=mask) (es.map (·.1)).toList _ _ 0 (by simp) rfl (λ j x q=>by
  rw[zGI,zDz]at q;split at q<;>cases q) _ _ f1
 unfold zGx zH7 at e;rw[em,o1]at e;cases e;rw[Array.toList_map]at O;show kW mask _;have et:tlS {mask:=mask,place:=((dU owner (mask+1)).map (·.1)).toArray,dummies:=#[],finger:=t.finger,led:=t.led,moves:=t.movedTo mask,plain:=t.plain} (((dU owner (mask+1)).map (·.2)).toArray.filterMap (es[·]?))=(dU owner (mask+1)).map λ p=>(((es.toList.map (·.1))[p.2]?).getD 0,p.1):=by
  unfold tlS;rw[zGH,aFP es _ λ p hp=>by
   obtain⟨h,q,_⟩:=O p.1 p.2 (yV hp);exact⟨h,q⟩]
  exact aBj _ _ _
 show kW mask (tlS {mask:=mask,place:=((dU owner (mask+1)).map (·.1)).toArray,dummies:=#[],finger:=t.finger,led:=t.led,moves:=t.movedTo mask,plain:=t.plain} (((dU owner (mask+1)).map (·.2)).toArray.filterMap (es[·]?)));rw[et];intro e he;obtain⟨p,hp,rfl⟩:=zAU.mp he;obtain⟨h,q,K,a,b,c⟩:=O p.1 p.2 (yV hp);dsimp only;rw[q];refine⟨K,a,b,λ k' hk=>?_⟩;obtain⟨y,z⟩:=c k' hk;refine⟨_,zAU.mpr ⟨((pst mask h k').j,y),aDv ?_ z,rfl⟩,rfl⟩
 have:=(zAO.mp z).1
 rw[zA0,f2]at this;exact this
abbrev cF(es:iX)(ep:Nat)(t:zBt):Obj:={cls:=.type "set",dict:=none,data:=.set es ep t}
def SetT(h:Heap)(a:Addr)(es:iX)(t:zBt):Prop:=∃ep,h.get? a=some (cF es ep t)
structure TupAt(h:Heap)(x:Addr)(ns:List Int):Prop where
 ex:∃o xs k,h.get? x=some o/\o.cls= .type "tuple"/\o.data= .seq xs k/\zBM xs.toList ns
theorem lF:∀{vs:List Value} {ns:List Int},zBM vs ns->ItemsAre (zIO prog w) ns vs
 |_,_,.nil=>.nil
 |_,_,.cons n t r=>.cons (intKind_is _ _ n t) (lF r)
section
variable{prog:zAT}{w:World}{A:zAa}{E:Value->zAD->Prop}{s:zAD}
theorem lX{fuel:Nat}:∀{vs:List Value} {ns:List Int},zBM vs ns->∀v∈vs,zGV fuel v=pure true
 |_,_,.nil,v,hv=>by simp at hv
 |_,_,.cons n t r,v,hv=>by
  rcases zAQ.mp hv with rfl|hv
  .cases fuel<;>rfl
  .exact lX r v hv
def wL{x:Addr}(hx:TupAt s.heap x ns)(h:Q true s):wpAny (model prog w) A (zGV 8 (.ref x)) Q E s:=by
 obtain⟨o,xs,k,ho,hc,hd,hi⟩:=hx.ex;have hT:s.TypeIs (.ref x) "tuple":=⟨o,ho,hc⟩;unfold zGV;refine zAB (zEo hT PySem.F.slot_tuple_hash.lookup ?_);dsimp only;refine zAB (zEL ho hd ?_);refine zAB ?_;show wpAny (model prog w) A (forIn xs _ _) _ _ _;rw[<-zGr];refine zBN (zD3 _ (λ rest b s'=>b.1=none/\s'=s/\∀v∈rest,zGV 7 v=pure true) (λ b s'=>b.1=none/\s'=s) ?_ ?_ _ _ ⟨rfl,rfl,lX hi⟩) ?_ λ _ _ e=>e
 .rintro v rest b s' ⟨hb,rfl,hr⟩
  rw[hr v zAH];refine zAB (zAG ?_);simp only[zCe,zA1,if_false];exact zAG ⟨rfl,rfl,λ u hu=>hr u (zAI _ hu)⟩
 .rintro b s' ⟨hb,rfl,_⟩
  exact⟨hb,rfl⟩
 .rintro⟨b1,b2⟩ s' ⟨hb,rfl⟩
  dsimp only at hb;subst hb;exact zAG h
def aG9(ho:s.heap.get? a=some (cF es ep t))(hz:es'.size<=4000)
  (h:(s.heap.update a (zHq es' t')).get? a=some (cF es' (ep+1) t')->Q () {s with heap:=s.heap.update a (zHq es' t')}):wpAny (model prog w) A (storeSet a es' t') Q E s:=by
 refine wpAny_storeSet_of ho rfl (h ?_) (by rw[zCN];lia)
 have:=zEU (zHq es' t') ho (by rw[putSet_of es' t' rfl];rfl)
 rw[putSet_of es' t' rfl]at this;exact this
def xV(ho:s.heap.get? a=some (cF es ep t))(T:dm t es.size)(hne:∀e∈es.toList,e.1≠h)
  (q:∀j,j<=t.mask->t.slot j= .empty->(∃k,(pst t.mask h k).j=j/\k<10*zAz t.mask/\∀k',k'<k->∃e'∈tlS t es,e'.2=(pst t.mask h k').j)->Q (.free j false) s):wpAny (model prog w) A (zHz a x h true) Q E s:=by
 unfold zHz;unfold setSearchFrom;refine zAB (zBO ho rfl T.fits ?_);dsimp only;have hg:t.gaveWay=false:=by
  unfold zGm;rcases T.mask3 with e|e|e<;>rw[e]<;>decide
 rw[hg];simp only[zA1,if_false];obtain⟨j,j1,j2,j3⟩:=aDf (hashAt:=λ i=>(es[i]?.map (·.1)).getD 0) T (h:=h) λ i hi=>by
  have e:es[i]? =some es[i]:=zAm hi;rw[e];exact hne _ (zFi hi)
 have j3':t.probe (λ i=>(es[i]?.map (·.1)).getD 0) h ((none:Option zBf).getD (t.probeStart h))=some (.empty j none):=j3;split
 .rename_i met heq
  have e:some met=some (.empty j none):=heq.symm.trans j3';cases e;exact zAG (q j j1 j2 (aFj T j3))
 .rename_i hno
  exact(hno _ j3').elim
def TupAt.key(hx:TupAt h x ns):IsTupleKey (zIO prog w) h ns x:=let⟨o,xs,k,a,b,c,d⟩:=hx.ex;⟨o,xs,k,a,b,c,lF d⟩
theorem tH{fuel:Nat}:∀{vs:List Value} {ns:List Int},zBM vs ns->∀v∈vs,zER fuel v=pure false
 |_,_,.nil,v,hv=>by simp at hv
 |_,_,.cons n t r,v,hv=>by
  rcases zAQ.mp hv with rfl|hv
  .cases fuel<;>rfl
  .exact tH r v hv
def vP(hx:TupAt s.heap x ns)(h:Q false s):wpAny (model prog w) A (zER 8 (.ref x)) Q E s:=by
 obtain⟨o,xs,k,ho,hc,hd,hi⟩:=hx.ex;unfold zER;refine zAB (zCr (T:="tuple") ⟨o,ho,hc⟩ ?_);dsimp only;rw[if_pos (by decide)];refine zAB (zAG ?_);simp only[zCe,zA1,if_false];refine zAB (zEL ho hd ?_);refine zAB ?_;show wpAny _ _ (forIn xs _ _) _ _ s;rw[<-zGr];refine zD3 _ (λ rest r s'=>r.1=none/\s'=s/\∀v∈rest,zER 7 v=pure false) _ ?_ ?_ _ _ ⟨rfl,rfl,tH hi⟩
 .rintro v rest r s' ⟨hr,rfl,qV⟩
  rw[qV v zAH];refine zAB (zAG ?_);simp only[zA1,if_false];exact zAG ⟨rfl,rfl,λ u hu'=>qV u (zAI _ hu')⟩
 .rintro⟨r1,r2⟩ s' ⟨hr,rfl,_⟩
  simp only at hr;subst hr;exact zAG h
def aKo(h:Heap)(v:Value):Prop:=∃y ms,v= .ref y/\TupAt h y ms
def aGl(hx:TupAt s.heap x ns)(l:List Value)(hl:∀v∈l,aKo s.heap v)(h:Q false s):wpAny (model prog w) A (zIl (.ref x) l) Q E s:=by
 unfold zIl;refine zAB ?_;refine zD3 _ (λ rest r s'=>r.1=none/\s'=s/\∀v∈rest,aKo s.heap v) _ ?_ ?_ _ _ ⟨rfl,rfl,hl⟩
 .rintro v rest r s' ⟨hr,rfl,qV⟩
  obtain⟨y,ms,rfl,hy⟩:=qV v zAH;have b0:=λ u hu'=>qV u (zAI _ hu')
  dsimp only;split
  .exact zAG ⟨rfl,rfl,b0⟩
  .refine zAB (zIB hx.key ?_)
   simp only[zCe,zA1,if_false];refine zAB (zIB hy.key ?_);simp only[zCe,zA1,if_false];refine zAB (vP hx ?_);simp only[zA1,if_false];refine zAB (vP hy ?_);simp only[zA1,if_false];exact zAG ⟨rfl,rfl,b0⟩
 .rintro⟨r1,r2⟩ s' ⟨hr,rfl,_⟩
  simp only at hr;subst hr;exact zAG h
def vm(hu:A.units<cLine)(ho:s.heap.get? a=some (cF es ep t))(T:dm t es.size)(P:kW t.mask (tlS t es))(hes:∀e∈es.toList,aKo s.heap e.2)(hx:TupAt s.heap x ns)(hi:i<es.size)(h1:es[i].1=hsh ns)(h2:es[i].2= .ref y)(hy:TupAt s.heap y ns)
  (hun:∀i' (q:i'<es.size),es[i'].1=es[i].1->i'=i)(q:Q (.there none) s):wpAny (model prog w) A (zHz a (.ref x) (hsh ns) true) Q E s:=by
 unfold zHz;unfold setSearchFrom;refine zAB (zBO ho rfl T.fits ?_);dsimp only;have hg:t.gaveWay=false:=by
  unfold zGm;rcases T.mask3 with e|e|e<;>rw[e]<;>decide
 rw[hg];simp only[zA1,if_false];obtain⟨j,nx,j3⟩:=aCQ T P hi hun;rw[h1]at j3;have j3':t.probe (λ i=>(es[i]?.map (·.1)).getD 0) (hsh ns) ((none:Option zBf).getD (t.probeStart (hsh ns)))=some (.candidate j i nx):=j3;have he:es[i]? =some (hsh ns,.ref y):=by rw[zAm hi,<-h1,<-h2]
 split
 .rename_i met heq
  have e:some met=some (.candidate j i nx):=heq.symm.trans j3';cases e;dsimp only;have fin:∀k:Bool->Array (Int×Value)×Nat×zBt->Sem SetFound,(∀r,k true r=pure (.there none))->wpAny (model prog w) A (zEK [zAr y] (eqBool (.ref y) (.ref x))>>=λ equal=>setState a>>=λ r=>k equal r) Q E s:=λ k hk=>by
   refine zAB (zB2 (wpAny_eqBool_tuple hu hy.key hx.key ?_));rw[show decide (ns=ns)=true by simp];refine zAB (zBO ho rfl T.fits ?_);rw[hk];exact zAG q
  have zHA:∀v∈(es.filter (·.1==hsh ns)).toList.map (·.2),aKo s.heap v:=λ v hv=>by
   obtain⟨e,he,rfl⟩:=zAU.mp hv;rw[Array.toList_filter]at he;exact hes e (zAh.mp he).1
  cases hl:t.led with
  |true=>
   simp only[zCe,zA1,if_false];rw[he];exact fin _ λ r=>rfl
  |false=>
   simp only[zDd,if_true];refine zAB (aGl hx _ zHA ?_);simp only[zA1,if_false];rw[he];exact fin _ λ r=>rfl
 .rename_i hno
  exact(hno _ j3').elim
def aBv(ho:s.heap.get? a=some (cF es ep t))(T:qb t n)(hn:es.size=n)(h5:n=5\/n=19)
  (q:∀h' es' t',zCy a s.heap h'->SetT h' a es' t'->dm t' n->t'.led=t.led->es'.toList.Perm es.toList->kW t'.mask (tlS t' es')->Q () {s with heap:=h'}):wpAny (model prog w) A (setRelay a (zCn n)) Q E s:=by
 have hsz:zE4 (zCn n)<=zAS:=by
  rw[zCN];rcases h5 with e|e<;>rw[e]<;>decide
 obtain⟨t',order,r1,r2,r3,r4⟩:=aGv T.pla h5 (es.map (·.1)) (by rw[Array.size_map];exact hn);have aT:(order.filterMap (es[·]?)).toList.Perm es.toList:=by
  rw[zGH];refine(r4.filterMap _).trans ?_;rw[<-hn,filterMap_getElem?_range]
 have hes:(order.filterMap (es[·]?)).size=es.size:=by rw[<-zA0,aT.length_eq,zA0]
 have dL:=aFg h5 es hn r1;unfold setRelay;refine zAB (zBO ho rfl (by rw[hn];exact T.fits) ?_);dsimp only;rw[if_neg (by lia),r1];refine zAB ?_;refine zG2 (a:=(order.filterMap (es[·]?),t')) ?_ ?_
 .show(if ((order.filterMap (es[·]?)).size !=es.size)=true then _ else pure (order.filterMap (es[·]?),t'))=_
  rw[hes];simp only[bne_self_eq_false,zA1,if_false]
 .exact aG9 ho (by rw[hes,hn];lia) λ e=>q _ _ t' (zBW ..) ⟨_,e⟩ r2 r3 aT dL
def SetT.keep(S:SetT h a es t)(k:∀o,h.get? a=some o->h'.get? a=some o):SetT h' a es t:=let⟨ep,e⟩:=S;⟨ep,k _ e⟩
def eV(zs:List (α×List Int))(p:α×List Int):List (α×List Int):=if p.2∈zs.map (·.2)then zs else zs++[p]
def ent(p:Value×List Int):Int×Value:=(hsh p.2,p.1)
structure wO(h:Heap)(a:Addr)(led:Bool)(zs:kQ)(es:iX)(t:zBt):Prop where
 at_:SetT h a es t
 ok:dm t es.size
 way:kW t.mask (tlS t es)
 led_:t.led=led
 perm:es.toList.Perm (zs.map ent)
 nd:(zs.map λ p=>hsh p.2).Nodup
def aLX(h:Heap)(zs:kQ):Prop:=∀p∈zs,∃y,p.1= .ref y/\TupAt h y p.2
def aDW(hu:A.units<cLine)(S:wO s.heap a led zs es t)(hz:aLX s.heap zs)(hx:TupAt s.heap x ns)(hin:∀p∈zs,hsh p.2=hsh ns->p.2=ns)(h64:(eV zs (.ref x,ns)).length<=76)
  (q:∀b h' tk es' t',zCy a s.heap h'->s.toks<=tk->wO h' a led (eV zs (.ref x,ns)) es' t'->Q b {s with heap:=h',toks:=tk}):wpAny (model prog w) A (setAdd a (.ref x)) Q E s:=by
 obtain⟨⟨ep,ho⟩,T,P,hl,hp,hnd⟩:=S;obtain⟨o,xs,k,xo,xc,xd,xi⟩:=hx.ex;unfold setAdd;refine zB2 (zAB ?_);refine wpAny_pyHash_tuple (knd:=zIO prog w) (ks:=ns) hu ⟨o,xs,k,xo,xc,xd,lF xi⟩ ?_;have eh:tupleKeyHash (zIO prog w) ns=hsh ns:=rfl;rw[eh];unfold setAddHashed;refine zB2 ?_;unfold setAddHashedIn;refine zAB (zBO ho rfl T.fits ?_);dsimp only;have hb:byScan (.ref x) es=false:=rfl;rw[hb];simp only[zA1,if_false];have hes:∀e∈es.toList,∃p∈zs,e=ent p:=λ e he=>by
  obtain⟨p,hp',e'⟩:=zAU.mp (hp.mem_iff.mp he);exact⟨p,hp',e'.symm⟩
 have hndE:(es.toList.map (·.1)).Nodup:=((hp.map (·.1)).nodup_iff).mpr (by rw[zA4];exact hnd);by_cases hm:ns∈zs.map (·.2)
 .have ed:eV zs (.ref x,ns)=zs:=by unfold eV;rw[if_pos hm]
  obtain⟨p,hp1,hp2⟩:=zAU.mp hm;obtain⟨y,ey,hy⟩:=hz p hp1;have dQ:(hsh ns,zAr y)∈es.toList:=by
   refine hp.mem_iff.mpr (zAU.mpr ⟨p,hp1,?_⟩);unfold ent;rw[hp2,ey]
  obtain⟨i,hi,ei⟩:=List.mem_iff_getElem.mp dQ;rw[zA0]at hi;rw[Array.getElem_toList]at ei;refine zAB (vm (s:={s with heap:=s.heap,toks:=_}) hu ho T P (λ e he=>?_) (ns:=ns) (i:=i) (y:=y) ⟨o,xs,k,xo,xc,xd,xi⟩ hi (by rw[ei]) (by rw[ei]) (by rw[<-hp2];exact hy) (λ i' q e=>?_) ?_)
  .obtain⟨p',a1,rfl⟩:=hes e he
   obtain⟨y',b1,b2⟩:=hz p' a1;exact⟨y',_,b1,b2⟩
  .have h1:(es.toList.map (·.1))[i']? =some es[i'].1:=by rw[zA2,zAb,zAm q];rfl
   have h2:(es.toList.map (·.1))[i]? =some es[i].1:=by rw[zA2,zAb,zAm hi];rfl
   rw[e]at h1;exact(zCt (by simpa using q) hndE).mp (h1.trans h2.symm)
  .dsimp only
   exact zAG (q _ _ _ _ _ ⟨rfl,λ _ _=>rfl⟩ (zFT _ _) (by rw[ed];exact⟨⟨_,ho⟩,T,P,hl,hp,hnd⟩))
 .have ed:eV zs (.ref x,ns)=zs++[(.ref x,ns)]:=by unfold eV;rw[if_neg hm]
  rw[ed]at h64;have hzl:es.size=zs.length:=by rw[<-zA0,hp.length_eq,zAF]
  rw[zAj,zEW]at h64;have hne:∀e∈es.toList,e.1≠hsh ns:=λ e he z=>by
   obtain⟨p,a1,rfl⟩:=hes e he;exact hm (zAU.mpr ⟨p,a1,hin p a1 z⟩)
  have hnd':((zs++[(zAr x,ns)]).map λ p=>hsh p.2).Nodup:=by
   rw[zAg];refine zAt.mpr ⟨hnd,by simp,λ a ha b hb=>?_⟩;obtain⟨p,a1,rfl⟩:=zAU.mp ha;rw[zAK.mp hb];exact λ z=>hm (zAU.mpr ⟨p,a1,hin p a1 z⟩)
  refine zAB (xV ho T hne λ j j1 j2 j3=>?_);dsimp only;refine zAB (zBO ho rfl T.fits ?_);dsimp only;obtain⟨PP,p1,p2,p3,p4⟩:=aLw T (by lia) j1 j2;have hes:(zBD es (t.put j).2 (hsh ns,zAr x)).size=es.size+1:=ym _ _ _;have aT:(zBD es (t.put j).2 (hsh ns,zAr x)).toList.Perm ((zs++[(zAr x,ns)]).map ent):=by
   have:=zFc es (t.put j).2 (hsh ns,zAr x)
   rw[zEt]at this;rw[zAg];exact this.trans (hp.append_right _)
  have dL:kW (t.put j).1.mask (tlS (t.put j).1 (zBD es (t.put j).2 (hsh ns,zAr x))):=by
   rw[p3];exact(P.cons (x:=(hsh ns,j)) j3).perm (aL7 T p2)
  rw[PP.pla];simp only[if_true];refine zAB (wL (ns:=ns) ⟨o,xs,k,xo,xc,xd,xi⟩ ?_);simp only[if_true];refine zAB (aG9 ho (by rw[hes];lia) λ e1=>?_);simp only[zDd,Bool.true_and];cases hf:(t.put j).1.tooFull with
  |true=>
   simp only[if_true];have h5:=PP.full (by lia) hf;refine zAB (aBv (s:={s with heap:=_,toks:=_}) e1 PP hes h5 λ h' es' t' b1 b2 b3 b4 b5 b6=>?_);have hsz:es'.size=es.size+1:=by rw[<-zA0,b5.length_eq,zA0,hes]
   exact zAG (q _ h' _ es' t' ((zBW s.heap a _).trans b1) (zFT _ _) (by rw[ed];exact⟨b2,by rw[hsz];exact b3,b6,b4.trans (p4.trans hl),b5.trans aT,hnd'⟩))
  |false=>
   simp only[zA1,if_false];exact zAG (q _ _ _ _ _ (zBW ..) (zFT _ _) (by rw[ed];exact⟨⟨_,e1⟩,by rw[hes];exact PP.still hf,dL,p4.trans hl,aT,hnd'⟩))
end
def ddV(l:List (α×List Int)):List (α×List Int):=l.foldl eV []
theorem aB0:∀(l:List (α×List Int)) (acc:List (α×List Int)),acc.length<=(l.foldl eV acc).length/\(∀p∈acc,p∈l.foldl eV acc)/\∀p∈l.foldl eV acc,p∈acc\/p∈l
 |[],acc=>⟨zAM _,λ _ h=>h,λ _ h=>.inl h⟩
 |x::l,acc=>by
  obtain⟨a,b,c⟩:=aB0 l (eV acc x);have h:eV acc x=acc\/eV acc x=acc++[x]:=by unfold eV;split<;>simp
  refine⟨zA6 ?_ a,λ p hp=>b p ?_,λ p hp=>?_⟩
  .rcases h with e|e<;>rw[e]<;>simp
  .rcases h with e|e<;>rw[e]<;>simp[hp]
  .rcases c p hp with z|z
   .rcases h with e|e<;>rw[e]at z
    .exact .inl z
    .rcases zA5.mp z with z|z
     .exact .inl z
     .exact .inr (by rw[zAK.mp z];exact zAH)
   .exact .inr (zAI _ z)
def wj(h:p∈ddV l):p∈l:=by
 rcases(aB0 l []).2.2 p h with z|z
 .simp at z
 .exact z
def aIS(l:List (α×List Int))(x:α×List Int):ddV (l++[x])=eV (ddV l) x:=by unfold ddV;rw[zEz];rfl
def aIR(l:List (α×List Int))(i:Nat):(ddV (l.take i)).length<=(ddV l).length:=by
 conv=>rhs;rw[<-zCz i l]
 unfold ddV;rw[zEz];exact(aB0 _ _).1
def aGI(f:α->β)(zs:List (α×List Int))(p:α×List Int):eV (zs.map λ q=>(f q.1,q.2)) (f p.1,p.2)=(eV zs p).map λ q=>(f q.1,q.2):=by
 have e:(zs.map λ q=>(f q.1,q.2)).map (·.2)=zs.map (·.2):=by rw[zA4];rfl
 unfold eV;rw[e];dsimp only;split
 .rfl
 .rw[zAg];rfl
def aKd(f:α->β)(l:List (α×List Int)):ddV (l.map λ q=>(f q.1,q.2))=(ddV l).map λ q=>(f q.1,q.2):=by
 have go:∀(l:List (α×List Int)) acc,(l.map λ q=>(f q.1,q.2)).foldl eV (acc.map λ q=>(f q.1,q.2))=(l.foldl eV acc).map λ q=>(f q.1,q.2):=by
  intro l;induction l with
  |nil=>intro acc;rfl
  |cons x l ih=>intro acc;rw[zAC,zBP,zBP,aGI];exact ih _
 exact go l []
def ddT(l:gV):gV:=l.foldl (λ acc x=>if x∈acc then acc else acc++[x]) []
def aKc(l:List (α×List Int)):(ddV l).map (·.2)=ddT (l.map (·.2)):=by
 have go:∀(l:List (α×List Int)) (acc:List (α×List Int)),(l.foldl eV acc).map (·.2)=(l.map (·.2)).foldl (λ acc x=>if x∈acc then acc else acc++[x]) (acc.map (·.2)):=by
  intro l;induction l with
  |nil=>intro acc;rfl
  |cons x l ih=>
   intro acc;rw[zBP,zAC,zBP,ih];congr 1;unfold eV;split
   .rfl
   .rw[zAg];rfl
 exact go l []
def bO.tup{i:Nat}(t:bO h vs nss)(hv:vs[i]? =some v):∃x ns,v= .ref x/\nss[i]? =some ns/\TupAt h x ns:=by
 have hi:i<vs.length:=(zAO.mp hv).1;obtain⟨x,o,xs,k,e1,e2,e3,e4,e5,_⟩:=t.at hi;have hi2:i<nss.length:=by rw[<-t.len];exact hi
 refine⟨x,nss.getD i [],?_,by simp[hi2],⟨o,xs,k,e2,e3,e4,e5⟩⟩;rw[<-e1];simp[hv]
section
variable{prog:zAT}{w:World}{A:zAa}{R:zDl->zAD->Prop}{I:Addr}{fp wr:List Addr}{G:Array zCg->Array zCg->Prop}{n:Nat}{St:Nat->zAD->Prop}{vs:List Value}{nss:gV}
def aFa(W:WalksS prog w A.in1 I fp wr G n (λ i v=>vs.toArray[i]? =some v) St)(S:Addr)(hSf:S∉fp)(hn:n=vs.length)(hu:A.in1.units<cLine)(h64:(ddV (vs.zip nss)).length<=76)(hin2:∀a∈nss,∀b∈nss,hsh a=hsh b->a=b)(hin:∀x,.ref x∈vs->x∉wr)(led:Bool):
  ∀(k i:Nat) (s:zAD) (es:iX) (t:zBt),n-i=k->i<=n->St i s->bO s.heap vs nss->wO s.heap S led (ddV ((vs.zip nss).take i)) es t->
   (∀s' es' t',Moved (S::wr) G s s'->wO s'.heap S led (ddV (vs.zip nss)) es' t'->R (.ok (.ret .none)) s')->
   zBq (model prog w) A (.builtin "set.update.loop" ⟨[.ref S,.ref I],[]⟩) R s:=by
 have hSw:S∉wr:=λ h=>hSf (W.sub _ h)
 have hsb:∀b∈wr,b∈S::wr:=λ b hb=>zAI _ hb
 intro k;induction k with
 |zero=>
  intro i s es t hk hi hst ht hS hR;have hin':i=n:=by lia
  subst hin';refine zBJ zDi ?_;rw[zBK zCI _];show wpAny _ A.in1 (zFC (.ref I)>>=_) _ _ s;refine zAB (W.done s _ _ hst λ s' hm=>zAG (hR s' es t (hm.mono hsb) ?_))
  have:(vs.zip nss).length<=i:=by rw[zF0,hn];exact Nat.min_le_left _ _
  rw[zGP this]at hS
  exact{hS with at_:=hS.at_.keep λ o e=>hm.heap S _ hSw e}
 |succ k ih=>
  intro i s es t hk hi hst ht hS hR;have hlt:i<n:=by lia
  refine zBJ zDi ?_;rw[zBK zCI _];show wpAny _ A.in1 (zFC (.ref I)>>=_) _ _ s;refine zAB (W.item i s _ _ hlt hst λ v s' hP' hst' hm=>?_);have hP:vs[i]? =some v:=by simpa using hP'
  obtain⟨x,ns,rfl,hns,hx⟩:=ht.tup hP;have ht':bO s'.heap vs nss:=by
   have go:∀{us:List Value} {ms:gV},(∀y,.ref y∈us->y∉wr)->bO s.heap us ms->bO s'.heap us ms:=by
    intro us ms hy z;induction z with
    |nil=>exact .nil
    |cons ho hc hd hi hne r ih2=>exact .cons (hm.heap _ _ (hy _ zAH) ho) hc hd hi hne (ih2 λ y m=>hy y (zAI _ m))
   exact go hin ht
  have hS':wO s'.heap S led (ddV ((vs.zip nss).take i)) es t:={hS with at_:=hS.at_.keep λ o e=>hm.heap S _ hSw e};have hx':TupAt s'.heap x ns:=by
   obtain⟨y,ms,e1,e2,e3⟩:=ht'.tup hP;cases e1;rw[hns]at e2;cases e2;exact e3
  have qV:aLX s'.heap (ddV ((vs.zip nss).take i)):=λ p hp=>by
   have hp2:=zGg (wj hp);obtain⟨j,hj⟩:=zEY.mp hp2;obtain⟨z1,z2⟩:=zC4.mp hj;obtain⟨y,ms,e1,e2,e3⟩:=ht'.tup z1;rw[z2]at e2;cases e2;exact⟨y,e1,e3⟩
  have cS:ddV ((vs.zip nss).take (i+1))=eV (ddV ((vs.zip nss).take i)) (.ref x,ns):=by
   rw[List.take_add_one,(zC4 (z:=(zAr x,ns))).mpr ⟨hP,hns⟩];exact aIS _ _
  have hmn:ns∈nss:=zBL hns;show wpAny _ A.in1 (zEK [zAr x] (setAdd S (.ref x))>>=_) _ _ s';refine zAB (zB2 (aDW hu hS' qV hx' (λ p hp z=>hin2 _ (zCk (zGg (wj hp))).2 _ hmn z) (by rw[<-cS];exact zA6 (aIR _ _) h64) λ b h' tk es' t' c1 c2 c3=>?_));rw[<-cS]at c3;have kp:∀b o,b≠S->s'.heap.get? b=some o->h'.get? b=some o:=λ b o hb e=>by rw[c1.2 b hb];exact e
  have ht2:bO h' vs nss:=ht'.mono λ y o e c=>kp y o (λ z=>by
   subst z;obtain⟨ep,q⟩:=hS'.at_;rw[q]at e;cases e;exact absurd c (show¬(zB4 "set"=zB4 "tuple")by decide)) e
  refine zAG ⟨zHM zCI _,ih (i+1) _ es' t' (by lia) hlt (W.frame _ s' _ _ hst' c2 λ b hb o e=>kp b o (λ z=>hSf (z▸hb)) e) ht2 c3 λ s'' es'' t'' hm'' hS''=>?_⟩;exact hR s'' es'' t'' (Moved.trans W.gtrans ((hm.mono hsb).then_heap c2 λ b o hb e=>kp b o (λ z=>hb (z▸zAH)) e) hm'') hS''
end
end VL
namespace PySem
section
variable{prog:zAT}{w:World}{A:zAa}{E:Value->zAD->Prop}{s:zAD}
def aGk(a:Value)(h:Q₁ (.ref s.heap.objs.size) {s with heap:=s.heap.push (VL.cF #[] 0 (.fresh 0 0 (!w.params.followText "set-order")))}):
  zBq (model prog w) A (.call (.builtin "set.__new__") ⟨[.type "set",a],[]⟩) (wants Q₁ E) s:=by
 refine codeAny_of_tree ?_;show wpAny _ A.in1 (zGC "set.__new__" ⟨[.type "set",a],[]⟩>>=λ _=>again (.builtin "set.__new__" ⟨[.type "set",a],[]⟩)) _ _ s;refine zAB (zG2 (F.newCall_set_1 a) (zAG ⟨zHM zFv _,zBJ PySem.F.entry_set_new ?_⟩));rw[zBK zFv _];unfold zCY.«set.__new__» zHd;have hsub:=sub_set_self;obtain⟨hp,g,d,tk,os⟩:=s;dsimp only;wp_walk;refine zD2 (zAG ?_);dsimp only;simp only[newObj];exact zAB (wpAny_alloc (zAG (zAG h)))
set_option maxHeartbeats 3200000 in
def aCz{l:Addr}{T:String}{oI:Obj}{Φ:Heap->Prop}{Q:Value->zAD->Prop}(hty:s.TypeIs (.ref l) T)(hsls:zHv (.type T) (.type "set")=pure false)(hslf:zHv (.type T) (.type "frozenset")=pure false)(hne:(zB4 T==zB4 "dict")=false)
  (hit:∀(y9:Heap) (x6:zAa) (xS:Value->zAD->Prop) (Q₁:Value->zAD->Prop),(∀b o,s.heap.get? b=some o->y9.get? b=some o)->Q₁ (.ref y9.objs.size) {s with heap:=y9.push oI}->wpAny (model prog w) x6 (zGy (.ref l)) Q₁ xS {s with heap:=y9})
  (hrun:∀R:zDl->zAD->Prop,(∀h' tk,Φ h'->(∀b o,s.heap.get? b=some o->h'.get? b=some o)->R (.ok (.ret .none)) {s with heap:=h',toks:=tk})->
   zBq (model prog w) A.in1.in1 (.builtin "set.update.loop" ⟨[.ref s.heap.objs.size,.ref (s.heap.push (VL.cF #[] 0 (.fresh 0 0 (!w.params.followText "set-order")))).objs.size],[]⟩) R {s with heap:=(s.heap.push (VL.cF #[] 0 (.fresh 0 0 (!w.params.followText "set-order")))).push oI})
  (h:∀h' tk,Φ h'->(∀b o,s.heap.get? b=some o->h'.get? b=some o)->Q (.ref s.heap.objs.size) {s with heap:=h',toks:=tk}):
  wpAny (model prog w) A (call (.type "set") [.ref l]) Q E s:=by
 obtain⟨c,tl,hmro⟩:=zCf.mro;have hmade:=zCf.made;have hsub:=zCf.sub
 refine wpAny_call (codeAny_of_tree ?_);show wpAny _ _ (callAny (.type "set") _) _ _ _;refine zAG ⟨zCK _ (by decide+kernel),zBJ PySem.F.entry_type_call ?_⟩;rw[Around.under_plain (weight_type_call_type "set" [.ref l] []) rfl];have h1:=zCf.notType;have h2:=zCf.canCreate
 have hct:=F.typeCall_set_1 (.ref l);repeat (any_goals (first|assumption|wp_step))
 generalize hled:(!w.params.followText "set-order")=led at hrun;refine zEC (aGk (.ref l) (E:=E) (Q₁:=λ obj zC=>obj= .ref s.heap.objs.size/\zC={s with heap:=s.heap.push (VL.cF #[] 0 (.fresh 0 0 led))}) ⟨rfl,by rw[hled]⟩) λ r zC hr=>?_
 cases r with
 |error e=>exact hr
 |ok fl=>
  cases fl with
  |ret obj=>
   obtain⟨rfl,rfl⟩:=hr;have hS:(s.heap.push (VL.cF #[] 0 (.fresh 0 0 led))).get? s.heap.objs.size=some (VL.cF #[] 0 (.fresh 0 0 led)):=zAL _ rfl;have hT:zEg {s with heap:=s.heap.push (VL.cF #[] 0 (.fresh 0 0 led))} (.ref s.heap.objs.size) "set":=⟨_,hS,rfl⟩;have hli:=zCf.init.lookup;have hbi:=zCf.init.bind (.ref s.heap.objs.size)
   repeat (any_goals (first|assumption|wp_step))
   refine zEC (zEx (R:=wants (λ r zS=>r= .none/\∃h' tk,zS={s with heap:=h',toks:=tk}/\Φ h'/\(∀b o,s.heap.get? b=some o->h'.get? b=some o)) E) zCf.init.plain F.entry_set_init (check_set_init_1 hT ?_)) λ r₂ zS hr₂=>?_
   .obtain⟨ol,hol,hcl⟩:=hty
    obtain⟨ocls,odict,odata,oslots⟩:=ol;simp only at hcl;subst hcl;have hol':(s.heap.push (VL.cF #[] 0 (.fresh 0 0 led))).get? l=some {cls:=.type T,dict:=odict,data:=odata,slots:=oslots}:=zAE _ hol;unfold zCY.«set.__init__» noKeywords zHg;generalize hPI:zGy=PI;wp_walk;subst hPI;refine hit _ _ _ _ (λ b o e=>zAE _ e) (zAB (zFD (hrun _ λ h' tk g1 g2=>?_)));show wpAny _ _ _ _ _ _;refine zAG ?_;show wpAny _ _ (ret zBF) _ _ _;exact zAG ⟨rfl,h',tk,rfl,g1,g2⟩
   .cases r₂ with
    |error e=>exact hr₂
    |ok fl₂=>
     cases fl₂ with
     |ret r=>
      obtain⟨rfl,h',tk,rfl,g1,g2⟩:=hr₂
      repeat (any_goals (first|assumption|wp_step))
      exact h _ _ g1 g2
     |_=>exact hr₂.elim
  |_=>exact hr.elim
def aAm{l:Addr}{T:String}{oI:Obj}{vs:List Value}{nss:gV}{St:Addr->Nat->Heap->Prop}{Q:Value->zAD->Prop}(hh:A.handled=none)(hu:A.units+8<cLine)(hty:s.TypeIs (.ref l) T)(hsls:zHv (.type T) (.type "set")=pure false)(hslf:zHv (.type T) (.type "frozenset")=pure false)(hne:(zB4 T==zB4 "dict")=false)
  (hit:∀(y9:Heap) (x6:zAa) (xS:Value->zAD->Prop) (Q₁:Value->zAD->Prop),(∀b o,s.heap.get? b=some o->y9.get? b=some o)->Q₁ (.ref y9.objs.size) {s with heap:=y9.push oI}->wpAny (model prog w) x6 (zGy (.ref l)) Q₁ xS {s with heap:=y9})
  (hW:∀(A':zAa) I,l≠I->A'.handled=none->Walks prog w A' I [I,l] [I] vs.toArray.size (λ i v=>vs.toArray[i]? =some v) (St I))(h0:∀y9:Heap,(∀b o,s.heap.get? b=some o->y9.get? b=some o)->St y9.objs.size 0 (y9.push oI))
  (ht:VL.bO s.heap vs nss)(h64:(VL.ddV (vs.zip nss)).length<=76)(hin:∀a∈nss,∀b∈nss,VL.hsh a=VL.hsh b->a=b)
  (h:∀h' tk es t,VL.wO h' s.heap.objs.size (!w.params.followText "set-order") (VL.ddV (vs.zip nss)) es t->(∀b o,s.heap.get? b=some o->h'.get? b=some o)->Q (.ref s.heap.objs.size) {s with heap:=h',toks:=tk}):
  wpAny (model prog w) A (call (.type "set") [.ref l]) Q E s:=by
 obtain⟨ol,hol,hcl⟩:=hty;have hlS:l<s.heap.objs.size:=zAR hol;refine aCz (T:=T) (Φ:=λ h'=>∃es t,VL.wO h' s.heap.objs.size (!w.params.followText "set-order") (VL.ddV (vs.zip nss)) es t) ⟨ol,hol,hcl⟩ hsls hslf hne hit (λ R hR=>?_) λ h' tk ⟨es,t,g1⟩ g5=>h h' tk es t g1 g5
 generalize (!w.params.followText "set-order")=led at hR ⊢;have hS:(s.heap.push (VL.cF #[] 0 (.fresh 0 0 led))).get? s.heap.objs.size=some (VL.cF #[] 0 (.fresh 0 0 led)):=zAL _ rfl;have hh3:A.in1.in1.in1.handled=none:=by simp[hh]
 have hneI:l≠(s.heap.push (VL.cF #[] 0 (.fresh 0 0 led))).objs.size:=by rw[zBV];exact zAZ (zCW hlS)
 have hSf:s.heap.objs.size∉[(s.heap.push (VL.cF #[] 0 (.fresh 0 0 led))).objs.size,l]:=by
  rw[zBV];simp only[zAQ,zEI,or_false,not_or];exact⟨zAZ (zBd _),zBg hlS⟩
 have hvt:∀{us:List Value} {ms:gV},VL.bO s.heap us ms->∀x,.ref x∈us->x<s.heap.objs.size:=by
  intro us ms z;induction z with
  |nil=>intro x hx;simp at hx
  |cons ho _ _ _ _ _ ih=>
   intro x hx;rcases zAQ.mp hx with e|hx
   .cases e;exact zAR ho
   .exact ih x hx
 refine VL.aFa ((hW _ _ hneI hh3).toS) s.heap.objs.size hSf (by simp) (by simp;omega) h64 hin (λ x hx=>?_) led (vs.toArray.size-0) 0 _ #[] (.fresh 0 0 led) (by simp) (zAp _)
  (h0 _ λ b o e=>zAE _ e) (ht.mono λ x o e _=>zAE _ (zAE _ e)) ⟨⟨0,zAE _ hS⟩,VL.dm.fresh led,(λ e he=>by cases he),rfl,zBS _,zFo⟩ ?hR
 case hR=>
  intro s' es t hm hS';obtain⟨h',g',d',tk',os'⟩:=s';have eg:g'=s.gens:=hm.gens;have ed:d'=s.drawn:=hm.drawn;have eo:os'=s.os:=hm.os;subst eg;subst ed;subst eo;refine hR h' tk' ⟨es,t,hS'⟩ λ b o e=>hm.heap b o ?_ (zAE _ (zAE _ e))
  have hb:=zAR e;simp only[zAQ,zEI,or_false,not_or];rw[zBV];exact⟨zAZ hb,zAZ (zCW hb)⟩
 have:=hvt ht x hx
 simp only[zAQ,zEI,or_false];rw[zBV];exact zAZ (zCW this)
def aGL(hh:A.handled=none)(hu:A.units+8<cLine)(hl:s.heap.IsList l vs.toArray)(ht:VL.bO s.heap vs nss)(h64:(VL.ddV (vs.zip nss)).length<=76)(hin:∀a∈nss,∀b∈nss,VL.hsh a=VL.hsh b->a=b)
  (h:∀h' tk es t,VL.wO h' s.heap.objs.size (!w.params.followText "set-order") (VL.ddV (vs.zip nss)) es t->(∀b o,s.heap.get? b=some o->h'.get? b=some o)->Q (.ref s.heap.objs.size) {s with heap:=h',toks:=tk}):
  wpAny (model prog w) A (call (.type "set") [.ref l]) Q E s:=by
 obtain⟨ol,hol,hcl,nl,hdl⟩:=hl;exact aAm hh hu (T:="list") ⟨ol,hol,hcl⟩ F.sub_list_set F.sub_list_frozenset (by decide) (λ y9 x6 xS Q₁ k q=>zFh (s:={s with heap:=y9}) (items:=vs.toArray) ⟨ol,k _ _ hol,hcl,nl,hdl⟩ q) (λ A' I ne e=>Walks.list e I l ne vs.toArray)
  (λ y9 k=>⟨⟨_,zAL _ rfl,rfl,rfl⟩,Heap.IsList.push ⟨ol,k _ _ hol,hcl,nl,hdl⟩ _⟩) ht h64 hin h
def aDA(hh:A.handled=none)(hu:A.units+8<cLine)(hl:s.heap.IsTuple l vs.toArray)(ht:VL.bO s.heap vs nss)(h64:(VL.ddV (vs.zip nss)).length<=76)(hin:∀a∈nss,∀b∈nss,VL.hsh a=VL.hsh b->a=b)
  (h:∀h' tk es t,VL.wO h' s.heap.objs.size (!w.params.followText "set-order") (VL.ddV (vs.zip nss)) es t->(∀b o,s.heap.get? b=some o->h'.get? b=some o)->Q (.ref s.heap.objs.size) {s with heap:=h',toks:=tk}):
  wpAny (model prog w) A (call (.type "set") [.ref l]) Q E s:=by
 obtain⟨ol,hol,hcl,nl,hdl⟩:=hl;exact aAm hh hu (T:="tuple") ⟨ol,hol,hcl⟩ F.sub_tuple_set F.sub_tuple_frozenset (by decide) (λ y9 x6 xS Q₁ k q=>zCw (s:={s with heap:=y9}) (items:=vs.toArray) ⟨ol,k _ _ hol,hcl,nl,hdl⟩ q) (λ A' I ne e=>Walks.tuple e I l ne vs.toArray)
  (λ y9 k=>⟨⟨_,zAL _ rfl,rfl,rfl⟩,⟨ol,zAE _ (k _ _ hol),hcl,nl,hdl⟩⟩) ht h64 hin h
end
end PySem
namespace VL
open PySem PySem.Spec PyProof.Rows L2
theorem aCi:∀{l:List α} {i:Nat} (h:i<l.length),(l[i]::l.eraseIdx i).Perm l
 |a::l,0,_=>zBS _
 |a::l,i+1,h=>by
  have h':i<l.length:=by simpa using h
  have ih:=aCi (l:=l) (i:=i) h'
  show(l[i]::a::l.eraseIdx i).Perm (a::l)
  exact(zEN _ _ _).trans (ih.cons a)
theorem aEt(next:Nat->Nat):∀(f k:Nat) (left:List α) (out:Array α),left.length<=f->(pickOrder.go next f k left out).toList.Perm (out.toList++left)
 |0,k,left,out,h=>by
  have:left=[]:=List.length_eq_zero_iff.mp (by omega)
  subst this;rw[zBX];exact zBS _
 |f+1,k,left,out,h=>by
  unfold pickOrder.go;cases left with
  |nil=>simp
  |cons a l=>
   have hlt:next k%(a::l).length<(a::l).length:=zCu _ (by simp)
   rw[zAJ hlt];dsimp only;refine(aEt next f (k+1) _ _ (by rw[List.length_eraseIdx];simp only[hlt,if_true];simp at h ⊢;omega)).trans ?_;rw[zEt,zBG];exact List.Perm.append_left _ (aCi hlt)
def aFn(next:Nat->Nat)(xs:Array α):(pickOrder next xs).toList.Perm xs.toList:=by
 have:=aEt next xs.size 0 xs.toList #[] (by simp)
 unfold pickOrder;simpa using this
def sy(w:World)(d:Addr)(ep:Nat)(es:iX):iX:=if w.params.followText "set-order" then pickOrder (w.params.setOrder d ep) es else es
def pO(w:World)(d:Addr)(ep:Nat)(es:iX):(sy w d ep es).toList.Perm es.toList:=by
 unfold sy;split
 .exact aFn _ _
 .exact zBS _
def slotAt(w:World)(t:zBt):Nat->Nat
 |0=>0
 |i+1=>if w.params.followText "set-order" then 0 else t.place.getD i 0+1
def aEW(T:dm t n)(hf:w.params.followText "set-order"=false):∀i,i<=n->zAi t.place (slotAt w t i)=i
 |0,_=>by
  obtain⟨b1,b2,b3⟩:=uH T.ris 0;show zAi t.place 0=0;cases h:zAi t.place 0 with
  |zero=>rfl
  |succ k=>
   rw[h]at b2
   have:=b2 0 (by omega)
   omega
 |i+1,hi=>by
  unfold slotAt;rw[hf];simp only[zA1,if_false];obtain⟨b1,b2,b3⟩:=uH T.ris (t.place.getD i 0+1);have hs:=T.siz;rcases zFE (zAi t.place (t.place.getD i 0+1)) (i+1)with z|z|z
  .have:=b3 i (by omega) (by omega)
   omega
  .exact z
  .have h1:=b2 (i+1) (by omega)
   have h2:=T.ris i (i+1) (by omega) (by omega);omega
section
variable{prog:zAT}{w:World}{A:zAa}{E:Value->zAD->Prop}{s:zAD}{d:Addr}{es:iX}{ep:Nat}{t:zBt}
def xW(ho:s.heap.get? d=some (cF es ep t))(T:dm t es.size)(hled:t.led= !w.params.followText "set-order")(hi:i<=es.size)
  (h:Q (((sy w d ep es)[i]?).map λ e=>(e.2,slotAt w t (i+1))) s):wpAny (model prog w) A (setNext d (slotAt w t i) i ep) Q E s:=by
 unfold setNext;refine zAB (zBO ho rfl T.fits ?_);dsimp only;unfold zIm;refine zAB (zAB (zD2 (zAG ?_)));show wpAny _ _ (if w.params.followText "set-order"=true then _ else _) _ _ _;unfold sy at h;cases hf:w.params.followText "set-order" with
 |true=>
  rw[hf]at h;simp only[if_true]at h ⊢;simp only[bne_self_eq_false,zA1,if_false];unfold setWalk;refine zAB (zAB (zBO ho rfl T.fits ?_));dsimp only;unfold zIm;refine zAB (zAB (zD2 (zAG ?_)));show wpAny _ _ (if w.params.followText "set-order"=true then _ else _) _ _ _;rw[hf];simp only[if_true];refine zAB (zD2 (zAG (zAG ?_)));have e1:slotAt w t (i+1)=slotAt w t i:=by
   unfold slotAt;cases i with
   |zero=>simp[hf]
   |succ i=>simp[hf]
  rw[e1]at h;exact h
 |false=>
  rw[hf]at h hled;simp only[zA1,if_false]at h ⊢;have hd:(!t.plain&&decide (es.size>1))=false:=by rw[T.pla];rfl
  show wpAny _ _ (if (!t.plain&&decide (es.size>1))=true then _ else _) _ _ _;rw[hd];simp only[zA1,if_false];refine zAB ?_;show wpAny _ _ (if (!t.led&& !es.isEmpty)=true then _ else _) _ _ _;rw[hled];simp only[zDd,zCe,zII,zA1,if_false];refine zAG ?_;rw[aEW T hf i hi];have hslot:slotAt w t (i+1)=t.place.getD i 0+1:=by unfold slotAt;rw[hf];rfl
  rw[hslot]at h;by_cases hlt:i<es.size
  .have h1:es[i]? =some es[i]:=zAm hlt
   have hlt2:i<t.place.size:=by rw[T.siz];exact hlt
   have h2:t.place[i]? =some (t.place.getD i 0):=by
    rw[zAm hlt2];simp[zBn,hlt2]
   rw[h1,h2];rw[h1]at h;exact zAG h
  .have h1:es[i]? =none:=zGG (by omega)
   rw[h1];rw[h1]at h;exact zAG h
def bw:PySem.Slot "set_iterator" "__next__" "set_iterator.__next__":=
 .of (owner:="set_iterator") (n:="__next__") (by rw[zEn,zDV];kernel_rfl) (by decide+kernel) (by decide+kernel) (by decide+kernel) (.inl (by decide+kernel)) (by rw[zGo];kernel_rfl)
def jy:PySem.Slot "set_iterator" "__iter__" "set_iterator.__iter__":=
 .of (owner:="set_iterator") (n:="__iter__") (by rw[zEn,zDV];kernel_rfl) (by decide+kernel) (by decide+kernel) (by decide+kernel) (.inl (by decide+kernel)) (by rw[zGo];kernel_rfl)
def jg:zHL table "set_iterator.__next__"=some zCY.«set_iterator.__next__»:=entryFor_of_fast (by kernel_rfl)
def rT:zHL table "set_iterator.__iter__"=some zCY.«dict_keyiterator.__iter__»:=entryFor_alias (id':="dict_keyiterator.__iter__") (by kernel_rfl) rfl (by decide+kernel) (by kernel_rfl)
def wM:zHL table "set.__iter__"=some zCY.«frozenset.__iter__»:=entryFor_alias (id':="frozenset.__iter__") (by kernel_rfl) rfl (by decide+kernel) (by kernel_rfl)
def kO(a:Value):argsOk "set_iterator.__next__" ⟨[a],[]⟩:=by unfold argsOk;kernel_rfl
def uI(a:Value):argsOk "set_iterator.__iter__" ⟨[a],[]⟩:=by unfold argsOk;kernel_rfl
end
section
variable{prog:zAT}{w:World}{A:zAa}{E:Value->zAD->Prop}{s:zAD}{d I:Addr}{es:iX}{ep:Nat}{t:zBt}{i':Nat}
abbrev aHl(d:Addr)(sl i n ep:Nat):Obj:={cls:=.type "set_iterator",data:=.fields #[.int sl 0,.int i 0,.ref d,.int n 0,.int ep 0]}
def aKt(h:Heap)(I d:Addr)(sl i n ep:Nat):Prop:=h.get? I=some (aHl d sl i n ep)
def aHj{h:Heap}{sl i n ep k:Nat}(e:h.get? I=some {cls:=.type "set_iterator",data:=.fields vs}):(h.update I (zIc (·.setIfInBounds k x))).get? I=some {cls:=.type "set_iterator",data:=.fields (vs.setIfInBounds k x)}:=by
 have:=zEU (zIc (·.setIfInBounds k x)) e (zGi (zEv rfl _))
 rw[this];rfl
def aDV(hI:aKt s.heap I d (slotAt w t i') i' es.size ep)(ho:s.heap.get? d=some (cF es ep t))(T:dm t es.size)(hled:t.led= !w.params.followText "set-order"){v:Value}(hi:i'<es.size)(hv:((sy w d ep es)[i']?).map (·.2)=some v){Q:Option Value->zAD->Prop}
  (h:∀h',aKt h' I d (slotAt w t (i'+1)) (i'+1) es.size ep->zCy I s.heap h'->Q (some v) {s with heap:=h'}):wpAny (model prog w) A (zFC (.ref I)) Q E s:=by
 have hT:s.TypeIs (.ref I) "set_iterator":=⟨_,hI,rfl⟩;unfold zFC;refine zAB (zHQ (zB1 (name:=zDD "__next__") hT bw (zB7 bw hT jg ?_ (kO _))));show wpAny _ _ (fieldsOf (.ref I)>>=_) _ _ s;refine zAB (wpAny_fieldsOf hI rfl ?_);dsimp only;refine zAB ?_;unfold setEntries;refine zAB (zBO ho rfl T.fits (zAG ?_));simp only[bne_self_eq_false,zA1,if_false];refine zAB ?_;simp only[zCV];refine xW ho T hled (zBu hi) ?_;cases hq:(sy w d ep es)[i']? with
 |none=>rw[hq]at hv;cases hv
 |some e=>
  rw[hq]at hv;cases hv;dsimp only[zCO];refine zAB (zEM hI rfl (by simp) ?_);have e1:=aHj (h:=s.heap) (I:=I) (k:=0) (x:=zGX (slotAt w t (i'+1))) (sl:=0) (i:=0) (n:=0) (ep:=0) hI;refine zAB (zEM e1 rfl (by simp) ?_);have e2:=aHj (k:=1) (x:=zGX (i'+1)) (sl:=0) (i:=0) (n:=0) (ep:=0) e1;exact zAG ⟨_,rfl,zAG (h _ e2 ((zBW ..).trans (zBW ..)))⟩
def aF9(hh:A.handled=none)(hI:aKt s.heap I d (slotAt w t es.size) es.size es.size ep)(ho:s.heap.get? d=some (cF es ep t))(T:dm t es.size)(hled:t.led= !w.params.followText "set-order")
  (h:∀h',Heap.ExtBut I s.heap h'->Q none {s with heap:=h'}):wpAny (model prog w) A (zFC (.ref I)) Q E s:=by
 have hT:s.TypeIs (.ref I) "set_iterator":=⟨_,hI,rfl⟩;unfold zFC;refine zAB (zHQ (zB1 (name:=zDD "__next__") hT bw (zB7 bw hT jg ?_ (kO _))));show wpAny _ _ (fieldsOf (.ref I)>>=_) _ _ s;refine zAB (wpAny_fieldsOf hI rfl ?_);dsimp only;refine zAB ?_;unfold setEntries;refine zAB (zBO ho rfl T.fits (zAG ?_));simp only[bne_self_eq_false,zA1,if_false];refine zAB ?_;simp only[zCV];refine xW ho T hled (zAM _) ?_;have hq:(sy w d ep es)[es.size]? =none:=zGG (by
  have:=(pO w d ep es).length_eq
  rw[zA0,zA0]at this;lia)
 rw[hq];dsimp only[zH2];refine zAB (zEM hI rfl (by simp) ?_);show wpAny _ _ (newExc (.type "StopIteration") []>>=_) _ _ _;refine zAB ?_;simp only[newExc,newTuple];refine zAB (zBH (zAB (m:=zFA _ _) (zG2 (a:=zBF) (by first|rfl|(simp only[zFA];rfl)) (zBH ?_ (by size_fits)))) (by size_fits));simp only[raiseNew];refine zAB (wpAny_handled ?_);rw[show A.in1.handled=none from hh];refine zAB (zAG (wpAny_throw ?_));refine zAB (zGF (T:="StopIteration") (b:=true) ⟨_,zAL _ rfl,rfl⟩ isSubtype_stop ?_);exact zAG (h _ (((zBW ..).extBut.push _).push _))
def aF1(hh:A.handled=none)(I d:Addr)(hne:d≠I)(es:iX)(ep:Nat)(t:zBt)(T:dm t es.size)(hled:t.led= !w.params.followText "set-order"):
  Walks prog w A I [I,d] [I] es.size (λ i v=>((sy w d ep es)[i]?).map (·.2)=some v) (λ i h=>aKt h I d (slotAt w t i) i es.size ep/\h.get? d=some (cF es ep t)) where
 sub:=λ b hb=>by simp at hb;simp[hb]
 frame:=λ _ _ _ st hk=>⟨hk I (by simp) _ st.1,hk d (by simp) _ st.2⟩
 item:=λ i s Q E hi st hQ=>by
  have hl:i<(sy w d ep es).size:=by
   have:=(pO w d ep es).length_eq
   rw[zA0,zA0]at this;lia
  have hv:((sy w d ep es)[i]?).map (·.2)=some (sy w d ep es)[i].2:=by rw[zAm hl];rfl
  refine aDV st.1 st.2 T hled hi hv λ h' hI' hs'=>?_
  exact hQ _ h' s.toks hv ⟨hI',by rw[hs'.2 d hne];exact st.2⟩ λ b o hb e=>hs'.extBut b o (λ h=>hb (by simp[h])) e
 done:=λ s Q E st hQ=>aF9 hh st.1 st.2 T hled λ h' he'=>hQ h' s.toks λ b o hb e=>he' b o (λ h=>hb (by simp[h])) e
 self:=λ i s Q E st hQ=>by
  have hT:s.TypeIs (.ref I) "set_iterator":=⟨_,st.1,rfl⟩;refine zIu hT jy (zB7 jy hT rT ?_ (uI _));show wpAny _ _ (ret (.ref I)) _ _ s;exact zAG ⟨_,rfl,"set_iterator",_,hT,bw.lookup,hQ⟩
def aDb(ho:s.heap.get? d=some (cF es ep t))(T:dm t es.size)(h:Q (.ref s.heap.objs.size) {s with heap:=s.heap.push (aHl d 0 0 es.size ep)}):wpAny (model prog w) A (zGy (.ref d)) Q E s:=by
 have hT:s.TypeIs (.ref d) "set":=⟨_,ho,rfl⟩;refine zIu hT zFx (zB7 zFx hT wM ?_ (PySem.F.args_set_iter_1 _));unfold zCY.«frozenset.__iter__» zHf slotArgs;simp only[List.isEmpty_nil,zCe,zA1,↓reduceIte,bind_assoc,zBE,bne_self_eq_false];unfold zHc zHe;refine zAB (zAG (zAB (zAG (zAB (zAB (wpAny_setEntries_of ho rfl T.fits (zAG ?_)))))));unfold setDrawn;refine zAB (zAB (zBO ho rfl T.fits ?_));dsimp only;unfold zIm;refine zAB (zAB (zD2 (zAG (zAG ?_))));have hd:(!w.params.followText "set-order"&&(!t.plain&&decide (es.size>1)))=false:=by rw[T.pla];simp
 show wpAny _ _ (if (!w.params.followText "set-order"&&(!t.plain&&decide (es.size>1)))=true then _ else _) _ _ _;rw[hd];simp only[zA1,if_false];refine zAB (zAG (zAB (wpAny_setEpoch_of ho rfl T.fits ?_)));simp only[newFields];refine zAB (zBH (zAG ⟨_,rfl,"set_iterator",_,⟨_,zAL _ rfl,rfl⟩,bw.lookup,?_⟩));exact h
def aHx(hT:s.TypeIs (.ref r) "set")(h:Q false s):wpAny (model prog w) A (zEb (.ref r)) Q E s:=by
 unfold zEb;refine zAB (zEo hT PySem.F.slot_set_len.lookup ?_);generalize hid:("set.__len__":String)=id0;wp_delta;rw[show splitId id0=some ("set","__len__")from by subst hid;decide+kernel];subst hid;refine zAB (zGF (T:="set") (b:=true) hT (by rw[zGo];kernel_rfl) ?_);refine wpAny_ite_split (λ hab=>absurd hab (by decide)) λ _=>wpAny_ite_split (λ _=>?_) λ hab=>absurd (by decide+kernel) hab
 exact zAB (zCr hT (zAG h))
def aIw(T:dm t es.size)(hled:t.led= !w.params.followText "set-order"):zH4 prog w "set" d d es.size (λ i v=>((sy w d ep es)[i]?).map (·.2)=some v) (λ h=>h.get? d=some (cF es ep t)) where
 type:=λ _ hm=>⟨_,hm,rfl⟩
 there:=λ _ hm=>⟨zAR hm,zAR hm⟩
 keep:=λ _ _ hm hk=>hk d (.inl rfl) _ hm
 notList:=by decide
 notTuple:=by decide
 hint:=λ _ _ _ _ hm hq=>aHx ⟨_,hm,rfl⟩ hq
 iter:=λ A s hh hm=>⟨aHl d 0 0 es.size ep,_,(λ _ _ hq=>aDb hm T hq),aF1 hh _ d (zAZ (zAR hm)) es ep t T hled,⟨zAL _ rfl,zAE _ hm⟩⟩
end
section
variable{prog:zAT}{w:World}{A:zAa}{E:Value->zAD->Prop}{s:zAD}{T:String}{r d:Addr}{n:Nat}{P:Nat->Value->Prop}{OK:Heap->Prop}
def aCw(K:zH4 prog w T r d n P OK)(hh:A.handled=none)(hok:OK s.heap)(hn:n<=zAS)
  (h:∀h' tk vs,s.heap.objs.size<h'.objs.size->(∀b o,s.heap.get? b=some o->h'.get? b=some o)->vs.length=n->(∀(j:Nat) v,vs[j]? =some v->P j v)->Q vs {s with heap:=h',toks:=tk}):wpAny (model prog w) A (zIM (.ref r)) Q E s:=by
 have hlt:=K.there _ hok;unfold zIM;refine zAB (zFD (zBJ PySem.F.entry_proto_collect ?_));rw[zBK PySem.F.plain_proto_collect _];show wpAny _ A.in1 (zFf []>>=λ l=>again (.builtin "list.__iadd__" ⟨[l,.ref r],[]⟩)) _ _ s;refine zAB (zBH (zAG ⟨zHM zFb _,zBJ PySem.F.entry_list_iadd ?_⟩));rw[zBK zFb _];show wpAny _ A.in1 (zCs (.ref s.heap.objs.size) (.ref r) (.ref s.heap.objs.size)) _ _ _;have fin:∀h' tk acc' c',(∀b o,b≠s.heap.objs.size->(s.heap.push (zBr "list" #[] 0)).get? b=some o->h'.get? b=some o)->h'.get? s.heap.objs.size=some {cls:=.type "list",dict:=none,data:=.seq acc' c',slots:=#[]}->ItemsOf P acc' n->
   wpAny (model prog w) A (do match (zAr s.heap.objs.size)with
    | .ref a=>match (<-load a).data with
     | .seq xs _=>pure xs.toList
     |_=>zG0 "internal:collect"
    |_=>zG0 "internal:collect") Q E {s with heap:=h',toks:=tk}:=λ h' tk acc' c' hk hS' aE=>
  zAB (zIs hS' (zAG (h h' tk acc'.toList (zAR hS') (λ b o e=>hk b o (zAZ (zAR e)) (zAE _ e)) (by rw[zA0];exact aE.1) λ j v e=>aE.2 j v (by rw[<-zAb];exact e))))
 refine zBN (PySem.W.kdl_extend (A:=A) (s:={s with heap:=s.heap.push (zBr "list" #[] 0)}) (R:=λ r s'=>∃h' tk acc' c',r= .ok (.ret (.ref s.heap.objs.size))/\s'={s with heap:=h',toks:=tk}/\(∀b o,b≠s.heap.objs.size->(s.heap.push (zBr "list" #[] 0)).get? b=some o->h'.get? b=some o)/\h'.get? s.heap.objs.size=some {cls:=.type "list",dict:=none,data:=.seq acc' c',slots:=#[]}/\ItemsOf P acc' n)
  K hh (K.keep _ _ hok λ b _ o e=>zAE _ e) s.heap.objs.size (zBg hlt.1) (zBg hlt.2) (.ref s.heap.objs.size) 0 (zAL _ rfl) (λ h' tk acc' c' hk hS' aE=>⟨h',tk,acc',c',rfl,rfl,hk,hS',aE⟩) hn) (λ f s' hf=>?_) λ e s' he=>?_
 .cases f with
  |done f=>
   obtain⟨h',tk,acc',c',q1,q2,q3,q4,q5⟩:=hf;cases q1;subst q2;exact fin h' tk acc' c' q3 q4 q5
  |again c=>
   refine⟨hf.1,zEC hf.2 λ r s' hr=>?_⟩;obtain⟨h',tk,acc',c',q1,q2,q3,q4,q5⟩:=hr;subst q1 q2;exact fin h' tk acc' c' q3 q4 q5
 .obtain⟨h',tk,acc',c',q1,_⟩:=he
  cases q1
end
def aKr(h:Heap)(p:Value×List Int):Prop:=∃x o xs k,p.1= .ref x/\h.get? x=some o/\o.cls= .type "tuple"/\o.data= .seq xs k/\zBM xs.toList p.2/\p.2≠[]
theorem bO.all:∀{vs:List Value} {nss:gV},bO h vs nss->∀p∈vs.zip nss,aKr h p
 |_,_,.nil,p,hp=>by simp at hp
 |_,_,.cons ho hc hd hi hne r,p,hp=>by
  rw[zBA]at hp;rcases zAQ.mp hp with e|hp
  .subst e;exact⟨_,_,_,_,rfl,ho,hc,hd,hi,hne⟩
  .exact r.all p hp
theorem aE3:∀{zs:kQ},(∀p∈zs,aKr h p)->bO h (zs.map (·.1)) (zs.map (·.2))
 |[],_=>.nil
 |p::zs,hz=>by
  obtain⟨x,o,xs,k,e1,e2,e3,e4,e5,e6⟩:=hz p zAH;rw[zAC,zAC,e1];exact .cons e2 e3 e4 e5 e6 (aE3 λ q hq=>hz q (zAI _ hq))
def m7(h:l.Perm m'):∀{m:List α},m'=m.map f->∃m2:List α,m2.Perm m/\l=m2.map f:=by
 induction h with
 |nil=>intro m e;exact⟨m,zBS _,e⟩
 |cons x p ih=>
  intro m e;cases m with
  |nil=>cases e
  |cons a m=>
   rw[zAC]at e;injection e with e1 e2
   obtain⟨m2,q1,q2⟩:=ih e2;exact⟨a::m2,q1.cons a,by rw[zAC,q2,e1]⟩
 |swap x y l=>
  intro m e;cases m with
  |nil=>cases e
  |cons a m=>
   cases m with
   |nil=>rw[zAC]at e;injection e with _ e2;cases e2
   |cons b m=>
    rw[zAC,zAC]at e;injection e with e1 e2
    injection e2 with e2 e3
    exact⟨b::a::m,zEN _ _ _,by rw[zAC,zAC,e1,e2,e3]⟩
 |trans p q ih1 ih2=>
  intro m e;obtain⟨m2,a1,a2⟩:=ih2 e;obtain⟨m3,b1,b2⟩:=ih1 a2;exact⟨m3,b1.trans a1,b2⟩
def uL(l:gV):Prop:=l.Pairwise λ a b=>HT.lexLt b a=false
section
variable{prog:zAT}{w:World}{A:zAa}{E:Value->zAD->Prop}{s:zAD}
def aBs{Q:Value->zAD->Prop}(hz:∀p∈zs,aKr s.heap p)(h64:zs.length<64)
  (h:∀(zs':kQ) h' e,zs'.Perm zs->uL (zs'.map (·.2))->(∀b o,s.heap.get? b=some o->h'.get? b=some o)->h'.get? s.heap.objs.size=some (zBr "list" (zs'.map (·.1)).toArray e)->Q (.ref s.heap.objs.size) {s with heap:=h'}):
  wpAny (model prog w) A (zFf (zs.map (·.1))>>=λ l=>zEK [l] (call (.builtin "list.sort") [l])>>=λ _=>ret l) (λ fin s'=>∃r,fin= .done (.ret r)/\Q r s') E s:=by
 have oQ:(zs.map (·.1)).length=zs.length:=zAF _;refine zAB (zHR ?_ (by rw[zCN];omega));have hoL:(s.heap.push (zBr "list" (zs.map (·.1)).toArray 0)).get? s.heap.objs.size=some (zBr "list" (zs.map (·.1)).toArray 0):=zAL _ rfl;refine zAB (zB2 (zB7 slot_list_sort ⟨_,hoL,rfl⟩ entry_list_sort ?_ (args_list_sort _)));refine aDw (s:={s with heap:=s.heap.push (zBr "list" (zs.map (·.1)).toArray 0)}) hoL (aE3 λ p hp=>?_) (by omega) λ p a1 a2=>⟨_,rfl,?_⟩
 .obtain⟨x,o,xs,k,e1,e2,e3⟩:=hz p hp
  exact⟨x,o,xs,k,e1,zAE _ e2,e3⟩
 rw[oQ]at a1 a2;have dP:p.toList.map (λ i=>(zs.map (·.1)).getD i zBF)=(p.toList.map λ i=>zs.getD i (zBF,[])).map (·.1):=by
  rw[zA4];refine zCE λ i hi=>?_
  show(zs.map (·.1)).getD i zBF=(zs.getD i (zBF,[])).1
  rw[zBo,zBo,zA2];cases zs[i]?<;>rfl
 have aT:(p.toList.map λ i=>zs.getD i (zBF,[])).Perm zs:=by
  have h1:p.toList.Perm (zAf zs.length):=by
   have:=Array.perm_iff_toList_perm.mp a1
   simpa using this
  refine(h1.map _).trans ?_
  have:(zAf zs.length).map (λ i=>zs.getD i (zBF,[]))=zs:=by
   refine zHi (by simp) λ i h1 h2=>?_
   rw[zDF,List.getElem_range,zBo,zAJ h2];rfl
  rw[this]
 have hne:∀b o,s.heap.get? b=some o->b≠s.heap.objs.size:=λ b o e=>zAZ (zAR e)
 obtain⟨e1,he1⟩:∃e1,((s.heap.push (zBr "list" (zs.map (·.1)).toArray 0)).update s.heap.objs.size (zCH λ _=>(#[]:Array Value))).get? s.heap.objs.size=some (zBr "list" #[] e1):=⟨_,zEl hoL λ _=>#[]⟩
 have g1:=zAE (zBr "list" #[] 0) (zAE (zBr "tuple" (zs.map (·.1)).toArray 0) he1);have g2:=zEl g1 (λ _=>qD (zs.map (·.1)) p);generalize (if ((qD (zs.map (·.1)) p).size==(#[]:Array Value).size)=true then e1 else e1+1)=c1 at g2;have hend:(zGz (s.heap.push (zBr "list" (zs.map (·.1)).toArray 0)) s.heap.objs.size (zs.map (·.1)) (qD (zs.map (·.1)) p)).get? s.heap.objs.size=some (zBr "list" (qD (zs.map (·.1)) p) c1):=g2;have aI:qD (zs.map (·.1)) p=((p.toList.map λ i=>zs.getD i (zBF,[])).map (·.1)).toArray:=by unfold qD;rw[dP]
 have hris:uL ((p.toList.map λ i=>zs.getD i (zBF,[])).map (·.2)):=by
  unfold uL;rw[zA4];refine zC6.mpr λ i j hi hj hij=>?_
  rw[zAF,zA0,a1.sz]at hi hj;have hk:∀k (hk:k<zs.length),Kp (O:=aDx) (λ i=>(zs.map (·.2)).getD i []) p k=(zs.getD (p.getD k 0) (zBF,[])).2:=λ k hk=>by
   show(zs.map (·.2)).getD (p.getD k 0) []=_
   rw[zBo,zBo,zA2];cases zs[p.getD k 0]?<;>rfl
  have hg:∀k (hk:k<p.toList.length),p.toList[k]=p.getD k 0:=λ k hk=>by
   have:k<p.size:=by simpa using hk
   simp[zBn,this]
  have this:HT.lexLt (Kp (O:=aDx) (λ i=>(zs.map (·.2)).getD i []) p j) (Kp (O:=aDx) (λ i=>(zs.map (·.2)).getD i []) p i)=false:=a2 i j (zBu hij) hj;rw[hk i hi,hk j hj]at this;rw[zDF,zDF,hg,hg];exact this
 have dA:∀b o,s.heap.get? b=some o->(zGz (s.heap.push (zBr "list" (zs.map (·.1)).toArray 0)) s.heap.objs.size (zs.map (·.1)) (qD (zs.map (·.1)) p)).get? b=some o:=λ b o e=>by
  unfold zGz;rw[zDW _ _ _ _ (hne b o e)];refine zAE _ (zAE _ ?_);rw[zDW _ _ _ _ (hne b o e)];exact zAE _ e
 rw[aI]at hend dA;have hq:=h (p.toList.map λ i=>zs.getD i (zBF,[])) _ c1 aT hris dA hend;rw[<-aI]at hq;exact zAG ⟨_,rfl,hq⟩
def sW(h:wpAny (model prog w) A.in1 (zIM v) (λ vs s'=>wpAny (model prog w) A.in1 (zFf vs>>=λ l=>zEK [l] (call (.builtin "list.sort") [l])>>=λ _=>ret l) (λ fin s'=>∃r,fin= .done (.ret r)/\Q r s') E s') E s):
  wpAny (model prog w) A (call (.builtin "sorted") [v]) Q E s:=by
 refine Calls.call_function_entry kind_sorted plain_sorted entry_sorted (args_sorted1 _) ?_;unfold zCY.«sorted»;refine zAB (m:=checkCount "sorted" 1 1 _) (zAG (zAB ?_));exact h
end
inductive b8(K:zAA)(H:Hp):List V->List (List Int)->Prop where
 |nil:b8 K H [] []
 |cons {a:Addr} {ns:List Int} {vs:List V} {nss:gV} (h:SqT K H a (ns.map V.int)) (hne:ns≠[]) (r:b8 K H vs nss):b8 K H (.ref a::vs) (ns::nss)
def jY:V->Value
 | .ref a=>.ref a
 |_=>.none
def b8.vals{K:zAA}:∀{vs:List V} {nss:gV} {us:List Value},b8 K H vs nss->Vals vs us->us=vs.map jY:=by
 intro vs nss us t v;induction v generalizing nss with
 |nil=>rfl
 |cons q s ih=>
  cases t with
  |cons _ _ r=>
   cases q;rw[zAC,ih r];rfl
theorem b8.len{K:zAA}:∀{vs:List V} {nss:gV},b8 K H vs nss->vs.length=nss.length
 |_,_,.nil=>rfl
 |_,_,.cons _ _ r=>by rw[zA3,zA3,r.len]
theorem b8.refs{K:zAA}:∀{vs:List V} {nss:gV},b8 K H vs nss->∀v∈vs,RelV v (jY v)
 |_,_,.nil,v,hv=>by simp at hv
 |_,_,.cons _ _ r,v,hv=>by
  rcases zAQ.mp hv with e|hv
  .subst e;exact rfl
  .exact r.refs v hv
theorem b8.up{K:zAA}(s:aW H H'):∀{vs:List V} {nss:gV},b8 K H vs nss->b8 K H' vs nss
 |_,_,.nil=>.nil
 |_,_,.cons h hne r=>.cons (s.sqt h) hne (r.up s)
theorem b8.at(I:Inv X kK Z H s):∀{vs:List V} {nss:gV},b8 X.K H vs nss->bO s.heap (vs.map jY) nss
 |_,_,.nil=>.nil
 |_,_,.cons h hne r=>by
  obtain⟨its,rv,⟨o,ho,hc,n,hd⟩,_⟩:=I.tuple h;exact .cons ho hc hd (by simpa using intsAre_of rv) hne (r.at I)
theorem aAJ:∀{vs:List V},(∀v∈vs,RelV v (jY v))->Vals vs (vs.map jY)
 |[],_=>.nil
 |v::vs,h=>.cons (h v zAH) (aAJ λ u hu=>h u (zAI _ hu))
def setφ(w:World)(a:Addr)(zs:kQ):Heap->Prop:=λ h=>∃es t,wO h a (!w.params.followText "set-order") zs es t
abbrev aFh(zs:List (V×List Int)):kQ:=zs.map λ q=>(jY q.1,q.2)
def aCJ(vs:List V)(nss:gV):(vs.map jY).zip nss=aFh (vs.zip nss):=by rw[zHZ];rfl
def aK8{w:World}{H:Hp}{h:Heap}{a:Addr}{zs:kQ}(S:wO h a (!w.params.followText "set-order") zs es t):cO prog w H h a (.ext (setφ w a zs)):=
 ⟨⟨es,t,S⟩,(let⟨_,e⟩:=S.at_;⟨_,e⟩),λ h1 h2 ⟨es,t,S⟩ k=>⟨es,t,{S with at_:=S.at_.keep k}⟩⟩
section
variable{X:Cx}
def aEp(K:zAA)(w:World):List V->Hp->VK->Prop:=λ xs H Q=>∃p vs nss,xs=[.ref p]/\(SqL K H p vs\/SqT K H p vs)/\b8 K H vs nss/\(ddV (vs.zip nss)).length<=76/\(∀a∈nss,∀b∈nss,hsh a=hsh b->a=b)/\∀a H',aW H H'->H' a=some (.ext (setφ w a (aFh (ddV (vs.zip nss)))))->H a=none->Q (.ref a) H'
def aES(hc:X.calm=true)(hu:X.A.units+64<cLine):gH X (.type "set") (aEp X.K X.w):=by
 intro kK s Z H xs us Q I r h;obtain⟨p,vs,nss,rfl,hp,ht,h64,hin,q⟩:=h;obtain⟨u,rfl,ru⟩:=vals1 r;cases ru;have ez:ddV ((vs.map jY).zip nss)=aFh (ddV (vs.zip nss)):=by rw[aCJ];exact aKd jY _
 have h64':(ddV ((vs.map jY).zip nss)).length<=76:=by rw[ez,zAF];exact h64
 have hfr:H s.heap.objs.size=none:=I.hok.fresh (zAM _);have fin:∀h' tk es t,wO h' s.heap.objs.size (!X.w.params.followText "set-order") (ddV ((vs.map jY).zip nss)) es t->(∀b o,s.heap.get? b=some o->h'.get? b=some o)->EP X kK Z Q (.ref s.heap.objs.size) {s with heap:=h',toks:=tk}:=λ h' tk es t g1 g5=>by
  rw[ez]at g1;exact⟨.ref s.heap.objs.size,upd H s.heap.objs.size (.ext (setφ X.w s.heap.objs.size (aFh (ddV (vs.zip nss))))),I.laid (t':=tk) g5 (zAM _) (aK8 g1),rfl,q _ _ (bJ hfr _) bG hfr⟩
 rcases hp with hp|hp
 .obtain⟨its,rv,pl,hz⟩:=I.list hp
  have e:=ht.vals rv;subst e;exact PySem.aGL (I.ok.hd hc) (by lia) pl.isList (ht.at I) h64' hin fin
 .obtain⟨its,rv,pl,hz⟩:=I.tuple hp
  have e:=ht.vals rv;subst e;exact PySem.aDA (I.ok.hd hc) (by lia) pl (ht.at I) h64' hin fin
def aDH(H:Hp)(vs:List V)(nss:gV)(Q:VK):Prop:=∀zs:List (V×List Int),zs.Perm (vs.zip nss)->uL (zs.map (·.2))->New H (.lst (zs.map (·.1))) Q
def xQ{kK:hV}(I:Inv X kK Z H s)(ht:b8 X.K H vs nss)(h64:vs.length<64)(q:aDH H vs nss Q)
  (hs1:∃h1 tk,s1={s with heap:=h1,toks:=tk}/\s.heap.objs.size<=h1.objs.size/\∀b o,s.heap.get? b=some o->h1.get? b=some o){zs:kQ}(hz:zs.Perm ((vs.map jY).zip nss))(hus:us=zs.map (·.1)):
  wpAny (model X.prog X.w) X.A.in1 (zFf us>>=λ l=>zEK [l] (call (.builtin "list.sort") [l])>>=λ _=>ret l) (λ fin s'=>∃r,fin= .done (.ret r)/\EP X kK Z Q r s') X.xe s1:=by
 obtain⟨h1,tk,rfl,hsz,keep⟩:=hs1;subst hus;have qV:∀p∈zs,aKr h1 p:=λ p hp=>by
  obtain⟨x,o,xs,k,e1,e2,e3⟩:=(ht.at I).all p (hz.mem_iff.mp hp);exact⟨x,o,xs,k,e1,keep _ _ e2,e3⟩
 have oQ:zs.length<64:=by
  rw[hz.length_eq,zF0,zAF,<-ht.len,zFO];exact h64
 refine aBs (s:={s with heap:=h1,toks:=tk}) qV oQ λ zs' h' e a1 a2 a3 a4=>?_
 have dP:(vs.map jY).zip nss=(vs.zip nss).map λ p=>(jY p.1,p.2):=by rw[zHZ];rfl
 obtain⟨ws,w1,w2⟩:=m7 (f:=λ p:V×List Int=>(jY p.1,p.2)) (a1.trans hz) dP;have hfr:H h1.objs.size=none:=I.hok.fresh hsz;have dQ:∀v∈ws.map (·.1),RelV v (jY v):=λ v hv=>by
  obtain⟨p,hp,rfl⟩:=zAU.mp hv;exact ht.refs p.1 (zCk (w1.mem_iff.mp hp)).1
 have hws:zs'.map (·.1)=(ws.map (·.1)).map jY:=by rw[w2,zA4,zA4];rfl
 have hwl:(ws.map (·.1)).length<=zAS:=by
  rw[zAF,w1.length_eq,zF0,<-ht.len,zFO,zCN];lia
 refine⟨.ref h1.objs.size,upd H h1.objs.size (.lst (ws.map (·.1))),I.laid (t':=tk) (λ b o e=>a3 b o (keep b o e)) hsz ⟨hwl,(ws.map (·.1)).map jY,e,aAJ dQ,?_⟩,rfl,(q ws w1 ?_).at hfr⟩
 .rw[<-hws];exact a4
 .have:ws.map (·.2)=zs'.map (·.2):=by rw[w2,zA4];rfl
  rw[this];exact a2
def aDT{kK:hV}{P:Value->zAD->Prop}(hc:X.calm=true)(I:Inv X kK Z H s){zs:kQ}(ha:H a=some (.ext (setφ X.w a zs)))(h64:zs.length<4000)
  (h:∀s1 (zs':kQ),(∃h1 tk,s1={s with heap:=h1,toks:=tk}/\s.heap.objs.size<=h1.objs.size/\∀b o,s.heap.get? b=some o->h1.get? b=some o)->zs'.Perm zs->wpAny (model X.prog X.w) X.A.in1 (zFf (zs'.map (·.1))>>=λ l=>zEK [l] (call (.builtin "list.sort") [l])>>=λ _=>ret l) (λ fin s'=>∃r,fin= .done (.ret r)/\P r s') X.xe s1):
  wpAny (model X.prog X.w) X.A (call (.builtin "sorted") [.ref a]) P X.xe s:=by
 obtain⟨⟨es,t,S⟩,_,_⟩:=I.hok a _ ha;obtain⟨⟨ep,e1⟩,e2,_,e3,e4,_⟩:=S;have hsz:es.size=zs.length:=by rw[<-zA0,e4.length_eq,zAF]
 have hh:X.A.in1.handled=none:=I.ok.hd hc;refine sW (aCw (aIw (ep:=ep) e2 e3) hh e1 (by rw[hsz,zCN];lia) λ h1 tk vs1 k0 k1 k2 k3=>?_);obtain⟨zs',z1,z2⟩:=m7 (f:=ent) ((pO X.w a ep es).trans e4) rfl;have hvs:vs1=zs'.map (·.1):=by
  have e5:(sy X.w a ep es).toList.map (·.2)=zs'.map (·.1):=by rw[z2,zA4];rfl
  rw[<-e5];have oQ:(sy X.w a ep es).toList.length=es.size:=by rw[(pO X.w a ep es).length_eq,zA0]
  refine zHi (by rw[k2,zAF,oQ]) λ i g1 g2=>?_
  have:=k3 i _ (zAJ g1)
  rw[<-zAb,<-zA2,zAJ g2]at this;exact(zAq this).symm
 subst hvs;exact h _ zs' ⟨h1,tk,rfl,zBu k0,k1⟩ z1
theorem aGV:∀zs:List (α×β),(zs.map (·.1)).zip (zs.map (·.2))=zs
 |[]=>rfl
 |p::zs=>by rw[zAC,zAC,zBA,aGV zs]
def aD9(K:zAA)(w:World):List V->Hp->VK->Prop:=λ xs H Q=>∃a zs,xs=[.ref a]/\H a=some (.ext (setφ w a (aFh zs)))/\b8 K H (zs.map (·.1)) (zs.map (·.2))/\zs.length<64/\aDH H (zs.map (·.1)) (zs.map (·.2)) Q
def aAF(hc:X.calm=true):gH X (.builtin "sorted") (aD9 X.K X.w):=by
 intro kK s Z H xs us Q I r h;obtain⟨a,zs,rfl,ha,ht,h64,q⟩:=h;obtain⟨u,rfl,ru⟩:=vals1 r;cases ru;exact aDT hc I ha (by rw[zAF];lia) λ s1 zs' hs1 hp=>xQ I ht (by rw[zAF];exact h64) q hs1 (by rw[aCJ,aGV];exact hp) rfl
end
def aGB(a:List Int):gV->List (List Int)
 |[]=>[a]
 |b::l=>if HT.lexLt b a then b::aGB a l else a::b::l
def vI:gV->List (List Int)
 |[]=>[]
 |a::l=>aGB a (vI l)
theorem uq(a:List Int):∀l,(aGB a l).Perm (a::l)
 |[]=>zBS _
 |b::l=>by
  unfold aGB;split
  .exact((uq a l).cons b).trans (zEN _ _ _)
  .exact zBS _
theorem ql:∀l,(vI l).Perm l
 |[]=>zBS _
 |a::l=>(uq a _).trans ((ql l).cons a)
def aJz(h:HT.lexLt a b=true):HT.lexLt b a=false:=by
 cases e:HT.lexLt b a with
 |false=>rfl
 |true=>have:=tK a b a h e;rw[aBR]at this;cases this
def aMi(h1:HT.lexLt b a=false)(h2:HT.lexLt c b=false):HT.lexLt c a=false:=by
 cases e:HT.lexLt c a with
 |false=>rfl
 |true=>
  rcases aH8 c b a e with z|z
  .rw[h2]at z;cases z
  .rw[h1]at z;cases z
theorem yo(a:List Int):∀l,uL l->uL (aGB a l)
 |[],_=>zAx.mpr ⟨λ _ h=>by simp at h,.nil⟩
 |b::l,h=>by
  obtain⟨h1,h2⟩:=zAx.mp h;unfold aGB;cases e:HT.lexLt b a with
  |true=>
   rw[if_pos rfl];refine zAx.mpr ⟨λ x hx=>?_,yo a l h2⟩;rcases zAQ.mp ((uq a l).mem_iff.mp hx)with q|q
   .subst q;exact aJz e
   .exact h1 x q
  |false=>
   rw[if_neg (by simp)];refine zAx.mpr ⟨λ x hx=>?_,h⟩;rcases zAQ.mp hx with q|q
   .subst q;exact e
   .exact aMi e (h1 x q)
theorem oE:∀l,uL (vI l)
 |[]=>.nil
 |a::l=>yo a _ (oE l)
theorem aAO:∀{a b:gV},a.Perm b->uL a->uL b->a=b
 |[],b,p,_,_=>p.nil_eq
 |x::a,b,p,h1,h2=>by
  cases b with
  |nil=>exact absurd p.length_eq (by simp)
  |cons y b=>
   have hxy:x=y:=by
    obtain⟨q1,_⟩:=zAx.mp h1;obtain⟨q2,_⟩:=zAx.mp h2;have m1:x∈y::b:=p.mem_iff.mp zAH;have m2:y∈x::a:=p.mem_iff.mpr zAH;rcases zAQ.mp m1 with e|m1
    .exact e
    .rcases zAQ.mp m2 with e|m2
     .exact e.symm
     .exact yS _ _ (q2 x m1) (q1 y m2)
   subst hxy;rw[aAO (List.Perm.cons_inv p) (zAx.mp h1).2 (zAx.mp h2).2]
abbrev tupI(ns:List Int):D:=.tup (ns.map .int)
def mJ:List D->Option gV
 |[]=>some []
 | .tup l::r=>match intsOf l,mJ r with
  |some (n::ns),some nss=>some ((n::ns)::nss)
  |_,_=>none
 |_=>none
theorem jr:∀{l:List D} {nss:gV},mJ l=some nss->l=nss.map tupI/\∀ns∈nss,ns≠[]
 |[],nss,h=>by cases h;exact⟨rfl,λ ns h=>by simp at h⟩
 | .tup l::r,nss,h=>by
  unfold mJ at h;split at h
  .rename_i n ns nss' e1 e2
   cases h;obtain⟨q1,q2⟩:=jr e2;rw[iV e1,q1];refine⟨rfl,λ ms hm=>?_⟩;rcases zAQ.mp hm with e|hm
   .subst e;simp
   .exact q2 ms hm
  .cases h
 | .non::_,_,h=>by cases h
 | .int _::_,_,h=>by cases h
 | .bl _::_,_,h=>by cases h
 | .str _::_,_,h=>by cases h
 | .lst _::_,_,h=>by cases h
 | .dct _ _::_,_,h=>by cases h
 | .set _::_,_,h=>by cases h
 | .scr _::_,_,h=>by cases h
theorem xJ:∀{nss:gV},(∀ns∈nss,ns≠[])->mJ (nss.map tupI)=some nss
 |[],_=>rfl
 |[]::nss,h=>absurd rfl (h [] zAH)
 |(n::ns)::nss,h=>by
  have ih:=xJ λ ms hm=>h ms (zAI _ hm)
  rw[zAC];unfold mJ;rw[ih,show intsOf (List.map D.int (n::ns))=some (n::ns)from jd _]
theorem sS{K:zAA}:∀{xs:List V} {nss:gV},Rps K A H xs (nss.map tupI)->(∀ns∈nss,ns≠[])->b8 K H xs nss
 |_,[],.nil,_=>.nil
 |_,ns::nss,.cons h r,hne=>by
  cases h with
  |tup h r'=>
   have e:=r'.ints_of;subst e;exact .cons h (hne ns zAH) (sS r λ ms hm=>hne ms (zAI _ hm))
theorem aGp{K:zAA}:∀{zs:List (V×List Int)},(∀p∈zs,∃a,p.1= .ref a/\SqT K H a (p.2.map V.int))->Rps K A H (zs.map (·.1)) ((zs.map (·.2)).map tupI)
 |[],_=>.nil
 |p::zs,h=>by
  obtain⟨a,e1,e2⟩:=h p zAH;rw[zAC,zAC,zAC,e1];exact .cons (.tup e2 .ints) (aGp λ q hq=>h q (zAI _ hq))
theorem b8.all{K:zAA}:∀{vs:List V} {nss:gV},b8 K H vs nss->∀p∈vs.zip nss,∃a,p.1= .ref a/\SqT K H a (p.2.map V.int)
 |_,_,.nil,p,hp=>by simp at hp
 |_,_,.cons h _ r,p,hp=>by
  rw[zBA]at hp;rcases zAQ.mp hp with e|hp
  .subst e;exact⟨_,rfl,h⟩
  .exact r.all p hp
def aBt{K:zAA}(ht:b8 K H vs nss)(q:∀v H',aW H H'->Rp K (λ p=>H p=none) H' v (.lst ((vI nss).map tupI))->Q v H'):aDH H vs nss Q:=by
 intro zs hz hr p H' s hp hn;have e:zs.map (·.2)=vI nss:=aAO (((hz.map (·.2)).trans (by rw[zEH (by rw[ht.len];exact zAM _)])).trans (ql nss).symm) hr (oE nss);refine q _ H' s (.lst hp hn ?_);rw[<-e];exact aGp λ p hp=>by
  obtain⟨a,e1,e2⟩:=ht.all p (hz.mem_iff.mp hp);exact⟨a,e1,s.sqt e2⟩
def aIi(K:zAA)(r:List V->Hp->VK->Prop)(fd:List D->Rs D):Prop:=∀(A:Addr->Prop) xs ds H (Q:VK) z,Rps K A H xs ds->fd ds= .ok z->(∀v H',aW H H'->Rp K (λ p=>H p=none) H' v z->Q v H')->r xs H Q
def aEc{K:zAA}(hs:aIi K r fd)(h1:aKp K G m ta g):gZ K G (some []) (tCB r ta) (opA fd g):=by
 intro U Z H Y lab Q R W;refine h1 U Z H Y lab _ R (W.bd.imp λ d _ w x H1 s1 r1=>?_);obtain⟨z,ez,w⟩:=w.okD;exact hs (fpM m lab H) x d H1 Q z r1 ez λ v H' s r=>w v H' (s1.trans s) (r.wk λ p o _ q=>.inl (s1.free q))
def aK0(nss:gV):Bool:=nss.all λ a=>nss.all λ b=>a==b||hsh a !=hsh b
def aKZ(h:aK0 nss=true):∀a∈nss,∀b∈nss,hsh a=hsh b->a=b:=λ a ha b hb e=>by
 have:=zAu.mp (zAu.mp h a ha) b hb
 simpa[e]using this
theorem b8.one{K:zAA}:∀{zs:List (V×List Int)},(∀p∈zs,∃a,p.1= .ref a/\SqT K H a (p.2.map V.int)/\p.2≠[])->b8 K H (zs.map (·.1)) (zs.map (·.2))
 |[],_=>.nil
 |p::zs,h=>by
  obtain⟨a,e1,e2,e3⟩:=h p zAH;rw[zAC,zAC,e1];exact .cons e2 e3 (b8.one λ q hq=>h q (zAI _ hq))
theorem b8.ne{K:zAA}:∀{vs:List V} {nss:gV},b8 K H vs nss->∀ns∈nss,ns≠[]
 |_,_,.nil,ns,h=>by simp at h
 |_,_,.cons _ hne r,ns,h=>by
  rcases zAQ.mp h with e|h
  .subst e;exact hne
  .exact r.ne ns h
def b8.dd{K:zAA}(t:b8 K H vs nss):b8 K H ((ddV (vs.zip nss)).map (·.1)) ((ddV (vs.zip nss)).map (·.2)):=b8.one λ p hp=>by
 obtain⟨a,e1,e2⟩:=t.all p (wj hp);exact⟨a,e1,e2,t.ne _ (zCk (wj hp)).2⟩
theorem b8.ddT{K:zAA}(t:b8 K H vs nss):(ddV (vs.zip nss)).map (·.2)=VL.ddT nss:=by rw[aKc,zEH (by rw[t.len];exact zAM _)]
def jP(n:Nat)(l:List D):Rs D:=match mJ l with
 |some nss=>if (ddT nss).length<n/\aK0 nss=true then .ok (.lst ((vI (ddT nss)).map tupI))else .st
 |none=>.st
def cJ:List D->Rs D
 |[.lst l]=>jP 64 l
 |[.tup l]=>jP 64 l
 |_=>.st
def aJJ{K:zAA}{w:World}{Q Q':VK}(hp:SqL K H p vs\/SqT K H p vs)(r:Rps K A H vs l)(ez:jP n l= .ok z)(hn:n<=77)
  (hr:∀a zs H2,aW H H2->H2 a=some (.ext (setφ w a (aFh zs)))->b8 K H2 (zs.map (·.1)) (zs.map (·.2))->zs.length<n->aDH H2 (zs.map (·.1)) (zs.map (·.2)) Q->Q' (.ref a) H2)
  (q:∀v H',aW H H'->Rp K (λ p=>H p=none) H' v z->Q v H'):aEp K w [.ref p] H Q':=by
 unfold jP at ez;split at ez
 .rename_i nss e
  obtain⟨e1,e2⟩:=jr e;subst e1;split at ez
  .rename_i hl
   cases ez;have ht:=sS r e2;have hlv:=hl.1;rw[<-ht.ddT,zAF]at hlv;refine⟨_,_,nss,rfl,hp,ht,by lia,aKZ hl.2,λ a H2 s2 ha hn=>hr a _ H2 s2 ha (ht.dd.up s2) hlv ?_⟩;refine aBt (ht.dd.up s2) ?_;rw[ht.ddT];exact λ v H' s r=>q v H' (s2.trans s) (r.wk λ p o _ q=>s2.free q)
  .cases ez
 .cases ez
section
variable{C:Ct}{pos p p2 pos2:Pos}{m:Mode}{a:Expr}{ga:En->Rs (List D)}
def sZ(hm:C.mg "sorted"=none)(hm2:C.mg "set"=none)(ha:SA C m [a] ga)(he:∀i,zAV [a] (C.X i).env=[(false,eval a (C.X i).env)]:=by intro _;rfl)(he2:∀i,zAV [Expr.Call (.Name "set" p2) [a] [] pos2] (C.X i).env=[(false,eval (.Call (.Name "set" p2) [a] [] pos2) (C.X i).env)]:=by intro _;rfl)(hg:∀i,Gl (C.X i) "sorted":=by intro _;rfl)(hv:zAw "sorted"=some (.builtin "sorted"):=by decide+kernel)(hg2:∀i,Gl (C.X i) "set":=by intro _;rfl)(hv2:zAw "set"=some (.type "set"):=by decide+kernel):
  SE C (some []) (.Call (.Name "sorted" p) [.Call (.Name "set" p2) [a] [] pos2] [] pos) (opA cJ ga):=by
 obtain⟨t,h1,h2⟩:=ha;have hw:∀i,(C.X i).w=C.w:=λ i=>(C.cx i).2.1
 refine⟨tCB (aD9 C.K C.w) (lJ (tCB (aEp C.K C.w) t) z8),λ i=>oU (by rw[<-C.hK i,<-hw i];exact aAF (C.calm i)) (hg i) (by rw[(C.cx i).2.2.2.1];exact hm) hv
  (fD (lO (by rw[<-C.hK i,<-hw i];exact aES (C.calm i) (C.u64 i)) (hg2 i) (by rw[(C.cx i).2.2.2.1];exact hm2) hv2 (h1 i) (by decide) (by decide) (he i) rfl) lD (he2 i)) (by decide) (by decide) (he2 i) rfl,λ U Z H Y lab Q R W=>?_⟩
 refine h2 U Z H Y lab _ R (W.bd.imp λ ds _ w xs H1 s1 r1=>?_);obtain⟨z,ez,w⟩:=w.okD;have fin:∀{p vs l},(SqL C.K H1 p vs\/SqT C.K H1 p vs)->∀{A},Rps C.K A H1 vs l->jP 64 l= .ok z->aEp C.K C.w [.ref p] H1 λ x H2=>aD9 C.K C.w [x] H2 Q:=λ hp _ r ez=>aJJ hp r ez (by decide) (λ a zs H2 _ h1 h2 h3 h4=>⟨a,zs,rfl,h1,h2,h3,h4⟩) λ v H' s r=>w v H' (s1.trans s) (r.wk λ p o _ q=>.inl (s1.free q))
 unfold cJ at ez;split at ez
 .cases r1 with
  |cons h r=>
   cases r;obtain⟨a,xs,rfl,h,m,r⟩:=h.lst_inv;exact fin (.inl (SqL.of h)) r ez
 .cases r1 with
  |cons h r=>
   cases r;obtain⟨a,xs,rfl,h,r⟩:=h.tup_inv;exact fin (.inr h) r ez
 .cases ez
end
structure Mg{β:Type}(r:β->β->Prop)(T out ra rb:List β):Prop where
 pm:(out++(ra++rb)).Perm T
 so:out.Pairwise r
 lo:∀x∈out,∀y∈ra++rb,r x y
 sa:ra.Pairwise r
 sb:rb.Pairwise r
section
variable{β:Type}{r:β->β->Prop}{T:List β}
def Mf(r:β->β->Prop)(T o:List β):Prop:=o.Perm T/\o.Pairwise r
end
structure Eg(st st':zDH):Prop where
 k:zDI st'=zDI st
 a:arrOf st'=arrOf st
 p:zGW st'=zGW st
 f:zGO st'=zGO st
abbrev LS:=Option (Array Keyed)×Array Keyed×Nat×Nat×Nat×Nat×Nat
section
variable{O:zCC}{kf:Keyed->O.α}{T:List Keyed}{a b out:Array Keyed}{ia ib mg ac bc m0:Nat}{st:zDH}{Q:ForInStep LS->zDH->Prop}
abbrev rK(O:zCC)(kf:Keyed->O.α)(x y:Keyed):Prop:=O.kle (kf x) (kf y)
abbrev Ml(O:zCC)(kf:Keyed->O.α)(T:List Keyed)(a b out:Array Keyed)(ia ib:Nat):Prop:=Mg (rK O kf) T out.toList (a.toList.drop ia) (b.toList.drop ib)
structure Tu(O:zCC)(kf:Keyed->O.α)(T:List Keyed)(a b:Array Keyed)(m0:Nat)(st:zDH)(Q:ForInStep LS->zDH->Prop):Prop where
 ret:∀o out ia ib mg ac bc st',Eg st st'->Mf (rK O kf) T o.toList->Q (.done (some o,out,ia,ib,mg,ac,bc)) st'
 on:∀out ia ib mg ac bc st',Eg st st'->Ml O kf T a b out ia ib->ia+1<a.size->ib<b.size->m0<ia+ib->Q (.done (none,out,ia,ib,mg,ac,bc)) st'/\Q (.yield (none,out,ia,ib,mg,ac,bc)) st'
end
abbrev HS:=Option (Array Keyed)×Nat×Nat×Array Keyed×Nat×Nat×Nat
section
variable{O:zCC}{kf:Keyed->O.α}{T:List Keyed}{a b out:Array Keyed}{na nb mg ac bc m0:Nat}{st:zDH}{Q:ForInStep HS->zDH->Prop}
abbrev rH(O:zCC)(kf:Keyed->O.α)(x y:Keyed):Prop:=O.kle (kf y) (kf x)
abbrev Mh(O:zCC)(kf:Keyed->O.α)(T:List Keyed)(a b out:Array Keyed)(na nb:Nat):Prop:=Mg (rH O kf) T out.toList (a.toList.take na).reverse (b.toList.take nb).reverse
structure Th(O:zCC)(kf:Keyed->O.α)(T:List Keyed)(a b:Array Keyed)(m0:Nat)(st:zDH)(Q:ForInStep HS->zDH->Prop):Prop where
 ret:∀o na nb out mg ac bc st',Eg st st'->Mf (rK O kf) T o.toList->Q (.done (some o,na,nb,out,mg,ac,bc)) st'
 on:∀na nb out mg ac bc st',Eg st st'->Mh O kf T a b out na nb->0<na->1<nb->na<=a.size->nb<=b.size->na+nb<m0->Q (.done (none,na,nb,out,mg,ac,bc)) st'/\Q (.yield (none,na,nb,out,mg,ac,bc)) st'
end
structure Ea(st st':zDH):Prop where
 k:zDI st'=zDI st
 p:zGW st'=zGW st
 f:zGO st'=zGO st
section
variable{κ:zDS}{G:Keyed->Prop}{st:zDH}{P R:List Keyed}{lo:Nat}
structure Sg(κ:zDS)(G:Keyed->Prop)(st:zDH)(lo:Nat)(P R:List Keyed):Prop where
 k:zDI st=κ
 l:(arrOf st).toList=P++R
 p:P.length=lo
 g:∀x∈R,G x
end
def Pr(O:zCC)(kf:Keyed->O.α):Nat->List (List Keyed)->List (Nat×Nat×Nat)->Prop
 |_,[],[]=>True
 |o,x::segs,p::ps=>p.1=o/\p.2.1=x.length/\0<x.length/\x.Pairwise (rK O kf)/\Pr O kf (o+x.length) segs ps
 |_,_,_=>False
section
variable{κ:zDS}{O:zCC}{kf:Keyed->O.α}{st:zDH}{T R:List Keyed}{segs:List (List Keyed)}
structure Rn(κ:zDS)(O:zCC)(kf:Keyed->O.α)(T:List Keyed)(st:zDH)(segs:List (List Keyed))(R:List Keyed):Prop where
 k:zDI st=κ
 f:zGO st=none
 l:(arrOf st).toList=segs.flatten++R
 pm:(arrOf st).toList.Perm T
 pr:Pr O kf 0 segs (zGW st).toList
end
def fV{α:Type}(l:List α)(i:Int)(y:α):List α:=l.take (if i<0 then(i+(l.length:Int)).toNat else min i.toNat l.length)++y::l.drop (if i<0 then(i+(l.length:Int)).toNat else min i.toNat l.length)
def aA6(l:List α)(i:Int)(y:α):(fV l i y).length=l.length+1:=by
 unfold fV;rw[zAj,zA3,zBp,zC7];omega
def aLF:V->List V->Hp->VK->Prop:=λ x vs H Q=>∃l xs i y,x= .ref l/\vs=[.int i,y]/\H l=some (.lst xs)/\-(2^63)<=i/\i<2^63/\xs.length<zAS/\∀H',nj l H H'->H' l=some (.lst (fV xs i y))->Q .non H'
def aJv:MtM X "list.insert" aLF:=by
 intro kK s Z H x vs v us Q I rx rv h;obtain⟨l,xs,i,y,rfl,rfl,hH,h1,h2,hz,q⟩:=h;cases rx;obtain⟨u1,u2,rfl,r1,r2⟩:=vals2 rv;obtain⟨t,rfl⟩:=r1;obtain⟨z,its,n,r,hl,e⟩:=I.lstM hH;have hf:zCx i=true:=by unfold zCx;simp;omega
 refine zDg zF4 ⟨_,e,rfl⟩ PySem.F.entry_list_insert (PySem.F.args_list_insert_3 _ _ _) (zIY l its.toArray n i t u2 (by simp[hf]) (by rw[zAP];omega)) ⟨e,?_⟩;refine⟨.non,_,I.lset (ys:=fV xs i y) (its':=fV its i u2) hH e ?_ ?_ ?_,rfl,q _ (λ b o ne hb=>by rw[bA ne];exact hb) bG⟩
 .show(its.toArray.extract 0 (if i<0 then(i+(its.toArray.size:Int)).toNat else min i.toNat its.toArray.size)).push u2++its.toArray.extract (if i<0 then(i+(its.toArray.size:Int)).toNat else min i.toNat its.toArray.size)=(fV its i u2).toArray
  rw[PySem.W.kl_ins_eq,zAP];rfl
 .unfold fV
  rw[hl];exact(r.take _).append (.cons r2 (r.drop _))
 .rw[aA6];omega
theorem Rps.fV{K:zAA}(r:Rps K A H xs ds)(h:Rp K A H x d)(i:Int):Rps K A H (VL.fV xs i x) (VL.fV ds i d):=by
 unfold VL.fV;rw[r.length];exact(r.take _).append (.cons h (r.drop _))
section
variable{C:Ct}{pos apos cpos p:Pos}{e e1 e2:Expr}{f1 f2:En->Rs D}{i:Nat}{x:Str}{m m1:Mode}
def aHp(i:Nat)(f1 f2:En->Rs D):En->Ou:=λ Y=>match Y[i]? with
 |some (.ow (.lst ds))=>(f1 Y).bo λ k=>match k with
  | .int n=>(f2 Y).bo λ d=>if -(2^63)<=n/\n<2^63/\ds.length<zAS then .nx (Y.set i (.ow (.lst (fV ds n d))))else .st
  |_=>.st
 |_=>.st
def aF7(i:Nat)(he1:SE C m1 e1 f1)(he2:SE C m e2 f2)(hm:okN m=true:=by rfl)(hN:∀j,(C.X j).N[i]? =some x:=by intro _;rfl)(hv:∀j,Vis (C.X j).env.scope x:=by intro _;first|exact zD7 rfl|exact zC8 (zD7 rfl)|exact zC8 (zC8 rfl))(hd:Nd x:=by decide)
  (hcd:(x==("__classdict__":Str))=false:=by decide)(hs1:∀j,zAV [e1,e2] (C.X j).env=(false,eval e1 (C.X j).env)::zAV [e2] (C.X j).env:=by intro _;rfl)(hs2:∀j,zAV [e2] (C.X j).env=[(false,eval e2 (C.X j).env)]:=by intro _;rfl)
  (hbase:∀j,zCM (.Name x p) "insert" (C.X j).env (eval (.Name x p) (C.X j).env)=eval (.Name x p) (C.X j).env:=by intro _;rfl)
  (hfew:∀j,((zCB cpos (zAV [e1,e2] (C.X j).env)).all (λ x=>!x.1)&&(zE2 cpos (zCo [] (C.X j).env)).all (λ x=>x.1.isSome)&&decide ([e1,e2].length+([]:List zCA).length+(if ([]:List zCA).isEmpty then 0 else 1)<30))=true:=by intro _;rfl)
  (hline:(apos.endLine==cpos.line)=true:=by rfl)(hplain:∀j,(zCB cpos (zAV [e2] (C.X j).env)).any (·.1)=false:=by intro _;rfl)
  (hsw:∀j,zDp (.Call (.Attribute (.Name x p) "insert" apos) [e1,e2] [] cpos) none pos.line (C.X j).env=pure false:=by intro _;rfl):
  SS C (.Expr (.Call (.Attribute (.Name x p) "insert" apos) [e1,e2] [] cpos) pos) (aHp i f1 f2):=by
 obtain⟨t1,a1,a2⟩:=he1;obtain⟨t2,b1,b2⟩:=he2;refine⟨aG5 (tBM C.K "list" aLF (aBn i) (lJ t1 (lJ t2 z8))),λ j=>aBJ (by rw[<-C.hK j];exact aEv zFa zF4 PySem.F.type_list_insert aJv (rG (hN j) (hv j) hd hcd) (fD (a1 j) (fD (b1 j) lD (hs2 j)) (hs1 j)) (hbase j) (hfew j) hline (hs1 j) (hplain j)) (hsw j),λ U Z H Y lab De R W=>?_⟩;unfold aHp at W;cases es:Y[i]? with
 |none=>rw[es]at W;exact zAN W
 |some s=>
  rw[es]at W;split at W
  .rename_i ds hs
   cases hs;rcases R.sl i _ es with z|⟨v,ev,hv'⟩
   .cases z
   .obtain⟨hv1,htop⟩:=hv'
    obtain⟨a0,ea0,la0⟩:=htop rfl;subst ea0;cases hv1 with
    |lst h mm r=>
     rename_i xs;refine⟨.ref a0,ev,.inl ⟨rfl,xs,SqL.of h⟩,a2 U Z H Y lab _ R (W.bo.imp λ k _ w y1 H1 s1 r1=>?_)⟩;cases k with
     |int n=>
      cases r1;refine b2 U Z H1 Y lab _ (R.up s1) (w.bo.imp λ d _ w y H2 s2 r2=>?_);by_cases hz: -(2^63)<=n/\n<2^63/\ds.length<zAS
      .rw[if_pos hz]at w
       refine⟨a0,xs,n,y,rfl,rfl,(s1.trans s2) _ _ h,hz.1,hz.2.1,by rw[r.length];exact hz.2.2,λ H3 B h3=>?_⟩;obtain⟨R',r'⟩:=(R.up s1).fresh (P:=λ k=>k=1) rfl (λ k hk=>beq_iff_eq.mp (tD hm k hk)) s2 r2;have h1:H1 a0=some (.lst xs):=s1 _ _ h;have la:(eQ H1 1 lab a0).1=i+2:=by rw[cC h1];exact la0
       refine w Z H3 _ (R'.mut ev (s2 _ _ h1) rfl la B ⟨.lst h3 (.inr la) ?_,λ _=>⟨a0,rfl,la⟩⟩);have ra:Rps C.K (λ p=>((eQ H1 1 lab p).1=1\/(eQ H1 1 lab p).1=i+2)/\p≠a0) H2 (fV xs n y) (fV ds n d):=by
        refine(r.mono (s1.trans s2) λ p o e z=>⟨by rw[cC (s1 _ _ e)];exact z.1,z.2⟩).fV (r'.wk λ p o e z=>⟨.inl z,λ q=>?_⟩) n;subst q;rw[la]at z;omega
       exact ra.but B (s2 _ _ h1) rfl λ z=>z.2 rfl
      .rw[if_neg hz]at w
       exact zAN w
     |_=>exact zAN w
  .exact zAN W
end
def aKD:∀{us:List α},us.length=6->∃a0 a1 a2 a3 a4 a5,us=[a0,a1,a2,a3,a4,a5]
 |[a0,a1,a2,a3,a4,a5],_=>⟨a0,a1,a2,a3,a4,a5,rfl⟩
def qR(j:Int):List Int:=(zAf j.toNat).map λ(k:Nat)=>0+(k:Int)
def aNp:List V->Hp->VK->Prop:=λ xs H Q=>∃j:Int,xs=[.int j]/\∀p,H p=none->Q (.ref p) (upd H p (.rng 0 j))
def aIZ:gH X (.type "range") aNp:=by
 intro kK s Z H vs us Q I rv h;obtain⟨j,rfl,q⟩:=h;obtain⟨u,rfl,ru⟩:=rv.one;obtain⟨t,rfl⟩:=ru;exact call_range_1 ⟨.ref s.heap.objs.size,_,I.laid (a:=s.heap.objs.size) (o:=.rng 0 j) (t':=s.toks+1+1) (λ _ _ q=>zAE _ q) (zAM _) ⟨_,_,_,zAL _ rfl⟩,rfl,q _ (I.hok.fresh (zAM _))⟩
def aCL:List V->Hp->VK->Prop:=λ xs H Q=>∃(p:Addr) (j:Int),xs=[.ref p]/\H p=some (.rng 0 j)/\-(2^62)<=j/\j<=10000/\∀l H',aW H H'->H l=none->H' l=some (.lst ((qR j).map V.int))->Q (.ref l) H'
def aIr:∀{ns:List Int} {us:List Value},ns.length=us.length->(∀(k:Nat) i,ns[k]? =some i->∃tk,us[k]? =some (.int i tk))->Vals (ns.map V.int) us:=by
 intro ns;induction ns with
 |nil=>intro us hl _;rw[List.eq_nil_of_length_eq_zero hl.symm];exact .nil
 |cons n ns ih=>
  intro us hl h;obtain⟨tk,e⟩:=h 0 n rfl;cases us with
  |nil=>cases e
  |cons u us=>
   have e':u= .int n tk:=zAq e;subst e';exact .cons ⟨tk,rfl⟩ (ih (zHp hl) λ k i hi=>h (k+1) i hi)
def aB7(hc:X.calm=true):gH X (.type "list") aCL:=by
 intro kK s Z H vs us Q I rv h;obtain⟨p,j,rfl,hp,h1,h2,q⟩:=h;obtain⟨u,rfl,ru⟩:=rv.one;cases ru;obtain⟨t,u,v,hg⟩:=I.hok p _ hp;have hsz:zDU 0 j 1=(j.toNat:Int):=by
  unfold zDU;simp only[show(1:Int)>0 by decide,if_true];split<;>lia
 refine call_list_range (n:=j.toNat) (I.ok.hd hc) hg ?_ hsz (by lia) λ h' tk acc c' hk hS aE=>?_
 .have fl:∀x:Int,-(2^62)<=x->x<=2^62->zE7 x=true:=λ x hx1 hx2=>by
   unfold zE7;simp;lia
  unfold zI5;rw[hsz,fl 0 (by lia) (by lia),fl j (by lia) (by lia),fl 1 (by lia) (by lia),fl _ (by lia) (by lia),if_pos (by decide),fl (j+(1-1)) (by lia) (by lia),zI4];rfl
 .have hfr:=I.hok.fresh (zAM s.heap.objs.size)
  have hv:Vals ((qR j).map V.int) acc.toList:=by
   have hl:(qR j).length=acc.toList.length:=by rw[show acc.toList.length=acc.size from zA0,aE.1];simp[qR]
   refine aIr hl λ k i hi=>?_
   have hk2:k<acc.size:=by rw[aE.1];have:=(zAO.mp hi).1;simpa[qR]using this
   obtain⟨tk,e⟩:=aE.2 k acc[k] (zAm hk2);refine⟨tk,?_⟩;have ei:i=0+(k:Int)*1:=by
    unfold qR at hi;rw[zA2]at hi;cases c:(zAf j.toNat)[k]? with
    |none=>rw[c]at hi;cases hi
    |some m=>
     rw[c]at hi;cases hi
     have:=zAO.mp c
     have:m=k:=by simpa using this.2.symm
     subst this
     show(0:Int)+(m:Int)=0+(m:Int)*1
     lia
   rw[ei,<-e];simp[hk2]
  refine⟨.ref s.heap.objs.size,upd H s.heap.objs.size (.lst ((qR j).map V.int)),I.laid (t':=tk) hk (zAM _) ⟨?_,acc.toList,c',hv,by simpa using hS⟩,rfl,q _ _ (bJ hfr _) hfr bG⟩;simp[qR]
  have:zAS=16777216:=zCN
  lia
def lrR:D->Rs D
 | .int j=>if -(2^62)<=j/\j<=10000 then .ok (.lst (cQ 0 j))else .st
 |_=>.st
def lrD(fa:En->Rs D):En->Rs D:=λ Y=>(fa Y).bd lrR
def aFf(j:Int):cQ 0 j=(qR j).map D.int:=by
 unfold cQ qR;rw[zA4,Int.sub_zero];rfl
section
variable{C:Ct}{pos pos2 p p2:Pos}{a:Expr}{fa:En->Rs D}{m:Mode}
def aDY(hmL:C.mg "list"=none)(hmR:C.mg "range"=none)(ha:SE C m a fa)(hs:∀i,zAV [a] (C.X i).env=[(false,eval a (C.X i).env)]:=by intro _;rfl)(hs2:∀i,zAV [.Call (.Name "range" p2) [a] [] pos2] (C.X i).env=[(false,eval (.Call (.Name "range" p2) [a] [] pos2) (C.X i).env)]:=by intro _;rfl)(hgL:∀i,Gl (C.X i) "list":=by intro _;rfl)(hvL:zAw "list"=some (.type "list"):=by decide+kernel)(hgR:∀i,Gl (C.X i) "range":=by intro _;rfl):SE C (some []) (.Call (.Name "list" p) [.Call (.Name "range" p2) [a] [] pos2] [] pos) (lrD fa):=by
 obtain⟨t,h1,h2⟩:=ha;refine⟨tCB aCL (lJ (tCB aNp (lJ t z8)) z8),λ i=>lO (aB7 (C.calm i)) (hgL i) (by rw[(C.cx i).2.2.2.1];exact hmL) hvL (fD (lO aIZ (hgR i) (by rw[(C.cx i).2.2.2.1];exact hmR) zIj (fD (h1 i) lD (hs i)) (by decide) (by decide) (hs i) rfl) lD (hs2 i)) (by decide) (by decide) (hs2 i) rfl,λ U Z H Y lab Q R W=>?_⟩;refine h2 U Z H Y lab _ R (W.bd.imp λ d _ w y H1 s1 r1=>?_);unfold lrR at w;split at w
 .rename_i j _
  by_cases hz: -(2^62)<=j/\j<=10000
  .rw[if_pos hz]at w
   have ey:=r1.int_inv;subst ey;refine⟨j,rfl,λ q hq=>⟨q,j,rfl,bG,hz.1,hz.2,λ l H' s' hl hH'=>?_⟩⟩;have s0:=(s1.trans (bJ hq _)).trans s';have hlH:H l=none:=(s1.trans (bJ hq _)).free hl;refine w _ H' s0 (.lst hH' (.inl hlH) ?_);rw[aFf];exact Rps.ints
  .rw[if_neg hz]at w
   exact zAN w
 .exact zAN w
end
def aO8(Y:En)(i:Nat)(ds:List Int):D->Ou
 | .int z=>if ds.length<4000 then .nx (Y.set i (.ow (.set (step_dedup ds z))))else .st
 |_=>.st
section
variable{prog:zAT}{w:World}{A:zAa}{E:Value->zAD->Prop}{s:zAD}{it t:Addr}{i:Nat}{items:Array Value}
theorem NoD.at{h:Heap}{a:Addr}{o:Obj}(e:h.get? a=some o)(hd:o.dict=none:=by rfl):L2.NoD h a:=λ u q=>by rw[e]at q;cases q;exact hd
def aDp(hit:s.heap.IsTupleIter it t i)(ht:s.heap.IsTuple t items)(hx:items[i]? =some x)
  (hQ:∀h',h'.IsTupleIter it t (i+1)->zCy it s.heap h'->Q x {s with heap:=h'}):wpAny (model prog w) A (zCD (.ref it)) Q E s:=by
 obtain⟨o,ho,hc,hd⟩:=id hit;obtain⟨ol,hol,_,nl,hdl⟩:=ht;unfold zCD;refine zAB (zB1 (name:=zDD "__next__") hit.typeIs zC1 (zB7 zC1 hit.typeIs zFs ?_ (zFl _)));show wpAny _ _ (field (.ref it) 0>>=_) _ _ s;refine zAB (zDO ho hd (x:=.ref t) rfl ?_);show wpAny _ _ (if (zAr t==zBF)=true then _ else _) _ _ s;rw[if_neg (show¬((zAr t==zBF)=true)from zAX)];show wpAny _ _ (field (.ref it) 1>>=_) _ _ s;refine zAB (zDO ho hd (x:=.int i 0) rfl ?_);show wpAny _ _ (seqItems? (.ref t)>>=_) _ _ s;refine zAB (zEL hol hdl ?_);simp only[zCV,hx];refine zAB (zEM ho hd (by simp) (zAG ⟨x,rfl,zAG (hQ _ ⟨_,zEU _ ho (zGi (zEv hd _)),(Obj.cls_mapFields ..).trans hc,by rw[zEv hd];simp[zGX]⟩ (zBW ..))⟩))
def aAW(hh:A.handled=none)(hit:s.heap.IsTupleIter it t i)(ht:s.heap.IsTuple t items)(hx:items[i]? =none)
  (hE:∀h' e,Heap.ExtBut it s.heap h'->(∃o,h'.get? e=some o/\o.cls= .type "StopIteration")->E (.ref e) {s with heap:=h'}):wpAny (model prog w) A (zCD (.ref it)) Q E s:=by
 obtain⟨o,ho,hc,hd⟩:=id hit;obtain⟨ol,hol,_,nl,hdl⟩:=ht;unfold zCD;refine zAB (zB1 (name:=zDD "__next__") hit.typeIs zC1 (zB7 zC1 hit.typeIs zFs ?_ (zFl _)));show wpAny _ _ (field (.ref it) 0>>=_) _ _ s;refine zAB (zDO ho hd (x:=.ref t) rfl ?_);show wpAny _ _ (if (zAr t==zBF)=true then _ else _) _ _ s;rw[if_neg (show¬((zAr t==zBF)=true)from zAX)];show wpAny _ _ (field (.ref it) 1>>=_) _ _ s;refine zAB (zDO ho hd (x:=.int i 0) rfl ?_);show wpAny _ _ (seqItems? (.ref t)>>=_) _ _ s;refine zAB (zEL hol hdl ?_);simp only[zCV,hx];refine zAB (zEs (zAB (zEM ho hd (by simp) ?_)));show wpAny _ _ (newExc (.type "StopIteration") []>>=_) _ _ _;refine zAB ?_;simp only[newExc,newTuple];refine zAB (zBH ?_ (by size_fits));refine zAB (m:=zFA _ _) (zG2 (a:=zBF) (by simp only[zFA];rfl) ?_);refine zBH ?_ (by size_fits);simp only[raiseNew];refine zAB (wpAny_handled ?_);first|rw[show A.in1.handled=none from hh]|rw[hh]
 refine zAB (zAG (wpAny_throw ?_));exact hE _ _ (((zBW ..).extBut.push _).push _) ⟨_,zAL _ rfl,rfl⟩
end
def aNH(hh:A.handled=none)(it t:Addr)(hne:t≠it)(items:Array Value):
  Draws prog w A it [it,t] items.size (λ i v=>items[i]? =some v) (λ i h=>h.IsTupleIter it t i/\h.IsTuple t items) where
 live:=λ _ _ st=>let⟨o,ho,_⟩:=st.1;⟨o,ho⟩
 frame:=λ _ _ _ st hk=>⟨st.1.at λ o e=>hk it (by simp) o e,let⟨o,ho,r⟩:=st.2;⟨o,hk t (by simp) o ho,r⟩⟩
 item:=λ i s Q E hi st hQ=>aDp st.1 st.2 (x:=items[i]) (by simp[hi]) λ h' hit' hs'=>hQ _ h' s.toks (by simp[hi]) ⟨hit',let⟨o,ho,r⟩:=st.2;⟨o,(hs'.2 t hne).trans ho,r⟩⟩ hs'
 done:=λ s Q E st hE=>aAW hh st.1 st.2 (by simp) hE
def aC0(l:Addr)(items:Array Value)(n:Nat)(dct:Option Addr)(sl:Array (Option Value)):
  Meets (zCY.«enumerate.__new__» ⟨[.type "enumerate",.ref l],[]⟩) (λ _ R s=>s.heap.get? l=some {cls:=.type "tuple",dict:=dct,data:=.seq items n,slots:=sl}/\
   R (.ok (.ret (.ref (s.heap.push {cls:=.type "tuple_iterator",data:=.fields #[.ref l,.int 0 0]}).objs.size)))
    {s with heap:=(s.heap.push {cls:=.type "tuple_iterator",data:=.fields #[.ref l,.int 0 0]}).push {cls:=.type "enumerate",data:=.fields #[.none,.bool false,.ref s.heap.objs.size,zGX 0,.none,.none]}}):=
 .of_wp λ prog w A R s h=>by
  obtain⟨hp,g,d,tk,os⟩:=s;obtain⟨hl,h⟩:=h;have hsub:=sub_enumerate;have hL:Heap.IsTuple (Shared.heap ⟨hp,g,d,tk,os⟩) l items:=⟨_,hl,rfl,n,rfl⟩;wp_walk using zCZ hl;refine wpAny_stack_any λ st=>zAG ?_
  split
  .rename_i c _ _ _ _ _
   cases (c==zB4 "enumerate")<;>(wp_walk using zCZ hl,zCw hL;exact⟨_,rfl,h⟩)
  .wp_walk using zCZ hl,zCw hL
   exact⟨_,rfl,h⟩
def aET(hL:s.heap.IsTuple l items)
  (h:∀h',IsEnum h' (s.heap.objs.size+1) s.heap.objs.size 0 .none->h'.IsTupleIter s.heap.objs.size l 0->(∀b o,s.heap.get? b=some o->h'.get? b=some o)->Q (.ref (s.heap.objs.size+1)) {s with heap:=h'}):
  wpAny (model prog w) A (call (.type "enumerate") [.ref l]) Q E s:=by
 obtain⟨⟨c,dct,dt,sl⟩,hl,hc,n,hd⟩:=hL;replace hc:c= .type "tuple":=hc;replace hd:dt= .seq items n:=hd;subst hc hd;refine callType_new F.called_enumerate (by decide) (F.typeCall_enumerate_1 _) (F.newCall_enumerate_1 _) (λ obj=>F.args_object_init_2 obj _) F.entry_enumerate_new (aC0 l items n dct sl) ⟨hl,?_⟩;have hz:(s.heap.push {cls:=.type "tuple_iterator",data:=.fields #[.ref l,.int 0 0]}).objs.size=s.heap.objs.size+1:=zBV ..;show _/\_;rw[hz];have he:IsEnum ((s.heap.push {cls:=.type "tuple_iterator",data:=.fields #[.ref l,.int 0 0]}).push {cls:=.type "enumerate",data:=.fields #[.none,.bool false,.ref s.heap.objs.size,zGX 0,.none,.none]}) (s.heap.objs.size+1) s.heap.objs.size 0 .none:=by
  have:=zAL (s.heap.push {cls:=.type "tuple_iterator",data:=.fields #[.ref l,.int 0 0]}) (o:={cls:=.type "enumerate",data:=.fields #[.none,.bool false,.ref s.heap.objs.size,zGX 0,.none,.none]}) rfl
  rw[hz]at this;exact this
 exact⟨⟨_,he,rfl⟩,h _ he ⟨_,zAE _ (zAL _ rfl),rfl,rfl⟩ λ b o x=>zAE _ (zAE _ x)⟩
def aHo{X:Cx}{kK:hV}{Z:List (Option V)}{H:Hp}{s:zAD}{h':Heap}{ch:List Addr}{p t':Nat}{o:HO}(I:Inv X kK Z H s)(hf:∀b∈ch,uN X kK H b)(k:∀b u,b∉ch->s.heap.get? b=some u->h'.get? b=some u)
  (hp:s.heap.objs.size<=p)(new:cO X.prog X.w (upd H p o) h' p o):Inv X kK Z (upd H p o) {s with heap:=h',toks:=t'}:=by
 have hn:=I.hok.fresh hp;have nch:∀b u,H b=some u->b∉ch:=λ b u e z=>by have:=(hf b z).1;rw[e]at this;cases this
 refine I.call (g':=s.gens) (d':=s.drawn) (ch:=ch) ⟨λ b u q _ _ hx=>k b u hx q,λ b u q _ _ hx=>⟨u.slots,k b u hx q⟩,λ b u q n _=>?_,λ b u q hx=>⟨u,k b u hx q⟩,λ b xs q=>?_,λ b u xs q=>?_,λ b ps q=>?_⟩ (λ b u e=>?_) I.bare
  λ b hb=>let⟨_,f1,_,f3,f4,f5⟩:=hf b hb;⟨f3,f1,f4,f5⟩
 .rw[bA (zAZ (zAY (zAR q) hp))];exact n
 .rw[bA (bZ q hn)];exact q
 .rw[bA (bZ q hn)];exact q
 .rw[bA (bZ q hn)];exact q
 .by_cases hb:b=p
  .subst hb;rw[bG]at e;cases e;exact new
  .rw[bA hb]at e
   refine(I.hok b u e).stay (λ c v hc q=>k c v ?_ q) (λ c q=>by rw[bA (bZ q hn)];exact q) (λ c xs q=>by rw[bA (bZ q hn)];exact q) λ c o2 u2 q=>by rw[bA (bZ q hn)];exact q
   rcases hc with rfl|hc
   .exact nch _ _ e
   .exact nch _ _ hc
def Ite(K:zAA)(a:Addr):It:=
 ⟨λ i H=>∃xs x,SqT K H a xs/\xs[i]? =some x,λ i H x H'=>∃p y,x= .ref p/\H p=none/\H'=upd H p (.tup [.int i,y])/\∀xs,SqT K H a xs->xs[i]? =some y,λ i H=>∃xs,SqT K H a xs/\xs.length<=i⟩
def aF3{P:zAT}{w:World}{K:zAA}{elts:List Expr}{x1:Nat}{ps:Pos}(a e it:Addr)(hei:e≠it)(hae:a≠e)(hai:a≠it):
  Turn P w K (.Tuple elts x1 ps) (Ite K a) [e,it] e (λ i h=>(∃old,IsEnum h e it i old)/\h.IsTupleIter it a i) where
 mem:=by simp
 obj:=λ i h st b hb=>by
  obtain⟨⟨old,he⟩,o,e2,c,d⟩:=st;rcases zAQ.mp hb with rfl|hb
  .exact⟨_,he,λ v z=>by cases z⟩
  .have q:b=it:=by simpa using hb
   subst q;exact⟨o,e2,λ v z=>by rw[d]at z;cases z⟩
 keep:=λ i h h' st k=>⟨let⟨old,he⟩:=st.1;⟨old,k e (by simp) _ he⟩,st.2.at λ o q=>k it (by simp) o q⟩
 item:=by
  intro X hP hw hK hc i kK s Z H E I hf st hg;subst hP hw hK;obtain⟨xs,x,hq,hx⟩:=hg;obtain⟨its,rv,p,hz⟩:=I.tuple hq;obtain⟨u,hu,ru⟩:=rv.get hx;obtain⟨⟨old,he⟩,hit⟩:=st;refine wpAny_pyNext_enum_itemD (aNH (A:=X.A.in1) (show X.A.in1.handled=none from I.ok.hd hc) it a hai its.toArray) he ⟨hit,p⟩ (by have:=(zAO.mp hu).1;simpa using this) hei (by simp[hei,zDR hae]) λ y h' tk hy ho st' hT hsz hk=>⟨_,rfl,?_⟩
  have ey:y=u:=by
   have:its.toArray[i]? =some u:=by simpa using hu
   rw[this]at hy;exact(zAq hy).symm
  subst ey;have hel:e<s.heap.objs.size:=zAR he;refine wpAny_letOwnedTupleGo_enum ho λ h2 he2 hs2=>⟨.ref s.heap.objs.size,upd H s.heap.objs.size (.tup [.int i,x]),?_,rfl,⟨_,x,rfl,I.hok.fresh (zAM _),rfl,λ ys hy=>by rw[I.tuple_inj hy hq];exact hx⟩,⟨⟨_,by simpa using he2⟩,st'.1.at λ o q=>(hs2.2 it (zDR hei)).trans q⟩,λ b hb=>?_⟩
  .exact aHo (s:=s) (h':=h2) (t':=tk+1) I hf (λ b u hb q=>(hs2.2 b λ z=>hb (by simp[z])).trans (hk b u (λ z=>hb (by simp[z])) (λ z=>hb (by simp[z])) q)) (zAM _) ⟨⟨by simp[zCN],NoD.at ((hs2.2 _ (zBg hel)).trans hT)⟩,[.int i tk,y],.cons ⟨_,rfl⟩ (.cons ru .nil),_,(hs2.2 _ (zBg hel)).trans hT,rfl,_,rfl⟩
  .have:=(hf b hb).1
   rw[bA]
   .exact this
   .rintro rfl
    rcases zAQ.mp hb with q|q
    .exact absurd hel (by rw[<-q];exact zBQ _)
    .obtain⟨o,ho2,_⟩:=hit
     have q2:s.heap.objs.size=it:=by simpa using q
     exact absurd (zAR ho2) (by rw[<-q2];exact zBQ _)
 done:=by
  intro X hP hw hK hc i kK s Z H E I hf st hg;subst hP hw hK;obtain⟨xs,hq,hx⟩:=hg;obtain⟨its,rv,p,hz⟩:=I.tuple hq;obtain⟨⟨old,he⟩,hit⟩:=st;obtain⟨f0,f1,f2,f3,f4,f5⟩:=hf it (by simp);have hT:s.TypeIs (.ref e) "enumerate":=⟨_,he,rfl⟩;have hl:=rv.length;unfold zFC;refine zAB (zHQ (zB1 (name:=zDD "__next__") hT zHB (zB7 zHB hT F.entry_enumerate_next ?_ (F.args_enumerate_next_1 _))));show wpAny _ _ (field (.ref e) 2>>=_) _ _ _;refine zAB (zDO he rfl (x:=.ref it) rfl ?_);refine zAB (aAW (I.ok.hd hc) hit p (by simp;lia) λ h' x he' hx'=>?_);obtain⟨o,ho,hc⟩:=hx';refine zAB (zGF (T:="StopIteration") (b:=true) ⟨o,ho,hc⟩ isSubtype_stop ?_);exact zAG ⟨rfl,I.turned (t':=s.toks) (λ b o hb q=>he' b o hb q) f0 f1 f3 f4 f5⟩
 self:=λ _ _ _ _ _ st h=>let⟨⟨_,he⟩,_⟩:=st;zIt he h
def aLR(K:zAA)(tl:TA):TI:=λ Z H R=>tl Z H λ xs H1=>∃a,xs=[.ref a]/\(∃ys,SqT K H1 a ys)/\R (Ite K a) H1
def aJ5{X:Cx}{elts:List Expr}{x1:Nat}{ps p pos:Pos}{l:Expr}{tl:TA}(hl:PA X [l] tl)(hg:Gl X "enumerate")(hm:X.mg "enumerate"=none)(hv:zAw "enumerate"=some (.type "enumerate"))
  (he:zAV [l] X.env=[(false,eval l X.env)]:=by rfl):PI X (.Tuple elts x1 ps) (.Call (.Name "enumerate" p) [l] [] pos) (aLR X.K tl):=by
 intro kK s Z H R I h;refine zEE (um I hg hm hv ?_ (by decide) (by decide));refine zCF (thn (hl pos kK s Z H _ I h) λ us s1 ⟨vs,H1,I1,r1,a,e,⟨ys,hy⟩,q⟩=>?_) he rfl;subst e;obtain⟨u,rfl,ru⟩:=r1.one;cases ru;obtain⟨its,rv,pp,hz⟩:=I1.tuple hy;have ha:a<s1.heap.objs.size:=let⟨o,ho,_⟩:=pp;zAR ho
 refine aET pp λ h' he hit hk=>zIt he ?_
 have n1:s1.heap.objs.size+1≠s1.heap.objs.size:=by lia
 refine⟨_,_,_,_,H1,rfl,I1.kept (t':=s1.toks) hk,aF3 a _ _ n1 (zAZ (zCW ha)) (zAZ ha),⟨⟨_,he⟩,hit⟩,λ b hb=>?_,q⟩;have hle:s1.heap.objs.size<=b:=by
  rcases zAQ.mp hb with rfl|hb
  .exact zEi _
  .have:b=s1.heap.objs.size:=by simpa using hb
   exact zGh this.symm
 exact I1.fpOk hle (I1.hok.fresh hle)
def aAA(l:List D):List D:=l.zipIdx.map λ p=>.tup [.int (p.2:Int),p.1]
def aKb:List D->Rs (List D)
 |[.tup l]=>.ok (aAA l)
 |_=>.st
def aKI{K:zAA}{lab:Lab}{H:Hp}{a:Addr}{xs:List V}{ds:List D}(h:SqT K H a xs)(r:Rps K (λ p=>(lab p).1<=1) H xs ds):JL K lab (Ite K a) H (aAA ds):=by
 have hl:=r.length;have hle:(aAA ds).length=ds.length:=by simp[aAA]
 refine λ i=>⟨λ hi=>⟨xs,h,by lia⟩,λ hi=>⟨⟨xs,xs[i]'(by lia),h,by simp[hl,hle▸hi]⟩,λ x H' y=>?_⟩⟩
 obtain⟨p,y,rfl,hp,rfl,hy⟩:=y;obtain⟨d,h1,h2⟩:=r.get (hy xs h);refine⟨bJ hp _,.tup [.int (i:Int),d],?_,.tup (.inl (.inl bG)) (.cons (.int _) (.cons (h2.up (bJ hp _)) .nil))⟩;unfold aAA;rw[zA2,zGe,h1];simp
section
variable{C:Ct}{m:Mode}{a:Expr}{ga:En->Rs (List D)}{elts:List Expr}{x1:Nat}{ps p pos:Pos}
def aJI(ha:SA C m [a] ga)(hm:C.mg "enumerate"=none)(ho:okS m=true:=by rfl)(hs:∀i,zAV [a] (C.X i).env=[(false,eval a (C.X i).env)]:=by intro _;rfl)(hg:∀i,Gl (C.X i) "enumerate":=by intro _;rfl)(hv:zAw "enumerate"=some (.type "enumerate"):=by decide+kernel):
  SI C (.Tuple elts x1 ps) (.Call (.Name "enumerate" p) [a] [] pos) (gJ aKb ga):=by
 obtain⟨t,p1,p2⟩:=ha;refine⟨aLR C.K t,λ i=>by rw[<-C.hK i];exact aJ5 (p1 i) (hg i) (by rw[(C.cx i).2.2.2.1];exact hm) hv (hs i),λ U Z H Y lab Rr R W=>p2 U Z H Y lab _ R (W.bd.imp λ ds _ w vs H1 s r=>?_)⟩;cases ds with
 |nil=>exact zAN w
 |cons d ds=>
  cases ds with
  |cons _ _=>cases d<;>exact zAN w
  |nil=>
   obtain⟨v,rfl,rd⟩:=r.one_inv;cases d with
   |tup l=>
    obtain⟨R',r'⟩:=R.shared ho s rd;obtain⟨b,xs,rfl,h,q⟩:=r'.tup_inv;refine⟨b,rfl,⟨xs,h⟩,w _ H1 _ [(.ref b,.tup l)] s (λ p o e=>cC e) ⟨R'.len,R'.sl,R'.old,R'.new,λ z hz=>?_⟩ λ lab' H' hq=>?_⟩
    .rcases zAQ.mp hz with rfl|hz
     .exact .tup h q
     .exact R'.tm z hz
    .have z:=hq _ (zAH ..)
     cases z with
     |tup h' q'=>exact aKI h' q'
   |_=>exact zAN w
end
abbrev Ent:=List Int×Addr×V
def pairE(fk fv:En->Rs D):En->Rs D:=λ Y=>(fk Y).bd λ k=>(fv Y).bd λ v=>.ok (.tup [k,v])
section
variable{fk fv:En->Rs D}
def aHV(h:pairE fk fv Y= .ok y):∃k v,fk Y= .ok k/\fv Y= .ok v/\y= .tup [k,v]:=by
 obtain⟨k,h1,h2⟩:=dN h;obtain⟨v,h3,h4⟩:=dN h2;exact⟨k,v,h1,h3,by cases h4;rfl⟩
end
section
theorem ints_of:∀(tks:List (Int×Tok)),zBM (tks.map λ p=>zEQ p.1 p.2) (tks.map (·.1))
 |[]=>.nil
 |p::r=>.cons _ _ (ints_of r)
end
abbrev aOe:=List (Str×(List D->Rs D))
def fnOf(tab:aOe):Rs D->Option (List D->Rs D)
 | .ok (.fn x)=>tab.lookup x
 |_=>none
end VL
namespace HT
open PySem PySem.Spec PyProof.Rows
end HT
namespace VL
open PySem PySem.Spec PyProof.Rows L2
end VL
namespace PySem.AutoSeq1
end PySem.AutoSeq1
namespace VL
open PySem PySem.Spec PyProof.Rows L2
def Enr(K:zAA)(x:Str)(st:Stmt)(f:Addr)(fd:zA7):Prop:=L2.Fun K x x st f fd/\zAn K zA9 x=some (some (.ref f))
def enr{K:zAA}{st:Stmt}{oc kV dc pm cd ct:Value}(a:zAn K zA9 x=some (some (.ref f)))
  (l:K.lookup f=some ⟨oc,od,.func (zBz x x (pZ st) (iR st) (aP st) .none kV dc pm an cd ct),sl⟩)(c:zD0 K cd x=true)(k:zCq K (.ref f)=true):∃f fd,Enr K x st f fd:=⟨f,_,aND (st:=st) l c k,a⟩
structure Dnr(K:zAA)(mg:Str->Option Value)(x:Str)(st:Stmt)(ps:List Str)(f:Addr)(d:zA7):Prop where
 F:L2.Fun K x x st f d
 m:mg x=some (.ref f)
 b:L2.Binds K d ps []
section
variable{C:Ct}
def aQ{st:Stmt}(hF:bu C.prog C.w C.K C.mg C.base (CX1 C.prog C.w) k fn fd ps (spF C.K C.G.cl n F))(D:Dnr C.K C.mg x st ps fn fd)(ha:SA C m (e::es) ga)(hr:k<=C.k:=by exact Nat.le_of_ble_eq_true rfl)(hg:∀i,Gl (C.X i) x:=by intro _;rfl)
  (hn:∀Y ds,ga Y= .ok ds->ds.length=n:=by repeat (first|exact λ _ _ h=>aKC h|apply aHd))(hdb:Nd x:=by decide)(he:∀i,zAV (e::es) (C.X i).env=(false,eval e (C.X i).env)::zAV es (C.X i).env:=by intro _;rfl)
  (hpl:∀i,(zCB pos (zAV es (C.X i).env)).any (·.1)=false:=by intro _;rfl):SE C (some []) (.Call (.Name x p) (e::es) [] pos) (aM F ga):=aJM hF hr D.m D.F.kp D.b ha hn hdb he hpl hg
end
def aa{P:zAT}{w:World}{K:zAA}{st:Stmt}(D:Dnr K mg q st ps fn fd)(S:aV N ps (aP st))(hb:N.Nodup->∀cdv A outer s H E hr,SSs (ctD P w K mg base N q (aP st) fn cdv A outer s H E k hr) (iR st) f)(hn:ps.length=n:=by rfl)(hF:dF N.length f=FF:=by rfl):
  bu P w K mg base (CX1 P w) (k+1) fn fd ps (spF K (bH mg) n FF):=aK6 D.F S (hb S.nd) hn hF
def aE0(items:Array Value)(nss:Nat->List Int)(h:Heap):Prop:=∀i v,items[i]? =some v->∃x its,v= .ref x/\IsTup h x its/\zBM its.toList (nss i)
def aD7(items:Array Value):List Addr:=items.toList.filterMap λ v=>match v with| .ref x=>some x|_=>none
def aD6{items:Array Value}{i:Nat}(h:items[i]? =some (zAr x)):x∈aD7 items:=by
 unfold aD7;rw[zBc];exact⟨.ref x,by have:=zBL (l:=items.toList) (i:=i) (by simpa using h);exact this,rfl⟩
def aE0.keep(T:aE0 items nss h)(k:∀b∈aD7 items,∀o,h.get? b=some o->h'.get? b=some o):aE0 items nss h':=λ i v e=>by
 obtain⟨x,its,rfl,⟨o,h1,h2⟩,h3⟩:=T i v e;exact⟨x,its,rfl,⟨o,k x (aD6 e) o h1,h2⟩,h3⟩
def oR(ks vs:List D):Option (List (Int×D)):=match intsOf ks with
 |some is=>if is.length=vs.length then some (is.zip vs)else none
 |none=>none
def aCt(ps:List (Int×D)):D:=.dct (ps.map λ p=>.int p.1) (ps.map (·.2))
def yE(h:oR ks vs=some ps):ks=ps.map (λ p=>.int p.1)/\vs=ps.map (·.2):=by
 unfold oR at h;split at h
 .rename_i is hi
  split at h
  .rename_i hl
   cases h;refine⟨?_,?_⟩
   .rw[iV hi,show(λ p:Int×D=>D.int p.1)=(λ i=>D.int i)∘zFU from rfl,<-zA4,zFM (by lia)]
   .rw[zEH (by lia)]
  .cases h
 .cases h
theorem aGU:∀ps:List (Int×D),(ps.map (·.1)).zip (ps.map (·.2))=ps
 |[]=>rfl
 |p::ps=>by rw[zAC,zAC,zBA,aGU ps]
def ue(ps:List (Int×D)):oR (ps.map λ p=>.int p.1) (ps.map (·.2))=some ps:=by
 unfold oR;have e:intsOf (ps.map λ p=>D.int p.1)=some (ps.map (·.1)):=by
  rw[show(ps.map λ p=>D.int p.1)=(ps.map (·.1)).map D.int by rw[zA4];rfl];exact jd _
 rw[e];dsimp only;rw[if_pos (by rw[zAF,zAF]),aGU]
def Rp.dctI_inv{K:zAA}(r:Rp K A H v (.dct ks vs))(h:oR ks vs=some ps):
  ∃a kvs,v= .ref a/\H a=some (.dK kvs)/\A a/\Rps K (λ p=>A p/\p≠a) H (kvs.map (·.2)) (ps.map (·.2))/\kvs.map (·.1)=ps.map λ p=>(zCL p.1:Key):=by
 obtain⟨h1,h2⟩:=yE h;generalize hd:D.dct ks vs=d at r;cases r with
 |dK hh m r=>
  rename_i kvs ds;injection hd with q1 q2
  subst q2;refine⟨_,kvs,rfl,hh,m,by rw[<-h2];exact r,?_⟩;rw[h1]at q1;clear r h h1 h2 hh;induction kvs generalizing ps with
  |nil=>cases ps with
   |nil=>rfl
   |cons _ _=>cases q1
  |cons p kvs ih=>cases ps with
   |nil=>cases q1
   |cons q ps=>
    obtain⟨p1,p2⟩:=p;rw[zAC,zAC]at q1;injection q1 with q3 q4
    rw[zAC,zAC,ih q4];cases p1 with
    |inl i=>injection q3 with q3;rw[q3]
    |inr x=>cases q3
 |dT hh m r=>
  injection hd with q1 q2
  rw[h1]at q1;cases ps<;>cases q1
 |_=>cases hd
theorem aDP{K:zAA}:∀{kvs:List (Key×V)} {ps:List (Int×D)},Rps K A H (kvs.map (·.2)) (ps.map (·.2))->(kvs.map (·.1)=ps.map λ p=>(zCL p.1:Key))->∀i:Int,
  (∃d v,ps.lookup i=some d/\qe kvs (.inl i)=some v/\Rp K A H v d)\/(ps.lookup i=none/\qe kvs (.inl i)=none)
 |[],[],_,_,_=>.inr ⟨rfl,rfl⟩
 |[],_::_,_,e,_=>by cases e
 |_::_,[],_,e,_=>by cases e
 |p::kvs,q::ps,r,e,i=>by
  obtain⟨p1,p2⟩:=p;obtain⟨q1,q2⟩:=q;rw[zAC,zAC]at e;injection e with e1 e2
  replace e1:p1= .inl q1:=e1;subst e1;rw[zAC,zAC]at r;cases r with
  |cons h r=>
   by_cases c:q1=i
   .subst c
    exact .inl ⟨q2,p2,by simp[zAe],sJ rfl,h⟩
   .have c1:(i==q1)=false:=by simpa using λ z=>c z.symm
    rw[sO (p:=(zCL q1,p2)) (by simpa using c),zAe,c1];exact aDP r e2 i
def wN:D->D->Rs D
 | .dct ks vs,.int i=>match oR ks vs with
  |some ps=>(match ps.lookup i with
   |some d=>.ok d
   |none=>.st)
  |none=>.st
 |_,_=>.st
def aCr(neg:Bool):D->D->Rs D
 | .int i,.dct ks vs=>match oR ks vs with
  |some ps=>.ok (.bl (neg !=(ps.lookup i).isSome))
  |none=>.st
 |_,_=>.st
def aOt:R2:=λ x y H Q=>∃a v,x= .ref a/\zZ H a y (some v)/\Q v H
def aLs(neg:Bool):R2:=λ y x H Q=>∃a o,x= .ref a/\zZ H a y o/\Q (.bl (neg !=o.isSome)) H
def aM9{X:Cx}(hu:X.A.units+1<cLine):OpR X (zAs .In) (aLs false):=by
 intro kK s Z H y x u v Q I ry rx ⟨a,o,ex,g,q⟩;subst ex;cases rx;exact aOx hu I g ry λ s3 I3=>⟨.bl o.isSome,H,I3,rfl,by simpa using q⟩
def aMU{K:zAA}:OpS K (aLs n) (aCr n):=by
 intro A x y d e H Q z rx ry ez q;unfold aCr at ez;split at ez
 .rename_i i ks vs
  cases hp:oR ks vs with
  |none=>rw[hp]at ez;cases ez
  |some ps=>
   rw[hp]at ez;cases ez;have ex:=rx.int_inv;subst ex;obtain⟨a,kvs,rfl,h1,m,r,hk⟩:=ry.dctI_inv hp;refine⟨a,_,rfl,zZ.k (k:=.inl i) h1,?_⟩;rcases aDP r hk i with ⟨d,v,e1,e2,_⟩|⟨e1,e2⟩
   .rw[e2];rw[e1]at q;exact q _ H (aW.refl H) (.bl _)
   .rw[e2];rw[e1]at q;exact q _ H (aW.refl H) (.bl _)
 .cases ez
section
variable{C:Ct}{m1 m2:Mode}{a b:Expr}{fa fb:En->Rs D}{pos:Pos}
def Ct.din(C:Ct)(i:C.ι):OpR (C.X i) (zAs .In) (aLs false):=aM9 (by have:=(C.room i).un;lia)
def aLe(ha:SE C m1 a fa)(hb:SE C m2 b fb)(hm:zBj .In b=false:=by with_unfolding_all rfl):ST C (.Compare a [.In] [b] pos) (tsb (op2 (aCr false) fa fb)):=nu C.din aMU ha hb hm
def aDZ(ha:SE C m1 a fa)(hb:SE C m2 b fb)(hp:aBh b:=by exact λ _ _=>rfl):SE C m1 (.Subscript a b pos) (op2 wN fa fb):=by
 obtain⟨t,h1,h2⟩:=ha;obtain⟨u,k1,k2⟩:=hb;refine⟨tOp aOt t u,λ i=>aJa (by have:=(C.room i).un;lia) (h1 i) (k1 i) hp,λ U Z H Y lab Q R W=>?_⟩;refine h2 U Z H Y lab _ R (W.bd.imp λ d _ w x H1 s1 r1=>?_);refine k2 U Z H1 Y lab _ (R.up s1) (w.bd.imp λ e _ w y H2 s2 r2=>?_);obtain⟨z,ez,wz⟩:=w.okD;cases d with
 |dct ks vs=>
  cases e with
  |int i=>
   cases hp2:oR ks vs with
   |none=>unfold wN at ez;dsimp only at ez;rw[hp2]at ez;cases ez
   |some ps=>
    unfold wN at ez;dsimp only at ez;rw[hp2]at ez;dsimp only at ez;have ey:=r2.int_inv;subst ey;obtain⟨a,kvs,rfl,g1,m,r,hk⟩:=(r1.up s2).dctI_inv hp2;rcases aDP r hk i with ⟨d,v,e1,e2,e3⟩|⟨e1,e2⟩
    .rw[e1]at ez
     cases ez;have g2:zZ H2 a (.int i) (some v):=by
      have:=zZ.k (k:=.inl i) g1
      rw[e2]at this;exact this
     exact⟨a,v,rfl,g2,wz v H2 (s1.trans s2) (e3.wk λ p o _ q=>q.1)⟩
    .rw[e1]at ez;cases ez
  |_=>cases ez
 |_=>cases ez
end
def aDc(ps:List (Int×D))(i:Int)(d:D):List (Int×D):=if (ps.any λ p=>decide (p.1=i))=true then ps.map (λ p=>if p.1=i then(p.1,d)else p)else ps++[(i,d)]
theorem aI2:∀{kvs:List (Key×V)} {ps:List (Int×D)} {i:Int},(kvs.map (·.1)=ps.map λ p=>(zCL p.1:Key))->(kvs.any λ kv=>decide (kv.1=(.inl i:Key)))=ps.any λ p=>decide (p.1=i)
 |[],[],_,_=>rfl
 |[],_::_,_,e=>by cases e
 |_::_,[],_,e=>by cases e
 |(p1,p2)::kvs,q::ps,i,e=>by
  rw[zAC,zAC]at e;injection e with e1 e2
  replace e1:p1= .inl q.1:=e1;subst e1;rw[zBs,zBs,aI2 e2];simp
theorem aGu{K:zAA}{i:Int}{v:V}{d:D}(h:Rp K A H v d):∀{kvs:List (Key×V)} {ps:List (Int×D)},Rps K A H (kvs.map (·.2)) (ps.map (·.2))->(kvs.map (·.1)=ps.map λ p=>(zCL p.1:Key))->
  Rps K A H ((kvs.map λ kv=>if kv.1= .inl i then(kv.1,v)else kv).map (·.2)) ((ps.map λ p=>if p.1=i then(p.1,d)else p).map (·.2))/\((kvs.map λ kv=>if kv.1= .inl i then(kv.1,v)else kv).map (·.1)=(ps.map λ p=>if p.1=i then(p.1,d)else p).map λ p=>(zCL p.1:Key))
 |[],[],_,_=>⟨.nil,rfl⟩
 |[],_::_,_,e=>by cases e
 |_::_,[],_,e=>by cases e
 |(p1,p2)::kvs,(q1,q2)::ps,r,e=>by
  rw[zAC,zAC]at e;injection e with e1 e2
  replace e1:p1= .inl q1:=e1;subst e1;rw[zAC,zAC]at r;cases r with
  |cons h1 r1=>
   obtain⟨z1,z2⟩:=aGu h r1 e2;rw[zAC,zAC,zAC,zAC,zAC,zAC,z2];by_cases c:q1=i
   .subst c
    rw[if_pos rfl,if_pos rfl];exact⟨.cons h z1,rfl⟩
   .rw[if_neg (show¬((zCL q1:Key),p2).1=zCL i by simpa using c),if_neg (show¬(q1,q2).1=i from c)]
    exact⟨.cons h1 z1,rfl⟩
def aLy{K:zAA}{kvs:List (Key×V)}{ps:List (Int×D)}{i:Int}{v:V}{d:D}(r:Rps K A H (kvs.map (·.2)) (ps.map (·.2)))(e:kvs.map (·.1)=ps.map λ p=>(zCL p.1:Key))(h:Rp K A H v d):
  Rps K A H ((putK kvs (.inl i) v).map (·.2)) ((aDc ps i d).map (·.2))/\(putK kvs (.inl i) v).map (·.1)=(aDc ps i d).map λ p=>(zCL p.1:Key):=by
 unfold putK aDc;rw[aI2 e];split
 .exact aGu h r e
 .rw[zAg,zAg,zAg,zAg,e]
  exact⟨r.append (.cons h .nil),rfl⟩
def aKf{K:zAA}{kvs:List (Key×V)}{ps:List (Int×D)}(h:H a=some (.dK kvs))(m:A a)(r:Rps K (λ p=>A p/\p≠a) H (kvs.map (·.2)) (ps.map (·.2)))(e:kvs.map (·.1)=ps.map λ p=>(zCL p.1:Key)):Rp K A H (.ref a) (aCt ps):=by
 have e1:(kvs.map λ p=>kD p.1)=ps.map λ p=>.int p.1:=by
  rw[show(kvs.map λ p=>kD p.1)=(kvs.map (·.1)).map kD by rw[zA4];rfl,e,zA4];rfl
 have:=Rp.dK h m r
 rw[e1]at this;exact this
def yw(acc qs:List (Int×D)):List (Int×D):=qs.foldl (λ ps q=>aDc ps q.1 q.2) acc
def aNT:aIj prog w newDict (λ ob=>ob={cls:=.type "dict",data:=.dict #[]}) (λ _=>.dK []) where
 make:=λ h=>zBH (h _ rfl)
 live:=by rintro ob rfl;rfl
 ok:=by
  rintro H h a ob rfl hg hb;exact⟨zAp _,beq_eq_false_iff_ne.mpr (zDR (zAZ hb)),[],.nil,_,#[],0,hg,⟨rfl,rfl,rfl⟩,rfl,λ _ he=>(by simp at he),Pairs.nil,zFo⟩
section
variable{prog:zAT}{w:World}{A:zAa}{E:Value->zAD->Prop}{s:zAD}
def aCv{l:Addr}{vs:List Value}{Q:List Value->zAD->Prop}(hl:IsTup s.heap l vs.toArray)
  (h:Q vs {s with heap:=(s.heap.push (zBr "list" #[] 0)).update s.heap.objs.size (zCH (·++vs.toArray))})(hsz:vs.length<=zAS):
  wpAny (model prog w) A (zIM (.ref l)) Q E s:=by
 obtain⟨o,ho,hc,n,hd⟩:=hl;unfold zIM;refine zAB (zFD (zBJ entry_proto_collect' ?_));show wpAny _ _ (do again (.builtin "list.__iadd__" ⟨[<-zFf [],.ref l],[]⟩)) _ _ s;refine zAB (zHR (zAG ⟨zCK _ (by decide+kernel),zBJ entry_list_iadd' ?_⟩));show wpAny _ _ (zCs (.ref s.heap.objs.size) (.ref l) (.ref s.heap.objs.size)) _ _ {s with heap:=s.heap.push (zBr "list" #[] 0)};unfold zCs;have ho':(s.heap.push (zBr "list" #[] 0)).get? l=some o:=zAE _ ho;refine zAB (zCr (T:="tuple") ⟨o,ho',hc⟩ ?_);have ht:(zB4 "tuple"==zB4 "tuple")=true:=by rfl
 rw[if_pos (by rw[ht];simp)];refine zAB (zHy ho' hd ?_);refine zAB (zHy (xs:=#[]) (n:=0) (zAL _ rfl) rfl ?_);rw[if_neg (by simp)];refine zAB (zFW (xs:=#[]) (n:=0) (zAL _ rfl) rfl ?_ (zAp _) (by show(#[]++vs.toArray).size<=zAS+1;simp only[Array.size_append,zAP,zBE];omega));refine zAG ?_;show wpAny (model prog w) A (do
   let o <-load s.heap.objs.size
   match o.data with
   | .seq xs _=>pure xs.toList
   |_=>zG0 "internal:collect") Q E {s with heap:=(s.heap.push (zBr "list" #[] 0)).update s.heap.objs.size (zCH (·++vs.toArray))}
 refine zAB (zIs (zEl (zAL _ rfl) _) ?_);show wpAny _ _ (pure ((#[]:Array Value)++vs.toArray).toList) Q E _;rw[show((#[]:Array Value)++vs.toArray).toList=vs by simp];exact zAG h
end
section
variable{X:Cx}
def aBI(K:zAA):List V->Hp->VK->Prop:=λ xs H Q=>∃p vs nss,xs=[.ref p]/\SqT K H p vs/\b8 K H vs nss/\vs.length<64/\aDH H vs nss Q
def aAE:gH X (.builtin "sorted") (aBI X.K):=by
 intro kK s Z H xs us Q I r h;obtain⟨p,vs,nss,rfl,hp,ht,h64,q⟩:=h;obtain⟨u,rfl,ru⟩:=vals1 r;cases ru;obtain⟨its,rv,pl,hz⟩:=I.tuple hp;have e:=ht.vals rv;subst e;have hl2:(vs.map jY).length=nss.length:=by rw[zAF];exact ht.len
 refine sW (aCv pl ?_ (by rw[zAF];exact hz));refine xQ I ht h64 q ⟨_,_,rfl,?_,λ b o e=>?_⟩ (zBS _) ?_
 .rw[Heap.size_update,size_push']
  exact zEi _
 .rw[zDW _ _ _ _ (zAZ (zAR e))]
  exact zAE _ e
 .exact(zFM (by lia)).symm
end
def mO:List D->Rs D
 |[.tup l]=>match mJ l with
  |some nss=>if nss.length<64 then .ok (.lst ((vI nss).map tupI))else .st
  |none=>.st
 |_=>.st
def aEQ{K:zAA}:aIi K (aBI K) mO:=by
 intro A xs ds H Q z r ez q;unfold mO at ez;split at ez
 .cases r with
  |cons h r=>
   cases r;cases h with
   |tup h r=>
    split at ez
    .rename_i nss e
     obtain⟨e1,e2⟩:=jr e;subst e1;split at ez
     .rename_i hl
      cases ez;have ht:=sS r e2;exact⟨_,_,nss,rfl,h,ht,by rw[ht.len];exact hl,aBt ht q⟩
     .cases ez
    .cases ez
 .cases ez
section
variable{C:Ct}{pos p:Pos}{m:Mode}{a:Expr}{ga:En->Rs (List D)}
def aDX(hm:C.mg "sorted"=none)(ha:SA C m [a] ga)(he:∀i,zAV [a] (C.X i).env=[(false,eval a (C.X i).env)]:=by intro _;rfl)(hg:∀i,Gl (C.X i) "sorted":=by intro _;rfl)(hv:zAw "sorted"=some (.builtin "sorted"):=by decide+kernel):SE C (some []) (.Call (.Name "sorted" p) [a] [] pos) (opA mO ga):=by
 obtain⟨t,h1,h2⟩:=ha;refine⟨_,λ i=>oU (r:=aBI C.K) (by rw[<-C.hK i];exact aAE) (hg i) (by rw[(C.cx i).2.2.2.1];exact hm) hv (h1 i) (by decide) (by decide) (he i) rfl,aEc aEQ h2⟩
end
def aGQ{X:Cx}:gH X (.type "int") (λ xs H Q=>∃b,xs=[.bl b]/\Q (.int (if b=true then 1 else 0)) H):=by
 intro kK s Z H xs us Q I r h;obtain⟨b,rfl,q⟩:=h;obtain⟨u,rfl,r1⟩:=vals1 r;cases r1;exact call_int_bool ⟨.int _,H,I.tok _,⟨_,rfl⟩,q⟩
def o9:List D->Rs D
 |[.bl b]=>.ok (.int (if b=true then 1 else 0))
 |_=>.st
def aKh{K:zAA}:uO K (λ xs H Q=>∃b,xs=[.bl b]/\Q (.int (if b=true then 1 else 0)) H) o9:=by
 intro A xs ds H Q z r ez q;unfold o9 at ez;split at ez
 .cases ez
  cases r with
  |cons h' r=>cases h';cases r;exact⟨_,rfl,q _ H (aW.refl H) (.int _)⟩
 .cases ez
def aHv:∀x z,o9 x= .ok z->imm z=true:=by
 intro x z e;unfold o9 at e;split at e
 .cases e;rfl
 .cases e
section
variable{C:Ct}{pos p:Pos}{m:Mode}{a:Expr}{ga:En->Rs (List D)}
def aEg(hm:C.mg "int"=none)(ha:SA C m [a] ga)(he:∀i,zAV [a] (C.X i).env=[(false,eval a (C.X i).env)]:=by intro _;rfl)(hg:∀i,Gl (C.X i) "int":=by intro _;rfl)(hv:zAw "int"=some (.type "int"):=by decide+kernel):SE C (some []) (.Call (.Name "int" p) [a] [] pos) (opA o9 ga):=
 fU (xg (λ i=>aGQ) aKh hg hm hv ha (by decide) (by decide) he) λ _ _ h=>pW aHv h
end
end VL
namespace PySem
open Sem(wp)
def aBP:zDh (.type "tuple") "keys"=pure none:=by rw[zEn,zDV];kernel_rfl
def zy{prog:zAT}{w:World}{A:zAa}{E:Value->zAD->Prop}{s:zAD}{a:Addr}{o:Obj}{xs:Array Value}{k:Nat}{Q:Option Value->zAD->Prop}
  (hx:s.heap.get? a=some o)(hc:o.cls= .type "tuple")(hdat:o.data= .seq xs k)(hd:o.dict=none)(hA:A.handled=none)
  (h:∀h' tk e,Heap.NewExcOf s.heap h' e "AttributeError"->Q none {s with heap:=h',toks:=tk}):
  wpAny (model prog w) A (zI1 (.ref a) "keys") Q E s:=by
 obtain⟨c,dct,dat,sl⟩:=o;simp only at hc hdat hd;subst hc hdat hd;obtain⟨hp,g,d,tk,os⟩:=s;have hT:∀tk',(⟨hp,g,d,tk',os⟩:zAD).TypeIs (.ref a) "tuple":=λ _=>⟨_,hx,rfl⟩
 have f1:=sub_AttributeError;have f3:=zDu.lookup;have f4:=zDu.bind (.ref a);have f5:=am_tuple_getattr_none;unfold zI1 getAttrBy? getAttrBy
 repeat (any_goals (first|assumption|exact hT _|((with_reducible show wpAny _ _ (call (zDM "tuple.__getattribute__") _ _) _ _ _);refine zDg zDu (hT _) am_entry_tuple_getattribute (F.args_tuple_getattribute_2 _ _) (meets_getattribute_miss_tuple a xs k sl "keys" _ aBP (by decide+kernel) (by size_fits)) ⟨hx,hA,λ h' tk' e hx'=>?_⟩)|wp_step))
 obtain⟨t',u',he⟩:=hx'.there;show wpAny _ _ (zI2 _ _ _ _ _ _ _) _ _ _;unfold zI2
 repeat (any_goals (first|assumption|wp_step))
 exact h _ _ _ hx'.of
section
variable{prog:zAT}{w:World}{A:zAa}{E:Value->zAD->Prop}{s:zAD}
def aEU{l:Addr}{o:Obj}{vs:Array Value}{k:Nat}{Q:Value->zAD->Prop}(hx:s.heap.get? l=some o)(hc:o.cls= .type "tuple")(hdat:o.data= .seq vs k)(hd:o.dict=none)(hA:A.in1.in1.handled=none)
  (hrun:∀(h':Heap) (tk:Nat),(∀b ob,(s.heap.push {cls:=.type "dict",data:=.dict #[]}).get? b=some ob->h'.get? b=some ob)->zBq (model prog w) A.in1 (.builtin "dict.update.loop" ⟨[.ref s.heap.objs.size,.ref h'.objs.size,zGX 0,.none],[]⟩) (wants (λ r zS=>r= .none/\Q (.ref s.heap.objs.size) zS) E) {s with heap:=h'.push {cls:=.type "tuple_iterator",data:=.fields #[.ref l,.int 0 0]},toks:=tk}):
  wpAny (model prog w) A (call (.type "dict") [.ref l]) Q E s:=by
 refine callType_codes (Q₁:=λ obj zC=>obj= .ref s.heap.objs.size/\zC={s with heap:=s.heap.push {cls:=.type "dict",data:=.dict #[]}}) F.kt_called_dict (F.kt_typeCall_dict_1 _) F.entry_dict_init (kt_code_dict_new _ ⟨rfl,rfl⟩) ?_;rintro obj zC ⟨rfl,rfl⟩;have hty:zEg {s with heap:=s.heap.push {cls:=.type "dict",data:=.dict #[]}} (.ref s.heap.objs.size) "dict":=⟨_,zAL _ rfl,rfl⟩;have hx':(s.heap.push {cls:=.type "dict",data:=.dict #[]}).get? l=some o:=zAE _ hx;have htl:zEg {s with heap:=s.heap.push {cls:=.type "dict",data:=.dict #[]}} (.ref l) "tuple":=⟨_,hx',hc⟩;refine⟨hty,F.args_dict_init_2 _ _,?_⟩;unfold zCY.«dict.__init__»;refine zAB ?_;unfold Builtin.Dict.selfAndRest;refine zAB (wpAny_notOrdered_dict hty ?_);show wpAny _ _ (pure (s.heap.objs.size,[zAr l])) _ _ _;refine zAG ?_;show wpAny _ _ (zEy "dict.__init__" s.heap.objs.size (.ref l) [] .none) _ _ _;unfold zEy;refine zAB (zCr htl ?_);rw[if_pos (by decide)];refine zAB (zy hx' hc hdat hd (by assumption) λ h' tk e hn=>?_);rw[if_pos (show(none:Option Value).isNone=true from rfl)];have keep:=hn.keeps;have hl:h'.IsTuple l vs:=⟨o,keep _ _ hx',hc,k,hdat⟩;refine zAB (zEs ?_);refine zAB (zCw hl ?_);exact zAG ⟨zCK _ (by decide+kernel),hrun h' tk keep⟩
def nW:zHL table "dict.update.loop"=some zCY.«dict.update.loop»:=entryFor_of_tree (by kernel_rfl)
inductive kY{K:Type}[DecidableEq K](knd:KeyKind prog w K)(h:Heap):List Value->List (K×Value)->Prop where
 |nil:kY knd h [] []
 |cons {x:Addr} {o:Obj} {n:Nat} {kv v:Value} {k:K} {us:List Value} {ps:List (K×Value)} (ho:h.get? x=some o) (hc:o.cls= .type "tuple") (hd:o.data= .seq #[kv,v] n) (hk:knd.is k kv=true) (r:kY knd h us ps):kY knd h (.ref x::us) ((k,v)::ps)
theorem kY.mono{K:Type}[DecidableEq K]{knd:KeyKind prog w K}{h h':Heap}:∀{us:List Value} {ps:List (K×Value)},kY knd h us ps->(∀x,.ref x∈us->∀o,h.get? x=some o->h'.get? x=some o)->kY knd h' us ps
 |_,_,.nil,_=>.nil
 |_,_,.cons ho hc hd hk r,k=>.cons (k _ zAH _ ho) hc hd hk (r.mono λ x hx=>k x (zAI _ hx))
def aEO{K:Type}[DecidableEq K]{knd:KeyKind prog w K}{d it t:Addr}{vs:Array Value}{R:zDl->zAD->Prop}(hdi:d≠it)(hdt:d≠t)(hti:t≠it)(hA:A.handled=none):
  ∀(us:List Value) (ps:List (K×Value)) (i:Nat) (s:zAD) (acc:List (K×Value)),us=vs.toList.drop i->kY knd s.heap us ps->(∀x,.ref x∈us->x≠d/\x≠it)->s.heap.IsTupleIter it t i->s.heap.IsTuple t vs->s.heap.DictOf knd d acc->acc.length+us.length<=zAS->
   (∀h' tk,h'.DictOf knd d (ps.foldl (λ a p=>zHA a p.1 p.2) acc)->(∀b o,b≠d->b≠it->s.heap.get? b=some o->h'.get? b=some o)->R (.ok (.ret .none)) {s with heap:=h',toks:=tk})->
   zBq (model prog w) A (.builtin "dict.update.loop" ⟨[.ref d,.ref it,zGX (i:Int),.none],[]⟩) R s:=by
 intro us;induction us with
 |nil=>
  intro ps i s acc hu hp _ hit ht hd _ q;cases hp;refine zBJ nW ?_;rw[zBK (by decide+kernel) _];unfold zCY.«dict.update.loop»;have hx:vs[i]? =none:=by
   rw[<-zAb,zC3]
   have:=congrArg zEf hu
   rw[zC7,zBE]at this;omega
  refine zAB (zHb hA hit ht hx λ h' he=>?_);refine zAB (zAG (zAG ?_));exact q h' s.toks (hd.extBut he hdi) λ b o _ h2 e=>he b o h2 e
 |cons u us ih=>
  intro ps i s acc hu hp hne hit ht hd hz q;cases hp with
  |@cons x o n kv v k _ ps' ho hc hdt' hk r=>
  refine zBJ nW ?_;rw[zBK (by decide+kernel) _];unfold zCY.«dict.update.loop»;have hx:vs[i]? =some (.ref x):=by
   rw[<-zAb]
   have:=congrArg (λ l=>l[0]?) hu
   simpa using this.symm
  refine zAB (zHS hit ht hx λ h' hit' hs=>?_);obtain⟨hxd,hxi⟩:=hne x zAH;have ho':h'.get? x=some o:=by rw[hs.2 x hxi];exact ho
  have hT:zEg {s with heap:=h'} (.ref x) "tuple":=⟨o,ho',hc⟩;have hd':=hd.sameBut hs hdi;refine zAB (zB2 (zAB (wpAny_tryCatch ?_)));unfold Builtin.Dict.pairItems;refine zAB (zCr hT ?_);rw[if_pos (by decide)];refine zAB (zEL ho' hdt' ?_);refine zAG ?_;show wpAny _ _ (zEK [kv,v] (dictSet d kv v)) _ _ _;refine zB2 (zIR (knd:=knd) (k:=k) (hsz:=by omega) hk hd' λ h2 hd2 hs2=>?_);have keep:∀b ob,b≠d->b≠it->s.heap.get? b=some ob->h2.get? b=some ob:=λ b ob n1 n2 e=>by
   rw[hs2.2 b n1];show h'.get? b=some ob;rw[hs.2 b n2];exact e
  have hi2:h2.IsTupleIter it t (i+1):=by
   obtain⟨oi,e1,e2⟩:=hit';exact⟨oi,by rw[hs2.2 it (zDR hdi)];exact e1,e2⟩
  have ht2:h2.IsTuple t vs:=by
   obtain⟨ot,e1,e2⟩:=ht;exact⟨ot,keep t ot (zDR hdt) hti e1,e2⟩
  have hl:(zHA acc k v).length<=acc.length+1:=stored_length_le acc k v;have ei:((i:Int)+1)=((i+1:Nat):Int):=by omega
  refine zAG ⟨zCK _ (by decide+kernel),?_⟩;rw[ei];refine ih ps' (i+1) _ (zHA acc k v) ?_ (r.mono λ y hy ob e=>keep y ob (hne y (zAI _ hy)).1 (hne y (zAI _ hy)).2 e) (λ y hy=>hne y (zAI _ hy)) hi2 ht2 hd2 (by rw[zA3]at hz;omega) λ h3 tk hd3 k3=>?_
  .rw[<-zFm,<-hu]
   rfl
  .exact q h3 tk hd3 λ b ob n1 n2 e=>k3 b ob n1 n2 (keep b ob n1 n2 e)
end
end PySem
namespace VL
open PySem PySem.Spec PyProof.Rows L2
def aDe:gV->Option gX
 |[]=>some []
 |[i,j]::r=>(match aDe r with
  |some qs=>some ((i,j)::qs)
  |none=>none)
 |_=>none
theorem aAR:∀{nss:gV} {qs:gX},aDe nss=some qs->nss=qs.map λ q=>[q.1,q.2]
 |[],_,h=>by cases h;rfl
 |[]::_,_,h=>by cases h
 |[_]::_,_,h=>by cases h
 |[i,j]::r,qs,h=>by
  unfold aDe at h;split at h
  .rename_i q e
   cases h;rw[zAC,<-aAR e]
  .cases h
 |(_::_::_::_)::_,_,h=>by cases h
def aFy(q:Int×Int):Key×V:=(.inl q.1,.int q.2)
def aDa(K:zAA):List V->Hp->VK->Prop:=λ xs H Q=>∃p vs nss qs,xs=[.ref p]/\SqT K H p vs/\b8 K H vs nss/\aDe nss=some qs/\∀l H',aW H H'->H l=none->H' l=some (.dK ((qs.map aFy).foldl (λ a q=>putK a q.1 q.2) []))->Q (.ref l) H'
theorem aAS{X:Cx}{kK:hV}{s:zAD}{Z:L2.St}{H:Hp}(I:Inv X kK Z H s):∀{vs:List V} {qs:gX},b8 X.K H vs (qs.map λ q=>[q.1,q.2])->∃ps:List (Key×Value),kY (cM X.prog X.w) s.heap (vs.map jY) ps/\KV (qs.map aFy) ps/\∀x,.ref x∈vs.map jY->x<s.heap.objs.size
 |_,[],t=>by cases t;exact⟨[],.nil,.nil,λ x h=>nomatch h⟩
 |_,q::qs,t=>by
  rw[zAC]at t;cases t with
  |@cons a ns vs nss h hne r=>
   obtain⟨ps,p1,p2,p3⟩:=aAS I r;obtain⟨its,rv,⟨o,ho,hc,n,hd⟩,_⟩:=I.tuple h;cases rv with
   |cons ru rv=>
   cases rv with
   |cons ru2 rv=>
   cases rv;rename_i u u2;refine⟨(.inl q.1,u2)::ps,.cons ho hc hd (aA2 (k:=.inl q.1) ru) p1,.cons ⟨rfl,ru2⟩ p2,λ x hx=>?_⟩;rcases zAQ.mp hx with e|e
   .cases e
    exact zAR ho
   .exact p3 x e
theorem aFF:∀{l:List (Key×V)} {ps acc':List (Key×Value)} {acc:List (Key×V)},KV l ps->KV acc acc'->KV (l.foldl (λ a q=>putK a q.1 q.2) acc) (ps.foldl (λ a p=>zHA a p.1 p.2) acc')
 |_,_,_,_,.nil,h=>h
 |_,_,_,_,.cons (a:=p) (b:=q) ⟨e,r⟩ t,h=>by
  rw[zBP,zBP,e];exact aFF t (h.put q.1 r)
theorem aC3:∀(l:List (Key×V)) (acc:List (Key×V)),(l.foldl (λ a q=>putK a q.1 q.2) acc).length<=acc.length+l.length
 |[],_=>zAM _
 |p::l,acc=>by
  rw[zBP];have h1:=aC3 l (putK acc p.1 p.2);have h2:=o5 acc p.1 p.2;rw[zA3];lia
def aDB{X:Cx}(hc:X.calm=true):gH X (.type "dict") (aDa X.K):=by
 intro kK s Z H xs us Q I r h;obtain⟨p,vs,nss,qs,rfl,hp,ht,hq,q⟩:=h;obtain⟨u,rfl,ru⟩:=vals1 r;cases ru;have en:=aAR hq;subst en;obtain⟨its,rv,⟨o,ho,hcl,n,hd⟩,hz⟩:=I.tuple hp;have e:=ht.vals rv;subst e;obtain⟨ps,p1,p2,p3⟩:=aAS I ht;have hpl:=zAR ho;refine aEU ho hcl hd (I.noD hp o ho) (I.ok.hd hc) λ h' tk keep=>?_
 have hd0:h'.get? s.heap.objs.size=some {cls:=.type "dict",data:=.dict #[]}:=keep _ _ (zAL _ rfl);have hsz:s.heap.objs.size<h'.objs.size:=zAR hd0;have k0:∀b u,s.heap.get? b=some u->h'.get? b=some u:=λ b u e=>keep b u (zAE _ e)
 refine aEO (knd:=cM X.prog X.w) (vs:=(vs.map jY).toArray) (A:=X.A.in1) (t:=p) (zAZ hsz) (zBg hpl) (zAZ (zCR hpl hsz)) (I.ok.hd hc) (vs.map jY) ps 0 _ [] (by simp) (p1.mono λ x hx ob e=>zAE _ (k0 x ob e)) (λ x hx=>⟨zAZ (p3 x hx),zAZ (zCR (p3 x hx) hsz)⟩) ⟨_,zAL _ rfl,rfl,rfl⟩ ⟨o,zAE _ (k0 p o ho),hcl,n,hd⟩ ?_ ?_ λ h3 tk3 hd3 k3=>⟨rfl,?_⟩
 .exact⟨_,#[],0,zAE _ hd0,⟨rfl,rfl,rfl⟩,rfl,λ _ he=>(by simp at he),Pairs.nil,zFo⟩
 .rw[zAF,zBE]
  lia
 .have hl:qs.length=vs.length:=by rw[ht.len,zAF]
  have hfr:H s.heap.objs.size=none:=I.hok.fresh (zAM _);refine⟨.ref s.heap.objs.size,upd H s.heap.objs.size (.dK ((qs.map aFy).foldl (λ a q=>putK a q.1 q.2) [])),I.laid (t':=tk3) (λ b u e=>k3 b u (zAZ (zAR e)) (zAZ (zCR (zAR e) hsz)) (zAE _ (k0 b u e))) (zAM _) (aIQ ?_ (beq_eq_false_iff_ne.mpr (zDR (zAZ I.big))) (aFF p2 .nil) hd3),rfl,q _ _ (bJ hfr _) hfr bG⟩
  have:=aC3 (qs.map aFy) []
  rw[zAF,zBE]at this;lia
def zQ:List D->Rs D
 |[.tup l]=>match mJ l with
  |some nss=>(match aDe nss with
   |some qs=>.ok (aCt (yw [] (qs.map λ q=>(q.1,.int q.2))))
   |none=>.st)
  |none=>.st
 |_=>.st
theorem aCm{K:zAA}:∀(qs:gX) {acc:List (Key×V)} {ps:List (Int×D)},Rps K A H (acc.map (·.2)) (ps.map (·.2))->(acc.map (·.1)=ps.map λ p=>(zCL p.1:Key))->
  Rps K A H (((qs.map aFy).foldl (λ a q=>putK a q.1 q.2) acc).map (·.2)) ((yw ps (qs.map λ q=>(q.1,.int q.2))).map (·.2))/\(((qs.map aFy).foldl (λ a q=>putK a q.1 q.2) acc).map (·.1)=(yw ps (qs.map λ q=>(q.1,.int q.2))).map λ p=>(zCL p.1:Key))
 |[],_,_,r,e=>⟨r,e⟩
 |q::qs,acc,ps,r,e=>by
  obtain⟨z1,z2⟩:=aLy (i:=q.1) (v:=.int q.2) (d:=.int q.2) r e (.int q.2);exact aCm qs z1 z2
def aIV{K:zAA}:aIi K (aDa K) zQ:=by
 intro A xs ds H Q z r ez q;unfold zQ at ez;split at ez
 .cases r with
  |cons h r=>
   cases r;cases h with
   |tup h r=>
    split at ez
    .rename_i nss e
     split at ez
     .rename_i qs e3
      obtain⟨e1,e2⟩:=jr e;subst e1;cases ez;have ht:=sS r e2;refine⟨_,_,nss,qs,rfl,h,ht,e3,λ l H' s hl hl2=>q _ H' s ?_⟩;obtain⟨z1,z2⟩:=aCm (K:=K) (A:=λ p=>H p=none/\p≠l) (H:=H') qs (acc:=[]) (ps:=[]) .nil rfl;exact aKf hl2 hl z1 z2
     .cases ez
    .cases ez
 .cases ez
section
variable{C:Ct}{pos p:Pos}{m:Mode}{a:Expr}{ga:En->Rs (List D)}
def aGn(hm:C.mg "dict"=none)(ha:SA C m [a] ga)(he:∀i,zAV [a] (C.X i).env=[(false,eval a (C.X i).env)]:=by intro _;rfl)(hg:∀i,Gl (C.X i) "dict":=by intro _;rfl)(hv:zAw "dict"=some (.type "dict"):=by decide+kernel):SE C (some []) (.Call (.Name "dict" p) [a] [] pos) (opA zQ ga):=by
 obtain⟨t,h1,h2⟩:=ha;refine⟨_,λ i=>lO (r:=aDa C.K) (by rw[<-C.hK i];exact aDB (C.calm i)) (hg i) (by rw[(C.cx i).2.2.2.1];exact hm) hv (h1 i) (by decide) (by decide) (he i) rfl,aEc aIV h2⟩
end
def nR:zDh (.type "dict_values") "__contains__"=pure none:=by rw[zEn,zDV];kernel_rfl
def jA:zHL table "proto.contains_iter"=some zCY.«proto.contains_iter»:=entryFor_of_tree (by kernel_rfl)
def aIc{K:Type}:List (K×Value)->List Int->Prop:=zGw λ p j=>∃t,p.2=zEQ j t
section
variable{prog:zAT}{w:World}{A:zAa}{E:Value->zAD->Prop}{K:Type}[DecidableEq K]{knd:KeyKind prog w K}
def aIW{it d:Addr}{vs:List (K×Value)}{ep:Nat}{i:Int}{t:Tok}{R:zDl->zAD->Prop}(hdi:d≠it)(hA:A.handled=none):
  ∀(ws:List (K×Value)) (js:List Int) (k:Nat) (s:zAD),ws=vs.drop k->aIc ws js->s.heap.IsValIter it d k vs.length ep->s.heap.DictAt knd d vs ep->
   (∀h' tk,(∀b o,b≠it->s.heap.get? b=some o->h'.get? b=some o)->R (.ok (.ret (.bool (js.any (·==i))))) {s with heap:=h',toks:=tk})->
   zBq (model prog w) A (.builtin "proto.contains_iter" ⟨[.ref it,.int i t],[]⟩) R s:=by
 intro ws;induction ws with
 |nil=>
  intro js k s hu hp hit hd q;cases hp;refine zBJ jA ?_;rw[zBK (by decide+kernel) _];unfold zCY.«proto.contains_iter»;have hx:vs[k]? =none:=by
   rw[zC3]
   have:=congrArg zEf hu
   rw[zC7,zBE]at this;lia
  refine zAB (wpAny_pyNext_values_end hA hit hd (by have:=zC3.mp hx;lia) λ h' he=>?_);refine zAB (zEs (zAG ?_));exact q h' s.toks λ b o h2 e=>he b o h2 e
 |cons u us ih=>
  intro js k s hu hp hit hd q;cases hp with
  |cons hv r=>
  rename_i j js;obtain⟨kk,v⟩:=u;obtain⟨tv,ev⟩:=hv;replace ev:v= .int j tv:=ev;subst ev;refine zBJ jA ?_;rw[zBK (by decide+kernel) _];unfold zCY.«proto.contains_iter»;have hx:vs[k]? =some (kk,.int j tv):=by
   have:=congrArg (λ l=>l[0]?) hu
   simpa using this.symm
  refine zAB (wpAny_pyNext_values_item hit hd hx λ h' hit' hs=>?_);refine zAB (zGE ?_);have hk:∀b o,b≠it->s.heap.get? b=some o->h'.get? b=some o:=λ b o n e=>(hs.2 b n).trans e
  by_cases e:j=i
  .subst e
   rw[if_pos (by simp)];refine zAB (zEs (zAG ?_))
   have:=q h' s.toks hk
   rw[zBs,beq_self_eq_true,Bool.true_or]at this;exact this
  .rw[if_neg (by simpa using e)]
   refine zAG ⟨zCK _ (by decide+kernel),?_⟩;refine ih js (k+1) _ ?_ r hit' (hd.extBut hs.extBut hdi) λ h3 tk k3=>?_
   .rw[<-zFm,<-hu]
    rfl
   .have:=q h3 tk λ b o n e=>k3 b o n (hk b o n e)
    rw[zBs,show(j==i)=false by simpa using e,Bool.false_or]at this;exact this
def aAB{l d:Addr}{vs:List (K×Value)}{js:List Int}{i:Int}{t:Tok}{s:zAD}{Q:Bool->zAD->Prop}(hA:A.handled=none)(hl:s.heap.IsValuesView l d)(hd:s.heap.DictOf knd d vs)(hj:aIc vs js)
  (h:∀h' tk,(∀b o,s.heap.get? b=some o->h'.get? b=some o)->Q (js.any (·==i)) {s with heap:=h',toks:=tk}):wpAny (model prog w) A (contains (.ref l) (.int i t)) Q E s:=by
 obtain⟨ep,hda⟩:=hd.dictAt;unfold contains;refine zB2 ?_;rw[stdlibNamesSay?_of_typeIs hl.typeIs];refine zAB (zEo hl.typeIs nR ?_);show wpAny _ A (if (none==some zBF)=true then _ else _) Q E s;rw[if_neg (by simp)];refine zAB (wpAny_callSpecialUnlessNone?_none hl.typeIs nR ?_);refine zAB (zEs (zAB (wpAny_tryCatch ?_)));refine wpAny_pyIter_values hl hda ?_;refine zAB (zFD ?_);have hlt:=hda.lt_size;refine aIW (vs:=vs) (d:=d) (ep:=ep) (knd:=knd) (zAZ hlt) hA vs js 0 _ rfl hj ⟨_,zAL _ rfl,rfl,rfl⟩ (hda.push _) λ h' tk k=>?_
 exact zAG (h h' tk λ b o e=>k b o (zAZ (zAR e)) (zAE _ e))
end
def aGZ(l a:Addr):HO:=.ext λ h=>h.IsValuesView l a
def aGz:V->List V->Hp->VK->Prop:=λ x xs H Q=>∃a kvs,x= .ref a/\xs=[]/\H a=some (.dK kvs)/\∀l,H l=none->Q (.ref l) (upd H l (aGZ l a))
def aLr(neg:Bool):R2:=λ y x H Q=>∃(l a:Addr) (kvs:List (Key×V)) (js:List Int) (i:Int),x= .ref l/\y= .int i/\H l=some (aGZ l a)/\H a=some (.dK kvs)/\kvs.map (·.2)=js.map V.int/\Q (.bl (neg !=js.any (·==i))) H
def aFu{X:Cx}:MtR X "dict.values" aGz:=by
 intro kK s Z H x xs v us Q I rx rxs h;obtain⟨a,kvs,rfl,rfl,ha,q⟩:=h;cases rx;cases rxs;obtain⟨z,hd,vs,rel,dd⟩:=aIP I.hok ha;have hfr:H s.heap.objs.size=none:=I.hok.fresh (zAM _);refine call_meetsIn zF3 dd.typeIs PySem.F.entry_dict_values (PySem.F.args_dict_values_1 _) (meets_dict_values (cM X.prog X.w) a hd) ⟨⟨vs,dd⟩,⟨.ref s.heap.objs.size,upd H s.heap.objs.size (aGZ s.heap.objs.size a),I.laid (t':=s.toks) (λ b o e=>zAE _ e) (zAM _) ?_,rfl,q _ hfr⟩⟩;exact⟨⟨_,zAL _ rfl,rfl,rfl⟩,⟨_,zAL _ rfl⟩,λ h1 h2 ⟨o,e,r⟩ k=>⟨o,k o e,r⟩⟩
theorem aCg:∀{kvs:List (Key×V)} {vs:List (Key×Value)} {js:List Int},KV kvs vs->kvs.map (·.2)=js.map V.int->aIc vs js
 |_,_,[],.nil,_=>.nil
 |_,_,_::_,.nil,e=>by cases e
 |_,_,[],.cons _ _,e=>by cases e
 |_,_,j::js,.cons (a:=p) (b:=q) h t,e=>by
  rw[zAC,zAC]at e;injection e with e1 e2
  have h2:=h.2;rw[e1]at h2;exact .cons h2 (aCg t e2)
def aJk{X:Cx}(hc:X.calm=true):OpR X (zAs .NotIn) (aLr true):=by
 intro kK s Z H y x u v Q I ry rx ⟨l,a,kvs,js,i,ex,ey,hl,ha,hk,q⟩;subst ex;cases rx;subst ey;obtain⟨t,rfl⟩:=ry;obtain⟨z,hd,vs,rel,dd⟩:=aIP I.hok ha;show wpAny (model X.prog X.w) X.A (do return zDm (!(<-contains (.ref l) (.int i t)))) _ _ s;exact zAB (aAB (I.ok.hd hc) (I.hok l _ hl).1 dd (aCg rel hk) λ h' tk k=>zAG ⟨.bl (!js.any (·==i)),H,I.kept k,rfl,by simpa using q⟩)
def aAs(neg:Bool):D->D->Rs D
 | .int i,.dct ks vs=>match oR ks vs,intsOf vs with
  |some _,some js=>.ok (.bl (neg !=js.any (·==i)))
  |_,_=>.st
 |_,_=>.st
def aIq(h:aAs neg d e= .ok z):∃i ks vs ps js,d= .int i/\e= .dct ks vs/\oR ks vs=some ps/\intsOf vs=some js/\z= .bl (neg !=js.any (·==i)):=by
 unfold aAs at h;split at h
 .split at h
  .rename_i i ks vs _ _ ps js h1 h2
   cases h;exact⟨i,ks,vs,ps,js,rfl,rfl,h1,h2,rfl⟩
  .cases h
 .cases h
def aJB{K:zAA}{G:Gx}{ta to:TE}{fa fo:En->Rs D}(h1:gZ K G m1 ta fa)(h2:gZ K G m2 to fo):gZ K G (some []) (tOp (aLr n) ta (aLd K "dict" aGz to)) (op2 (aAs n) fa fo):=by
 intro U Z H Y lab Q R W;refine h1 U Z H Y lab _ R (W.bd.imp λ d _ w x H1 s1 r1=>?_);refine h2 U Z H1 Y lab _ (R.up s1) (w.bd.imp λ e _ w y H2 s2 r2=>?_);obtain⟨z,ez,wz⟩:=w.okD;obtain⟨i,ks,vs,ps,js,rfl,rfl,hp,hj,rfl⟩:=aIq ez;have ex:=(r1.up s2).int_inv;subst ex;obtain⟨a,kvs,rfl,g1,m,r,hk⟩:=r2.dctI_inv hp;refine⟨.inr (.inr (.inl ⟨rfl,.inl ⟨_,g1⟩⟩)),a,kvs,rfl,rfl,g1,λ l hl=>?_⟩;have hne:a≠l:=λ e=>by subst e;rw[g1]at hl;cases hl
 have ev:kvs.map (·.2)=js.map V.int:=by
  rw[<-(yE hp).2,iV hj]at r;exact r.ints_of
 exact⟨l,a,kvs,js,i,rfl,rfl,bG,by rw[bA hne];exact g1,ev,wz _ _ ((s1.trans s2).trans (bJ hl _)) (.bl _)⟩
section
variable{C:Ct}{m1 m2:Mode}{a o:Expr}{fa fo:En->Rs D}{pos apos cpos:Pos}
def aIv(ha:SE C m1 a fa)(ho:SE C m2 o fo)(hbase:∀j,zCM o "values" (C.X j).env (eval o (C.X j).env)=eval o (C.X j).env:=by intro _;rfl)(hline:(apos.endLine==cpos.line)=true:=by rfl)(hm:zBj .NotIn (.Call (.Attribute o "values" apos) [] [] cpos)=false:=by with_unfolding_all rfl):
  ST C (.Compare a [.NotIn] [.Call (.Attribute o "values" apos) [] [] cpos] pos) (tsb (op2 (aAs true) fa fo)):=by
 obtain⟨t,h1,h2⟩:=ha;obtain⟨u,k1,k2⟩:=ho;exact⟨aE5 (tOp (aLr true) t (aLd C.K "dict" aGz u)),λ i=>by rw[<-C.hK i];exact aEq (aJk (C.calm i)) (h1 i) (aMQ zF9 zF3 PySem.F.type_dict_values aFu (k1 i) (hbase i) hline) hm,aAy (aJB h2 k2)⟩
end
end VL
namespace L2
open PySem PySem.Spec PyProof.Rows
section
variable{X:Cx}{n0 n1 n2 odd:Str}{c1 c2:V}{k1 k2 k3 k4:List V}{l1 l2:List Str}{a1 a2:Expr}{as1 as2 e1 e2 e3 e4 w1 w2:List Expr}{kw1 kw2:List zCA}{Q:VK}{H:Hp}{vs:List V}
 {p1 p2 p3 p4 p5 p6 p7 p8 p9 p10 p11 p12 p13 p14 p15 p16 p17 p18 p19 p20 p21 p22 p23 p24 p25 p26 p27 p28 p29 p30 p31 p32 p33 p34 p35 p36 p37 p38 p39 p40:Pos}{q1 q2 q3 q4 q5 q6 q7:Pos}{j1 j2 j3 j4 j5:Nat}{E0:XK}{wd:Addr->Option Str}
end
section
variable{P:zAT}{w:World}{K:zAA}{mg:Str->Option Value}{base:Heap}{x q n0 n1 n2 odd:Str}{st:Stmt}{f:Addr}{fd:zA7}{k:Nat}{wd:Addr->Option Str}{c1 c2:V}{k1 k2 k3 k4:List V}{l1 l2:List Str}{a1 a2:Expr}{as1 as2 e1 e2 e3 e4 w1 w2:List Expr}{kw1 kw2:List zCA}
 {p1 p2 p3 p4 p5 p6 p7 p8 p9 p10 p11 p12 p13 p14 p15 p16 p17 p18 p19 p20 p21 p22 p23 p24 p25 p26 p27 p28 p29 p30 p31 p32 p33 p34 p35 p36 p37 p38 p39 p40:Pos}{q1 q2 q3 q4 q5 q6 q7:Pos}{j1 j2 j3 j4 j5:Nat}
end
section
variable{X:Cx}{n0 n1 n2 odd:Str}{c1 c2:V}{k1 k2 k3 k4:List V}{l1 l2:List Str}{a1 a2:Expr}{as1 as2 e1 e2 e3 e4 w1 w2:List Expr}{kw1 kw2:List zCA}{Q:VK}{H:Hp}{vs:List V}
 {p1 p2 p3 p4 p5 p6 p7 p8 p9 p10 p11 p12 p13 p14 p15 p16 p17 p18 p19 p20 p21 p22 p23 p24 p25 p26 p27 p28 p29 p30 p31 p32 p33 p34 p35 p36 p37 p38 p39 p40:Pos}{q1 q2 q3 q4 q5 q6 q7:Pos}{j1 j2 j3 j4 j5:Nat}{E0:XK}{wd:Addr->Option Str}
end
section
variable{P:zAT}{w:World}{K:zAA}{mg:Str->Option Value}{base:Heap}{x q n0 n1 n2 odd:Str}{st:Stmt}{f:Addr}{fd:zA7}{k:Nat}{wd:Addr->Option Str}{c1 c2:V}{k1 k2 k3 k4:List V}{l1 l2:List Str}{a1 a2:Expr}{as1 as2 e1 e2 e3 e4 w1 w2:List Expr}{kw1 kw2:List zCA}
 {p1 p2 p3 p4 p5 p6 p7 p8 p9 p10 p11 p12 p13 p14 p15 p16 p17 p18 p19 p20 p21 p22 p23 p24 p25 p26 p27 p28 p29 p30 p31 p32 p33 p34 p35 p36 p37 p38 p39 p40:Pos}{q1 q2 q3 q4 q5 q6 q7:Pos}{j1 j2 j3 j4 j5:Nat}
end
end L2
namespace VL
open PySem PySem.Spec PyProof.Rows L2
def dnr{K:zAA}{h:Heap}{mg:Str->Option Value}{x:Str}{st:Stmt}(X:K.In h)(G:h.Ns zA9 mg)(e:∃f d,Enr K x st f d)(ps:List Str)
  (hb:∀(kV doc pm:Value) (an:Option Addr) (cdv ct:Value) (us:List Value),us.length=ps.length->bindArgs (zBz x x (pZ st) (iR st) (aP st) .none kV doc pm an cdv ct) ⟨us,[]⟩=pure (ps.zip us):=by
   intro _ _ _ _ _ _ us hl;repeat' first|rfl|(simp at hl;done)|rcases us with _|⟨_,us⟩):∃f d,Dnr K mg x st ps f d/\zAn K zA9 x=some (some (.ref f)):=by
 obtain⟨f,d,F,a⟩:=e;exact⟨f,d,⟨F,zBe X G a,F.binds hb⟩,a⟩
end VL
namespace L2
open PySem PySem.Spec PyProof.Rows
end L2
namespace VL
open PySem PySem.Spec PyProof.Rows L2
def aPG(A:zAa)(s:zAD)(v u:Value)(b:Bool):Prop:=∀(prog:zAT) (w:World) (E:Value->zAD->Prop) (Q:Value->zAD->Prop),Q (.bool b) s->wpAny (model prog w) A (zGY .Gt v u) Q E s
inductive aGS(A:zAa)(s:zAD):List Value->List Value->Bool->Prop
 |nn:aGS A s [] [] false
 |nc:aGS A s [] (v::vs) false
 |cn:aGS A s (v::vs) [] true
 |eq:zC9 A s v u true->aGS A s vs us b->aGS A s (v::vs) (u::us) b
 |un:zC9 A s v u false->aPG A s v u b->aGS A s (v::vs) (u::us) b
section
open PySem.SeqAt
open PySem.AutoSeq1(wpAny_loadPart')
open PySem.MeetsSeq PySem.MeetsSeq2 PySem.MeetsSeq3
end
section
structure Cmp(f:D->D->Option Bool)(l:List D):Prop where
 n0:0<l.length
 im:ou l=true
 nd:aq l=true
 dp:cN l<=40
 cm:∀x∈l,∀y∈l,(f x y).isSome=true
instance:Decidable (Cmp f l):=if h:0<l.length/\ou l=true/\aq l=true/\cN l<=40/\∀x∈l,∀y∈l,(f x y).isSome=true then .isTrue ⟨h.1,h.2.1,h.2.2.1,h.2.2.2.1,h.2.2.2.2⟩else .isFalse λ z=>h ⟨z.n0,z.im,z.nd,z.dp,z.cm⟩
end
mutual
def lsD:D->D->Option Bool
 | .int a,.int b=>some (decide (a<b))
 | .tup l,.tup m=>aOO l m
 |_,_=>none
def aOO:List D->List D->Option Bool
 |[],[]=>some false
 |[],_::_=>some true
 |_::_,[]=>some false
 |x::xs,y::ys=>if eqD x y=true then aOO xs ys else lsD x y
end
def aPF(A:zAa)(s:zAD)(v u:Value)(b:Bool):Prop:=∀(prog:zAT) (w:World) (E:Value->zAD->Prop) (Q:Value->zAD->Prop),Q (.bool b) s->wpAny (model prog w) A (zGY .Lt v u) Q E s
inductive aGR(A:zAa)(s:zAD):List Value->List Value->Bool->Prop
 |nn:aGR A s [] [] false
 |nc:aGR A s [] (v::vs) true
 |cn:aGR A s (v::vs) [] false
 |eq:zC9 A s v u true->aGR A s vs us b->aGR A s (v::vs) (u::us) b
 |un:zC9 A s v u false->aPF A s v u b->aGR A s (v::vs) (u::us) b
section
open PySem.SeqAt
open PySem.AutoSeq1(wpAny_loadPart')
open PySem.MeetsSeq PySem.MeetsSeq2 PySem.MeetsSeq3
end
theorem intsAre_of:∀{vs:List Value} {ns:List Int},vs.length=ns.length->(∀(i:Nat) v,vs[i]? =some v->∃t,v= .int (ns.getD i 0) t)->zBM vs ns
 |[],[],_,_=>.nil
 |[],_::_,h,_=>by cases h
 |_::_,[],h,_=>by cases h
 |v::vs,n::ns,h,hv=>by
  obtain⟨t,e⟩:=hv 0 v rfl;have e2:v= .int n t:=e;subst e2;exact .cons _ _ (intsAre_of (by simpa using h) λ i v e=>by
   obtain⟨t,e⟩:=hv (i+1) v (by simpa using e);exact⟨t,by simpa using e⟩)
end VL
namespace L2
open PySem PySem.Spec PyProof.Rows
end L2
namespace VL
open PySem PySem.Spec PyProof.Rows L2
structure aPI(ks:List D):Prop where
 nd:aq ks=true
 dp:cN ks<=40
 cm:∀x∈ks,∀y∈ks,(lsD x y).isSome=true
instance:Decidable (aPI ks):=if h:aq ks=true/\cN ks<=40/\∀x∈ks,∀y∈ks,(lsD x y).isSome=true then .isTrue ⟨h.1,h.2.1,h.2.2⟩else .isFalse λ z=>h ⟨z.nd,z.dp,z.cm⟩
structure aPJ(f:D->D->Option Bool)(l:List D):Prop where
 im:ou l=true
 nd:aq l=true
 dp:cN l<=40
 cm:∀x∈l,∀y∈l,(f x y).isSome=true
instance:Decidable (aPJ f l):=if h:ou l=true/\aq l=true/\cN l<=40/\∀x∈l,∀y∈l,(f x y).isSome=true then .isTrue ⟨h.1,h.2.1,h.2.2.1,h.2.2.2⟩else .isFalse λ z=>h ⟨z.im,z.nd,z.dp,z.cm⟩
def aNv:R2:=λ x y H Q=>∃a b,x= .str a/\y= .str b/\a.length+b.length<=zAS/\Q (.str (a++b)) H
def aMc{X:Cx}:OpR X (zBy .Add) aNv:=by
 intro kK s Z H x y u v Q I rx ry ⟨a,b,ex,ey,hz,q⟩;subst ex ey;obtain⟨t,rfl⟩:=rx;obtain⟨t2,rfl⟩:=ry;exact add_str (λ t' tk=>⟨.str (a++b),H,I.tok tk,⟨t',rfl⟩,q⟩) hz
def lw:D->D->Rs D
 | .str a,.str b=>if a.length+b.length<=zAS then .ok (.str (a++b))else .st
 |_,_=>.st
def aFZ(h:lw d e= .ok z):∃a b,d= .str a/\e= .str b/\a.length+b.length<=zAS/\z= .str (a++b):=by
 unfold lw at h;split at h
 .rename_i a b
  split at h
  .rename_i hz
   cases h;exact⟨a,b,rfl,rfl,hz,rfl⟩
  .cases h
 .cases h
def Rp.str_inv{K:zAA}(r:Rp K A H v (.str x)):v= .str x:=by cases r;rfl
def aMW{K:zAA}:OpS K aNv lw:=by
 intro A x y d e H Q z rx ry ez q;obtain⟨a,b,rfl,rfl,hz,rfl⟩:=aFZ ez;have e1:=rx.str_inv;have e2:=ry.str_inv;subst e1 e2;exact⟨a,b,rfl,rfl,hz,q _ H (aW.refl H) (.str _)⟩
def strsOf:List D->Option (List Str)
 |[]=>some []
 | .str x::l=>(strsOf l).map (x::·)
 |_=>none
theorem nq:∀{l:List D} {ys:List Str},strsOf l=some ys->l=ys.map .str
 |[],ys,h=>by cases h;rfl
 |d::l,ys,h=>by
  cases d with
  |str x=>
   unfold strsOf at h;cases e:strsOf l with
   |none=>rw[e]at h;cases h
   |some zs=>
    rw[e]at h;cases h;rw[nq e];rfl
  |_=>cases h
theorem qj:∀ys:List Str,strsOf (ys.map .str)=some ys
 |[]=>rfl
 |y::ys=>by rw[zAC,strsOf,qj ys];rfl
theorem Rps.strs_inv{K:zAA}:∀{vs:List V} {ys:List Str},Rps K A H vs (ys.map .str)->vs=ys.map .str
 |[],[],_=>rfl
 |v::vs,[],h=>by cases h
 |[],y::ys,h=>by cases h
 |v::vs,y::ys,h=>by
  cases h with
  |cons a r=>
   have e:=a.str_inv;subst e;rw[Rps.strs_inv r];rfl
theorem aBo:∀{ys:List Str} {us:List Value},Vals (ys.map V.str) us->StrsAre us ys
 |[],_,.nil=>.nil
 |y::ys,_,.cons ⟨t,e⟩ r=>by subst e;exact .cons y t (aBo r)
def aA3(x:Str)(ys:List Str):Bool:=decide ((ys.map (·.length)).sum+ys.length*x.length<=16777216)
def rJoin(K:zAA):V->List V->Hp->VK->Prop:=λ x xs H Q=>∃a p ys,x= .str a/\xs=[.ref p]/\SqL K H p (ys.map V.str)/\aA3 a ys=true/\Q (.str (zDf a ys)) H
def aJu{X:Cx}:MtR X "str.join" (rJoin X.K):=by
 intro kK s Z H x xs v us Q I rx rxs ⟨a,p,ys,ex,exs,hp,hz,q⟩;subst ex exs;obtain⟨t,rfl⟩:=rx;obtain⟨u,rfl,ru⟩:=vals1 rxs;cases ru;obtain⟨its,rv,pl,_⟩:=I.list hp;exact join_list pl.isList (by simpa using aBo rv) (of_decide_eq_true hz) λ t' k=>⟨.str _,H,I.tok k,⟨t',rfl⟩,q⟩
def jb(fo fa:En->Rs D):En->Rs D:=λ Y=>(fo Y).bd λ d=>match d with
 | .str a=>(fa Y).bd λ e=>(match e with
  | .lst l=>(match strsOf l with
   |some ys=>if aA3 a ys=true then .ok (.str (zDf a ys))else .st
   |none=>.st)
  |_=>.st)
 |_=>.st
def aBq(a b:Str):Bool:=!(b.length==0)&&decide (a.length<=zAS)&&decide ((zCU a (zBv a b 0 a.length (a.length+1)) b.length).length<=zAS)&&decide ((zCT a b).length<=zAS)
def aER{prog:zAT}{w:World}{A:zAa}{E:Value->zAD->Prop}{s:zAD}{x y:Str}{t u:Tok}{Q:Value->zAD->Prop}(hz:aBq x y=true)
  (h:∀(l:List (Str×Tok)) tk,l.map (·.1)=zCT x y->Q (.ref s.heap.objs.size) {s with heap:=s.heap.push {cls:=.type "list",data:=.seq (strValues l).toArray},toks:=tk}):wpAny (model prog w) A (call (.builtin "str.split") [.str x t,.str y u]) Q E s:=by
 unfold aBq at hz;simp only[zAW,zDr,decide_eq_true_eq]at hz;obtain⟨⟨⟨hy,hx⟩,hn⟩,_⟩:=hz;cases h1:(decide (x.length<y.length)||decide (zF6 x<zF6 y))
 .cases hf:(zBv x y 0 x.length (x.length+1)).isEmpty
  .refine zDg zCl (zES _ _ _) zDj (zDb _ _) (meets_str_split_sep x y t u h1 hy hf hx hn) ?_
   show wants Q E _ {s with toks:=_,heap:=s.heap.push {cls:=.type "list",data:=.seq (strsFrom s.toks (zCU x (zBv x y 0 x.length (x.length+1)) y.length)).toArray}};rw[strsFrom_eq];exact h (numbered s.toks _) _ ((numbered_texts _ _).trans ((if_neg (ne_true_of_eq_false h1)).trans (if_neg (ne_true_of_eq_false hf))).symm)
  .exact zDg zCl (zES _ _ _) zDj (zDb _ _) (meets_str_split_not_found x y t u h1 hy hf) (h [(x,t)] s.toks ((if_neg (ne_true_of_eq_false h1)).trans (if_pos hf)).symm)
 .exact zDg zCl (zES _ _ _) zDj (zDb _ _) (meets_str_split_cannot_occur x y t u h1) (h [(x,t)] s.toks (if_pos h1).symm)
theorem aAI:∀(l:List (Str×Tok)),Vals ((l.map (·.1)).map V.str) (strValues l)
 |[]=>.nil
 |p::l=>.cons ⟨p.2,rfl⟩ (aAI l)
def aNl:V->List V->Hp->VK->Prop:=λ x xs H Q=>∃a b,x= .str a/\xs=[.str b]/\aBq a b=true/\∀L,H L=none->Q (.ref L) (upd H L (.lst ((zCT a b).map V.str)))
def aH7{X:Cx}:MtR X "str.split" aNl:=by
 intro kK s Z H x xs v us Q I rx rxs ⟨a,b,ex,exs,hz,q⟩;subst ex exs;obtain⟨t,rfl⟩:=rx;obtain⟨u,rfl,ru⟩:=vals1 rxs;obtain⟨t2,rfl⟩:=ru;have hfr:H s.heap.objs.size=none:=I.hok.fresh (zAM _);have hz2:=hz;unfold aBq at hz2;simp only[zAW,decide_eq_true_eq]at hz2;refine aER hz λ l tk hl=>⟨.ref s.heap.objs.size,_,I.laid (t':=tk) (a:=s.heap.objs.size) (o:=.lst ((zCT a b).map V.str)) (λ b o e=>zAE _ e) (zAM _) ⟨by rw[zAF];exact hz2.2,strValues l,0,by rw[<-hl];exact aAI l,zAL _ rfl⟩,rfl,q _ hfr⟩
def xP(fo fa:En->Rs D):En->Rs D:=λ Y=>(fo Y).bd λ d=>match d with
 | .str a=>(fa Y).bd λ e=>(match e with
  | .str b=>if aBq a b=true then .ok (.lst ((zCT a b).map .str))else .st
  |_=>.st)
 |_=>.st
theorem aCI{K:zAA}:∀ys:List Str,Rps K A H (ys.map V.str) (ys.map D.str)
 |[]=>.nil
 |y::ys=>.cons (.str y) (aCI ys)
section
variable{C:Ct}{m1 m2:Mode}{o e a b:Expr}{fo fe fa fb:En->Rs D}{apos cpos pos:Pos}
def xj(ha:SE C m1 a fa)(hb:SE C m2 b fb):SE C (some []) (.BinOp a .Add b pos) (op2 lw fa fb):=fU (xZ (λ _=>aMc) aMW ha hb) λ _ _ h=>jF (λ _ _ _ h=>by obtain⟨_,_,_,_,_,rfl⟩:=aFZ h;rfl) h
def mU(ho:SE C m1 o fo)(he:SE C m2 e fe)(hbase:∀j,zCM o "join" (C.X j).env (eval o (C.X j).env)=eval o (C.X j).env:=by intro _;rfl)(hline:(apos.endLine==cpos.line)=true:=by rfl)
  (hfew:∀j,((zCB cpos (zAV [e] (C.X j).env)).all (λ x=>!x.1)&&(zE2 cpos (zCo [] (C.X j).env)).all (λ x=>x.1.isSome)&&decide ([e].length+([]:List zCA).length+(if ([]:List zCA).isEmpty then 0 else 1)<30))=true:=by intro _;rfl)
  (hs:∀j,zAV [e] (C.X j).env=(false,eval e (C.X j).env)::zAV [] (C.X j).env:=by intro _;rfl):SE C (some []) (.Call (.Attribute o "join" apos) [e] [] cpos) (jb fo fe):=by
 obtain⟨t,h1,h2⟩:=ho;obtain⟨u,k1,k2⟩:=he;refine⟨tBM C.K "str" (rJoin C.K) t (lJ u z8),λ i=>by rw[<-C.hK i];exact aEv zDw PySem.F.slot_str_join PySem.F.type_str_join aJu (h1 i) (fD (k1 i) lD (hs i)) (hbase i) (hfew i) hline (hs i) rfl,λ U Z H Y lab Q R W=>?_⟩;refine h2 U Z H Y lab _ R (W.bd.imp λ d hd w x H1 s1 r1=>?_);cases d with
 |str a=>
  have ex:=r1.str_inv;subst ex;refine⟨rfl,k2 U Z H1 Y lab _ (R.up s1) (w.bd.imp λ e he w y H2 s2 r2=>?_)⟩;cases e with
  |lst l=>
   dsimp only at w;cases hl:strsOf l with
   |none=>rw[hl]at w;exact zAN w
   |some ys=>
    rw[hl]at w;dsimp only at w;by_cases hz:aA3 a ys=true
    .rw[if_pos hz]at w
     rw[nq hl]at r2;obtain⟨p,vs,rfl,hp,mm,rs⟩:=r2.lst_inv;have ev:=rs.strs_inv;subst ev;exact⟨a,p,ys,rfl,rfl,SqL.of hp,hz,w _ H2 (s1.trans s2) (.str _)⟩
    .rw[if_neg hz]at w;exact zAN w
  |_=>exact zAN w
 |_=>exact zAN w
def xY(ho:SE C m1 o fo)(he:SE C m2 e fe)(hbase:∀j,zCM o "split" (C.X j).env (eval o (C.X j).env)=eval o (C.X j).env:=by intro _;rfl)(hline:(apos.endLine==cpos.line)=true:=by rfl)
  (hfew:∀j,((zCB cpos (zAV [e] (C.X j).env)).all (λ x=>!x.1)&&(zE2 cpos (zCo [] (C.X j).env)).all (λ x=>x.1.isSome)&&decide ([e].length+([]:List zCA).length+(if ([]:List zCA).isEmpty then 0 else 1)<30))=true:=by intro _;rfl)
  (hs:∀j,zAV [e] (C.X j).env=(false,eval e (C.X j).env)::zAV [] (C.X j).env:=by intro _;rfl):SE C (some []) (.Call (.Attribute o "split" apos) [e] [] cpos) (xP fo fe):=by
 obtain⟨t,h1,h2⟩:=ho;obtain⟨u,k1,k2⟩:=he;refine⟨tBM C.K "str" aNl t (lJ u z8),λ i=>by rw[<-C.hK i];exact aEv zDw zCl PySem.F.type_str_split aH7 (h1 i) (fD (k1 i) lD (hs i)) (hbase i) (hfew i) hline (hs i) rfl,λ U Z H Y lab Q R W=>?_⟩;refine h2 U Z H Y lab _ R (W.bd.imp λ d hd w x H1 s1 r1=>?_);cases d with
 |str a=>
  have ex:=r1.str_inv;subst ex;refine⟨rfl,k2 U Z H1 Y lab _ (R.up s1) (w.bd.imp λ e he w y H2 s2 r2=>?_)⟩;cases e with
  |str b=>
   dsimp only at w;by_cases hz:aBq a b=true
   .rw[if_pos hz]at w
    have ey:=r2.str_inv;subst ey;refine⟨a,b,rfl,rfl,hz,λ L hL=>w _ _ ((s1.trans s2).trans (bJ hL _)) (.lst bG (.inl ((s1.trans s2).free hL)) (aCI _))⟩
   .rw[if_neg hz]at w;exact zAN w
  |_=>exact zAN w
 |_=>exact zAN w
end
def u9{M:Model}{Γ:zGQ}{p:Pos}{t:Sem Fin}{fs:List Frame}{s s':zAD}{e:End}(h:Runs M Γ p t fs s e s'):s.toks<=s'.toks:=by
 induction h with
 |done|raise|yield=>exact zAM _
 |fresh _ ih=>exact zA6 (zEi _) ih
 |call _ _ i1 i2=>exact zA6 i1 i2
 |resumeFresh _ _ _ _ i1 i2=>exact zA6 i1 i2
 |resumeSuspended _ _ _ _ i1 i2=>exact zA6 i1 i2
 |segRet _ _ i1 i2=>exact zA6 i1 i2
 |segGen _ _ i1 i2=>exact zA6 i1 i2
 |segSuspGen _ _ _ _ i1 i2=>exact zA6 i1 i2
 |_=>assumption
def aDO{M:Model}{Γ:zGQ}{p:Pos}{g:Nat}{r:Resume}{s s':zAD}{res:GenResult}(h:Wakes M Γ p g r s res s'):s.toks<=s'.toks:=by
 unfold Wakes at h;split at h
 .exact h.elim
 .split at h
  .obtain⟨_,_,h1,_,_,rfl⟩:=h;have:=u9 (M:=M) h1;exact this
  .rw[h.2];exact zAM _
  .rw[h.2];exact zAM _
 .obtain⟨_,_,h1,_,_,rfl⟩:=h;have:=u9 (M:=M) h1;exact this
 .rw[h.2];exact zAM _
 .rw[h.2];exact zAM _
def wp_toks{α:Type}{M:Model}{Γ:zGQ}{n:Nat}{Q:α->Pos->zAD->Prop}{E:Value->Pos->zAD->Prop}(t:Sem α):∀p s,n<=s.toks->Sem.wp M Γ t Q E p s->Sem.wp M Γ t (λ a p' s'=>Q a p' s'/\n<=s'.toks) E p s:=by
 induction t with
 |pure x=>exact λ p s hn h=>⟨h,hn⟩
 |raise v=>exact λ p s _ h=>h
 |unsupported|finish|yield|fork|await|register=>exact λ _ _ _ h=>h
 |rule _ k ih|«at» _ k ih|alloc _ k ih|loadIfAlive _ k ih|point _ k ih|ask k ih|os _ _ k ih|handled _ k ih|newGen _ k ih|stack k ih|thread k ih=>exact λ p s hn h=>ih _ _ _ hn h
 |fresh k ih=>exact λ p s hn h=>ih _ _ _ (Nat.le_succ_of_le hn) h
 |load a _ k ih|genState a k ih=>exact λ p s hn ⟨o,ho,h⟩=>⟨o,ho,ih _ _ _ hn h⟩
 |update a _ f k ih|choose _ _ k ih=>exact λ p s hn ⟨ha,h⟩=>⟨ha,ih _ _ _ hn h⟩
 |call c h g l k ih=>exact λ p s hn ⟨r,s',hr,h⟩=>⟨r,s',hr,ih r p s' (zA6 hn (u9 hr)) h⟩
 |resume g r l k ih=>exact λ p s hn ⟨res,s',hw,h⟩=>⟨res,s',hw,ih _ _ _ (zA6 hn (aDO hw)) h⟩
def zV{α:Type}{M:Model}{A:zAa}{n:Nat}{Q:α->zAD->Prop}{E:Value->zAD->Prop}{t:Sem α}{s:zAD}(hn:n<=s.toks)(h:wpAny M A t Q E s):wpAny M A t (λ a s'=>Q a s'/\n<=s'.toks) E s:=λ Γ p hΓ=>wp_toks t p s hn (h Γ p hΓ)
def Gro{α:Type}:Sem α->Prop
 | .fresh _=>True
 | .rule _ k=>Gro (k ())
 | .at _ k=>Gro (k ())
 | .point _ k=>Gro (k ())
 | .ask k=>∀x,Gro (k x)
 | .load _ _ k=>∀x,Gro (k x)
 | .raise _=>True
 |_=>False
def aLZ{α:Type}{M:Model}{Γ:zGQ}{Q:α->Pos->zAD->Prop}{E:Value->Pos->zAD->Prop}(t:Sem α)(g:Gro t):∀p s,Sem.wp M Γ t Q E p s->Sem.wp M Γ t (λ a p' s'=>Q a p' s'/\1<=s'.toks) E p s:=by
 induction t with
 |fresh k ih=>exact λ p s h=>wp_toks (k s.toks) p {s with toks:=s.toks+1} (Nat.succ_le_succ (zAp s.toks)) h
 |rule _ k ih|«at» _ k ih|point _ k ih=>exact λ p s h=>ih _ g _ _ h
 |ask k ih=>exact λ p s h=>ih _ (g _) _ _ h
 |load a _ k ih=>exact λ p s ⟨o,ho,h⟩=>⟨o,ho,ih _ (g _) _ _ h⟩
 |raise=>exact λ p s h=>h
 |_=>exact g.elim
def aKm{α:Type}{M:Model}{A:zAa}{Q:α->zAD->Prop}{E:Value->zAD->Prop}{t:Sem α}{s:zAD}(g:Gro t)(h:wpAny M A t Q E s):wpAny M A t (λ a s'=>Q a s'/\1<=s'.toks) E s:=λ Γ p hΓ=>aLZ t g p s (h Γ p hΓ)
def part_of{v:Value}{o:Option Int}(h:zFS v o):∃l:Option (Int×Tok),v=partValue l/\l.map (·.1)=o:=by
 cases h with
 |none=>exact⟨none,rfl,rfl⟩
 |int i t=>exact⟨some (i,t),rfl,rfl⟩
def aNn:V->Option Int->Option Int->Hp->VK->Prop:=λ x lo hi H Q=>∃a,x= .str a/\a.length<=zAS/\Q (.str (zGn a lo hi)) H
def aLf{X:Cx}:SlR X aNn:=by
 intro kK s Z H x v vl vu lo hi sl Q I rx hs pl pu ⟨a,ex,hz,q⟩;subst ex;obtain⟨t,rfl⟩:=rx;obtain⟨l,rfl,rfl⟩:=part_of pl;obtain⟨u,rfl,rfl⟩:=part_of pu;obtain⟨ob,h1,h2,h3⟩:=hs;exact⟨"str",_,PySem.F.slot_str_getitem.lookup,zES _ _ _,wpAny_getItem_str_slice (l:=l) (u:=u) (st:=none) ⟨ob,h1,h2,h3⟩ rfl (post_val_or_str ⟨zA6 (Txt.slice_le a _ _) hz,λ t' k=>⟨.str _,H,I.tok k,⟨t',rfl⟩,q⟩⟩)⟩
def aIy(d:D)(lo hi:Option Int):Rs D:=match d with
 | .str a=>if a.length<=zAS then .ok (.str (zGn a lo hi))else .st
 |_=>.st
def uR(fa:En->Rs D)(fl fh:En->Rs (Option Int)):En->Rs D:=λ Y=>(fa Y).bd λ d=>(fl Y).bd λ l=>(fh Y).bd λ h=>okD (aIy d l h)
section
variable{C:Ct}{pos p1 p2:Pos}{m:Mode}{a e:Expr}{fa fe:En->Rs D}{lo hi:Option Expr}
def aFb{fl fh:En->Rs (Option Int)}(ha:SE C m a fa)(hl:SO C lo fl)(hh:SO C hi fh):SE C (some []) (.Subscript a (.Slice lo hi none p2) pos) (uR fa fl fh):=by
 obtain⟨t,h1,h2⟩:=ha;obtain⟨tl,l1,l2⟩:=hl;obtain⟨th,k1,k2⟩:=hh;refine⟨tSl aNn t tl th,λ i=>aCR aLf (h1 i) (l1 i) (k1 i),λ U Z H Y lab Q R W=>h2 U Z H Y lab _ R (W.bd.imp λ d _ w x H1 s1 r1=>?_)⟩;refine l2 U Z H1 Y lab _ (R.up s1) (w.bd.imp λ ol _ w H2 s2=>?_);refine k2 U Z H2 Y lab _ ((R.up s1).up s2) (w.bd.imp λ oh _ w H3 s3=>?_);obtain⟨z,ez,w⟩:=w.okD;cases d with
 |str b=>
  unfold aIy at ez;dsimp only at ez;split at ez
  .rename_i hz
   cases ez;have ex:=r1.str_inv;subst ex;exact⟨b,rfl,hz,w _ H3 (s1.trans (s2.trans s3)) (.str _)⟩
  .cases ez
 |_=>cases ez
def aGH(c:Str):D->Rs D
 | .int i=>if i.natAbs.log2<1920/\(zED i:Str).length+c.length<=zAS then .ok (.str ((zED i:Str)++c))else .st
 |_=>.st
def aNa(c:Str)(te:TE):TE:=λ Z H Q=>te Z H λ x H1=>∃i:Int,x= .int i/\i.natAbs.log2<1920/\(zED i:Str).length+c.length<=zAS/\Q (.str ((zED i:Str)++c)) H1
def aMP{X:Cx}{te:TE}{c:Str}{j:Nat}(he:PE X e te):PE X (.JoinedStr [.FormattedValue e (-1) none p1,.Constant (.str c) j p2] pos) (aNa c te):=by
 intro kK s Z H Q I h;refine JoinedStr_many (joinParts_cons (FormattedValue_plain (thn (he kK s Z H _ I h) λ v s1 ⟨x,H1,I1,r1,i,ex,hl,hz,q⟩=>?_)));subst ex;obtain⟨t,rfl⟩:=r1;refine formatField_int_small hl ?_;have e0:Str.empty++(zED i:Str)=(zED i:Str):=PySem.Str.empty_append _;refine⟨by rw[e0];lia,?_⟩;rw[e0];refine joinParts_cons (zD4 ?_);refine⟨by rw[zHO];exact hz,joinParts_nil ⟨.str _,H1,I1.tok _,⟨_,rfl⟩,q⟩ (by rw[zHO];exact hz)⟩
def aLj{c:Str}{j:Nat}(he:SE C m e fe):SE C (some []) (.JoinedStr [.FormattedValue e (-1) none p1,.Constant (.str c) j p2] pos) (λ Y=>(fe Y).bd λ d=>okD (aGH c d)):=by
 obtain⟨t,h1,h2⟩:=he;refine⟨aNa c t,λ i=>aMP (h1 i),λ U Z H Y lab Q R W=>h2 U Z H Y lab _ R (W.bd.imp λ d _ w x H1 s1 r1=>?_)⟩;obtain⟨z,ez,w⟩:=w.okD;unfold aGH at ez;split at ez
 .split at ez
  .rename_i hz
   cases ez;have ex:=r1.int_inv;subst ex;exact⟨_,rfl,hz.1,hz.2,w _ H1 s1 (.str _)⟩
  .cases ez
 .cases ez
end
def aDd(ks vs:List D):Option (List (Str×D)):=match strsOf ks with
 |some js=>if js.length=vs.length then some (js.zip vs)else none
 |none=>none
def uE(ps:List (Str×D)):D:=.dct (ps.map λ p=>.str p.1) (ps.map (·.2))
def aFi(h:aDd ks vs=some ps):ks=ps.map (λ p=>.str p.1)/\vs=ps.map (·.2):=by
 unfold aDd at h;split at h
 .rename_i js hi
  split at h
  .rename_i hl
   cases h;refine⟨?_,?_⟩
   .rw[nq hi,show(λ p:Str×D=>D.str p.1)=(λ i=>D.str i)∘zFU from rfl,<-zA4,zFM (by lia)]
   .rw[zEH (by lia)]
  .cases h
 .cases h
theorem aGT:∀ps:List (Str×D),(ps.map (·.1)).zip (ps.map (·.2))=ps
 |[]=>rfl
 |p::ps=>by rw[zAC,zAC,zBA,aGT ps]
def aHM(ps:List (Str×D)):aDd (ps.map λ p=>.str p.1) (ps.map (·.2))=some ps:=by
 unfold aDd;have e:strsOf (ps.map λ p=>D.str p.1)=some (ps.map (·.1)):=by
  rw[show(ps.map λ p=>D.str p.1)=(ps.map (·.1)).map D.str by rw[zA4];rfl];exact qj _
 rw[e];dsimp only;rw[if_pos (by rw[zAF,zAF]),aGT]
def Rp.dctS_inv{K:zAA}(r:Rp K A H v (.dct ks vs))(h:aDd ks vs=some ps):
  ∃a kvs,v= .ref a/\H a=some (.dK kvs)/\A a/\Rps K (λ p=>A p/\p≠a) H (kvs.map (·.2)) (ps.map (·.2))/\kvs.map (·.1)=ps.map λ p=>(zCS p.1:Key):=by
 obtain⟨h1,h2⟩:=aFi h;generalize hd:D.dct ks vs=d at r;cases r with
 |dK hh m r=>
  rename_i kvs ds;injection hd with q1 q2
  subst q2;refine⟨_,kvs,rfl,hh,m,by rw[<-h2];exact r,?_⟩;rw[h1]at q1;clear r h h1 h2 hh;induction kvs generalizing ps with
  |nil=>cases ps with
   |nil=>rfl
   |cons _ _=>cases q1
  |cons p kvs ih=>cases ps with
   |nil=>cases q1
   |cons q ps=>
    obtain⟨p1,p2⟩:=p;rw[zAC,zAC]at q1;injection q1 with q3 q4
    rw[zAC,zAC,ih q4];cases p1 with
    |inl i=>cases q3
    |inr x=>injection q3 with q3;rw[q3]
 |dT hh m r=>
  injection hd with q1 q2
  rw[h1]at q1;cases ps<;>cases q1
 |_=>cases hd
theorem aG0{K:zAA}:∀{kvs:List (Key×V)} {ps:List (Str×D)},Rps K A H (kvs.map (·.2)) (ps.map (·.2))->(kvs.map (·.1)=ps.map λ p=>(zCS p.1:Key))->∀i:Str,
  (∃d v,ps.lookup i=some d/\qe kvs (.inr i)=some v/\Rp K A H v d)\/(ps.lookup i=none/\qe kvs (.inr i)=none)
 |[],[],_,_,_=>.inr ⟨rfl,rfl⟩
 |[],_::_,_,e,_=>by cases e
 |_::_,[],_,e,_=>by cases e
 |p::kvs,q::ps,r,e,i=>by
  obtain⟨p1,p2⟩:=p;obtain⟨q1,q2⟩:=q;rw[zAC,zAC]at e;injection e with e1 e2
  replace e1:p1= .inr q1:=e1;subst e1;rw[zAC,zAC]at r;cases r with
  |cons h r=>
   by_cases c:q1=i
   .subst c
    exact .inl ⟨q2,p2,by simp[zAe],sJ rfl,h⟩
   .have c1:(i==q1)=false:=by simpa using λ z=>c z.symm
    rw[sO (p:=(zCS q1,p2)) (by simpa using c),zAe,c1];exact aG0 r e2 i
def aCN(ps:List (Str×D))(i:Str)(d:D):List (Str×D):=if (ps.any λ p=>decide (p.1=i))=true then ps.map (λ p=>if p.1=i then(p.1,d)else p)else ps++[(i,d)]
theorem aI1:∀{kvs:List (Key×V)} {ps:List (Str×D)} {i:Str},(kvs.map (·.1)=ps.map λ p=>(zCS p.1:Key))->(kvs.any λ kv=>decide (kv.1=(.inr i:Key)))=ps.any λ p=>decide (p.1=i)
 |[],[],_,_=>rfl
 |[],_::_,_,e=>by cases e
 |_::_,[],_,e=>by cases e
 |(p1,p2)::kvs,q::ps,i,e=>by
  rw[zAC,zAC]at e;injection e with e1 e2
  replace e1:p1= .inr q.1:=e1;subst e1;rw[zBs,zBs,aI1 e2];simp
theorem aGt{K:zAA}{i:Str}{v:V}{d:D}(h:Rp K A H v d):∀{kvs:List (Key×V)} {ps:List (Str×D)},Rps K A H (kvs.map (·.2)) (ps.map (·.2))->(kvs.map (·.1)=ps.map λ p=>(zCS p.1:Key))->
  Rps K A H ((kvs.map λ kv=>if kv.1= .inr i then(kv.1,v)else kv).map (·.2)) ((ps.map λ p=>if p.1=i then(p.1,d)else p).map (·.2))/\((kvs.map λ kv=>if kv.1= .inr i then(kv.1,v)else kv).map (·.1)=(ps.map λ p=>if p.1=i then(p.1,d)else p).map λ p=>(zCS p.1:Key))
 |[],[],_,_=>⟨.nil,rfl⟩
 |[],_::_,_,e=>by cases e
 |_::_,[],_,e=>by cases e
 |(p1,p2)::kvs,(q1,q2)::ps,r,e=>by
  rw[zAC,zAC]at e;injection e with e1 e2
  replace e1:p1= .inr q1:=e1;subst e1;rw[zAC,zAC]at r;cases r with
  |cons h1 r1=>
   obtain⟨z1,z2⟩:=aGt h r1 e2;rw[zAC,zAC,zAC,zAC,zAC,zAC,z2];by_cases c:q1=i
   .subst c
    rw[if_pos rfl,if_pos rfl];exact⟨.cons h z1,rfl⟩
   .rw[if_neg (show¬((zCS q1:Key),p2).1=zCS i by simpa using c),if_neg (show¬(q1,q2).1=i from c)]
    exact⟨.cons h1 z1,rfl⟩
def aLx{K:zAA}{kvs:List (Key×V)}{ps:List (Str×D)}{i:Str}{v:V}{d:D}(r:Rps K A H (kvs.map (·.2)) (ps.map (·.2)))(e:kvs.map (·.1)=ps.map λ p=>(zCS p.1:Key))(h:Rp K A H v d):
  Rps K A H ((putK kvs (.inr i) v).map (·.2)) ((aCN ps i d).map (·.2))/\(putK kvs (.inr i) v).map (·.1)=(aCN ps i d).map λ p=>(zCS p.1:Key):=by
 unfold putK aCN;rw[aI1 e];split
 .exact aGt h r e
 .rw[zAg,zAg,zAg,zAg,e]
  exact⟨r.append (.cons h .nil),rfl⟩
def aKe{K:zAA}{kvs:List (Key×V)}{ps:List (Str×D)}(h:H a=some (.dK kvs))(m:A a)(r:Rps K (λ p=>A p/\p≠a) H (kvs.map (·.2)) (ps.map (·.2)))(e:kvs.map (·.1)=ps.map λ p=>(zCS p.1:Key)):Rp K A H (.ref a) (uE ps):=by
 have e1:(kvs.map λ p=>kD p.1)=ps.map λ p=>.str p.1:=by
  rw[show(kvs.map λ p=>kD p.1)=(kvs.map (·.1)).map kD by rw[zA4];rfl,e,zA4];rfl
 have:=Rp.dK h m r
 rw[e1]at this;exact this
def prZ:D->Option (Str×D)
 | .tup [.str i,v]=>some (i,v)
 |_=>none
def nZ:List D->Option (List (Str×D))
 |[]=>some []
 |d::ds=>match prZ d,nZ ds with
  |some p,some ps=>some (p::ps)
  |_,_=>none
def aHN(h:prZ d=some p):d= .tup [.str p.1,p.2]:=by
 unfold prZ at h;split at h
 .cases h;rfl
 .cases h
def yD(h:nZ (d::ds)=some ps):∃p qs,d= .tup [.str p.1,p.2]/\nZ ds=some qs/\ps=p::qs:=by
 unfold nZ at h;split at h
 .rename_i p qs h1 h2
  cases h;exact⟨p,qs,aHN h1,h2,rfl⟩
 .cases h
def foldZ(acc qs:List (Str×D)):List (Str×D):=qs.foldl (λ ps q=>aCN ps q.1 q.2) acc
def dcZ(fi:En->Rs (List D))(js:kX)(fg:D->En->Rs En)(ft:En->Rs Bool)(fk fv:En->Rs D):En->Rs D:=λ Y=>(fi (shE Y)).bd λ ds=>
 if ds.length<zAS then(match lcL (stE js (shE Y)) fg ft (pairE fk fv) ds with
  | .ok l=>(match nZ l with
   |some qs=>.ok (uE (foldZ [] qs))
   |none=>.st)
  |_=>.st)else .st
def aN4(tk tv:TE):Addr->L2.St->Hp->(Hp->Prop)->Prop:=λ D Z H Q=>tk Z H λ y H1=>tv Z H1 λ v H2=>∃i kvs,y= .str i/\H2 D=some (.dK kvs)/\kvs.length<zAS/\Q (upd H2 D (.dK (putK kvs (.inr i) v)))
def aOF{X:Cx}{kx vx:Expr}{tk tv:TE}(hk:PE X kx tk)(hv:PE X vx tv):PB X (zP kx vx) (aN4 tk tv):=by
 intro D kK s Z H Q I h;unfold zP;refine zAB (thn (hk kK s Z H _ I h) λ u s1 ⟨y,H1,I1,r1,q1⟩=>zAB (zB2 (thn (hv kK s1 Z H1 _ I1 q1) λ u2 s2 ⟨v,H2,I2,r2,i,kvs,ey,hD,hl,q⟩=>?_)));subst ey;refine zAB (zFX (zB2 ?_));obtain⟨z,hd,vs,rel,dd⟩:=aIP I2.hok hD;have hz:vs.length<=zAS:=by rw[<-rel.length];exact z
 have hl2:(putK kvs (.inr i) v).length<=zAS:=by have:=o5 kvs (.inr i) v;lia
 refine zIR (knd:=cM X.prog X.w) (k:=.inr i) (hsz:=hz) (aA2 (k:=.inr i) r1) dd λ h' dd' hs=>⟨_,?_,q⟩
 have he:∃q,h'.get? D=some q:=let⟨q,_,_,hq,_⟩:=dd';⟨q,hq⟩
 exact aKg I2 (t':=s2.toks+1) (by rw[hD];exact zCa) hs he (aIQ hl2 hd (rel.put (.inr i) r2) dd')
def yu(acc qs:List (Str×D))(q:Str×D):foldZ acc (qs++[q])=aCN (foldZ acc qs) q.1 q.2:=by unfold foldZ;rw[zEz];rfl
theorem aCP:∀{l m:List D} {ps:List (Str×D)},nZ (l++m)=some ps->∃p1 p2,nZ l=some p1/\nZ m=some p2/\ps=p1++p2
 |[],m,ps,h=>⟨[],ps,rfl,h,rfl⟩
 |d::l,m,ps,h=>by
  obtain⟨p,qs,rfl,h2,rfl⟩:=yD h;obtain⟨p1,p2,e1,e2,rfl⟩:=aCP h2;exact⟨p::p1,p2,by unfold nZ;rw[e1];rfl,e2,rfl⟩
theorem aAQ(p:Str×D):∀{l:List D} {ps:List (Str×D)},nZ l=some ps->nZ (l++[.tup [.str p.1,p.2]])=some (ps++[p])
 |[],ps,h=>by cases h;rfl
 |d::l,ps,h=>by
  obtain⟨q,qs,rfl,h2,rfl⟩:=yD h;rw[zFI];unfold nZ;rw[aAQ p h2];rfl
section
variable{K:zAA}{G:Gx}{wi:TI}{fi:En->Rs (List D)}{g:TG}{fg:D->En->Rs En}{tt:TT}{ft:En->Rs Bool}{tk tv:TE}{fk fv:En->Rs D}{js:kX}
def aLg(hi:aNV K G wi fi)(hg:aNW K {G with E:=λ _ _ _=>False} g fg)(ht:aAH K {G with E:=λ _ _ _=>False} tt ft)(hk:gZ K {G with E:=λ _ _ _=>False} (some []) tk fk)(hv:gZ K {G with E:=λ _ _ _=>False} (some []) tv fv):
  gZ K G (some []) (aNc (λ _=>.dK []) wi (stV js) g tt (aN4 tk tv)) (dcZ fi js fg ft fk fv):=by
 intro U Z H Y lab Q R W;refine hi U Z H _ _ _ R.shE (W.bd.imp λ ds _ w J H1 lab1 U1 s1 _ R1 jl=>?_);intro l hl;obtain⟨oQ,out,qs,aI,hqs,w⟩:ds.length<zAS/\∃out qs,lcL (stE js (VL.shE Y)) fg ft (pairE fk fv) ds= .ok out/\nZ out=some qs/\QE K (some []) lab H Q (uE (foldZ [] qs)):=by
  by_cases oQ:ds.length<zAS
  .rw[if_pos oQ]at w
   cases aI:lcL (stE js (VL.shE Y)) fg ft (pairE fk fv) ds with
   |ok out=>
    rw[aI]at w;dsimp only at w;cases hns:nZ out with
    |some ns=>rw[hns]at w;exact⟨oQ,out,ns,rfl,hns,w⟩
    |none=>rw[hns]at w;exact zAN w
   |ex c=>rw[aI]at w;exact zAN w
   |st=>rw[aI]at w;exact zAN w
  .rw[if_neg oQ]at w
   exact zAN w
 have R0:RR K {G with E:=λ _ _ _=>False} (U1++U) (VL.shE Y) Z H1 (λ _=>(0,0)):=R1.blk0 rfl;have RB:=R0.block (js:=js) (λ _=>zAp _) hl;have hHl:H l=none:=s1.free hl;have h0l:G.H0 l=none:=R1.old.free hl;refine⟨λ i n H2=>∃(kvs:List (Key×V)) (pre:List D) (qp:List (Str×D)),n=ds.length-i/\i<=ds.length/\H2 l=some (.dK kvs)/\kvs.length<=i/\nZ pre=some qp/\Rps K (λ p=>H p=none/\p≠l) H2 (kvs.map (·.2)) ((foldZ [] qp).map (·.2))/\(kvs.map (·.1)=(foldZ [] qp).map λ p=>(zCS p.1:Key))/\
  RR K {G with E:=λ _ _ _=>False} (U1++U) (stE js (VL.shE Y)) (stV js Z) H2 (λ p=>if p=l then(2,0)else(0,0))/\aW H H2/\
  ∃post,lcL (stE js (VL.shE Y)) fg ft (pairE fk fv) (ds.drop i)= .ok post/\out=pre++post,⟨ds.length,[],[],[],by lia,by lia,bG,zAM _,rfl,.nil,rfl,RB.up (bJ hl _),s1.trans (bJ hl _),out,aI,rfl⟩,?_⟩
 rintro i n H2 ⟨kvs,pre,qp,rfl,hi,hD,hei,hqp,rv,rk,R2,s2,post,hpost,eout⟩;have jj:=jl _ H2 λ q hq=>R2.tm q (zAc _ hq)
 by_cases hlt:i<ds.length
 .obtain⟨go,yl⟩:=(jj i).2 hlt
  refine .inr ⟨go,λ x H3 hy=>?_⟩;obtain⟨s3,d,ed,rx⟩:=yl x H3 hy;replace R2:=R2.up s3;replace hD:=s3 _ _ hD;replace s2:=s2.trans s3;replace rv:=rv.up s3;have ed2:ds.drop i=d::ds.drop (i+1):=by
   rw[zDe hlt]
   have:=zAJ hlt
   rw[ed]at this;cases this;rfl
  rw[ed2]at hpost;obtain⟨Y1,k,e1,e2,e3⟩:=aCa hpost;refine hg (U1++U) x d _ H3 _ _ _ Y1 R2 rx e1 λ Z4 R4=>?_
  refine ht (U1++U) Z4 H3 Y1 _ _ R4 ?_;rw[e2];intro H5 s5;rcases e3 with ⟨rfl,y,ys,e3,e4,rfl⟩|⟨rfl,e4⟩
  .rw[if_pos rfl]
   obtain⟨kd,vd,e5,e6,rfl⟩:=aHV e3;obtain⟨p,k3,q3,q4⟩:∃(p:Str×D) (k3:List (Str×D)),D.tup [kd,vd]= .tup [.str p.1,p.2]/\nZ ys=some k3:=by
    rw[eout]at hqs;obtain⟨p1,p2,_,q2,_⟩:=aCP hqs;obtain⟨p,k3,a1,a2,_⟩:=yD q2;exact⟨p,k3,a1,a2⟩
   injection q3 with q3
   injection q3 with q5 q6
   injection q6 with q6
   subst q5 q6;refine hk (U1++U) Z4 H5 Y1 _ _ (R4.up s5) ?_;rw[e5];intro v H6 s6 r6;refine hv (U1++U) Z4 H6 Y1 _ _ ((R4.up s5).up s6) ?_;rw[e6];intro v2 H7 s7 r7;have ey:=r6.str_inv;subst ey;have hD7:H7 l=some (.dK kvs):=((s5.trans s6).trans s7) _ _ hD;have B:nj l H7 (upd H7 l (.dK (putK kvs (.inr p.1) v2))):=λ b o ne hb=>by rw[bA ne];exact hb
   obtain⟨z1,z2⟩:=aLx (i:=p.1) (A:=λ q=>H q=none/\q≠l) (rv.up ((s5.trans s6).trans s7)) rk (r7.wk λ q o _ z=>by
    rcases z with z|z
    .exact⟨((s2.trans s5).trans s6).free z,λ e=>by subst e;rw[(s5.trans s6) _ _ hD]at z;cases z⟩
    .cases z)
   refine⟨p.1,kvs,rfl,hD7,by lia,ds.length-(i+1),by lia,putK kvs (.inr p.1) v2,pre++[.tup [.str p.1,p.2]],qp++[p],rfl,hlt,bG,by have:=o5 kvs (.inr p.1) v2;lia,aAQ p hqp,?_,?_,(R2.up ((s5.trans s6).trans s7)).but_blk B hD7 rfl h0l,?_,ys,e4,by rw[eout];simp⟩
   .rw[yu]
    exact z1.but B hD7 rfl λ z=>z.2 rfl
   .rw[yu]
    exact z2
   .exact λ b o hb=>B b o (λ z=>by subst z;rw[hHl]at hb;cases hb) ((((s2.trans s5).trans s6).trans s7) b o hb)
  .rw[if_neg zAX]
   exact⟨ds.length-(i+1),by lia,kvs,pre,qp,rfl,hlt,s5 _ _ hD,by lia,hqp,rv.up s5,rk,R2.up s5,s2.trans s5,post,e4,eout⟩
 .have ei:i=ds.length:=by lia
  subst ei;rw[zFK]at hpost;cases hpost;rw[zBX]at eout;subst eout;rw[hqs]at hqp;cases hqp;exact .inl ⟨(jj _).1 (zAM _),w _ H2 s2 (aKe hD (.inl hHl) (rv.wk λ p o _ z=>⟨.inl z.1,z.2⟩) rk)⟩
end
section
variable{C:Ct}{pos:Pos}{kx vx tg iter:Expr}{ifs:List Expr}{sc:Scope}{N:List Str}{js:kX}{ks:List Nat}{fi:En->Rs (List D)}{fg:D->En->Rs En}{ft:En->Rs Bool}{fk fv:En->Rs D}
def aNj(hi:SI C tg iter fi)(hg:SG (C.blk sc N) tg ks fg)(ht:aI9 (C.blk sc N) ifs ft)(hk:SE (C.blk sc N) (some []) kx fk)(hv:SE (C.blk sc N) (some []) vx fv)(hs:∀i x,zBl iter (C.X i).env x=pure x:=by intro _ _;rfl)(hB:∀i,fY (C.X i) sc N (stV js) ks:=by intro _;exact aEV rfl rfl rfl rfl rfl rfl):SE C (some []) (.DictComp kx vx [⟨tg,iter,ifs,0⟩] sc pos) (dcZ fi js fg ft fk fv):=by
 obtain⟨wi,i1,i2⟩:=hi;obtain⟨g,g1,g2,g3,g4⟩:=hg;obtain⟨tt,t1,t2⟩:=ht;obtain⟨tk,k1,k2⟩:=hk;obtain⟨tv,v1,v2⟩:=hv;exact⟨_,λ i=>aOD (pos:=pos) (hB i) (C.calm i) (i1 i) (λ c fp zI zD=>g1 (i,c,fp,zI,zD)) g3 (λ c fp zI zD=>t1 (i,c,fp,zI,zD)) (aF4 kx vx tg iter ifs sc pos) (aDS kx vx tg iter ifs sc pos) aNT (λ c fp zI zD=>aOF (X:=(C.X i).block sc c N fp zI zD) (k1 (i,c,fp,zI,zD)) (v1 (i,c,fp,zI,zD))) rfl rfl (hs i),aLg i2 g2 t2 k2 v2⟩
end
def aEP(fd fk:En->Rs D):En->Rs D:=λ Y=>(fd Y).bd λ d=>match d with
 | .dct ks vs=>(match aDd ks vs with
  |some ps=>(fk Y).bd λ k=>(match k with
   | .str i=>.ok ((ps.lookup i).getD .non)
   |_=>.st)
  |none=>.st)
 |_=>.st
structure M1(X:Cx)(o:Expr)(m:Str)(apos:Pos)(e:Expr)(cpos:Pos):Prop where
 base:zCM o m X.env (eval o X.env)=eval o X.env
 few:((zCB cpos (zAV [e] X.env)).all (λ x=>!x.1)&&(zE2 cpos (zCo [] X.env)).all (λ x=>x.1.isSome)
  &&decide (([e]:List Expr).length+([]:List zCA).length+(if ([]:List zCA).isEmpty then 0 else 1)<30))=true
 line:(apos.endLine==cpos.line)=true
 trees:zCB cpos (zAV [e] X.env)=[(false,eval e X.env)]
def aG6(td ty:TE):TE:=λ Z H Q=>td Z H λ x H1=>∃a,x= .ref a/\IsD H1 a/\ty Z H1 λ y H2=>∃kvs k,y=kV k/\Rd H2 a (.dK kvs)/\Q ((qe kvs k).getD .non) H2
def aHT{X:Cx}{o e:Expr}{apos cpos:Pos}{td ty:TE}(ho:PE X o td)(he:PE X e ty)(m:M1 X o "get" apos e cpos):PE X (.Call (.Attribute o "get" apos) [e] [] cpos) (aG6 td ty):=by
 intro kK s Z H Q I h;refine zIp m.base m.few m.line zF9 zFw PySem.F.type_dict_get (thn (ho kK s Z H _ I h) λ u s1 ⟨x,H1,I1,rx,a,ex,d,q1⟩=>?_);subst ex;obtain rfl:u=zAr a:=rx;obtain⟨t1,t2,_⟩:=aMx I1 d;refine⟨t1,t2,?_⟩;rw[m.trees];refine zCp rfl (zDE (zD5 (thn (he kK s1 Z H1 _ I1 q1) λ iv s2 ⟨y,H2,I2,ry,kvs,k,ey,g,q2⟩=>zEu ?_)));subst ey;obtain⟨z,hd,vs,rel,dd⟩:=aAk I2.hok g;refine call_meetsIn zFw dd.typeIs PySem.F.entry_dict_get (PySem.F.args_dict_get_2 _ _) (meets_dict_get (cM X.prog X.w) a (aA2 ry) hd) ⟨_,dd.mapOf,⟨_,H2,I2.tok _,(rel.val k).getD (d:=.non) rfl,q2⟩⟩
section
variable{C:Ct}{m1 m2:Mode}{a b:Expr}{fa fb:En->Rs D}{apos cpos:Pos}
def aLk(ha:SE C m1 a fa)(hb:SE C m2 b fb)(hm:∀j,M1 (C.X j) a "get" apos b cpos:=by intro _;exact⟨rfl,rfl,rfl,rfl⟩):SE C m1 (.Call (.Attribute a "get" apos) [b] [] cpos) (aEP fa fb):=by
 obtain⟨t,h1,h2⟩:=ha;obtain⟨u,k1,k2⟩:=hb;refine⟨aG6 t u,λ i=>aHT (h1 i) (k1 i) (hm i),λ U Z H Y lab Q R W=>?_⟩;refine h2 U Z H Y lab _ R (W.bd.imp λ d _ w x H1 s1 r1=>?_);cases d with
 |dct ks vs=>
  dsimp only at w;cases hp:aDd ks vs with
  |none=>rw[hp]at w;exact zAN w
  |some ps=>
   rw[hp]at w;dsimp only at w;obtain⟨a,kvs,rfl,g1,m,r,hk⟩:=r1.dctS_inv hp;refine⟨a,rfl,.inl ⟨_,.inl g1⟩,?_⟩;refine k2 U Z H1 Y lab _ (R.up s1) (w.bd.imp λ e _ w y H2 s2 r2=>?_);cases e with
   |str i=>
    dsimp only at w;have ey:=r2.str_inv;subst ey;have g3:H2 a=some (.dK kvs):=s2 _ _ g1;refine⟨kvs,.inr i,rfl,.inl g3,?_⟩;rcases aG0 (r.up s2) hk i with ⟨d,v,e1,e2,e3⟩|⟨e1,e2⟩
    .rw[e1]at w
     rw[e2];exact w v H2 (s1.trans s2) (e3.wk λ p o _ q=>q.1)
    .rw[e1]at w
     rw[e2];exact w .non H2 (s1.trans s2) .non
   |_=>exact zAN w
 |_=>exact zAN w
end
def PEp(X:Cx)(e:Expr)(t:TE):Prop:=
 ∀(kK:hV) (s:zAD) (Z:L2.St) (H:Hp) (Q:VK),1<=s.toks->Inv X kK Z H s->t Z H Q->wpAny (model X.prog X.w) X.A (eval e X.env) (EP X kK Z Q) X.xe s
def PTp(X:Cx)(e:Expr)(t:TT):Prop:=
 ∀(kK:hV) (s:zAD) (Z:L2.St) (H:Hp) (Q:Bool->Hp->Prop),1<=s.toks->Inv X kK Z H s->t Z H Q->wpAny (model X.prog X.w) X.A (isTrue e X.env (eval e X.env)) (TP X kK Z Q) X.xe s
def PWp(X:Cx)(e:Expr)(t:TT):Prop:=
 ∀(whole:Sem Value) (kK:hV) (s:zAD) (Z:L2.St) (H:Hp) (Q:Bool->Hp->Prop),1<=s.toks->Inv X kK Z H s->t Z H Q->wpAny (model X.prog X.w) X.A (isTrue e X.env whole) (TP X kK Z Q) X.xe s
def PSp(X:Cx)(st:Stmt)(t:TS):Prop:=
 ∀(kK:hV) (s:zAD) (Z:L2.St) (H:Hp) (D:Ends),1<=s.toks->Inv X kK Z H s->t D Z H->wpAny (model X.prog X.w) X.A (exec st X.env) (SP X kK D) X.xe s
section
variable{X:Cx}{a b o c:Expr}{ta tb to:TE}{pos cpos apos:Pos}{rest:List Expr}{tA tB' tc:TT}{st st2:Stmt}{t u:TS}
def aKx(y z:Str)(to:TE):TE:=λ Z H Q=>to Z H λ x H1=>∃a,x= .str a/\a.length+(a.length+1)*z.length<=16777216/\Q (.str (zFd a y z)) H1
def aHR{y z:Str}{j j2:Nat}{p p2:Pos}(hyz:(y==z)=false)(ho:PE X o to)(m:M2 X o "replace" apos (.Constant (.str y) j p) (.Constant (.str z) j2 p2) cpos):
  PEp X (.Call (.Attribute o "replace" apos) [.Constant (.str y) j p,.Constant (.str z) j2 p2] [] cpos) (aKx y z to):=by
 intro kK s Z H Q hn I h;refine zIp m.base m.few m.line zDw PySem.F.slot_str_replace PySem.F.type_str_replace (thn (zV hn (ho kK s Z H _ I h)) λ v s1 ⟨⟨x,H1,I1,r1,w,ex,hz,q⟩,hn1⟩=>?_);subst ex;obtain⟨t,rfl⟩:=r1;refine⟨zES _ _ _,λ b e=>(by cases e),?_⟩;rw[m.trees];refine zCp rfl (zDE (zD5 (zD4 (zD5 (zD4 (zEu ?_))))));exact SC.replace (by exact zBg hn1) (Nat.succ_ne_zero _) (zAZ (zBd _)) hyz hz λ t' k=>⟨.str _,H1,I1.tok k,⟨t',rfl⟩,q⟩
def aJX{op:CmpOp}{r:R2}(ho:OpR X (zAs op) r)(ha:PE X a ta)(hb:PEp X b tb)(hm:zBj op b=false):PTp X (.Compare a [op] [b] pos) (aE5 (tOp r ta tb)):=by
 intro kK s Z H Q hn I h;refine zIC (thn (zV hn (ha kK s Z H _ I h)) λ v s1 ⟨⟨x,H1,I1,r1,q1⟩,hn1⟩=>thn (hb kK s1 Z H1 _ hn1 I1 q1) λ u s2 ⟨y,H2,I2,r2,q2⟩=>
  thn (ho kK s2 Z H2 x y v u _ I2 r1 r2 q2) λ c s3 ⟨z,H3,I3,r3,k,e,q3⟩=>?_) hm
 subst e;cases r3;exact zBm ⟨H3,I3,q3⟩
def aJV(ha:PTp X a tA):PWp X (.BoolOp .Or [a] pos) tA:=by
 intro wh kK s Z H Q hn I h;refine zHw (thn (ha kK s Z H Q hn I h) λ c s1 e=>?_);cases c with
 |false=>exact isTrue_or_nil e
 |true=>exact e
def aLt(ha:PT X a tA)(hb:PWp X (.BoolOp .Or (b::rest) pos) tB'):PWp X (.BoolOp .Or (a::b::rest) pos) (tOr tA tB'):=by
 intro wh kK s Z H Q hn I h;refine zHw (thn (zV hn (ha kK s Z H _ I h)) λ c s1 ⟨⟨H1,I1,q1⟩,hn1⟩=>?_);cases c with
 |true=>exact⟨H1,I1,q1⟩
 |false=>exact hb wh kK s1 Z H1 Q hn1 I1 q1
def aMA{a b:List Stmt}(hc:PWp X c tc)(ha:PSs X a t)(hb:PSs X b u):PSp X (.If c a b pos) (aLc tc t u):=by
 intro kK s Z H D hn I h;refine wpAny_If (thn (hc _ kK s Z H _ hn I h) λ d s1 ⟨H1,I1,q1⟩=>?_);cases d with
 |true=>exact ha kK s1 Z H1 D I1 q1
 |false=>exact hb kK s1 Z H1 D I1 q1
def aJ0(h1:PS X st t)(hg:Gro (exec st X.env))(h2:PSp X st2 u):PSs X [st,st2] (aLa t u):=by
 intro kK s Z H D I h;refine zE6 (thn (aKm hg (h1 kK s Z H {D with nx:=u D} I h)) λ f s1 ⟨q,hn⟩=>?_);cases f with
 |next=>
  obtain⟨Z',H',I',q⟩:=q;refine zE6 (thn (h2 kK s1 Z' H' D hn I' q) λ f s2 q=>?_);cases f with
  |next=>exact zDq q
  |ret v=>exact q
  |brk=>exact q
  |cont=>exact q
 |ret v=>exact q
 |brk=>exact q
 |cont=>exact q
end
def aJR(y z:Str):D->Rs D
 | .str a=>if a.length+(a.length+1)*z.length<=16777216 then .ok (.str (zFd a y z))else .st
 |_=>.st
def aJN(y z:Str)(fo:En->Rs D):En->Rs D:=λ Y=>(fo Y).bd λ d=>okD (aJR y z d)
section
variable{C:Ct}{pos pos2 pos3 cpos apos p p2:Pos}{m m1 m2:Mode}{a o l:Expr}{fl fo:En->Rs D}{ga:En->Rs Bool}{f g h:En->Ou}{sa sb:List Stmt}{st:Stmt}{y z:Str}{j j2:Nat}
def aJD{K:zAA}{G:Gx}{to:TE}(h:gZ K G m to fo):gZ K G (some []) (aKx y z to) (aJN y z fo):=by
 intro U Z H Y lab Q R W;refine h U Z H Y lab _ R (W.bd.imp λ d _ w x H1 s1 r1=>?_);obtain⟨e,ez,w⟩:=w.okD;unfold aJR at ez;split at ez
 .split at ez
  .rename_i hz
   cases ez;have ex:=r1.str_inv;subst ex;exact⟨_,rfl,hz,w _ H1 s1 (.str _)⟩
  .cases ez
 .cases ez
def aJE{K:zAA}{G:Gx}{t u:TT}{ga gb:En->Rs Bool}(h2:aAH K G t ga)(k2:aAH K G u gb):aAH K G (tOr t u) (orT ga gb):=by
 intro U Z H Y lab Q R W;refine h2 U Z H Y lab _ R (W.bd.imp λ k _ w H1 s1=>?_);cases k with
 |false=>
  rw[if_neg zAX]at w ⊢;exact k2 U Z H1 Y lab Q (R.up s1) (w.imp λ z _ w H' s=>w H' (s1.trans s))
 |true=>
  rw[if_pos rfl]at w ⊢;exact w H1 s1
def aJG{K:zAA}{G:Gx}{t:TT}{tA tB:TS}{ga:En->Rs Bool}(c2:aAH K G t ga)(A2:aDI K G tA g)(B2:aDI K G tB h):aDI K G (aLc t tA tB) (ifS ga g h):=by
 intro U Z H Y lab De R W;refine c2 U Z H Y lab _ R (W.bo.imp λ k _ w H1 s1=>?_);cases k with
 |true=>rw[if_pos rfl]at w ⊢;exact A2 U Z H1 Y lab De (R.up s1) w
 |false=>rw[if_neg zAX]at w ⊢;exact B2 U Z H1 Y lab De (R.up s1) w
def aGh{K:zAA}{G:Gx}{t u:TS}(h2:aDI K G t f)(k2:aDI K G u g):aDI K G (aLa t u) (ao f g):=by
 intro U Z H Y lab De R W;refine h2 U Z H Y lab _ R ?_;unfold ao at W;cases h:f Y with
 |nx Y'=>rw[h]at W;exact λ Z' H' lab' R'=>k2 U Z' H' Y' lab' De R' W
 |rt d=>rw[h]at W;exact W
 |bk Y'=>rw[h]at W;exact W
 |ct Y'=>rw[h]at W;exact W
 |ex c=>rw[h]at W;exact W
 |st=>rw[h]at W;exact W
def aGc(hs:SS C st f)(hg:∀i,Gro (exec st (C.X i).env))(ha:ST C a ga)(hl:SE C m1 l fl)(ho:SE C m2 o fo)(hA:SSs C sa g)(hB:SSs C sb h)(hyz:(y==z)=false:=by decide+kernel)
  (hm:∀i,M2 (C.X i) o "replace" apos (.Constant (.str y) j p) (.Constant (.str z) j2 p2) cpos:=by intro _;exact⟨rfl,rfl,rfl,rfl⟩):
  SSs C [st,.If (.BoolOp .Or [a,.Compare l [.NotEq] [.Call (.Attribute o "replace" apos) [.Constant (.str y) j p,.Constant (.str z) j2 p2] [] cpos] pos] pos2) sa sb pos3]
   (ao f (ifS (orT ga (tsb (op2 (eqR true) fl (aJN y z fo)))) g h)):=by
 obtain⟨t,h1,h2⟩:=hs;obtain⟨ta,a1,a2⟩:=ha;obtain⟨tl,l1,l2⟩:=hl;obtain⟨to,o1,o2⟩:=ho;obtain⟨tA,A1,A2⟩:=hA;obtain⟨tB,B1,B2⟩:=hB;exact⟨_,λ i=>aJ0 (h1 i) (hg i) (aMA (aLt (a1 i) (aJV (aJX (C.neRl i) (l1 i) (aHR hyz (o1 i) (hm i)) (aDo _)))) (A1 i) (B1 i)),aGh h2 (aJG (aJE a2 (aAy (wU os_eq l2 (aJD o2)))) A2 B2)⟩
end
section
variable{Y:En}{i:Nat}{f g:En->Rs D}{fb gb:En->Rs Bool}{ga:En->Rs (List D)}{u v:En->Ou}{d:D}
@[simp] def varD_ap:jD i Y=match Y[i]? with
 |some (.sh d)=>.ok d
 |some (.nw d)=>.ok d
 |some (.ow d)=>.ok d
 |some (.oz d)=>.ok d
 |some (.o2 l)=>.ok (.lst (l.map .lst))
 |_=>.st:=aR rfl
@[simp] def varS_ap:aD i Y=match Y[i]? with
 |some (.sh d)=>.ok d
 |some (.nw d)=>.ok d
 |_=>.st:=aR rfl
@[simp] def varN_ap:jC i Y=match Y[i]? with
 |some (.nw d)=>.ok d
 |_=>.st:=aR rfl
@[simp] def varO_ap:aBm i Y=match Y[i]? with
 |some (.ow d)=>.ok d
 |some (.o2 l)=>.ok (.lst (l.map .lst))
 |_=>.st:=aR rfl
@[simp] def aFW:cD d Y= .ok d:=aR rfl
@[simp] def bR:aF Y= .ok []:=aR rfl
@[simp] def aX:aA f ga Y=(f Y).bd λ d=>(ga Y).bd λ ds=>.ok (d::ds):=aR rfl
@[simp] def szl:zAS=16777216:=zCN
@[simp] def sU:dD ga Y=(ga Y).bd λ ds=>if ds.length<=16777216 then .ok (.tup ds)else .st:=by unfold dD;rw[szl]
@[simp] def aBS:eU ga Y=(ga Y).bd λ ds=>if ds.length<=16777216 then .ok (.lst ds)else .st:=by unfold eU;rw[szl]
@[simp] def lE:okD (.ok d)= .ok d:=aR rfl
@[simp] def cR:op2 fd f g Y=(f Y).bd λ x=>(g Y).bd λ y=>okD (fd x y):=aR rfl
@[simp] def aDl:op1 fd f Y=(f Y).bd λ x=>okD (fd x):=aR rfl
@[simp] def gq:opA fd ga Y=(ga Y).bd λ x=>okD (fd x):=aR rfl
@[simp] def eY:aM F ga Y=(ga Y).bd F:=aR rfl
def aNQ(d:D)(r:Rs D):Rs D:=match d with
 | .bl true=>r
 | .bl false=>.ok (.bl false)
 |_=>.st
def orR(d:D)(r:Rs D):Rs D:=match d with
 | .bl false=>r
 | .bl true=>.ok (.bl true)
 |_=>.st
@[simp] def aFY:aNQ (.bl b) r=if b=true then r else .ok (.bl false):=by cases b<;>rfl
@[simp] def orR_bl:orR (.bl b) r=if b=true then .ok (.bl true)else r:=by cases b<;>rfl
@[simp] def ww:uK f g Y=(f Y).bd λ d=>aNQ d (g Y):=aR rfl
@[simp] def orD_ap:orD f g Y=(f Y).bd λ d=>orR d (g Y):=aR rfl
@[simp] def notD_bl:aMe (.bl b)= .ok (.bl (!b)):=aR rfl
@[simp] def aBX:ifD fb f g Y=(fb Y).bd λ k=>if k=true then f Y else g Y:=aR rfl
def chR(d:D)(r:Rs D):Rs D:=match d with
 | .bl true=>r
 | .bl false=>.ok (.bl false)
 |_=>.st
@[simp] def chR_bl:chR (.bl b) r=if b=true then r else .ok (.bl false):=by cases b<;>rfl
@[simp] def chD_ap:chD fd fd' f g h Y=(f Y).bd λ x=>(g Y).bd λ y=>(okD (fd x y)).bd λ z=>chR z ((h Y).bd λ w=>okD (fd' y w)):=aR rfl
@[simp] def truD_bl:aL6 (.bl b)= .ok b:=aR rfl
@[simp] def blD_bl:blD (.bl b)= .ok b:=aR rfl
@[simp] def uQ:tst f Y=(f Y).bd aL6:=aR rfl
@[simp] def gm:tsb f Y=(f Y).bd blD:=aR rfl
@[simp] def ph:qG fb gb Y=(fb Y).bd λ k=>if k=true then gb Y else .ok false:=aR rfl
@[simp] def aDk:orT fb gb Y=(fb Y).bd λ k=>if k=true then .ok true else gb Y:=aR rfl
@[simp] def notT_ap:rM fb Y=(fb Y).bd λ k=>.ok (!k):=aR rfl
@[simp] def aO:ao u v Y=(u Y).sq v:=aR rfl
@[simp] def bf:retS f Y=(f Y).bo .rt:=aR rfl
@[simp] def aCq:aFS f Y=(f Y).bo λ _=>.nx Y:=aR rfl
@[simp] def dW:ifS fb u v Y=(fb Y).bo λ k=>if k=true then u Y else v Y:=aR rfl
@[simp] def jE:bU i f Y=(f Y).bo λ d=>.nx (Y.set i (.sh d)):=aR rfl
@[simp] def sY:pq i f Y=(f Y).bo λ d=>.nx (Y.set i (.nw d)):=aR rfl
@[simp] def setO_ap:oG i f Y=(f Y).bo λ d=>.nx (Y.set i (.ow d)):=aR rfl
@[simp] def aEL:gnm i d Y= .ok (Y.set i (.sh d)):=aR rfl
@[simp] def gnil_nil:tL [] Y= .ok Y:=aR rfl
@[simp] def gcons_cons:dO a b (d::ds) Y=(a d Y).bd (b ds):=aR rfl
@[simp] def gtup_tup:rR n b (.tup ds) Y=if ds.length=n then b ds Y else .st:=aR rfl
def nxO(r:Rs En):Ou:=match r with
 | .ok Y=>.nx Y
 |_=>.st
@[simp] def itD_tup:itD (.tup l)= .ok l:=aR rfl
@[simp] def itD_lst:itD (.lst l)= .ok l:=aR rfl
@[simp] def itrD_ap:cj f Y=(f Y).bd itD:=aR rfl
@[simp] def my:n8 ga a u Y=(ga Y).bo λ ds=>forL a u ds Y:=aR rfl
noncomputable def Ou.tn(o:Ou)(k:En->Ou):Ou:=match o with
 | .nx Y2=>k Y2
 | .ct Y2=>k Y2
 | .bk Y2=>.nx Y2
 |o=>o
@[simp] def tn_nx:(Ou.nx Y).tn k=k Y:=aR rfl
def okE(r:Rs En)(k:En->Ou):Ou:=match r with
 | .ok Y=>k Y
 |_=>.st
@[simp] def aBO:okE (.ok Y) k=k Y:=aR rfl
def ut:forL a u (d::ds) Y=okE (a d Y) λ Y1=>(u Y1).tn (forL a u ds):=by
 unfold forL;cases a d Y with
 |ok Y1=>simp only[aBO];cases u Y1<;>rfl
 |ex c=>rfl
 |st=>rfl
@[simp] def immD_ap:bT f Y=(f Y).bd zz:=aR rfl
@[simp] def rngA_ap:gJ r ga Y=(ga Y).bd r:=aR rfl
@[simp] def raiseS_ap:oO x ga Y=(ga Y).bo λ ds=>if ds.length<=16777216 then .ex x else .st:=by unfold oO;rw[szl]
@[simp] def yesT_ap:dZ Y= .ok true:=aR rfl
end
section
variable{d e:D}{i j:Int}{l m:List D}
def w6(h:imm d=true):zz d= .ok d:=by unfold zz;rw[if_pos h]
@[simp] def gImm_int:zz (.int i)= .ok (.int i):=aR rfl
@[simp] def addD_int:cG (.int i) (.int j)= .ok (.int (i+j)):=aR rfl
@[simp] def aI8:cG (.lst l) (.lst m)=if l.length+m.length<=16777216 then .ok (.lst (l++m))else .st:=by unfold cG;rw[szl]
@[simp] def subD_int:xM (.int i) (.int j)= .ok (.int (i-j)):=aR rfl
def aAc(h0:0<j)(h1:j<1073741824):yx (.int i) (.int j)= .ok (.int (i / j)):=by unfold yx i2;dsimp only;rw[if_pos (by simp[h0,h1])]
def j6(h0:0<j):oZ (.int i) (.int j)= .ok (.int (i%j)):=by unfold oZ i2;dsimp only;rw[if_pos (by simp[h0])]
def aBQ(h0: -(2^64)<i)(h1:i<2^64):lR (.int i) (.int j)= .ok (.int (i*j)):=by unfold lR;dsimp only;rw[if_pos (by simp only[zFY,zAW,decide_eq_true_eq];exact .inl ⟨h0,h1⟩)]
def aH6(h0: -(2^64)<j)(h1:j<2^64):lR (.int i) (.int j)= .ok (.int (i*j)):=by unfold lR;dsimp only;rw[if_pos (by simp only[zFY,zAW,decide_eq_true_eq];exact .inr ⟨h0,h1⟩)]
@[simp] def negD_int:zr (.int i)= .ok (.int (-i)):=aR rfl
@[simp] def aKB:ltD (.int i) (.int j)= .ok (.bl (decide (i<j))):=aR rfl
@[simp] def leD_int:leD (.int i) (.int j)= .ok (.bl (decide (i<=j))):=aR rfl
@[simp] def gtD_int:gtD (.int i) (.int j)= .ok (.bl (decide (j<i))):=aR rfl
@[simp] def geD_int:geD (.int i) (.int j)= .ok (.bl (decide (j<=i))):=aR rfl
def aKA(ns ms:List Int):ltD (.tup (ns.map .int)) (.tup (ms.map .int))= .ok (.bl (HT.lexLt ns ms)):=by
 unfold ltD ltT i2;simp only[jd]
@[simp] def lenD_tup:ul [.tup l]= .ok (.int l.length):=aR rfl
@[simp] def lenD_scr:ul [.scr x]= .ok (.int x.length):=aR rfl
@[simp] def gk:bM [.lst l]= .ok (.tup l):=aR rfl
@[simp] def mmD_int:mmD f [.int i,.int j]= .ok (.int (f i j)):=aR rfl
@[simp] def ixD_tup:ixD (.tup l) (.int i)=atD l i:=aR rfl
@[simp] def ixD_lst:ixD (.lst l) (.int i)=atD l i:=aR rfl
@[simp] def ixD_scr:ixD (.scr x) (.int i)=atD (x.map .int) i:=aR rfl
def jG{k:Nat}(h:l[k]? =some d):atD l (k:Int)= .ok d:=by
 have hk:=(zAO.mp h).1;unfold atD atI ixN;rw[if_pos (by omega),if_pos (by omega)];simp[h]
def aNP(h0:0<=i)(h1:i<l.length):∃d,atD l i= .ok d/\d∈l/\l[i.toNat]? =some d:=by
 have hk:i.toNat<l.length:=by omega
 have e:=zAJ hk;refine⟨_,?_,zEG hk,e⟩
 have:=jG e
 rwa [zB8 h0]at this
@[simp] def atD_0{r:List D}:atD (d::r) 0= .ok d:=jG (k:=0) rfl
@[simp] def atD_1{r:List D}:atD (d::e::r) 1= .ok e:=jG (k:=1) rfl
@[simp] def eqR_int:eqR n (.int i) (.int j)= .ok (.bl (if n then !(i==j)else i==j)):=aR rfl
def knd:D->Bool
 | .set _=>false
 | .scr _=>false
 | .fn _=>false
 | .itm _ _=>false
 |_=>true
def aBU(hT:T∈["bool","int","str","list","tuple","dict"])(h:knd d=true):jm T d= .ok (.bl (aKM (tyD d) T)):=by
 have ht:tyD d∈["NoneType","bool","int","str","list","tuple","dict"]:=by cases d<;>simp_all [tyD,knd]
 unfold jm o7;cases e:aKM (tyD d) T<;>simp[ht,hT]
def aMw:D->Bool
 | .int _=>true
 | .bl _=>true
 |_=>false
def aOV:D->Bool
 | .bl _=>true
 |_=>false
def rQ:D->Bool
 | .tup _=>true
 |_=>false
def aKL(h:knd d=true):jm "int" d= .ok (.bl (aMw d)):=by
 rw[aBU (by simp) h];cases d<;>first|rfl|(simp[knd]at h)
def aHn(h:knd d=true):jm "bool" d= .ok (.bl (aOV d)):=by
 rw[aBU (by simp) h];cases d<;>first|rfl|(simp[knd]at h)
def pU(h:knd d=true):jm "tuple" d= .ok (.bl (rQ d)):=by
 rw[aBU (by simp) h];cases d<;>first|rfl|(simp[knd]at h)
@[simp] def isi_tuple_tup:jm "tuple" (.tup l)= .ok (.bl true):=pU rfl
end
@[simp] def bB:dF n u ds=match u (aZ n ds)with
 | .nx _=>.ok .non
 | .rt d=>.ok d
 | .ex c=>.ex c
 |_=>.st:=aR rfl
def iQ(h0: -(2^62)<=j)(h1:j<2^62):gn [.int j]= .ok (cQ 0 j):=by unfold gn;dsimp only;rw[if_pos ⟨h0,h1⟩]
def aJP(h0: -(2^62)<=i)(h1:i<2^62)(h2: -(2^62)<=j)(h3:j<2^62):aGq [.int i,.int j]= .ok (cQ i j):=by unfold aGq;dsimp only;rw[if_pos ⟨⟨h0,h1⟩,h2,h3⟩]
def aCZ{lo hi:Int}:d∈cQ lo hi↔∃k:Int,d= .int k/\lo<=k/\k<hi:=by
 unfold cQ;rw[zAU];constructor
 .rintro⟨n,hn,rfl⟩
  have:=zB9.mp hn
  exact⟨lo+n,rfl,by omega,by omega⟩
 .rintro⟨k,rfl,h1,h2⟩
  exact⟨(k-lo).toNat,zB9.mpr (by omega),by congr 1;omega⟩
end VL
namespace VL.My
open PySem L2
def iH:En->Ou:=
  (retS (uK (op1 (jm "int") (aD 0)) (op1 aMe (op1 (jm "bool") (aD 0)))))
def ji:List D->Rs D:=dF 1 iH
def eX:En->Ou:=
  (ao (n8 (gJ aGq (aA (cD (.int 1)) (aA (opA ul (aA (aD 0) aF)) aF))) (gnm 1)
   (ifS (rM (tsb (op2 ltD (op2 ixD (aD 0) (op2 xM (aD 1) (cD (.int 1)))) (op2 ixD (aD 0) (aD 1)))))
    (retS (cD (.bl false)))
    Ou.nx))
  (retS (cD (.bl true))))
def dR:List D->Rs D:=dF 2 eX
def iC:En->Ou:=
  (retS (jb (aD 1) (lcD (cj (aD 0)) [none] (gnm 0) dZ (opA fB (aA (aD 0) aF)))))
def dB:List D->Rs D:=dF 2 iC
def dM:En->Ou:=
  (ao (bU 1 (dcZ (gJ gn (aA (op2 cG (cD (.int 60)) (cD (.int 1))) aF)) [none] (gnm 0) dZ (opA fB (aA (aD 0) aF)) (bT (aD 0))))
  (retS (opA bM (aA (lcD (cj (aD 0)) [none,some 1] (gnm 0) dZ (bT (aEP (aD 1) (aD 0)))) aF))))
def bK:List D->Rs D:=dF 2 dM
def cu:En->Ou:=
  (ao (ifS (tsb (op2 ltD (aD 1) (opA ul (aA (aD 0) aF))))
   (retS (bT (op2 ixD (aD 0) (aD 1))))
   Ou.nx)
  (retS (cD (.int 0))))
def fX:List D->Rs D:=dF 2 cu
def gB:En->Ou:=
  (ao (ifS (tsb (op2 geD (aD 0) (op2 aMD (cD (.int 10)) (cD (.int 18)))))
   (ao (bU 3 (aD 0))
   (ao (n8 (gJ gn (aA (aD 1) aF)) (gnm 4)
    (bU 3 (op2 yx (aD 3) (aD 2))))
   (retS (op2 oZ (aD 3) (aD 2)))))
   Ou.nx)
  (ao (bU 5 (op2 oZ (op2 lR (op2 cG (op2 cG (op2 oZ (aD 0) (cD (.int 1000000007))) (op2 lR (cD (.int 1009)) (aD 1))) (cD (.int 17))) (cD (.int 69621))) (cD (.int 2147483647))))
  (ao (bU 5 (op2 oZ (op2 cG (op2 cG (op2 lR (aD 5) (aD 5)) (op2 lR (cD (.int 40503)) (aD 1))) (cD (.int 5))) (cD (.int 2147483629))))
  (retS (op2 oZ (op2 yx (op2 oZ (op2 lR (aD 5) (cD (.int 48271))) (cD (.int 2147483647))) (cD (.int 32))) (aD 2))))))
def aU:List D->Rs D:=dF 6 gB
def pcX:En->Rs D:=op2 ixD (jD 7) (op1 zr (cD (.int 1)))
def pcW:En->Rs Bool:=tsb (op2 (aCr false) pcX (jC 2))
def pcB:En->Ou:=jo 7 (op2 wN (jC 2) pcX)
def pcF:En->Ou:=pq 5 (lcD (cj (aD 5)) [none,some 7] (gnm 0) (tsb (op2 (inR true) (aD 0) (aD 1))) (bT (aD 0)))
def pcL:En->Ou:=ifS (tsb (op2 (aAs true) (aD 6) (jC 2))) (ao (oG 7 (eU (aA (bT (aD 6)) aF))) (ao (qd pcW pcB) (ao (jo 3 (bT (opA bM (aA (jD 7) aF)))) pcF))) Ou.nx
def rcX:En->Rs D:=op2 ixD (jD 8) (op1 zr (cD (.int 1)))
def rcW:En->Rs Bool:=tsb (op2 (eqR true) (op2 wN (jC 2) rcX) (op2 ixD (jD 8) (cD (.int 0))))
def rcB:En->Ou:=jo 8 (op2 wN (jC 2) rcX)
def rcF:En->Ou:=pq 5 (lcD (cj (aD 5)) [none,some 8] (gnm 0) (tsb (op2 (inR true) (aD 0) (aD 1))) (bT (aD 0)))
def rcL:En->Ou:=ao (oG 8 (eU (aA (op2 ixD (jC 5) (cD (.int 0))) aF))) (ao (qd rcW rcB) (ao (jo 4 (bT (opA bM (aA (jD 8) aF)))) rcF))
def rcC:En->Rs Bool:=tsb (op2 (eqR true) (jC 5) (eU aF))
def fP:En->Ou:=ao (pq 2 (opA zQ (aA (aD 1) aF))) (ao (oG 3 (eU aF)) (ao (oG 4 (eU aF)) (ao (pq 5 (lrD (op2 ixD (aD 0) (cD (.int 0)))))
  (ao (n8 (gJ gn (aA (op2 ixD (aD 0) (cD (.int 0))) aF)) (gnm 6) pcL) (ao (qd rcC rcL)
  (retS (dD (aA (opA bM (aA (aBm 3) aF)) (aA (opA bM (aA (aBm 4) aF)) aF)))))))))
def gj:List D->Rs D:=dF 9 fP
def cT:En->Ou:=
  (retS (jb (cD (.str " ")) (op2 cG (eU (aA (op2 lw (opA fB (aA (op2 ixD (aD 0) (cD (.int 0))) aF)) (cD (.str ":"))) aF)) (lcD (cj (op2 ixD (aD 0) (cD (.int 1)))) [none,none,some 1] (rR 2 (dO (gnm 0) (dO (gnm 1) tL))) dZ (op2 lw (op2 lw (opA fB (aA (aD 0) aF)) (aD 2)) (opA fB (aA (aD 1) aF)))))))
def bL:List D->Rs D:=dF 2 cT
def bx:En->Ou:=
  (retS (ifD (tsb (op2 (eqR false) (aD 0) (dD aF))) (cD (.str "none")) (jb (cD (.str " ")) (lcD (cj (aD 0)) [none] (gnm 0) dZ (opA fB (aA (aD 0) aF))))))
def cA:List D->Rs D:=dF 1 bx
def jM:En->Ou:=
  (retS (uK (aM ji (aA (aD 0) aF)) (chD leD leD (cD (.int 0)) (aD 0) (cD (.int 60)))))
def mF:List D->Rs D:=dF 1 jM
def iI:En->Ou:=
  (retS (uK (aM ji (aA (aD 1) aF)) (chD leD ltD (cD (.int 0)) (aD 1) (aD 0))))
def dY:List D->Rs D:=dF 2 iI
def fL:En->Ou:=
  (retS (op2 lw (op1 (aGH ":") (aD 0)) (jb (cD (.str "")) (lcD (cj (aD 1)) [none,some 2] (gnm 0) dZ (op2 lw (cD (.str " ")) (aM dB (aA (aD 0) (aA (aD 1) aF))))))))
def dX:List D->Rs D:=dF 3 fL
def gF:En->Ou:=
  (retS (ifD (tst (aD 0)) (jb (cD (.str " ")) (lcD (cj (aD 0)) [none,some 1] (gnm 0) dZ (aM dB (aA (aD 0) (aA (aD 1) aF))))) (cD (.str "none"))))
def eZ:List D->Rs D:=dF 2 gF
def dz:En->Ou:=
  (retS (ifD (tst (aD 0)) (aM dB (aA (aD 0) (aA (cD (.str " ")) aF))) (cD (.str "none"))))
def iT:List D->Rs D:=dF 1 dz
def fM:En->Ou:=
  (ao (bU 2 (xP (aD 0) (cD (.str " "))))
  (ao (pq 3 (lcD (cj (aAx (aD 2) (vQ (cD (.int 1))) vR)) [none,some 1] (gnm 0) dZ (xP (aD 0) (aD 1))))
  (retS (dD (aA (op2 ixD (aM bK (aA (eU (aA (uR (op2 ixD (aD 2) (cD (.int 0))) vR (vQ (op1 zr (cD (.int 1))))) aF)) aF)) (cD (.int 0))) (aA (opA bM (aA (lcD (cj (aD 3)) [none] (gnm 0) dZ (aM bK (aA (aD 0) aF))) aF)) aF))))))
def cH:List D->Rs D:=dF 4 fM
def iG:En->Ou:=
  (ao (oG 2 (eU aF))
  (ao (n8 (gJ gn (aA (aD 1) aF)) (gnm 3)
   (aHp 2 (aM aU (aA (aD 0) (aA (op2 cG (cD (.int 100)) (aD 3)) (aA (op2 cG (aD 3) (cD (.int 1))) aF)))) (bT (aD 3))))
  (retS (aBm 2))))
def gD:List D->Rs D:=dF 4 iG
def fO:En->Ou:=
  (ao (bU 3 (op2 cG (cD (.int 1)) (aM aU (aA (aD 0) (aA (aD 1) (aA (cD (.int 4)) aF))))))
  (retS (opA bM (aA (lcD (gJ gn (aA (aD 2) aF)) [none,some 0,some 1,some 3] (gnm 0) (tsb (op2 ltD (aM aU (aA (aD 1) (aA (op2 cG (op2 cG (aD 2) (cD (.int 1))) (aD 0)) (aA (cD (.int 5)) aF)))) (aD 3))) (bT (aD 0))) aF))))
def gh:List D->Rs D:=dF 4 fO
def dpC:En->Rs D:=lcD (cj (aD 2)) [none,some 4] (gnm 0) (orT (tsb (op2 (eqR false) (op2 ixD (aD 0) (cD (.int 0))) (op2 ixD (aD 1) (cD (.int 0))))) (tsb (op2 (eqR false) (op2 ixD (aD 0) (cD (.int 1))) (op2 ixD (aD 1) (cD (.int 1)))))) (bT (aD 0))
def dpL:En->Ou:=ifS (tsb (op2 gtD (aM aU (aA (aD 0) (aA (op2 cG (cD (.int 60)) (op2 oZ (aD 3) (cD (.int 40)))) (aA (cD (.int 3)) aF)))) (cD (.int 0))))
    (ifS (tsb (op2 (eqR false) dpC (eU aF)))
     (jo 2 (bT (aD 4)))
     Ou.nx)
    Ou.nx
def bz:En->Ou:=ao (oG 2 (eU aF))
  (ao (n8 (gJ aKb (aA (op2 ixD (aD 1) (cD (.int 1))) aF)) (rR 2 (dO (gnm 3) (dO (gnm 4) tL))) dpL)
  (retS (opA bM (aA (aBm 2) aF))))
def cB:List D->Rs D:=dF 5 bz
def ipE:En->Ou:=ifS (orT (rM (tst (op1 (jm "tuple") (aD 1)))) (tsb (op2 (eqR true) (opA ul (aA (aD 1) aF)) (cD (.int 2))))) (retS (cD (.bl false))) Ou.nx
def jL:En->Ou:=ao ipE (retS (uK (aM dY (aA (aD 0) (aA (op2 ixD (aD 1) (cD (.int 0))) aF))) (uK (aM dY (aA (aD 0) (aA (op2 ixD (aD 1) (cD (.int 1))) aF))) (op2 (eqR true) (op2 ixD (aD 1) (cD (.int 0))) (op2 ixD (aD 1) (cD (.int 1)))))))
def mD:List D->Rs D:=dF 2 jL
def cX:En->Ou:=
  (ao (ifS (rM (tst (op1 (jm "tuple") (aD 1))))
   (retS (cD (.bl false)))
   Ou.nx)
  (ao (n8 (cj (aD 1)) (gnm 2)
   (ifS (rM (tst (aM dY (aA (aD 0) (aA (aD 2) aF)))))
    (retS (cD (.bl false)))
    Ou.nx))
  (retS (aM dR (aA (aD 1) aF)))))
def cZ:List D->Rs D:=dF 3 cX
def dH:En->Ou:=
  (retS (aM eZ (aA (aD 0) (aA (cD (.str "-")) aF))))
def g8:List D->Rs D:=dF 1 dH
def iD:En->Ou:=
  (retS (aM eZ (aA (aD 0) (aA (cD (.str ">")) aF))))
def gC:List D->Rs D:=dF 1 iD
def wA:En->Ou:=ifS (tsb (op2 (inR false) (aD 3) (dD (aA (cD (.int 5)) (aA (cD (.int 6)) aF)))))
     (bU 10 (orD (op2 (eqR false) (aD 8) (op2 cG (aD 9) (cD (.int 1)))) (uK (op2 (eqR false) (aD 3) (cD (.int 6))) (op2 (eqR false) (dD (aA (aD 9) (aA (aD 8) aF))) (dD (aA (cD (.int 0)) (aA (op2 xM (aD 2) (cD (.int 1))) aF)))))))
     Ou.nx
def wB:En->Ou:=ifS (tsb (op2 (eqR false) (aD 3) (cD (.int 7))))
     (bU 10 (op2 (eqR false) (aD 9) (cD (.int 0))))
     Ou.nx
def wC:En->Ou:=ifS (tsb (op2 (eqR false) (aD 3) (cD (.int 8))))
     (bU 10 (uK (aD 10) (op2 (eqR false) (op2 oZ (op2 cG (aD 9) (aD 8)) (cD (.int 2))) (cD (.int 1)))))
     Ou.nx
def wD:En->Ou:=ifS (tst (aD 10))
     (jo 6 (dD (aA (opA (mmD λ i j=>if j<i then j else i) (aA (op2 ixD (aD 5) (aD 9)) (aA (op2 ixD (aD 5) (aD 8)) aF))) (aA (opA (mmD λ i j=>if j>i then j else i) (aA (op2 ixD (aD 5) (aD 9)) (aA (op2 ixD (aD 5) (aD 8)) aF))) aF))))
     Ou.nx
def wIn:En->Ou:=ao (bU 7 (op2 cG (aD 7) (cD (.int 1)))) (ao (bU 10 (op2 ltD (aM aU (aA (aD 0) (aA (aD 7) (aA (cD (.int 8)) aF)))) (jC 4))) (ao wA (ao wB (ao wC wD))))
def aIp:En->Ou:=n8 (gJ gn (aA (aD 8) aF)) (gnm 9) wIn
def jK:En->Ou:=ao (bU 2 (aM aU (aA (aD 0) (aA (cD (.int 0)) (aA (op2 cG (aD 1) (cD (.int 1))) aF)))))
  (ao (bU 3 (aM aU (aA (aD 0) (aA (cD (.int 1)) (aA (cD (.int 9)) aF)))))
  (ao (pq 4 (op2 ixD (eU (aA (cD (.int 1)) (aA (cD (.int 2)) (aA (cD (.int 3)) (aA (cD (.int 5)) (aA (cD (.int 7)) (aA (cD (.int 0)) (aA (cD (.int 0)) (aA (cD (.int 0)) (aA (cD (.int 4)) aF)))))))))) (aD 3)))
  (ao (bU 5 (aM gD (aA (aD 0) (aA (aD 2) aF))))
  (ao (oG 6 (eU aF))
  (ao (bU 7 (cD (.int 2)))
  (ao (n8 (gJ gn (aA (aD 2) aF)) (gnm 8) aIp)
  (retS (dD (aA (bT (aD 2)) (aA (opA bM (aA (opA cJ (aA (jD 6) aF)) aF)) aF))))))))))
def mC:List D->Rs D:=dF 11 jK
def aJh:En->Ou:=ifS (orT (tsb (op2 ltD (aD 10) (jC 4))) (qG (tsb (op2 (eqR false) (aD 3) (cD (.int 6)))) (tsb (op2 (eqR false) (aD 8) (op2 cG (aD 9) (cD (.int 1)))))))
     (jo 6 (dD (aA (bT (op2 ixD (aD 5) (aD 9))) (aA (bT (op2 ixD (aD 5) (aD 8))) aF))))
     Ou.nx
def aJg:En->Ou:=ifS (orT (qG (tsb (op2 gtD (aD 3) (cD (.int 2)))) (qG (tsb (op2 (eqR true) (aD 3) (cD (.int 7)))) (tsb (op2 ltD (aM aU (aA (aD 0) (aA (op2 cG (aD 7) (cD (.int 50))) (aA (cD (.int 8)) aF)))) (op2 xM (jC 4) (cD (.int 1))))))) (qG (tsb (op2 (eqR false) (aD 3) (cD (.int 7)))) (tsb (op2 ltD (aD 10) (cD (.int 3))))))
     (jo 6 (dD (aA (bT (op2 ixD (aD 5) (aD 8))) (aA (bT (op2 ixD (aD 5) (aD 9))) aF))))
     Ou.nx
def aHZ:En->Ou:=ao (bU 7 (op2 cG (aD 7) (cD (.int 1)))) (ao (bU 10 (aM aU (aA (aD 0) (aA (aD 7) (aA (cD (.int 8)) aF))))) (ao aJh aJg))
def aEw:En->Ou:=n8 (gJ gn (aA (aD 8) aF)) (gnm 9) aHZ
def aEx:En->Ou:=ifS (qG (tsb (op2 (eqR false) (aD 3) (cD (.int 6)))) (tsb (op2 gtD (aD 2) (cD (.int 1)))))
   (jo 6 (dD (aA (bT (op2 ixD (aD 5) (op2 xM (aD 2) (cD (.int 1))))) (aA (bT (op2 ixD (aD 5) (cD (.int 0)))) aF))))
   Ou.nx
def eG:En->Ou:=ao (bU 2 (aM aU (aA (aD 0) (aA (cD (.int 0)) (aA (op2 cG (aD 1) (cD (.int 1))) aF)))))
  (ao (bU 3 (aM aU (aA (aD 0) (aA (cD (.int 1)) (aA (cD (.int 8)) aF)))))
  (ao (pq 4 (op2 ixD (eU (aA (cD (.int 1)) (aA (cD (.int 2)) (aA (cD (.int 4)) (aA (cD (.int 2)) (aA (cD (.int 3)) (aA (cD (.int 6)) (aA (cD (.int 1)) (aA (cD (.int 3)) aF))))))))) (aD 3)))
  (ao (bU 5 (aM gD (aA (aD 0) (aA (aD 2) aF))))
  (ao (oG 6 (eU aF))
  (ao (bU 7 (cD (.int 2)))
  (ao (n8 (gJ gn (aA (aD 2) aF)) (gnm 8) aEw)
  (ao aEx
  (retS (dD (aA (bT (aD 2)) (aA (opA bM (aA (opA cJ (aA (jD 6) aF)) aF)) aF)))))))))))
def fW:List D->Rs D:=dF 11 eG
def bC:En->Ou:=
  (ao (ifS (rM (tst (op1 (jm "tuple") (aD 1))))
   (retS (cD (.bl false)))
   Ou.nx)
  (ao (n8 (cj (aD 1)) (gnm 2)
   (ifS (rM (tst (aM mD (aA (aD 0) (aA (aD 2) aF)))))
    (retS (cD (.bl false)))
    Ou.nx))
  (retS (aM dR (aA (aD 1) aF)))))
def bD:List D->Rs D:=dF 3 bC
def eF:En->Ou:=
  (ao (ifS (tst (op1 (jm "str") (aD 0)))
   (ao (bU 1 (ifD (tsb (op2 (eqR false) (aD 0) (cD (.str "none")))) (dD aF) (aM bK (aA (xP (aD 0) (cD (.str " "))) aF))))
   (ifS (tst (aM cZ (aA (cD (.int 60)) (aA (aD 1) aF))))
    (retS (bT (aD 1)))
    Ou.nx))
   Ou.nx)
  (oO "NoText" (aA (cD (.str "no places are written so")) aF)))
def dC:List D->Rs D:=dF 2 eF
def iJ:En->Ou:=
  (retS (uK (aM bD (aA (aD 0) (aA (aD 1) aF))) (opA (aBe λ bs=>bs.all id) (aA (lcD (cj (aD 1)) [none,none] (rR 2 (dO (gnm 0) (dO (gnm 1) tL))) dZ (op2 ltD (aD 0) (aD 1))) aF))))
def nO:List D->Rs D:=dF 2 iJ
def fQ:En->Ou:=
  (ao (ifS (orT (rM (tst (op1 (jm "tuple") (aD 0)))) (tsb (op2 (eqR true) (opA ul (aA (aD 0) aF)) (cD (.int 2)))))
   (retS (cD (.bl false)))
   Ou.nx)
  (retS (uK (aM mF (aA (op2 ixD (aD 0) (cD (.int 0))) aF)) (aM bD (aA (op2 ixD (aD 0) (cD (.int 0))) (aA (op2 ixD (aD 0) (cD (.int 1))) aF))))))
def cY:List D->Rs D:=dF 1 fQ
def lq:En->Ou:=
  (ao (ifS (orT (rM (tst (op1 (jm "tuple") (aD 0)))) (tsb (op2 (eqR true) (opA ul (aA (aD 0) aF)) (cD (.int 2)))))
   (retS (cD (.bl false)))
   Ou.nx)
  (retS (uK (aM mF (aA (op2 ixD (aD 0) (cD (.int 0))) aF)) (aM nO (aA (op2 ixD (aD 0) (cD (.int 0))) (aA (op2 ixD (aD 0) (cD (.int 1))) aF))))))
def iW:List D->Rs D:=dF 1 lq
def cU:En->Ou:=
  (ifS (rM (tst (aM cY (aA (aD 0) aF))))
   (oO "NoOneWay" (aA (cD (.str "this is no one-way web")) aF))
   Ou.nx)
def du:List D->Rs D:=dF 1 cU
def gG:En->Ou:=
  (ifS (rM (tst (aM iW (aA (aD 0) aF))))
   (oO "NoWeb" (aA (cD (.str "this is no web")) aF))
   Ou.nx)
def iY:List D->Rs D:=dF 1 gG
def dI:En->Ou:=
  (ao (aFS (aM du (aA (aD 0) aF)))
  (retS (aM dX (aA (op2 ixD (aD 0) (cD (.int 0))) (aA (op2 ixD (aD 0) (cD (.int 1))) (aA (cD (.str ">")) aF))))))
def bj:List D->Rs D:=dF 1 dI
def gw:En->Ou:=
  (ao (aFS (aM iY (aA (aD 0) aF)))
  (retS (aM dX (aA (op2 ixD (aD 0) (cD (.int 0))) (aA (op2 ixD (aD 0) (cD (.int 1))) (aA (cD (.str "-")) aF))))))
def cL:List D->Rs D:=dF 1 gw
def dJ:En->Ou:=
  (ao (ifS (tst (op1 (jm "str") (aD 0)))
   (ao (bU 1 (aM cH (aA (aD 0) (aA (cD (.str ">")) aF))))
   (ifS (qG (tst (aM cY (aA (aD 1) aF))) (tsb (op2 (eqR false) (aM bj (aA (aD 1) aF)) (aD 0))))
    (retS (bT (aD 1)))
    Ou.nx))
   Ou.nx)
  (oO "NoText" (aA (cD (.str "no one-way web is written so")) aF)))
def gf:List D->Rs D:=dF 2 dJ
def iB:En->Ou:=
  (ao (ifS (tst (op1 (jm "str") (aD 0)))
   (ao (bU 1 (aM cH (aA (aD 0) (aA (cD (.str "-")) aF))))
   (ifS (qG (tst (aM iW (aA (aD 1) aF))) (tsb (op2 (eqR false) (aM cL (aA (aD 1) aF)) (aD 0))))
    (retS (bT (aD 1)))
    Ou.nx))
   Ou.nx)
  (oO "NoText" (aA (cD (.str "no web is written so")) aF)))
def nM:List D->Rs D:=dF 2 iB
def lwR:En->Rs (List D):=(gJ gn (aA (opA (mmD λ i j=>if j>i then j else i) (aA (cD (.int 1)) (aA (opA (mmD λ i j=>if j<i then j else i) (aA (opA ul (aA (aD 0) aF)) (aA (cD (.int 10)) aF))) aF))) aF))
def lFc:En->Rs Bool:=(tsb (op2 (eqR false) (aM aU (aA (aD 2) (aA (cD (.int 95)) (aA (cD (.int 3)) aF)))) (cD (.int 0))))
def lF1:En->Ou:=(bU 3 (dD (aA (cD (.int 60)) (aA (opA bM (aA (lcD (cj (op2 ixD (aD 3) (cD (.int 1)))) [none,none,some 5] (rR 2 (dO (gnm 0) (dO (gnm 1) tL))) (tsb (op2 gtD (aD 1) (cD (.int 2)))) (dD (aA (op2 cG (bT (aD 0)) (op2 lR (bT (aD 2)) (opA o9 (aA (op2 gtD (aD 0) (cD (.int 2))) aF)))) (aA (op2 cG (bT (aD 1)) (bT (aD 2))) aF)))) aF)) aF))))
def lF2:En->Ou:=(bU 3 (dD (aA (cD (.int 60)) (aA (opA bM (aA (opA mO (aA (op2 ixD (aD 3) (cD (.int 1))) aF)) aF)) aF))))
def lFs:En->Ou:=ao (bU 5 (op2 xM (cD (.int 60)) (op2 ixD (aD 3) (cD (.int 0))))) (ao lF1 lF2)
def lQ0:En->Ou:=(bU 2 (aM fX (aA (aD 0) (aA (aD 1) aF))))
def lQ1:En->Ou:=(bU 3 (aM mC (aA (aD 2) (aA (cD (.int 9)) aF))))
def lQ2:En->Ou:=(bU 4 (aM fW (aA (aD 2) (aA (cD (.int 8)) aF))))
def lQ3:En->Ou:=ifS lFc lFs Ou.nx
def lQ4:En->Ou:=(bU 6 (aM gh (aA (aD 2) (aA (cD (.int 30)) (aA (op2 ixD (aD 3) (cD (.int 0))) aF)))))
def lQ5:En->Ou:=(bU 7 (op2 ixD (aM gj (aA (aD 4) (aA (aM cB (aA (aD 2) (aA (aD 4) aF))) aF))) (cD (.int 0))))
def lQ6:En->Ou:=(ifS (orT (tsb (op2 (eqR true) (aM cL (aA (aD 3) aF)) (aM bL (aA (aD 3) (aA (cD (.str "-")) aF))))) (tsb (op2 (eqR true) (aM bj (aA (aD 4) aF)) (aM bL (aA (aD 4) (aA (cD (.str ">")) aF)))))) (retS (cD (.bl false))) Ou.nx)
def lQ7:En->Ou:=(ifS (orT (tsb (op2 (eqR true) (aM iT (aA (aD 6) aF)) (aM cA (aA (aD 6) aF)))) (tsb (op2 (eqR true) (aM dC (aA (aM cA (aA (aD 6) aF)) aF)) (aD 6)))) (retS (cD (.bl false))) Ou.nx)
def lQ8:En->Ou:=(ifS (orT (tsb (op2 (eqR true) (aM nM (aA (aM bL (aA (aD 3) (aA (cD (.str "-")) aF))) aF)) (aD 3))) (tsb (op2 (eqR true) (aM gf (aA (aM bL (aA (aD 4) (aA (cD (.str ">")) aF))) aF)) (aD 4)))) (retS (cD (.bl false))) Ou.nx)
def lQ9:En->Ou:=(pq 8 (op2 ixD (eU (aA (cD (.str "none")) (aA (jb (cD (.str " ")) (lcD (cj (aD 7)) [none] (gnm 0) dZ (jb (cD (.str "-")) (lcD (cj (aD 0)) [none] (gnm 0) dZ (opA fB (aA (aD 0) aF)))))) aF))) (opA o9 (aA (op2 (eqR true) (aD 7) (dD aF)) aF))))
def aOR:En->Ou:=(ifS (orT (tsb (op2 (eqR true) (aM g8 (aA (aD 7) aF)) (jC 8))) (tsb (op2 (eqR true) (aM gC (aA (aD 7) aF)) (aJN "-" ">" (jC 8))))) (retS (cD (.bl false))) Ou.nx)
def lwK:En->Ou:=ao lQ0 (ao lQ1 (ao lQ2 (ao lQ3 (ao lQ4 (ao lQ5 (ao lQ6 (ao lQ7 (ao lQ8 (ao lQ9 (aOR))))))))))
def lwZ:En->Rs D:=(uK (op2 (eqR false) (aM cL (aA (dD (aA (cD (.int 0)) (aA (dD aF) aF))) aF)) (cD (.str "0:"))) (uK (op2 (eqR false) (aM gC (aA (dD aF) aF)) (cD (.str "none"))) (op2 (eqR false) (aM dC (aA (cD (.str "59")) aF)) (dD (aA (cD (.int 59)) aF)))))
def v9:En->Ou:=ao (n8 lwR (gnm 1) lwK) (retS lwZ)
def aIe:List D->Rs D:=dF 9 v9
theorem aAj(hb:0<b)(hb2:b<1073741824):∀(ds:List D) (x:Int) (s:Slot),(∀d∈ds,∃n:Int,d= .int n)->
  ∃y s',forL (gnm 4) (bU 3 (op2 yx (aD 3) (aD 2))) ds [.sh (.int c),.sh (.int k),.sh (.int b),.sh (.int x),s,.no]= .nx [.sh (.int c),.sh (.int k),.sh (.int b),.sh (.int y),s',.no]
 |[],x,s,_=>⟨x,s,rfl⟩
 |d::ds,x,s,h=>by
  have ih:=aAj hb hb2 (c:=c) (k:=k) ds (x / b) (.sh d) λ e he=>h e (zAI _ he)
  rw[ut];simp[aAc hb hb2];exact ih
def pY(hk0:0<=k)(hk1:k<2^40)(hb:0<b)(hb2:b<1073741824):∃r:Int,aU [.int c,.int k,.int b]= .ok (.int r)/\0<=r/\r<b:=by
 have hp:aMD (.int 10) (.int 18)= .ok (.int 1000000000000000000):=rfl;by_cases hc:(1000000000000000000:Int)<=c
 .have hr:=iQ (j:=k) (by lia) (by lia)
  obtain⟨y,s',e⟩:=aAj hb hb2 (c:=c) (k:=k) (cQ 0 k) c .no λ d hd=>let⟨n,e,_⟩:=aCZ.mp hd;⟨n,e⟩
  refine⟨y%b,?_,zDZ _ (by lia),zCm _ hb⟩;simp[aU,gB,aZ,hp,hc,hr,e,j6 hb]
 .have s1:∀z:Int,0<=z%2147483647/\z%2147483647<2147483647:=λ z=>⟨zDZ _ (by decide),zCm _ (by decide)⟩
  have s2:∀z:Int,0<=z%2147483629/\z%2147483629<2147483629:=λ z=>⟨zDZ _ (by decide),zCm _ (by decide)⟩
  have m1:∀z,lR (.int 1009) (.int z)= .ok (.int (1009*z)):=λ z=>aBQ (by decide) (by decide)
  have m2:∀z,lR (.int z) (.int 69621)= .ok (.int (z*69621)):=λ z=>aH6 (by decide) (by decide)
  have m3:∀z,lR (.int 40503) (.int z)= .ok (.int (40503*z)):=λ z=>aBQ (by decide) (by decide)
  have m4:∀z,lR (.int z) (.int 48271)= .ok (.int (z*48271)):=λ z=>aH6 (by decide) (by decide)
  have m5:∀z:Int,lR (.int (z%2147483647)) (.int (z%2147483647))= .ok (.int (z%2147483647*(z%2147483647))):=λ z=>aBQ (by have:=s1 z;lia) (by have:=s1 z;lia)
  have d1:∀z,oZ (.int z) (.int 1000000007)= .ok (.int (z%1000000007)):=λ z=>j6 (by decide)
  have d2:∀z,oZ (.int z) (.int 2147483647)= .ok (.int (z%2147483647)):=λ z=>j6 (by decide)
  have d3:∀z,oZ (.int z) (.int 2147483629)= .ok (.int (z%2147483629)):=λ z=>j6 (by decide)
  have d4:∀z,yx (.int z) (.int 32)= .ok (.int (z / 32)):=λ z=>aAc (by decide) (by decide)
  have d5:∀z,oZ (.int z) (.int b)= .ok (.int (z%b)):=λ z=>j6 hb
  simp[aU,gB,aZ,hp,hc,m1,m2,m3,m4,m5,d1,d2,d3,d4,d5,-Int.emod_emod_of_dvd];exact⟨zDZ _ (by lia),zCm _ hb⟩
def nH(hk0:0<=k)(hk1:k<2^40)(hb:0<b)(hb2:b<1073741824):∃r:Nat,aU [.int c,.int k,.int b]= .ok (.int r)/\(r:Int)<b:=by
 obtain⟨r,e,h0,h1⟩:=pY (c:=c) hk0 hk1 hb hb2;exact⟨r.toNat,by rw[zB8 h0];exact e,by lia⟩
def aKj(h:0<=k):∃c:Int,fX [.scr ns,.int k]= .ok (.int c):=by
 by_cases hk:k<ns.length
 .obtain⟨d,e,hm,_⟩:=aNP (l:=ns.map .int) (i:=k) h (by simpa using hk)
  obtain⟨c,_,rfl⟩:=zAU.mp hm;exact⟨c,by simp[fX,cu,aZ,hk,e]⟩
 .exact⟨0,by simp[fX,cu,aZ,hk]⟩
mutual
def pln:D->Bool
 | .tup l=>vz l
 | .lst l=>vz l
 | .set _=>false
 | .scr _=>false
 | .fn _=>false
 | .itm _ _=>false
 |_=>true
def vz:List D->Bool
 |[]=>true
 |d::r=>pln d&&vz r
end
def pN(h:pln d=true):knd d=true:=by cases d<;>first|rfl|(simp[pln]at h)
theorem yF:∀{l:List D} {d:D},vz l=true->d∈l->pln d=true
 |x::r,d,h,hm=>by
  simp only[vz,zAW]at h;rcases zAQ.mp hm with rfl|hm
  .exact h.1
  .exact yF h.2 hm
theorem aEs:∀{l:List D},(∀d∈l,pln d=true)->vz l=true
 |[],_=>rfl
 |x::r,h=>by
  simp only[vz,zAW];exact⟨h x (zAH ..),aEs λ d hd=>h d (zAI _ hd)⟩
def aDN:D->Bool
 | .int _=>true
 |_=>false
def aAZ:D->Bool
 | .int i=>decide (0<=i)&&decide (i<=60)
 |_=>false
def dG(m:Int):D->Bool
 | .int i=>decide (0<=i)&&decide (i<m)
 |_=>false
def vV(h:knd d=true):ji [d]= .ok (.bl (aDN d)):=by
 simp[ji,iH,aZ,aKL h,aHn h];cases d<;>rfl
def yg(h:knd d=true):mF [d]= .ok (.bl (aAZ d)):=by
 simp[mF,jM,aZ,vV h];cases d<;>simp[aDN,aAZ]
 rename_i i;by_cases h0:0<=i<;>simp[h0]
def o8(h:knd d=true):dY [.int m,d]= .ok (.bl (dG m d)):=by
 simp[dY,iI,aZ,vV h];cases d<;>simp[aDN,dG]
 rename_i i;by_cases h0:0<=i<;>simp[h0]
def jZ(m:Int):D->Bool
 | .tup [.int a,.int b]=>decide (0<=a)&&decide (a<m)&&decide (0<=b)&&decide (b<m)&& !(a==b)
 |_=>false
def uf(h:dG m d=true):∃i:Int,d= .int i/\0<=i/\i<m:=by
 cases d with
 |int i=>simp[dG]at h;exact⟨i,rfl,h.1,h.2⟩
 |_=>simp[dG]at h
def aG3(h:rQ d=true):∃l,d= .tup l:=by cases d<;>first|exact⟨_,rfl⟩|(cases h)
def aL4(h:l.length=2):∃x y,l=[x,y]:=by
 match l,h with
 |[x,y],_=>exact⟨x,y,rfl⟩
def aHX(h:rQ d=false):jZ m d=false:=by cases d<;>first|rfl|(cases h)
def aFr(h:l.length≠2):jZ m (.tup l)=false:=by
 match l,h with
 |[],_=>rfl
 |[x],_=>cases x<;>rfl
 |[x,y],h=>exact absurd rfl h
 |x::y::z::r,_=>cases x<;>first|rfl|(cases y<;>rfl)
def aJf(h:dG m x=false):jZ m (.tup [x,y])=false:=by
 cases x with
 |int i=>
  cases y with
  |int j=>
   show((((decide (0<=i)&&decide (i<m))&&decide (0<=j))&&decide (j<m))&& !(i==j))=false
   rw[show(decide (0<=i)&&decide (i<m))=false from h];rfl
  |_=>rfl
 |_=>rfl
def aJe(h:dG m y=false):jZ m (.tup [.int i,y])=false:=by
 cases y with
 |int j=>
  show((((decide (0<=i)&&decide (i<m))&&decide (0<=j))&&decide (j<m))&& !(i==j))=false
  rw[zFj (decide (0<=i)&&decide (i<m)),show(decide (0<=j)&&decide (j<m))=false from h,zFk];rfl
 |_=>rfl
def aHW(h1:dG m (.int i)=true)(h2:dG m (.int j)=true):jZ m (.tup [.int i,.int j])= !(i==j):=by
 show((((decide (0<=i)&&decide (i<m))&&decide (0<=j))&&decide (j<m))&& !(i==j))= !(i==j)
 rw[zFj (decide (0<=i)&&decide (i<m)),show(decide (0<=j)&&decide (j<m))=true from h2,show(decide (0<=i)&&decide (i<m))=true from h1];rfl
def aMy(hk:knd d=true)(h:rQ d=false):ipE [s,.sh d]= .rt (.bl false):=by simp[ipE,pU hk,h]
def aKO(h:l.length≠2):ipE [s,.sh (.tup l)]= .rt (.bl false):=by
 have:¬((l.length:Int)=2):=by omega
 simp[ipE,this]
def aKN:ipE [s,.sh (.tup [x,y])]= .nx [s,.sh (.tup [x,y])]:=by simp[ipE]
def aEG(h:pln d=true):mD [.int m,d]= .ok (.bl (jZ m d)):=by
 have st:aZ 2 [.int m,d]=[.sh (.int m),.sh d]:=rfl;simp only[mD,jL,bB,st];cases ht:rQ d with
 |false=>rw[aO,aMy (pN h) ht,aHX ht];rfl
 |true=>
  obtain⟨l,rfl⟩:=aG3 ht;by_cases hl:l.length=2
  .obtain⟨x,y,rfl⟩:=aL4 hl
   simp only[pln,vz,zAW]at h;have hx:=o8 (m:=m) (pN h.1);have hy:=o8 (m:=m) (pN h.2.1);have ex:aM dY (aA (aD 0) (aA (op2 ixD (aD 1) (cD (.int 0))) aF)) [.sh (.int m),.sh (.tup [x,y])]= .ok (.bl (dG m x)):=by simp[hx]
   have ey:aM dY (aA (aD 0) (aA (op2 ixD (aD 1) (cD (.int 1))) aF)) [.sh (.int m),.sh (.tup [x,y])]= .ok (.bl (dG m y)):=by simp[hy]
   rw[aO,aKN,aj,bf,ww,ex,aK,aFY,ww,ey,aK,aFY];cases c1:dG m x with
   |false=>rw[aJf c1];rfl
   |true=>
    obtain⟨i,rfl,_,_⟩:=uf c1;cases c2:dG m y with
    |false=>rw[aJe c2];rfl
    |true=>
     obtain⟨j,rfl,_,_⟩:=uf c2;rw[aHW c1 c2];rfl
  .rw[aO,aKO hl,aFr hl];rfl
def pD(p:Int×Int):D:=.tup [.int p.1,.int p.2]
def ltP(p q:Int×Int):Bool:=HT.lexLt [p.1,p.2] [q.1,q.2]
def ud:gX->Bool
 |[]=>true
 |[_]=>true
 |p::q::r=>ltP p q&&ud (q::r)
def aMk(p q:Int×Int):ltD (pD p) (pD q)= .ok (.bl (ltP p q)):=aKA [p.1,p.2] [q.1,q.2]
theorem pX:∀(ds:List D) (ok:Nat->Bool) (I:En->Prop) (Y:En),I Y->(∀(i:Nat) d Y,ds[i]? =some d->I Y->okE (a d Y) u= .rt r/\ok i=false\/∃Y',okE (a d Y) u= .nx Y'/\I Y'/\ok i=true)->
  (forL a u ds Y= .rt r/\∃i,i<ds.length/\ok i=false)\/(∃Y',forL a u ds Y= .nx Y'/\I Y'/\∀i,i<ds.length->ok i=true)
 |[],ok,I,Y,h,_=>.inr ⟨Y,rfl,h,λ i hi=>absurd hi (zIK _)⟩
 |d::ds,ok,I,Y,h,hs=>by
  rw[ut];rcases hs 0 d Y rfl h with ⟨e,o⟩|⟨Y',e,h',o⟩
  .left
   refine⟨?_,0,by simp,o⟩;cases ea:a d Y with
   |ok Y1=>rw[ea]at e;simp at e ⊢;rw[e];rfl
   |ex c=>rw[ea]at e;cases e
   |st=>rw[ea]at e;cases e
  .have ih:=pX ds (λ i=>ok (i+1)) I Y' h' λ i d2 Y2 e2 h2=>hs (i+1) d2 Y2 (by simpa using e2) h2
   have e3:okE (a d Y) (λ Y1=>(u Y1).tn (forL a u ds))=forL a u ds Y':=by
    cases ea:a d Y with
    |ok Y1=>rw[ea]at e;simp at e ⊢;rw[e];rfl
    |ex c=>rw[ea]at e;cases e
    |st=>rw[ea]at e;cases e
   rw[e3];rcases ih with ⟨e4,i,hi,o4⟩|⟨Y4,e4,h4,o4⟩
   .exact .inl ⟨e4,i+1,by simpa using hi,o4⟩
   .refine .inr ⟨Y4,e4,h4,λ i hi=>?_⟩
    cases i with
    |zero=>exact o
    |succ i=>exact o4 i (by simpa using hi)
def jX{i:Nat}(h:(cQ lo hi)[i]? =some d):d= .int (lo+i)/\lo+i<hi:=by
 unfold cQ at h;rw[zA2]at h;by_cases hi2:i<(hi-lo).toNat
 .rw[zGt hi2]at h
  cases h;exact⟨rfl,by omega⟩
 .rw[List.getElem?_eq_none (by simpa using hi2)]at h
  cases h
def jW:(cQ lo hi).length=(hi-lo).toNat:=by unfold cQ;simp
section
variable{α:Type}{f:α->D}{lt:α->α->Bool}
def rF(lt:α->α->Bool):List α->Bool
 |[]=>true
 |[_]=>true
 |p::q::r=>lt p q&&rF lt (q::r)
theorem su:∀{ps:List α},rF lt ps=true↔∀(i:Nat) (p q:α),ps[i]? =some p->ps[i+1]? =some q->lt p q=true
 |[]=>by simp[rF]
 |[x]=>by
  simp only[rF,true_iff];intro i p q _ h2;simp at h2
 |x::y::r=>by
  have ih:=su (ps:=y::r);unfold rF;rw[zAW,ih];constructor
  .rintro⟨h1,h2⟩ i p q e1 e2
   cases i with
   |zero=>simp at e1 e2;subst e1 e2;exact h1
   |succ i=>exact h2 i p q (by simpa using e1) (by simpa using e2)
  .intro h
   exact⟨h 0 x y rfl rfl,λ i p q e1 e2=>h (i+1) p q (by simpa using e1) (by simpa using e2)⟩
def vW(hlt:∀a b,ltD (f a) (f b)= .ok (.bl (lt a b)))(hl:ps.length<=100000):dR [.tup (ps.map f)]= .ok (.bl (rF lt ps)):=by
 have hr:=aJP (i:=1) (j:=(ps.length:Int)) (by decide) (by decide) (by omega) (by omega);have oQ:(cQ 1 (ps.length:Int)).length=ps.length-1:=by rw[jW];omega
 have L:=pX (a:=gnm 1) (u:=ifS (rM (tsb (op2 ltD (op2 ixD (aD 0) (op2 xM (aD 1) (cD (.int 1)))) (op2 ixD (aD 0) (aD 1))))) (retS (cD (.bl false))) Ou.nx) (r:=.bl false)
  (cQ 1 (ps.length:Int)) (λ i=>match ps[i]?,ps[i+1]? with|some p,some q=>lt p q|_,_=>true) (λ Y=>∃s,Y=[.sh (.tup (ps.map f)),s]) [.sh (.tup (ps.map f)),.no] ⟨_,rfl⟩ (by
   rintro i d Y hd ⟨s,rfl⟩;obtain⟨rfl,h2⟩:=jX hd;have e1:ps[i]? =some ps[i]:=zAJ (by omega);have e2:ps[i+1]? =some ps[i+1]:=zAJ (by omega);have a1:atD (ps.map f) (1+(i:Int)-1)= .ok (f ps[i]):=by
    rw[show(1+(i:Int)-1)=(i:Int)by omega];exact jG (by rw[zA2,e1];rfl)
   have a2:atD (ps.map f) (1+(i:Int))= .ok (f ps[i+1]):=by
    rw[show(1+(i:Int))=((i+1:Nat):Int)by omega];exact jG (by rw[zA2,e2];rfl)
   simp only[e1,e2];cases c:lt ps[i] ps[i+1]with
   |true=>right;exact⟨_,by simp[a1,a2,hlt,c];rfl,⟨_,rfl⟩,rfl⟩
   |false=>left;exact⟨by simp[a1,a2,hlt,c],rfl⟩)
 have st:aZ 2 [.tup (ps.map f)]=[.sh (.tup (ps.map f)),.no]:=rfl;rcases L with ⟨e,i,hi,o⟩|⟨Y',e,⟨s,rfl⟩,o⟩
 .have:rF lt ps=false:=by
   cases c:rF lt ps with
   |false=>rfl
   |true=>
    rw[oQ]at hi;have z:=su.mp c i ps[i] ps[i+1] (zAJ (by omega)) (zAJ (by omega));rw[zAJ (by omega),zAJ (by omega)]at o;simp only at o;rw[z]at o;cases o
  rw[this];simp only[dR,eX,bB,st];simp[hr,e]
 .have:rF lt ps=true:=su.mpr λ i p q e1 e2=>by
   have h2:=(zAO.mp e2).1
   have:=o i (by rw[oQ];omega)
   rw[e1,e2]at this;exact this
  rw[this];simp only[dR,eX,bB,st];simp[hr,e]
end
theorem aD5:∀ps:gX,ud ps=rF ltP ps
 |[]=>rfl
 |[_]=>rfl
 |p::q::r=>by unfold ud rF;rw[aD5 (q::r)]
def aBV(hl:ps.length<=100000):dR [.tup (ps.map pD)]= .ok (.bl (ud ps)):=by
 rw[aD5];exact vW aMk hl
def ltI(a b:Int):Bool:=decide (a<b)
def aCf(hl:ps.length<=100000):dR [.tup (ps.map .int)]= .ok (.bl (rF ltI ps)):=vW (λ a b=>by rw[aKB];rfl) hl
def aBF:ud ps=true↔∀(i:Nat) (p q:Int×Int),ps[i]? =some p->ps[i+1]? =some q->ltP p q=true:=by rw[aD5];exact su
def aJ2:D->Int×Int
 | .tup [.int a,.int b]=>(a,b)
 |_=>(0,0)
def aDh(h:jZ m d=true):∃a b:Int,d= .tup [.int a,.int b]/\0<=a/\a<m/\0<=b/\b<m/\a≠b:=by
 unfold jZ at h;split at h
 .rename_i a b
  simp at h;exact⟨a,b,rfl,h.1.1.1.1,h.1.1.1.2,h.1.1.2,h.1.2,h.2⟩
 .cases h
theorem aLI:∀{ts:List D},ts.all (jZ m)=true->(ts.map aJ2).map pD=ts
 |[],_=>rfl
 |t::ts,h=>by
  rw[zGJ,zAW]at h;obtain⟨a,b,rfl,_⟩:=aDh h.1;simp only[zAC];rw[aLI h.2];rfl
def rpB(m:Int):D->Bool
 | .tup ts=>ts.all (jZ m)&&ud (ts.map aJ2)
 |_=>false
def aDU:D->Bool
 | .tup l=>decide (l.length<=100000)
 |_=>true
def jB(h:pln d=true)(hs:aDU d=true):bD [.int m,d]= .ok (.bl (rpB m d)):=by
 cases d with
 |tup ts=>
  have hp:vz ts=true:=by simpa[pln]using h
  have hl:ts.length<=100000:=by simpa[aDU]using hs
  have L:=pX (a:=gnm 2) (u:=ifS (rM (tst (aM mD (aA (aD 0) (aA (aD 2) aF))))) (retS (cD (.bl false))) Ou.nx) (r:=.bl false)
   ts (λ i=>match ts[i]? with|some t=>jZ m t|none=>true) (λ Y=>∃s,Y=[.sh (.int m),.sh (.tup ts),s]) [.sh (.int m),.sh (.tup ts),.no] ⟨_,rfl⟩ (by
    rintro i d Y hd ⟨s,rfl⟩;have e:=aEG (m:=m) (yF hp (zBL hd));simp only[hd];cases c:jZ m d with
    |true=>right;exact⟨_,by simp[e,c];rfl,⟨_,rfl⟩,rfl⟩
    |false=>left;exact⟨by simp[e,c],rfl⟩)
  have st:aZ 3 [.int m,.tup ts]=[.sh (.int m),.sh (.tup ts),.no]:=rfl;rcases L with ⟨e,i,hi,o⟩|⟨Y',e,⟨s,rfl⟩,o⟩
  .have:ts.all (jZ m)=false:=by
    rw[zHU];rw[zAJ hi]at o;exact⟨ts[i],zEG hi,by simpa using o⟩
   simp only[bD,bC,bB,st];simp[e,rpB,this]
  .have:ts.all (jZ m)=true:=by
    rw[zAu];intro t ht;obtain⟨i,hi,rfl⟩:=zGu ht
    have:=o i hi
    rw[zAJ hi]at this;exact this
   have er:=aBV (ps:=ts.map aJ2) (by rw[zAF];exact hl);rw[aLI this]at er;simp only[bD,bC,bB,st];simp[e,rpB,this,er]
 |_=>simp[bD,bC,aZ,pU (pN h),rQ,rpB]
theorem gU:∀(ds:List D) (P:Nat->En->Prop) (Y:En),P 0 Y->(∀(i:Nat) d Y,ds[i]? =some d->P i Y->∃Y',okE (a d Y) u= .nx Y'/\P (i+1) Y')->∃Y',forL a u ds Y= .nx Y'/\P ds.length Y'
 |[],P,Y,h,_=>⟨Y,rfl,h⟩
 |d::ds,P,Y,h,hs=>by
  obtain⟨Y1,e,h1⟩:=hs 0 d Y rfl h;obtain⟨Y2,e2,h2⟩:=gU (a:=a) (u:=u) ds (λ i=>P (i+1)) Y1 h1 λ i d2 Y2 e2 h2=>hs (i+1) d2 Y2 (by simpa using e2) h2
  refine⟨Y2,?_,by simpa using h2⟩;rw[ut];cases ea:a d Y with
  |ok Y0=>rw[ea]at e;simp at e ⊢;rw[e];exact e2
  |ex c=>rw[ea]at e;cases e
  |st=>rw[ea]at e;cases e
def yp(l:List α)(i:Int)(y:α):(fV l i y).Perm (y::l):=by
 unfold fV;generalize (if i<0 then(i+(l.length:Int)).toNat else min i.toNat l.length)=k
 have:(l.take k++y::l.drop k).Perm (y::(l.take k++l.drop k)):=zHm
 rwa [zCz]at this
def aGC(f:α->β)(l:List α)(i:Int)(y:α):fV (l.map f) i (f y)=(fV l i y).map f:=by
 unfold fV;rw[zAF,zAg,zAC,zIW,zIV]
structure aKq(n:Nat)(os:List Int):Prop where
 len:os.length=n
 nd:os.Nodup
 lo:∀x∈os,0<=x/\x<n
def vU{n:Nat}(h1:n<=60):∃os,gD [.int c,.int n]= .ok (.lst (os.map .int))/\aKq n os:=by
 have hr:=iQ (j:=(n:Int)) (by lia) (by lia);have oQ:(cQ 0 (n:Int)).length=n:=by rw[jW];lia
 obtain⟨Y',e,s,os,rfl,ho⟩:=gU (a:=gnm 3) (u:=aHp 2 (aM aU (aA (aD 0) (aA (op2 cG (cD (.int 100)) (aD 3)) (aA (op2 cG (aD 3) (cD (.int 1))) aF)))) (bT (aD 3))) (cQ 0 (n:Int))
  (λ i Y=>∃s os,Y=[.sh (.int c),.sh (.int n),.ow (.lst (os.map .int)),s]/\aKq i os) [.sh (.int c),.sh (.int n),.ow (.lst []),.no] ⟨.no,[],rfl,rfl,by simp,λ x hx=>by simp at hx⟩ (by
   rintro i d Y hd ⟨s,os,rfl,ho⟩;obtain⟨rfl,h2⟩:=jX hd;obtain⟨r,er,r0,r1⟩:=pY (c:=c) (k:=100+(i:Int)) (b:=(i:Int)+1) (by lia) (by lia) (by lia) (by lia);have hz: -9223372036854775808<=r/\r<9223372036854775808/\os.length<16777216:=⟨by lia,by lia,by rw[ho.len];lia⟩;refine⟨[.sh (.int c),.sh (.int n),.ow (.lst ((fV os r (0+(i:Int))).map .int)),.sh (.int (0+(i:Int)))],?_,_,_,rfl,?_,?_,λ x hx=>?_⟩
   .rw[<-aGC]
    simp only[aEL,aBO,aHp];simp[er,hz]
   .rw[aA6,ho.len]
   .refine(yp os r _).nodup_iff.mpr (zBa.mpr ⟨λ hm=>?_,ho.nd⟩)
    have:=ho.lo _ hm
    lia
   .rcases zAQ.mp ((yp os r _).mem_iff.mp hx)with q|q
    .lia
    .have:=ho.lo x q
     lia)
 rw[oQ]at ho;refine⟨os,?_,ho⟩;simp[gD,iG,aZ,hr,e]
def aEX:gX:=(zAf 8).flatMap λ(a:Nat)=>((zAf 8).filter λ b=>b !=a).map λ(b:Nat)=>((a:Int),(b:Int))
def aDF(h0:0<=p.1)(h1:p.1<8)(h2:0<=p.2)(h3:p.2<8)(h4:p.1≠p.2):p∈aEX:=by
 unfold aEX;rw[zFN];refine⟨p.1.toNat,by simp;lia,?_⟩;rw[zAU];refine⟨p.2.toNat,?_,?_⟩
 .rw[zAh]
  refine⟨by simp;lia,?_⟩
  have:p.2.toNat≠p.1.toNat:=by lia
  simpa using this
 .have e1:((p.1.toNat:Nat):Int)=p.1:=zB8 h0
  have e2:((p.2.toNat:Nat):Int)=p.2:=zB8 h2;rw[e1,e2]
def pl(p:Int×Int):List Int:=[p.1,p.2]
def hp(p:Int×Int):Int:=hsh (pl p)
def aFM:List Int:=[(-1950498447580522560),7204814214171964562,(-4734289103435588629),1773351652666409796,(-3119722376306286570),(-1010439003188656273),(-5903513032161352639),(-5164621852614943976),(-3550055125485641917),(-1440771752368011620),(-6333845781340707986),173794974761290439,(-4719279054211405927),(-2609995681093775630),4685526799349444076,6794810172467074373,8409376899596376432,3516302870623680066,(-8422800446983873125),(-6313517073866242828),7240152970870612422,2248468952609198383,8756109708711196808,3863035679738500442,1079245023883434373,7586885779985432798,(-4352217537622120393),4803095124130366729,(-6348126469135965181),159514286966033244,(-9131917124991031250),(-2624276368889032825),(-1009709641759730766),1099573731357899531,(-3793500297614796835),(-3054609118068388172),3453031638033610253,(-5838399773923454241),669240982178544184,(-4223833046794152182),(-7007623702649218251),(-499982946547219826),(-5491666964808633865),8062003079928221385,(-3877100237679331806),2630540518422666619,(-6660890893534397875),(-153250137432399450),1461316589696902609,4358481687155754187,(-7580621630451799004),5973048414285056246,8082331787402686543,3189257758429990177,(-8749845559177563014),(-2242204803075564589)]
set_option maxRecDepth 1000000 in
def aDG:aEX.map hp=aFM:=by decide+kernel
set_option maxRecDepth 1000000 in
def aEK:aFM.Nodup:=by decide+kernel
def uz:(aEX.map hp).Nodup/\aEX.length=56:=⟨by rw[aDG];exact aEK,by rw[<-zAF (f:=hp),aDG];rfl⟩
theorem pP:∀{L:List α},(L.map f).Nodup->∀x∈L,∀y∈L,f x=f y->x=y
 |a::L,h,x,hx,y,hy,e=>by
  rw[zAC,zBa]at h;rcases zAQ.mp hx with q|q
  .rcases zAQ.mp hy with z|z
   .rw[q,z]
   .subst q
    exact absurd (zAU.mpr ⟨y,z,e.symm⟩) h.1
  .rcases zAQ.mp hy with z|z
   .subst z
    exact absurd (zAU.mpr ⟨x,q,e⟩) h.1
   .exact pP h.2 x q y z e
theorem lQ:∀{l:List α},l.Nodup->(∀x∈l,∀y∈l,f x=f y->x=y)->(l.map f).Nodup
 |[],_,_=>by simp
 |a::l,h,hi=>by
  rw[zBa]at h;rw[zAC,zBa];refine⟨λ hm=>?_,lQ h.2 λ x hx y hy e=>hi x (zAI _ hx) y (zAI _ hy) e⟩;obtain⟨x,hx,e⟩:=zAU.mp hm
  have:=hi x (zAI _ hx) a zAH e
  subst this;exact h.1 hx
structure Ow(n:Int)(ps:gX):Prop where
 n0:0<=n
 n1:n<=60
 len:ps.length<=3600
 pr:∀p∈ps,0<=p.1/\p.1<n/\0<=p.2/\p.2<n/\p.1≠p.2
 ris:ud ps=true
def owD(n:Int)(ps:gX):D:=.tup [.int n,.tup (ps.map pD)]
def aE4(p:Int×Int):tupI (pl p)=pD p:=rfl
def aHO(h:pl p=pl q):p=q:=by
 unfold pl at h;injection h with h1 h2
 injection h2 with h2 _
 exact zGL h1 h2
def qJ(nd:ps.Nodup):∃qs:gX,vI (ps.map pl)=qs.map pl/\qs.Perm ps/\ud qs=true:=by
 obtain⟨qs,q1,q2⟩:=m7 (f:=pl) (ql (ps.map pl)) rfl;refine⟨qs,q2,q1,aBF.mpr λ i p q e1 e2=>?_⟩;have hr:=oE (ps.map pl);rw[q2]at hr;have hnd:qs.Nodup:=q1.nodup_iff.mpr nd;have h1:=(zAO.mp e1).1;have h2:=(zAO.mp e2).1;have f1:(qs.map pl)[i]'(by simpa using h1)=pl p:=by
  rw[zDF,(zAO.mp e1).2]
 have f2:(qs.map pl)[i+1]'(by simpa using h2)=pl q:=by
  rw[zDF,(zAO.mp e2).2]
 have z:=zC6.mp hr i (i+1) (by simpa using h1) (by simpa using h2) (by lia);rw[f1,f2]at z;have hne:p≠q:=λ e=>by
  subst e
  have:=(zCt h1 hnd).mp (e1.trans e2.symm)
  lia
 show HT.lexLt (pl p) (pl q)=true;cases c:HT.lexLt (pl p) (pl q)with
 |true=>rfl
 |false=>exact absurd (aHO (yS _ _ c z)) hne
def uP(ps:gX):mJ (ps.map pD)=some (ps.map pl):=by
 have:=xJ (nss:=ps.map pl) λ ns h=>by
  obtain⟨p,_,rfl⟩:=zAU.mp h;simp[pl]
 rw[zA4]at this;exact this
def ar(os:List Int)(q:Nat×Nat):Int×Int:=(os.getD q.1 0,os.getD q.2 0)
def aAT{os:List Int}{k:Nat}(h:k<os.length):atD (os.map D.int) (k:Int)= .ok (.int (os.getD k 0)):=jG (by rw[zA2,zAJ h];simp[h])
def wy{n:Nat}(hn:n<=60){ip:List (Nat×Nat)}(nd:ip.Nodup)(h:∀q∈ip,q.1<n/\q.2<n):ip.length<=3600:=by
 have:=sub_len (l':=(zAf 60).flatMap λ a=>(zAf 60).map λ b=>(a,b)) nd λ q hq=>by
  rw[zFN]
  have:=h q hq
  exact⟨q.1,by simp;omega,zAU.mpr ⟨q.2,by simp;omega,rfl⟩⟩
 refine zA6 this ?_;rw[List.length_flatMap];simp only[zAF,zDt];decide
def Ow.rp{n:Int}{ps:gX}(h:Ow n ps):rpB n (.tup (ps.map pD))=true:=by
 have e:(ps.map pD).map aJ2=ps:=by rw[zA4];exact(zCE λ p _=>rfl).trans (List.map_id ps)
 unfold rpB;dsimp only;rw[e,h.ris,zCd,zAu];intro d hd;obtain⟨p,hp,rfl⟩:=zAU.mp hd;obtain⟨a,b,c,d,e⟩:=h.pr p hp;simp[pD,jZ,a,b,c,d,e]
theorem aBL:∀ps:gX,vz (ps.map pD)=true
 |[]=>rfl
 |p::ps=>by simp only[zAC,vz,aBL ps,zCd];rfl
def qQ{n:Int}{ps:gX}(h:Ow n ps):cY [owD n ps]= .ok (.bl true):=by
 have e1:=yg (d:=.int n) rfl;have e2:=jB (m:=n) (d:=.tup (ps.map pD)) (by simpa[pln]using aBL ps) (by have:=h.len;simp[aDU];lia);rw[h.rp]at e2;have e3:aAZ (.int n)=true:=by simp[aAZ,h.n0,h.n1]
 rw[e3]at e1;simp[cY,fQ,owD,aZ,e1,e2]
def uy{n:Int}{ps:gX}(h:Ow n ps):du [owD n ps]= .ok .non:=by
 have:=qQ h
 simp[du,cU,aZ,this]
theorem lZ:∀ns:List Int,cN (ns.map .int)=0/\aq (ns.map .int)=true
 |[]=>⟨rfl,rfl⟩
 |n::ns=>by
  obtain⟨h1,h2⟩:=lZ ns;simp[cN,gr,aq,ak,h1,h2]
theorem ux:∀ps:gX,cN (ps.map pD)<=1/\aq (ps.map pD)=true
 |[]=>⟨by simp[cN],rfl⟩
 |p::ps=>by
  obtain⟨h1,h2⟩:=ux ps;simp[cN,gr,aq,ak,h2,pD,h1]
def aFH(neg:Bool)(y:Int)(ns:List Int):inR neg (.int y) (.lst (ns.map .int))= .ok (.bl (if neg then !decide (y∈ns)else decide (y∈ns))):=by
 obtain⟨h1,h2⟩:=lZ ns;have e:inD (.int y) (ns.map .int)=decide (y∈ns):=by
  unfold inD;rw[Bool.eq_iff_iff];simp[zEF,eqD]
 unfold inR;dsimp only;rw[h1,h2,e];rfl
def aBa{α:Type}(f:α->Bool)(l:List α):boolsOf (l.map λ x=>D.bl (f x))=some (l.map f):=by
 have:=vh (l.map f)
 rwa [zA4]at this
def aI3{α:Type}(f:α->Bool)(l:List α):aBe (λ bs=>bs.all id) [.lst (l.map λ x=>D.bl (f x))]= .ok (.bl (l.all f)):=by
 unfold aBe;dsimp only;rw[aBa];dsimp only;rw[zIb];rfl
theorem mq{α:Type}{Y:En}{fg:D->En->Rs En}{ft:En->Rs Bool}{fe:En->Rs D}{f g:α->D}{t:α->Bool}:∀(l:List α),(∀x∈l,∃Y1,fg (f x) Y= .ok Y1/\ft Y1= .ok (t x)/\fe Y1= .ok (g x))->lcL Y fg ft fe (l.map f)= .ok ((l.filter t).map g)
 |[],_=>rfl
 |x::l,h=>by
  obtain⟨Y1,e1,e2,e3⟩:=h x zAH;have ih:=mq l λ y hy=>h y (zAI _ hy)
  rw[zAC];unfold lcL;rw[e1,aK,e2,aK,e3,aK,ih,aK,zFL];cases t x<;>rfl
def intOf:D->Int
 | .int i=>i
 |_=>0
def iy(h1:fi (shE Y)= .ok ds)(h2:ds.length<16777216)(h3:lcL (stE js (shE Y)) fg ft fe ds= .ok out):lcD fi js fg ft fe Y= .ok (.lst out):=by
 unfold lcD;rw[h1,aK,if_pos (by rw[szl];exact h2),h3]
def mj{α:Type}{f g:α->D}(l:List α)(h:∀x∈l,∃Y1,fg (f x) Y= .ok Y1/\fe Y1= .ok (g x)):lcL Y fg dZ fe (l.map f)= .ok (l.map g):=by
 have:=mq (Y:=Y) (fg:=fg) (ft:=dZ) (fe:=fe) (f:=f) (g:=g) (t:=λ _=>true) l λ x hx=>by
  obtain⟨Y1,h1,h2⟩:=h x hx;exact⟨Y1,h1,rfl,h2⟩
 rwa [List.filter_eq_self.mpr λ _ _=>rfl]at this
def aHr(neg:Bool)(y:Int)(ns:List Int):inR neg (.int y) (.tup (ns.map .int))= .ok (.bl (if neg then !decide (y∈ns)else decide (y∈ns))):=aFH neg y ns
def aI6:gX:=(zAf 9).flatMap λ(a:Nat)=>((zAf 9).filter λ b=>b !=a).map λ(b:Nat)=>((a:Int),(b:Int))
def aI4(h0:0<=p.1)(h1:p.1<9)(h2:0<=p.2)(h3:p.2<9)(h4:p.1≠p.2):p∈aI6:=by
 unfold aI6;rw[zFN];refine⟨p.1.toNat,by simp;lia,?_⟩;rw[zAU];refine⟨p.2.toNat,?_,?_⟩
 .rw[zAh]
  refine⟨by simp;lia,?_⟩
  have:p.2.toNat≠p.1.toNat:=by lia
  simpa using this
 .have e1:((p.1.toNat:Nat):Int)=p.1:=zB8 h0
  have e2:((p.2.toNat:Nat):Int)=p.2:=zB8 h2;rw[e1,e2]
def aFL:List Int:=[(-1950498447580522560),7204814214171964562,(-4734289103435588629),1773351652666409796,(-3119722376306286570),(-1010439003188656273),(-5903513032161352639),604127723940645786,(-5164621852614943976),(-3550055125485641917),(-1440771752368011620),(-6333845781340707986),173794974761290439,(-4719279054211405927),(-2609995681093775630),3897645075008222795,4685526799349444076,6794810172467074373,8409376899596376432,3516302870623680066,(-8422800446983873125),(-6313517073866242828),7240152970870612422,(-4698950346736940769),2248468952609198383,8756109708711196808,3863035679738500442,1079245023883434373,7586885779985432798,(-4352217537622120393),4803095124130366729,(-7136008193477186462),(-6348126469135965181),159514286966033244,(-9131917124991031250),(-2624276368889032825),(-1009709641759730766),1099573731357899531,(-3793500297614796835),2714140458487201590,(-3054609118068388172),3453031638033610253,(-5838399773923454241),669240982178544184,(-4223833046794152182),(-7007623702649218251),(-499982946547219826),6007657809554778599,(-5491666964808633865),8062003079928221385,(-3877100237679331806),2630540518422666619,(-6660890893534397875),(-153250137432399450),1461316589696902609,3570599962814532906,4358481687155754187,(-7580621630451799004),5973048414285056246,8082331787402686543,3189257758429990177,(-8749845559177563014),(-2242204803075564589),(-5025995458930630658),1921423840415508494,8429064596517506919,3535990567544810553,(-8403112750062742638),752199911689744484,7259840667791742909,(-4679262649815810282),8874407394921044968]
set_option maxRecDepth 1000000 in
def aI5:aI6.map hp=aFL:=by decide+kernel
set_option maxRecDepth 1000000 in
def aEJ:aFL.Nodup:=by decide+kernel
theorem aIT:∀(l acc:gV),(acc++l).Nodup->l.foldl (λ acc x=>if x∈acc then acc else acc++[x]) acc=acc++l
 |[],acc,_=>by simp
 |x::l,acc,nd=>by
  rw[zBP,if_neg λ h=>(zAt.mp nd).2.2 x h x zAH rfl,aIT l _ (by rw[zBG];exact nd),zBG];rfl
def vJ{L ps:gX}(hL:(L.map hp).Nodup)(nd:ps.Nodup)(hin:∀p∈ps,p∈L)(oQ:ps.length<64):∃qs:gX,cJ [.lst (ps.map pD)]= .ok (.lst (qs.map pD))/\qs.Perm ps/\ud qs=true:=by
 obtain⟨qs,q1,q2,q3⟩:=qJ nd;have hb:aK0 (ps.map pl)=true:=by
  unfold aK0;rw[zAu];intro a ha;rw[zAu];intro b hb;obtain⟨p,hp1,rfl⟩:=zAU.mp ha;obtain⟨q,hq1,rfl⟩:=zAU.mp hb;by_cases e:hsh (pl p)=hsh (pl q)
  .have:=pP (f:=hp) hL p (hin p hp1) q (hin q hq1) e
   subst this;simp
  .have:(hsh (pl p)!=hsh (pl q))=true:=by simpa using e
   rw[this,zI4]
 have hdd:ddT (ps.map pl)=ps.map pl:=aIT _ [] (by rw[zF1];exact lQ nd λ x _ y _ e=>aHO e);refine⟨qs,?_,q2,q3⟩;show jP 64 (ps.map pD)=_;unfold jP;rw[uP];dsimp only;rw[hdd,if_pos ⟨by rw[zAF];exact oQ,hb⟩,q1,zA4];exact congrArg (λ l=>Rs.ok (D.lst l)) (zCE λ p _=>aE4 p)
def xR{ps:gX}(nd:ps.Nodup)(h8:∀p∈ps,0<=p.1/\p.1<8/\0<=p.2/\p.2<8/\p.1≠p.2):∃qs:gX,cJ [.lst (ps.map pD)]= .ok (.lst (qs.map pD))/\qs.Perm ps/\ud qs=true:=by
 have hin:∀p∈ps,p∈aEX:=λ p hp=>by
  obtain⟨a,b,c,d,e⟩:=h8 p hp;exact aDF a b c d e
 have oQ:=sub_len nd hin;rw[uz.2]at oQ;exact vJ uz.1 nd hin (by lia)
def aOQ:gX:=aI6.filter λ p=>decide (p.1<p.2)
def aHa:aOQ.length=36:=by decide+kernel
def aH9{ps:gX}(h:∀p∈ps,0<=p.1/\p.1<p.2/\p.2<9):∀p∈ps,p∈aOQ:=λ p hp=>by
 obtain⟨a,b,c⟩:=h p hp;exact zAh.mpr ⟨aI4 a (by lia) (by lia) c (by lia),decide_eq_true b⟩
def aAv{ps:gX}(nd:ps.Nodup)(h:∀p∈ps,0<=p.1/\p.1<p.2/\p.2<9):∃qs:gX,cJ [.lst (ps.map pD)]= .ok (.lst (qs.map pD))/\qs.Perm ps/\ud qs=true/\ps.length<=36:=by
 have oQ:=sub_len nd (aH9 h);rw[aHa]at oQ;obtain⟨qs,a,b,c⟩:=vJ (L:=aI6) (by rw[aI5];exact aEJ) nd (λ p hp=>(zAh.mp (aH9 h p hp)).1) (by lia);exact⟨qs,a,b,c,oQ⟩
abbrev owE(c most:Int)(n kd:Nat)(t:Int)(os:List Int)(ip:List (Nat×Nat))(sp:Int)(s8 s9 s10:Slot):En:=
 [.sh (.int c),.sh (.int most),.sh (.int n),.sh (.int kd),.nw (.int t),.sh (.lst (os.map .int)),.ow (.lst ((ip.map (ar os)).map pD)),.sh (.int sp),s8,s9,s10]
def aDi{c most t sp:Int}{n kd a b:Nat}{os:List Int}{ip:List (Nat×Nat)}{s8 s9 s10:Slot}{f g:En->Rs D}(hz:ip.length<16777216)(ha:a<os.length)(hb:b<os.length)
  (h1:f (owE c most n kd t os ip sp s8 s9 s10)= .ok (.int a))(h2:g (owE c most n kd t os ip sp s8 s9 s10)= .ok (.int b)):
  jo 6 (dD (aA (bT (op2 ixD (aD 5) f)) (aA (bT (op2 ixD (aD 5) g)) aF))) (owE c most n kd t os ip sp s8 s9 s10)= .nx (owE c most n kd t os (ip++[(a,b)]) sp s8 s9 s10):=by
 simp[jo,h1,h2,aAT ha,aAT hb,hz,ar,pD]
structure Ips(n kd j i:Nat)(ip:List (Nat×Nat)):Prop where
 nd:ip.Nodup
 ok:∀q∈ip,q.1≠q.2/\q.1<n/\q.2<n/\((q.1<j/\q.2<j)\/(q.1=j/\q.2<i)\/(q.2=j/\q.1<i))/\(kd=6->q.1<q.2)
def aHY{c most t:Int}{n kd j:Nat}{os:List Int}(hn:n<=60)(hj:j<n)(ho:aKq n os)(ht:kd=6->t=1){ip:List (Nat×Nat)}{sp:Int}{s9 s10:Slot}(h0:0<=sp)(h1:sp<=2+60*j)(hip:Ips n kd j 0 ip):
  ∃ip' sp' s9' s10',forL (gnm 9) aHZ (cQ 0 (j:Int)) (owE c most n kd t os ip sp (.sh (.int j)) s9 s10)= .nx (owE c most n kd t os ip' sp' (.sh (.int j)) s9' s10')/\0<=sp'/\sp'<=2+60*(j+1)/\Ips n kd (j+1) 0 ip':=by
 have oQ:(cQ 0 (j:Int)).length=j:=by rw[jW];omega
 obtain⟨Y',e,ip',sp',s9',s10',rfl,q0,q1,q2⟩:=gU (a:=gnm 9) (u:=aHZ) (cQ 0 (j:Int))
  (λ i Y=>∃ip sp s9 s10,Y=owE c most n kd t os ip sp (.sh (.int j)) s9 s10/\0<=sp/\sp<=2+60*j+i/\Ips n kd j i ip) (owE c most n kd t os ip sp (.sh (.int j)) s9 s10) ⟨ip,sp,s9,s10,rfl,h0,by omega,hip⟩ (by
   rintro i d Y hd ⟨ip,sp,s9,s10,rfl,p0,p1,p2⟩;obtain⟨rfl,hlt⟩:=jX hd;have hij:i<j:=by omega
   obtain⟨h,eh,hh0,hh1⟩:=pY (c:=c) (k:=sp+1) (b:=8) (by omega) (by omega) (by decide) (by decide);obtain⟨g,eg,hg0,hg1⟩:=pY (c:=c) (k:=sp+1+50) (b:=8) (by omega) (by omega) (by decide) (by decide);have hzl:=wy hn p2.nd λ q hq=>⟨(p2.ok q hq).2.1,(p2.ok q hq).2.2.1⟩
   have hi':i<os.length:=by rw[ho.len];omega
   have hj':j<os.length:=by rw[ho.len];omega
   have st1:∃ip1,aJh (owE c most n kd t os ip (sp+1) (.sh (.int j)) (.sh (.int i)) (.sh (.int h)))= .nx (owE c most n kd t os ip1 (sp+1) (.sh (.int j)) (.sh (.int i)) (.sh (.int h)))/\(ip1=ip\/ip1=ip++[(i,j)]):=by
    have hc:(orT (tsb (op2 ltD (aD 10) (jC 4))) (qG (tsb (op2 (eqR false) (aD 3) (cD (.int 6)))) (tsb (op2 (eqR false) (aD 8) (op2 cG (aD 9) (cD (.int 1))))))) (owE c most n kd t os ip (sp+1) (.sh (.int j)) (.sh (.int i)) (.sh (.int h)))= .ok (decide (h<t)||((kd:Int)==6&&(j:Int)==(i:Int)+1)):=by
     have eA:tsb (op2 ltD (aD 10) (jC 4)) (owE c most n kd t os ip (sp+1) (.sh (.int j)) (.sh (.int i)) (.sh (.int h)))= .ok (decide (h<t)):=rfl;have eB:tsb (op2 (eqR false) (aD 3) (cD (.int 6))) (owE c most n kd t os ip (sp+1) (.sh (.int j)) (.sh (.int i)) (.sh (.int h)))= .ok ((kd:Int)==6):=rfl;have eC:tsb (op2 (eqR false) (aD 8) (op2 cG (aD 9) (cD (.int 1)))) (owE c most n kd t os ip (sp+1) (.sh (.int j)) (.sh (.int i)) (.sh (.int h)))= .ok ((j:Int)==(i:Int)+1):=rfl;rw[aDk,eA,ph,eB,eC];cases decide (h<t)<;>cases (kd:Int)==6<;>rfl
    cases hb:(decide (h<t)||((kd:Int)==6&&(j:Int)==(i:Int)+1))with
    |true=>
     refine⟨_,?_,.inr rfl⟩;rw[hb]at hc;simp only[aJh,dW,hc,bW,if_pos];exact aDi (by omega) hi' hj' (by simp) (by simp)
    |false=>
     refine⟨_,?_,.inl rfl⟩;rw[hb]at hc;simp only[aJh,dW,hc,bW];rfl
   obtain⟨ip1,e1,c1⟩:=st1;have st2:∃ip2,aJg (owE c most n kd t os ip1 (sp+1) (.sh (.int j)) (.sh (.int i)) (.sh (.int h)))= .nx (owE c most n kd t os ip2 (sp+1) (.sh (.int j)) (.sh (.int i)) (.sh (.int h)))/\(ip2=ip1\/(ip2=ip1++[(j,i)]/\kd≠6)):=by
    have hl1:ip1.length<16777216:=by rcases c1 with q|q<;>rw[q]<;>first|omega|(simp;omega)
    have hc:(orT (qG (tsb (op2 gtD (aD 3) (cD (.int 2)))) (qG (tsb (op2 (eqR true) (aD 3) (cD (.int 7)))) (tsb (op2 ltD (aM aU (aA (aD 0) (aA (op2 cG (aD 7) (cD (.int 50))) (aA (cD (.int 8)) aF)))) (op2 xM (jC 4) (cD (.int 1))))))) (qG (tsb (op2 (eqR false) (aD 3) (cD (.int 7)))) (tsb (op2 ltD (aD 10) (cD (.int 3)))))) (owE c most n kd t os ip1 (sp+1) (.sh (.int j)) (.sh (.int i)) (.sh (.int h)))
      = .ok (decide (2<(kd:Int))&& !((kd:Int)==7)&&decide (g<t-1)||((kd:Int)==7&&decide (h<3))):=by
     have eA:tsb (op2 gtD (aD 3) (cD (.int 2))) (owE c most n kd t os ip1 (sp+1) (.sh (.int j)) (.sh (.int i)) (.sh (.int h)))= .ok (decide (2<(kd:Int))):=rfl;have eB:tsb (op2 (eqR true) (aD 3) (cD (.int 7))) (owE c most n kd t os ip1 (sp+1) (.sh (.int j)) (.sh (.int i)) (.sh (.int h)))= .ok (!((kd:Int)==7)):=rfl;have eC:tsb (op2 ltD (aM aU (aA (aD 0) (aA (op2 cG (aD 7) (cD (.int 50))) (aA (cD (.int 8)) aF)))) (op2 xM (jC 4) (cD (.int 1)))) (owE c most n kd t os ip1 (sp+1) (.sh (.int j)) (.sh (.int i)) (.sh (.int h)))= .ok (decide (g<t-1)):=by
      have e0:aA (aD 0) (aA (op2 cG (aD 7) (cD (.int 50))) (aA (cD (.int 8)) aF)) (owE c most n kd t os ip1 (sp+1) (.sh (.int j)) (.sh (.int i)) (.sh (.int h)))= .ok [.int c,.int (sp+1+50),.int 8]:=rfl;rw[gm,cR,eY,e0,aK,eg];rfl
     have eD:tsb (op2 (eqR false) (aD 3) (cD (.int 7))) (owE c most n kd t os ip1 (sp+1) (.sh (.int j)) (.sh (.int i)) (.sh (.int h)))= .ok ((kd:Int)==7):=rfl;have eE:tsb (op2 ltD (aD 10) (cD (.int 3))) (owE c most n kd t os ip1 (sp+1) (.sh (.int j)) (.sh (.int i)) (.sh (.int h)))= .ok (decide (h<3)):=rfl;rw[aDk,ph,eA,ph,eB,eC,ph,eD,eE];cases decide (2<(kd:Int))<;>cases (kd:Int)==7<;>cases decide (g<t-1)<;>rfl
    cases hb:(decide (2<(kd:Int))&& !((kd:Int)==7)&&decide (g<t-1)||((kd:Int)==7&&decide (h<3)))with
    |true=>
     refine⟨_,?_,.inr ⟨rfl,λ k6=>?_⟩⟩
     .rw[hb]at hc
      simp only[aJg,dW,hc,bW,if_pos];exact aDi hl1 hj' hi' (by simp) (by simp)
     .have:=ht k6
      subst k6;simp at hb;omega
    |false=>
     refine⟨_,?_,.inl rfl⟩;rw[hb]at hc;simp only[aJg,dW,hc,bW];rfl
   obtain⟨ip2,e2,c2⟩:=st2;refine⟨_,?_,ip2,sp+1,.sh (.int i),.sh (.int h),rfl,by omega,by omega,?_⟩
   .have s7:bU 7 (op2 cG (aD 7) (cD (.int 1))) (owE c most n kd t os ip sp (.sh (.int j)) (.sh (.int i)) s10)= .nx (owE c most n kd t os ip (sp+1) (.sh (.int j)) (.sh (.int i)) s10):=by first|rfl|simp
    have s11:bU 10 (aM aU (aA (aD 0) (aA (aD 7) (aA (cD (.int 8)) aF)))) (owE c most n kd t os ip (sp+1) (.sh (.int j)) (.sh (.int i)) s10)= .nx (owE c most n kd t os ip (sp+1) (.sh (.int j)) (.sh (.int i)) (.sh (.int h))):=by simp[eh]
    rw[zE1];show aHZ (owE c most n kd t os ip sp (.sh (.int j)) (.sh (.int i)) s10)=_;unfold aHZ;rw[aO,s7,aj,aO,s11,aj,aO,e1,aj,e2]
   .have b9:∀q∈ip,q.1≠q.2/\q.1<n/\q.2<n/\((q.1<j/\q.2<j)\/(q.1=j/\q.2<i+1)\/(q.2=j/\q.1<i+1))/\(kd=6->q.1<q.2):=λ q hq=>by
     obtain⟨a1,a2,a3,a4,a5⟩:=p2.ok q hq;exact⟨a1,a2,a3,a4.imp_right (Or.imp (λ z=>⟨z.1,zCW z.2⟩) λ z=>⟨z.1,zCW z.2⟩),a5⟩
    have n1:(i,j)∉ip:=λ hm=>by
     obtain⟨_,_,_,a4,_⟩:=p2.ok _ hm;simp only at a4;omega
    have n2:(j,i)∉ip:=λ hm=>by
     obtain⟨_,_,_,a4,_⟩:=p2.ok _ hm;simp only at a4;omega
    have bS:∀q:Nat×Nat,q=(i,j)->q.1≠q.2/\q.1<n/\q.2<n/\((q.1<j/\q.2<j)\/(q.1=j/\q.2<i+1)\/(q.2=j/\q.1<i+1))/\(kd=6->q.1<q.2):=λ q hq=>by
     subst hq;exact⟨zAZ hij,zCR hij hj,hj,.inr (.inr ⟨rfl,zBd i⟩),λ _=>hij⟩
    have htwo:kd≠6->∀q:Nat×Nat,q=(j,i)->q.1≠q.2/\q.1<n/\q.2<n/\((q.1<j/\q.2<j)\/(q.1=j/\q.2<i+1)\/(q.2=j/\q.1<i+1))/\(kd=6->q.1<q.2):=λ hk q hq=>by
     subst hq;exact⟨zBg hij,hj,zCR hij hj,.inr (.inl ⟨rfl,zBd i⟩),λ z=>absurd z hk⟩
    have hij2:((i,j):Nat×Nat)≠(j,i):=λ z=>by injection z with z1 z2;omega
    rcases c1 with rfl|rfl<;>rcases c2 with rfl|⟨rfl,hk⟩
    .exact⟨p2.nd,b9⟩
    .refine⟨zAt.mpr ⟨p2.nd,by simp,λ x hx y hy z=>?_⟩,λ q hq=>?_⟩
     .rw[zAK]at hy;subst hy;subst z;exact n2 hx
     .rcases zA5.mp hq with z|z
      .exact b9 q z
      .exact htwo hk q (zAK.mp z)
    .refine⟨zAt.mpr ⟨p2.nd,by simp,λ x hx y hy z=>?_⟩,λ q hq=>?_⟩
     .rw[zAK]at hy;subst hy;subst z;exact n1 hx
     .rcases zA5.mp hq with z|z
      .exact b9 q z
      .exact bS q (zAK.mp z)
    .refine⟨zAt.mpr ⟨zAt.mpr ⟨p2.nd,by simp,λ x hx y hy z=>?_⟩,by simp,λ x hx y hy z=>?_⟩,λ q hq=>?_⟩
     .rw[zAK]at hy;subst hy;subst z;exact n1 hx
     .rw[zAK]at hy
      subst hy;subst z;rcases zA5.mp hx with z|z
      .exact n2 z
      .exact hij2 (zAK.mp z).symm
     .rcases zA5.mp hq with z|z
      .rcases zA5.mp z with z|z
       .exact b9 q z
       .exact bS q (zAK.mp z)
      .exact htwo hk q (zAK.mp z))
 rw[oQ]at q1 q2;refine⟨ip',sp',s9',s10',e,q0,by omega,q2.nd,λ q hq=>?_⟩;obtain⟨a1,a2,a3,a4,a5⟩:=q2.ok q hq;exact⟨a1,a2,a3,.inl (by omega),a5⟩
def aG4{kd:Nat}(h:kd<8):∃t:Int,atD ([1,2,4,2,3,6,1,3].map D.int) (kd:Int)= .ok (.int t)/\(kd=6->t=1):=by
 have:=aAT (os:=[1,2,4,2,3,6,1,3]) (k:=kd) (by simpa using h)
 refine⟨_,this,λ k6=>by subst k6;rfl⟩
def yd{c:Int}{most:Nat}(h1:most<=8):∃n ps,fW [.int c,.int most]= .ok (owD n ps)/\Ow n ps/\n<=(most:Int):=by
 obtain⟨n,en,hn⟩:=nH (c:=c) (k:=0) (b:=(most:Int)+1) (by decide) (by decide) (by omega) (by omega);obtain⟨kd,ek,hk⟩:=nH (c:=c) (k:=1) (b:=8) (by decide) (by decide) (by decide) (by decide);have hn8:n<=8:=by omega
 obtain⟨t,et,ht⟩:=aG4 (kd:=kd) (by omega);obtain⟨os,eo,ho⟩:=vU (c:=c) (n:=n) (by omega);have hr1:=iQ (j:=(n:Int)) (by omega) (by omega);have oQ:(cQ 0 (n:Int)).length=n:=by rw[jW];omega
 obtain⟨Y',e,ip,sp,s8,s9,s10,rfl,_,_,hip⟩:=gU (a:=gnm 8) (u:=aEw) (cQ 0 (n:Int))
  (λ j Y=>∃ip sp s8 s9 s10,Y=owE c most n kd t os ip sp s8 s9 s10/\0<=sp/\sp<=2+60*j/\Ips n kd j 0 ip) (owE c most n kd t os [] 2 .no .no .no) ⟨[],2,.no,.no,.no,rfl,by omega,by omega,by simp,λ q hq=>by simp at hq⟩ (by
   rintro j d Y hd ⟨ip,sp,s8,s9,s10,rfl,p0,p1,p2⟩;obtain⟨rfl,hlt⟩:=jX hd;have hr2:=iQ (j:=(j:Int)) (by omega) (by omega);obtain⟨ip',sp',s9',s10',e,q0,q1,q2⟩:=aHY (c:=c) (most:=most) (t:=t) (n:=n) (kd:=kd) (j:=j) (os:=os) (by omega) (by omega) ho ht (s9:=s9) (s10:=s10) p0 p1 p2;refine⟨_,?_,ip',sp',.sh (.int j),s9',s10',rfl,q0,by omega,q2⟩;rw[zE1,aEL,aBO,show(owE c most n kd t os ip sp s8 s9 s10).set 8 (.sh (.int j))=owE c most n kd t os ip sp (.sh (.int j)) s9 s10 from rfl];unfold aEw;have hi:(gJ gn (aA (aD 8) aF)) (owE c most n kd t os ip sp (.sh (.int j)) s9 s10)= .ok (cQ 0 (j:Int)):=by simp[hr2]
   rw[my,hi,bW,e])
 rw[oQ]at hip;have hzl:=wy (by omega) hip.nd λ q hq=>⟨(hip.ok q hq).2.1,(hip.ok q hq).2.2.1⟩
 obtain⟨ip2,e2,hip2⟩:∃ip2,aEx (owE c most n kd t os ip sp s8 s9 s10)= .nx (owE c most n kd t os ip2 sp s8 s9 s10)/\ip2.Nodup/\∀q∈ip2,q.1≠q.2/\q.1<n/\q.2<n:=by
  have hc:(qG (tsb (op2 (eqR false) (aD 3) (cD (.int 6)))) (tsb (op2 gtD (aD 2) (cD (.int 1))))) (owE c most n kd t os ip sp s8 s9 s10)= .ok ((kd:Int)==6&&decide (1<(n:Int))):=by
   by_cases k1:(kd:Int)=6<;>simp[k1]
  cases hb:((kd:Int)==6&&decide (1<(n:Int)))with
  |true=>
   simp only[zAW,beq_iff_eq,decide_eq_true_eq]at hb;have k6:kd=6:=by omega
   refine⟨ip++[(n-1,0)],?_,zAt.mpr ⟨hip.nd,by simp,λ x hx y hy z=>?_⟩,λ q hq=>?_⟩
   .unfold aEx
    rw[dW,hc,show((kd:Int)==6&&decide (1<(n:Int)))=true by simp[hb],bW,if_pos rfl];exact aDi (by omega) (by rw[ho.len];omega) (by rw[ho.len];omega) (by simp;omega) (by simp)
   .rw[zAK]at hy
    subst hy;subst z
    have:=(hip.ok _ hx).2.2.2.2 k6
    simp at this
   .rcases zA5.mp hq with z|z
    .exact⟨(hip.ok q z).1,(hip.ok q z).2.1,(hip.ok q z).2.2.1⟩
    .rw[zAK.mp z]
     exact⟨by simp;omega,by simp;omega,by simp;omega⟩
  |false=>
   refine⟨ip,?_,hip.nd,λ q z=>⟨(hip.ok q z).1,(hip.ok q z).2.1,(hip.ok q z).2.2.1⟩⟩;unfold aEx;rw[dW,hc,hb,bW];rfl
 have hin:∀p∈ip2.map (ar os),0<=p.1/\p.1<n/\0<=p.2/\p.2<n/\p.1≠p.2:=λ p hp=>by
  obtain⟨q,hq,rfl⟩:=zAU.mp hp;obtain⟨a1,a2,a3⟩:=hip2.2 q hq;have g:∀k,k<n->os.getD k 0∈os:=λ k hk=>by
   have:k<os.length:=by rw[ho.len];exact hk
   simp[this]
  have l1:=ho.lo _ (g q.1 a2);have l2:=ho.lo _ (g q.2 a3);refine⟨l1.1,l1.2,l2.1,l2.2,λ z=>a1 ?_⟩;have k1:q.1<os.length:=by rw[ho.len];exact a2
  have k2:q.2<os.length:=by rw[ho.len];exact a3
  have z':os.getD q.1 0=os.getD q.2 0:=z
  have:os[q.1]? =os[q.2]?:=by
   rw[zAJ k1,zAJ k2];simpa[k1,k2]using z'
  exact(zCt k1 ho.nd).mp this
 have hnd:(ip2.map (ar os)).Nodup:=lQ hip2.1 λ x hx y hy e=>by
  have gi:∀k l,k<n->l<n->os.getD k 0=os.getD l 0->k=l:=λ k l hk hl z=>by
   have k1:k<os.length:=by rw[ho.len];exact hk
   have k2:l<os.length:=by rw[ho.len];exact hl
   have:os[k]? =os[l]?:=by
    rw[zAJ k1,zAJ k2];simpa[k1,k2]using z
   exact(zCt k1 ho.nd).mp this
  obtain⟨_,x1,x2⟩:=hip2.2 x hx;obtain⟨_,y1,y2⟩:=hip2.2 y hy;have e1:os.getD x.1 0=os.getD y.1 0:=congrArg zFU e;have e2:os.getD x.2 0=os.getD y.2 0:=congrArg zGM e;exact zGL (gi _ _ x1 y1 e1) (gi _ _ x2 y2 e2)
 obtain⟨qs,s1,s2,s3⟩:=xR hnd λ p hp=>by
  obtain⟨a,b,c',d,e⟩:=hin p hp;exact⟨a,by omega,c',by omega,e⟩
 have hl2:qs.length<=3600:=by
  rw[s2.length_eq,zAF];exact wy (n:=n) (by omega) hip2.1 λ q hq=>(hip2.2 q hq).2
 refine⟨n,qs,?_,⟨by omega,by omega,hl2,λ p hp=>hin p (s2.mem_iff.mp hp),s3⟩,by omega⟩;have st:aZ 11 [.int c,.int most]=[.sh (.int c),.sh (.int most),.no,.no,.no,.no,.no,.no,.no,.no,.no]:=rfl;have et':atD [D.int 1,D.int 2,D.int 4,D.int 2,D.int 3,D.int 6,D.int 1,D.int 3] (kd:Int)= .ok (.int t):=et;have a1:bU 2 (aM aU (aA (aD 0) (aA (cD (.int 0)) (aA (op2 cG (aD 1) (cD (.int 1))) aF)))) [.sh (.int c),.sh (.int most),.no,.no,.no,.no,.no,.no,.no,.no,.no]= .nx [.sh (.int c),.sh (.int most),.sh (.int n),.no,.no,.no,.no,.no,.no,.no,.no]:=by simp[en]
 have a2:bU 3 (aM aU (aA (aD 0) (aA (cD (.int 1)) (aA (cD (.int 8)) aF)))) [.sh (.int c),.sh (.int most),.sh (.int n),.no,.no,.no,.no,.no,.no,.no,.no]= .nx [.sh (.int c),.sh (.int most),.sh (.int n),.sh (.int kd),.no,.no,.no,.no,.no,.no,.no]:=by simp[ek]
 have a3:pq 4 (op2 ixD (eU (aA (cD (.int 1)) (aA (cD (.int 2)) (aA (cD (.int 4)) (aA (cD (.int 2)) (aA (cD (.int 3)) (aA (cD (.int 6)) (aA (cD (.int 1)) (aA (cD (.int 3)) aF))))))))) (aD 3)) [.sh (.int c),.sh (.int most),.sh (.int n),.sh (.int kd),.no,.no,.no,.no,.no,.no,.no]= .nx [.sh (.int c),.sh (.int most),.sh (.int n),.sh (.int kd),.nw (.int t),.no,.no,.no,.no,.no,.no]:=by simp[et']
 have a4:bU 5 (aM gD (aA (aD 0) (aA (aD 2) aF))) [.sh (.int c),.sh (.int most),.sh (.int n),.sh (.int kd),.nw (.int t),.no,.no,.no,.no,.no,.no]= .nx [.sh (.int c),.sh (.int most),.sh (.int n),.sh (.int kd),.nw (.int t),.sh (.lst (os.map .int)),.no,.no,.no,.no,.no]:=by simp[eo]
 have a5:oG 6 (eU aF) [.sh (.int c),.sh (.int most),.sh (.int n),.sh (.int kd),.nw (.int t),.sh (.lst (os.map .int)),.no,.no,.no,.no,.no]= .nx [.sh (.int c),.sh (.int most),.sh (.int n),.sh (.int kd),.nw (.int t),.sh (.lst (os.map .int)),.ow (.lst []),.no,.no,.no,.no]:=by first|rfl|simp
 have a6:bU 7 (cD (.int 2)) [.sh (.int c),.sh (.int most),.sh (.int n),.sh (.int kd),.nw (.int t),.sh (.lst (os.map .int)),.ow (.lst []),.no,.no,.no,.no]= .nx (owE c most n kd t os [] 2 .no .no .no):=by first|rfl|simp
 have a7:n8 (gJ gn (aA (aD 2) aF)) (gnm 8) aEw (owE c most n kd t os [] 2 .no .no .no)= .nx (owE c most n kd t os ip sp s8 s9 s10):=by
  have hi:(gJ gn (aA (aD 2) aF)) (owE c most n kd t os [] 2 .no .no .no)= .ok (cQ 0 (n:Int)):=by simp[hr1]
  rw[my,hi,bW];exact e
 have a8:opA cJ (aA (jD 6) aF) (owE c most n kd t os ip2 sp s8 s9 s10)= .ok (.lst (qs.map pD)):=by
  have hv:(aA (jD 6) aF) (owE c most n kd t os ip2 sp s8 s9 s10)= .ok [.lst ((ip2.map (ar os)).map pD)]:=by first|rfl|simp
  rw[gq,hv,aK,s1,lE]
 have a9:retS (dD (aA (bT (aD 2)) (aA (opA bM (aA (opA cJ (aA (jD 6) aF)) aF)) aF))) (owE c most n kd t os ip2 sp s8 s9 s10)= .rt (owD n qs):=by
  have ha:aA (opA cJ (aA (jD 6) aF)) aF (owE c most n kd t os ip2 sp s8 s9 s10)= .ok [.lst (qs.map pD)]:=by rw[aX,a8,aK,bR,aK]
  have hb:opA bM (aA (opA cJ (aA (jD 6) aF)) aF) (owE c most n kd t os ip2 sp s8 s9 s10)= .ok (.tup (qs.map pD)):=by rw[gq,ha,aK,gk,lE]
  have hc:bT (aD 2) (owE c most n kd t os ip2 sp s8 s9 s10)= .ok (.int n):=by first|rfl|simp
  rw[bf,sU,aX,hc,aK,aX,hb,aK,bR,aK,aK,aK,if_pos (by simp),bW];rfl
 simp only[fW,bB,st,eG];rw[aO,a1,aj,aO,a2,aj,aO,a3,aj,aO,a4,aj,aO,a5,aj,aO,a6,aj,aO,a7,aj,aO,e2,aj,a9]
theorem aLQ{Y:En}:∀(ps:gX),lcL [.no,.no] (rR 2 (dO (gnm 0) (dO (gnm 1) tL))) dZ (op2 ltD (aD 0) (aD 1)) (ps.map pD)= .ok (ps.map λ p=>.bl (decide (p.1<p.2)))
 |[]=>rfl
 |p::ps=>by
  unfold lcL;simp[pD,aLQ (Y:=Y) ps]
def aDD{n:Int}(h:Ow n ps)(low:∀p∈ps,p.1<p.2):nO [.int n,.tup (ps.map pD)]= .ok (.bl true):=by
 have hl:=h.len;have e:=jB (m:=n) (d:=.tup (ps.map pD)) (by simpa[pln]using aBL ps) (by simp[aDU];lia);rw[h.rp]at e;have el:=aLQ (Y:=[]) ps;have ei:lcD (cj (aD 1)) [none,none] (rR 2 (dO (gnm 0) (dO (gnm 1) tL))) dZ (op2 ltD (aD 0) (aD 1)) [.sh (.int n),.sh (.tup (ps.map pD))]= .ok (.lst (ps.map λ p=>.bl (decide (p.1<p.2)))):=by
  have hi:cj (aD 1) (shE [.sh (.int n),.sh (.tup (ps.map pD))])= .ok (ps.map pD):=by simp[shE,aF5]
  unfold lcD;rw[hi,aK,if_pos (by rw[szl,zAF];lia)]
  show(match lcL [.no,.no] _ dZ _ (ps.map pD)with| .ok l=>Rs.ok (D.lst l)|_=>Rs.st)=_
  rw[el]
 have ha:opA (aBe λ bs=>bs.all id) (aA (lcD (cj (aD 1)) [none,none] (rR 2 (dO (gnm 0) (dO (gnm 1) tL))) dZ (op2 ltD (aD 0) (aD 1))) aF) [.sh (.int n),.sh (.tup (ps.map pD))]= .ok (.bl true):=by
  rw[gq,aX,ei,aK,bR,aK,aK,aI3,lE];rw[zAu.mpr λ p hp=>decide_eq_true (low p hp)]
 have st:aZ 2 [.int n,.tup (ps.map pD)]=[.sh (.int n),.sh (.tup (ps.map pD))]:=rfl;have ec:aM bD (aA (aD 0) (aA (aD 1) aF)) [.sh (.int n),.sh (.tup (ps.map pD))]= .ok (.bl true):=by rw[eY];exact e
 simp only[nO,iJ,bB,st];rw[bf,ww,ec,ha];rfl
def aA5(h:Ow n ps)(low:∀p∈ps,p.1<p.2):iW [owD n ps]= .ok (.bl true):=by
 have e1:=yg (d:=.int n) rfl;have e2:=aDD h low;have e3:aAZ (.int n)=true:=by simp[aAZ,h.n0,h.n1]
 rw[e3]at e1;simp[iW,lq,owD,aZ,e1,e2]
def mn(a b:Int):Int:=if b<a then b else a
def mx(a b:Int):Int:=if b>a then b else a
def aJw(h1:0<=a)(h2:a<n)(h3:0<=b)(h4:b<n)(ne:a≠b):0<=mn a b/\mn a b<mx a b/\mx a b<n:=by
 by_cases h:b<a
 .rw[mn,mx,if_pos h,if_neg (by lia)]
  exact⟨h3,h,h2⟩
 .rw[mn,mx,if_neg h,if_pos (by lia)]
  exact⟨h1,by lia,h4⟩
def aFC(a b:Int):(mn a b=a/\mx a b=b)\/(mn a b=b/\mx a b=a):=by
 by_cases h:b<a
 .rw[mn,mx,if_pos h,if_neg (by lia)]
  exact .inr ⟨rfl,rfl⟩
 .rw[mn,mx,if_neg h]
  by_cases h2:b>a
  .rw[if_pos h2];exact .inl ⟨rfl,rfl⟩
  .rw[if_neg h2];exact .inl ⟨rfl,by lia⟩
def aJx(e1:mn a b=mn c d)(e2:mx a b=mx c d):(a=c/\b=d)\/(a=d/\b=c):=by
 rcases aFC a b with ⟨p,q⟩|⟨p,q⟩<;>rcases aFC c d with ⟨r,s⟩|⟨r,s⟩<;>rw[p,r]at e1<;>rw[q,s]at e2
 .exact .inl ⟨e1,e2⟩
 .exact .inr ⟨e1,e2⟩
 .exact .inr ⟨e2,e1⟩
 .exact .inl ⟨e2,e1⟩
def ti(os:List Int)(q:Nat×Nat):Int×Int:=(mn (os.getD q.1 0) (os.getD q.2 0),mx (os.getD q.1 0) (os.getD q.2 0))
abbrev weE(c most:Int)(n kd:Nat)(t:Int)(os:List Int)(ip:List (Nat×Nat))(sp:Int)(s8 s9 s10:Slot):En:=
 [.sh (.int c),.sh (.int most),.sh (.int n),.sh (.int kd),.nw (.int t),.sh (.lst (os.map .int)),.ow (.lst ((ip.map (ti os)).map pD)),.sh (.int sp),s8,s9,s10]
def aOw:inR false (.int k) (.tup [.int 5,.int 6])= .ok (.bl (inD (.int k) [.int 5,.int 6])):=rfl
def aNF:eqR false (.tup [.int a,.int b]) (.tup [.int c,.int d])= .ok (.bl (eqD (.tup [.int a,.int b]) (.tup [.int c,.int d]))):=rfl
section
variable{c most t sp:Int}{n kd i j:Nat}{os:List Int}{ip:List (Nat×Nat)}{b:Bool}
def aN1:∃b',wA (weE c most n kd t os ip sp (.sh (.int j)) (.sh (.int i)) (.sh (.bl b)))= .nx (weE c most n kd t os ip sp (.sh (.int j)) (.sh (.int i)) (.sh (.bl b'))):=by
 unfold wA;rw[dW];have hc:tsb (op2 (inR false) (aD 3) (dD (aA (cD (.int 5)) (aA (cD (.int 6)) aF)))) (weE c most n kd t os ip sp (.sh (.int j)) (.sh (.int i)) (.sh (.bl b)))= .ok (inD (.int kd) [.int 5,.int 6]):=by simp[aOw]
 rw[hc,bW];cases inD (.int kd) [.int 5,.int 6]with
 |false=>exact⟨b,rfl⟩
 |true=>
  rw[if_pos rfl];by_cases k1:(j:Int)=(i:Int)+1
  .exact⟨true,by simp[k1]⟩
  .by_cases k2:(kd:Int)=6
   .exact⟨_,by simp[k1,k2,aNF];rfl⟩
   .exact⟨false,by simp[k1,k2]⟩
def aN0:∃b',wB (weE c most n kd t os ip sp (.sh (.int j)) (.sh (.int i)) (.sh (.bl b)))= .nx (weE c most n kd t os ip sp (.sh (.int j)) (.sh (.int i)) (.sh (.bl b'))):=by
 unfold wB;by_cases k2:(kd:Int)=7
 .exact⟨_,by simp[k2];rfl⟩
 .exact⟨b,by simp[k2]⟩
def aNZ:∃b',wC (weE c most n kd t os ip sp (.sh (.int j)) (.sh (.int i)) (.sh (.bl b)))= .nx (weE c most n kd t os ip sp (.sh (.int j)) (.sh (.int i)) (.sh (.bl b'))):=by
 unfold wC;have hm:oZ (.int ((i:Int)+j)) (.int 2)= .ok (.int (((i:Int)+j)%2)):=j6 (by decide);by_cases k2:(kd:Int)=8
 .cases b with
  |true=>exact⟨_,by simp[k2,hm];rfl⟩
  |false=>exact⟨false,by simp[k2]⟩
 .exact⟨b,by simp[k2]⟩
def aNY(hz:ip.length<16777216)(hi:i<os.length)(hj:j<os.length):∃ip',wD (weE c most n kd t os ip sp (.sh (.int j)) (.sh (.int i)) (.sh (.bl b)))= .nx (weE c most n kd t os ip' sp (.sh (.int j)) (.sh (.int i)) (.sh (.bl b)))/\(ip'=ip\/ip'=ip++[(i,j)]):=by
 unfold wD;cases b with
 |false=>exact⟨ip,by simp,.inl rfl⟩
 |true=>
  refine⟨ip++[(i,j)],?_,.inr rfl⟩;have e1:=aAT hi;have e2:=aAT hj;simp[jo,e1,e2,hz,ti,pD,mn,mx]
end
structure Tip(n j i:Nat)(ip:List (Nat×Nat)):Prop where
 nd:ip.Nodup
 ok:∀q∈ip,q.1<q.2/\q.2<n/\(q.2<j\/(q.2=j/\q.1<i))
def aGY{n kd j:Nat}{os:List Int}(hn:n<=60)(hj:j<n)(ho:aKq n os){sp:Int}(h0:0<=sp)(h1:sp<=2+60*j)(hip:Tip n j 0 ip):
  ∃ip' sp' s9' s10',forL (gnm 9) wIn (cQ 0 (j:Int)) (weE c most n kd t os ip sp (.sh (.int j)) s9 s10)= .nx (weE c most n kd t os ip' sp' (.sh (.int j)) s9' s10')/\0<=sp'/\sp'<=2+60*(j+1)/\Tip n (j+1) 0 ip':=by
 have oQ:(cQ 0 (j:Int)).length=j:=by rw[jW];lia
 obtain⟨Y',e,ip',sp',s9',s10',rfl,q0,q1,q2⟩:=gU (a:=gnm 9) (u:=wIn) (cQ 0 (j:Int))
  (λ i Y=>∃ip sp s9 s10,Y=weE c most n kd t os ip sp (.sh (.int j)) s9 s10/\0<=sp/\sp<=2+60*j+i/\Tip n j i ip) (weE c most n kd t os ip sp (.sh (.int j)) s9 s10) ⟨ip,sp,s9,s10,rfl,h0,by lia,hip⟩ (by
   rintro i d Y hd ⟨ip,sp,s9,s10,rfl,p0,p1,p2⟩;obtain⟨rfl,hlt⟩:=jX hd;have hij:i<j:=by lia
   obtain⟨h,eh,hh0,hh1⟩:=pY (c:=c) (k:=sp+1) (b:=8) (by lia) (by lia) (by decide) (by decide);have hzl:=wy hn p2.nd λ q hq=>by have:=p2.ok q hq;exact⟨by lia,by lia⟩
   have hi':i<os.length:=by rw[ho.len];lia
   have hj':j<os.length:=by rw[ho.len];lia
   obtain⟨b1,e1⟩:=aN1 (c:=c) (most:=most) (n:=n) (kd:=kd) (t:=t) (os:=os) (ip:=ip) (sp:=sp+1) (i:=i) (j:=j) (b:=decide (h<t));obtain⟨b2,e2⟩:=aN0 (c:=c) (most:=most) (n:=n) (kd:=kd) (t:=t) (os:=os) (ip:=ip) (sp:=sp+1) (i:=i) (j:=j) (b:=b1);obtain⟨b3,e3⟩:=aNZ (c:=c) (most:=most) (n:=n) (kd:=kd) (t:=t) (os:=os) (ip:=ip) (sp:=sp+1) (i:=i) (j:=j) (b:=b2);obtain⟨ip2,e4,c2⟩:=aNY (c:=c) (most:=most) (n:=n) (kd:=kd) (t:=t) (os:=os) (ip:=ip) (sp:=sp+1) (i:=i) (j:=j) (b:=b3) (by lia) hi' hj';refine⟨_,?_,ip2,sp+1,.sh (.int i),.sh (.bl b3),rfl,by lia,by lia,?_⟩
   .have s7:bU 7 (op2 cG (aD 7) (cD (.int 1))) (weE c most n kd t os ip sp (.sh (.int j)) (.sh (.int i)) s10)= .nx (weE c most n kd t os ip (sp+1) (.sh (.int j)) (.sh (.int i)) s10):=by first|rfl|simp
    have s11:bU 10 (op2 ltD (aM aU (aA (aD 0) (aA (aD 7) (aA (cD (.int 8)) aF)))) (jC 4)) (weE c most n kd t os ip (sp+1) (.sh (.int j)) (.sh (.int i)) s10)= .nx (weE c most n kd t os ip (sp+1) (.sh (.int j)) (.sh (.int i)) (.sh (.bl (decide (h<t))))):=by simp[eh]
    rw[zE1];show wIn (weE c most n kd t os ip sp (.sh (.int j)) (.sh (.int i)) s10)=_;unfold wIn;rw[aO,s7,aj,aO,s11,aj,aO,e1,aj,aO,e2,aj,aO,e3,aj,e4]
   .have b9:∀q∈ip,q.1<q.2/\q.2<n/\(q.2<j\/(q.2=j/\q.1<i+1)):=λ q hq=>by
     obtain⟨a1,a2,a3⟩:=p2.ok q hq;exact⟨a1,a2,by lia⟩
    have n1:(i,j)∉ip:=λ hm=>by
     obtain⟨_,_,a4⟩:=p2.ok _ hm;simp only at a4;lia
    rcases c2 with rfl|rfl
    .exact⟨p2.nd,b9⟩
    .refine⟨zAt.mpr ⟨p2.nd,by simp,λ x hx y hy z=>?_⟩,λ q hq=>?_⟩
     .rw[zAK]at hy;subst hy;subst z;exact n1 hx
     .rcases zA5.mp hq with z|z
      .exact b9 q z
      .rw[zAK.mp z]
       exact⟨hij,hj,.inr ⟨rfl,by simp⟩⟩)
 rw[oQ]at q1 q2;refine⟨ip',sp',s9',s10',e,q0,by lia,q2.nd,λ q hq=>?_⟩;obtain⟨a1,a2,a3⟩:=q2.ok q hq;exact⟨a1,a2,.inl (by lia)⟩
def aF6{kd:Nat}(h:kd<9):∃t:Int,atD ([1,2,3,5,7,0,0,0,4].map D.int) (kd:Int)= .ok (.int t):=by
 have:=aAT (os:=[1,2,3,5,7,0,0,0,4]) (k:=kd) (by simpa using h)
 exact⟨_,this⟩
def aEA{most:Nat}(h1:most<=9):∃n ps,mC [.int c,.int most]= .ok (owD n ps)/\Ow n ps/\(∀p∈ps,p.1<p.2)/\ps.length<=36/\n<=most:=by
 obtain⟨n,en,hn⟩:=nH (c:=c) (k:=0) (b:=(most:Int)+1) (by decide) (by decide) (by lia) (by lia);obtain⟨kd,ek,hk⟩:=nH (c:=c) (k:=1) (b:=9) (by decide) (by decide) (by decide) (by decide);have hn8:n<=9:=by lia
 obtain⟨t,et⟩:=aF6 (kd:=kd) (by lia);obtain⟨os,eo,ho⟩:=vU (c:=c) (n:=n) (by lia);have hr1:=iQ (j:=(n:Int)) (by lia) (by lia);have oQ:(cQ 0 (n:Int)).length=n:=by rw[jW];lia
 obtain⟨Y',e,ip,sp,s8,s9,s10,rfl,_,_,hip⟩:=gU (a:=gnm 8) (u:=aIp) (cQ 0 (n:Int))
  (λ j Y=>∃ip sp s8 s9 s10,Y=weE c most n kd t os ip sp s8 s9 s10/\0<=sp/\sp<=2+60*j/\Tip n j 0 ip) (weE c most n kd t os [] 2 .no .no .no) ⟨[],2,.no,.no,.no,rfl,by lia,by lia,by simp,λ q hq=>by simp at hq⟩ (by
   rintro j d Y hd ⟨ip,sp,s8,s9,s10,rfl,p0,p1,p2⟩;obtain⟨rfl,hlt⟩:=jX hd;have hr2:=iQ (j:=(j:Int)) (by lia) (by lia);obtain⟨ip',sp',s9',s10',e,q0,q1,q2⟩:=aGY (c:=c) (most:=most) (t:=t) (n:=n) (kd:=kd) (j:=j) (os:=os) (by lia) (by lia) ho (s9:=s9) (s10:=s10) p0 p1 p2;refine⟨_,?_,ip',sp',.sh (.int j),s9',s10',rfl,q0,by lia,q2⟩;rw[zE1,aEL,aBO,show(weE c most n kd t os ip sp s8 s9 s10).set 8 (.sh (.int j))=weE c most n kd t os ip sp (.sh (.int j)) s9 s10 from rfl];unfold aIp;have hi:(gJ gn (aA (aD 8) aF)) (weE c most n kd t os ip sp (.sh (.int j)) s9 s10)= .ok (cQ 0 (j:Int)):=by simp[hr2]
   rw[my,hi,bW,e])
 rw[oQ]at hip;have gi:∀k l,k<n->l<n->os.getD k 0=os.getD l 0->k=l:=λ k l hk hl z=>by
  have k1:k<os.length:=by rw[ho.len];exact hk
  have k2:l<os.length:=by rw[ho.len];exact hl
  have:os[k]? =os[l]?:=by
   rw[zAJ k1,zAJ k2];simpa[k1,k2]using z
  exact(zCt k1 ho.nd).mp this
 have g:∀k,k<n->0<=os.getD k 0/\os.getD k 0<n:=λ k hk=>by
  have:k<os.length:=by rw[ho.len];exact hk
  exact ho.lo _ (by simp[this])
 have hin:∀p∈ip.map (ti os),0<=p.1/\p.1<p.2/\p.2<n:=λ p hp=>by
  obtain⟨q,hq,rfl⟩:=zAU.mp hp;obtain⟨a1,a2,_⟩:=hip.ok q hq;have l1:=g q.1 (by lia);have l2:=g q.2 a2;have ne:os.getD q.1 0≠os.getD q.2 0:=λ z=>by have:=gi _ _ (by lia) a2 z;lia
  exact aJw l1.1 l1.2 l2.1 l2.2 ne
 have hnd:(ip.map (ti os)).Nodup:=lQ hip.nd λ x hx y hy e=>by
  obtain⟨x1,x2,_⟩:=hip.ok x hx;obtain⟨y1,y2,_⟩:=hip.ok y hy;have e1:mn (os.getD x.1 0) (os.getD x.2 0)=mn (os.getD y.1 0) (os.getD y.2 0):=congrArg zFU e;have e2:mx (os.getD x.1 0) (os.getD x.2 0)=mx (os.getD y.1 0) (os.getD y.2 0):=congrArg zGM e;have key:=aJx e1 e2;rcases key with ⟨k1,k2⟩|⟨k1,k2⟩
  .exact zGL (gi _ _ (by lia) (by lia) k1) (gi _ _ x2 y2 k2)
  .have:=gi _ _ (by lia) y2 k1
   have:=gi _ _ x2 (by lia) k2
   lia
 obtain⟨qs,s1,s2,s3,s4⟩:=aAv hnd λ p hp=>by
  obtain⟨a,b,c'⟩:=hin p hp;exact⟨a,b,by lia⟩
 have hl2:qs.length<=36:=by rw[s2.length_eq];exact s4
 refine⟨n,qs,?_,⟨by lia,by lia,by lia,λ p hp=>by
  have:=hin p (s2.mem_iff.mp hp)
  exact⟨this.1,by lia,by lia,this.2.2,by lia⟩,s3⟩,λ p hp=>(hin p (s2.mem_iff.mp hp)).2.1,hl2,by lia⟩
 have st:aZ 11 [.int c,.int most]=[.sh (.int c),.sh (.int most),.no,.no,.no,.no,.no,.no,.no,.no,.no]:=rfl;have et':atD [D.int 1,D.int 2,D.int 3,D.int 5,D.int 7,D.int 0,D.int 0,D.int 0,D.int 4] (kd:Int)= .ok (.int t):=et;have a1:bU 2 (aM aU (aA (aD 0) (aA (cD (.int 0)) (aA (op2 cG (aD 1) (cD (.int 1))) aF)))) [.sh (.int c),.sh (.int most),.no,.no,.no,.no,.no,.no,.no,.no,.no]= .nx [.sh (.int c),.sh (.int most),.sh (.int n),.no,.no,.no,.no,.no,.no,.no,.no]:=by simp[en]
 have a2:bU 3 (aM aU (aA (aD 0) (aA (cD (.int 1)) (aA (cD (.int 9)) aF)))) [.sh (.int c),.sh (.int most),.sh (.int n),.no,.no,.no,.no,.no,.no,.no,.no]= .nx [.sh (.int c),.sh (.int most),.sh (.int n),.sh (.int kd),.no,.no,.no,.no,.no,.no,.no]:=by simp[ek]
 have a3:pq 4 (op2 ixD (eU (aA (cD (.int 1)) (aA (cD (.int 2)) (aA (cD (.int 3)) (aA (cD (.int 5)) (aA (cD (.int 7)) (aA (cD (.int 0)) (aA (cD (.int 0)) (aA (cD (.int 0)) (aA (cD (.int 4)) aF)))))))))) (aD 3)) [.sh (.int c),.sh (.int most),.sh (.int n),.sh (.int kd),.no,.no,.no,.no,.no,.no,.no]= .nx [.sh (.int c),.sh (.int most),.sh (.int n),.sh (.int kd),.nw (.int t),.no,.no,.no,.no,.no,.no]:=by simp[et']
 have a4:bU 5 (aM gD (aA (aD 0) (aA (aD 2) aF))) [.sh (.int c),.sh (.int most),.sh (.int n),.sh (.int kd),.nw (.int t),.no,.no,.no,.no,.no,.no]= .nx [.sh (.int c),.sh (.int most),.sh (.int n),.sh (.int kd),.nw (.int t),.sh (.lst (os.map .int)),.no,.no,.no,.no,.no]:=by simp[eo]
 have a5:oG 6 (eU aF) [.sh (.int c),.sh (.int most),.sh (.int n),.sh (.int kd),.nw (.int t),.sh (.lst (os.map .int)),.no,.no,.no,.no,.no]= .nx [.sh (.int c),.sh (.int most),.sh (.int n),.sh (.int kd),.nw (.int t),.sh (.lst (os.map .int)),.ow (.lst []),.no,.no,.no,.no]:=by first|rfl|simp
 have a6:bU 7 (cD (.int 2)) [.sh (.int c),.sh (.int most),.sh (.int n),.sh (.int kd),.nw (.int t),.sh (.lst (os.map .int)),.ow (.lst []),.no,.no,.no,.no]= .nx (weE c most n kd t os [] 2 .no .no .no):=by first|rfl|simp
 have a7:n8 (gJ gn (aA (aD 2) aF)) (gnm 8) aIp (weE c most n kd t os [] 2 .no .no .no)= .nx (weE c most n kd t os ip sp s8 s9 s10):=by
  have hi:(gJ gn (aA (aD 2) aF)) (weE c most n kd t os [] 2 .no .no .no)= .ok (cQ 0 (n:Int)):=by simp[hr1]
  rw[my,hi,bW];exact e
 have a8:opA cJ (aA (jD 6) aF) (weE c most n kd t os ip sp s8 s9 s10)= .ok (.lst (qs.map pD)):=by
  have hv:(aA (jD 6) aF) (weE c most n kd t os ip sp s8 s9 s10)= .ok [.lst ((ip.map (ti os)).map pD)]:=by first|rfl|simp
  rw[gq,hv,aK,s1,lE]
 have a9:retS (dD (aA (bT (aD 2)) (aA (opA bM (aA (opA cJ (aA (jD 6) aF)) aF)) aF))) (weE c most n kd t os ip sp s8 s9 s10)= .rt (owD n qs):=by
  have ha:aA (opA cJ (aA (jD 6) aF)) aF (weE c most n kd t os ip sp s8 s9 s10)= .ok [.lst (qs.map pD)]:=by rw[aX,a8,aK,bR,aK]
  have hb:opA bM (aA (opA cJ (aA (jD 6) aF)) aF) (weE c most n kd t os ip sp s8 s9 s10)= .ok (.tup (qs.map pD)):=by rw[gq,ha,aK,gk,lE]
  have hc:bT (aD 2) (weE c most n kd t os ip sp s8 s9 s10)= .ok (.int n):=by first|rfl|simp
  rw[bf,sU,aX,hc,aK,aX,hb,aK,bR,aK,aK,aK,if_pos (by simp),bW];rfl
 simp only[mC,jK,bB,st];rw[aO,a1,aj,aO,a2,aj,aO,a3,aj,aO,a4,aj,aO,a5,aj,aO,a6,aj,aO,a7,aj,a9]
def nJ(ps:gX):List Int->Bool
 |a::b::r=>decide ((a,b)∈ps)&&nJ ps (b::r)
 |_=>true
def aFX{ws:List Int}{ts:List D}(e:ws.map D.int=ts)(hne:ws≠[]):atD ts (-1)= .ok (.int (ws.getLastD 0)):=by
 subst e;have hl:0<ws.length:=zDX.mpr hne;have hx:ixN (ws.map D.int).length (-1)=some (ws.length-1):=by
  unfold ixN;rw[zAF,if_neg (by lia),if_pos (by lia)];congr 1;lia
 have hg:(ws.map D.int)[ws.length-1]? =some (.int (ws.getLastD 0)):=by
  rw[zA2]
  have:ws[ws.length-1]? =some (ws.getLastD 0):=by
   rw[zC5,List.getLast?_eq_getElem?];cases c:ws[ws.length-1]? with
   |none=>exact absurd (zC3.mp c) (by lia)
   |some x=>rfl
  rw[this];rfl
 unfold atD atI;rw[hx];simp only[zHH,hg]
def aGD(l:List Int):ou (l.map .int)=true:=by
 induction l with
 |nil=>rfl
 |cons a l ih=>simp[ou,imm,ih]
def aCh(l:List Int):imm (tupI l)=true:=by simp[tupI,imm,aGD]
theorem aFI:∀l:gX,ou (l.map pD)=true
 |[]=>rfl
 |p::l=>by simp[ou,imm,pD,aFI l]
def aOP{f:En->Rs D}{Y:En}{n:Int}(hf:f Y= .ok (.int n))(h0:0<=n)(h1:n<=60):lrD f Y= .ok (.lst (cQ 0 n)):=by
 unfold lrD;rw[hf,aK];unfold lrR;simp;lia
def upI(n:Int):List Int:=(zAf n.toNat).map λ(k:Nat)=>(k:Int)
def aBE(n:Int):cQ 0 n=(upI n).map .int:=by
 unfold cQ upI;rw[zA4,show(n-0).toNat=n.toNat by lia];exact zCE λ k _=>by simp
def xH(n:Int):(upI n).Nodup:=by
 unfold upI;rw[zF8,zHY];exact zHl.imp λ h e=>h (by lia)
def m8:x∈upI n↔0<=x/\x<n:=by
 unfold upI;rw[zAU];constructor
 .rintro⟨k,hk,rfl⟩
  have:=zB9.mp hk
  lia
 .rintro⟨h0,h1⟩
  exact⟨x.toNat,zB9.mpr (by lia),by lia⟩
def qg(n:Int):(upI n).length=n.toNat:=by unfold upI;simp
theorem sG:∀{ws:List Int} (h:ws≠[]),nJ es ws=true->(ws.getLast h,v)∈es->nJ es (ws++[v])=true
 |[a],_,_,h2=>by simpa[nJ]using h2
 |a::b::r,_,h1,h2=>by
  simp only[nJ,zAW,decide_eq_true_eq]at h1
  have:=sG (ws:=b::r) (by simp) h1.2 (by simpa using h2)
  rw[zFI,zFI,nJ,zAW,decide_eq_true_eq];exact⟨h1.1,by simpa using this⟩
def yI{left ws:List Int}(h1:left.Nodup)(h2:ws.Nodup)(h3:∀w∈ws,w∈left):(ws++left.filter λ x=>!decide (x∈ws)).Perm left:=by
 rw[List.perm_ext_iff_of_nodup]
 .intro a
  rw[zA5,zAh];constructor
  .rintro(h|h)
   .exact h3 a h
   .exact h.1
  .intro h
   by_cases hw:a∈ws
   .exact .inl hw
   .exact .inr ⟨h,by simp[hw]⟩
 .rw[zAt]
  refine⟨h2,h1.filter _,λ a ha b hb e=>?_⟩;subst e
  have:=(zAh.mp hb).2
  simp[ha]at this
 .exact h1
def aIM(l:List Int):eqR true (.lst (l.map .int)) (.lst [])= .ok (.bl (!l.isEmpty)):=by
 obtain⟨h1,h2⟩:=lZ l;have e:eqD (.lst (l.map .int)) (.lst [])=l.isEmpty:=by cases l<;>simp[eqD,tY]
 unfold eqR;rw[if_pos (by simp[gr,ak,aq,h1,h2]),e];rfl
theorem aHk{c:En->Rs Bool}{b:En->Ou}{I:Nat->En->Prop}(st:∀m Y,I m Y->c Y= .ok false\/(c Y= .ok true/\∃Y' m',b Y= .nx Y'/\m'<m/\I m' Y')):
  ∀(n m:Nat) (Y:En),m<n->I m Y->∃Y' m',itW c b n Y= .nx Y'/\I m' Y'/\c Y'= .ok false
 |0,_,_,h,_=>absurd h (zIK _)
 |n+1,m,Y,h,hI=>by
  rcases st m Y hI with e|⟨e,Y',m',e2,hm,hI'⟩
  .exact⟨Y,m,by unfold itW;rw[e];rfl,hI,e⟩
  .obtain⟨Y2,m2,e3,r⟩:=aHk st n m' Y' (by lia) hI'
   refine⟨Y2,m2,?_,r⟩;unfold itW;rw[e,bW,if_pos rfl,e2];exact e3
def xG{c:En->Rs Bool}{b:En->Ou}(I:Nat->En->Prop)(st:∀m Y,I m Y->c Y= .ok false\/(c Y= .ok true/\∃Y' m',b Y= .nx Y'/\m'<m/\I m' Y')){m:Nat}{Y:En}(hm:m<1000000)(h:I m Y):
  ∃Y' m',qd c b Y= .nx Y'/\I m' Y'/\c Y'= .ok false:=aHk st fuel m Y hm h
def aFD{p q:Int×Int}:ltP p q=true↔p.1<q.1\/p.1=q.1/\p.2<q.2:=by
 unfold ltP;have e:HT.lexLt [p.1,p.2] [q.1,q.2]=true↔p.1<q.1\/p.1=q.1/\p.2<q.2:=by
  by_cases h1:p.1=q.1
  .by_cases h2:p.2=q.2
   .simp[HT.lexLt,h1,h2]
   .simp[HT.lexLt,h1,h2]
  .simp[HT.lexLt,h1]
 exact e
def aGr{ps:gX}:ud ps=true↔ps.Pairwise λ p q=>p.1<q.1\/p.1=q.1/\p.2<q.2:=by
 constructor
 .intro h
  have h':=aBF.mp h;clear h;induction ps with
  |nil=>exact .nil
  |cons p ps ih=>
   have hs:∀(i:Nat) (p q:Int×Int),ps[i]? =some p->ps[i+1]? =some q->ltP p q=true:=λ i a b e1 e2=>h' (i+1) a b e1 e2
   have hp:=ih hs;refine zAx.mpr ⟨λ q hq=>?_,hp⟩;cases ps with
   |nil=>cases hq
   |cons r rs=>
    have h1:=aFD.mp (h' 0 p r rfl rfl);rcases zAQ.mp hq with rfl|hq
    .exact h1
    .have h2:=(zAx.mp hp).1 q hq
     lia
 .intro h
  rw[aBF];intro i p q e1 e2;rw[aFD];obtain⟨h1,rfl⟩:=zAO.mp e1;obtain⟨h2,rfl⟩:=zAO.mp e2;exact zC6.mp h i (i+1) h1 h2 (zBd i)
def aAP{ps:gX}(h:ud ps=true):ps.Nodup:=by
 have:=aGr.mp h
 rw[zF8];exact this.imp λ{a b} h e=>by subst e;lia
def aIL(qs:gX):eqR false (.lst (qs.map pD)) (.lst [])= .ok (.bl qs.isEmpty):=by
 obtain⟨h1,h2⟩:=ux qs;have e:eqD (.lst (qs.map pD)) (.lst [])=qs.isEmpty:=by cases qs<;>simp[eqD,tY]
 have h3:decide (cN (qs.map pD)+1<=60)=true:=by simp;lia
 unfold eqR;simp[ak,aq,gr,cN,h2,e];lia
def aO6:aCr neg (.int i) (aCt ps)= .ok (.bl (neg !=(ps.lookup i).isSome)):=by
 unfold aCr aCt;dsimp only;rw[ue]
def aO4(h:ps.lookup i=some d):wN (aCt ps) (.int i)= .ok d:=by
 unfold wN aCt;dsimp only;rw[ue];dsimp only;rw[h]
def aHE(h:i∉ps.map (·.1)):aDc ps i d=ps++[(i,d)]:=by
 unfold aDc;rw[if_neg];rw[zEF];rintro⟨p,hp,e⟩;exact h (zAU.mpr ⟨p,hp,of_decide_eq_true e⟩)
theorem aAb:∀{qs acc:List (Int×D)},(acc.map (·.1)++qs.map (·.1)).Nodup->yw acc qs=acc++qs
 |[],acc,_=>by simp[yw]
 |q::qs,acc,h=>by
  have hn:q.1∉acc.map (·.1):=λ hm=>by
   rw[zAt]at h;exact h.2.2 _ hm _ (by simp) rfl
  have e:yw acc (q::qs)=yw (aDc acc q.1 q.2) qs:=rfl;rw[e,aHE hn,aAb (by simpa using h)];simp
def aCU{l m:List Int}(hf:f (shE Y)= .ok (l.map .int))(hs:stE js (shE Y)=[.no,.sh (.tup (m.map .int))]\/stE js (shE Y)=[.no,.sh (.lst (m.map .int))])(hl:l.length<=1000):
  lcD f js (gnm 0) (tsb (op2 (inR true) (aD 0) (aD 1))) (bT (aD 0)) Y= .ok (.lst ((l.filter λ x=>!decide (x∈m)).map .int)):=by
 refine iy hf (by rw[zAF];lia) ?_;rcases hs with hs|hs<;>rw[hs]
 .refine mq (fg:=gnm 0) (f:=D.int) (g:=D.int) (t:=λ x=>!decide (x∈m)) l λ x _=>⟨[.sh (.int x),.sh (.tup (m.map .int))],rfl,?_,by simp⟩
  have a2:aD 1 [.sh (.int x),.sh (.tup (m.map .int))]= .ok (.tup (m.map .int)):=rfl;have a3:aD 0 [.sh (.int x),.sh (.tup (m.map .int))]= .ok (.int x):=rfl;rw[gm,cR,a3,aK,a2,aK,aHr,lE,aK];rfl
 .refine mq (fg:=gnm 0) (f:=D.int) (g:=D.int) (t:=λ x=>!decide (x∈m)) l λ x _=>⟨[.sh (.int x),.sh (.lst (m.map .int))],rfl,?_,by simp⟩
  have a2:aD 1 [.sh (.int x),.sh (.lst (m.map .int))]= .ok (.lst (m.map .int)):=rfl;have a3:aD 0 [.sh (.int x),.sh (.lst (m.map .int))]= .ok (.int x):=rfl;rw[gm,cR,a3,aK,a2,aK,aFH,lE,aK];rfl
structure Dp(ps qs:gX):Prop where
 sub:qs.Sublist ps
 u1:(qs.map (·.1)).Nodup
 u2:(qs.map (·.2)).Nodup
def aNJ{ps qs:gX}(h:qs.length<=3600):dpC [.sh (.int c),.sh (owD n ps),.ow (.lst (qs.map pD)),s3,.sh (pD p)]= .ok (.lst ((qs.filter λ q=>(q.1==p.1)||(q.2==p.2)).map pD)):=by
 refine iy (ds:=qs.map pD) rfl (by rw[zAF];lia) (mq qs λ q hq=>⟨_,rfl,?_,rfl⟩);show orT (tsb (op2 (eqR false) (op2 ixD (aD 0) (cD (.int 0))) (op2 ixD (aD 1) (cD (.int 0))))) (tsb (op2 (eqR false) (op2 ixD (aD 0) (cD (.int 1))) (op2 ixD (aD 1) (cD (.int 1))))) [.sh (pD q),.sh (pD p)]=_;simp[pD];by_cases e:q.1=p.1<;>simp[e]
def aEb(h:(qs.map f).Nodup)(hf:∀q∈qs,f q≠f p):((qs++[p]).map f).Nodup:=by
 rw[zAg,zAt];refine⟨h,by simp,λ a ha b hb=>?_⟩;obtain⟨q,hq,rfl⟩:=zAU.mp ha;rw[zAC,zEX,zAK]at hb;rw[hb];exact hf q hq
def aNI{ps qs:gX}(h:qs.length<=3600)(u1:(qs.map (·.1)).Nodup)(u2:(qs.map (·.2)).Nodup):∃qs':gX,dpL [.sh (.int c),.sh (owD n ps),.ow (.lst (qs.map pD)),.sh (.int k),.sh (pD p)]= .nx [.sh (.int c),.sh (owD n ps),.ow (.lst (qs'.map pD)),.sh (.int k),.sh (pD p)]/\(qs'=qs\/qs'=qs++[p])/\(qs'.map (·.1)).Nodup/\(qs'.map (·.2)).Nodup:=by
 obtain⟨r,e,b⟩:=nH (c:=c) (k:=60+(k:Int)%40) (b:=3) (by lia) (by lia) (by decide) (by decide);have ec:=aNJ (c:=c) (n:=n) (ps:=ps) (qs:=qs) (p:=p) (s3:=.sh (.int k)) h;have em:=j6 (i:=(k:Int)) (j:=40) (by decide);have e1:tsb (op2 gtD (aM aU (aA (aD 0) (aA (op2 cG (cD (.int 60)) (op2 oZ (aD 3) (cD (.int 40)))) (aA (cD (.int 3)) aF)))) (cD (.int 0))) [.sh (.int c),.sh (owD n ps),.ow (.lst (qs.map pD)),.sh (.int k),.sh (pD p)]= .ok (decide (0<(r:Int))):=by simp[em,e]
 have e2:tsb (op2 (eqR false) dpC (eU aF)) [.sh (.int c),.sh (owD n ps),.ow (.lst (qs.map pD)),.sh (.int k),.sh (pD p)]= .ok (qs.filter λ q=>(q.1==p.1)||(q.2==p.2)).isEmpty:=by
  rw[gm,cR,ec,aK]
  show(okD (eqR false (.lst ((qs.filter λ q=>(q.1==p.1)||(q.2==p.2)).map pD)) (.lst []))).bd blD=_
  rw[aIL];rfl
 have e3:jo 2 (bT (aD 4)) [.sh (.int c),.sh (owD n ps),.ow (.lst (qs.map pD)),.sh (.int k),.sh (pD p)]= .nx [.sh (.int c),.sh (owD n ps),.ow (.lst ((qs++[p]).map pD)),.sh (.int k),.sh (pD p)]:=by
  have hz:(qs.map pD).length<zAS:=by rw[zAF,szl];lia
  have g:bT (aD 4) [.sh (.int c),.sh (owD n ps),.ow (.lst (qs.map pD)),.sh (.int k),.sh (pD p)]= .ok (pD p):=rfl;unfold jo
  show((bT (aD 4) [.sh (.int c),.sh (owD n ps),.ow (.lst (qs.map pD)),.sh (.int k),.sh (pD p)]).bo _)=_
  rw[g,bW,if_pos hz,zAg];rfl
 unfold dpL;rw[dW,e1,bW];cases decide (0<(r:Int))with
 |false=>exact⟨qs,rfl,.inl rfl,u1,u2⟩
 |true=>
  rw[if_pos rfl,dW,e2,bW];cases hf:(qs.filter λ q=>(q.1==p.1)||(q.2==p.2)).isEmpty with
  |false=>exact⟨qs,rfl,.inl rfl,u1,u2⟩
  |true=>
   rw[List.isEmpty_iff,List.filter_eq_nil_iff]at hf;refine⟨qs++[p],by rw[if_pos rfl];exact e3,.inr rfl,aEb u1 λ q hq e=>hf q hq (by simp[e]),aEb u2 λ q hq e=>hf q hq (by simp[e])⟩
def rP(O:Ow n ps):∃qs:gX,cB [.int c,owD n ps]= .ok (.tup (qs.map pD))/\Dp ps qs:=by
 have pl:=O.len;have st:aZ 5 [.int c,owD n ps]=[.sh (.int c),.sh (owD n ps),.no,.no,.no]:=rfl;have hel:(aAA (ps.map pD)).length=ps.length:=by simp[aAA]
 obtain⟨Y',e,s3,s4,qs,rfl,hq,u1,u2⟩:=gU (a:=rR 2 (dO (gnm 3) (dO (gnm 4) tL))) (u:=dpL) (aAA (ps.map pD))
  (λ i Y=>∃s3 s4,∃qs:gX,Y=[.sh (.int c),.sh (owD n ps),.ow (.lst (qs.map pD)),s3,s4]/\qs.Sublist (ps.take i)/\(qs.map (·.1)).Nodup/\(qs.map (·.2)).Nodup) [.sh (.int c),.sh (owD n ps),.ow (.lst []),.no,.no] ⟨.no,.no,[],rfl,by simp,by simp,by simp⟩ (by
   rintro i d Y hd ⟨s3,s4,qs,rfl,hq,u1,u2⟩;have hi:=(zAO.mp hd).1;have hi2:i<ps.length:=by lia
   unfold aAA at hd;rw[zA2,zGe,zA2,zAJ hi2]at hd;simp only[zCO,zFu]at hd;subst hd;have hle:=hq.length_le;rw[zBp]at hle;obtain⟨qs',e1,hc,v1,v2⟩:=aNI (c:=c) (n:=n) (ps:=ps) (qs:=qs) (p:=ps[i]) (k:=0+i) (by lia) u1 u2;refine⟨_,e1,_,_,qs',rfl,?_,v1,v2⟩;rw[List.take_succ_eq_append_getElem hi2];rcases hc with rfl|rfl
   .exact hq.trans (List.sublist_append_left _ _)
   .exact hq.append (List.Sublist.refl _))
 rw[hel,zHo]at hq;refine⟨qs,?_,hq,u1,u2⟩;simp only[cB,bz,bB,st];have hf:n8 (gJ aKb (aA (op2 ixD (aD 1) (cD (.int 1))) aF)) (rR 2 (dO (gnm 3) (dO (gnm 4) tL))) dpL [.sh (.int c),.sh (owD n ps),.ow (.lst []),.no,.no]= .nx [.sh (.int c),.sh (owD n ps),.ow (.lst (qs.map pD)),s3,s4]:=by
  have hi:gJ aKb (aA (op2 ixD (aD 1) (cD (.int 1))) aF) [.sh (.int c),.sh (owD n ps),.ow (.lst []),.no,.no]= .ok (aAA (ps.map pD)):=rfl;rw[my,hi,bW,e]
 have h0:oG 2 (eU aF) [.sh (.int c),.sh (owD n ps),.no,.no,.no]= .nx [.sh (.int c),.sh (owD n ps),.ow (.lst []),.no,.no]:=by simp
 rw[aO,h0,aj,aO,hf,aj];simp
def dq(qs:gX):D:=aCt (qs.map λ q=>(q.1,.int q.2))
theorem aDt(a:Int):∀qs:gX,(qs.map λ q=>(q.1,D.int q.2)).lookup a=(qs.lookup a).map .int
 |[]=>rfl
 |q::qs=>by
  rw[zAC,zAe,zAe,aDt a qs];cases a==q.1<;>rfl
theorem yU:∀{qs:gX},qs.lookup a=some b->(a,b)∈qs
 |q::qs,h=>by
  rw[zAe]at h;cases e:a==q.1 with
  |true=>
   rw[e]at h;cases h;rw[show a=q.1 by simpa using e];exact zAH
  |false=>
   rw[e]at h;exact zAI _ (yU h)
theorem wZ:∀{qs:gX},qs.lookup a=none->(a,b)∉qs
 |[],_,h=>nomatch h
 |q::qs,hn,h=>by
  rw[zAe]at hn;cases e:a==q.1 with
  |true=>rw[e]at hn;cases hn
  |false=>
   rw[e]at hn;rcases zAQ.mp h with z|z
   .rw[<-z]at e
    simp at e
   .exact wZ hn z
def xK{qs:gX}(u:(qs.map (·.2)).Nodup)(h1:(a,y)∈qs)(h2:(b,y)∈qs):a=b:=congrArg zFU (pP u _ h1 _ h2 rfl)
def yt{qs:gX}(u:(qs.map (·.1)).Nodup)(h1:(a,y)∈qs)(h2:(a,z)∈qs):y=z:=congrArg zGM (pP u _ h1 _ h2 rfl)
def ye(w:List Int)(y:Int):(w++[y]).getLastD 0=y:=by simp
def pQ{w:List Int}(h:w≠[]):w.getLast h=w.getLastD 0:=by
 rw[zC5,List.getLast?_eq_some_getLast h];rfl
def aA9(h:w≠[])(y:Int):(w++[y]).headD 0=w.headD 0:=by
 cases w with
 |nil=>exact absurd rfl h
 |cons a w=>rfl
structure Wk(n:Int)(qs:gX)(fl w:List Int)(s t:Int):Prop where
 nd:(fl++w).Nodup
 rg:∀x∈fl++w,0<=x/\x<n
 ne:w≠[]
 hd:w.headD 0=s
 lt:w.getLastD 0=t
 al:nJ qs w=true
 pr:∀a b,(a,b)∈qs->b∈fl++w->a∈fl++w/\a≠t
 bk:∀x∈w,x=s\/∃a,(a,x)∈qs
 sc:∀a b,(a,b)∈qs->a∈w->a≠t->b∈w
def Wk.start(nd:fl.Nodup)(rg:∀x∈fl,0<=x/\x<n)(s0:0<=s)(s1:s<n)(hs:s∉fl)(no:∀a,(a,s)∉qs)(pr:∀a b,(a,b)∈qs->b∈fl->a∈fl):Wk n qs fl [s] s s where
 nd:=by
  rw[zAt];refine⟨nd,by simp,λ a ha b hb e=>?_⟩;rw[zAK.mp hb]at e;subst e;exact hs ha
 rg:=λ x hx=>by
  rcases zA5.mp hx with h|h
  .exact rg x h
  .rw[zAK.mp h];exact⟨s0,s1⟩
 ne:=by simp
 hd:=rfl
 lt:=rfl
 al:=rfl
 pr:=λ a b h hb=>by
  rcases zA5.mp hb with z|z
  .have:=pr a b h z
   exact⟨zAc _ this,λ e=>by subst e;exact hs this⟩
  .rw[zAK.mp z]at h
   exact absurd h (no a)
 bk:=λ x hx=>.inl (zAK.mp hx)
 sc:=λ a b _ ha hn=>absurd (zAK.mp ha) hn
def Wk.step{n s t y:Int}(W:Wk n qs fl w s t)(u1:(qs.map (·.1)).Nodup)(u2:(qs.map (·.2)).Nodup)(h:(t,y)∈qs)(y0:0<=y)(y1:y<n):Wk n qs fl (w++[y]) s y where
 nd:=by
  have hy:y∉fl++w:=λ hm=>(W.pr t y h hm).2 rfl
  rw[<-zBG,zAt];refine⟨W.nd,by simp,λ a ha b hb e=>?_⟩;rw[zAK.mp hb]at e;subst e;exact hy ha
 rg:=λ x hx=>by
  rw[<-zBG]at hx;rcases zA5.mp hx with z|z
  .exact W.rg x z
  .rw[zAK.mp z];exact⟨y0,y1⟩
 ne:=by simp
 hd:=by rw[aA9 W.ne];exact W.hd
 lt:=ye _ _
 al:=sG W.ne W.al (by rw[pQ W.ne,W.lt];exact h)
 pr:=λ a b hab hb=>by
  have hy:y∉fl++w:=λ hm=>(W.pr t y h hm).2 rfl
  rw[<-zBG]at hb ⊢;rcases zA5.mp hb with z|z
  .obtain⟨h1,h2⟩:=W.pr a b hab z
   exact⟨zAc _ h1,λ e=>by subst e;exact hy h1⟩
  .rw[zAK.mp z]at hab
   have e:=xK u2 hab h;subst e;have ht:a∈fl++w:=zA8 _ (by rw[<-W.lt,<-pQ W.ne];exact zHj W.ne);exact⟨zAc _ ht,λ e=>by subst e;exact hy ht⟩
 bk:=λ x hx=>by
  rcases zA5.mp hx with z|z
  .exact W.bk x z
  .rw[zAK.mp z];exact .inr ⟨t,h⟩
 sc:=λ a b hab ha hn=>by
  rcases zA5.mp ha with z|z
  .by_cases c:a=t
   .subst c
    rw[yt u1 hab h];simp
   .exact zAc _ (W.sc a b hab z c)
  .exact absurd (zAK.mp z) hn
def aHc{l:List Int}(nd:l.Nodup)(rg:∀x∈l,0<=x/\x<n):l.length<=n.toNat:=by
 have:=nd.length_le_of_subset (l₂:=upI n) λ x hx=>m8.mpr (rg x hx)
 rwa [qg]at this
structure Rk(qs:gX)(L w:List Int)(r t:Int):Prop where
 nd:w.Nodup
 sb:∀x∈w,x∈L
 ne:w≠[]
 hd:w.headD 0=r
 lt:w.getLastD 0=t
 al:nJ qs w=true
 pr:∀a b,(a,b)∈qs->b∈w->b≠r->a∈w/\a≠t
def Rk.last{qs:gX}(R:Rk qs L w r t):t∈w:=by rw[<-R.lt,<-pQ R.ne];exact zHj R.ne
def Rk.step{qs:gX}(R:Rk qs L w r t)(u2:(qs.map (·.2)).Nodup)(h:(t,y)∈qs)(hr:y≠r)(hy:y∈L):Rk qs L (w++[y]) r y:=by
 have hn:y∉w:=λ hm=>(R.pr t y h hm hr).2 rfl
 refine⟨?_,λ x hx=>?_,by simp,by rw[aA9 R.ne];exact R.hd,ye _ _,sG R.ne R.al (by rw[pQ R.ne,R.lt];exact h),λ a b hab hb hbr=>?_⟩
 .rw[zAt]
  refine⟨R.nd,by simp,λ a ha b hb e=>?_⟩;rw[zAK.mp hb]at e;subst e;exact hn ha
 .rcases zA5.mp hx with z|z
  .exact R.sb x z
  .rw[zAK.mp z];exact hy
 .rcases zA5.mp hb with z|z
  .obtain⟨h1,h2⟩:=R.pr a b hab z hbr
   exact⟨zAc _ h1,λ e=>by subst e;exact hn h1⟩
  .rw[zAK.mp z]at hab
   have e:=xK u2 hab h;subst e;exact⟨zAc _ R.last,λ e=>by subst e;exact hn R.last⟩
def Sc(qs:gX)(L:List Int):Prop:=∀x∈L,∃y∈L,(x,y)∈qs
def Rk.rest{qs:gX}(R:Rk qs L w r t)(u1:(qs.map (·.1)).Nodup)(u2:(qs.map (·.2)).Nodup)(h:(t,r)∈qs)(S:Sc qs L):Sc qs (L.filter λ x=>!decide (x∈w)):=λ x hx=>by
 rw[zAh]at hx;obtain⟨y,hy,e⟩:=S x hx.1;have hxw:x∉w:=by simpa using hx.2
 refine⟨y,zAh.mpr ⟨hy,?_⟩,e⟩
 have:y∉w:=λ hm=>by
  by_cases c:y=r
  .subst c
   have:=xK u2 e h
   subst this;exact hxw R.last
  .exact hxw (R.pr x y e hm c).1
 simpa using this
def aNk{qs:gX}(u1:(qs.map (·.1)).Nodup)(u2:(qs.map (·.2)).Nodup)(nd:L.Nodup)(h:∀x∈L,∃a∈L,(a,x)∈qs):Sc qs L:=λ x hx=>by
 by_cases c:∃y,(x,y)∈qs
 .obtain⟨y,e⟩:=c
  by_cases hy:y∈L
  .exact⟨y,hy,e⟩
  .exfalso
   have h1:L.length<=((qs.filter λ q=>decide (q.2∈L)).map (·.2)).length:=nd.length_le_of_subset λ z hz=>by
    obtain⟨a,_,e⟩:=h z hz;exact zAU.mpr ⟨(a,z),zAh.mpr ⟨e,by simpa using hz⟩,rfl⟩
   have h2:((qs.filter λ q=>decide (q.2∈L)).map (·.1)).length<=(L.erase x).length:=zE9 ((zE3 _ zEe).nodup u1) λ z hz=>by
    obtain⟨q,hq,rfl⟩:=zAU.mp hz;rw[zAh]at hq;have hq2:q.2∈L:=by simpa using hq.2
    obtain⟨a,ha,e2⟩:=h _ hq2
    have:=xK u2 e2 hq.1
    subst this;rw[nd.mem_erase_iff];exact⟨λ z=>hy (by rw[yt u1 e (by rw[<-z];exact hq.1)];exact hq2),ha⟩
   rw[zAF]at h1 h2;rw[zDs hx]at h2
   have:=zEO hx
   lia
 .exfalso
  have h1:L.length<=((qs.filter λ q=>decide (q.2∈L)).map (·.2)).length:=nd.length_le_of_subset λ z hz=>by
   obtain⟨a,_,e⟩:=h z hz;exact zAU.mpr ⟨(a,z),zAh.mpr ⟨e,by simpa using hz⟩,rfl⟩
  have h2:((qs.filter λ q=>decide (q.2∈L)).map (·.1)).length<=(L.erase x).length:=zE9 ((zE3 _ zEe).nodup u1) λ z hz=>by
   obtain⟨q,hq,rfl⟩:=zAU.mp hz;rw[zAh]at hq;have hq2:q.2∈L:=by simpa using hq.2
   obtain⟨a,ha,e2⟩:=h _ hq2
   have:=xK u2 e2 hq.1
   subst this;rw[nd.mem_erase_iff];exact⟨λ z=>c ⟨q.2,by rw[<-z];exact hq.1⟩,ha⟩
  rw[zAF]at h1 h2;rw[zDs hx]at h2
  have:=zEO hx
  lia
def aIJ:∀{l:gV},(∀r∈l,r≠[])->l.length<=l.flatten.length:=by
 intro l;induction l with
 |nil=>intro _;simp
 |cons a l ih=>
  intro h;have h1:0<a.length:=zDX.mpr (h a zAH)
  have:=ih λ x hx=>h x (zAI _ hx)
  rw[zB5,zAj,zA3];lia
def aO7(u1:(qs.map (·.1)).Nodup):zQ [.tup (qs.map pD)]= .ok (dq qs):=by
 have h2:aDe (qs.map pl)=some qs:=by
  clear u1;induction qs with
  |nil=>rfl
  |cons q qs ih=>
   rw[zAC]
   show(match aDe (qs.map pl)with|some r=>some ((q.1,q.2)::r)|none=>none)=_
   rw[ih]
 unfold zQ;dsimp only;rw[uP];dsimp only;rw[h2];dsimp only;rw[aAb (by simpa[zG5]using u1)];rfl
def aN2:aAs true (.int i) (dq qs)= .ok (.bl (!(qs.map (·.2)).any (·==i))):=by
 unfold aAs dq aCt;dsimp only;have h2:intsOf ((qs.map λ q=>(q.1,D.int q.2)).map (·.2))=some (qs.map (·.2)):=by
  rw[zA4,show((λ x:Int×D=>x.2)∘λ q:Int×Int=>(q.1,D.int q.2))=(D.int∘λ q=>q.2)from rfl,<-zA4];exact jd _
 rw[ue,h2];dsimp only;cases (qs.map (·.2)).any (·==i)<;>rfl
abbrev pcE(n:Int)(ps qs:gX)(wys rgs:gV)(left:List Int)(s6 s7 s8:Slot):En:=
 [.sh (owD n ps),.sh (.tup (qs.map pD)),.nw (dq qs),.ow (.lst (wys.map tupI)),.ow (.lst (rgs.map tupI)),.nw (.lst (left.map .int)),s6,s7,s8]
section
variable{n:Int}{ps qs:gX}{wys rgs:gV}{left:List Int}{s6 s7 s8:Slot}
def aO5:aCr false (.int i) (dq qs)= .ok (.bl (qs.lookup i).isSome):=by
 unfold dq;rw[aO6,aDt];cases qs.lookup i<;>rfl
def aLV(h:qs.lookup i=some y):wN (dq qs) (.int i)= .ok (.int y):=aO4 (by rw[aDt,h];rfl)
def aPB(hl:w.length<=60)(hf:f (pcE n ps qs wys rgs left s6 (.ow (.lst (w.map .int))) s8)= .ok (.int y)):
  jo 7 f (pcE n ps qs wys rgs left s6 (.ow (.lst (w.map .int))) s8)= .nx (pcE n ps qs wys rgs left s6 (.ow (.lst ((w++[y]).map .int))) s8):=by
 have hz:(w.map D.int).length<zAS:=by rw[zAF,szl];lia
 unfold jo;dsimp only[zCi,zDy];rw[hf,bW,if_pos hz,zAg];rfl
def aPA(hl:w.length<=60)(hf:f (pcE n ps qs wys rgs left s6 s7 (.ow (.lst (w.map .int))))= .ok (.int y)):
  jo 8 f (pcE n ps qs wys rgs left s6 s7 (.ow (.lst (w.map .int))))= .nx (pcE n ps qs wys rgs left s6 s7 (.ow (.lst ((w++[y]).map .int)))):=by
 have hz:(w.map D.int).length<zAS:=by rw[zAF,szl];lia
 unfold jo;dsimp only[zCi,zDy];rw[hf,bW,if_pos hz,zAg];rfl
def aL0(hn:n<=60)(u1:(qs.map (·.1)).Nodup)(u2:(qs.map (·.2)).Nodup)(rq:∀p∈qs,0<=p.2/\p.2<n)(W:Wk n qs fl w s t):
  ∃w' t',qd pcW pcB (pcE n ps qs wys rgs left s6 (.ow (.lst (w.map .int))) s8)= .nx (pcE n ps qs wys rgs left s6 (.ow (.lst (w'.map .int))) s8)/\Wk n qs fl w' s t'/\qs.lookup t'=none:=by
 have hx:∀{w t},Wk n qs fl w s t->pcX (pcE n ps qs wys rgs left s6 (.ow (.lst (w.map .int))) s8)= .ok (.int t):=λ{w t} W=>by
  have h:=W.lt;rw[zC5]at h;unfold pcX;simp[aFX rfl W.ne,h]
 have hc:∀{w t},Wk n qs fl w s t->pcW (pcE n ps qs wys rgs left s6 (.ow (.lst (w.map .int))) s8)= .ok (qs.lookup t).isSome:=λ{w t} W=>by
  unfold pcW;rw[gm,cR,hx W,aK]
  show(okD (aCr false (.int t) (dq qs))).bd blD=_
  rw[aO5];rfl
 obtain⟨Y',m',e,⟨w',t',rfl,W',_⟩,ec⟩:=xG (c:=pcW) (b:=pcB) (λ m Y=>∃w t,Y=pcE n ps qs wys rgs left s6 (.ow (.lst (w.map .int))) s8/\Wk n qs fl w s t/\m=61-(fl++w).length) (by
  rintro m Y ⟨w,t,rfl,W,rfl⟩;rw[hc W];cases hl:qs.lookup t with
  |none=>exact .inl rfl
  |some y=>
   have hm:=yU hl;obtain⟨y0,y1⟩:=rq _ hm;have W':=W.step u1 u2 hm y0 y1;have l1:=aHc W.nd W.rg;have l2:=aHc W'.nd W'.rg;have l3:w.length<=60:=by rw[zAj]at l1;lia
   refine .inr ⟨rfl,_,61-(fl++(w++[y])).length,aPB l3 ?_,?_,w++[y],y,rfl,W',rfl⟩
   .rw[cR]
    show((Rs.ok (dq qs)).bd λ x=>(pcX (pcE n ps qs wys rgs left s6 (.ow (.lst (w.map .int))) s8)).bd λ z=>okD (wN x z))=_
    rw[aK,hx W,aK,aLV hl];rfl
   .simp only[zAj,zA3,zBE]at l2 ⊢
    lia) (m:=61-(fl++w).length) (by lia) ⟨w,t,rfl,W,rfl⟩
 refine⟨w',t',e,W',?_⟩;rw[hc W']at ec;cases h:qs.lookup t' with
 |none=>rfl
 |some y=>rw[h]at ec;cases ec
def aJQ(hL:L.length<=60)(u1:(qs.map (·.1)).Nodup)(u2:(qs.map (·.2)).Nodup)(S:Sc qs L)(R:Rk qs L w r t):
  ∃w' t',qd rcW rcB (pcE n ps qs wys rgs left s6 s7 (.ow (.lst (w.map .int))))= .nx (pcE n ps qs wys rgs left s6 s7 (.ow (.lst (w'.map .int))))/\Rk qs L w' r t'/\(t',r)∈qs:=by
 have hy:∀{w t},Rk qs L w r t->∃y∈L,(t,y)∈qs/\qs.lookup t=some y:=λ{w t} R=>by
  obtain⟨y,h1,h2⟩:=S t (R.sb t R.last);cases hl:qs.lookup t with
  |none=>exact absurd h2 (wZ hl)
  |some z=>rw[yt u1 (yU hl) h2];exact⟨y,h1,h2,rfl⟩
 have hx:∀{w t},Rk qs L w r t->rcX (pcE n ps qs wys rgs left s6 s7 (.ow (.lst (w.map .int))))= .ok (.int t):=λ{w t} R=>by
  have h:=R.lt;rw[zC5]at h;unfold rcX;simp[aFX rfl R.ne,h]
 have hd:∀{w t y},Rk qs L w r t->qs.lookup t=some y->op2 wN (jC 2) rcX (pcE n ps qs wys rgs left s6 s7 (.ow (.lst (w.map .int))))= .ok (.int y):=λ{w t y} R hl=>by
  rw[cR]
  show((Rs.ok (dq qs)).bd λ x=>(rcX (pcE n ps qs wys rgs left s6 s7 (.ow (.lst (w.map .int))))).bd λ z=>okD (wN x z))=_
  rw[aK,hx R,aK,aLV hl];rfl
 have hc:∀{w t y},Rk qs L w r t->qs.lookup t=some y->rcW (pcE n ps qs wys rgs left s6 s7 (.ow (.lst (w.map .int))))= .ok (!(y==r)):=λ{w t y} R hl=>by
  have h0:op2 ixD (jD 8) (cD (.int 0)) (pcE n ps qs wys rgs left s6 s7 (.ow (.lst (w.map .int))))= .ok (.int r):=by
   have h1:=R.ne;have h2:=R.hd;cases w with
   |nil=>exact absurd rfl h1
   |cons a w=>
    have h3:atD ((a::w).map D.int) 0= .ok (.int a):=jG (k:=0) rfl;rw[zAC]at h3;rw[<-h2];simp[h3]
  unfold rcW;rw[gm,cR,hd R hl,aK,h0,aK];simp
 obtain⟨Y',m',e,⟨w',t',rfl,R',_⟩,ec⟩:=xG (c:=rcW) (b:=rcB) (λ m Y=>∃w t,Y=pcE n ps qs wys rgs left s6 s7 (.ow (.lst (w.map .int)))/\Rk qs L w r t/\m=61-w.length) (by
  rintro m Y ⟨w,t,rfl,R,rfl⟩;obtain⟨y,h1,h2,hl⟩:=hy R;rw[hc R hl];by_cases c:y=r
  .exact .inl (by simp[c])
  .have R':=R.step u2 h2 c h1
   have l1:w.length<=L.length:=R.nd.length_le_of_subset R.sb;have l2:(w++[y]).length<=L.length:=R'.nd.length_le_of_subset R'.sb;refine .inr ⟨by simpa using c,_,61-(w++[y]).length,aPA (by lia) (hd R hl),?_,w++[y],y,rfl,R',rfl⟩;rw[zAj,zA3,zBE]at l2 ⊢;lia) (m:=61-w.length) (by lia) ⟨w,t,rfl,R,rfl⟩
 refine⟨w',t',e,R',?_⟩;obtain⟨y,h1,h2,hl⟩:=hy R';rw[hc R' hl]at ec
 have:y=r:=by simpa using ec
 rw[<-this];exact h2
end
structure Pi(n:Int)(qs:gX)(i:Nat)(wys:gV):Prop where
 nd:wys.flatten.Nodup
 rg:∀x∈wys.flatten,0<=x/\x<n
 pr:∀a b,(a,b)∈qs->b∈wys.flatten->a∈wys.flatten
 sc:∀a b,(a,b)∈qs->a∈wys.flatten->b∈wys.flatten
 st:∀x:Int,0<=x->x<i->(∀a,(a,x)∉qs)->x∈wys.flatten
 lo:∀x∈wys.flatten,(∀a,(a,x)∉qs)->x<i
 al:∀w∈wys,w≠[]/\nJ qs w=true/\(∀a,(a,w.headD 0)∉qs)/\∀b,(w.getLastD 0,b)∉qs
 hs:wys.map (·.headD 0)=(upI i).filter λ x=>!(qs.map (·.2)).any (·==x)
def aE2(i:Nat):upI ((i+1:Nat):Int)=upI (i:Int)++[(i:Int)]:=by
 unfold upI;rw[zCV,zCV,zID,zAg];rfl
section
variable{n:Int}{ps qs:gX}{wys rgs:gV}{s6 s7 s8:Slot}
def aOM(h:(qs.map (·.2)).any (·==i)=false)(a:Int):(a,i)∉qs:=λ hm=>by
 rw[zHV]at h;exact h i (zAU.mpr ⟨(a,i),hm,rfl⟩) (by simp)
def aOU(h:(qs.map (·.2)).any (·==i)=true):∃a,(a,i)∈qs:=by
 rw[zEF]at h;obtain⟨j,hj,e⟩:=h;obtain⟨q,hq,rfl⟩:=zAU.mp hj;rw[<-(show q.2=i by simpa using e)];exact⟨q.1,hq⟩
def aDE(k:Nat)(rows:gV)(hk:Y[k]? =some (.ow (.lst (rows.map tupI))))(hl:rows.length<=1000)(hf:f Y= .ok (.lst (w.map .int))):
  jo k (bT (opA bM (aA f aF))) Y= .nx (Y.set k (.ow (.lst ((rows++[w]).map tupI)))):=by
 have hz:(rows.map tupI).length<zAS:=by rw[zAF,szl];lia
 have g:bT (opA bM (aA f aF)) Y= .ok (tupI w):=by
  have hi:zz (tupI w)= .ok (tupI w):=w6 (aCh w);have hA:opA bM (aA f aF) Y= .ok (tupI w):=by
   rw[gq,aX,hf,aK,bR,aK,aK];rfl
  show(opA bM (aA f aF) Y).bd zz=_
  rw[hA,aK,hi]
 unfold jo;rw[hk];dsimp only;rw[g,bW,if_pos hz,zAg];rfl
def aK7{l a b:List Int}:(l.filter λ x=>!decide (x∈a)).filter (λ x=>!decide (x∈b))=l.filter λ x=>!decide (x∈a++b):=by
 rw[List.filter_filter];refine List.filter_congr λ x _=>?_
 by_cases h1:x∈a<;>by_cases h2:x∈b<;>simp[h1,h2]
def aMS{i:Nat}(n0:0<=n)(hn:n<=60)(hi:(i:Int)<n)(u1:(qs.map (·.1)).Nodup)(u2:(qs.map (·.2)).Nodup)(rq:∀p∈qs,0<=p.2/\p.2<n)(P:Pi n qs i wys):
  ∃wys' s7',pcL (pcE n ps qs wys [] ((upI n).filter λ x=>!decide (x∈wys.flatten)) (.sh (.int i)) s7 .no)= .nx (pcE n ps qs wys' [] ((upI n).filter λ x=>!decide (x∈wys'.flatten)) (.sh (.int i)) s7' .no)/\Pi n qs (i+1) wys':=by
 have hv:tsb (op2 (aAs true) (aD 6) (jC 2)) (pcE n ps qs wys [] ((upI n).filter λ x=>!decide (x∈wys.flatten)) (.sh (.int i)) s7 .no)= .ok (!(qs.map (·.2)).any (·==(i:Int))):=by
  rw[gm,cR]
  show(((Rs.ok (D.int i)).bd λ x=>(Rs.ok (dq qs)).bd λ y=>okD (aAs true x y)).bd blD)=_
  rw[aK,aK,aN2];rfl
 unfold pcL;rw[dW,hv,bW];cases hc:(qs.map (·.2)).any (·==(i:Int))with
 |true=>
  refine⟨wys,s7,rfl,P.nd,P.rg,P.pr,P.sc,λ x x0 x1 no=>?_,λ x hx no=>?_,P.al,?_⟩
  .by_cases e:x=i
   .subst e
    obtain⟨a,ha⟩:=aOU hc;exact absurd ha (no a)
   .exact P.st x x0 (by lia) no
  .have:=P.lo x hx no
   lia
  .rw[aE2,zHE,P.hs,zFL,if_neg (by rw[hc];exact zAX)]
   simp
 |false=>
  have no:=aOM hc;have hni:(i:Int)∉wys.flatten:=λ h=>by have:=P.lo _ h no;lia
  have W0:=Wk.start (n:=n) (qs:=qs) P.nd P.rg (by lia) hi hni no P.pr;obtain⟨w,t,e1,W,ht⟩:=aL0 (ps:=ps) (wys:=wys) (rgs:=[]) (left:=(upI n).filter λ x=>!decide (x∈wys.flatten)) (s6:=.sh (.int i)) (s8:=.no) hn u1 u2 rq W0;have hwl:wys.length<=60:=by
   have h1:=congrArg zEf P.hs;rw[zAF]at h1;rw[h1]
   have:=zEV (λ x=>!(qs.map (·.2)).any (·==x)) (upI (i:Int))
   rw[qg]at this;lia
  have e0:oG 7 (eU (aA (bT (aD 6)) aF)) (pcE n ps qs wys [] ((upI n).filter λ x=>!decide (x∈wys.flatten)) (.sh (.int i)) s7 .no)= .nx (pcE n ps qs wys [] ((upI n).filter λ x=>!decide (x∈wys.flatten)) (.sh (.int i)) (.ow (.lst ([(i:Int)].map .int))) .no):=by simp[w6]
  have e2:=aDE (w:=w) 3 wys (f:=jD 7) (Y:=pcE n ps qs wys [] ((upI n).filter λ x=>!decide (x∈wys.flatten)) (.sh (.int i)) (.ow (.lst (w.map .int))) .no) rfl (by lia) rfl;have e3:pcF (pcE n ps qs (wys++[w]) [] ((upI n).filter λ x=>!decide (x∈wys.flatten)) (.sh (.int i)) (.ow (.lst (w.map .int))) .no)= .nx (pcE n ps qs (wys++[w]) [] ((upI n).filter λ x=>!decide (x∈(wys++[w]).flatten)) (.sh (.int i)) (.ow (.lst (w.map .int))) .no):=by
   have hl:((upI n).filter λ x=>!decide (x∈wys.flatten)).length<=1000:=by
    have:=zEV (λ x=>!decide (x∈wys.flatten)) (upI n)
    rw[qg]at this;lia
   have h:=aCU (f:=cj (aD 5)) (js:=[none,some 7]) (Y:=pcE n ps qs (wys++[w]) [] ((upI n).filter λ x=>!decide (x∈wys.flatten)) (.sh (.int i)) (.ow (.lst (w.map .int))) .no) (l:=(upI n).filter λ x=>!decide (x∈wys.flatten)) (m:=w) (by simp[shE,aF5]) (.inr rfl) hl;unfold pcF;rw[sY,h,bW,aK7];simp
  refine⟨wys++[w],.ow (.lst (w.map .int)),?_,?_⟩
  .rw[show(!false)=true from rfl,if_pos rfl,aO,e0,aj,aO,e1,aj,aO,e2,aj]
   exact e3
  .have ef:(wys++[w]).flatten=wys.flatten++w:=by simp
   refine⟨by rw[ef];exact W.nd,by rw[ef];exact W.rg,by rw[ef];exact λ a b h hb=>(W.pr a b h hb).1,?_,?_,?_,?_,?_⟩
   .rw[ef]
    intro a b h ha;rcases zA5.mp ha with z|z
    .exact zAc _ (P.sc a b h z)
    .by_cases c:a=t
     .subst c
      exact absurd h (wZ ht)
     .exact zA8 _ (W.sc a b h z c)
   .rw[ef]
    intro x x0 x1 no;by_cases e:x=i
    .subst e
     refine zA8 _ ?_;have h1:=W.ne;have h2:=W.hd;cases w with
     |nil=>exact absurd rfl h1
     |cons a w=>rw[<-h2];exact zAH
    .exact zAc _ (P.st x x0 (by lia) no)
   .rw[ef]
    intro x hx no;rcases zA5.mp hx with z|z
    .have:=P.lo x z no
     lia
    .rcases W.bk x z with e|⟨a,ha⟩
     .rw[e];lia
     .exact absurd ha (no a)
   .intro v hv
    rcases zA5.mp hv with z|z
    .exact P.al v z
    .rw[zAK.mp z]
     exact⟨W.ne,W.al,by rw[W.hd];exact no,λ b=>by rw[W.lt];exact wZ ht⟩
   .rw[aE2,zHE,zAg,P.hs,zFL,if_pos (by rw[hc];rfl)]
    show _++[w.headD 0]=_;rw[W.hd];rfl
end
structure Pc(n:Int)(qs:gX)(wys rgs:gV):Prop where
 pi:Pi n qs n.toNat wys
 rn:∀r∈rgs,r≠[]
 sz:wys.flatten.length+rgs.flatten.length<=n.toNat
def aFm(O:Ow n ps)(Q:Dp ps qs):∃wys rgs,gj [owD n ps,.tup (qs.map pD)]= .ok (.tup [.tup (wys.map tupI),.tup (rgs.map tupI)])/\Pc n qs wys rgs:=by
 have rq:∀p∈qs,0<=p.1/\p.1<n/\0<=p.2/\p.2<n:=λ p hp=>by have:=O.pr p (Q.sub.subset hp);exact⟨this.1,this.2.1,this.2.2.1,this.2.2.2.1⟩
 have n0:=O.n0;have n1:=O.n1;obtain⟨Y1,e1,wys,s6,s7,rfl,P⟩:=gU (a:=gnm 6) (u:=pcL) (cQ 0 n) (λ i Y=>∃wys s6 s7,Y=pcE n ps qs wys [] ((upI n).filter λ x=>!decide (x∈wys.flatten)) s6 s7 .no/\Pi n qs i wys)
  (pcE n ps qs [] [] (upI n) .no .no .no) ⟨[],.no,.no,by rw[show((upI n).filter λ x=>!decide (x∈([]:gV).flatten))=upI n by simp],by
   refine⟨by simp,by simp,by simp,by simp,λ x x0 x1=>by lia,by simp,by simp,rfl⟩⟩ (by
   rintro i d Y hd ⟨wys,s6,s7,rfl,P⟩;obtain⟨rfl,hi⟩:=jX hd;rw[zE1]at hi ⊢;obtain⟨wys',s7',e,P'⟩:=aMS (ps:=ps) (s7:=s7) n0 n1 hi Q.u1 Q.u2 (λ p hp=>(rq p hp).2.2) P;exact⟨_,e,wys',_,s7',rfl,P'⟩)
 have hln:(cQ 0 n).length=n.toNat:=by rw[aBE,zAF,qg]
 rw[hln]at P;have hL:Sc qs ((upI n).filter λ x=>!decide (x∈wys.flatten)):=aNk Q.u1 Q.u2 ((xH n).filter _) λ x hx=>by
  rw[zAh,m8]at hx;have hxf:x∉wys.flatten:=by simpa using hx.2
  by_cases c:∃a,(a,x)∈qs
  .obtain⟨a,ha⟩:=c
   refine⟨a,zAh.mpr ⟨m8.mpr ⟨(rq _ ha).1,(rq _ ha).2.1⟩,?_⟩,ha⟩
   have:a∉wys.flatten:=λ h=>hxf (P.sc a x ha h)
   simpa using this
  .exact absurd (P.st x hx.1.1 (by lia) λ a ha=>c ⟨a,ha⟩) hxf
 have oQ:wys.flatten.length+((upI n).filter λ x=>!decide (x∈wys.flatten)).length<=n.toNat:=by
  have:=(yI (xH n) P.nd λ w hw=>m8.mpr (P.rg w hw)).length_eq
  rw[zAj,qg]at this;lia
 have hcq:∀{rgs:gV} {left:List Int} {s6 s7 s8:Slot},rcC (pcE n ps qs wys rgs left s6 s7 s8)= .ok (!left.isEmpty):=λ{rgs left s6 s7 s8}=>by
  unfold rcC;rw[gm,cR]
  show(((Rs.ok (D.lst (left.map .int))).bd λ x=>(Rs.ok (D.lst [])).bd λ y=>okD (eqR true x y)).bd blD)=_
  rw[aK,aK,aIM];rfl
 obtain⟨Y2,m2,e2,⟨rgs,left,s8,rfl,S,nd,hr,hz,_⟩,ec⟩:=xG (c:=rcC) (b:=rcL) (λ m Y=>∃rgs left s8,Y=pcE n ps qs wys rgs left s6 s7 s8/\Sc qs left/\left.Nodup/\(∀r∈rgs,r≠[])/\wys.flatten.length+rgs.flatten.length+left.length<=n.toNat/\m=left.length) (by
  rintro m Y ⟨rgs,left,s8,rfl,S,nd,hr,hz,rfl⟩;rw[hcq];cases left with
  |nil=>exact .inl rfl
  |cons r0 left=>
   have R0:Rk qs (r0::left) [r0] r0 r0:=⟨by simp,λ x hx=>by rw[zAK.mp hx];exact zAH,by simp,rfl,rfl,rfl,λ a b _ hb hn=>absurd (zAK.mp hb) hn⟩;obtain⟨w,t,e,R,ht⟩:=aJQ (n:=n) (ps:=ps) (wys:=wys) (rgs:=rgs) (left:=r0::left) (s6:=s6) (s7:=s7) (by lia) Q.u1 Q.u2 S R0;have hfl:=aIJ hr;have a0:oG 8 (eU (aA (op2 ixD (jC 5) (cD (.int 0))) aF)) (pcE n ps qs wys rgs (r0::left) s6 s7 s8)= .nx (pcE n ps qs wys rgs (r0::left) s6 s7 (.ow (.lst ([r0].map .int)))):=by
    have h3:atD ((r0::left).map D.int) 0= .ok (.int r0):=jG (k:=0) rfl;rw[zAC]at h3;simp[h3]
   have a2:=aDE (w:=w) 4 rgs (f:=jD 8) (Y:=pcE n ps qs wys rgs (r0::left) s6 s7 (.ow (.lst (w.map .int)))) rfl (by lia) rfl;have a3:rcF (pcE n ps qs wys (rgs++[w]) (r0::left) s6 s7 (.ow (.lst (w.map .int))))= .nx (pcE n ps qs wys (rgs++[w]) ((r0::left).filter λ x=>!decide (x∈w)) s6 s7 (.ow (.lst (w.map .int)))):=by
    have h:=aCU (f:=cj (aD 5)) (js:=[none,some 8]) (Y:=pcE n ps qs wys (rgs++[w]) (r0::left) s6 s7 (.ow (.lst (w.map .int)))) (l:=r0::left) (m:=w) (by simp[shE,aF5]) (.inr rfl) (by lia);unfold rcF;rw[sY,h,bW];simp
   have hle:=(yI nd R.nd R.sb).length_eq;rw[zAj]at hle;have hw:0<w.length:=zDX.mpr R.ne;refine .inr ⟨rfl,pcE n ps qs wys (rgs++[w]) ((r0::left).filter λ x=>!decide (x∈w)) s6 s7 (.ow (.lst (w.map .int))),((r0::left).filter λ x=>!decide (x∈w)).length,?_,by lia,rgs++[w],_,_,rfl,R.rest Q.u1 Q.u2 ht S,nd.filter _,λ r hr'=>?_,?_,rfl⟩
   .unfold rcL
    rw[aO,a0,aj,aO,e,aj,aO,a2,aj];exact a3
   .rcases zA5.mp hr' with z|z
    .exact hr r z
    .rw[zAK.mp z];exact R.ne
   .simp only[List.flatten_append,zAj,zB5,List.flatten_nil,zBX]at hz ⊢
    lia) (m:=((upI n).filter λ x=>!decide (x∈wys.flatten)).length) (by lia) ⟨[],_,.no,rfl,hL,(xH n).filter _,by simp,by simpa using oQ,rfl⟩
 refine⟨wys,rgs,?_,P,hr,by lia⟩;have st:aZ 9 [owD n ps,.tup (qs.map pD)]=[.sh (owD n ps),.sh (.tup (qs.map pD)),.no,.no,.no,.no,.no,.no,.no]:=rfl;have z1:pq 2 (opA zQ (aA (aD 1) aF)) [.sh (owD n ps),.sh (.tup (qs.map pD)),.no,.no,.no,.no,.no,.no,.no]= .nx [.sh (owD n ps),.sh (.tup (qs.map pD)),.nw (dq qs),.no,.no,.no,.no,.no,.no]:=by simp[aO7 Q.u1]
 have z2:oG 3 (eU aF) [.sh (owD n ps),.sh (.tup (qs.map pD)),.nw (dq qs),.no,.no,.no,.no,.no,.no]= .nx [.sh (owD n ps),.sh (.tup (qs.map pD)),.nw (dq qs),.ow (.lst []),.no,.no,.no,.no,.no]:=by simp
 have z3:oG 4 (eU aF) [.sh (owD n ps),.sh (.tup (qs.map pD)),.nw (dq qs),.ow (.lst []),.no,.no,.no,.no,.no]= .nx [.sh (owD n ps),.sh (.tup (qs.map pD)),.nw (dq qs),.ow (.lst []),.ow (.lst []),.no,.no,.no,.no]:=by simp
 have z4:pq 5 (lrD (op2 ixD (aD 0) (cD (.int 0)))) [.sh (owD n ps),.sh (.tup (qs.map pD)),.nw (dq qs),.ow (.lst []),.ow (.lst []),.no,.no,.no,.no]= .nx (pcE n ps qs [] [] (upI n) .no .no .no):=by
  rw[sY,aOP (n:=n) (by simp[owD]) n0 n1,bW,aBE];rfl
 have z5:n8 (gJ gn (aA (op2 ixD (aD 0) (cD (.int 0))) aF)) (gnm 6) pcL (pcE n ps qs [] [] (upI n) .no .no .no)= .nx (pcE n ps qs wys [] ((upI n).filter λ x=>!decide (x∈wys.flatten)) s6 s7 .no):=by
  have hi:gJ gn (aA (op2 ixD (aD 0) (cD (.int 0))) aF) (pcE n ps qs [] [] (upI n) .no .no .no)= .ok (cQ 0 n):=by
   have h1:aA (op2 ixD (aD 0) (cD (.int 0))) aF (pcE n ps qs [] [] (upI n) .no .no .no)= .ok [.int n]:=by simp[owD]
   show((aA (op2 ixD (aD 0) (cD (.int 0))) aF (pcE n ps qs [] [] (upI n) .no .no .no)).bd gn)=_
   rw[h1,aK,iQ (by lia) (by lia)]
  rw[my,hi,bW,e1]
 simp only[gj,fP,bB,st];rw[aO,z1,aj,aO,z2,aj,aO,z3,aj,aO,z4,aj,aO,z5,aj,aO,e2,aj];simp
def dg(i:Int):Str:=zED i
def fr(c:Nat)(x:Str):Prop:=c∉x.cps.toList
theorem aFU{c:Nat}:∀{a b x y:List Nat},c∉a->c∉b->a++c::x=b++c::y->a=b/\x=y
 |[],[],_,_,_,_,h=>by injection h with _ h;exact⟨rfl,h⟩
 |[],k::b,_,_,_,hb,h=>by injection h with h _;exact absurd (h▸zAH) hb
 |k::a,[],_,_,ha,_,h=>by injection h with h _;exact absurd (h▸zAH) ha
 |k::a,l::b,_,_,ha,hb,h=>by
  injection h with h1 h2
  obtain⟨e1,e2⟩:=aFU (λ z=>ha (zAI _ z)) (λ z=>hb (zAI _ z)) h2;exact⟨by rw[h1,e1],e2⟩
def wR{a b:Str}(h:a.cps.toList=b.cps.toList):a=b:=by
 obtain⟨⟨a⟩⟩:=a;obtain⟨⟨b⟩⟩:=b;rw[show a=b from h]
def gR(c:Nat)(a b:Str)(r:List Str):(zCX ⟨#[c]⟩ (a::b::r)).cps.toList=a.cps.toList++c::(zCX ⟨#[c]⟩ (b::r)).cps.toList:=by
 show(a++⟨#[c]⟩++zCX ⟨#[c]⟩ (b::r)).cps.toList=_
 simp only[zBb,zBh];rw[zBG];rfl
theorem aCe{c:Nat}:∀{ws vs:List Str},ws≠[]->vs≠[]->(∀w∈ws,fr c w)->(∀w∈vs,fr c w)->zCX ⟨#[c]⟩ ws=zCX ⟨#[c]⟩ vs->ws=vs
 |[],_,h,_,_,_,_=>absurd rfl h
 |_,[],_,h,_,_,_=>absurd rfl h
 |[a],[b],_,_,_,_,h=>by rw[show a=b from h]
 |[a],b::d::r,_,_,h1,_,h=>by
  have:=gR c b d r
  rw[<-h]at this;exact absurd (show c∈a.cps.toList by rw[show a.cps.toList=_ from this];simp) (h1 a zAH)
 |a::d::r,[b],_,_,_,h2,h=>by
  have:=gR c a d r
  rw[h]at this;exact absurd (show c∈b.cps.toList by rw[show b.cps.toList=_ from this];simp) (h2 b zAH)
 |a::d::r,b::e::t,_,_,h1,h2,h=>by
  have q:=gR c a d r;rw[h,gR c b e t]at q;obtain⟨q1,q2⟩:=aFU (h2 b zAH) (h1 a zAH) q;rw[wR q1,aCe (ws:=d::r) (vs:=e::t) (zFJ _ _) (zFJ _ _) (λ w hw=>h1 w (zAI _ hw)) (λ w hw=>h2 w (zAI _ hw)) (wR q2.symm)]
def aGd(x y:Str):zCT x y≠[]:=λ h=>by
 have:=PyProof.Rows.split_pos x y
 rw[h]at this;exact absurd this (by decide)
def gK(s:Str)(ws:List Str):zDf s ws=zCX s ws:=StrLaws.glued_eq_join s ws
def mL{c:Nat}{ws:List Str}(h:ws≠[])(hf:∀w∈ws,fr c w):zCT (zDf ⟨#[c]⟩ ws) ⟨#[c]⟩=ws:=by
 refine aCe (c:=c) (aGd _ _) h (λ w hw=>zGb _ c w hw) hf ?_;rw[zGa,gK]
def sbs(c d:Nat)(l:List Nat):List Nat:=l.map λ k=>if k=c then d else k
def aCH{c d:Nat}{l:List Nat}(h:c∉l):sbs c d l=l:=by
 unfold sbs;refine(zCE (g:=id) λ k hk=>if_neg λ(e:k=c)=>h (e▸hk)).trans (List.map_id _)
def aEk(c d:Nat)(a b:List Nat):sbs c d (a++b)=sbs c d a++sbs c d b:=zAg
theorem xu{c d:Nat}:∀{ws:List Str},(∀w∈ws,fr c w)->sbs c d (zCX ⟨#[c]⟩ ws).cps.toList=(zCX ⟨#[d]⟩ ws).cps.toList
 |[],_=>rfl
 |[a],h=>aCH (h a zAH)
 |a::b::r,h=>by
  have ih:=xu (d:=d) (ws:=b::r) λ w hw=>h w (zAI _ hw)
  rw[gR,gR,aEk,aCH (h a zAH),<-ih];unfold sbs;rw[zAC,if_pos rfl]
def aGs(x:Str)(c d:Nat):(zFd x ⟨#[c]⟩ ⟨#[d]⟩).cps.toList=sbs c d x.cps.toList:=by
 rw[StrLaws.replace_one,<-xu λ w hw=>zGb x c w hw,zGa]
theorem aCG{c d s:Nat}(hs:s≠c):∀(rs:List (Str×Str)),(∀p∈rs,sbs c d p.1.cps.toList=p.2.cps.toList)->sbs c d (zCX ⟨#[s]⟩ (rs.map (·.1))).cps.toList=(zCX ⟨#[s]⟩ (rs.map (·.2))).cps.toList
 |[],_=>rfl
 |[p],h=>h p zAH
 |p::q::r,h=>by
  have ih:=aCG (d:=d) hs (q::r) λ w hw=>h w (zAI _ hw)
  simp only[zAC]at ih ⊢;rw[gR,gR,aEk,h p zAH,<-ih];unfold sbs;rw[zAC,if_neg hs]
def aNK:∀k:Nat,k<61->(dg (k:Int)).cps.toList.all (λ c=>decide (48<=c/\c<=57))=true/\(dg (k:Int)).length<=2/\zGn (dg (k:Int)++(":":Str)) none (some (-1))=dg (k:Int)/\(dg (k:Int)++(":":Str)).length<=3:=by decide+kernel
structure Fg(i:Int):Prop where
 ch:∀c∈(dg i).cps.toList,48<=c/\c<=57
 len:(dg i).length<=2
 cut:zGn (dg i++(":":Str)) none (some (-1))=dg i
def fg{i:Int}(h0:0<=i)(h1:i<=60):Fg i:=by
 obtain⟨a,b,c,_⟩:=aNK i.toNat (by lia);rw[zB8 h0]at a b c;rw[zAu]at a;exact⟨λ x hx=>of_decide_eq_true (a x hx),b,c⟩
theorem Fg.fr{i:Int}(h:Fg i){c:Nat}(hc:c<48\/57<c):fr c (dg i):=λ hm=>by
 have:=h.ch c hm
 lia
def aA0{i:Int}(h0:0<=i)(h1:i<=60):i.natAbs.log2<1920:=by
 have:i.natAbs.log2<=i.natAbs:=Nat.log2_le_self _
 lia
def xN{i:Int}(h0:0<=i)(h1:i<=60):fB [.int i]= .ok (.str (dg i)):=by
 unfold fB;dsimp only;rw[if_pos (aA0 h0 h1)];rfl
def len_app(a b:Str):(a++b).length=a.length+b.length:=zHO a b
def j8{s:Str}{ws:List Str}(k:Nat)(h1:s.length<=1)(h2:∀w∈ws,w.length<=k)(h3:ws.length<=1000)(hk:k<=10000):aA3 s ws=true:=by
 unfold aA3;rw[decide_eq_true_eq]
 have:(ws.map (·.length)).sum<=ws.length*k:=by
  clear h3;induction ws with
  |nil=>simp
  |cons w ws ih=>
   have:=h2 w zAH
   have:=ih λ v hv=>h2 v (zAI _ hv)
   simp only[zAC,zIX,zA3,Nat.add_mul];lia
 have h4:ws.length*k<=1000*10000:=zFt h3 hk;have h5:ws.length*s.length<=1000*1:=zFt h3 h1;lia
def o6{s:Str}{ws:List Str}(k:Nat)(h1:s.length<=1)(h2:∀w∈ws,w.length<=k):(zDf s ws).length<=ws.length*(k+1):=by
 rw[gK];refine zA6 (StrLaws.join_length_le s ws) ?_;induction ws with
 |nil=>simp
 |cons w ws ih=>
  have:=h2 w zAH
  have:=ih λ v hv=>h2 v (zAI _ hv)
  simp only[zAC,zIX,zA3,Nat.add_mul]at this ⊢;lia
def rwS(sg:Str)(w:List Int):Str:=zDf sg (w.map dg)
def j9{f g:En->Rs D}{Y:En}{s:Str}{ws:List Str}(h1:f Y= .ok (.str s))(h2:g Y= .ok (.lst (ws.map .str)))(h3:aA3 s ws=true):jb f g Y= .ok (.str (zDf s ws)):=by
 unfold jb;rw[h1,aK];dsimp only;rw[h2,aK];dsimp only;rw[qj];dsimp only;rw[if_pos h3]
def uo{f:En->Rs (List D)}{Y:En}{js:kX}{w:List Int}{x0:En}(hw:∀x∈w,0<=x/\x<=60)(hl:w.length<=1000)(hf:f (shE Y)= .ok (w.map .int))(hs:stE js (shE Y)= .no::x0):
  lcD f js (gnm 0) dZ (opA fB (aA (aD 0) aF)) Y= .ok (.lst ((w.map dg).map .str)):=by
 rw[zA4];refine iy hf (by rw[zAF];lia) ?_;rw[hs];refine mj w λ x hx=>⟨.sh (.int x)::x0,rfl,?_⟩
 have hv:aD 0 (.sh (.int x)::x0)= .ok (.int x):=rfl;rw[gq,aX,hv,aK,bR,aK,aK,xN (hw x hx).1 (hw x hx).2];rfl
def uD{w:List Int}(hw:∀x∈w,0<=x/\x<=60):∀v∈w.map dg,v.length<=2:=λ v hv=>by
 obtain⟨x,hx,rfl⟩:=zAU.mp hv;exact(fg (hw x hx).1 (hw x hx).2).len
def oN{w:List Int}{sg:Str}(hw:∀x∈w,0<=x/\x<=60)(hl:w.length<=1000)(hs:sg.length<=1):dB [tupI w,.str sg]= .ok (.str (rwS sg w)):=by
 have st:aZ 2 [tupI w,.str sg]=[.sh (tupI w),.sh (.str sg)]:=rfl;simp only[dB,iC,bB,st];have e:=uo (f:=cj (aD 0)) (Y:=[.sh (tupI w),.sh (.str sg)]) (js:=[none]) (x0:=[]) hw hl rfl rfl;have e2:=j9 (f:=aD 1) (s:=sg) rfl e (j8 2 hs (uD hw) (by rw[zAF];exact hl) (by decide));rw[bf,e2];rfl
def aGK{l:List D}{k:Nat}(h:k<=l.length):cutD l (some (k:Int)) none=l.drop k:=by
 have e1:HT.sIx l.length 0 (some (k:Int))=k:=by simp[HT.sIx];lia
 have e2:HT.sIx l.length l.length none=l.length:=rfl;unfold cutD;rw[e1,e2,zGP (by rw[zC7];exact zAM _)]
def aIK{d:D}(neg:Bool)(h1:gr d<=60)(h2:ak d=true):eqR neg d d= .ok (.bl (if neg then false else true)):=by
 unfold eqR;rw[if_pos (by simp[h1,h2]),tZ d h2];cases neg<;>rfl
def aBr:(" ":Str)=⟨#[32]⟩:=by decide+kernel
def aLP:("-":Str)=⟨#[45]⟩:=by decide+kernel
def aLS:(">":Str)=⟨#[62]⟩:=by decide+kernel
def aO3:("":Str)=⟨#[]⟩:=by decide+kernel
def prS(sg:Str)(p:Int×Int):Str:=dg p.1++sg++dg p.2
def mH(sg:Str)(n:Int)(ps:gX):Str:=zDf (" ":Str) ((dg n++(":":Str))::ps.map (prS sg))
def aEm(sg:Str)(p:Int×Int):rwS sg [p.1,p.2]=prS sg p:=by
 unfold rwS;rw[gK];rfl
def aGF(a:Str)(r:List Str):(zCX ⟨#[]⟩ (a::r)).cps.toList=a.cps.toList++(zCX ⟨#[]⟩ r).cps.toList:=by
 cases r with
 |nil=>exact(zBX _).symm
 |cons b r=>
  show(a++⟨#[]⟩++zCX ⟨#[]⟩ (b::r)).cps.toList=_
  simp only[zBb,zBh];rw[zBG];rfl
theorem vX:∀(ws:List Str) (a:Str),(a++zCX ⟨#[]⟩ (ws.map λ w=>(⟨#[32]⟩:Str)++w)).cps.toList=(zCX ⟨#[32]⟩ (a::ws)).cps.toList
 |[],a=>by
  rw[zBb,zBh];exact zBX _
 |w::ws,a=>by
  have ih:=vX ws w;rw[zBb,zBh]at ih;rw[zBb,zBh,zAC,aGF,gR,<-ih,zBb,zBh,zBG];rfl
def aNS{a b:Str}(h:a.length+b.length<=100000):lw (.str a) (.str b)= .ok (.str (a++b)):=by
 unfold lw;dsimp only;rw[if_pos (by rw[szl];lia)]
def zW{f g:En->Rs D}{Y:En}{a b:Str}(h1:f Y= .ok (.str a))(h2:g Y= .ok (.str b))(h:a.length+b.length<=100000):op2 lw f g Y= .ok (.str (a++b)):=by
 rw[cR,h1,aK,h2,aK,aNS h];rfl
section
variable{n:Int}{ps:gX}{sg:Str}
def aBK{p:Int×Int}(h:0<=p.1/\p.1<=60/\0<=p.2/\p.2<=60)(hs:sg.length<=1):(prS sg p).length<=5:=by
 unfold prS;rw[len_app,len_app]
 have:=(fg h.1 h.2.1).len
 have:=(fg h.2.2.1 h.2.2.2).len
 lia
def bF:((":":Str)).length=1/\((" ":Str)).length=1/\(("-":Str)).length=1/\((">":Str)).length=1/\(("":Str)).length=0/\(("none":Str)).length=4:=by decide+kernel
def yO(h0:0<=n)(h1:n<=60):(dg n++(":":Str)).length<=3:=by
 rw[len_app,bF.1]
 have:=(fg h0 h1).len
 lia
def qK(h0:0<=n)(h1:n<=60)(hp:∀p∈ps,0<=p.1/\p.1<=60/\0<=p.2/\p.2<=60)(hl:ps.length<=100)(hs:sg.length<=1):dX [.int n,.tup (ps.map pD),.str sg]= .ok (.str (mH sg n ps)):=by
 have st:aZ 3 [.int n,.tup (ps.map pD),.str sg]=[.sh (.int n),.sh (.tup (ps.map pD)),.sh (.str sg)]:=rfl;simp only[dX,fL,bB,st];have b1:∀p∈ps,((" ":Str)++prS sg p).length<=6:=λ p h=>by
  rw[len_app,bF.2.1]
  have:=aBK (hp p h) hs
  lia
 have b2:∀w∈ps.map (λ p=>(" ":Str)++prS sg p),w.length<=6:=λ w hw=>by
  obtain⟨p,h,rfl⟩:=zAU.mp hw;exact b1 p h
 have e1:lcD (cj (aD 1)) [none,some 2] (gnm 0) dZ (op2 lw (cD (.str " ")) (aM dB (aA (aD 0) (aA (aD 1) aF)))) [.sh (.int n),.sh (.tup (ps.map pD)),.sh (.str sg)]= .ok (.lst ((ps.map λ p=>(" ":Str)++prS sg p).map .str)):=by
  rw[zA4];refine iy (ds:=ps.map pD) rfl (by rw[zAF];lia) (mj ps λ p h=>⟨[.sh (pD p),.sh (.str sg)],rfl,?_⟩)
  have:=hp p h
  have e:=oN (w:=[p.1,p.2]) (sg:=sg) (λ x hx=>by
   rcases zAQ.mp hx with rfl|hx
   .exact⟨this.1,this.2.1⟩
   .rw[zAK.mp hx];exact this.2.2) (by simp) hs
  rw[aEm]at e;have ec:aM dB (aA (aD 0) (aA (aD 1) aF)) [.sh (pD p),.sh (.str sg)]= .ok (.str (prS sg p)):=by rw[eY];exact e
  refine zW rfl ec ?_
  have:=b1 p h
  rw[len_app]at this;lia
 have e2:=j9 (f:=cD (.str "")) (s:="") rfl e1 (j8 6 (by rw[bF.2.2.2.2.1];decide) b2 (by rw[zAF];lia) (by decide));have e3:op1 (aGH ":") (aD 0) [.sh (.int n),.sh (.tup (ps.map pD)),.sh (.str sg)]= .ok (.str (dg n++(":":Str))):=by
  show okD (aGH ":" (.int n))=_;unfold aGH;dsimp only
  have:=yO h0 h1
  rw[len_app]at this;rw[if_pos ⟨aA0 h0 h1,by rw[szl];show(dg n).length+_<=_;lia⟩];rfl
 have jl:=o6 (s:=("":Str)) 6 (by rw[bF.2.2.2.2.1];decide) b2;rw[zAF]at jl;have e4:=zW e3 e2 (by have:=yO h0 h1;lia);rw[bf,e4];show Rs.ok _=_;unfold mH;rw[gK,gK,aO3,aBr]
 have:=vX (ps.map (prS sg)) (dg n++(":":Str))
 rw[zA4]at this;exact congrArg (λ x=>Rs.ok (D.str x)) (wR this)
def lW(h0:0<=n)(h1:n<=60)(hp:∀p∈ps,0<=p.1/\p.1<=60/\0<=p.2/\p.2<=60)(hl:ps.length<=100)(hs:sg.length<=1):bL [owD n ps,.str sg]= .ok (.str (mH sg n ps)):=by
 have st:aZ 2 [owD n ps,.str sg]=[.sh (owD n ps),.sh (.str sg)]:=rfl;simp only[bL,cT,bB,st];have e1:lcD (cj (op2 ixD (aD 0) (cD (.int 1)))) [none,none,some 1] (rR 2 (dO (gnm 0) (dO (gnm 1) tL))) dZ (op2 lw (op2 lw (opA fB (aA (aD 0) aF)) (aD 2)) (opA fB (aA (aD 1) aF))) [.sh (owD n ps),.sh (.str sg)]= .ok (.lst ((ps.map (prS sg)).map .str)):=by
  rw[zA4];refine iy (ds:=ps.map pD) rfl (by rw[zAF];lia) (mj ps λ p h=>⟨[.sh (.int p.1),.sh (.int p.2),.sh (.str sg)],rfl,?_⟩);have q:=hp p h;have a1:opA fB (aA (aD 0) aF) [.sh (.int p.1),.sh (.int p.2),.sh (.str sg)]= .ok (.str (dg p.1)):=by
   show okD (fB [.int p.1])=_;rw[xN q.1 q.2.1];rfl
  have a2:opA fB (aA (aD 1) aF) [.sh (.int p.1),.sh (.int p.2),.sh (.str sg)]= .ok (.str (dg p.2)):=by
   show okD (fB [.int p.2])=_;rw[xN q.2.2.1 q.2.2.2];rfl
  have l1:=(fg q.1 q.2.1).len;have l2:=(fg q.2.2.1 q.2.2.2).len;have a3:=zW (g:=aD 2) a1 rfl (b:=sg) (by lia);exact zW a3 a2 (by rw[len_app];lia)
 have e2:op2 lw (opA fB (aA (op2 ixD (aD 0) (cD (.int 0))) aF)) (cD (.str ":")) [.sh (owD n ps),.sh (.str sg)]= .ok (.str (dg n++(":":Str))):=by
  refine zW (a:=dg n) ?_ rfl (by have:=(fg h0 h1).len;have:=bF.1;lia);show okD (fB [.int n])=_;rw[xN h0 h1];rfl
 have e3:op2 cG (eU (aA (op2 lw (opA fB (aA (op2 ixD (aD 0) (cD (.int 0))) aF)) (cD (.str ":"))) aF)) (lcD (cj (op2 ixD (aD 0) (cD (.int 1)))) [none,none,some 1] (rR 2 (dO (gnm 0) (dO (gnm 1) tL))) dZ (op2 lw (op2 lw (opA fB (aA (aD 0) aF)) (aD 2)) (opA fB (aA (aD 1) aF)))) [.sh (owD n ps),.sh (.str sg)]= .ok (.lst ((((dg n++(":":Str)))::ps.map (prS sg)).map .str)):=by
  have el:eU (aA (op2 lw (opA fB (aA (op2 ixD (aD 0) (cD (.int 0))) aF)) (cD (.str ":"))) aF) [.sh (owD n ps),.sh (.str sg)]= .ok (.lst [.str (dg n++(":":Str))]):=by
   rw[aBS,aX,e2,aK,bR,aK,aK];rfl
  rw[cR,el,aK,e1,aK,aI8,if_pos (by rw[zAF,zAF,zEW];lia),lE];rfl
 have e4:=j9 (f:=cD (.str " ")) (s:=" ") rfl e3 (j8 5 (by rw[bF.2.1];decide) (λ w hw=>by
  rcases zAQ.mp hw with rfl|hw
  .have:=yO h0 h1;lia
  .obtain⟨p,h,rfl⟩:=zAU.mp hw
   exact aBK (hp p h) hs) (by rw[zA3,zAF];lia) (by decide))
 rw[bf,e4];rfl
end
def Ow.s{n:Int}{ps:gX}(O:Ow n ps):∀p∈ps,0<=p.1/\p.1<=60/\0<=p.2/\p.2<=60:=λ p hp=>by
 have:=O.pr p hp
 have:=O.n1
 exact⟨by lia,by lia,by lia,by lia⟩
def nP{n:Int}{ps:gX}(O:Ow n ps)(hl:ps.length<=100):bj [owD n ps]= .ok (.str (mH ">" n ps)):=by
 have e1:=uy O;have e2:=qK (sg:=">") O.n0 O.n1 O.s hl (by rw[bF.2.2.2.1];decide);have st:aZ 1 [owD n ps]=[.sh (owD n ps)]:=rfl;have a1:aM du (aA (aD 0) aF) [.sh (owD n ps)]= .ok .non:=e1;have a2:aM dX (aA (op2 ixD (aD 0) (cD (.int 0))) (aA (op2 ixD (aD 0) (cD (.int 1))) (aA (cD (.str ">")) aF))) [.sh (owD n ps)]= .ok (.str (mH ">" n ps)):=e2;simp only[bj,dI,bB,st];rw[aO,aCq,a1,bW,aj,bf,a2];rfl
def aB4{n:Int}{ps:gX}(O:Ow n ps)(low:∀p∈ps,p.1<p.2):iY [owD n ps]= .ok .non:=by
 have:=aA5 O low
 simp[iY,gG,aZ,this]
def vD{n:Int}{ps:gX}(O:Ow n ps)(low:∀p∈ps,p.1<p.2)(hl:ps.length<=100):cL [owD n ps]= .ok (.str (mH "-" n ps)):=by
 have e1:=aB4 O low;have e2:=qK (sg:="-") O.n0 O.n1 O.s hl (by rw[bF.2.2.1];decide);have st:aZ 1 [owD n ps]=[.sh (owD n ps)]:=rfl;have a1:aM iY (aA (aD 0) aF) [.sh (owD n ps)]= .ok .non:=e1;have a2:aM dX (aA (op2 ixD (aD 0) (cD (.int 0))) (aA (op2 ixD (aD 0) (cD (.int 1))) (aA (cD (.str "-")) aF))) [.sh (owD n ps)]= .ok (.str (mH "-" n ps)):=e2;simp only[cL,gw,bB,st];rw[aO,aCq,a1,bW,aj,bf,a2];rfl
def knS:List (Str×Int):=(zAf 61).map λ(k:Nat)=>(dg (k:Int),(k:Int))
def knD:List (Str×D):=knS.map λ p=>(p.1,.int p.2)
theorem aHb(a:Str):∀qs:List (Str×Int),(qs.map λ q=>(q.1,D.int q.2)).lookup a=(qs.lookup a).map .int
 |[]=>rfl
 |q::qs=>by
  rw[zAC,zAe,zAe,aHb a qs];cases a==q.1<;>rfl
def aKG:∀k:Nat,k<61->knS.lookup (dg (k:Int))=some (k:Int):=by decide+kernel
def aOT{i:Int}(h0:0<=i)(h1:i<=60):knD.lookup (dg i)=some (.int i):=by
 have:=aKG i.toNat (by lia)
 rw[zB8 h0]at this;unfold knD;rw[aHb,this];rfl
def aOS:(knS.map (·.1)).Nodup:=by decide+kernel
def aHD{ps:List (Str×D)}{i:Str}{d:D}(h:i∉ps.map (·.1)):aCN ps i d=ps++[(i,d)]:=by
 unfold aCN;rw[if_neg];rw[zEF];rintro⟨p,hp,e⟩;exact h (zAU.mpr ⟨p,hp,of_decide_eq_true e⟩)
theorem aAa:∀{qs acc:List (Str×D)},(acc.map (·.1)++qs.map (·.1)).Nodup->foldZ acc qs=acc++qs
 |[],acc,_=>by simp[foldZ]
 |q::qs,acc,h=>by
  have hn:q.1∉acc.map (·.1):=λ hm=>by
   rw[zAt]at h;exact h.2.2 _ hm _ (by simp) rfl
  have e:foldZ acc (q::qs)=foldZ (aCN acc q.1 q.2) qs:=rfl;rw[e,aHD hn,aAa (by simpa using h)];simp
theorem aCO:∀l:List (Str×D),nZ (l.map λ p=>.tup [.str p.1,p.2])=some l
 |[]=>rfl
 |p::l=>by
  rw[zAC,nZ,aCO l];rfl
def knE:En->Rs D:=dcZ (gJ gn (aA (op2 cG (cD (.int 60)) (cD (.int 1))) aF)) [none] (gnm 0) dZ (opA fB (aA (aD 0) aF)) (bT (aD 0))
def aMn(Y:En):knE Y= .ok (uE knD):=by
 unfold knE dcZ;have hr:=iQ (j:=61) (by decide) (by decide);have hf:gJ gn (aA (op2 cG (cD (.int 60)) (cD (.int 1))) aF) (shE Y)= .ok (cQ 0 61):=hr;have hs:stE [none] (shE Y)=[.no]:=rfl;have e:lcL [.no] (gnm 0) dZ (pairE (opA fB (aA (aD 0) aF)) (bT (aD 0))) ((upI 61).map .int)= .ok ((upI 61).map λ x=>.tup [.str (dg x),.int x]):=by
  refine mj _ λ x hx=>⟨[.sh (.int x)],rfl,?_⟩
  have:=m8.mp hx
  have a:opA fB (aA (aD 0) aF) [.sh (.int x)]= .ok (.str (dg x)):=by
   show okD (fB [.int x])=_;rw[xN this.1 (by lia)];rfl
  unfold pairE;rw[a,aK];rfl
 rw[hf,aK,if_pos (by rw[jW,szl];decide),hs,aBE,e];dsimp only;have e2:((upI 61).map λ x=>D.tup [.str (dg x),.int x])=knD.map λ p=>.tup [.str p.1,p.2]:=by
  unfold knD knS upI;rw[zA4,zA4,zA4];rfl
 rw[e2,aCO];dsimp only;rw[aAa (by
  rw[zEX,zF1];unfold knD;rw[zA4];exact aOS)]
 rfl
def iw{ks:List Int}(h:∀x∈ks,0<=x/\x<=60)(hl:ks.length<=1000):bK [.lst ((ks.map dg).map .str)]= .ok (tupI ks):=by
 have st:aZ 2 [.lst ((ks.map dg).map .str)]=[.sh (.lst ((ks.map dg).map .str)),.no]:=rfl;have df:dM=ao (bU 1 knE) (retS (opA bM (aA (lcD (cj (aD 0)) [none,some 1] (gnm 0) dZ (bT (aEP (aD 1) (aD 0)))) aF))):=rfl;have a1:bU 1 knE [.sh (.lst ((ks.map dg).map .str)),.no]= .nx [.sh (.lst ((ks.map dg).map .str)),.sh (uE knD)]:=by
  rw[jE,aMn];rfl
 have a2:lcD (cj (aD 0)) [none,some 1] (gnm 0) dZ (bT (aEP (aD 1) (aD 0))) [.sh (.lst ((ks.map dg).map .str)),.sh (uE knD)]= .ok (.lst (ks.map .int)):=by
  rw[zA4];refine iy (ds:=ks.map (D.str∘dg)) rfl (by rw[zAF];lia) (mj ks λ x hx=>⟨[.sh (.str (dg x)),.sh (uE knD)],rfl,?_⟩);have g:aEP (aD 1) (aD 0) [.sh (.str (dg x)),.sh (uE knD)]= .ok (.int x):=by
   unfold aEP;have v1:aD 1 [.sh (.str (dg x)),.sh (uE knD)]= .ok (uE knD):=rfl;have v0:aD 0 [.sh (.str (dg x)),.sh (uE knD)]= .ok (.str (dg x)):=rfl;rw[v1,aK];unfold uE;dsimp only;rw[aHM];dsimp only;unfold uE at v0;rw[v0,aK];dsimp only;rw[aOT (h x hx).1 (h x hx).2];rfl
  show(aEP (aD 1) (aD 0) [.sh (.str (dg x)),.sh (uE knD)]).bd zz=_
  rw[g,aK];rfl
 simp only[bK,df,bB,st];rw[aO,a1,aj,bf,gq,aX,a2,aK,bR,aK,aK,gk];rfl
def aFq(x y:Str)(hy:(y.length==0)=false):(zCU x (zBv x y 0 x.length (x.length+1)) y.length).length=(zCT x y).length:=by
 have h:=PySem.W.m_split x y hy;have h2:(if (y.length==0)=true then zG7 else some (zIf ((zCU x (zBv x y 0 x.length (x.length+1)) y.length).map .str)))=some (.list ((zCT x y).map .str)):=h;rw[hy,if_neg zAX]at h2;injection h2 with h2
 injection h2 with h2
 have:=congrArg zEf h2
 rwa [zAF,zAF]at this
def aIx{a b:Str}(hb:b.length=1)(ha:a.length<=100000):aBq a b=true:=by
 unfold aBq;have hy:(b.length==0)=false:=by rw[hb];rfl
 have h1:=PyProof.Rows.split_le a b;rw[aFq a b hy,hy,decide_eq_true (by rw[szl];lia),decide_eq_true (by rw[szl];lia)];rfl
def aAu{f g:En->Rs D}{Y:En}{a b:Str}{ws:List Str}(h1:f Y= .ok (.str a))(h2:g Y= .ok (.str b))(hb:b.length=1)(ha:a.length<=100000)(hw:zCT a b=ws):xP f g Y= .ok (.lst (ws.map .str)):=by
 unfold xP;rw[h1,aK];dsimp only;rw[h2,aK];dsimp only;rw[if_pos (aIx hb ha),hw]
def aEN{c:Nat}{a b:Str}(h1:fr c a)(h2:fr c b):fr c (a++b):=λ h=>by
 rw[zBb,zBh]at h;rcases zA5.mp h with h|h
 .exact h1 h
 .exact h2 h
section
variable{n:Int}{ps:gX}{c:Nat}
def aJ1{p:Int×Int}(h:0<=p.1/\p.1<=60/\0<=p.2/\p.2<=60)(hc:c≠32):fr 32 (prS ⟨#[c]⟩ p):=
 aEN (aEN ((fg h.1 h.2.1).fr (.inl (by decide))) (λ q=>hc (zAK.mp q).symm)) ((fg h.2.2.1 h.2.2.2).fr (.inl (by decide)))
def aKi:fr 32 (":":Str):=by unfold fr;decide+kernel
def aF0(h0:0<=n)(h1:n<=60)(hp:∀p∈ps,0<=p.1/\p.1<=60/\0<=p.2/\p.2<=60)(hc:c≠32):zCT (mH ⟨#[c]⟩ n ps) (" ":Str)=(dg n++(":":Str))::ps.map (prS ⟨#[c]⟩):=by
 unfold mH;rw[aBr];refine mL (zFJ _ _) λ w hw=>?_
 rcases zAQ.mp hw with rfl|hw
 .exact aEN ((fg h0 h1).fr (.inl (by decide))) aKi
 .obtain⟨p,h,rfl⟩:=zAU.mp hw
  exact aJ1 (hp p h) hc
def aIn(h0:0<=n)(h1:n<=60)(hp:∀p∈ps,0<=p.1/\p.1<=60/\0<=p.2/\p.2<=60)(hl:ps.length<=100){sg:Str}(hs:sg.length<=1):(mH sg n ps).length<=1000:=by
 have:=o6 (s:=(" ":Str)) (ws:=(dg n++(":":Str))::ps.map (prS sg)) 5 (by rw[bF.2.1];decide) (λ w hw=>by
  rcases zAQ.mp hw with rfl|hw
  .have:=yO h0 h1;lia
  .obtain⟨p,h,rfl⟩:=zAU.mp hw
   exact aBK (hp p h) hs)
 rw[zA3,zAF]at this;unfold mH;lia
def qL(h0:0<=n)(h1:n<=60)(hp:∀p∈ps,0<=p.1/\p.1<=60/\0<=p.2/\p.2<=60)(hl:ps.length<=100)(hc:c<48\/57<c)(hc2:c≠32):cH [.str (mH ⟨#[c]⟩ n ps),.str ⟨#[c]⟩]= .ok (owD n ps):=by
 have l1:(⟨#[c]⟩:Str).length=1:=rfl;have wl:=aIn h0 h1 hp hl (sg:=⟨#[c]⟩) (zAM 1);generalize hx:mH ⟨#[c]⟩ n ps=x at wl;have st:aZ 4 [.str x,.str ⟨#[c]⟩]=[.sh (.str x),.sh (.str ⟨#[c]⟩),.no,.no]:=rfl;have e1:=aAu (f:=aD 0) (g:=cD (.str " ")) (Y:=[.sh (.str x),.sh (.str ⟨#[c]⟩),.no,.no]) (a:=x) (b:=" ") (ws:=(dg n++(":":Str))::ps.map (prS ⟨#[c]⟩)) rfl rfl bF.2.1 (by lia) (hx▸aF0 h0 h1 hp hc2);generalize hw:(((dg n++(":":Str))::ps.map (prS ⟨#[c]⟩)).map D.str)=W at e1;have a1:bU 2 (xP (aD 0) (cD (.str " "))) [.sh (.str x),.sh (.str ⟨#[c]⟩),.no,.no]= .nx [.sh (.str x),.sh (.str ⟨#[c]⟩),.sh (.lst W),.no]:=by
  rw[jE,e1];rfl
 have hW:W= .str (dg n++(":":Str))::(ps.map (prS ⟨#[c]⟩)).map D.str:=by rw[<-hw];rfl
 have hcut:cutD W (some 1) none=(ps.map (prS ⟨#[c]⟩)).map D.str:=by
  have:=aGK (l:=W) (k:=1) (by rw[hW];simp)
  rw[hW]at this ⊢;exact this
 have e2:lcD (cj (aAx (aD 2) (vQ (cD (.int 1))) vR)) [none,some 1] (gnm 0) dZ (xP (aD 0) (aD 1)) [.sh (.str x),.sh (.str ⟨#[c]⟩),.sh (.lst W),.no]= .ok (.lst (ps.map λ p=>.lst (([p.1,p.2].map dg).map .str))):=by
  refine iy (ds:=ps.map λ p=>.str (prS ⟨#[c]⟩ p)) ?_ (by rw[zAF];lia) (mj ps λ p h=>⟨[.sh (.str (prS ⟨#[c]⟩ p)),.sh (.str ⟨#[c]⟩)],rfl,?_⟩)
  .show(okD (.ok (.lst (cutD W (some 1) none)))).bd itD=_
   rw[hcut,zA4];rfl
  .have q:=hp p h
   refine aAu rfl rfl l1 (by have:=aBK (sg:=⟨#[c]⟩) q (zAM 1);lia) ?_;rw[<-aEm];exact mL (by simp) λ w hw=>by
    obtain⟨y,hy,rfl⟩:=zAU.mp hw;rcases zAQ.mp hy with rfl|hy
    .exact(fg q.1 q.2.1).fr hc
    .rw[zAK.mp hy];exact(fg q.2.2.1 q.2.2.2).fr hc
 have a2:pq 3 (lcD (cj (aAx (aD 2) (vQ (cD (.int 1))) vR)) [none,some 1] (gnm 0) dZ (xP (aD 0) (aD 1))) [.sh (.str x),.sh (.str ⟨#[c]⟩),.sh (.lst W),.no]= .nx [.sh (.str x),.sh (.str ⟨#[c]⟩),.sh (.lst W),.nw (.lst (ps.map λ p=>.lst (([p.1,p.2].map dg).map .str)))]:=by
  rw[sY,e2];rfl
 have e3:uR (op2 ixD (aD 2) (cD (.int 0))) vR (vQ (op1 zr (cD (.int 1)))) [.sh (.str x),.sh (.str ⟨#[c]⟩),.sh (.lst W),.nw (.lst (ps.map λ p=>.lst (([p.1,p.2].map dg).map .str)))]= .ok (.str (dg n)):=by
  have ix:op2 ixD (aD 2) (cD (.int 0)) [.sh (.str x),.sh (.str ⟨#[c]⟩),.sh (.lst W),.nw (.lst (ps.map λ p=>.lst (([p.1,p.2].map dg).map .str)))]= .ok (.str (dg n++(":":Str))):=by
   have h0:atD W ((0:Nat):Int)= .ok (.str (dg n++(":":Str))):=jG (by rw[hW];rfl);show okD (atD W ((0:Nat):Int))=_;rw[h0];rfl
  unfold uR;rw[ix,aK];show okD (aIy (.str (dg n++(":":Str))) none (some (-1)))=_;unfold aIy;dsimp only;rw[if_pos (by have:=yO h0 h1;rw[szl];lia),(fg h0 h1).cut];rfl
 have e4:op2 ixD (aM bK (aA (eU (aA (uR (op2 ixD (aD 2) (cD (.int 0))) vR (vQ (op1 zr (cD (.int 1))))) aF)) aF)) (cD (.int 0)) [.sh (.str x),.sh (.str ⟨#[c]⟩),.sh (.lst W),.nw (.lst (ps.map λ p=>.lst (([p.1,p.2].map dg).map .str)))]= .ok (.int n):=by
  have nr:=iw (ks:=[n]) (λ y hy=>by rw[zAK.mp hy];exact⟨h0,h1⟩) (by simp);have hl:eU (aA (uR (op2 ixD (aD 2) (cD (.int 0))) vR (vQ (op1 zr (cD (.int 1))))) aF) [.sh (.str x),.sh (.str ⟨#[c]⟩),.sh (.lst W),.nw (.lst (ps.map λ p=>.lst (([p.1,p.2].map dg).map .str)))]= .ok (.lst (([n].map dg).map .str)):=by
   rw[aBS,aX,e3,aK,bR,aK,aK];rfl
  rw[cR,eY,aX,hl,aK,bR,aK,aK,nr,aK];rfl
 have e5:lcD (cj (aD 3)) [none] (gnm 0) dZ (aM bK (aA (aD 0) aF)) [.sh (.str x),.sh (.str ⟨#[c]⟩),.sh (.lst W),.nw (.lst (ps.map λ p=>.lst (([p.1,p.2].map dg).map .str)))]= .ok (.lst (ps.map pD)):=by
  refine iy (ds:=ps.map λ p=>.lst (([p.1,p.2].map dg).map .str)) rfl (by rw[zAF];lia) (mj ps λ p h=>⟨[.sh (.lst (([p.1,p.2].map dg).map .str))],rfl,?_⟩);have q:=hp p h;rw[eY];exact iw (ks:=[p.1,p.2]) (λ y hy=>by
   rcases zAQ.mp hy with rfl|hy
   .exact⟨q.1,q.2.1⟩
   .rw[zAK.mp hy];exact q.2.2) (by simp)
 simp only[cH,fM,bB,st];rw[aO,a1,aj,aO,a2,aj,bf,sU,aX,e4,aK,aX,gq,aX,e5,aK,bR,aK,aK,gk,lE,aK,aK,aK,aK];rfl
end
def aHm(x:Str):jm "str" (.str x)= .ok (.bl true):=by rfl
def aBZ(n:Int)(ps:gX):gr (owD n ps)<=60/\ak (owD n ps)=true:=by
 obtain⟨h1,h2⟩:=ux ps;unfold owD;refine⟨?_,?_⟩
 .simp only[gr,cN]
  have:max 0 (max (cN (ps.map pD)+1) 0)<=2:=by lia
  lia
 .simp[ak,aq,h2]
def aHs(n:Int)(ps:gX):zz (owD n ps)= .ok (owD n ps):=w6 (by simp[owD,imm,ou,aFI])
def wg(a:Str):eqR false (.str a) (.str a)= .ok (.bl true):=by
 show Rs.ok (D.bl _)=_;simp[eqD]
section
variable{n:Int}{ps:gX}
def aBl(O:Ow n ps)(low:∀p∈ps,p.1<p.2)(hl:ps.length<=100):nM [.str (mH "-" n ps)]= .ok (owD n ps):=by
 have e1:=qL (c:=45) O.n0 O.n1 O.s hl (.inl (by decide)) (by decide);rw[<-aLP]at e1;have e2:=aA5 O low;have e3:=vD O low hl;generalize mH "-" n ps=x at e1 e3 ⊢;have st:aZ 2 [.str x]=[.sh (.str x),.no]:=rfl;have a0:tst (op1 (jm "str") (aD 0)) [.sh (.str x),.no]= .ok true:=by
  rw[uQ,aDl,show aD 0 [.sh (.str x),.no]= .ok (.str x)from rfl,aK,aHm];rfl
 have a1:bU 1 (aM cH (aA (aD 0) (aA (cD (.str "-")) aF))) [.sh (.str x),.no]= .nx [.sh (.str x),.sh (owD n ps)]:=by
  have:aM cH (aA (aD 0) (aA (cD (.str "-")) aF)) [.sh (.str x),.no]= .ok (owD n ps):=e1
  rw[jE,this];rfl
 have a2:aM iW (aA (aD 1) aF) [.sh (.str x),.sh (owD n ps)]= .ok (.bl true):=e2;have a3:aM cL (aA (aD 1) aF) [.sh (.str x),.sh (owD n ps)]= .ok (.str x):=e3;have a4:qG (tst (aM iW (aA (aD 1) aF))) (tsb (op2 (eqR false) (aM cL (aA (aD 1) aF)) (aD 0))) [.sh (.str x),.sh (owD n ps)]= .ok true:=by
  have t:tst (aM iW (aA (aD 1) aF)) [.sh (.str x),.sh (owD n ps)]= .ok true:=by rw[uQ,a2];rfl
  have u:tsb (op2 (eqR false) (aM cL (aA (aD 1) aF)) (aD 0)) [.sh (.str x),.sh (owD n ps)]= .ok true:=by
   rw[gm,cR,a3,aK]
   show(okD (eqR false (.str x) (.str x))).bd blD=_
   rw[wg];rfl
  rw[ph,t,u];rfl
 have a5:retS (bT (aD 1)) [.sh (.str x),.sh (owD n ps)]= .rt (owD n ps):=by
  have:bT (aD 1) [.sh (.str x),.sh (owD n ps)]= .ok (owD n ps):=aHs n ps
  rw[bf,this];rfl
 simp only[nM,iB,bB,st];rw[aO,dW,a0,bW,if_pos rfl,aO,a1,aj,dW,a4,bW,if_pos rfl,a5];rfl
def wH(O:Ow n ps)(hl:ps.length<=100):gf [.str (mH ">" n ps)]= .ok (owD n ps):=by
 have e1:=qL (c:=62) O.n0 O.n1 O.s hl (.inr (by decide)) (by decide);rw[<-aLS]at e1;have e2:=qQ O;have e3:=nP O hl;generalize mH ">" n ps=x at e1 e3 ⊢;have st:aZ 2 [.str x]=[.sh (.str x),.no]:=rfl;have a0:tst (op1 (jm "str") (aD 0)) [.sh (.str x),.no]= .ok true:=by
  rw[uQ,aDl,show aD 0 [.sh (.str x),.no]= .ok (.str x)from rfl,aK,aHm];rfl
 have a1:bU 1 (aM cH (aA (aD 0) (aA (cD (.str ">")) aF))) [.sh (.str x),.no]= .nx [.sh (.str x),.sh (owD n ps)]:=by
  have:aM cH (aA (aD 0) (aA (cD (.str ">")) aF)) [.sh (.str x),.no]= .ok (owD n ps):=e1
  rw[jE,this];rfl
 have a2:aM cY (aA (aD 1) aF) [.sh (.str x),.sh (owD n ps)]= .ok (.bl true):=e2;have a3:aM bj (aA (aD 1) aF) [.sh (.str x),.sh (owD n ps)]= .ok (.str x):=e3;have a4:qG (tst (aM cY (aA (aD 1) aF))) (tsb (op2 (eqR false) (aM bj (aA (aD 1) aF)) (aD 0))) [.sh (.str x),.sh (owD n ps)]= .ok true:=by
  have t:tst (aM cY (aA (aD 1) aF)) [.sh (.str x),.sh (owD n ps)]= .ok true:=by rw[uQ,a2];rfl
  have u:tsb (op2 (eqR false) (aM bj (aA (aD 1) aF)) (aD 0)) [.sh (.str x),.sh (owD n ps)]= .ok true:=by
   rw[gm,cR,a3,aK]
   show(okD (eqR false (.str x) (.str x))).bd blD=_
   rw[wg];rfl
  rw[ph,t,u];rfl
 have a5:retS (bT (aD 1)) [.sh (.str x),.sh (owD n ps)]= .rt (owD n ps):=by
  have:bT (aD 1) [.sh (.str x),.sh (owD n ps)]= .ok (owD n ps):=aHs n ps
  rw[bf,this];rfl
 simp only[gf,dJ,bB,st];rw[aO,dW,a0,bW,if_pos rfl,aO,a1,aj,dW,a4,bW,if_pos rfl,a5];rfl
end
theorem vL:∀{ts:List D},ts.all (dG n)=true->(ts.map intOf).map D.int=ts
 |[],_=>rfl
 |t::ts,h=>by
  rw[zGJ,zAW]at h;obtain⟨a,rfl,_⟩:=uf h.1;rw[zAC,zAC,vL h.2];rfl
def aFl(m:Int):D->Bool
 | .tup ts=>ts.all (dG m)&&rF ltI (ts.map intOf)
 |_=>false
def aAG(h:pln d=true)(hs:aDU d=true):cZ [.int m,d]= .ok (.bl (aFl m d)):=by
 cases d with
 |tup ts=>
  have hp:vz ts=true:=by simpa[pln]using h
  have hl:ts.length<=100000:=by simpa[aDU]using hs
  have L:=pX (a:=gnm 2) (u:=ifS (rM (tst (aM dY (aA (aD 0) (aA (aD 2) aF))))) (retS (cD (.bl false))) Ou.nx) (r:=.bl false)
   ts (λ i=>match ts[i]? with|some t=>dG m t|none=>true) (λ Y=>∃s,Y=[.sh (.int m),.sh (.tup ts),s]) [.sh (.int m),.sh (.tup ts),.no] ⟨_,rfl⟩ (by
    rintro i d Y hd ⟨s,rfl⟩;have e:=o8 (m:=m) (pN (yF hp (zBL hd)));simp only[hd];cases c:dG m d with
    |true=>right;exact⟨_,by simp[e,c];rfl,⟨_,rfl⟩,rfl⟩
    |false=>left;exact⟨by simp[e,c],rfl⟩)
  have st:aZ 3 [.int m,.tup ts]=[.sh (.int m),.sh (.tup ts),.no]:=rfl;rcases L with ⟨e,i,hi,o⟩|⟨Y',e,⟨s,rfl⟩,o⟩
  .have:ts.all (dG m)=false:=by
    rw[zHU];rw[zAJ hi]at o;exact⟨ts[i],zEG hi,by simpa using o⟩
   simp only[cZ,cX,bB,st];simp[e,aFl,this]
  .have:ts.all (dG m)=true:=by
    rw[zAu];intro t ht;obtain⟨i,hi,rfl⟩:=zGu ht
    have:=o i hi
    rw[zAJ hi]at this;exact this
   have er:=aCf (ps:=ts.map intOf) (by rw[zAF];exact hl);rw[vL this]at er;simp only[cZ,cX,bB,st];simp[e,aFl,this,er]
 |_=>simp[cZ,cX,aZ,pU (pN h),rQ,aFl]
theorem ints_of:∀ws:List Int,(ws.map D.int).map intOf=ws
 |[]=>rfl
 |w::ws=>by rw[zAC,zAC,ints_of ws];rfl
def aN3(n:Int):(upI n).Pairwise (·< ·):=by
 unfold upI;rw[zHY];exact(List.pairwise_lt_range).imp λ h=>by lia
def aD4{l:List Int}(h:l.Pairwise (·< ·)):rF ltI l=true:=by
 induction l with
 |nil=>rfl
 |cons a l ih=>
  cases l with
  |nil=>rfl
  |cons b l=>
   have h1:=(zAx.mp h).1 b zAH;unfold rF;rw[ih (zAx.mp h).2,zCd];simpa[ltI]using h1
def aME{n:Int}{l:List Int}(h:l.Sublist (upI n)):aFl n (tupI l)=true:=by
 have hi:(l.map D.int).map intOf=l:=ints_of l;unfold tupI aFl;dsimp only;rw[hi,aD4 ((aN3 n).sublist h),zCd,zAu];intro d hd;obtain⟨x,hx,rfl⟩:=zAU.mp hd;obtain⟨a,b⟩:=m8.mp (h.subset hx);simp[dG,a,b]
def lpT:En->Rs Bool:=tsb (op2 ltD (aM aU (aA (aD 1) (aA (op2 cG (op2 cG (aD 2) (cD (.int 1))) (aD 0)) (aA (cD (.int 5)) aF)))) (aD 3))
def zx{c s n:Int}(s0:0<=s)(s1:s<=1000)(n0:0<=n)(n1:n<=60):∃xs:List Int,gh [.int c,.int s,.int n]= .ok (.tup (xs.map .int))/\xs.Sublist (upI n):=by
 obtain⟨r,e,b⟩:=nH (c:=c) (k:=s) (b:=4) (by lia) (by lia) (by decide) (by decide);have st:aZ 4 [.int c,.int s,.int n]=[.sh (.int c),.sh (.int s),.sh (.int n),.no]:=rfl;have hr:=iQ (j:=n) (by lia) (by lia);obtain⟨t,ht⟩:∃t:Int->Bool,∀x∈upI n,lpT [.sh (.int x),.sh (.int c),.sh (.int s),.sh (.int (1+(r:Int)))]= .ok (t x):=by
  refine⟨λ x=>match lpT [.sh (.int x),.sh (.int c),.sh (.int s),.sh (.int (1+(r:Int)))]with| .ok b=>b|_=>false,λ x hx=>?_⟩;obtain⟨x0,x1⟩:=m8.mp hx;obtain⟨r2,e2,_⟩:=nH (c:=c) (k:=s+1+x) (b:=5) (by lia) (by lia) (by decide) (by decide)
  have:lpT [.sh (.int x),.sh (.int c),.sh (.int s),.sh (.int (1+(r:Int)))]= .ok (decide ((r2:Int)<1+(r:Int))):=by
   unfold lpT;simp[e2]
  dsimp only;rw[this]
 refine⟨(upI n).filter t,?_,zEe⟩;have hc:lcD (gJ gn (aA (aD 2) aF)) [none,some 0,some 1,some 3] (gnm 0) lpT (bT (aD 0)) [.sh (.int c),.sh (.int s),.sh (.int n),.sh (.int (1+(r:Int)))]= .ok (.lst (((upI n).filter t).map .int)):=by
  refine iy (ds:=(upI n).map .int) (by rw[<-aBE];simp[shE,aF5,hr]) (by rw[zAF,qg];lia) ?_;exact mq (fg:=gnm 0) (f:=D.int) (g:=D.int) (t:=t) (upI n) λ x hx=>⟨[.sh (.int x),.sh (.int c),.sh (.int s),.sh (.int (1+(r:Int)))],rfl,ht x hx,rfl⟩
 have e1:bU 3 (op2 cG (cD (.int 1)) (aM aU (aA (aD 0) (aA (aD 1) (aA (cD (.int 4)) aF))))) [.sh (.int c),.sh (.int s),.sh (.int n),.no]= .nx [.sh (.int c),.sh (.int s),.sh (.int n),.sh (.int (1+(r:Int)))]:=by simp[e]
 have df:fO=ao (bU 3 (op2 cG (cD (.int 1)) (aM aU (aA (aD 0) (aA (aD 1) (aA (cD (.int 4)) aF)))))) (retS (opA bM (aA (lcD (gJ gn (aA (aD 2) aF)) [none,some 0,some 1,some 3] (gnm 0) lpT (bT (aD 0))) aF))):=rfl;simp only[gh,df,bB,st];rw[aO,e1,aj,bf,gq,aX,hc];rfl
def plS(ks:List Int):Str:=if ks=[]then "none" else rwS " " ks
def aKa(ks:List Int):eqR false (tupI ks) (.tup [])= .ok (.bl (decide (ks=[]))):=by
 obtain⟨h1,h2⟩:=lZ ks;unfold eqR;rw[if_pos (by simp[tupI,gr,ak,aq,h1,h2])];cases ks<;>rfl
section
variable{ks:List Int}
def yG(h:∀x∈ks,0<=x/\x<=60)(hl:ks.length<=1000):iT [tupI ks]= .ok (.str (plS ks)):=by
 have st:aZ 1 [tupI ks]=[.sh (tupI ks)]:=rfl;have e:=oN (sg:=" ") h hl (by rw[bF.2.1];decide);have a:aM dB (aA (aD 0) (aA (cD (.str " ")) aF)) [.sh (tupI ks)]= .ok (.str (rwS " " ks)):=e;have t:tst (aD 0) [.sh (tupI ks)]= .ok (!decide (ks=[])):=by cases ks<;>rfl
 simp only[iT,dz,bB,st];rw[bf,aBX,t,aK];unfold plS;by_cases c:ks=[]
 .rw[if_pos c,decide_eq_true c];rfl
 .rw[if_neg c,decide_eq_false c]
  rw[zDd,if_pos rfl,a];rfl
def rO(h:∀x∈ks,0<=x/\x<=60)(hl:ks.length<=1000):cA [tupI ks]= .ok (.str (plS ks)):=by
 have st:aZ 1 [tupI ks]=[.sh (tupI ks)]:=rfl;have e:=uo (f:=cj (aD 0)) (Y:=[.sh (tupI ks)]) (js:=[none]) (x0:=[]) h hl rfl rfl;have e2:=j9 (f:=cD (.str " ")) (s:=" ") rfl e (j8 2 (by rw[bF.2.1];decide) (uD h) (by rw[zAF];exact hl) (by decide));have t:tsb (op2 (eqR false) (aD 0) (dD aF)) [.sh (tupI ks)]= .ok (decide (ks=[])):=by
  rw[gm,cR]
  show(okD (eqR false (tupI ks) (.tup []))).bd blD=_
  rw[aKa];rfl
 simp only[cA,bx,bB,st];rw[bf,aBX,t,aK];unfold plS;by_cases c:ks=[]
 .rw[if_pos c,decide_eq_true c];rfl
 .rw[if_neg c,decide_eq_false c,if_neg zAX,e2]
  rfl
def aJt(h:∀x∈ks,0<=x/\x<=60)(c:ks≠[]):rwS " " ks≠("none":Str):=λ e=>by
 have e2:zCT (rwS " " ks) (" ":Str)=ks.map dg:=by
  unfold rwS;rw[aBr];exact mL (by simpa using c) λ w hw=>by
   obtain⟨x,hx,rfl⟩:=zAU.mp hw;exact(fg (h x hx).1 (h x hx).2).fr (.inl (by decide))
 rw[e]at e2;have e3:zCT ("none":Str) (" ":Str)=[("none":Str)]:=by decide+kernel
 rw[e3]at e2;cases ks with
 |nil=>exact c rfl
 |cons k ks=>
  injection e2 with e4 _
  have:=(fg (h k zAH).1 (h k zAH).2).ch 110 (by rw[<-e4];decide+kernel)
  lia
def aK9(a b:Str):eqR false (.str a) (.str b)= .ok (.bl (a==b)):=rfl
def yH(h:ks.Sublist (upI 60))(hl:ks.length<=60):dC [.str (plS ks)]= .ok (tupI ks):=by
 have hb:∀x∈ks,0<=x/\x<=60:=λ x hx=>by
  have:=m8.mp (h.subset hx)
  exact⟨this.1,by lia⟩
 have ea:=aAG (m:=60) (d:=tupI ks) (by
  unfold tupI pln;exact aEs λ d hd=>by
   obtain⟨x,_,rfl⟩:=zAU.mp hd;rfl) (by unfold tupI aDU;simp;lia)
 rw[aME h]at ea;have el:(plS ks).length<=1000:=by
  unfold plS;split
  .rw[bF.2.2.2.2.2];decide
  .have:=o6 (s:=(" ":Str)) (ws:=ks.map dg) 2 (by rw[bF.2.1];decide) (uD hb)
   rw[zAF]at this;unfold rwS;lia
 have e1:∀s1,ifD (tsb (op2 (eqR false) (aD 0) (cD (.str "none")))) (dD aF) (aM bK (aA (xP (aD 0) (cD (.str " "))) aF)) [.sh (.str (plS ks)),s1]= .ok (tupI ks):=λ s1=>by
  have t:tsb (op2 (eqR false) (aD 0) (cD (.str "none"))) [.sh (.str (plS ks)),s1]= .ok (plS ks==("none":Str)):=by
   rw[gm,cR]
   show(okD (eqR false (.str (plS ks)) (.str "none"))).bd blD=_
   rw[aK9];rfl
  rw[aBX,t,aK];by_cases c:ks=[]
  .subst c
   have:(plS []==("none":Str))=true:=beq_iff_eq.mpr rfl
   rw[this];rfl
  .have hne:=aJt hb c
   have hp:plS ks=rwS " " ks:=if_neg c
   have:(plS ks==("none":Str))=false:=beq_eq_false_iff_ne.mpr (by rw[hp];exact hne)
   rw[this,if_neg zAX];have sp:=aAu (f:=aD 0) (g:=cD (.str " ")) (Y:=[.sh (.str (plS ks)),s1]) (a:=plS ks) (b:=" ") (ws:=ks.map dg) rfl rfl bF.2.1 (by lia) (by
    rw[hp];unfold rwS;rw[aBr];exact mL (by simpa using c) λ w hw=>by
     obtain⟨x,hx,rfl⟩:=zAU.mp hw;exact(fg (hb x hx).1 (hb x hx).2).fr (.inl (by decide)))
   rw[eY,aX,sp,aK,bR,aK,aK];exact iw hb (by lia)
 generalize plS ks=x at e1;have st:aZ 2 [.str x]=[.sh (.str x),.no]:=rfl;have a0:tst (op1 (jm "str") (aD 0)) [.sh (.str x),.no]= .ok true:=by
  rw[uQ,aDl,show aD 0 [.sh (.str x),.no]= .ok (.str x)from rfl,aK,aHm];rfl
 have a1:bU 1 (ifD (tsb (op2 (eqR false) (aD 0) (cD (.str "none")))) (dD aF) (aM bK (aA (xP (aD 0) (cD (.str " "))) aF))) [.sh (.str x),.no]= .nx [.sh (.str x),.sh (tupI ks)]:=by
  rw[jE,e1];rfl
 have a2:tst (aM cZ (aA (cD (.int 60)) (aA (aD 1) aF))) [.sh (.str x),.sh (tupI ks)]= .ok true:=by
  have:aM cZ (aA (cD (.int 60)) (aA (aD 1) aF)) [.sh (.str x),.sh (tupI ks)]= .ok (.bl true):=ea
  rw[uQ,this];rfl
 have a3:retS (bT (aD 1)) [.sh (.str x),.sh (tupI ks)]= .rt (tupI ks):=by
  have:bT (aD 1) [.sh (.str x),.sh (tupI ks)]= .ok (tupI ks):=w6 (aCh ks)
  rw[bf,this];rfl
 simp only[dC,eF,bB,st];rw[aO,dW,a0,bW,if_pos rfl,aO,a1,aj,dW,a2,bW,if_pos rfl,a3];rfl
end
def wyS(sg:Str)(ws:gV):Str:=if ws=[]then "none" else zDf (" ":Str) (ws.map (rwS sg))
section
variable{ws:gV}{sg:Str}
def aD3{w:List Int}(hw:∀x∈w,0<=x/\x<=60)(hl:w.length<=100)(hs:sg.length<=1):(rwS sg w).length<=300:=by
 have:=o6 (s:=sg) (ws:=w.map dg) 2 hs (uD hw)
 rw[zAF]at this;unfold rwS;lia
def sI(hw:∀w∈ws,w.length<=100/\∀x∈w,0<=x/\x<=60)(hl:ws.length<=100)(hs:sg.length<=1):eZ [.tup (ws.map tupI),.str sg]= .ok (.str (wyS sg ws)):=by
 have st:aZ 2 [.tup (ws.map tupI),.str sg]=[.sh (.tup (ws.map tupI)),.sh (.str sg)]:=rfl;have e1:lcD (cj (aD 0)) [none,some 1] (gnm 0) dZ (aM dB (aA (aD 0) (aA (aD 1) aF))) [.sh (.tup (ws.map tupI)),.sh (.str sg)]= .ok (.lst ((ws.map (rwS sg)).map .str)):=by
  rw[zA4];refine iy (ds:=ws.map tupI) rfl (by rw[zAF];lia) (mj ws λ w h=>⟨[.sh (tupI w),.sh (.str sg)],rfl,?_⟩);rw[eY];exact oN (hw w h).2 (by have:=(hw w h).1;lia) hs
 have e2:=j9 (f:=cD (.str " ")) (s:=" ") rfl e1 (j8 300 (by rw[bF.2.1];decide) (λ v hv=>by
  obtain⟨w,h,rfl⟩:=zAU.mp hv;exact aD3 (hw w h).2 (hw w h).1 hs) (by rw[zAF];lia) (by decide))
 have t:tst (aD 0) [.sh (.tup (ws.map tupI)),.sh (.str sg)]= .ok (!decide (ws=[])):=by cases ws<;>rfl
 simp only[eZ,gF,bB,st];rw[bf,aBX,t,aK];unfold wyS;by_cases c:ws=[]
 .rw[if_pos c,decide_eq_true c];rfl
 .rw[if_neg c,decide_eq_false c]
  rw[zDd,if_pos rfl,e2];rfl
def wF(hw:∀w∈ws,w.length<=100/\∀x∈w,0<=x/\x<=60)(hl:ws.length<=100):g8 [.tup (ws.map tupI)]= .ok (.str (wyS "-" ws)):=by
 have e:=sI (sg:="-") hw hl (by rw[bF.2.2.1];decide);have a:aM eZ (aA (aD 0) (aA (cD (.str "-")) aF)) [.sh (.tup (ws.map tupI))]= .ok (.str (wyS "-" ws)):=e;have st:aZ 1 [.tup (ws.map tupI)]=[.sh (.tup (ws.map tupI))]:=rfl;simp only[g8,dH,bB,st];rw[bf,a];rfl
def aC8(hw:∀w∈ws,w.length<=100/\∀x∈w,0<=x/\x<=60)(hl:ws.length<=100):gC [.tup (ws.map tupI)]= .ok (.str (wyS ">" ws)):=by
 have e:=sI (sg:=">") hw hl (by rw[bF.2.2.2.1];decide);have a:aM eZ (aA (aD 0) (aA (cD (.str ">")) aF)) [.sh (.tup (ws.map tupI))]= .ok (.str (wyS ">" ws)):=e;have st:aZ 1 [.tup (ws.map tupI)]=[.sh (.tup (ws.map tupI))]:=rfl;simp only[gC,iD,bB,st];rw[bf,a];rfl
def aLY(hw:∀w∈ws,w.length<=100/\∀x∈w,0<=x/\x<=60)(hl:ws.length<=100)(hs:sg.length<=1):(wyS sg ws).length<=40000:=by
 unfold wyS;split
 .rw[bF.2.2.2.2.2];decide
 .have:=o6 (s:=(" ":Str)) (ws:=ws.map (rwS sg)) 300 (by rw[bF.2.1];decide) (λ v hv=>by
   obtain⟨w,h,rfl⟩:=zAU.mp hv;exact aD3 (hw w h).2 (hw w h).1 hs)
  rw[zAF]at this;have h2:ws.length*(300+1)<=100*(300+1):=zFt hl (zAM _);lia
def aIl(hw:∀w∈ws,∀x∈w,0<=x/\x<=60):zFd (wyS "-" ws) ("-":Str) (">":Str)=wyS ">" ws:=by
 refine wR ?_;rw[aLP,aLS,aGs];unfold wyS;by_cases c:ws=[]
 .rw[if_pos c,if_pos c]
  decide+kernel
 .rw[if_neg c,if_neg c,gK,gK,aBr]
  have:=aCG (c:=45) (d:=62) (s:=32) (by decide) (ws.map λ w=>(rwS ⟨#[45]⟩ w,rwS ⟨#[62]⟩ w)) λ p hp=>by
   obtain⟨w,h,rfl⟩:=zAU.mp hp;show sbs 45 62 (rwS ⟨#[45]⟩ w).cps.toList=(rwS ⟨#[62]⟩ w).cps.toList;unfold rwS;rw[gK,gK];exact xu λ v hv=>by
    obtain⟨x,hx,rfl⟩:=zAU.mp hv;exact(fg (hw w h x hx).1 (hw w h x hx).2).fr (.inl (by decide))
  rw[zA4,zA4]at this;exact this
end
def lFl:En->Rs D:=(lcD (cj (op2 ixD (aD 3) (cD (.int 1)))) [none,none,some 5] (rR 2 (dO (gnm 0) (dO (gnm 1) tL))) (tsb (op2 gtD (aD 1) (cD (.int 2)))) (dD (aA (op2 cG (bT (aD 0)) (op2 lR (bT (aD 2)) (opA o9 (aA (op2 gtD (aD 0) (cD (.int 2))) aF)))) (aA (op2 cG (bT (aD 1)) (bT (aD 2))) aF))))
def lDu:En->Rs D:=(op2 ixD (eU (aA (cD (.str "none")) (aA (jb (cD (.str " ")) (lcD (cj (aD 7)) [none] (gnm 0) dZ (jb (cD (.str "-")) (lcD (cj (aD 0)) [none] (gnm 0) dZ (opA fB (aA (aD 0) aF)))))) aF))) (opA o9 (aA (op2 (eqR true) (aD 7) (dD aF)) aF)))
section
variable{n:Int}{ps:gX}{ns:List Int}{k c:Int}{s3 s4 s5 s6 s7 s8:Slot}
abbrev lV(ns:List Int)(k c:Int)(s3 s4 s5 s6 s7 s8:Slot):En:=[.sh (.scr ns),.sh (.int k),.sh (.int c),s3,s4,s5,s6,s7,s8]
def fw(f:Int)(p:Int×Int):Int×Int:=(p.1+f*(if 2<p.1 then 1 else 0),p.2+f)
def aMl{f:Int}(hf0:0<=f)(hf1:f<=60)(hl:ps.length<=100):lFl (lV ns k c (.sh (owD n ps)) s4 (.sh (.int f)) s6 s7 s8)= .ok (.lst (((ps.filter λ p=>decide (2<p.2)).map (fw f)).map pD)):=by
 rw[zA4];refine iy (ds:=ps.map pD) rfl (by rw[zAF];lia) (mq ps λ p h=>⟨[.sh (.int p.1),.sh (.int p.2),.sh (.int f)],rfl,by simp,?_⟩);have hm:lR (.int f) (.int (if 2<p.1 then 1 else 0))= .ok (.int (f*(if 2<p.1 then 1 else 0))):=aBQ (by lia) (by lia);have hi:o9 [.bl (decide (2<p.1))]= .ok (.int (if 2<p.1 then 1 else 0)):=by
  show Rs.ok (D.int (if decide (2<p.1)=true then 1 else 0))=_;simp
 simp[hi,hm,pD,fw]
def aO1(O:Ow n ps)(low:∀p∈ps,p.1<p.2)(hn:n<=9)(hl:ps.length<=36):∃qs,lFs (lV ns k c (.sh (owD n ps)) s4 s5 s6 s7 s8)= .nx (lV ns k c (.sh (owD 60 qs)) s4 (.sh (.int (60-n))) s6 s7 s8)/\Ow 60 qs/\(∀p∈qs,p.1<p.2)/\qs.length<=36:=by
 have n0:=O.n0;have nd:ps.Nodup:=aAP O.ris;have nd2:((ps.filter λ p=>decide (2<p.2)).map (fw (60-n))).Nodup:=lQ (nd.filter _) λ x hx y hy e=>by
  have x1:=O.pr x (zAh.mp hx).1;have y1:=O.pr y (zAh.mp hy).1;have e1:x.1+(60-n)*(if 2<x.1 then 1 else 0)=y.1+(60-n)*(if 2<y.1 then 1 else 0):=congrArg zFU e;have e2:x.2+(60-n)=y.2+(60-n):=congrArg zGM e;refine zGL ?_ (by lia);by_cases q1:2<x.1<;>by_cases q2:2<y.1<;>simp only[q1,q2,if_true,if_false,zHC,Int.mul_zero]at e1<;>lia
 obtain⟨qs,q1,q2,q3⟩:=qJ nd2;have oQ:qs.length<=36:=by
  rw[q2.length_eq,zAF];exact zA6 (zEV _ _) hl
 have hq:∀p∈qs,0<=p.1/\p.1<p.2/\p.2<60:=λ p hp=>by
  obtain⟨x,hx,rfl⟩:=zAU.mp (q2.mem_iff.mp hp);have x1:=O.pr x (zAh.mp hx).1;have x2:=low x (zAh.mp hx).1;have x3:2<x.2:=of_decide_eq_true (zAh.mp hx).2;unfold fw;by_cases q1:2<x.1<;>simp only[q1,if_true,if_false,zHC,Int.mul_zero]<;>exact⟨by lia,by lia,by lia⟩
 refine⟨qs,?_,⟨by decide,by decide,by lia,λ p hp=>by have:=hq p hp;exact⟨this.1,by lia,by lia,this.2.2,by lia⟩,q3⟩,λ p hp=>(hq p hp).2.1,oQ⟩;have c0:bU 5 (op2 xM (cD (.int 60)) (op2 ixD (aD 3) (cD (.int 0)))) (lV ns k c (.sh (owD n ps)) s4 s5 s6 s7 s8)= .nx (lV ns k c (.sh (owD n ps)) s4 (.sh (.int (60-n))) s6 s7 s8):=by simp[owD]
 have e1:=aMl (n:=n) (ns:=ns) (k:=k) (c:=c) (s4:=s4) (s6:=s6) (s7:=s7) (s8:=s8) (f:=60-n) (ps:=ps) (by lia) (by lia) (by lia);generalize hL:((ps.filter λ p=>decide (2<p.2)).map (fw (60-n)))=L at e1 q1 q2 nd2;have ll:L.length<=36:=by rw[<-q2.length_eq];exact oQ
 have c1:lF1 (lV ns k c (.sh (owD n ps)) s4 (.sh (.int (60-n))) s6 s7 s8)= .nx (lV ns k c (.sh (owD 60 L)) s4 (.sh (.int (60-n))) s6 s7 s8):=by
  have u:lF1=bU 3 (dD (aA (cD (.int 60)) (aA (opA bM (aA lFl aF)) aF))):=rfl;have a:opA bM (aA lFl aF) (lV ns k c (.sh (owD n ps)) s4 (.sh (.int (60-n))) s6 s7 s8)= .ok (.tup (L.map pD)):=by
   rw[gq,aX,e1,aK,bR,aK,aK,gk];rfl
  have b:dD (aA (cD (.int 60)) (aA (opA bM (aA lFl aF)) aF)) (lV ns k c (.sh (owD n ps)) s4 (.sh (.int (60-n))) s6 s7 s8)= .ok (owD 60 L):=by
   rw[sU,aX,aFW,aK,aX,a,aK,bR,aK,aK,aK];rfl
  rw[u,jE,b];rfl
 have c2:lF2 (lV ns k c (.sh (owD 60 L)) s4 (.sh (.int (60-n))) s6 s7 s8)= .nx (lV ns k c (.sh (owD 60 qs)) s4 (.sh (.int (60-n))) s6 s7 s8):=by
  have a0:opA mO (aA (op2 ixD (aD 3) (cD (.int 1))) aF) (lV ns k c (.sh (owD 60 L)) s4 (.sh (.int (60-n))) s6 s7 s8)= .ok (.lst (qs.map pD)):=by
   show okD (mO [.tup (L.map pD)])=_;unfold mO;dsimp only;rw[uP];dsimp only;rw[if_pos (by rw[zAF];lia),q1,zA4];exact congrArg (λ l=>Rs.ok (D.lst l)) (zCE λ p _=>aE4 p)
  have a:opA bM (aA (opA mO (aA (op2 ixD (aD 3) (cD (.int 1))) aF)) aF) (lV ns k c (.sh (owD 60 L)) s4 (.sh (.int (60-n))) s6 s7 s8)= .ok (.tup (qs.map pD)):=by
   rw[gq,aX,a0,aK,bR,aK,aK,gk];rfl
  have b:dD (aA (cD (.int 60)) (aA (opA bM (aA (opA mO (aA (op2 ixD (aD 3) (cD (.int 1))) aF)) aF)) aF)) (lV ns k c (.sh (owD 60 L)) s4 (.sh (.int (60-n))) s6 s7 s8)= .ok (owD 60 qs):=by
   rw[sU,aX,aFW,aK,aX,a,aK,bR,aK,aK,aK];rfl
  unfold lF2;rw[jE,b];rfl
 rw[lFs,aO,c0,aj,aO,c1,aj,c2]
def v6{d:D}(h1:gr d<=60)(h2:ak d=true){f g:En->Rs D}{Y:En}(e1:f Y= .ok d)(e2:g Y= .ok d):tsb (op2 (eqR true) f g) Y= .ok false:=by
 rw[gm,cR,e1,aK,e2,aK,aIK true h1 h2];rfl
def aEz{f g:En->Rs Bool}{Y:En}(e1:f Y= .ok false)(e2:g Y= .ok false):ifS (orT f g) (retS (cD (.bl false))) Ou.nx Y= .nx Y:=by
 rw[dW,aDk,e1,e2];rfl
end
theorem aFT:∀ws:gV,cN (ws.map tupI)<=1/\aq (ws.map tupI)=true
 |[]=>⟨by simp[cN],rfl⟩
 |w::ws=>by
  obtain⟨h1,h2⟩:=aFT ws;obtain⟨h3,h4⟩:=lZ w;refine⟨?_,?_⟩
  .have hk:gr (tupI w)<=1:=by simp[tupI,gr,h3]
   simp only[zAC,cN];exact Nat.max_le.mpr ⟨hk,h1⟩
  .rw[zAC,aq,h2,zCd]
   simp only[tupI,ak];exact h4
def aMm{ws:gV}{ns:List Int}{k c:Int}{s3 s4 s5 s6 s8:Slot}(hw:∀w∈ws,w.length<=100/\∀x∈w,0<=x/\x<=60)(hl:ws.length<=100):lDu (lV ns k c s3 s4 s5 s6 (.sh (.tup (ws.map tupI))) s8)= .ok (.str (wyS "-" ws)):=by
 generalize hr:lV ns k c s3 s4 s5 s6 (.sh (.tup (ws.map tupI))) s8=Y;have v7:aD 7 Y= .ok (.tup (ws.map tupI)):=by rw[<-hr];rfl
 have v7s:aD 7 (shE Y)= .ok (.tup (ws.map tupI)):=by rw[<-hr];rfl
 have e1:lcD (cj (aD 7)) [none] (gnm 0) dZ (jb (cD (.str "-")) (lcD (cj (aD 0)) [none] (gnm 0) dZ (opA fB (aA (aD 0) aF)))) Y= .ok (.lst ((ws.map (rwS "-")).map .str)):=by
  rw[zA4];refine iy (ds:=ws.map tupI) (by show(aD 7 (shE Y)).bd itD=_;rw[v7s];rfl) (by rw[zAF];lia) ?_;refine mj ws λ w h=>⟨[.sh (tupI w)],rfl,?_⟩
  have e:=uo (f:=cj (aD 0)) (Y:=[.sh (tupI w)]) (js:=[none]) (x0:=[]) (hw w h).2 (by have:=(hw w h).1;lia) rfl rfl;exact j9 (f:=cD (.str "-")) (s:="-") rfl e (j8 2 (by rw[bF.2.2.1];decide) (uD (hw w h).2) (by rw[zAF];have:=(hw w h).1;lia) (by decide))
 have e2:=j9 (f:=cD (.str " ")) (s:=" ") rfl e1 (j8 300 (by rw[bF.2.1];decide) (λ v hv=>by
  obtain⟨w,h,rfl⟩:=zAU.mp hv;exact aD3 (hw w h).2 (hw w h).1 (by rw[bF.2.2.1];decide)) (by rw[zAF];lia) (by decide))
 have e3:eU (aA (cD (.str "none")) (aA (jb (cD (.str " ")) (lcD (cj (aD 7)) [none] (gnm 0) dZ (jb (cD (.str "-")) (lcD (cj (aD 0)) [none] (gnm 0) dZ (opA fB (aA (aD 0) aF)))))) aF)) Y= .ok (.lst [.str "none",.str (zDf " " (ws.map (rwS "-")))]):=by
  rw[aBS,aX,aFW,aK,aX,e2,aK,bR,aK,aK,aK];rfl
 have q:eqR true (.tup (ws.map tupI)) (.tup [])= .ok (.bl (!decide (ws=[]))):=by
  obtain⟨h1,h2⟩:=aFT ws;unfold eqR;rw[if_pos (by simp[gr,ak,aq,h2];lia)];cases ws<;>rfl
 have e4:opA o9 (aA (op2 (eqR true) (aD 7) (dD aF)) aF) Y= .ok (.int (if ws=[]then 0 else 1)):=by
  have a:op2 (eqR true) (aD 7) (dD aF) Y= .ok (.bl (!decide (ws=[]))):=by
   rw[cR,v7,aK];show okD (eqR true (.tup (ws.map tupI)) (.tup []))=_;rw[q];rfl
  rw[gq,aX,a,aK,bR,aK,aK];by_cases z:ws=[]
  .rw[if_pos z,decide_eq_true z];rfl
  .rw[if_neg z,decide_eq_false z];rfl
 unfold lDu;rw[cR,e3,aK,e4,aK];unfold wyS;by_cases z:ws=[]
 .rw[if_pos z,if_pos z];rfl
 .rw[if_neg z,if_neg z];rfl
def aMj{ns:List Int}{k:Int}{s2 s3 s4 s5 s6 s7 s8:Slot}(hk:0<=k):∃t2 t3 t4 t5 t6 t7 t8,lwK [.sh (.scr ns),.sh (.int k),s2,s3,s4,s5,s6,s7,s8]= .nx [.sh (.scr ns),.sh (.int k),t2,t3,t4,t5,t6,t7,t8]:=by
 obtain⟨c,ec⟩:=aKj (ns:=ns) hk;obtain⟨n0,ps0,e1,O0,low0,hl0,hn0⟩:=aEA (c:=c) (most:=9) (by decide);obtain⟨m,qs,e2,Om,hm⟩:=yd (c:=c) (most:=8) (by decide);have e1':mC [.int c,.int 9]= .ok (owD n0 ps0):=e1;have e2':fW [.int c,.int 8]= .ok (owD m qs):=e2;have hlq:qs.length<=56:=by
  have hnd:=aAP Om.ris
  have:=sub_len (l':=aEX) hnd λ p hp=>by
   have:=Om.pr p hp
   exact aDF (by lia) (by lia) (by lia) (by lia) (by lia)
  rwa [uz.2]at this
 have c0:lQ0 [.sh (.scr ns),.sh (.int k),s2,s3,s4,s5,s6,s7,s8]= .nx (lV ns k c s3 s4 s5 s6 s7 s8):=by simp[lQ0,ec]
 have c1:lQ1 (lV ns k c s3 s4 s5 s6 s7 s8)= .nx (lV ns k c (.sh (owD n0 ps0)) s4 s5 s6 s7 s8):=by simp[lQ1,e1']
 have c2:lQ2 (lV ns k c (.sh (owD n0 ps0)) s4 s5 s6 s7 s8)= .nx (lV ns k c (.sh (owD n0 ps0)) (.sh (owD m qs)) s5 s6 s7 s8):=by simp[lQ2,e2']
 obtain⟨n,ps,t5,c3,O,low,hl⟩:∃n ps t5,lQ3 (lV ns k c (.sh (owD n0 ps0)) (.sh (owD m qs)) s5 s6 s7 s8)= .nx (lV ns k c (.sh (owD n ps)) (.sh (owD m qs)) t5 s6 s7 s8)/\Ow n ps/\(∀p∈ps,p.1<p.2)/\ps.length<=36:=by
  obtain⟨r,er,r0,r1⟩:=pY (c:=c) (k:=95) (b:=3) (by decide) (by decide) (by decide) (by decide);have et:lFc (lV ns k c (.sh (owD n0 ps0)) (.sh (owD m qs)) s5 s6 s7 s8)= .ok (r==0):=by
   unfold lFc;simp[er]
  by_cases z:(r==0)=true
  .obtain⟨ps,e,O,low,hl⟩:=aO1 (ns:=ns) (k:=k) (c:=c) (s4:=.sh (owD m qs)) (s5:=s5) (s6:=s6) (s7:=s7) (s8:=s8) O0 low0 (by lia) hl0
   exact⟨60,ps,_,by rw[lQ3,dW,et,bW,if_pos z,e],O,low,hl⟩
  .exact⟨n0,ps0,s5,by rw[lQ3,dW,et,bW,if_neg z],O0,low0,hl0⟩
 obtain⟨ks,e4,hks⟩:=zx (c:=c) (s:=30) (n:=n) (by decide) (by decide) O.n0 O.n1;obtain⟨qp,e5,Dq⟩:=rP (c:=c) Om;obtain⟨ws,rgs,e6,P⟩:=aFm Om Dq;have kl:ks.length<=60:=by
  have:=hks.length_le
  rw[qg]at this
  have:=O.n1
  lia
 have k60:ks.Sublist (upI 60):=by
  have a:(upI n).Sublist (upI 60):=by
   have h1:=O.n1;have h0:=O.n0;unfold upI;refine zE3 _ ?_;rw[zDJ,zDJ];exact List.range'_sublist_right.mpr (by lia)
  exact hks.trans a
 have kb:∀x∈ks,0<=x/\x<=60:=λ x hx=>by
  have:=m8.mp (k60.subset hx)
  exact⟨this.1,by lia⟩
 have wr:∀w∈ws,∀x∈w,0<=x/\x<=60:=λ w hw x hx=>by
  have:=P.pi.rg x (List.mem_flatten.mpr ⟨w,hw,hx⟩)
  have:=Om.n1
  exact⟨by lia,by lia⟩
 have fl:ws.flatten.length<=60:=by
  have:=P.sz
  have:=Om.n1
  lia
 have wl:∀w∈ws,w.length<=100/\∀x∈w,0<=x/\x<=60:=λ w hw=>⟨by
  have:=(List.sublist_flatten_of_mem hw).length_le
  lia,wr w hw⟩
 have wc:ws.length<=100:=by
  have h:∀ws:gV,(∀w∈ws,w≠[])->ws.length<=ws.flatten.length:=λ ws h=>by
   induction ws with
   |nil=>exact zAM _
   |cons w ws ih=>
    have:=ih λ v hv=>h v (zAI _ hv)
    have:=zDX.mpr (h w zAH)
    rw[zB5,zAj,zA3];lia
  have:=h ws λ w hw=>(P.pi.al w hw).1
  lia
 have c4:lQ4 (lV ns k c (.sh (owD n ps)) (.sh (owD m qs)) t5 s6 s7 s8)= .nx (lV ns k c (.sh (owD n ps)) (.sh (owD m qs)) t5 (.sh (tupI ks)) s7 s8):=by
  have:aM gh (aA (aD 2) (aA (cD (.int 30)) (aA (op2 ixD (aD 3) (cD (.int 0))) aF))) (lV ns k c (.sh (owD n ps)) (.sh (owD m qs)) t5 s6 s7 s8)= .ok (tupI ks):=e4
  rw[lQ4,jE,this];rfl
 have c5:lQ5 (lV ns k c (.sh (owD n ps)) (.sh (owD m qs)) t5 (.sh (tupI ks)) s7 s8)= .nx (lV ns k c (.sh (owD n ps)) (.sh (owD m qs)) t5 (.sh (tupI ks)) (.sh (.tup (ws.map tupI))) s8):=by
  have a:aM cB (aA (aD 2) (aA (aD 4) aF)) (lV ns k c (.sh (owD n ps)) (.sh (owD m qs)) t5 (.sh (tupI ks)) s7 s8)= .ok (.tup (qp.map pD)):=e5;have b:aM gj (aA (aD 4) (aA (aM cB (aA (aD 2) (aA (aD 4) aF))) aF)) (lV ns k c (.sh (owD n ps)) (.sh (owD m qs)) t5 (.sh (tupI ks)) s7 s8)= .ok (.tup [.tup (ws.map tupI),.tup (rgs.map tupI)]):=by
   rw[eY,aX,show aD 4 (lV ns k c (.sh (owD n ps)) (.sh (owD m qs)) t5 (.sh (tupI ks)) s7 s8)= .ok (owD m qs)from rfl,aK,aX,a,aK,bR,aK,aK,aK,e6]
  rw[lQ5,jE,cR,b];rfl
 have sl:∀x:Str,gr (.str x)<=60/\ak (.str x)=true:=λ x=>⟨by simp[gr],rfl⟩
 have r1:=lW (sg:="-") O.n0 O.n1 O.s (by lia) (by rw[bF.2.2.1];decide);have r2:=lW (sg:=">") Om.n0 Om.n1 Om.s (by lia) (by rw[bF.2.2.2.1];decide);have w1:=vD O low (by lia);have w2:=nP Om (by lia);have w3:=aBl O low (by lia);have w4:=wH Om (by lia);have p1:=yG kb (by lia);have p2:=rO kb (by lia);have p3:=yH k60 kl;have y1:=wF wl wc;have y2:=aC8 wl wc;have y3:=aIl wr;have y4:=aLY (sg:="-") wl wc (by rw[bF.2.2.1];decide);have e9:=aMm (ns:=ns) (k:=k) (c:=c) (s3:=.sh (owD n ps)) (s4:=.sh (owD m qs)) (s5:=t5) (s6:=.sh (tupI ks)) (s8:=s8) wl wc;generalize mH "-" n ps=T1 at r1 w1 w3;generalize mH ">" m qs=T2 at r2 w2 w4;generalize plS ks=T3 at p1 p2 p3;generalize wyS "-" ws=T4 at y1 y3 y4 e9;generalize wyS ">" ws=T5 at y2 y3;have dk:gr (tupI ks)<=60/\ak (tupI ks)=true:=by
  obtain⟨h1,h2⟩:=lZ ks;exact⟨by unfold tupI gr;lia,by unfold tupI ak;exact h2⟩
 generalize hY:lV ns k c (.sh (owD n ps)) (.sh (owD m qs)) t5 (.sh (tupI ks)) (.sh (.tup (ws.map tupI))) s8=Y at c5 e9;have b1:aM bL (aA (aD 3) (aA (cD (.str "-")) aF)) Y= .ok (.str T1):=by rw[<-hY];exact r1
 have b2:aM bL (aA (aD 4) (aA (cD (.str ">")) aF)) Y= .ok (.str T2):=by rw[<-hY];exact r2
 have b3:aM cA (aA (aD 6) aF) Y= .ok (.str T3):=by rw[<-hY];exact p2
 have c6:lQ6 Y= .nx Y:=by
  refine aEz (v6 (sl T1).1 (sl T1).2 ?_ b1) (v6 (sl T2).1 (sl T2).2 ?_ b2)
  .rw[<-hY];exact w1
  .rw[<-hY];exact w2
 have c7:lQ7 Y= .nx Y:=by
  refine aEz (v6 (sl T3).1 (sl T3).2 ?_ b3) (v6 dk.1 dk.2 ?_ ?_)
  .rw[<-hY];exact p1
  .rw[eY,aX,b3,aK,bR,aK,aK,p3]
  .rw[<-hY];rfl
 have c8:lQ8 Y= .nx Y:=by
  refine aEz (v6 (aBZ n ps).1 (aBZ n ps).2 ?_ ?_) (v6 (aBZ m qs).1 (aBZ m qs).2 ?_ ?_)
  .rw[eY,aX,b1,aK,bR,aK,aK,w3]
  .rw[<-hY];rfl
  .rw[eY,aX,b2,aK,bR,aK,aK,w4]
  .rw[<-hY];rfl
 have c9:lQ9 Y= .nx (Y.set 8 (.nw (.str T4))):=by
  have u:lQ9=pq 8 lDu:=rfl;rw[u,sY,e9];rfl
 have hZ:Y.set 8 (.nw (.str T4))=lV ns k c (.sh (owD n ps)) (.sh (owD m qs)) t5 (.sh (tupI ks)) (.sh (.tup (ws.map tupI))) (.nw (.str T4)):=by rw[<-hY];rfl
 have c10:aOR (Y.set 8 (.nw (.str T4)))= .nx (Y.set 8 (.nw (.str T4))):=by
  rw[hZ];refine aEz (v6 (sl T4).1 (sl T4).2 y1 rfl) (v6 (sl T5).1 (sl T5).2 y2 ?_);unfold aJN;show okD (aJR "-" ">" (.str T4))=_;unfold aJR;dsimp only;rw[if_pos (by rw[bF.2.2.2.1];lia),y3];rfl
 rw[hZ]at c9 c10;exact⟨_,_,_,_,_,_,_,by rw[lwK,aO,c0,aj,aO,c1,aj,aO,c2,aj,aO,c3,aj,aO,c4,aj,aO,c5,aj,aO,c6,aj,aO,c7,aj,aO,c8,aj,aO,c9,aj,c10]⟩
def aHe(ns:List Int)(hl:ns.length<=63):aIe [.scr ns]= .ok (.bl true):=by
 have st:aZ 9 [.scr ns]=[.sh (.scr ns),.no,.no,.no,.no,.no,.no,.no,.no]:=rfl;let m:Int:=if (if (10:Int)<ns.length then(10:Int)else ns.length)>1 then(if (10:Int)<ns.length then(10:Int)else ns.length)else 1
 have hm:1<=m/\m<=10:=by
  show 1<=(if (if (10:Int)<ns.length then(10:Int)else ns.length)>1 then(if (10:Int)<ns.length then(10:Int)else ns.length)else 1)/\(if (if (10:Int)<ns.length then(10:Int)else ns.length)>1 then(if (10:Int)<ns.length then(10:Int)else ns.length)else 1)<=10;split<;>split<;>lia
 have hr:=iQ (j:=m) (by lia) (by lia);have hR:lwR [.sh (.scr ns),.no,.no,.no,.no,.no,.no,.no,.no]= .ok (cQ 0 m):=by
  rw[<-hr];unfold lwR;simp[m]
 obtain⟨Y',el,t1,t2,t3,t4,t5,t6,t7,t8,rfl⟩:=gU (a:=gnm 1) (u:=lwK) (cQ 0 m) (λ _ Y=>∃t1 t2 t3 t4 t5 t6 t7 t8,Y=[.sh (.scr ns),t1,t2,t3,t4,t5,t6,t7,t8]) [.sh (.scr ns),.no,.no,.no,.no,.no,.no,.no,.no] ⟨.no,.no,.no,.no,.no,.no,.no,.no,rfl⟩ (by
  rintro i d Y hd ⟨t1,t2,t3,t4,t5,t6,t7,t8,rfl⟩;obtain⟨k,rfl,k0,k1⟩:=aCZ.mp (zBL hd);obtain⟨u2,u3,u4,u5,u6,u7,u8,e⟩:=aMj (ns:=ns) (k:=k) (s2:=t2) (s3:=t3) (s4:=t4) (s5:=t5) (s6:=t6) (s7:=t7) (s8:=t8) k0;exact⟨_,e,_,_,_,_,_,_,_,_,rfl⟩)
 have z0:cL [.tup [.int 0,.tup []]]= .ok (.str "0:"):=by kernel_rfl
 have z1:gC [.tup []]= .ok (.str "none"):=by kernel_rfl
 have z2:dC [.str "59"]= .ok (.tup [.int 59]):=by kernel_rfl
 have cz:lwZ [.sh (.scr ns),t1,t2,t3,t4,t5,t6,t7,t8]= .ok (.bl true):=by
  have a1:aM cL (aA (dD (aA (cD (.int 0)) (aA (dD aF) aF))) aF) [.sh (.scr ns),t1,t2,t3,t4,t5,t6,t7,t8]= .ok (.str "0:"):=z0;have a2:aM gC (aA (dD aF) aF) [.sh (.scr ns),t1,t2,t3,t4,t5,t6,t7,t8]= .ok (.str "none"):=z1;have a3:aM dC (aA (cD (.str "59")) aF) [.sh (.scr ns),t1,t2,t3,t4,t5,t6,t7,t8]= .ok (.tup [.int 59]):=z2;have l1:dD (aA (cD (.int 59)) aF) [.sh (.scr ns),t1,t2,t3,t4,t5,t6,t7,t8]= .ok (.tup [.int 59]):=rfl;have q0:=wg "0:";have q1:=wg "none";have q2:eqR false (.tup [.int 59]) (.tup [.int 59])= .ok (.bl true):=rfl;unfold lwZ;simp only[ww,cR,a1,a2,a3,l1,aFW,aK,q0,q1,q2,lE,aNQ]
 have key:v9 [.sh (.scr ns),.no,.no,.no,.no,.no,.no,.no,.no]= .rt (.bl true):=by
  rw[v9,aO,my,hR,bW,el,aj,bf,cz,bW]
 unfold aIe;rw[bB,st,key]
local macro_rules|`(tactic|walk_at "sc")=>`(tactic|exact⟨rfl,rfl,rfl,by decide+kernel,rfl,by decide+kernel,by decide+kernel⟩)
def top(i:Nat):Stmt:=PySem.Challenge.pw_fewways_k81_texts_written_and_read.main.body.getD i (.Pass ⟨0,0,0,0⟩)
abbrev rC:Stmt:=top 7
abbrev uZ:Stmt:=top 8
abbrev rD:Stmt:=top 9
abbrev uY:Stmt:=top 10
abbrev oK:Stmt:=top 11
abbrev fu:Stmt:=top 12
abbrev rE:Stmt:=top 13
abbrev m6:Stmt:=top 14
abbrev xx:Stmt:=top 15
abbrev oM:Stmt:=top 16
abbrev mZ:Stmt:=top 18
abbrev il:Stmt:=top 19
abbrev qy:Stmt:=top 22
abbrev mV:Stmt:=top 23
abbrev oJ:Stmt:=top 24
abbrev qw:Stmt:=top 25
abbrev jT:Stmt:=top 26
abbrev kj:Stmt:=top 27
abbrev jR:Stmt:=top 28
abbrev qz:Stmt:=top 29
abbrev jV:Stmt:=top 30
abbrev mW:Stmt:=top 31
abbrev qx:Stmt:=top 32
abbrev jU:Stmt:=top 33
abbrev km:Stmt:=top 34
abbrev lB:Stmt:=top 36
abbrev rB:Stmt:=top 37
abbrev rA:Stmt:=top 38
abbrev uX:Stmt:=top 39
abbrev lA:Stmt:=top 40
abbrev mX:Stmt:=top 41
abbrev gO:Stmt:=top 42
abbrev mY:Stmt:=top 43
abbrev ik:Stmt:=top 44
abbrev gM:Stmt:=top 45
abbrev aGo:Stmt:=top 46
def aCD:aV ["thing"] ["thing"] (aP rC):=by walk_at "sc"
def aD2:aV ["thing"] ["thing"] (aP uZ):=by walk_at "sc"
def aCE:aV ["many","thing"] ["many","thing"] (aP rD):=by walk_at "sc"
def aD1:aV ["many","thing"] ["many","thing"] (aP uY):=by walk_at "sc"
def aBC:aV ["things","at"] ["things"] (aP oK):=by walk_at "sc"
def qC:aV ["many","thing","pair"] ["many","thing"] (aP fu):=by walk_at "sc"
def aCF:aV ["many","thing"] ["many","thing"] (aP rE):=by walk_at "sc"
def zj:aV ["many","thing","place"] ["many","thing"] (aP m6):=by walk_at "sc"
def aFd:aV ["thing"] ["thing"] (aP xx):=by walk_at "sc"
def aBD:aV ["thing"] ["thing"] (aP oM):=by walk_at "sc"
def zg:aV ["thing"] ["thing"] (aP mZ):=by walk_at "sc"
def uW:aV ["thing"] ["thing"] (aP il):=by walk_at "sc"
def aBz:aV ["places","sign"] ["places","sign"] (aP qy):=by walk_at "sc"
def za:aV ["many","pairs","sign"] ["many","pairs","sign"] (aP mV):=by walk_at "sc"
def aBB:aV ["ways","sign"] ["ways","sign"] (aP oJ):=by walk_at "sc"
def aBx:aV ["web"] ["web"] (aP qw):=by walk_at "sc"
def vp:aV ["web"] ["web"] (aP jT):=by walk_at "sc"
def xm:aV ["places"] ["places"] (aP kj):=by walk_at "sc"
def vo:aV ["parting"] ["parting"] (aP jR):=by walk_at "sc"
def aCA:aV ["parting"] ["parting"] (aP qz):=by walk_at "sc"
def vy:aV ["words","known"] ["words"] (aP jV):=by walk_at "sc"
def zb:aV ["text","sign","words","pairs"] ["text","sign"] (aP mW):=by walk_at "sc"
def aBy:aV ["text","web"] ["text"] (aP qx):=by walk_at "sc"
def vq:aV ["text","web"] ["text"] (aP jU):=by walk_at "sc"
def xn:aV ["text","places"] ["text"] (aP km):=by walk_at "sc"
def xr:aV ["_law_script","_law_k"] ["_law_script","_law_k"] (aP lB):=by walk_at "sc"
def aCC:aV ["_law_cell","_law_k","_law_bound","_law_left","_law_j","_law_stir"] ["_law_cell","_law_k","_law_bound"] (aP rB):=by walk_at "sc"
def aCB:aV ["_law_cell","_law_many","_law_found","_law_place"] ["_law_cell","_law_many"] (aP rA):=by walk_at "sc"
def aD0:aV ["_law_cell","_law_most","_law_many","_law_kind","_law_thick","_law_order","_law_ties","_law_spot","_law_j","_law_i","_law_here"] ["_law_cell","_law_most"] (aP uX):=by walk_at "sc"
def xq:aV ["_law_cell","_law_most","_law_many","_law_kind","_law_thick","_law_order","_law_arrows","_law_spot","_law_j","_law_i","_law_here"] ["_law_cell","_law_most"] (aP lA):=by walk_at "sc"
def zc:aV ["_law_cell","_law_spot","_law_many","_law_thick"] ["_law_cell","_law_spot","_law_many"] (aP mX):=by walk_at "sc"
def qu:aV ["_law_cell","_law_web_here","_law_found","_law_k","_law_arrow"] ["_law_cell","_law_web_here"] (aP gO):=by walk_at "sc"
def zf:aV ["_law_web_here","_law_pairs","_law_after","_law_ways","_law_rings","_law_left","_law_place","_law_way","_law_ring"] ["_law_web_here","_law_pairs"] (aP mY):=by walk_at "sc"
def uV:aV ["_law_web_here","_law_sign"] ["_law_web_here","_law_sign"] (aP ik):=by walk_at "sc"
def qt:aV ["_law_places_here"] ["_law_places_here"] (aP gM):=by walk_at "sc"
def aLn:aV ["_law_script","_law_k","_law_cell","_law_web_here","_law_led","_law_far","_law_places_here","_law_ways","_law_due"] ["_law_script"] (aP aGo):=by walk_at "sc"
set_option genInjectivity false in
set_option genSizeOf false in
structure Adr where
 zH:Addr
 iH:zA7
 aAf:Addr
 jM:zA7
 zJ:Addr
 iI:zA7
 aAe:Addr
 jL:zA7
 v4:Addr
 eX:zA7
 je:Addr
 bC:zA7
 zK:Addr
 iJ:zA7
 tX:Addr
 cX:zA7
 aCn:Addr
 lq:zA7
 v5:Addr
 gG:zA7
 tW:Addr
 fQ:zA7
 nU:Addr
 cU:zA7
 zB:Addr
 iC:zA7
 tQ:Addr
 fL:zA7
 vZ:Addr
 gF:zA7
 yz:Addr
 gw:zA7
 pB:Addr
 dI:zA7
 qT:Addr
 dz:zA7
 pA:Addr
 dH:zA7
 zE:Addr
 iD:zA7
 pF:Addr
 dM:zA7
 tR:Addr
 fM:zA7
 zA:Addr
 iB:zA7
 pC:Addr
 dJ:zA7
 qU:Addr
 eF:zA7
 qX:Addr
 cu:zA7
 zG:Addr
 gB:zA7
 zF:Addr
 iG:zA7
 aAd:Addr
 jK:zA7
 qW:Addr
 eG:zA7
 tU:Addr
 fO:zA7
 kI:Addr
 bz:zA7
 tV:Addr
 fP:zA7
 nT:Addr
 cT:zA7
 kE:Addr
 bx:zA7
 aLT:Addr
 v9:zA7
 qI:Value
 aG1:Value
 sE:Addr
 aB9:Addr
 rz:Addr
 zU:Addr
structure Txt(K:zAA)(mg:Str->Option Value)(t:Adr):Prop where
 rZ:Dnr K mg "is_whole" rC ["thing"] t.zH t.iH
 uw:Dnr K mg "is_many" uZ ["thing"] t.aAf t.jM
 nF:Dnr K mg "is_place" rD ["many","thing"] t.zJ t.iI
 aAi:Dnr K mg "is_pair" uY ["many","thing"] t.aAe t.jL
 pJ:Dnr K mg "is_rising" oK ["things"] t.v4 t.eX
 gA:Dnr K mg "are_rising_pairs" fu ["many","thing"] t.je t.bC
 zO:Dnr K mg "are_ties" rE ["many","thing"] t.zK t.iJ
 uC:Dnr K mg "are_places" m6 ["many","thing"] t.tX t.cX
 zN:Dnr K mg "is_web" xx ["thing"] t.aCn t.lq
 v8:Dnr K mg "check_web" oM ["thing"] t.v5 t.gG
 nG:Dnr K mg "is_one_way" mZ ["thing"] t.tW t.fQ
 nY:Dnr K mg "check_one_way" il ["thing"] t.nU t.cU
 nA:Dnr K mg "row_text" qy ["places","sign"] t.zB t.iC
 nC:Dnr K mg "pairs_text" mV ["many","pairs","sign"] t.tQ t.fL
 pG:Dnr K mg "ways_text" oJ ["ways","sign"] t.vZ t.gF
 mz:Dnr K mg "web_text" qw ["web"] t.yz t.gw
 jh:Dnr K mg "one_way_text" jT ["web"] t.pB t.dI
 qY:Dnr K mg "places_text" kj ["places"] t.qT t.dz
 pH:Dnr K mg "parting_text" jR ["parting"] t.pA t.dH
 rW:Dnr K mg "led_text" qz ["parting"] t.zE t.iD
 gW:Dnr K mg "numbers_read" jV ["words"] t.pF t.dM
 nD:Dnr K mg "pairs_read" mW ["text","sign"] t.tR t.fM
 zM:Dnr K mg "web_read" qx ["text"] t.zA t.iB
 pI:Dnr K mg "one_way_read" jU ["text"] t.pC t.dJ
 lG:Dnr K mg "places_read" km ["text"] t.qU t.eF
 q9:Dnr K mg "_law_cell_at" lB ["_law_script","_law_k"] t.qX t.cu
 b7:Dnr K mg "_law_draw" rB ["_law_cell","_law_k","_law_bound"] t.zG t.gB
 rY:Dnr K mg "_law_turn" rA ["_law_cell","_law_many"] t.zF t.iG
 aAh:Dnr K mg "_law_web" uX ["_law_cell","_law_most"] t.aAd t.jK
 qZ:Dnr K mg "_law_one_way" lA ["_law_cell","_law_most"] t.qW t.eG
 uA:Dnr K mg "_law_places" mX ["_law_cell","_law_spot","_law_many"] t.tU t.fO
 kJ:Dnr K mg "_law_drawn_pairs" gO ["_law_cell","_law_web_here"] t.kI t.bz
 uB:Dnr K mg "_law_pieces" mY ["_law_web_here","_law_pairs"] t.tV t.fP
 dj:Dnr K mg "_law_rows_text" ik ["_law_web_here","_law_sign"] t.nT t.cT
 gY:Dnr K mg "_law_places_text" gM ["_law_places_here"] t.kE t.bx
 aIO:Dnr K mg "law" aGo ["_law_script"] t.aLT t.v9
 dw:mg "MOST_PLACES"=some t.qI
 lC:RelV (.int 60) t.qI
 ur:mg "NONE"=some t.aG1
 aD8:RelV (.str "none") t.aG1
 m_FewError:mg "FewError"=some (.ref t.sE)
 l_FewError:bH mg "FewError"=t.sE
 mG:ni K t.sE
 aJy:mg "NoWeb"=some (.ref t.aB9)
 aKF:bH mg "NoWeb"=t.aB9
 sH:ni K t.aB9
 aDr:mg "NoOneWay"=some (.ref t.rz)
 aEB:bH mg "NoOneWay"=t.rz
 jO:ni K t.rz
 yR:mg "NoText"=some (.ref t.zU)
 yf:bH mg "NoText"=t.zU
 jN:ni K t.zU
 aON:mg "all"=none
 aMh:mg "bool"=none
 aMg:mg "dict"=none
 aCW:mg "enumerate"=none
 aH4:mg "int"=none
 bh:mg "isinstance"=none
 aAX:mg "len"=none
 aMf:mg "list"=none
 aLO:mg "max"=none
 aLN:mg "min"=none
 fj:mg "range"=none
 aLM:mg "set"=none
 yQ:mg "sorted"=none
 qP:mg "str"=none
 cV:mg "tuple"=none
section
variable{P:zAT}{w:World}{K:zAA}{mg:Str->Option Value}{base:Heap}{t:Adr}
def vO(T:Txt K mg t):bu P w K mg base (CX1 P w) 1 t.zH t.iH ["thing"] (spF K (bH mg) 1 ji):=
 aa (k:=0) (f:=iH) T.rZ aCD λ n _ _ _ _ _ _ _=>
  (aL (aY (ig (kh (aB 0) T.bh T.aH4) (jQ (aLi (kh (aB 0) T.bh T.aMh))))))
def tG(T:Txt K mg t):bu P w K mg base (CX1 P w) 1 t.v4 t.eX ["things"] (spF K (bH mg) 1 dR):=
 aa (k:=0) (f:=eX) T.pJ aBC λ n _ _ _ _ _ _ _=>
  (aJ (iZ (aJH (aC aH (aC (uU T.aAX (aC (aB 0) aG)) aG)) T.fj) (eN (ks:=[1]))
   (aL (cI (kZ (aAM (aN (aB 0) (xX (aB 1) aH)) (aN (aB 0) (aB 1))))
    (aL (aY lN))
    au)))
  (aL (aY lN)))
def oW(T:Txt K mg t):bu P w K mg base (CX1 P w) 1 t.zB t.iC ["places","sign"] (spF K (bH mg) 2 dB):=
 aa (k:=0) (f:=iC) T.nA aBz λ n _ _ _ _ _ _ _=>
  (aL (aY (mU (aB 1) (lM (N:=["place"]) (js:=[none]) (ks:=[0]) (eO (aB 0)) bQ ie (mR T.qP (aC (aB 0) aG))))))
def iu(T:Txt K mg t):bu P w K mg base (CX1 P w) 1 t.pF t.dM ["words"] (spF K (bH mg) 1 bK):=
 aa (k:=0) (f:=dM) T.gW vy λ n _ _ _ _ _ _ _=>
  (aJ (az (i:=1) (dh (aNj (N:=["number"]) (js:=[none]) (ks:=[0]) (iM (aC (cP (pM T.dw T.lC (λ _ _=>.int _)) aH) aG) T.fj) bQ ie (mR T.qP (aC (aB 0) aG)) (bY (aB 0)))))
  (aL (aY (di T.cV (aC (lM (N:=["word","known"]) (js:=[none,some 1]) (ks:=[0]) (eO (aB 0)) bQ ie (bY (aLk (aB 1) (aB 0)))) aG)))))
def yM(T:Txt K mg t):bu P w K mg base (CX1 P w) 1 t.qX t.cu ["_law_script","_law_k"] (spF K (bH mg) 2 fX):=
 aa (k:=0) (f:=cu) T.q9 xr λ n _ _ _ _ _ _ _=>
  (aJ (cI (aAM (aB 1) (uU T.aAX (aC (aB 0) aG)))
   (aL (aY (bY (aN (aB 0) (aB 1)))))
   au)
  (aL (aY aH)))
def bV(T:Txt K mg t):bu P w K mg base (CX1 P w) 1 t.zG t.gB ["_law_cell","_law_k","_law_bound"] (spF K (bH mg) 3 aU):=
 aa (k:=0) (f:=gB) T.b7 aCC λ n _ _ _ _ _ _ _=>
  (aJ (cI (aNf (aB 0) (aLh aH aH))
   (aJ (az (i:=3) (dh (aB 0)))
   (aJ (iZ (iM (aC (aB 1) aG) T.fj) (eN (ks:=[4]))
    (aL (az (i:=3) (dh (aEi (aB 3) (aB 2))))))
   (aL (aY (oH (aB 3) (aB 2))))))
   au)
  (aJ (az (i:=5) (dh (oH (uT (cP (cP (oH (aB 0) aH) (uT aH (aB 1))) aH) aH) aH)))
  (aJ (az (i:=5) (dh (oH (cP (cP (uT (aB 5) (aB 5)) (uT aH (aB 1))) aH) aH)))
  (aL (aY (oH (aEi (oH (uT (aB 5) aH) aH) aH) (aB 2)))))))
def zp(T:Txt K mg t):bu P w K mg base (CX1 P w) 1 t.tV t.fP ["_law_web_here","_law_pairs"] (spF K (bH mg) 2 gj):=
 aa (k:=0) (f:=fP) T.uB zf λ n _ _ _ _ _ _ _=>
  (aJ (jw (i:=2) (dh (aGn T.aMg (aC (aB 1) aG))))
  (aJ (ju (i:=3) (vH (oF aG)))
  (aJ (ju (i:=4) (vH (oF aG)))
  (aJ (jw (i:=5) (dh (aDY T.aMf T.fj (aN (aB 0) aH))))
  (aJ (iZ (iM (aC (aN (aB 0) aH) aG) T.fj) (eN (ks:=[6]))
   (aL (cI (aIv (aB 6) (fZ 2))
    (aJ (ju (i:=7) (vH (oF (aC (bY (aB 6)) aG))))
    (aJ (xO (aLe (aN (mQ 7) (xf aH)) (fZ 2))
     (aL (fC 7 (aDZ (fZ 2) (aN (mQ 7) (xf aH))))))
    (aJ (fC 3 (bY (di T.cV (aC (mQ 7) aG))))
    (aL (jw (i:=5) (aG8 (N:=["_law_one","_law_way"]) (js:=[none,some 7]) (ks:=[0]) (eO (aB 5)) bQ (xU (aGa (aB 0) (aB 1))) (bY (aB 0))))))))
    au)))
  (aJ (xO (lK (fZ 5) (qm aG))
   (aJ (ju (i:=8) (vH (oF (aC (aN (fZ 5) aH) aG))))
   (aJ (xO (lK (aDZ (fZ 2) (aN (mQ 8) (xf aH))) (aN (mQ 8) aH))
    (aL (fC 8 (aDZ (fZ 2) (aN (mQ 8) (xf aH))))))
   (aJ (fC 4 (bY (di T.cV (aC (mQ 8) aG))))
   (aL (jw (i:=5) (aG8 (N:=["_law_one","_law_ring"]) (js:=[none,some 8]) (ks:=[0]) (eO (aB 5)) bQ (xU (aGa (aB 0) (aB 1))) (bY (aB 0)))))))))
  (aL (aY (cg (aC (di T.cV (aC (wW 3) aG)) (aC (di T.cV (aC (wW 4) aG)) aG)))))))))))
def fG(T:Txt K mg t):bu P w K mg base (CX1 P w) 1 t.nT t.cT ["_law_web_here","_law_sign"] (spF K (bH mg) 2 bL):=
 aa (k:=0) (f:=cT) T.dj uV λ n _ _ _ _ _ _ _=>
  (aL (aY (mU bN (cP (qm (aC (xj (mR T.qP (aC (aN (aB 0) aH) aG)) bN) aG)) (lM (N:=["_law_one","_law_other","_law_sign"]) (js:=[none,none,some 1]) (ks:=[0,1]) (eO (aN (aB 0) aH)) (aAz (n:=2) (iU bQ (iU bQ wV))) ie (xj (xj (mR T.qP (aC (aB 0) aG)) (aB 2)) (mR T.qP (aC (aB 1) aG))))))))
def j0(T:Txt K mg t):bu P w K mg base (CX1 P w) 1 t.kE t.bx ["_law_places_here"] (spF K (bH mg) 1 cA):=
 aa (k:=0) (f:=bx) T.gY qt λ n _ _ _ _ _ _ _=>
  (aL (aY (aEh (jt (aB 0) (cg aG)) bN (mU bN (lM (N:=["_law_place"]) (js:=[none]) (ks:=[0]) (eO (aB 0)) bQ ie (mR T.qP (aC (aB 0) aG)))))))
def yN(T:Txt K mg t):bu P w K mg base (CX1 P w) 2 t.aAf t.jM ["thing"] (spF K (bH mg) 1 mF):=
 aa (k:=1) (f:=jM) T.uw aD2 λ n _ _ _ _ _ _ _=>
  (aL (aY (ig (aQ (vO T) T.rZ (aC (aB 0) aG)) (jQ (aJL aH (aB 0) (pM T.dw T.lC (λ _ _=>.int _)))))))
def oY(T:Txt K mg t):bu P w K mg base (CX1 P w) 2 t.zJ t.iI ["many","thing"] (spF K (bH mg) 2 dY):=
 aa (k:=1) (f:=iI) T.nF aCE λ n _ _ _ _ _ _ _=>
  (aL (aY (ig (aQ (vO T) T.rZ (aC (aB 1) aG)) (jQ (aJK aH (aB 1) (aB 0))))))
def qM(T:Txt K mg t):bu P w K mg base (CX1 P w) 2 t.tQ t.fL ["many","pairs","sign"] (spF K (bH mg) 3 dX):=
 aa (k:=1) (f:=fL) T.nC za λ n _ _ _ _ _ _ _=>
  (aL (aY (xj (aLj (aB 0)) (mU bN (lM (N:=["pair","sign"]) (js:=[none,some 2]) (ks:=[0]) (eO (aB 1)) bQ ie (xj bN (aQ (oW T) T.nA (aC (aB 0) (aC (aB 1) aG)))))))))
def tE(T:Txt K mg t):bu P w K mg base (CX1 P w) 2 t.vZ t.gF ["ways","sign"] (spF K (bH mg) 2 eZ):=
 aa (k:=1) (f:=gF) T.pG aBB λ n _ _ _ _ _ _ _=>
  (aL (aY (aEh (eH (aB 0)) (mU bN (lM (N:=["way","sign"]) (js:=[none,some 1]) (ks:=[0]) (eO (aB 0)) bQ ie (aQ (oW T) T.nA (aC (aB 0) (aC (aB 1) aG))))) (pM T.ur T.aD8 (λ _ _=>.str _)))))
def yK(T:Txt K mg t):bu P w K mg base (CX1 P w) 2 t.qT t.dz ["places"] (spF K (bH mg) 1 iT):=
 aa (k:=1) (f:=dz) T.qY xm λ n _ _ _ _ _ _ _=>
  (aL (aY (aEh (eH (aB 0)) (aQ (oW T) T.nA (aC (aB 0) (aC bN aG))) (pM T.ur T.aD8 (λ _ _=>.str _)))))
def qN(T:Txt K mg t):bu P w K mg base (CX1 P w) 2 t.tR t.fM ["text","sign"] (spF K (bH mg) 2 cH):=
 aa (k:=1) (f:=fM) T.nD zb λ n _ _ _ _ _ _ _=>
  (aJ (az (i:=2) (dh (xY (aB 0) bN)))
  (aJ (jw (i:=3) (aG8 (N:=["word","sign"]) (js:=[none,some 1]) (ks:=[0]) (eO (aGm (aB 2) (aE9 aH) aEa)) bQ ie (xY (aB 0) (aB 1))))
  (aL (aY (cg (aC (aN (aQ (iu T) T.gW (aC (qm (aC (aFb (aN (aB 2) aH) aEa (aE9 (xf aH))) aG)) aG)) aH) (aC (di T.cV (aC (lM (N:=["pair"]) (js:=[none]) (ks:=[0]) (eO (aB 3)) bQ ie (aQ (iu T) T.gW (aC (aB 0) aG))) aG)) aG)))))))
def vN(T:Txt K mg t):bu P w K mg base (CX1 P w) 2 t.zF t.iG ["_law_cell","_law_many"] (spF K (bH mg) 2 gD):=
 aa (k:=1) (f:=iG) T.rY aCB λ n _ _ _ _ _ _ _=>
  (aJ (ju (i:=2) (vH (oF aG)))
  (aJ (iZ (iM (aC (aB 1) aG) T.fj) (eN (ks:=[3]))
   (aL (aF7 2 (aQ (bV T) T.b7 (aC (aB 0) (aC (cP aH (aB 3)) (aC (cP (aB 3) aH) aG)))) (bY (aB 3)))))
  (aL (aY (wW 2)))))
def zm(T:Txt K mg t):bu P w K mg base (CX1 P w) 2 t.tU t.fO ["_law_cell","_law_spot","_law_many"] (spF K (bH mg) 3 gh):=
 aa (k:=1) (f:=fO) T.uA zc λ n _ _ _ _ _ _ _=>
  (aJ (az (i:=3) (dh (cP aH (aQ (bV T) T.b7 (aC (aB 0) (aC (aB 1) (aC aH aG)))))))
  (aL (aY (di T.cV (aC (lM (N:=["_law_place","_law_cell","_law_spot","_law_thick"]) (js:=[none,some 0,some 1,some 3]) (ks:=[0]) (iM (aC (aB 2) aG) T.fj) bQ (xU (aAM (aQ (bV T) T.b7 (aC (aB 1) (aC (cP (cP (aB 2) aH) (aB 0)) (aC aH aG)))) (aB 3))) (bY (aB 0))) aG)))))
def rJ(T:Txt K mg t):bu P w K mg base (CX1 P w) 2 t.kI t.bz ["_law_cell","_law_web_here"] (spF K (bH mg) 2 cB):=
 aa (k:=1) (f:=bz) T.kJ qu λ n _ _ _ _ _ _ _=>
  (aJ (ju (i:=2) (vH (oF aG)))
  (aJ (iZ (aJI (aC (aN (aB 1) aH) aG) T.aCW) (aAz (n:=2) (iU (eN (ks:=[3,4])) (iU (eN (ks:=[3,4])) wV)))
   (aL (cI (aE6 (aQ (bV T) T.b7 (aC (aB 0) (aC (cP aH (oH (aB 3) aH)) (aC aH aG)))) aH)
    (aL (cI (jt (lM (N:=["_law_one","_law_arrow"]) (js:=[none,some 4]) (ks:=[0]) (eO (aB 2)) bQ (xU (SW.st (sV (jt (aN (aB 0) aH) (aN (aB 1) aH)) (mK (jt (aN (aB 0) aH) (aN (aB 1) aH)))))) (bY (aB 0))) (qm aG))
     (aL (fC 2 (bY (aB 4))))
     au))
    au)))
  (aL (aY (di T.cV (aC (wW 2) aG))))))
def aDn(T:Txt K mg t):bu P w K mg base (CX1 P w) 3 t.aAe t.jL ["many","thing"] (spF K (bH mg) 2 mD):=
 aa (k:=2) (f:=jL) T.aAi aD1 λ n _ _ _ _ _ _ _=>
  (aJ (cI (SW.st (sV (kZ (eH (kh (aB 1) T.bh T.cV))) (mK (lK (uU T.aAX (aC (aB 1) aG)) aH))))
   (aL (aY lN))
   au)
  (aL (aY (ig (aQ (oY T) T.nF (aC (aB 0) (aC (aN (aB 1) aH) aG))) (ig (aQ (oY T) T.nF (aC (aB 0) (aC (aN (aB 1) aH) aG))) (jQ (aKz (aN (aB 1) aH) (aN (aB 1) aH))))))))
def zq(T:Txt K mg t):bu P w K mg base (CX1 P w) 3 t.tX t.cX ["many","thing"] (spF K (bH mg) 2 cZ):=
 aa (k:=2) (f:=cX) T.uC zj λ n _ _ _ _ _ _ _=>
  (aJ (cI (kZ (eH (kh (aB 1) T.bh T.cV)))
   (aL (aY lN))
   au)
  (aJ (iZ (eO (aB 1)) (eN (ks:=[2]))
   (aL (cI (kZ (eH (aQ (oY T) T.nF (aC (aB 0) (aC (aB 2) aG)))))
    (aL (aY lN))
    au)))
  (aL (aY (aQ (tG T) T.pJ (aC (aB 1) aG))))))
def wI(T:Txt K mg t):bu P w K mg base (CX1 P w) 3 t.pA t.dH ["parting"] (spF K (bH mg) 1 g8):=
 aa (k:=2) (f:=dH) T.pH vo λ n _ _ _ _ _ _ _=>
  (aL (aY (aQ (tE T) T.pG (aC (aB 0) (aC bN aG)))))
def vM(T:Txt K mg t):bu P w K mg base (CX1 P w) 3 t.zE t.iD ["parting"] (spF K (bH mg) 1 gC):=
 aa (k:=2) (f:=iD) T.rW aCA λ n _ _ _ _ _ _ _=>
  (aL (aY (aQ (tE T) T.pG (aC (aB 0) (aC bN aG)))))
def aDm(T:Txt K mg t):bu P w K mg base (CX1 P w) 3 t.aAd t.jK ["_law_cell","_law_most"] (spF K (bH mg) 2 mC):=
 aa (k:=2) (f:=jK) T.aAh aD0 λ n _ _ _ _ _ _ _=>
  (aJ (az (i:=2) (dh (aQ (bV T) T.b7 (aC (aB 0) (aC aH (aC (cP (aB 1) aH) aG))))))
  (aJ (az (i:=3) (dh (aQ (bV T) T.b7 (aC (aB 0) (aC aH (aC aH aG))))))
  (aJ (jw (i:=4) (dh (aN (qm (aC aH (aC aH (aC aH (aC aH (aC aH (aC aH (aC aH (aC aH (aC aH aG)))))))))) (aB 3))))
  (aJ (az (i:=5) (dh (aQ (vN T) T.rY (aC (aB 0) (aC (aB 2) aG)))))
  (aJ (ju (i:=6) (vH (oF aG)))
  (aJ (az (i:=7) (dh aH))
  (aJ (iZ (iM (aC (aB 2) aG) T.fj) (eN (ks:=[8]))
   (aL (iZ (iM (aC (aB 8) aG) T.fj) (eN (ks:=[9]))
    (aJ (az (i:=7) (dh (cP (aB 7) aH)))
    (aJ (az (i:=10) (dh (aLA (aQ (bV T) T.b7 (aC (aB 0) (aC (aB 7) (aC aH aG)))) (fZ 4))))
    (aJ (cI (aNe (aB 3) (cg (aC aH (aC aH aG))))
     (aL (az (i:=10) (dh (aNh (vK (aB 8) (cP (aB 9) aH)) (jQ (ig (vK (aB 3) aH) (jQ (vK (cg (aC (aB 9) (aC (aB 8) aG))) (cg (aC aH (aC (xX (aB 2) aH) aG)))))))))))
     au)
    (aJ (cI (jt (aB 3) aH)
     (aL (az (i:=10) (dh (vK (aB 9) aH))))
     au)
    (aJ (cI (jt (aB 3) aH)
     (aL (az (i:=10) (dh (ig (aB 10) (jQ (vK (oH (cP (aB 9) (aB 8)) aH) aH))))))
     au)
    (aL (cI (eH (aB 10))
     (aL (fC 6 (cg (aC (aEe T.aLN (aC (aN (aB 5) (aB 9)) (aC (aN (aB 5) (aB 8)) aG))) (aC (aEf T.aLO (aC (aN (aB 5) (aB 9)) (aC (aN (aB 5) (aB 8)) aG))) aG)))))
     au))))))))))
  (aL (aY (cg (aC (bY (aB 2)) (aC (di T.cV (aC (sZ T.yQ T.aLM (aC (mQ 6) aG)) aG)) aG))))))))))))
def yL(T:Txt K mg t):bu P w K mg base (CX1 P w) 3 t.qW t.eG ["_law_cell","_law_most"] (spF K (bH mg) 2 fW):=
 aa (k:=2) (f:=eG) T.qZ xq λ n _ _ _ _ _ _ _=>
  (aJ (az (i:=2) (dh (aQ (bV T) T.b7 (aC (aB 0) (aC aH (aC (cP (aB 1) aH) aG))))))
  (aJ (az (i:=3) (dh (aQ (bV T) T.b7 (aC (aB 0) (aC aH (aC aH aG))))))
  (aJ (jw (i:=4) (dh (aN (qm (aC aH (aC aH (aC aH (aC aH (aC aH (aC aH (aC aH (aC aH aG))))))))) (aB 3))))
  (aJ (az (i:=5) (dh (aQ (vN T) T.rY (aC (aB 0) (aC (aB 2) aG)))))
  (aJ (ju (i:=6) (vH (oF aG)))
  (aJ (az (i:=7) (dh aH))
  (aJ (iZ (iM (aC (aB 2) aG) T.fj) (eN (ks:=[8]))
   (aL (iZ (iM (aC (aB 8) aG) T.fj) (eN (ks:=[9]))
    (aJ (az (i:=7) (dh (cP (aB 7) aH)))
    (aJ (az (i:=10) (dh (aQ (bV T) T.b7 (aC (aB 0) (aC (aB 7) (aC aH aG))))))
    (aJ (cI (SW.st (sV (aAM (aB 10) (fZ 4)) (mK (SW.st (qi (jt (aB 3) aH) (pL (jt (aB 8) (cP (aB 9) aH))))))))
     (aL (fC 6 (cg (aC (bY (aN (aB 5) (aB 9))) (aC (bY (aN (aB 5) (aB 8))) aG)))))
     au)
    (aL (cI (SW.st (sV (SW.st (qi (aE6 (aB 3) aH) (qi (lK (aB 3) aH) (pL (aAM (aQ (bV T) T.b7 (aC (aB 0) (aC (cP (aB 7) aH) (aC aH aG)))) (xX (fZ 4) aH)))))) (mK (SW.st (qi (jt (aB 3) aH) (pL (aAM (aB 10) aH)))))))
     (aL (fC 6 (cg (aC (bY (aN (aB 5) (aB 8))) (aC (bY (aN (aB 5) (aB 9))) aG)))))
     au))))))))
  (aJ (cI (SW.st (qi (jt (aB 3) aH) (pL (aE6 (aB 2) aH))))
   (aL (fC 6 (cg (aC (bY (aN (aB 5) (xX (aB 2) aH))) (aC (bY (aN (aB 5) aH)) aG)))))
   au)
  (aL (aY (cg (aC (bY (aB 2)) (aC (di T.cV (aC (sZ T.yQ T.aLM (aC (mQ 6) aG)) aG)) aG)))))))))))))
def iz(T:Txt K mg t):bu P w K mg base (CX1 P w) 4 t.je t.bC ["many","thing"] (spF K (bH mg) 2 bD):=
 aa (k:=3) (f:=bC) T.gA qC λ n _ _ _ _ _ _ _=>
  (aJ (cI (kZ (eH (kh (aB 1) T.bh T.cV)))
   (aL (aY lN))
   au)
  (aJ (iZ (eO (aB 1)) (eN (ks:=[2]))
   (aL (cI (kZ (eH (aQ (aDn T) T.aAi (aC (aB 0) (aC (aB 2) aG)))))
    (aL (aY lN))
    au)))
  (aL (aY (aQ (tG T) T.pJ (aC (aB 1) aG))))))
def oX(T:Txt K mg t):bu P w K mg base (CX1 P w) 4 t.qU t.eF ["text"] (spF K (bH mg) 1 dC):=
 aa (k:=3) (f:=eF) T.lG xn λ n _ _ _ _ _ _ _=>
  (aJ (cI (eH (kh (aB 0) T.bh T.qP))
   (aJ (az (i:=1) (dh (aEh (jt (aB 0) (pM T.ur T.aD8 (λ _ _=>.str _))) (cg aG) (aQ (iu T) T.gW (aC (xY (aB 0) bN) aG)))))
   (aL (cI (eH (aQ (zq T) T.uC (aC (pM T.dw T.lC (λ _ _=>.int _)) (aC (aB 1) aG))))
    (aL (aY (bY (aB 1))))
    au)))
   au)
  (aL (oA rfl T.yR T.yf T.jN (aC bN aG))))
def aCT(T:Txt K mg t):bu P w K mg base (CX1 P w) 5 t.zK t.iJ ["many","thing"] (spF K (bH mg) 2 nO):=
 aa (k:=4) (f:=iJ) T.zO aCF λ n _ _ _ _ _ _ _=>
  (aL (aY (ig (aQ (iz T) T.gA (aC (aB 0) (aC (aB 1) aG))) (jQ (aLl T.aON (aC (lM (N:=["low","high"]) (js:=[none,none]) (ks:=[0,1]) (eO (aB 1)) (aAz (n:=2) (iU bQ (iU bQ wV))) ie (aLA (aB 0) (aB 1))) aG))))))
def qO(T:Txt K mg t):bu P w K mg base (CX1 P w) 5 t.tW t.fQ ["thing"] (spF K (bH mg) 1 cY):=
 aa (k:=4) (f:=fQ) T.nG zg λ n _ _ _ _ _ _ _=>
  (aJ (cI (SW.st (sV (kZ (eH (kh (aB 0) T.bh T.cV))) (mK (lK (uU T.aAX (aC (aB 0) aG)) aH))))
   (aL (aY lN))
   au)
  (aL (aY (ig (aQ (yN T) T.uw (aC (aN (aB 0) aH) aG)) (jQ (aQ (iz T) T.gA (aC (aN (aB 0) aH) (aC (aN (aB 0) aH) aG))))))))
def aAU(T:Txt K mg t):bu P w K mg base (CX1 P w) 6 t.aCn t.lq ["thing"] (spF K (bH mg) 1 iW):=
 aa (k:=5) (f:=lq) T.zN aFd λ n _ _ _ _ _ _ _=>
  (aJ (cI (SW.st (sV (kZ (eH (kh (aB 0) T.bh T.cV))) (mK (lK (uU T.aAX (aC (aB 0) aG)) aH))))
   (aL (aY lN))
   au)
  (aL (aY (ig (aQ (yN T) T.uw (aC (aN (aB 0) aH) aG)) (jQ (aQ (aCT T) T.zO (aC (aN (aB 0) aH) (aC (aN (aB 0) aH) aG))))))))
def uh(T:Txt K mg t):bu P w K mg base (CX1 P w) 6 t.nU t.cU ["thing"] (spF K (bH mg) 1 du):=
 aa (k:=5) (f:=cU) T.nY uW λ n _ _ _ _ _ _ _=>
  (aL (cI (kZ (eH (aQ (qO T) T.nG (aC (aB 0) aG))))
   (aL (oA rfl T.aDr T.aEB T.jO (aC bN aG)))
   au))
def aBN(T:Txt K mg t):bu P w K mg base (CX1 P w) 7 t.v5 t.gG ["thing"] (spF K (bH mg) 1 iY):=
 aa (k:=6) (f:=gG) T.v8 aBD λ n _ _ _ _ _ _ _=>
  (aL (cI (kZ (eH (aQ (aAU T) T.zN (aC (aB 0) aG))))
   (aL (oA rfl T.aJy T.aKF T.sH (aC bN aG)))
   au))
def nQ(T:Txt K mg t):bu P w K mg base (CX1 P w) 7 t.pB t.dI ["web"] (spF K (bH mg) 1 bj):=
 aa (k:=6) (f:=dI) T.jh vp λ n _ _ _ _ _ _ _=>
  (aJ (aE7 (aQ (uh T) T.nY (aC (aB 0) aG)))
  (aL (aY (aQ (qM T) T.nC (aC (aN (aB 0) aH) (aC (aN (aB 0) aH) (aC bN aG)))))))
def oV(T:Txt K mg t):bu P w K mg base (CX1 P w) 8 t.yz t.gw ["web"] (spF K (bH mg) 1 cL):=
 aa (k:=7) (f:=gw) T.mz aBx λ n _ _ _ _ _ _ _=>
  (aJ (aE7 (aQ (aBN T) T.v8 (aC (aB 0) aG)))
  (aL (aY (aQ (qM T) T.nC (aC (aN (aB 0) aH) (aC (aN (aB 0) aH) (aC bN aG)))))))
def wJ(T:Txt K mg t):bu P w K mg base (CX1 P w) 8 t.pC t.dJ ["text"] (spF K (bH mg) 1 gf):=
 aa (k:=7) (f:=dJ) T.pI vq λ n _ _ _ _ _ _ _=>
  (aJ (cI (eH (kh (aB 0) T.bh T.qP))
   (aJ (az (i:=1) (dh (aQ (qN T) T.nD (aC (aB 0) (aC bN aG)))))
   (aL (cI (SW.st (qi (eH (aQ (qO T) T.nG (aC (aB 1) aG))) (pL (jt (aQ (nQ T) T.jh (aC (aB 1) aG)) (aB 0)))))
    (aL (aY (bY (aB 1))))
    au)))
   au)
  (aL (oA rfl T.yR T.yf T.jN (aC bN aG))))
def aCS(T:Txt K mg t):bu P w K mg base (CX1 P w) 9 t.zA t.iB ["text"] (spF K (bH mg) 1 nM):=
 aa (k:=8) (f:=iB) T.zM aBy λ n _ _ _ _ _ _ _=>
  (aJ (cI (eH (kh (aB 0) T.bh T.qP))
   (aJ (az (i:=1) (dh (aQ (qN T) T.nD (aC (aB 0) (aC bN aG)))))
   (aL (cI (SW.st (qi (eH (aQ (aAU T) T.zN (aC (aB 1) aG))) (pL (jt (aQ (oV T) T.mz (aC (aB 1) aG)) (aB 0)))))
    (aL (aY (bY (aB 1))))
    au)))
   au)
  (aL (oA rfl T.yR T.yf T.jN (aC bN aG))))
def aMd(T:Txt K mg t):bu P w K mg base (CX1 P w) 10 t.aLT t.v9 ["_law_script"] (spF K (bH mg) 1 aIe):=
 aa (k:=9) (f:=v9) T.aIO aLn λ n _ _ _ _ _ _ _=>
  (aJ (iZ (iM (aC (aEf T.aLO (aC aH (aC (aEe T.aLN (aC (uU T.aAX (aC (aB 0) aG)) (aC aH aG))) aG))) aG) T.fj) (eN (ks:=[1]))
   (aJ (az (i:=2) (dh (aQ (yM T) T.q9 (aC (aB 0) (aC (aB 1) aG)))))
   (aJ (az (i:=3) (dh (aQ (aDm T) T.aAh (aC (aB 2) (aC aH aG)))))
   (aJ (az (i:=4) (dh (aQ (yL T) T.qZ (aC (aB 2) (aC aH aG)))))
   (aJ (cI (jt (aQ (bV T) T.b7 (aC (aB 2) (aC aH (aC aH aG)))) aH)
    (aJ (az (i:=5) (dh (xX aH (aN (aB 3) aH))))
    (aJ (az (i:=3) (dh (cg (aC aH (aC (di T.cV (aC (lM (N:=["_law_one","_law_other","_law_far"]) (js:=[none,none,some 5]) (ks:=[0,1]) (eO (aN (aB 3) aH)) (aAz (n:=2) (iU bQ (iU bQ wV))) (xU (aE6 (aB 1) aH)) (cg (aC (cP (bY (aB 0)) (uT (bY (aB 2)) (aEg T.aH4 (aC (aNi (aB 0) aH) aG)))) (aC (cP (bY (aB 1)) (bY (aB 2))) aG)))) aG)) aG)))))
    (aL (az (i:=3) (dh (cg (aC aH (aC (di T.cV (aC (aDX T.yQ (aC (aN (aB 3) aH) aG)) aG)) aG))))))))
    au)
   (aJ (az (i:=6) (dh (aQ (zm T) T.uA (aC (aB 2) (aC aH (aC (aN (aB 3) aH) aG))))))
   (aJ (az (i:=7) (dh (aN (aQ (zp T) T.uB (aC (aB 4) (aC (aQ (rJ T) T.kJ (aC (aB 2) (aC (aB 4) aG))) aG))) aH)))
   (aJ (cI (SW.st (sV (lK (aQ (oV T) T.mz (aC (aB 3) aG)) (aQ (fG T) T.dj (aC (aB 3) (aC bN aG)))) (mK (lK (aQ (nQ T) T.jh (aC (aB 4) aG)) (aQ (fG T) T.dj (aC (aB 4) (aC bN aG)))))))
    (aL (aY lN))
    au)
   (aJ (cI (SW.st (sV (lK (aQ (yK T) T.qY (aC (aB 6) aG)) (aQ (j0 T) T.gY (aC (aB 6) aG))) (mK (lK (aQ (oX T) T.lG (aC (aQ (j0 T) T.gY (aC (aB 6) aG)) aG)) (aB 6)))))
    (aL (aY lN))
    au)
   (aJ (cI (SW.st (sV (lK (aQ (aCS T) T.zM (aC (aQ (fG T) T.dj (aC (aB 3) (aC bN aG))) aG)) (aB 3)) (mK (lK (aQ (wJ T) T.pI (aC (aQ (fG T) T.dj (aC (aB 4) (aC bN aG))) aG)) (aB 4)))))
    (aL (aY lN))
    au)
   (aGc (jw (i:=8) (dh (aN (qm (aC bN (aC (mU bN (lM (N:=["_law_way"]) (js:=[none]) (ks:=[0]) (eO (aB 7)) bQ ie (mU bN (lM (N:=["_law_place"]) (js:=[none]) (ks:=[0]) (eO (aB 0)) bQ ie (mR T.qP (aC (aB 0) aG)))))) aG))) (aEg T.aH4 (aC (aKz (aB 7) (cg aG)) aG))))) (λ _=>trivial) (lK (aQ (wI T) T.pH (aC (aB 7) aG)) (fZ 8)) (aQ (vM T) T.rW (aC (aB 7) aG)) (fZ 8) (aL (aY lN)) au)))))))))))
  (aL (aY (ig (vK (aQ (oV T) T.mz (aC (cg (aC aH (aC (cg aG) aG))) aG)) bN) (ig (vK (aQ (vM T) T.rW (aC (cg aG) aG)) bN) (jQ (vK (aQ (oX T) T.lG (aC bN aG)) (cg (aC aH aG)))))))))
end
def aL3{K:zAA}{h:Heap}{mg:Str->Option Value}{tk_MOST_PLACES:Tok}{tk_NONE:Tok}{q_FewError:Addr}{q_NoWeb:Addr}{q_NoOneWay:Addr}{q_NoText:Addr}(X:K.In h)(G:h.Ns zA9 mg)
  (h0:∃f d,Enr K "is_whole" rC f d)
  (h1:∃f d,Enr K "is_many" uZ f d)
  (h2:∃f d,Enr K "is_place" rD f d)
  (h3:∃f d,Enr K "is_pair" uY f d)
  (h4:∃f d,Enr K "is_rising" oK f d)
  (h5:∃f d,Enr K "are_rising_pairs" fu f d)
  (h6:∃f d,Enr K "are_ties" rE f d)
  (h7:∃f d,Enr K "are_places" m6 f d)
  (h8:∃f d,Enr K "is_web" xx f d)
  (h9:∃f d,Enr K "check_web" oM f d)
  (h10:∃f d,Enr K "is_one_way" mZ f d)
  (h11:∃f d,Enr K "check_one_way" il f d)
  (h12:∃f d,Enr K "row_text" qy f d)
  (h13:∃f d,Enr K "pairs_text" mV f d)
  (h14:∃f d,Enr K "ways_text" oJ f d)
  (h15:∃f d,Enr K "web_text" qw f d)
  (h16:∃f d,Enr K "one_way_text" jT f d)
  (h17:∃f d,Enr K "places_text" kj f d)
  (h18:∃f d,Enr K "parting_text" jR f d)
  (h19:∃f d,Enr K "led_text" qz f d)
  (h20:∃f d,Enr K "numbers_read" jV f d)
  (h21:∃f d,Enr K "pairs_read" mW f d)
  (h22:∃f d,Enr K "web_read" qx f d)
  (h23:∃f d,Enr K "one_way_read" jU f d)
  (h24:∃f d,Enr K "places_read" km f d)
  (h25:∃f d,Enr K "_law_cell_at" lB f d)
  (h26:∃f d,Enr K "_law_draw" rB f d)
  (h27:∃f d,Enr K "_law_turn" rA f d)
  (h28:∃f d,Enr K "_law_web" uX f d)
  (h29:∃f d,Enr K "_law_one_way" lA f d)
  (h30:∃f d,Enr K "_law_places" mX f d)
  (h31:∃f d,Enr K "_law_drawn_pairs" gO f d)
  (h32:∃f d,Enr K "_law_pieces" mY f d)
  (h33:∃f d,Enr K "_law_rows_text" ik f d)
  (h34:∃f d,Enr K "_law_places_text" gM f d)
  (h35:∃f d,Enr K "law" aGo f d)
  (dw:zAn K zA9 "MOST_PLACES"=some (some (.int 60 tk_MOST_PLACES)))
  (ur:zAn K zA9 "NONE"=some (some (.str "none" tk_NONE)))
  (y_FewError:zAn K zA9 "FewError"=some (some (.ref q_FewError)))
  (mG:ni K q_FewError)
  (y_NoWeb:zAn K zA9 "NoWeb"=some (some (.ref q_NoWeb)))
  (sH:ni K q_NoWeb)
  (y_NoOneWay:zAn K zA9 "NoOneWay"=some (some (.ref q_NoOneWay)))
  (jO:ni K q_NoOneWay)
  (y_NoText:zAn K zA9 "NoText"=some (some (.ref q_NoText)))
  (jN:ni K q_NoText)
  (z_all:zAn K zA9 "all"=some none)
  (z_bool:zAn K zA9 "bool"=some none)
  (z_dict:zAn K zA9 "dict"=some none)
  (z_enumerate:zAn K zA9 "enumerate"=some none)
  (z_int:zAn K zA9 "int"=some none)
  (z_isinstance:zAn K zA9 "isinstance"=some none)
  (z_len:zAn K zA9 "len"=some none)
  (z_list:zAn K zA9 "list"=some none)
  (z_max:zAn K zA9 "max"=some none)
  (z_min:zAn K zA9 "min"=some none)
  (z_range:zAn K zA9 "range"=some none)
  (z_set:zAn K zA9 "set"=some none)
  (z_sorted:zAn K zA9 "sorted"=some none)
  (z_str:zAn K zA9 "str"=some none)
  (z_tuple:zAn K zA9 "tuple"=some none):
  ∃t,Txt K mg t:=by
 obtain⟨f0,d0,F0,a0⟩:=dnr X G h0 ["thing"];obtain⟨f1,d1,F1,a1⟩:=dnr X G h1 ["thing"];obtain⟨f2,d2,F2,a2⟩:=dnr X G h2 ["many","thing"];obtain⟨f3,d3,F3,a3⟩:=dnr X G h3 ["many","thing"];obtain⟨f4,d4,F4,a4⟩:=dnr X G h4 ["things"];obtain⟨f5,d5,F5,a5⟩:=dnr X G h5 ["many","thing"];obtain⟨f6,d6,F6,a6⟩:=dnr X G h6 ["many","thing"];obtain⟨f7,d7,F7,a7⟩:=dnr X G h7 ["many","thing"];obtain⟨f8,d8,F8,a8⟩:=dnr X G h8 ["thing"];obtain⟨f9,d9,F9,a9⟩:=dnr X G h9 ["thing"];obtain⟨f10,d10,F10,a10⟩:=dnr X G h10 ["thing"];obtain⟨f11,d11,F11,a11⟩:=dnr X G h11 ["thing"];obtain⟨f12,d12,F12,a12⟩:=dnr X G h12 ["places","sign"];obtain⟨f13,d13,F13,a13⟩:=dnr X G h13 ["many","pairs","sign"];obtain⟨f14,d14,F14,a14⟩:=dnr X G h14 ["ways","sign"];obtain⟨f15,d15,F15,a15⟩:=dnr X G h15 ["web"];obtain⟨f16,d16,F16,a16⟩:=dnr X G h16 ["web"];obtain⟨f17,d17,F17,a17⟩:=dnr X G h17 ["places"];obtain⟨f18,d18,F18,a18⟩:=dnr X G h18 ["parting"];obtain⟨f19,d19,F19,a19⟩:=dnr X G h19 ["parting"];obtain⟨f20,d20,F20,a20⟩:=dnr X G h20 ["words"];obtain⟨f21,d21,F21,a21⟩:=dnr X G h21 ["text","sign"];obtain⟨f22,d22,F22,a22⟩:=dnr X G h22 ["text"];obtain⟨f23,d23,F23,a23⟩:=dnr X G h23 ["text"];obtain⟨f24,d24,F24,a24⟩:=dnr X G h24 ["text"];obtain⟨f25,d25,F25,a25⟩:=dnr X G h25 ["_law_script","_law_k"];obtain⟨f26,d26,F26,a26⟩:=dnr X G h26 ["_law_cell","_law_k","_law_bound"];obtain⟨f27,d27,F27,a27⟩:=dnr X G h27 ["_law_cell","_law_many"];obtain⟨f28,d28,F28,a28⟩:=dnr X G h28 ["_law_cell","_law_most"];obtain⟨f29,d29,F29,a29⟩:=dnr X G h29 ["_law_cell","_law_most"];obtain⟨f30,d30,F30,a30⟩:=dnr X G h30 ["_law_cell","_law_spot","_law_many"];obtain⟨f31,d31,F31,a31⟩:=dnr X G h31 ["_law_cell","_law_web_here"];obtain⟨f32,d32,F32,a32⟩:=dnr X G h32 ["_law_web_here","_law_pairs"];obtain⟨f33,d33,F33,a33⟩:=dnr X G h33 ["_law_web_here","_law_sign"];obtain⟨f34,d34,F34,a34⟩:=dnr X G h34 ["_law_places_here"];obtain⟨f35,d35,F35,a35⟩:=dnr X G h35 ["_law_script"]
 exact⟨⟨f0,_,f1,_,f2,_,f3,_,f4,_,f5,_,f6,_,f7,_,f8,_,f9,_,f10,_,f11,_,f12,_,f13,_,f14,_,f15,_,f16,_,f17,_,f18,_,f19,_,f20,_,f21,_,f22,_,f23,_,f24,_,f25,_,f26,_,f27,_,f28,_,f29,_,f30,_,f31,_,f32,_,f33,_,f34,_,f35,_,_,_,q_FewError,q_NoWeb,q_NoOneWay,q_NoText⟩,⟨F0,F1,F2,F3,F4,F5,F6,F7,F8,F9,F10,F11,F12,F13,F14,F15,F16,F17,F18,F19,F20,F21,F22,F23,F24,F25,F26,F27,F28,F29,F30,F31,F32,F33,F34,F35,zBe X G dw,⟨_,rfl⟩,zBe X G ur,⟨_,rfl⟩,zBe X G y_FewError,(by unfold bH;rw[zBe X G y_FewError]),mG,zBe X G y_NoWeb,(by unfold bH;rw[zBe X G y_NoWeb]),sH,zBe X G y_NoOneWay,(by unfold bH;rw[zBe X G y_NoOneWay]),jO,zBe X G y_NoText,(by unfold bH;rw[zBe X G y_NoText]),jN,zAo X G z_all,zAo X G z_bool,zAo X G z_dict,zAo X G z_enumerate,zAo X G z_int,zAo X G z_isinstance,zAo X G z_len,zAo X G z_list,zAo X G z_max,zAo X G z_min,zAo X G z_range,zAo X G z_set,zAo X G z_sorted,zAo X G z_str,zAo X G z_tuple⟩⟩
def aNR{l:zFF}{w:World}{K:zAA}{h:Heap}{mg:Str->Option Value}{fa:Addr}(X:K.In h)(G:h.Ns zA9 mg)(hfa:mg "law"=some (.ref fa))(ht:∃t,Txt K mg t):
  ∃fd:zA7,(∀(s:zAD) (v:Value),zF5 s fd ⟨[v],[]⟩ [("_law_script",v)])/\∀base:Heap,K.In base->base.Ns zA9 mg->bu l.prog w K mg base (CX1 l.prog w) 10 fa fd ["_law_script"] (aE8 K):=by
 obtain⟨t,T⟩:=ht;have e:=hfa.symm.trans T.aIO.m;cases e;refine⟨t.v9,λ s v=>?_,λ base _ _=>(aMd T).imp (aKE aHe)⟩;obtain⟨oc,od,kV,doc,pm,an,cdv,ct,osl,e,lk,hcd⟩:=T.aIO.F.ex;rw[e];exact .of_eq rfl
def walk{l:zFF}{q:zAT}{loose:List Str}{XP:(Str->Option Value)->Heap->Prop}{YP:World->Heap->Prop}{d:DefRec}{K:Params->zAA}(hn:l.most=some 63)(hdf:d.params.defaults=[])
  (hY:∀(w:World) (h:Heap),YP w h->(K w.params).In h)
  (F:∀(w:World) (mg:Str->Option Value) (fa:Addr) (h:Heap),(K w.params).In h->h.Ns zA9 mg->mg d.name=some (.ref fa)->
   ∃fd:zA7,(∀(s:zAD) (u:Value),zF5 s fd ⟨[u],[]⟩ [("_law_script",u)])/\∀base:Heap,(K w.params).In base->base.Ns zA9 mg->bu l.prog w (K w.params) mg base (CX1 l.prog w) 10 fa fd ["_law_script"] (aE8 (K w.params))):
  zHs q loose XP YP l.row.toRowW d [] (λ f vs=>zHJ f vs):=
 L2.aIo (n:=63) (k:=10) (x:="_law_script") (CX:=λ w=>CX1 l.prog w) (sp:=λ w=>aE8 (K w.params)) hn (by decide) hdf ⟨rfl,by decide,by decide⟩ hY F (λ _ _ a ns hl hO hS=>⟨a,ns,rfl,aLm hO hS,hl,λ _=>rfl⟩) λ _ _ _ _ _ ⟨_,_,_,_,_,_,_,_,_,_,_,_,_,z⟩=>z
end VL.My
open PySem PySem.W PyProof.Rows
set_option maxRecDepth 100000 in
set_option maxHeartbeats 0 in
theorem PySem.Challenge.cw_fewways_k81_texts_written_and_read_holds : PySem.Challenge.rw_fewways_k81_texts_written_and_read.Holds := by
 w_on; o_law; k_head; (case hw=>w_witness2)
 k_fill
 refine VL.My.walk (l:=PySem.Challenge.rw_fewways_k81_texts_written_and_read) rfl rfl (fun w h Y=>PySem.W.kIn_of Y) ?F
 case F =>
  intro w mg fa h KX G hmg
  refine VL.My.aNR KX G hmg ?T
  case T =>
   refine' VL.My.aL3 KX G (VL.enr ?a0 ?l0 ?c0 ?k0) (VL.enr ?a1 ?l1 ?c1 ?k1) (VL.enr ?a2 ?l2 ?c2 ?k2) (VL.enr ?a3 ?l3 ?c3 ?k3) (VL.enr ?a4 ?l4 ?c4 ?k4) (VL.enr ?a5 ?l5 ?c5 ?k5) (VL.enr ?a6 ?l6 ?c6 ?k6) (VL.enr ?a7 ?l7 ?c7 ?k7) (VL.enr ?a8 ?l8 ?c8 ?k8) (VL.enr ?a9 ?l9 ?c9 ?k9) (VL.enr ?a10 ?l10 ?c10 ?k10) (VL.enr ?a11 ?l11 ?c11 ?k11) (VL.enr ?a12 ?l12 ?c12 ?k12) (VL.enr ?a13 ?l13 ?c13 ?k13) (VL.enr ?a14 ?l14 ?c14 ?k14) (VL.enr ?a15 ?l15 ?c15 ?k15) (VL.enr ?a16 ?l16 ?c16 ?k16) (VL.enr ?a17 ?l17 ?c17 ?k17) (VL.enr ?a18 ?l18 ?c18 ?k18) (VL.enr ?a19 ?l19 ?c19 ?k19) (VL.enr ?a20 ?l20 ?c20 ?k20) (VL.enr ?a21 ?l21 ?c21 ?k21) (VL.enr ?a22 ?l22 ?c22 ?k22) (VL.enr ?a23 ?l23 ?c23 ?k23) (VL.enr ?a24 ?l24 ?c24 ?k24) (VL.enr ?a25 ?l25 ?c25 ?k25) (VL.enr ?a26 ?l26 ?c26 ?k26) (VL.enr ?a27 ?l27 ?c27 ?k27) (VL.enr ?a28 ?l28 ?c28 ?k28) (VL.enr ?a29 ?l29 ?c29 ?k29) (VL.enr ?a30 ?l30 ?c30 ?k30) (VL.enr ?a31 ?l31 ?c31 ?k31) (VL.enr ?a32 ?l32 ?c32 ?k32) (VL.enr ?a33 ?l33 ?c33 ?k33) (VL.enr ?a34 ?l34 ?c34 ?k34) (VL.enr ?a35 ?l35 ?c35 ?k35) ?dw ?ur ?y_FewError ?mG ?y_NoWeb ?sH ?y_NoOneWay ?jO ?y_NoText ?jN ?z_all ?z_bool ?z_dict ?z_enumerate ?z_int ?z_isinstance ?z_len ?z_list ?z_max ?z_min ?z_range ?z_set ?z_sorted ?z_str ?z_tuple
   (case y_FewError=>k_is); (case mG=>unfold L2.ni; k_exc)
   (case y_NoWeb=>k_is); (case sH=>unfold L2.ni; k_exc)
   (case y_NoOneWay=>k_is); (case jO=>unfold L2.ni; k_exc)
   (case y_NoText=>k_is); (case jN=>unfold L2.ni; k_exc)
   any_goals k_is
