import PyProof.Rows.All
import KE.KDictOf
import PyProof.DictWalks
import Wide.All
import OpenK.AllK
import Wide.FinOn
import Lean
import PyProof.EqAt
import PyProof.EqKinds
import PyProof.TupleCall
import KE.LcSums
import PySem.Challenge.RW_fewways_k82_texts_that_write_none
open Array renaming length_toList->zA2,getElem?_toList->zAf,getElem?_eq_getElem->zAs,getD_eq_getD_getElem?->zBL,toList_append->zBM,getElem?_eq_some_iff->zB2,getD->zBt,replicate->zDY,toList_setIfInBounds->zD5,toList_push->zEj,getElem_mem_toList->zFa,getElem?_eq_none->zFt,toList_filterMap->zFu,toList_replicate->zFv,foldl_toList->zGg,forIn_toList->zGh,toList->zIJ
open Array.Perm renaming refl->zGW
open Bool renaming false_ne_true->zAM,and_eq_true->zAN,false_eq_true->zA1,not_true->zCs,and_true->zDV,not_eq_true'->zDo,or_eq_true->zFQ,and_assoc->zFb,and_false->zFc,not_false->zFd,true_and->zFw,eq_false_iff->zHO,eq_iff_iff->zHs,false_and->zHy,or_true->zIT
open False renaming elim->zAJ
open ForInStep renaming yield->zB7
open Int renaming toNat_of_nonneg->zAn,toNat_natCast->zC8,emod_lt_of_pos->zCx,emod_nonneg->zD6,zero_add->zFD
open LawfulBEq renaming eq_of_beq->zDG
open List renaming getElem?_eq_getElem->zAB,map_cons->zAE,length_map->zAF,mem_cons_of_mem->zAH,mem_cons_self->zAI,getElem?_eq_some_iff->zAK,mem_cons->zAO,size_toArray->zAP,getElem?_map->zAR,mem_map->zAY,length_cons->zA0,getD_eq_getElem?_getD->zA3,mem_singleton->zA8,all_eq_true->zA9,mem_append_right->zAb,lookup_cons->zAe,range->zAh,map_map->zAl,length_append->zAp,mem_append_left->zAr,zip_cons_cons->zAv,append_nil->zAw,mem_append->zAx,length_set->zAz,map_append->zBA,pairwise_cons->zBB,mem_range->zBC,replicate->zBD,filterMap_cons->zBN,append_assoc->zBU,mem_filter->zBY,mem_filterMap->zBZ,mem_of_getElem?->zB1,nodup_append->zB9,replicate_succ->zBa,nodup_cons->zBd,getElem?_set_ne->zBh,foldl_cons->zBn,getElem?_set_self->zBo,take_append_drop->zBx,map_congr_left->zCL,length_take->zCP,length_nil->zCW,length_singleton->zCX,of_mem_zip->zCY,any_cons->zC5,flatten_cons->zC6,getElem?_append_left->zCf,getElem?_zip_eq_some->zCg,pairwise_iff_getElem->zCh,getElem_mem->zCj,not_mem_nil->zCk,sum_cons->zCv,getElem?_inj->zDC,length_range->zDD,cons_ne_nil->zDO,getElem_map->zDP,length_drop->zDQ,nil_append->zD3,getElem?_append_right->zDa,drop_eq_getElem_cons->zDg,any_eq_false->zDp,getElem?_replicate->zDu,length->zDv,mem_flatMap->zEB,take_of_length_le->zEE,find?_cons->zEL,mem_iff_getElem?->zEM,length_eraseIdx->zEW,contains_cons->zEe,lookup_append->zEf,all_eq_false->zEo,eraseIdx_eq_take_drop_succ->zEp,foldl_append->zEq,getElem?_set->zEr,map_nil->zEw,drop_length->zFE,map_snd_zip->zFF,length_zip->zFS,mem_of_find?_eq_some->zFe,all_cons->zFy,eraseIdx_cons_succ->zFz,getElem?_cons_succ->zGA,length_eq_zero_iff->zGB,map_drop->zGC,map_take->zGD,any_map->zGZ,map_set->zG0,getElem_toArray->zG7,mem_of_mem_take->zG8,range_eq_range'->zG9,getElem?_range->zGl,getElem_of_mem->zGm,range'->zGn,sum_append_nat->zGo,find?_eq_none->zGy,getElem_range->zGz,zip_nil_right->zHA,foldl->zHP,zip_map_left->zHQ,zip_nil_left->zHR,any_eq_true->zH9,cons_append->zHa,ext_getElem->zHb,mem_reverse->zHc,perm_middle->zHd,range'_succ->zHe,zip_append->zHt,nodup_nil->zHz,all_map->zI2
open List.Pairwise renaming nil->zFY
open List.Perm renaming refl->zB3,swap->zED,cons->zGk
open List.cons renaming injEq->zEk
open Nat renaming le_refl->zAQ,lt_of_lt_of_le->zAX,ne_of_lt->zA7,le_trans->zAg,zero_le->zAk,le_of_ble_eq_true->zBO,lt_irrefl->zBT,le_of_lt->zBl,le_of_lt_succ->zBm,ne_of_gt->zBz,lt_succ_self->zCQ,lt_succ_of_lt->zC9,succ_pos->zCq,mod_lt->zDF,lt_trans->zDh,lt_trichotomy->zEx,le_of_eq->zFG,min_self->zFH,zero_add->zFI,le_add_right->zFL,le_succ->zFZ,not_lt->zGE,add_sub_cancel->zHS,lt_of_le_of_lt->zHT,le_max_right->zHu,le_of_not_lt->zHv,le_max_left->zIA,not_lt_zero->zIB,mul_le_mul->zIL
open Nat.succ renaming inj->zHf
open Ne renaming symm->zDL
open Option renaming map_some->zCr,map_eq_some_iff->zDw,none->zG1,bind_some->zHB,getD_none->zHC,map_none->zHU
open Option.some renaming inj->zAc
open Or renaming inr->zBj,inl->zC7
open Prod renaming fst->zGF,ext->zHD,snd->zIM
open PyProof.Rows renaming split_le->zAy,IntsAre->zBQ,slot_tuple_getitem->zB0,KeyOrd->zCK,callWith_type1->zCM,seqObj->zCN,SortSt->zDS,kindOf->zDT,SortKind->zDX,envOfC->zDz,AllBare->zE5,lt_int->zFT,failedOf->zGJ,get?_update_seq->zGP,pendingOf->zGT,sortedHeap->zGs,listUpdate_at->zHG,subscriptTail_builtinR->zH2,entry_tuple_getitem->zID,seqEpoch_at->zIF,args_tuple_getitem->zIP
open PyProof.Rows.F renaming plain_set_update_loop->zCR,entry_set_update_loop->zDi
open PyProof.Rows.IsTup renaming new->zH8
open PyProof.Rows.KeyOrd renaming kle_refl->zCp,kle_trans->zDq,kle_of_klt->zEd,kle_antisymm->zGY
open PySem renaming wpAny_bind->zAC,Shared->zAD,wpAny_pure->zAL,Program->zAS,mainGlobals->zAT,sizeLine->zAU,starEach->zAV,FuncData->zA5,Around->zA6,mem_of_lookup->zAj,compareOp->zAt,bootBuiltins->zBK,wpAny_mono->zBP,wpAny_setState_of->zBS,wpAny_newObj_type->zBX,wpAny_holding->zB5,assignEach->zB6,wpAny_truthy_bool->zBe,wpAny_Call_Name_kw->zBk,behindInMarks->zBp,foldedSetIterable->zBs,Keyword->zBv,backTo->zBw,SetTable->zBy,holding->zCE,wpAny_call_entry->zCF,binaryOp->zCG,codeAny->zCJ,wpAny_loadPart_at->zCO,wpAny_callSpecial?_slot->zCU,sysModules->zCZ,Arguments->zCa,codeAny_builtin->zCc,keywordEach->zCd,sizeLine_eq->zCe,attributeBase->zCl,call_meets->zCm,GenState->zCu,codeAny_mono->zDB,letOwnedTupleGo->zDH,wpAny_Name->zDU,assign->zD0,cellsFrom->zD1,swapsWith->zD2,wpAny_askSetting->zD8,wpAny_forIn_list->zD9,NameKind->zDd,sliceBounds->zDl,wpAny_isSubtype_exc->zDm,wpAny_passesOwn->zDn,backToKw->zDy,Result->zEG,ofAClassStatement->zEI,wpAny_comprehension_free->zEJ,Builtin->zEQ,excClassObj->zEU,wpAny_standAt->zEV,standAt->zE9,wpAny_execs_nil->zEa,wpAny_loadPart'->zEb,wpAny_typeOf->zEc,closureFor->zEh,typeIs_str->zEi,codeAny_call_builtin->zEm,wpAny_loadName_local->zEn,Paired->zEs,newFunctionEnv->zEt,pyNext->zEu,recursionLimit->zEv,callerA->zFA,wpAny_loadName_cell->zFB,wpAny_loadName_free->zFC,IsPart->zFK,codeAmong->zFP,BindsTo->zFW,relabel->zF7,typeLookup->zF8,wpAny_pyIter_list->zF9,checkBuiltinCall->zFq,noFill_tuple_add->zFr,wpAny_isInstance->zFs,getItem->zGQ,hashByValue->zGR,newList->zGS,richCompare->zGU,wpAny_field->zGV,wpAny_newFunctionEnv_cells->zG5,isSubtype_type->zGe,wpAny_setField->zGf,pyIter->zGr,wpAny_call->zGt,call->zHE,plainId_quiet->zHH,seq_tuple_add->zHI,strLen_append->zHJ,swappedStores->zHK,swapsWithSole->zHL,valueAt->zHM,wpAny_attempt->zHN,richCompare_meets_room->zH1,builtinLookup_eq_fast->zHi,codeAny_call_function->zHj,concat_meets->zHk,isSubtype->zHl,lastMarks->zHm,seqIndex_neg->zHn,setSearch->zHo,tupleKind->zHp,wpAny_eqIsQuiet_tuple->zHq,wpAny_isTrue_Compare1->zHr,boot_len->zHx,intKind->zIE,seqIndex_of->zIG,setItem->zIH,wpAny_of_eq->zII,Within->zIO,bindArgs->zIQ,rawInt->zIR,wpAny_pyIter_tuple->zIS,builtinsNs->zI9,defaultsOf->zIa,searchCouldBeSeen->zIb,setsByText->zIc,slot_list_getitem->zId,typeIs_int->zIe,wpAny_assign_Name->zIf,wpAny_pyIter_enum->zIg,wpAny_pyIter_slot->zIh,wpAny_sequenceKey->zIi
open PySem.Around renaming under_plainId->zC3,frames_deeper->zGK
open PySem.AutoSeq1 renaming sub_tuple_tuple->zFJ,list_insert_list_int_val_1->zIN
open PySem.Builtin.Frozenset renaming addrOf->zH3,newClass->zH4,sizeOf->zH5,slot0->zH6,updateFrom->zH7
open PySem.Builtin.List renaming listFitsIndex->zDI,listTooLong->zDW,listLengthHint->zE1
open PySem.Builtin.Range renaming rangeSize->zIU
open PySem.Builtin.Slice renaming slicePlaces->zCS,sliceAdjust->zDN,sliceApplied->zE2,sliceFields->zIV,slicePartIndex->zIW
open PySem.Builtin.Str renaming occurrences->zCB,partsBetween->zC4,strKind->zFX
open PySem.Builtin.Tuple renaming tupleExact->zCV,tupleCompareSizes->zEF,tupleItemsOf->zE3,tupleHashOf->zIX,tupleIsExact->zIY
open PySem.Calls renaming evalArgs_plain->zER,Name_function_global->zFR,callWith_builtin->zFx,Constant_str->zGi,spliced_cons->zGj,spliced_nil->zGu
open PySem.CmpOp renaming NotIn->zIZ
open PySem.Code renaming quiet_builtin->zGv
open PySem.F renaming plainAttrs_list->zBf,slot_list_index->zCn,called_set->zCt,slot_str_split->zCw,args_str_split_2->zDe,args_tuple_add_2->zDf,entry_str_split->zDj,entry_tuple_add->zDk,slot_tuple_add->zDr,typeOf_object_class->zEY,args_list_index_2->zFM,entry_list_index->zFU,slot_list_insert->zFV,plain_list_iadd->zF0,slot_list_count->zF1,type_list_index->zF2,plainAttrs_str->zFg,plain_set_new->zFi,slot_dict_get->zFj,slot_set_iter->zFk,slot_list_append->zGX,slot_gs_get->zG6,slot_enumerate_next->zGw,slot_list_pop->zGx,slot_int_rmul->zI0
open PySem.Heap renaming get?_push_of_some->zAG,lt_size->zAW,get?_push_size->zAZ,size_push->zBc,SameBut->zDJ,get?_update_self->zEK,get?_update_ne->zE4,get?_update_other->zGL,FlyingW->zI1
open PySem.Heap.IsSliceOf renaming new->zIK
open PySem.Heap.SameBut renaming update->zCA
open PySem.NameKind renaming free->zBq,cell->zDK
open PySem.Obj renaming mapSeq->zCI,putSet->zHg,mapFields->zI3
open PySem.Paired renaming length->zFf
open PySem.SeqAt renaming EqAt->zC0,list_indexAt->zGp
open PySem.SeqAt.EqAt renaming of_refs->zEP,same->zEg,bool_bool->zF4,int_int->zFm,int_str->zFn,str_int->zFo,str_str->zFp
open PySem.SeqAt.RcAt renaming lists_lengths->zEz,tuples->zGI,lists->zGO
open PySem.SetTable renaming runEnd->zAd,below->zAm,leap->zAo,bits->zAq,turns->zBE,insertAt->zBI,Probe->zBg,grown->zCy,layClean->zDb,toList_insertAt->zDc,has->zDx,sizeAbove->zEX,insertAt_perm->zF5,advance->zGc,gaveWay->zGd,relaid->zGq,fresh->zHF,fill->zHX,fits->zHY,laid->zHZ,slot->zH0
open PySem.SetTable.below renaming go->zDR
open PySem.SetTable.layClean renaming free->zBG
open PySem.SetTable.probe renaming go->zBW
open PySem.Str renaming cps_append->zBV,length->zBb,join->zCz,ofString->zES
open PySem.StrLaws renaming join_split->zCo
open PySem.Txt renaming split->zAi,slice->zDA,join->zDZ,slice_le->zET
open PySem.Value renaming ref->zBF,none->zB8,type->zBu,bool->zC2,builtin->zDt,str->zEH,int->zE8,notImplemented->zG4,isStrOf->zIC,float->zI7,isInt->zI8
open PySem.W renaming Frag->zAA,nsIn->zA4,mg_of->zAa,mg_none_of->zAu,kia_one->zBH,findIn->zBJ,keepIn->zBR,emptyDict->zB4,kitOne->zBi,codeHdIn->zBr,hideAll->zCC,instObj->zCD,fnOf->zCH,kla_obj->zCT,hideAll_get->zCb,envX->zCi,looks_findIn->zDM,callWith_K->zD4,codeIn->zD7,cellsFrom_some->zDs,kas_rev->zEC,lookIn->zEN,tabObj->zEO,Looks->zEZ,of_hideAll->zE0,kitx_dict->zE6,methodObj->zE7,plainGet->zEl,OpenLaw->zEy,CodeHd->zFN,kla_fn->zFO,excIn->zF3,funFrames_hide->zFh,KasT->zFl,hideAll_none->zGG,hideAll_size->zGH,codeHd_of_K->zGM,plainGet_of->zGN,codeRec_of->zG2,kitx_tuple->zG3,kas_place->zGa,kitx_list->zGb,InstAt->zHV,KdlSrc->zHW,WalkO->zHh,isFn->zHw
open PySem.W.Looks renaming ld->zI4,now->zI5
open PySem.W.WData renaming list->zI6
open Sum renaming inr->zC1,inl->zF6
open ToString renaming toString->zEA
open True renaming intro->zDE
noncomputable section
namespace PySem.W.Fast
def tw1259388791541349600:=0
def tw17671597172818697408:=0
def tw12861834863323192416:=0
def tw6582290959379384384:=0
def tw16511943307435594784:=0
def tw16199097930871283648:=0
def tw13822641927898787712:=0
def tw15977819072343436064:=0
def tw6519413129793490688:=0
def tw8446923278592231072:=0
def tw6082580857004699264:=0
def tw12147089718700272256:=0
def tw15521767475734588000:=0
def tw9839297259745169824:=0
def tw8101441928385644641:=0
def tw5072573243731461217:=0
def tw17072040917075559457:=0
def tw9767626895361941537:=0
def tw13162616458117545953:=0
def tw923834474624185281:=0
def tw12240742813538168417:=0
def tw18302622533684157985:=0
def tw3301841323188656609:=0
def tw8038509841090455937:=0
def tw13722727057293407553:=0
def tw7025776672835729282:=0
def tw12091555344171253538:=0
def tw14216281583765277378:=0
def tw15804654487045609890:=0
def tw13228096955502986562:=0
def tw1090608624012657954:=0
def tw16858837385713752322:=0
def tw15807128651233470466:=0
def tw6376486948995623459:=0
def tw13125510096163182083:=0
def tw5018541740143951235:=0
def tw10923437997692618083:=0
def tw6894124156200845571:=0
def tw15123650875626439939:=0
def tw18378250035537722595:=0
def tw15010128355288368323:=0
def tw1110555197802070083:=0
def tw4414320099705200611:=0
def tw12626700750811870147:=0
def tw17686379834177522595:=0
def tw11011813975059817379:=0
def tw2633304129942463331:=0
def tw7837545058039919459:=0
def tw4967818111598562947:=0
def tw2504970101604055651:=0
def tw4932534709924739044:=0
def tw371682552955222916:=0
def tw14664230351700771620:=0
def tw5409973022687221444:=0
def tw3271510679118123524:=0
def tw8418144131732497828:=0
def tw4048643747121406340:=0
def tw10948985413876887940:=0
def tw2219606619011866852:=0
def tw7953653812515542212:=0
def tw4269765820667970277:=0
def tw6527801647965966021:=0
def tw5812284426605001381:=0
def tw413141730862066245:=0
def tw13046879861484327301:=0
def tw8535195987080403269:=0
def tw14268227515559471397:=0
def tw11679300273941248197:=0
def tw7582813001318241317:=0
def tw8128926505491530054:=0
def tw1683086867985134822:=0
def tw2290143323626207270:=0
def tw6158683706804125670:=0
def tw16136252344724855750:=0
def tw3932874860050399142:=0
def tw71617764953507686:=0
def tw4702769889291911878:=0
def tw8428647505559932614:=0
def tw17077810840103008934:=0
def tw11608925043685859974:=0
def tw10234304162124836390:=0
def tw13652500237893721606:=0
def tw15940240203659906566:=0
def tw18275961124396176359:=0
def tw13384611749959441287:=0
def tw14972258353730526055:=0
def tw1342425530953810567:=0
def tw12517894315609598535:=0
def tw17826044063411037639:=0
def tw14428019286071627111:=0
def tw515420316009462023:=0
def tw14334289347131812071:=0
def tw2864951766464399527:=0
def tw14988239855503778919:=0
def tw14318501714337302599:=0
def tw12798701727840387752:=0
def tw13393318602969924264:=0
def tw5302174153428739688:=0
def tw15742582524749450728:=0
def tw16775114778972199080:=0
def tw12945454725323864200:=0
def tw15272650021030947848:=0
def tw16091901580076552072:=0
def tw6240113545509341960:=0
def tw14804166231109534408:=0
def tw7050074558456700105:=0
def tw7098270388541243465:=0
def tw5831373382436908073:=0
def tw220660084709693257:=0
def tw5863495630031070985:=0
def tw2802719480567230185:=0
def tw14239138646550234761:=0
def tw4406512137856527849:=0
def tw8818364933230644681:=0
def tw9969469027295909802:=0
def tw1513242858379897738:=0
def tw3417932475254836106:=0
def tw5460246600368453386:=0
def tw17408628666244810506:=0
def tw12608756405808832202:=0
def tw15802720365278395018:=0
def tw4647240638335474250:=0
def tw10748900548987183690:=0
def tw7206272418199779818:=0
def tw11475098612586015146:=0
def tw13783578649133223338:=0
def tw3066655516242078090:=0
def tw12818636243640202634:=0
def tw10867801056391286154:=0
def tw10135856927367480682:=0
def tw16445447329540206730:=0
def tw11504163111148327018:=0
def tw11832354263861905163:=0
def tw17334181464169428715:=0
def tw7561831047204319947:=0
def tw8538150963695011499:=0
def tw7262870498267982347:=0
def tw15984585475804492203:=0
def tw941733569046079723:=0
def tw8726990150564265131:=0
def tw14125415053351723115:=0
def tw3532786920227022827:=0
def tw10444666853913593803:=0
def tw4912699290251093452:=0
def tw7996315346679099756:=0
def tw1194554485638272268:=0
def tw4232613992815120652:=0
def tw5541110018149376172:=0
def tw9336407226468667564:=0
def tw10247964821681910828:=0
def tw9378799938087926764:=0
def tw15687861077716768684:=0
def tw8374829228081095564:=0
def tw18276934011368300428:=0
def tw7535964627626077004:=0
def tw13817518103161349964:=0
def tw8487145491180419884:=0
def tw2524852649252861708:=0
def tw11902108239865462476:=0
def tw8560871561716111373:=0
def tw11303124832551916525:=0
def tw14119726747258793805:=0
def tw9923015489834004237:=0
def tw17004759544641019373:=0
def tw17303818636509052365:=0
def tw3545460278371594637:=0
def tw7926126597425463501:=0
def tw13740484258461858542:=0
def tw16871105533259916974:=0
def tw11656512827250393678:=0
def tw7664462498190168654:=0
def tw12127219539987460622:=0
def tw133563417802334638:=0
def tw17580255610237022638:=0
def tw12657887836375614798:=0
def tw10546228429413394766:=0
def tw17082094581957511342:=0
def tw17003988527358623854:=0
def tw6232877447880075246:=0
def tw15975666480249252782:=0
def tw18184061950992856910:=0
def tw10859248324524694286:=0
def tw12851581389755228431:=0
def tw11727619196176650479:=0
def tw6270994690103414991:=0
def tw14310274601059114159:=0
def tw2153348387471541327:=0
def tw9825026122821061711:=0
def tw1830481651016674095:=0
def tw7462189539060197135:=0
def tw12539276650221079215:=0
def tw16976959161946280559:=0
def tw2435486772260845007:=0
def tw16603549033368062383:=0
def tw550782204800734639:=0
def tw4385876803021497743:=0
def tw13086047123663453168:=0
def tw2608762084064965520:=0
def tw8301590201279110960:=0
def tw5292056494459626224:=0
def tw13737172646043544240:=0
def tw3658485127428346512:=0
def tw11567588449341710960:=0
def tw9745671481798635056:=0
def tw6108365127106284048:=0
def tw1841055614584296944:=0
def tw3028317001070067120:=0
def tw9264846253442005296:=0
def tw18425386944730652944:=0
def tw11137872976827672848:=0
def tw955597095625268464:=0
def tw15352069350048023728:=0
def tw7246887784207236208:=0
def tw11041127755384045680:=0
def tw2594316579413455984:=0
def tw3290693587121461328:=0
def tw6562176863851075632:=0
def tw872513730123263601:=0
def tw7331282951662116433:=0
def tw11455969072357065297:=0
def tw4224885359881841041:=0
def tw11682744103409146193:=0
def tw6921532285421812977:=0
def tw18400177001698443505:=0
def tw17232786032459239409:=0
def tw11414584425707575249:=0
def tw15569549615437921105:=0
def tw11882735014547318609:=0
def tw3808777897528403793:=0
def tw8409246138430060273:=0
def tw11904034655595741426:=0
def tw1649756864767800530:=0
def tw1576061127035538610:=0
def tw7230318864654748402:=0
def tw3595476594130766546:=0
def tw8103674570669334066:=0
def tw7438984713823474034:=0
def tw5037016633403799826:=0
def tw8542175405261830963:=0
def tw17638518020015330995:=0
def tw7323517725738079891:=0
def tw13294173716441363987:=0
def tw9288691790726157811:=0
def tw15286564827935917523:=0
def tw4288651996031705523:=0
def tw12083901451952497043:=0
def tw3474217716145584499:=0
def tw15832193760500938035:=0
def tw2072244178749258995:=0
def tw8511947723767792787:=0
def tw658701829769703507:=0
def tw2053227450121090995:=0
def tw13246555080813899124:=0
def tw7433661229483415860:=0
def tw128676126939983892:=0
def tw1973537273666796564:=0
def tw18211534012367808436:=0
def tw15059821418438211380:=0
def tw5267943633338787572:=0
def tw12880571512323585716:=0
def tw208170499688203892:=0
def tw17876632591590762068:=0
def tw11956973303893443701:=0
def tw17048939073003356181:=0
def tw2961502909975588757:=0
def tw7441475980752535381:=0
def tw16030487974824122197:=0
def tw17472224731617450805:=0
def tw6121195364562967285:=0
def tw1311955457252952789:=0
def tw12440547545674097301:=0
def tw4330814822082725493:=0
def tw13495197553798106741:=0
def tw17813529956181388885:=0
def tw9360441185521403445:=0
def tw8858641327960233429:=0
def tw7649817373678800341:=0
def tw1743557191470715221:=0
def tw8187280412096376053:=0
def tw664414724348955861:=0
def tw12737950433842072470:=0
def tw6797959805871223670:=0
def tw5652275447591212790:=0
def tw7009142558120065750:=0
def tw9606447911593566934:=0
def tw4354507368773713590:=0
def tw6884181630072045238:=0
def tw14167547178572233366:=0
def tw7527973572164172374:=0
def tw2485928427026372118:=0
def tw2412731356099642774:=0
def tw1412791243163471158:=0
def tw15788598116995603734:=0
def tw8030270083529407734:=0
def tw8378364167293596886:=0
def tw14911387008853390518:=0
def tw15245667495926123670:=0
def tw2159919748896294583:=0
def tw15910982724675581367:=0
def tw10333940839512789431:=0
def tw6763447308626947383:=0
def tw5273130327528699191:=0
def tw12571045323100582103:=0
def tw10575665977391153303:=0
def tw5180189617600916471:=0
def tw6526455072364618679:=0
def tw7738100478764178359:=0
def tw9974883617675417495:=0
def tw17706634430209276759:=0
def tw3595140066467202871:=0
def tw17079635510487117048:=0
def tw4150756847704253464:=0
def tw2562723301732912120:=0
def tw3023145623640613784:=0
def tw3745656005096762200:=0
def tw7967472213676740440:=0
def tw6416163860607417080:=0
def tw7055166994017032888:=0
def tw3864588120211289720:=0
def tw14814027080350581272:=0
def tw17042156976809734680:=0
def tw7363100666057474520:=0
def tw6497107504528212376:=0
def tw8381986884423469400:=0
def tw14115177360453347161:=0
def tw7691432797367530329:=0
def tw6285752499946401369:=0
def tw7119114899900744249:=0
def tw7448696646847606297:=0
def tw9628599983037748697:=0
def tw11780395626693622137:=0
def tw9102738537563182425:=0
def tw14443253347453952313:=0
def tw925294671723306233:=0
def tw17565034689878854873:=0
def tw17538593065411983545:=0
def tw6930282765355403417:=0
def tw558966224267903097:=0
def tw15920320359497657882:=0
def tw5291065295982420378:=0
def tw15562494071177811098:=0
def tw17245924920473160698:=0
def tw6534680670775254682:=0
def tw7732024625188599450:=0
def tw11947175340872670395:=0
def tw10307076991900326043:=0
def tw9873324214075760507:=0
def tw1619500110213544763:=0
def tw12097710287726746427:=0
def tw11449074673949274875:=0
def tw4179395394345983515:=0
def tw14970125965465847195:=0
def tw18049838996135434651:=0
def tw10625634657667401947:=0
def tw3383278706121282332:=0
def tw10836261438543216220:=0
def tw5115991975091228188:=0
def tw15931569459823733276:=0
def tw10532207974295919132:=0
def tw13649163629673229692:=0
def tw4535925546837697852:=0
def tw4331828039033491772:=0
def tw1132560887320663228:=0
def tw10416051269231397788:=0
def tw10663685501292594044:=0
def tw13588786946298542461:=0
def tw3800973080453717341:=0
def tw6050799729987106109:=0
def tw5227276112221561149:=0
def tw2213054948799298749:=0
def tw5601777770552668349:=0
def tw2109516410393270237:=0
def tw2608161392021300061:=0
def tw17592646142547756701:=0
def tw7685992304356167165:=0
def tw15980818792105724990:=0
def tw7385411256595185694:=0
def tw5121067961986562046:=0
def tw6231547493903126526:=0
def tw9363523745386006494:=0
def tw17753044751457586078:=0
def tw5909918851269399454:=0
def tw6487699128581144478:=0
def tw6503019243984783230:=0
def tw5322792032448644958:=0
def tw11327142352766333790:=0
def tw7058003879312729950:=0
def tw844941409638502174:=0
def tw16902891163733511966:=0
def tw10399542399070550814:=0
def tw1184966787286072990:=0
def tw12499504014400670334:=0
def tw10561634249193304638:=0
def tw15205263100087514686:=0
def tw1219211239960305086:=0
def tw1681178527524449598:=0
def tw18096173943638636862:=0
def tw4206975998251054334:=0
def tw8076051322040603902:=0
def tw11640129832459301022:=0
def tw17528739555153955966:=0
def tw14859346517146710623:=0
def tw6625823624743937631:=0
def tw1648306701109455359:=0
def tw9614796003210274239:=0
def tw18073239066630305151:=0
def tw16344702372588928255:=0
def tw13239563584954388703:=0
def tw12924573137925104831:=0
def tw15730512776456324223:=0
def tw17500794447665747967:=0
def tw11421569507918139327:=0
def tw16259334353657462623:=0
def tw9920393934097365759:=0
def tw10399712276673392351:=0
def tw14845194573352974337:=0
def tw8954381929741691634:=0
end PySem.W.Fast
abbrev gX:=List (Int×Int)
abbrev gV:=List (List Int)
abbrev hZ:=List (PySem.Addr×PySem.Obj)
abbrev hV:=Array (Int×PySem.Value)
abbrev iX:=List (PySem.Value×List Int)
abbrev kQ:=List (Option Nat)
set_option bootstrap.genMatcherCode false
set_option compiler.extract_closed false
set_option Elab.async false
set_option linter.all false
set_option maxRecDepth 100000
namespace L2
open PySem PySem.Spec PyProof.Rows
abbrev Key:=Sum Int Str
def aBe:Key->Value->Bool
 | .inl k,v=>zI8 k v
 | .inr x,v=>zIC x v
def aQ3(w:World):Key->Int
 | .inl k=>hashInt k
 | .inr x=>hashStr w x
def dZ:∀{k:Key} {v:Value},aBe k v=true->(∃i t,k=zF6 i/\v=zE8 i t)\/(∃x t,k=zC1 x/\v=zEH x t)
 | .inl i,v,h=>by
  obtain⟨t,e⟩:=Value.isInt_shape (k:=i) (v:=v) h;exact .inl ⟨i,t,rfl,e⟩
 | .inr x,v,h=>by
  obtain⟨t,e⟩:=Value.isStrOf_shape (x:=x) (v:=v) h;exact .inr ⟨x,t,rfl,e⟩
def aH7(i:Int)(t:Tok):aBe (.inl i) (.int i t)=true:=by simp[aBe,zI8]
def aH6(x:Str)(t:Tok):aBe (.inr x) (.str x t)=true:=by simp[aBe,zIC]
def aO1(a b:Int):decide ((zF6 a:Key)=zF6 b)=(a==b):=by
 by_cases e:a=b
 .subst e;simp
 .have h:¬(zF6 a:Key)=zF6 b:=λ q=>e (Sum.inl.inj q)
  rw[decide_eq_false h];exact(beq_eq_false_iff_ne.mpr e).symm
def aOX(a b:Str):decide ((zC1 a:Key)=zC1 b)=decide (a=b):=by
 by_cases e:a=b
 .subst e;simp
 .have h:¬(zC1 a:Key)=zC1 b:=λ q=>e (Sum.inr.inj q)
  rw[decide_eq_false h,decide_eq_false e]
def aO0(a:Int)(b:Str):decide ((zF6 a:Key)=zC1 b)=false:=decide_eq_false (λ q=>nomatch q)
def aOY(a:Str)(b:Int):decide ((zC1 a:Key)=zF6 b)=false:=decide_eq_false (λ q=>nomatch q)
def fJ(prog:zAS)(w:World):PySem.KeyKind prog w Key where
 is:=aBe
 hash:=aQ3 w
 inj:=λ v a b ha hb=>by
  rcases dZ ha with ⟨i,t,rfl,rfl⟩|⟨x,t,rfl,rfl⟩
  .rcases dZ hb with ⟨j,u,rfl,e⟩|⟨y,u,rfl,e⟩
   .injection e with e1 _;rw[e1]
   .exact nomatch e
  .rcases dZ hb with ⟨j,u,rfl,e⟩|⟨y,u,rfl,e⟩
   .exact nomatch e
   .injection e with e1 _;rw[e1]
 byValue:=λ k v h=>by
  rcases dZ h with ⟨i,t,rfl,rfl⟩|⟨x,t,rfl,rfl⟩<;>rfl
 pyHash:=λ hv h=>by
  rcases dZ hv with ⟨i,t,rfl,rfl⟩|⟨x,t,rfl,rfl⟩
  .exact wpAny_pyHash_int h
  .exact wpAny_pyHash_str h
 eqBool:=λ hu hv h=>by
  rcases dZ hu with ⟨i,t,rfl,rfl⟩|⟨x,t,rfl,rfl⟩
  .rcases dZ hv with ⟨j,u,rfl,rfl⟩|⟨y,u,rfl,rfl⟩
   .rw[aO1]at h;exact wpAny_eqBool_int h
   .rw[aO0]at h;exact zFn i t y u _ _ _ _ h
  .rcases dZ hv with ⟨j,u,rfl,rfl⟩|⟨y,u,rfl,rfl⟩
   .rw[aOY]at h;exact zFo x t j u _ _ _ _ h
   .rw[aOX]at h;exact wpAny_eqBool_str h
 «strs»:=λ k x t v h=>by
  rcases dZ h with ⟨i,u,rfl,e⟩|⟨y,u,rfl,e⟩
  .exact nomatch e
  .injection e with e1 _
   subst e1;cases v<;>rfl
def aDw(prog:zAS)(w:World)(i:Int)(t:Tok):(fJ prog w).is (.inl i) (.int i t)=true:=aH7 i t
def aDv(prog:zAS)(w:World)(x:Str)(t:Tok):(fJ prog w).is (.inr x) (.str x t)=true:=aH6 x t
inductive V where
 |non|bl (b:Bool)|int (i:Int)|str (x:Str)|byt (b:Array UInt8)|flt (b:UInt64)|ref (a:Addr)|ty (n:String)
 deriving DecidableEq
def RelV:V->Value->Prop
 | .non,u=>u=zB8
 | .bl b,u=>u=zC2 b
 | .int i,u=>∃t,u=zE8 i t
 | .str x,u=>∃t,u=zEH x t
 | .byt b,u=>∃t,u=Value.bytes b t
 | .flt b,u=>∃t,u=zI7 b t
 | .ref a,u=>u=zBF a
 | .ty n,u=>u=zBu n
abbrev Vals:List V->List Value->Prop:=zEs RelV
theorem Vals.length(r:Vals xs us):xs.length=us.length:=zFf r
theorem Vals.get:∀{xs:List V} {us:List Value} {i:Nat} {x:V},Vals xs us->xs[i]? =some x->∃u,us[i]? =some u/\RelV x u
 |_,_,_,_,.nil,e=>by simp at e
 |_,_,0,_,.cons r _,e=>by simp at e;subst e;exact⟨_,rfl,r⟩
 |_,_,i+1,x,.cons _ t,e=>by
  obtain⟨u,h1,h2⟩:=Vals.get (i:=i) (x:=x) t (by simpa using e);exact⟨u,by simpa using h1,h2⟩
theorem Vals.set(r:RelV x u):∀{xs:List V} {us:List Value} (i:Nat),Vals xs us->Vals (xs.set i x) (us.set i u)
 |_,_,_,.nil=>.nil
 |_,_,0,.cons _ t=>.cons r t
 |_,_,i+1,.cons q t=>.cons q (Vals.set r i t)
theorem Vals.append:∀{xs ys:List V} {us ws:List Value},Vals xs us->Vals ys ws->Vals (xs++ys) (us++ws)
 |_,_,_,_,.nil,s=>s
 |_,_,_,_,.cons r t,s=>.cons r (Vals.append t s)
theorem Vals.take:∀{xs:List V} {us:List Value} (n:Nat),Vals xs us->Vals (xs.take n) (us.take n)
 |_,_,0,_=>.nil
 |_,_,_+1,.nil=>.nil
 |_,_,n+1,.cons r t=>.cons r (Vals.take n t)
theorem Vals.drop:∀{xs:List V} {us:List Value} (n:Nat),Vals xs us->Vals (xs.drop n) (us.drop n)
 |_,_,0,r=>r
 |_,_,_+1,.nil=>.nil
 |_,_,n+1,.cons _ t=>Vals.drop n t
def aDI:Option V->Option Value->Prop
 |some v,some u=>RelV v u
 |none,none=>True
 |_,_=>False
def KV{κ:Type}:List (κ×V)->List (κ×Value)->Prop:=zEs λ(p:κ×V) (q:κ×Value)=>p.1=q.1/\RelV p.2 q.2
def kV:Key->V
 | .inl i=>.int i
 | .inr x=>.str x
inductive HO where
 |lst (xs:List V)
 |tup (xs:List V)
 |dK (kvs:List (Key×V))|dT (kvs:List (List Key×V))
 |set (S:Int->Bool) (n:Nat)
 |ins (C dx:Addr) (fs:List (Str×V))
 |own (x:Addr)
 |xd (fs:List (Str×V))
 |met (f x:Addr)
 |rng (lo hi:Int)
 |frz (o:Obj) (u:HO)
 |tbl (q:Str)
 |ext (φ:Heap->Prop)
abbrev Hp:=Addr->Option HO
def upd(H:Hp)(a:Addr)(o:HO):Hp:=λ b=>if b=a then some o else H b
def bN:upd H a o a=some o:=by unfold upd;rw[if_pos rfl]
def aj(h:b≠a):upd H a o b=H b:=by unfold upd;rw[if_neg h]
def bf{H:Hp}{a b:Addr}{o:HO}(h:H a=some o)(h':H b=none):a≠b:=by
 intro e;subst e;rw[h]at h';cases h'
def NoD(h:Heap)(a:Addr):Prop:=∀o,h.get? a=some o->o.dict=none
theorem NoD.push(h:Heap){o:Obj}(hl:o.isFreed=false:=by rfl)(hd:o.dict=none:=by rfl):NoD (h.push o) h.objs.size:=λ u e=>by rw[zAZ _ hl]at e;cases e;exact hd
def NoD.keep{h h':Heap}{a:Addr}{o:Obj}(n:NoD h a)(e:h.get? a=some o)(e':h'.get? a=some o):NoD h' a:=λ u q=>by rw[e']at q;cases q;exact n o e
section
variable{H H':Hp}
def aNF(q:Str)(oc:Obj):Prop:=∃vs t,oc.data= .fields vs/\vs[1]? =some (.str q t)
def TabOk(q:Str)(H:Hp)(ps:Array Value):Prop:=TriplesOk ps.toList/\∀pos cv,zFP pos ps.toList=some cv->∃c' oc,cv= .ref c'/\H c'=some (.frz oc (.own c'))/\aNF q oc
def TabOk.mono(t:TabOk q H ps)(f:∀b o u,H b=some (.frz o u)->H' b=some (.frz o u)):TabOk q H' ps:=⟨t.1,λ pos cv hc=>let⟨c',oc,z,a,b⟩:=t.2 pos cv hc;⟨c',oc,z,f _ _ _ a,b⟩⟩
end
section
variable(P:zAS)(w:World)
def cZ(H:Hp)(h:Heap)(a:Addr):HO->Prop
 | .lst xs=>xs.length<=zAU/\∃(its:List Value) (n:Nat),Vals xs its/\h.get? a=some {cls:=.type "list",data:=.seq its.toArray n}
 | .tup xs=>(xs.length<=zAU/\NoD h a)/\∃its:List Value,Vals xs its/\IsTup h a its.toArray
 | .dK kvs=>kvs.length<=zAU/\(a==zCZ)=false/\∃vs,KV kvs vs/\h.DictOf (fJ P w) a vs
 | .dT kvs=>kvs.length<=zAU/\(a==zCZ)=false/\∃xs:List (List Key×Addr×Value),
   zEs (λ(p:List Key×V) (q:List Key×Addr×Value)=>p.1=q.1/\H q.2.1=some (.tup (p.1.map kV))/\RelV p.2 q.2.2) kvs xs/\
   ∃o es ep,h.get? a=some o/\o.ExactDict/\o.data= .dict es ep/\es.toList=xs.map (entryOfKey (zHp (fJ P w)))/\(xs.map (·.1)).Nodup
 | .set S n=>h.SetOf (zIE P w) a S n
 | .ins C dx fs=>H dx=some (.own a)/\fs.length<=1000/\dx≠a/\h.get? a=some (zCD C dx)/\
   ∃mA,h.Ns1 dx mA/\(∀f,aDI (fs.lookup f) (mA f))/\zIO mA (fs.map (·.1))
 | .own _=>∃o,h.get? a=some o
 | .xd fs=>∃mA,h.Ns1 a mA/\∀f,aDI (fs.lookup f) (mA f)
 | .rng lo hi=>∃t u v,h.get? a=some {cls:=.type "range",data:=.fields #[.int lo t,.int hi u,.int 1 v]}
 | .frz o u=>h.get? a=some o/\cZ H h a u
 | .tbl q=>∃ps,h.get? a=some {cls:=.none,data:=.fields ps}/\TabOk q H ps
 | .met f x=>h.get? a=some (zE7 (.ref f) (.ref x))
 | .ext φ=>φ h/\(∃o,h.get? a=some o)/\∀h1 h2:Heap,φ h1->(∀o,h1.get? a=some o->h2.get? a=some o)->φ h2
def HOk(H:Hp)(h:Heap):Prop:=∀a o,H a=some o->cZ P w H h a o
end
section
variable{P:zAS}{w:World}{H H':Hp}{h h':Heap}{a:Addr}{o:HO}
theorem cZ.lt(x:cZ P w H h a o):a<h.objs.size:=by
 cases o with
 |lst xs=>obtain⟨_,_,_,_,e⟩:=x;exact zAW e
 |tup xs=>obtain⟨_,_,_,p⟩:=x;exact p.lt
 |dK kvs=>obtain⟨_,_,_,_,o,_,_,e,_⟩:=x;exact zAW e
 |dT kvs=>obtain⟨_,_,_,_,o,_,_,e,_⟩:=x;exact zAW e
 |set S n=>obtain⟨o,_,_,_,e,_⟩:=x;exact zAW e
 |ins C dx fs=>obtain⟨_,_,_,e,_⟩:=x;exact zAW e
 |own y=>obtain⟨_,e⟩:=x;exact zAW e
 |xd fs=>obtain⟨_,⟨_,_,_,e,_⟩,_⟩:=x;exact zAW e
 |rng lo hi=>obtain⟨_,_,_,e⟩:=x;exact zAW e
 |frz ob u=>obtain⟨e,_⟩:=x;exact zAW e
 |tbl q=>obtain⟨ps,e,_⟩:=x;exact zAW e
 |met f y=>exact zAW (show h.get? a=some _ from x)
 |ext φ=>obtain⟨_,⟨_,e⟩,_⟩:=x;exact zAW e
theorem Paired.mapP:∀{l₁:List α} {l₂:List β},zEs F l₁ l₂->(∀a b,F a b->G a b)->zEs G l₁ l₂
 |_,_,.nil,_=>.nil
 |_,_,.cons r t,f=>.cons (f _ _ r) (Paired.mapP t f)
def cZ.stay(x:cZ P w H h a o)(k:∀b u,(b=a\/H b=some (.own a))->h.get? b=some u->h'.get? b=some u)
  (ho:∀b,H b=some (.own a)->H' b=some (.own a))(ht:∀b xs,H b=some (.tup xs)->H' b=some (.tup xs))(hz:∀b o u,H b=some (.frz o u)->H' b=some (.frz o u):=by exact λ _ _ _ q=>q):cZ P w H' h' a o:=by
 induction o with
 |lst xs=>obtain⟨z,its,n,r,e⟩:=x;exact⟨z,its,n,r,k _ _ (.inl rfl) e⟩
 |tup xs=>obtain⟨z,its,r,ob,e,c⟩:=x;exact⟨⟨z.1,z.2.keep e (k _ _ (.inl rfl) e)⟩,its,r,ob,k _ _ (.inl rfl) e,c⟩
 |dK kvs=>obtain⟨z,y,vs,r,ob,es,ep,e,c⟩:=x;exact⟨z,y,vs,r,ob,es,ep,k _ _ (.inl rfl) e,c⟩
 |dT kvs=>
  obtain⟨z,y,xs,r,ob,es,ep,e,c⟩:=x;exact⟨z,y,xs,Paired.mapP r λ p q z=>⟨z.1,ht _ _ z.2.1,z.2.2⟩,ob,es,ep,k _ _ (.inl rfl) e,c⟩
 |set S n=>obtain⟨ob,es,ep,t,e,c⟩:=x;exact⟨ob,es,ep,t,k _ _ (.inl rfl) e,c⟩
 |ins C dx fs=>
  obtain⟨d,z,ne,e,mA,⟨od,es,ep,e2,c⟩,r⟩:=x;exact⟨ho _ d,z,ne,k _ _ (.inl rfl) e,mA,⟨od,es,ep,k _ _ (.inr d) e2,c⟩,r⟩
 |own y=>obtain⟨ob,e⟩:=x;exact⟨ob,k _ _ (.inl rfl) e⟩
 |xd fs=>obtain⟨mA,⟨od,es,ep,e,c⟩,r⟩:=x;exact⟨mA,⟨od,es,ep,k _ _ (.inl rfl) e,c⟩,r⟩
 |rng lo hi=>obtain⟨t,u,v,e⟩:=x;exact⟨t,u,v,k _ _ (.inl rfl) e⟩
 |frz ob u ih=>obtain⟨e,q⟩:=x;exact⟨k _ _ (.inl rfl) e,ih q⟩
 |tbl q=>
  obtain⟨ps,e,t⟩:=x;exact⟨ps,k _ _ (.inl rfl) e,t.mono hz⟩
 |met f y=>
  have e:h.get? a=some (zE7 (.ref f) (.ref y)):=x;show h'.get? a=some (zE7 (.ref f) (.ref y));exact k a _ (.inl rfl) e
 |ext φ=>obtain⟨p,⟨o,e⟩,st⟩:=x;exact⟨st _ _ p λ o q=>k _ _ (.inl rfl) q,⟨o,k _ _ (.inl rfl) e⟩,st⟩
theorem HOk.lt(x:HOk P w H h)(e:H a=some o):a<h.objs.size:=(x a o e).lt
def HOk.fresh(x:HOk P w H h)(e:h.objs.size<=a):H a=none:=by
 cases q:H a with
 |none=>rfl
 |some u=>exact absurd (zAX (x.lt q) e) (zBT _)
def HOk.kept(x:HOk P w H h)(k:∀b u,h.get? b=some u->h'.get? b=some u):HOk P w H h':=λ a o e=>
 (x a o e).stay (λ b u _ q=>k b u q) (λ _ q=>q) λ _ _ q=>q
def HOk.laid(x:HOk P w H h)(k:∀b u,h.get? b=some u->h'.get? b=some u)(hp:h.objs.size<=a)(new:cZ P w (upd H a o) h' a o):HOk P w (upd H a o) h':=λ b u e=>by
 have hn:=x.fresh hp;by_cases hb:b=a
 .subst hb;rw[bN]at e;cases e;exact new
 .rw[aj hb]at e
  exact(x b u e).stay (λ c v _ q=>k c v q) (λ c q=>by rw[aj (bf q hn)];exact q) (λ c xs q=>by rw[aj (bf q hn)];exact q) λ c o' u' q=>by rw[aj (bf q hn)];exact q
end
def Rd(H:Hp)(a:Addr)(u:HO):Prop:=H a=some u\/∃o,H a=some (.frz o u)
def Rd.ok(r:Rd H a u)(x:HOk P w H h):cZ P w H h a u:=by
 rcases r with r|⟨o,r⟩
 .exact x a u r
 .obtain⟨_,q⟩:=x a _ r
  exact q
def Mut:Option HO->Prop
 |some (.lst _)=>True
 |some (.dK _)=>True
 |some (.dT _)=>True
 |some (.set _ _)=>True
 |some (.ins _ _ _)=>True
 |some (.ext _)=>True
 |_=>False
section
variable{P:zAS}{w:World}{H:Hp}{h h':Heap}{x e:Addr}{o':HO}
def HOk.write(ok:HOk P w H h)(mu:Mut (H x))(he:e=x\/H e=some (.own x))(k:∀b u,b≠e->h.get? b=some u->h'.get? b=some u)(heo:∃u,h'.get? e=some u)
  (new:cZ P w (upd H x o') h' x o'):HOk P w (upd H x o') h':=λ b u q=>by
 have nown:∀c y,H c=some (.own y)->c≠x:=λ c y r z=>by subst z;rw[r]at mu;exact mu
 have ntup:∀c xs,H c=some (.tup xs)->c≠x:=λ c xs r z=>by subst z;rw[r]at mu;exact mu
 by_cases hb:b=x
 .subst hb;rw[bN]at q;cases q;exact new
 .rw[aj hb]at q
  by_cases hbe:b=e
  .have q':H b=some (.own x):=by
    rcases he with z|z
    .exact absurd (hbe.trans z) hb
    .rw[hbe];exact z
   rw[q]at q';cases q';obtain⟨v,hv⟩:=heo;exact⟨v,by rw[hbe];exact hv⟩
  .refine(ok b u q).stay (λ c v hc r=>k c v ?_ r) (λ c r=>by rw[aj (nown c b r)];exact r) (λ c xs r=>by rw[aj (ntup c xs r)];exact r) λ c o2 u2 r=>by rw[aj λ z=>by subst z;rw[r]at mu;exact mu];exact r
   rcases hc with rfl|hc
   .exact hbe
   .rintro rfl
    rcases he with z|z
    .exact nown c b hc z
    .rw[hc]at z;cases z;exact hb rfl
end
structure Un(fs ex:List Addr)(H H':Hp)(h h':Heap):Prop where
 keep:∀b o,h.get? b=some o->H b=none->b∉fs->b∉ex->h'.get? b=some o
 slot:∀b o,h.get? b=some o->H b=none->b∈fs->b∉ex->∃sl,h'.get? b=some {o with slots:=sl}
 free:∀b o,h.get? b=some o->H b=none->b∉ex->H' b=none
 there:∀b o,h.get? b=some o->b∉ex->∃o',h'.get? b=some o'
 tups:∀b xs,H b=some (.tup xs)->H' b=some (.tup xs)
 frzs:∀b o u,H b=some (.frz o u)->H' b=some (.frz o u)
 tbls:∀b q,H b=some (.tbl q)->H' b=some (.tbl q)
section
variable{fs ex:List Addr}{H H1:Hp}{h h1 h':Heap}{a x e:Addr}{o:HO}
def Un.any(u:Un fs ex H H1 h h1)(q:h.get? b=some ob)(n:H b=none)(hx:b∉ex):∃sl,h1.get? b=some {ob with slots:=sl}:=by
 by_cases hb:b∈fs
 .exact u.slot b ob q n hb hx
 .exact⟨ob.slots,u.keep b ob q n hb hx⟩
def Un.kept(k:∀b u,h.get? b=some u->h'.get? b=some u):Un fs ex H H h h':=
 ⟨λ b ob q _ _ _=>k b ob q,λ b ob q _ _ _=>⟨ob.slots,k b ob q⟩,λ _ _ _ n _=>n,λ b ob q _=>⟨ob,k b ob q⟩,λ _ _ q=>q,λ _ _ _ q=>q,λ _ _ q=>q⟩
def Un.refl:Un fs ex H H h h:=Un.kept λ _ _ q=>q
def Un.laid(k:∀b u,h.get? b=some u->h'.get? b=some u)(hp:h.objs.size<=a)(hn:H a=none):Un fs ex H (upd H a o) h h' where
 keep:=λ b u q _ _ _=>k b u q
 slot:=λ b u q _ _ _=>⟨u.slots,k b u q⟩
 free:=λ b u q n _=>by rw[aj (zA7 (zAX (zAW q) hp))];exact n
 there:=λ b u q _=>⟨u,k b u q⟩
 tups:=λ b xs q=>by rw[aj (bf q hn)];exact q
 frzs:=λ b u xs q=>by rw[aj (bf q hn)];exact q
 tbls:=λ b r q=>by rw[aj (bf q hn)];exact q
def Un.write(mu:Mut (H x))(he:e=x\/H e=some (.own x))(k:∀b u,b≠e->h.get? b=some u->h'.get? b=some u)(heo:∃u,h'.get? e=some u):Un fs ex H (upd H x o) h h':=by
 have hx:∀b,H b=none->b≠x:=λ b n z=>by subst z;rw[n]at mu;exact mu
 have hb:∀b,H b=none->b≠e:=λ b n z=>by
  subst z;rcases he with r|r
  .exact hx b n r
  .rw[n]at r;cases r
 have hm:∀b u,H b=some u->¬Mut (some u)->b≠x:=λ b u q nm z=>by subst z;rw[q]at mu;exact nm mu
 refine⟨λ b u q n _ _=>k b u (hb b n) q,λ b u q n _ _=>⟨u.slots,k b u (hb b n) q⟩,λ b u q n _=>by rw[aj (hx b n)];exact n,λ b u q _=>?_,
  λ b xs q=>by rw[aj (hm b _ q λ z=>z)];exact q,λ b u xs q=>by rw[aj (hm b _ q λ z=>z)];exact q,λ b r q=>by rw[aj (hm b _ q λ z=>z)];exact q⟩
 by_cases hbe:b=e
 .subst hbe;exact heo
 .exact⟨u,k b u hbe q⟩
end
def trk(h:Heap)(H:Hp):List Addr:=(zAh h.objs.size).filter λ a=>(H a).isSome
def aBN(h:Heap)(H:Hp):Heap:=zCC h (trk h H)
def aHd(h:Heap)(H:Hp):(aBN h H).objs.size=h.objs.size:=zGH _ _
def aJr(e:h.get? b=some o)(n:H b=none):(aBN h H).get? b=some o:=
 zCb _ e λ hm=>by
  have q:(H b).isSome=true:=(zBY.mp hm).2;rw[n]at q;simp at q
def aL5(e:(aBN h H).get? b=some o):h.get? b=some o/\H b=none:=by
 have e':h.get? b=some o:=zE0 (trk h H) e;refine⟨e',?_⟩;cases q:H b with
 |none=>rfl
 |some x=>
  have hm:b∈trk h H:=zBY.mpr ⟨zBC.mpr (zAW e'),by simp[q]⟩;have z:(aBN h H).get? b=none:=zGG (trk h H) hm;rw[z]at e;cases e
def aM4(g h:Heap)(L:Addr):hZ:=(zAh h.objs.size).filterMap λ a=>if a=L\/(g.get? a).isSome=true then none else(h.get? a).map λ o=>(a,o)
def rest(g h:Heap)(L d:Addr):hZ:=(aM4 g h L).filter λ p=>decide (p.1≠d)
structure Mod(K:zAA)(mg:Str->Option Value)(base:Heap):Prop where
 kin:K.In base
 glob:base.Ns zAT mg
 blt:∃mb,base.Ns zI9 mb/\∀x:Str,x≠"__name__"->mb x=zBK x
 nolimit:base.NoLimit
structure Cx where
 prog:zAS
 w:World
 K:zAA
 mg:Str->Option Value
 base:Heap
 A:zA6
 N:List Str
 z5:zAD
 z0:Hp
 env:Env
 outer:List Env
 stack:List Env
 ex:List Addr
 fn:Str->Bool
 calm:Bool
 pn:hZ
 xe:Value->zAD->Prop
 ta:hZ:=[]
 tq:Str:=""
def frs(l:List Env):List Addr:=l.filterMap (·.frame)
abbrev Cx.fs(X:Cx):List Addr:=frs X.outer
def Vis(sc:Scope)(x:Str):Prop:=sc.names.lookup x=some .local\/sc.names.lookup x=some .cell\/sc.names.lookup x=some .free
def Loc(sc:Scope)(x:Str):Prop:=sc.names.lookup x=some .local\/sc.names.lookup x=some .cell
def Look(env:Env)(h:Heap)(m:Str->Option Value)(x:Str)(u:Value):Prop:=
 (env.kindOf x=some .local/\m x=some u)\/((env.kindOf x=some .cell\/env.kindOf x=some .free)/\∃c,env.cells.lookup x=some c/\h.IsCell c (some u))
structure Cx.Ok(X:Cx):Prop where
 mod:Mod X.K X.mg X.base
 kind:X.env.scope.kind= .function
 glob:X.env.globals=zAT
 blt:X.env.builtins=zI9
 above:X.z5.heap.objs.size<=X.env.locals
 inj:∀x y c,X.env.cells.lookup x=some c->X.env.cells.lookup y=some c->x=y
 has:∀x,(X.env.kindOf x=some .cell\/X.env.kindOf x=some .free)->∃c,X.env.cells.lookup x=some c
 cab:∀x c,X.fn x=true->X.env.cells.lookup x=some c->X.z5.heap.objs.size<=c
 hd:X.calm=true->X.A.handled=none
 frames:X.A.frames=some X.stack
 stk:X.stack=X.outer\/(X.stack=X.env::X.outer/\X.env.frame=some X.env.locals)
 exf:∀b∈X.ex,b≠X.env.locals/\∀x c,X.env.cells.lookup x=some c->c≠b
 bs:∀b o,X.base.get? b=some o->X.z5.heap.get? b=some o/\X.z0 b=none
 bsz:X.base.objs.size<=X.z5.heap.objs.size
 noex:∀b o,X.base.get? b=some o->b∉X.ex
 exfs:∀b∈X.ex,b∉X.fs
 funs:X.z5.heap.FunFrames X.base X.outer
 frf:∀b∈X.fs,X.z0 b=none
structure Inv(X:Cx)(kX:hZ)(Z:List (Option V))(H:Hp)(s:zAD):Prop where
 ok:X.Ok
 os:s.os=X.z5.os
 bare:zE5 s.gens
 base:Un X.fs X.ex X.z0 H X.z5.heap s.heap
 loc:∃m,s.heap.Ns X.env.locals m/\∀(i:Nat) (x:Str) (v:V),X.N[i]? =some x->Z[i]? =some (some v)->Vis X.env.scope x->∃u,RelV v u/\Look X.env s.heap m x u
 cell:∀x c,X.env.cells.lookup x=some c->∃v,s.heap.IsCell c v
 free:H X.env.locals=none
 freeC:∀x c,X.env.cells.lookup x=some c->H c=none
 pin:∀p∈X.pn++kX,s.heap.get? p.1=some p.2/\H p.1=none/\p.1≠X.env.locals/\p.1∉X.fs/\∀v,p.2.data≠.cell v
 hok:HOk X.prog X.w H s.heap
 len:Z.length=X.N.length
 tab:∀p∈X.ta,H p.1=none/\p.1≠X.env.locals/\p.1∉X.fs/\(∀q∈X.pn++kX,q.1≠p.1)/\∃ps,s.heap.get? p.1=some {cls:=.none,data:=.fields ps}/\TabOk X.tq H ps
section
variable{X:Cx}{kX:hZ}{Z:List (Option V)}{H H':Hp}{s:zAD}{h':Heap}
def Cx.Ok.nofr(ok:X.Ok)(e:X.base.get? b=some o):b∉X.fs:=λ hb=>by
 have:=(ok.funs.mem hb).1
 rw[e]at this;cases this
theorem Inv.bs(I:Inv X kX Z H s):∀b o,X.base.get? b=some o->s.heap.get? b=some o/\H b=none:=λ b o e=>
 ⟨I.base.keep b o (I.ok.bs b o e).1 (I.ok.bs b o e).2 (I.ok.nofr e) (I.ok.noex b o e),I.base.free b o (I.ok.bs b o e).1 (I.ok.bs b o e).2 (I.ok.noex b o e)⟩
def Inv.bk(I:Inv X kX Z H s):∀b o,X.base.get? b=some o->s.heap.get? b=some o:=λ b o e=>(I.bs b o e).1
theorem Inv.mod(I:Inv X kX Z H s):Mod X.K X.mg X.base:=I.ok.mod
def Inv.kIn(I:Inv X kX Z H s):X.K.In s.heap:=I.ok.mod.kin.keeps I.bk
def Inv.fr(I:Inv X kX Z H s):∃m,Fr X.base X.env.locals s.heap m:=
 let⟨m,hn,_⟩:=I.loc
 ⟨m,hn,I.bk,zAg I.ok.bsz I.ok.above⟩
theorem Inv.lt(I:Inv X kX Z H s):X.env.locals<s.heap.objs.size:=let⟨_,hn,_⟩:=I.loc;hn.lt
def Inv.sz(I:Inv X kX Z H s):X.z5.heap.objs.size<=s.heap.objs.size:=zAg I.ok.above (zBl I.lt)
def Inv.nofs(I:Inv X kX Z H s)(h:s.heap.objs.size<=a):a∉X.fs:=λ hb=>by
 obtain⟨_,o,ho,_⟩:=I.ok.funs.mem hb;exact absurd (zAX (zAW ho) (zAg I.sz h)) (zBT _)
def Inv.cne(I:Inv X kX Z H s):∀x c,X.env.cells.lookup x=some c->c≠X.env.locals:=λ x c e z=>by
 obtain⟨v,o,ho,hd⟩:=I.cell x c e;obtain⟨m,⟨o',es,ep,ho',hd',_⟩,_⟩:=I.loc;rw[z,ho']at ho;cases ho;rw[hd']at hd;cases hd
theorem Inv.funs(I:Inv X kX Z H s):s.heap.FunFrames X.base X.outer:=by
 have all:∀(l:List Env),(∀b∈frs l,b∈X.fs)->X.z5.heap.FunFrames X.base l->s.heap.FunFrames X.base l:=by
  intro l;induction l with
  |nil=>intro _ _;trivial
  |cons env r ih=>
   intro hs hl;obtain⟨hk,⟨L,o,hf,hn,ho,hd⟩,hr⟩:=hl;have hL:L∈X.fs:=hs L (by unfold frs;rw[zBN,hf];exact zAI);obtain⟨sl,e⟩:=I.base.slot L o ho (I.ok.frf L hL) hL λ z=>I.ok.exfs L z hL
   exact⟨hk,⟨L,_,hf,hn,e,hd⟩,ih (λ b hb=>hs b (by unfold frs;rw[zBN,hf];exact zAH _ hb)) hr⟩
 exact all X.outer (λ _ hb=>hb) I.ok.funs
theorem Inv.stack(I:Inv X kX Z H s):s.heap.FunFrames X.base X.stack:=by
 rcases I.ok.stk with e|⟨e,hf⟩
 .rw[e];exact I.funs
 .rw[e]
  obtain⟨m,hn,_⟩:=I.loc;refine .cons (by rw[I.ok.kind];decide) hf hn ?_ I.funs;exact Heap.get?_none_of_le (zAg I.ok.bsz I.ok.above)
def Inv.stkSub(I:Inv X kX Z H s):∀b∈frs X.stack,b∈X.env.locals::X.fs:=λ b hb=>by
 rcases I.ok.stk with e|⟨e,hf⟩
 .rw[e]at hb;exact zAH _ hb
 .rw[e]at hb
  unfold frs at hb;rw[zBN,hf]at hb;exact hb
def Inv.stkFree(I:Inv X kX Z H s):∀b∈frs X.stack,H b=none:=λ b hb=>by
 rcases zAO.mp (I.stkSub b hb)with e|hb
 .rw[e];exact I.free
 .obtain⟨_,o,ho,_⟩:=I.ok.funs.mem hb
  exact I.base.free b o ho (I.ok.frf b hb) λ z=>I.ok.exfs b z hb
def Inv.step{g':Array zCu}{t':Nat}{d':Drawn}{ch:List Addr}(I:Inv X kX Z H s)
  (hch:∀b∈ch,(b∈X.ex\/X.z5.heap.objs.size<=b)/\b≠X.env.locals/\(∀x c,X.env.cells.lookup x=some c->c≠b)/\∀p∈X.ta++(X.pn++kX),p.1≠b)
  (keep:∀b o,b≠X.env.locals->b∉X.fs->b∉ch->s.heap.get? b=some o->H b=none->h'.get? b=some o)
  (slot:∀b o,b≠X.env.locals->b∈X.fs->b∉ch->s.heap.get? b=some o->H b=none->∃sl,h'.get? b=some {o with slots:=sl})(free:∀b o,b∉ch->s.heap.get? b=some o->H b=none->H' b=none)
  (there:∀b o,b∉ch->s.heap.get? b=some o->∃o',h'.get? b=some o')
  (tups:∀b xs,H b=some (.tup xs)->H' b=some (.tup xs))(frzs:∀b o u,H b=some (.frz o u)->H' b=some (.frz o u))(tbls:∀b q,H b=some (.tbl q)->H' b=some (.tbl q))
  (ns:∀m,s.heap.Ns X.env.locals m->h'.Ns X.env.locals m)(hok:HOk X.prog X.w H' h')(hg:zE5 g'):
  Inv X kX Z H' {s with heap:=h',gens:=g',drawn:=d',toks:=t'}:=by
 have neL:∀b o,X.z5.heap.get? b=some o->b≠X.env.locals:=λ b o e=>zA7 (zAX (zAW e) I.ok.above)
 have neC:∀b o,X.z5.heap.get? b=some o->b∉X.ex->b∉ch:=λ b o e hx hb=>by
  rcases(hch b hb).1 with z|z
  .exact hx z
  .exact absurd (zAX (zAW e) z) (zBT _)
 have dQ:∀x c,X.env.cells.lookup x=some c->∀v,s.heap.IsCell c v->h'.IsCell c v:=λ x c e v ⟨o,ho,hd⟩=>by
  have nch:c∉ch:=λ z=>(hch c z).2.2.1 x c e rfl
  by_cases hc:c∈X.fs
  .obtain⟨sl,q⟩:=slot c o (I.cne x c e) hc nch ho (I.freeC x c e)
   exact⟨_,q,hd⟩
  .exact⟨o,keep c o (I.cne x c e) hc nch ho (I.freeC x c e),hd⟩
 refine⟨I.ok,I.os,hg,⟨λ b o e n hb hx=>?_,λ b o e n hb hx=>?_,λ b o e n hx=>?_,λ b o e hx=>?_,λ b xs e=>tups b xs (I.base.tups b xs e),λ b o xs e=>frzs b o xs (I.base.frzs b o xs e),λ b q e=>tbls b q (I.base.tbls b q e)⟩,?_,λ x c e=>?_,?_,λ x c e=>?_,λ p hp=>?_,hok,I.len,λ p hp=>?_⟩
 .exact keep b o (neL b o e) hb (neC b o e hx) (I.base.keep b o e n hb hx) (I.base.free b o e n hx)
 .obtain⟨sl,e1⟩:=I.base.slot b o e n hb hx
  obtain⟨sl',e2⟩:=slot b _ (neL b o e) hb (neC b o e hx) e1 (I.base.free b o e n hx);exact⟨sl',e2⟩
 .obtain⟨o',e1⟩:=I.base.there b o e hx
  exact free b o' (neC b o e hx) e1 (I.base.free b o e n hx)
 .obtain⟨o',e1⟩:=I.base.there b o e hx
  exact there b o' (neC b o e hx) e1
 .obtain⟨m,hn,hl⟩:=I.loc
  refine⟨m,ns m hn,λ i x v e1 e2 e3=>?_⟩;obtain⟨u,r,l⟩:=hl i x v e1 e2 e3;refine⟨u,r,?_⟩;rcases l with l|⟨k,c,e,z⟩
  .exact .inl l
  .exact .inr ⟨k,c,e,dQ x c e _ z⟩
 .obtain⟨v,z⟩:=I.cell x c e
  exact⟨v,dQ x c e v z⟩
 .obtain⟨m,⟨o,_,_,ho,_⟩,_⟩:=I.loc
  exact free _ o (λ z=>(hch _ z).2.1 rfl) ho I.free
 .obtain⟨v,o,ho,hd⟩:=I.cell x c e
  exact free c o (λ z=>(hch c z).2.2.1 x c e rfl) ho (I.freeC x c e)
 .obtain⟨e,n,ne,nf,d⟩:=I.pin p hp
  have nch:p.1∉ch:=λ z=>(hch p.1 z).2.2.2 p (zAb _ hp) rfl
  exact⟨keep p.1 p.2 ne nf nch e n,free p.1 p.2 nch e n,ne,nf,d⟩
 .obtain⟨n,ne,nf,np,ps,e,t⟩:=I.tab p hp
  have nch:p.1∉ch:=λ z=>(hch p.1 z).2.2.2 p (zAr _ hp) rfl
  exact⟨free p.1 _ nch e n,ne,nf,np,ps,keep p.1 _ ne nf nch e n,t.mono frzs⟩
def Inv.pinL(I:Inv X kX Z H s)(hp:p∈X.ta++(X.pn++kX)):p.1<s.heap.objs.size:=by
 rcases zAx.mp hp with z|z
 .obtain⟨_,_,_,_,_,e,_⟩:=I.tab p z
  exact zAW e
 .exact zAW (I.pin p z).1
def Inv.un{t':Nat}(I:Inv X kX Z H s)(u:Un X.fs [] H H' s.heap h')(hok:HOk X.prog X.w H' h'):Inv X kX Z H' {s with heap:=h',toks:=t'}:=by
 obtain⟨m,⟨o,es,ep,ho,r⟩,_⟩:=id I.loc;obtain⟨sl,hL⟩:=u.any ho I.free (by simp);exact I.step (g':=s.gens) (d':=s.drawn) (ch:=[]) (λ _ z=>nomatch z) (λ b o _ hb _ e n=>u.keep b o e n hb (by simp)) (λ b o _ hb _ e n=>u.slot b o e n hb (by simp)) (λ b o _ e n=>u.free b o e n (by simp)) (λ b o _ e=>u.there b o e (by simp)) u.tups u.frzs u.tbls (λ m' hm=>by
  obtain⟨o',es',ep',ho',r'⟩:=hm;rw[ho]at ho';cases ho';exact⟨_,es',ep',hL,r'⟩) hok I.bare
def Inv.call{g':Array zCu}{t':Nat}{d':Drawn}{ch:List Addr}(I:Inv X kX Z H s)(u:Un (frs X.stack) ch H H' s.heap h')(hok:HOk X.prog X.w H' h')(hg:zE5 g')
  (hch:∀b∈ch,(b∈X.ex\/X.z5.heap.objs.size<=b)/\b≠X.env.locals/\(∀x c,X.env.cells.lookup x=some c->c≠b)/\∀p∈X.ta++(X.pn++kX),p.1≠b):
  Inv X kX Z H' {s with heap:=h',gens:=g',drawn:=d',toks:=t'}:=by
 obtain⟨m,⟨o,es,ep,ho,r⟩,_⟩:=id I.loc;obtain⟨sl,hL⟩:=u.any ho I.free λ z=>(hch _ z).2.1 rfl
 exact I.step (ch:=ch) hch (λ b o hL hb hc e n=>u.keep b o e n (λ z=>(zAO.mp (I.stkSub b z)).elim hL hb) hc) (λ b o _ _ hc e n=>u.any e n hc) (λ b o hc e n=>u.free b o e n hc) (λ b o hc e=>u.there b o e hc) u.tups u.frzs u.tbls (λ m' hm=>by
  obtain⟨o',es',ep',ho',r'⟩:=hm;rw[ho]at ho';cases ho';exact⟨_,es',ep',hL,r'⟩) hok hg
def Inv.turned{t':Nat}{it:Addr}(I:Inv X kX Z H s)(k:∀b o,b≠it->s.heap.get? b=some o->h'.get? b=some o)(hn:H it=none)(hL:it≠X.env.locals)
  (h1:it∈X.ex\/X.z5.heap.objs.size<=it)(h2:∀x c,X.env.cells.lookup x=some c->c≠it)(h3:∀p∈X.ta++(X.pn++kX),p.1≠it):Inv X kX Z H {s with heap:=h',toks:=t'}:=by
 have nit:∀b u,H b=some u->b≠it:=λ b u e z=>by rw[z,hn]at e;cases e
 refine I.step (g':=s.gens) (d':=s.drawn) (ch:=[it]) (λ b hb=>?_) (λ b o _ _ hc e _=>k b o (λ z=>hc (by simp[z])) e) (λ b o _ _ hc e _=>⟨o.slots,k b o (λ z=>hc (by simp[z])) e⟩) (λ _ _ _ _ n=>n)
  (λ b o hc e=>⟨o,k b o (λ z=>hc (by simp[z])) e⟩) (λ _ _ e=>e) (λ _ _ _ e=>e) (λ _ _ e=>e) (λ m hm=>?_) (λ b u e=>?_) I.bare
 .have e:b=it:=by simpa using hb
  subst e;exact⟨h1,hL,h2,h3⟩
 .obtain⟨o,es,ep,ho,r⟩:=hm
  exact⟨o,es,ep,k _ o (zDL hL) ho,r⟩
 .refine(I.hok b u e).stay (λ c v hc q=>k c v ?_ q) (λ _ q=>q) λ _ _ q=>q
  rcases hc with z|z
  .rw[z];exact nit b u e
  .exact nit c _ z
def Inv.tok(I:Inv X kX Z H s)(t:Nat):Inv X kX Z H {s with toks:=t}:=I.un (h':=s.heap) (t':=t) Un.refl I.hok
theorem Inv.kept(I:Inv X kX Z H s)(k:∀b u,s.heap.get? b=some u->h'.get? b=some u):Inv X kX Z H {s with heap:=h',toks:=t'}:=I.un (Un.kept k) (I.hok.kept k)
theorem Inv.laid(I:Inv X kX Z H s)(k:∀b u,s.heap.get? b=some u->h'.get? b=some u)(hp:s.heap.objs.size<=a)(new:cZ X.prog X.w (upd H a o) h' a o):
  Inv X kX Z (upd H a o) {s with heap:=h',toks:=t'}:=I.un (Un.laid k hp (I.hok.fresh hp)) (I.hok.laid k hp new)
theorem Inv.write(I:Inv X kX Z H s)(mu:Mut (H x))(he:e=x\/H e=some (.own x))(k:∀b u,b≠e->s.heap.get? b=some u->h'.get? b=some u)(heo:∃u,h'.get? e=some u)
  (new:cZ X.prog X.w (upd H x o) h' x o):Inv X kX Z (upd H x o) {s with heap:=h',toks:=t'}:=I.un (Un.write mu he k heo) (I.hok.write mu he k heo new)
def Inv.weak(I:Inv X kX Z H s)(hl:Z'.length=Z.length)(w:∀(i:Nat) v,Z'[i]? =some (some v)->Z[i]? =some (some v)):Inv X kX Z' H s:=
 ⟨I.ok,I.os,I.bare,I.base,let⟨m,hn,hl'⟩:=I.loc;⟨m,hn,λ i x v e1 e2 e3=>hl' i x v e1 (w i v e2) e3⟩,I.cell,I.free,I.freeC,I.pin,I.hok,hl.trans I.len,I.tab⟩
def Inv.pins_of(I:Inv X kX Z H s)(h:∀p∈pins',s.heap.get? p.1=some p.2/\H p.1=none/\p.1≠X.env.locals/\p.1∉X.fs/\∀v,p.2.data≠.cell v)(h2:∀q∈pins',∀p∈X.ta,q.1≠p.1):Inv X pins' Z H s:=
 ⟨I.ok,I.os,I.bare,I.base,I.loc,I.cell,I.free,I.freeC,λ p hp=>(zAx.mp hp).elim (λ z=>I.pin p (zAr _ z)) (h p),I.hok,I.len,λ p hp=>let⟨a,b,c,d,e⟩:=I.tab p hp;⟨a,b,c,λ q hq=>(zAx.mp hq).elim (λ z=>d q (zAr _ z)) (λ z=>h2 q z p hp),e⟩⟩
def aAP{N:List Str}(hN:N.Nodup){i j:Nat}{x:Str}(a:N[i]? =some x)(b:N[j]? =some x):i=j:=by
 obtain⟨h1,e1⟩:=zAK.mp a;obtain⟨h2,e2⟩:=zAK.mp b;exact(List.getElem_inj hN).mp (e1.trans e2.symm)
def aBZ{M:Model}{A:zA6}{E:Value->zAD->Prop}{i:Nat}{x:Str}{v:V}{u:Value}{Q:Unit->zAD->Prop}(I:Inv X kX Z H s)(hN:X.N.Nodup)(hi:X.N[i]? =some x)(hx:Loc X.env.scope x)(r:RelV v u)
  (h:∀s',Inv X kX (Z.set i (some v)) H s'->(∃a,zDJ a s.heap s'.heap/\(a=X.env.locals\/X.env.cells.lookup x=some a))->Q () s')(hf:X.fn x=true\/X.env.scope.names.lookup x=some .local:=by first|exact .inl rfl|exact .inr rfl|assumption):wpAny M A (storeName X.env x u) Q E s:=by
 obtain⟨m,hn,hl⟩:=id I.loc;have eM:(X.env.scope.kind== .class||(X.env.scope.kind== .module&&X.env.locals !=X.env.globals))=false:=by rw[I.ok.kind];rfl
 have hiZ:i<Z.length:=by rw[I.len];exact(zAK.mp hi).1
 have cne:=I.cne;have bE:∀{a:Addr} {h':Heap},(∃o,s.heap.get? a=some o/\H a=none)->zDJ a s.heap h'->HOk X.prog X.w H h':=λ{a h'} ha hs b ob e=>by
  obtain⟨_,_,hfree⟩:=ha;refine(I.hok b ob e).stay (λ c w' hc q=>(hs.2 c ?_).trans q) (λ _ q=>q) λ _ _ q=>q
  rintro rfl;rcases hc with rfl|hc
  .rw[hfree]at e;cases e
  .rw[hfree]at hc;cases hc
 rcases hx with hk|hk
 .refine wpAny_storeName_local hk hn (λ h' hn' hs=>?_) eM
  obtain⟨oL,_,_,hoL,_⟩:=id hn;refine h _ ⟨I.ok,I.os,I.bare,⟨λ b o e n hb hx=>?_,λ b o e n hb hx=>?_,I.base.free,λ b o e hx=>?_,I.base.tups,I.base.frzs,I.base.tbls⟩,⟨_,hn',λ j y v' e1 e2 e3=>?_⟩,λ y c e=>?_,I.free,I.freeC,λ p hp=>?_,bE ⟨oL,hoL,I.free⟩ hs,by simpa using I.len,λ p hp=>?_⟩ ⟨_,hs,.inl rfl⟩
  .exact(hs.2 b (zA7 (zAX (zAW e) I.ok.above))).trans (I.base.keep b o e n hb hx)
  .obtain⟨sl,e1⟩:=I.base.slot b o e n hb hx
   exact⟨sl,(hs.2 b (zA7 (zAX (zAW e) I.ok.above))).trans e1⟩
  .obtain⟨o',e1⟩:=I.base.there b o e hx
   exact⟨o',(hs.2 b (zA7 (zAX (zAW e) I.ok.above))).trans e1⟩
  .by_cases hj:j=i
   .subst hj
    rw[hi]at e1;cases e1;rw[zBo hiZ]at e2;cases e2;exact⟨u,r,.inl ⟨hk,by simp⟩⟩
   .rw[zBh (zDL hj)]at e2
    obtain⟨u',r',q⟩:=hl j y v' e1 e2 e3;refine⟨u',r',?_⟩;rcases q with ⟨k,e⟩|⟨k,c,e,z⟩
    .refine .inl ⟨k,?_⟩
     have:y≠x:=λ e=>hj (aAP hN e1 (e▸hi))
     simp[this,e]
    .exact .inr ⟨k,c,e,z.sameBut hs (cne y c e)⟩
  .obtain⟨w',z⟩:=I.cell y c e
   exact⟨w',z.sameBut hs (cne y c e)⟩
  .obtain⟨e,n,ne,nf,d⟩:=I.pin p hp
   exact⟨(hs.2 p.1 ne).trans e,n,ne,nf,d⟩
  .obtain⟨n,ne,nf,np,ps,e,t⟩:=I.tab p hp
   exact⟨n,ne,nf,np,ps,(hs.2 p.1 ne).trans e,t⟩
 .have hfn:X.fn x=true:=by
   rcases hf with z|z
   .exact z
   .rw[z]at hk;cases hk
  obtain⟨c,hc⟩:=I.ok.has x (.inl hk);obtain⟨w',z⟩:=I.cell x c hc;refine wpAny_storeName_cell I.ok.kind hk hc z (λ h' hc' hs=>?_);obtain⟨oc,hoc,hocd⟩:=id z;refine h {s with heap:=h'} ⟨I.ok,I.os,I.bare,⟨λ b o e n hb hx=>?_,λ b o e n hb hx=>?_,I.base.free,λ b o e hx=>?_,I.base.tups,I.base.frzs,I.base.tbls⟩,⟨m,hn.sameBut hs (zDL (cne x c hc)),λ j y v' e1 e2 e3=>?_⟩,λ y c' e=>?_,I.free,I.freeC,λ p hp=>?_,bE ⟨oc,hoc,I.freeC x c hc⟩ hs,by simpa using I.len,λ p hp=>?_⟩ ⟨c,hs,.inr hc⟩
  .exact(hs.2 b (zA7 (zAX (zAW e) (I.ok.cab x c hfn hc)))).trans (I.base.keep b o e n hb hx)
  .obtain⟨sl,e1⟩:=I.base.slot b o e n hb hx
   exact⟨sl,(hs.2 b (zA7 (zAX (zAW e) (I.ok.cab x c hfn hc)))).trans e1⟩
  .obtain⟨o',e1⟩:=I.base.there b o e hx
   exact⟨o',(hs.2 b (zA7 (zAX (zAW e) (I.ok.cab x c hfn hc)))).trans e1⟩
  .by_cases hj:j=i
   .subst hj
    rw[hi]at e1;cases e1;rw[zBo hiZ]at e2;cases e2;exact⟨u,r,.inr ⟨.inl hk,c,hc,hc'⟩⟩
   .rw[zBh (zDL hj)]at e2
    obtain⟨u',r',q⟩:=hl j y v' e1 e2 e3;refine⟨u',r',?_⟩;rcases q with q|⟨k,c',e,z'⟩
    .exact .inl q
    .refine .inr ⟨k,c',e,z'.sameBut hs ?_⟩
     rintro rfl;exact hj (aAP hN e1 (I.ok.inj _ _ _ e hc▸hi))
  .by_cases hcc:c'=c
   .subst hcc;exact⟨_,hc'⟩
   .obtain⟨w2,z2⟩:=I.cell y c' e
    exact⟨w2,z2.sameBut hs hcc⟩
  .obtain⟨e,n,ne,nf,d⟩:=I.pin p hp
   refine⟨(hs.2 p.1 ?_).trans e,n,ne,nf,d⟩;intro q;rw[q,hoc]at e;have q':oc=p.2:=zAc e;exact d w' (by rw[<-q'];exact hocd)
  .obtain⟨n,ne,nf,np,ps,e,t⟩:=I.tab p hp
   refine⟨n,ne,nf,np,ps,(hs.2 p.1 ?_).trans e,t⟩;intro q;rw[q,hoc]at e;rw[zAc e]at hocd;cases hocd
def z6(I:Inv X kX Z H s)(hN:X.N.Nodup)(hi:X.N[i]? =some x)(hx:Loc X.env.scope x)(r:RelV v u)
  (h:∀s',Inv X kX (Z.set i (some v)) H s'->Q () s')(hf:X.fn x=true\/X.env.scope.names.lookup x=some .local:=by first|exact .inl rfl|exact .inr rfl|assumption):wpAny M A (storeName X.env x u) Q E s:=
 aBZ I hN hi hx r (λ s' I' _=>h s' I') hf
def Inv.call'(I:Inv X kX Z H s)(ho:s'.os=s.os)(u:Un (frs X.stack) ch H H' s.heap s'.heap)(hok:HOk X.prog X.w H' s'.heap)(hg:zE5 s'.gens)
  (hch:∀b∈ch,(b∈X.ex\/X.z5.heap.objs.size<=b)/\b≠X.env.locals/\(∀x c,X.env.cells.lookup x=some c->c≠b)/\∀p∈X.ta++(X.pn++kX),p.1≠b):Inv X kX Z H' s':=by
 obtain⟨h',g',d',t',o'⟩:=s';have e:o'=s.os:=ho;subst e;exact I.call (g':=g') (t':=t') (d':=d') u hok hg hch
end
abbrev XK:=Value->Option Addr->Hp->Prop
abbrev St:=List (Option V)
abbrev VK:=V->Hp->Prop
abbrev TE:=St->Hp->VK->Prop
abbrev TT:=St->Hp->(Bool->Hp->Prop)->Prop
abbrev TA:=St->Hp->(List V->Hp->Prop)->Prop
structure Ends where
 nx:St->Hp->Prop
 rt:VK
 bk:St->Hp->Prop:=λ _ _=>False
 ct:St->Hp->Prop:=λ _ _=>False
abbrev TS:=Ends->St->Hp->Prop
def EP(X:Cx)(kX:hZ)(Z:St)(Q:VK)(u:Value)(s':zAD):Prop:=∃v H',Inv X kX Z H' s'/\RelV v u/\Q v H'
def TP(X:Cx)(kX:hZ)(Z:St)(Q:Bool->Hp->Prop)(b:Bool)(s':zAD):Prop:=∃H',Inv X kX Z H' s'/\Q b H'
def AP(X:Cx)(kX:hZ)(Z:St)(Q:List V->Hp->Prop)(us:List Value)(s':zAD):Prop:=∃vs H',Inv X kX Z H' s'/\Vals vs us/\Q vs H'
def SP(X:Cx)(kX:hZ)(D:Ends)(f:Flow)(s':zAD):Prop:=
 match f with
 | .next=>∃Z' H',Inv X kX Z' H' s'/\D.nx Z' H'
 | .brk=>∃Z' H',Inv X kX Z' H' s'/\D.bk Z' H'
 | .cont=>∃Z' H',Inv X kX Z' H' s'/\D.ct Z' H'
 | .ret u=>∃v Z' H',Inv X kX Z' H' s'/\RelV v u/\D.rt v H'
def PE(X:Cx)(e:Expr)(t:TE):Prop:=
 ∀(kX:hZ) (s:zAD) (Z:St) (H:Hp) (Q:VK),Inv X kX Z H s->t Z H Q->wpAny (model X.prog X.w) X.A (eval e X.env) (EP X kX Z Q) X.xe s
def PT(X:Cx)(e:Expr)(t:TT):Prop:=
 ∀(kX:hZ) (s:zAD) (Z:St) (H:Hp) (Q:Bool->Hp->Prop),Inv X kX Z H s->t Z H Q->wpAny (model X.prog X.w) X.A (isTrue e X.env (eval e X.env)) (TP X kX Z Q) X.xe s
def PW(X:Cx)(e:Expr)(t:TT):Prop:=
 ∀(whole:Sem Value) (kX:hZ) (s:zAD) (Z:St) (H:Hp) (Q:Bool->Hp->Prop),Inv X kX Z H s->t Z H Q->wpAny (model X.prog X.w) X.A (isTrue e X.env whole) (TP X kX Z Q) X.xe s
def PW.pt(h:PW X e t):PT X e t:=h _
def PA(X:Cx)(es:List Expr)(t:TA):Prop:=
 ∀(pos:Pos) (kX:hZ) (s:zAD) (Z:St) (H:Hp) (Q:List V->Hp->Prop),Inv X kX Z H s->t Z H Q->wpAny (model X.prog X.w) X.A (spliced (zBw pos (zAV es X.env))) (AP X kX Z Q) X.xe s
def PS(X:Cx)(st:Stmt)(t:TS):Prop:=
 ∀(kX:hZ) (s:zAD) (Z:St) (H:Hp) (D:Ends),Inv X kX Z H s->t D Z H->wpAny (model X.prog X.w) X.A (exec st X.env) (SP X kX D) X.xe s
def PSs(X:Cx)(st:List Stmt)(t:TS):Prop:=
 ∀(kX:hZ) (s:zAD) (Z:St) (H:Hp) (D:Ends),Inv X kX Z H s->t D Z H->wpAny (model X.prog X.w) X.A (execs st X.env) (SP X kX D) X.xe s
def thn(h:wpAny M A t Q E s)(hQ:∀a s,Q a s->Q' a s):wpAny M A t Q' E s:=zBP h hQ λ _ _ x=>x
section
variable{X:Cx}
def bin{a b:Expr}{ta tb:TE}(ha:PE X a ta)(hb:PE X b tb){kX:hZ}{s:zAD}{Z:St}{H:Hp}{R:V->V->Hp->Prop}(I:Inv X kX Z H s)(h:ta Z H λ x H1=>tb Z H1 λ y H2=>R x y H2)
  {α:Type}{Q:α->zAD->Prop}{f:Value->Value->Sem α}
  (hf:∀v u s2 x y H2,Inv X kX Z H2 s2->RelV x v->RelV y u->R x y H2->wpAny (model X.prog X.w) X.A (f v u) Q X.xe s2):
  wpAny (model X.prog X.w) X.A (eval a X.env) (λ v zS=>wpAny (model X.prog X.w) X.A (eval b X.env) (λ u z4=>wpAny (model X.prog X.w) X.A (f v u) Q X.xe z4) X.xe zS) X.xe s:=by
 refine thn (ha kX s Z H _ I h) λ v s1 ⟨x,H1,I1,r1,q1⟩=>?_
 refine thn (hb kX s1 Z H1 _ I1 q1) λ u s2 ⟨y,H2,I2,r2,q2⟩=>?_
 exact hf v u s2 x y H2 I2 r1 r2 q2
def pB(i:Nat):TE:=λ Z H Q=>∃v,Z[i]? =some (some v)/\Q v H
def tC(v:V):TE:=λ _ H Q=>Q v H
abbrev _root_.Nd(x:PySem.Str):Prop:=(x==("__debug__":PySem.Str))=false
def ie(hN:X.N[i]? =some x)(hv:Vis X.env.scope x)(hd:Nd x:=by decide)(hcd:(x==("__classdict__":Str))=false:=by decide):PE X (.Name x pos) (pB i):=by
 intro kX s Z H Q I h;obtain⟨v,e,h⟩:=h;obtain⟨m,hn,hl⟩:=I.loc;obtain⟨u,r,l⟩:=hl i x v hN e hv;have fin:EP X kX Z Q u s:=⟨v,H,I,r,h⟩;rcases l with ⟨hk,hm⟩|⟨hk,c,hc,hcell⟩
 .exact zDU (zEn I.ok.kind hk hn hm fin) hd
 .rcases hk with hk|hk
  .exact zDU (zFB I.ok.kind hk hc hcell fin) hd
  .exact zDU (zFC I.ok.kind hk hc hcell fin hcd) hd
def aIx{i j pos}:PE X (.Constant (.int i) j pos) (tC (.int i)):=λ _ _ _ H _ I h=>wpAny_Constant_int ⟨.int i,H,I.tok _,⟨_,rfl⟩,h⟩
def aJD{b j pos}:PE X (.Constant (.bool b) j pos) (tC (.bl b)):=λ _ _ _ H _ I h=>Constant_bool ⟨.bl b,H,I,rfl,h⟩
def aNp{j pos}:PE X (.Constant .none j pos) (tC .non):=λ _ _ _ H _ I h=>Constant_none ⟨.non,H,I,rfl,h⟩
def iD{x j pos}:PE X (.Constant (.str x) j pos) (tC (.str x)):=λ _ _ _ H _ I h=>zGi ⟨.str x,H,I.tok _,⟨_,rfl⟩,h⟩
def Gl(X:Cx)(x:Str):Prop:=X.env.kindOf x=some .globalImplicit
def sJ(I:Inv X kX Z H s)(hg:Gl X x)(hm:X.mg x=some u)(h:Q u s)
  (hd:Nd x:=by decide):wpAny (model X.prog X.w) X.A (eval (.Name x pos) X.env) Q E s:=
 zFR I.ok.kind hg (Calls.loadGlobal_global (by rw[I.ok.glob];exact I.mod.glob.keeps I.bk) hm h) hd
def xG(I:Inv X kX Z H s)(hg:Gl X x)(hm:X.mg x=none)(hv:zBK x=some u)(h:Q u s)
  (hn:x≠"__name__":=by decide)(hd:Nd x:=by decide):wpAny (model X.prog X.w) X.A (eval (.Name x pos) X.env) Q E s:=by
 obtain⟨mb,h1,h2⟩:=I.mod.blt;exact zFR I.ok.kind hg (Calls.loadGlobal_builtin (by rw[I.ok.glob];exact I.mod.glob.keeps I.bk) hm (by rw[I.ok.blt];exact h1.keeps I.bk) ((h2 x hn).trans hv) h) hd
def gC(hg:Gl X x)(hm:X.mg x=some u)(r:RelV v u)(hd:Nd x:=by decide):PE X (.Name x pos) (tC v):=
 λ _ _ _ H _ I h=>sJ I hg hm ⟨v,H,I,r,h⟩ hd
def aGT(hg:Gl X x)(hm:X.mg x=none)(hv:zBK x=some u)(r:RelV v u)(hn:x≠"__name__":=by decide)(hd:Nd x:=by decide):PE X (.Name x pos) (tC v):=
 λ _ _ _ H _ I h=>xG I hg hm hv ⟨v,H,I,r,h⟩ hn hd
def t2I(ta tb:TE)(k:Int->Int->Hp->Prop):St->Hp->Prop:=λ Z H=>ta Z H λ x H1=>tb Z H1 λ y H2=>∃i j,x= .int i/\y= .int j/\k i j H2
variable{a b:Expr}{ta tb:TE}{pos:Pos}
def PC(X:Cx)(op:CmpOp)(a b:Expr)(t:TE):Prop:=
 ∀(kX:hZ) (s:zAD) (Z:St) (H:Hp) (Q:VK),Inv X kX Z H s->t Z H Q->
  wpAny (model X.prog X.w) X.A (eval a X.env) (λ v zS=>wpAny (model X.prog X.w) X.A (eval b X.env) (λ u z4=>wpAny (model X.prog X.w) X.A (zAt op v u) (EP X kX Z Q) X.xe z4) X.xe zS) X.xe s
def aJO(b:Expr)(h:op≠.In)(h2:op≠.NotIn):zBp op b=false:=by
 have e1:(op==CmpOp.In)=false:=by cases op<;>first|rfl|exact absurd rfl h
 have e2:(op==zIZ)=false:=by cases op<;>first|rfl|exact absurd rfl h2
 cases b<;>simp[zBp,e1,e2]
def aPX(p:Int->Int->Bool)(ta tb:TE):TE:=λ Z H Q=>t2I ta tb (λ i j H2=>Q (.bl (p i j)) H2) Z H
abbrev aQU:TE->TE->TE:=aPX λ i j=>!decide (i=j)
def aNu{op:CmpOp}{p:Int->Int->Bool}(ha:PE X a ta)(hb:PE X b tb)
  (rule:∀(i j:Int) (t u:Tok) (Q:Value->zAD->Prop) (s:zAD),Q (.bool (p i j)) s->wpAny (model X.prog X.w) X.A (zAt op (.int i t) (.int j u)) Q X.xe s):PC X op a b (aPX p ta tb):=by
 intro kX s Z H Q I h;refine bin ha hb I h λ v u s2 x y H2 I2 rx ry q=>?_
 obtain⟨i,j,rfl,rfl,q⟩:=q;obtain⟨t,rfl⟩:=rx;obtain⟨t',rfl⟩:=ry;exact rule i j t t' _ s2 ⟨.bl _,H2,I2,rfl,q⟩
def aNt(ha:PE X a ta)(hb:PE X b tb):PC X .NotEq a b (aQU ta tb):=aNu ha hb λ _ _ _ _ _ _ h=>ne_int (by rw[bne,Bool.beq_eq_decide_eq];exact h)
def tB(t:TE):TT:=λ Z H Q=>t Z H λ x H1=>∃c,x= .bl c/\Q c H1
def aNe(h:PC X op a b t)(h1:zBp op b=false:=by first|exact aJO _ (by decide) (by decide)|rfl):PT X (.Compare a [op] [b] pos) (tB t):=by
 intro kX s Z H Q I hw;refine zHr (thn (h kX s Z H _ I hw) λ v s1 h1=>thn h1 λ u s2 h2=>thn h2 λ c s3 ⟨x,H1,I1,r1,q1⟩=>?_) h1;obtain⟨d,rfl,q⟩:=q1;cases r1;exact zBe ⟨H1,I1,q⟩
def aIg(h:PE X e t)(he:∀whole,isTrue e X.env whole=(do let v <-whole;zE9 e.pos;zCE [v] (truthy v)):=by intro _;rfl):PT X e (tB t):=by
 intro kX s Z H Q I hw;refine isTrue_plain (thn (h kX s Z H _ I hw) λ v s1 ⟨x,H1,I1,r1,q1⟩=>?_) (he _);obtain⟨d,rfl,q⟩:=q1;cases r1;exact zBe ⟨H1,I1,q⟩
variable{tA tB':TT}{rest:List Expr}
def aQY(t u:TT):TT:=λ Z H Q=>t Z H λ c H1=>if c=true then u Z H1 Q else Q false H1
def tOr(t u:TT):TT:=λ Z H Q=>t Z H λ c H1=>if c=true then Q true H1 else u Z H1 Q
def aQT(t:TT):TT:=λ Z H Q=>t Z H λ c H1=>Q (!c) H1
def aLH(ha:PT X a tA):PW X (.BoolOp .And [a] pos) tA:=by
 intro wh kX s Z H Q I h;refine isTrue_and (thn (ha kX s Z H Q I h) λ c s1 e=>?_);cases c with
 |true=>exact isTrue_and_nil e
 |false=>exact e
def aIe(ha:PT X a tA):PW X (.BoolOp .Or [a] pos) tA:=by
 intro wh kX s Z H Q I h;refine isTrue_or (thn (ha kX s Z H Q I h) λ c s1 e=>?_);cases c with
 |false=>exact isTrue_or_nil e
 |true=>exact e
def aNb(ha:PT X a tA)(hb:PW X (.BoolOp .And (b::rest) pos) tB'):PW X (.BoolOp .And (a::b::rest) pos) (aQY tA tB'):=by
 intro wh kX s Z H Q I h;refine isTrue_and (thn (ha kX s Z H _ I h) λ c s1 ⟨H1,I1,q1⟩=>?_);cases c with
 |true=>exact hb wh kX s1 Z H1 Q I1 q1
 |false=>exact⟨H1,I1,q1⟩
def aMr(ha:PT X a tA)(hb:PW X (.BoolOp .Or (b::rest) pos) tB'):PW X (.BoolOp .Or (a::b::rest) pos) (tOr tA tB'):=by
 intro wh kX s Z H Q I h;refine isTrue_or (thn (ha kX s Z H _ I h) λ c s1 ⟨H1,I1,q1⟩=>?_);cases c with
 |true=>exact⟨H1,I1,q1⟩
 |false=>exact hb wh kX s1 Z H1 Q I1 q1
def aFI(ha:PT X a tA):PT X (.UnaryOp .Not a pos) (aQT tA):=by
 intro kX s Z H Q I h;exact isTrue_not (ha kX s Z H (λ c H1=>Q (!c) H1) I h)
def aPZ(ta tb:TE):TE:=λ Z H Q=>ta Z H λ x H1=>∃c,x= .bl c/\if c=true then tb Z H1 Q else Q (.bl false) H1
def aQS(ta tb:TE):TE:=λ Z H Q=>ta Z H λ x H1=>∃c,x= .bl c/\if c=true then Q (.bl true) H1 else tb Z H1 Q
def aPS(ta:TE):TE:=λ Z H Q=>ta Z H λ x H1=>∃c,x= .bl c/\Q (.bl (!c)) H1
def aNn{op}(h:PE X a t):PE X (.BoolOp op [a] pos) t:=λ kX s Z H Q I hw=>BoolOp_one (h kX s Z H Q I hw)
def aNs(ha:PE X a ta)(hb:PE X (.BoolOp .And (b::rest) pos) tb):PE X (.BoolOp .And (a::b::rest) pos) (aPZ ta tb):=by
 intro kX s Z H Q I h;refine BoolOp_and (thn (ha kX s Z H _ I h) λ v s1 ⟨x,H1,I1,r1,q1⟩=>?_);obtain⟨c,rfl,q1⟩:=q1;cases r1;refine zBe ?_;cases c with
 |true=>exact hb kX s1 Z H1 Q I1 q1
 |false=>exact⟨.bl false,H1,I1,rfl,q1⟩
def aPh(ha:PE X a ta)(hb:PE X (.BoolOp .Or (b::rest) pos) tb):PE X (.BoolOp .Or (a::b::rest) pos) (aQS ta tb):=by
 intro kX s Z H Q I h;refine BoolOp_or (thn (ha kX s Z H _ I h) λ v s1 ⟨x,H1,I1,r1,q1⟩=>?_);obtain⟨c,rfl,q1⟩:=q1;cases r1;refine zBe ?_;cases c with
 |false=>exact hb kX s1 Z H1 Q I1 q1
 |true=>exact⟨.bl true,H1,I1,rfl,q1⟩
def aNo(ha:PE X a ta):PE X (.UnaryOp .Not a pos) (aPS ta):=by
 intro kX s Z H Q I h;refine UnaryOp_ (thn (ha kX s Z H _ I h) λ v s1 ⟨x,H1,I1,r1,q1⟩=>?_);obtain⟨c,rfl,q1⟩:=q1;cases r1;exact not_of (zBe ⟨.bl (!c),H1,I1,rfl,q1⟩)
def tIf(t:TT)(ta tb:TE):TE:=λ Z H Q=>t Z H λ c H1=>if c=true then ta Z H1 Q else tb Z H1 Q
def aIy(hc:PT X c tA)(ha:PE X a ta)(hb:PE X b tb):PE X (.IfExp c a b pos) (tIf tA ta tb):=by
 intro kX s Z H Q I h;refine wpAny_IfExp (thn (hc kX s Z H _ I h) λ d s1 ⟨H1,I1,q1⟩=>?_);cases d with
 |true=>exact ha kX s1 Z H1 Q I1 q1
 |false=>exact hb kX s1 Z H1 Q I1 q1
end
def SqL(K:zAA)(H:Hp)(a:Addr)(xs:List V):Prop:=
 Rd H a (.lst xs)\/
  ∃(o:Obj) (its:Array Value) (n:Nat),K.lookup a=some o/\o.cls= .type "list"/\o.dict=none/\o.data= .seq its n/\its.size<=zAU/\Vals xs its.toList
def SqT(K:zAA)(H:Hp)(a:Addr)(xs:List V):Prop:=
 Rd H a (.tup xs)\/
  ∃(o:Obj) (its:Array Value) (n:Nat),K.lookup a=some o/\o.cls= .type "tuple"/\o.dict=none/\o.data= .seq its n/\its.size<=zAU/\Vals xs its.toList
def aQ7:Value->Option V
 | .none=>some .non
 | .bool b=>some (.bl b)
 | .int i _=>some (.int i)
 | .str x _=>some (.str x)
 | .bytes b _=>some (.byt b)
 | .float b _=>some (.flt b)
 | .ref a=>some (.ref a)
 | .type n=>some (.ty n)
 |_=>none
def RelV.abs(r:RelV x u):aQ7 u=some x:=by
 cases x with
 |non=>cases r;rfl
 |bl _=>cases r;rfl
 |int _=>obtain⟨t,rfl⟩:=r;rfl
 |str _=>obtain⟨t,rfl⟩:=r;rfl
 |byt _=>obtain⟨t,rfl⟩:=r;rfl
 |flt _=>obtain⟨t,rfl⟩:=r;rfl
 |ref _=>cases r;rfl
 |ty _=>cases r;rfl
def RelV.inj(r:RelV x u)(q:RelV y u):x=y:=zAc (r.abs.symm.trans q.abs)
theorem Vals.inj:∀{xs ys:List V} {us:List Value},Vals xs us->Vals ys us->xs=ys
 |_,_,_,.nil,.nil=>rfl
 |_,_,_,.cons r t,.cons r' t'=>by rw[r.inj r',Vals.inj t t']
section
variable{X:Cx}{kX:hZ}{Z:St}{H:Hp}{s:zAD}{a:Addr}{xs ys:List V}
def SqL.of{K:zAA}(h:H a=some (.lst xs)):SqL K H a xs:=.inl (.inl h)
def SqT.of{K:zAA}(h:H a=some (.tup xs)):SqT K H a xs:=.inl (.inl h)
def Inv.list(I:Inv X kX Z H s)(h:SqL X.K H a xs):∃its:List Value,Vals xs its/\PlainL s.heap a its.toArray/\xs.length<=zAU:=by
 rcases h with h|⟨o,its,n,hk,hc,hd,hs,hz,r⟩
 .obtain⟨z,its,n,r,e⟩:=h.ok I.hok
  exact⟨its,r,⟨_,n,e,rfl,rfl,rfl⟩,z⟩
 .refine⟨its.toList,r,⟨o,n,I.kIn a o hk,hc,hd,by simpa using hs⟩,?_⟩
  have e:=r.length;simp only[zA2]at e;lia
def Inv.tuple(I:Inv X kX Z H s)(h:SqT X.K H a xs):∃its:List Value,Vals xs its/\IsTup s.heap a its.toArray/\xs.length<=zAU:=by
 rcases h with h|⟨o,its,n,hk,hc,hd,hs,hz,r⟩
 .obtain⟨z,its,r,p⟩:=h.ok I.hok
  exact⟨its,r,p,z.1⟩
 .refine⟨its.toList,r,⟨o,I.kIn a o hk,hc,n,by simpa using hs⟩,?_⟩
  have e:=r.length;simp only[zA2]at e;lia
def Inv.list_inj(I:Inv X kX Z H s)(h:SqL X.K H a xs)(h':SqL X.K H a ys):xs=ys:=by
 obtain⟨its,r,⟨o,n,e,_,_,d⟩,_⟩:=I.list h;obtain⟨its',r',⟨o',n',e',_,_,d'⟩,_⟩:=I.list h';rw[e]at e';cases e';rw[d]at d';injection d' with d1 _
 have:its=its':=by simpa using congrArg zIJ d1
 subst this;exact r.inj r'
def Inv.tuple_inj(I:Inv X kX Z H s)(h:SqT X.K H a xs)(h':SqT X.K H a ys):xs=ys:=by
 obtain⟨its,r,⟨o,e,_,n,d⟩,_⟩:=I.tuple h;obtain⟨its',r',⟨o',e',_,n',d'⟩,_⟩:=I.tuple h';rw[e]at e';cases e';rw[d]at d';injection d' with d1 _
 have:its=its':=by simpa using congrArg zIJ d1
 subst this;exact r.inj r'
end
section
variable{X:Cx}{st:Stmt}{rest:List Stmt}{t u:TS}{e:Expr}{te:TE}{pos:Pos}
def aPT:TS:=λ D Z H=>D.nx Z H
def aQR(t u:TS):TS:=λ D Z H=>t {D with nx:=u D} Z H
def aC3:PSs X [] aPT:=λ _ _ Z H _ I h=>zEa ⟨Z,H,I,h⟩
def iI(h1:PS X st t)(h2:PSs X rest u):PSs X (st::rest) (aQR t u):=by
 intro kX s Z H D I h;refine wpAny_execs_cons (thn (h1 kX s Z H {D with nx:=u D} I h) λ f s1 q=>?_);cases f with
 |next=>
  obtain⟨Z',H',I',q⟩:=q;exact h2 kX s1 Z' H' D I' q
 |ret v=>exact q
 |brk=>exact q
 |cont=>exact q
def pQ(h1:PS X st t):PSs X [st] t:=by
 intro kX s Z H D I h;refine wpAny_execs_cons (thn (h1 kX s Z H D I h) λ f s1 q=>?_);cases f with
 |next=>exact zEa q
 |ret v=>exact q
 |brk=>exact q
 |cont=>exact q
def Inv.quiet(I:Inv X kX Z H s):interactive X.env=false:=by simp[interactive,I.ok.kind]
def aBX(te:TE):TS:=λ D Z H=>te Z H λ _ H1=>D.nx Z H1
def vH(he:PE X e te)(hs:zD2 e none pos.line X.env=pure false:=by rfl):PS X (.Expr e pos) (aBX te):=by
 intro kX s Z H D I h;exact wpAny_Expr_any (thn (he kX s Z H _ I h) λ v s1 ⟨x,H1,I1,r1,q1⟩=>⟨Z,H1,I1,q1⟩) I.quiet hs
def aNP(te:TE):TS:=λ D Z H=>te Z H D.rt
def aAE(he:PE X e te):PS X (.Return (some e) pos) (aNP te):=by
 intro kX s Z H D I h;exact wpAny_Return_some (thn (he kX s Z H _ I h) λ v s1 ⟨x,H1,I1,r1,q1⟩=>⟨x,Z,H1,I1,r1,q1⟩)
def aQW(c:TT)(t u:TS):TS:=λ D Z H=>c Z H λ b H1=>if b=true then t D Z H1 else u D Z H1
def aIm(hc:PT X c tc)(ha:PSs X a t)(hb:PSs X b u):PS X (.If c a b pos) (aQW tc t u):=by
 intro kX s Z H D I h;refine wpAny_If (thn (hc kX s Z H _ I h) λ d s1 ⟨H1,I1,q1⟩=>?_);cases d with
 |true=>exact ha kX s1 Z H1 D I1 q1
 |false=>exact hb kX s1 Z H1 D I1 q1
end
abbrev TG:=V->St->Hp->(St->Hp->Prop)->Prop
abbrev TGs:=List V->St->Hp->(St->Hp->Prop)->Prop
def PG(X:Cx)(target:Expr)(t:TG):Prop:=
 ∀(kX:hZ) (s:zAD) (Z:St) (H:Hp) (v:V) (u:Value) (Q:St->Hp->Prop),Inv X kX Z H s->RelV v u->t v Z H Q->
  wpAny (model X.prog X.w) X.A (zD0 target X.env u) (λ _ s'=>∃Z' H',Inv X kX Z' H' s'/\Q Z' H') X.xe s
def PGs(X:Cx)(ts:List Expr)(t:TGs):Prop:=
 ∀(kX:hZ) (s:zAD) (Z:St) (H:Hp) (vs:List V) (us:List Value) (Q:St->Hp->Prop),Inv X kX Z H s->Vals vs us->t vs Z H Q->
  wpAny (model X.prog X.w) X.A (assignInOrder ((zB6 ts X.env).map (·.2)) us) (λ _ s'=>∃Z' H',Inv X kX Z' H' s'/\Q Z' H') X.xe s
abbrev aQJ:=V->V->V->Hp->(Hp->Prop)->Prop
def aQL(X:Cx)(t:aQJ):Prop:=
 ∀(kX:hZ) (s:zAD) (Z:St) (H:Hp) (o i v:V) (ov iv u:Value) (Q:Hp->Prop),Inv X kX Z H s->RelV o ov->RelV i iv->RelV v u->t o i v H Q->
  wpAny (model X.prog X.w) X.A (zIH ov iv u) (λ _ s'=>∃H',Inv X kX Z H' s'/\Q H') X.xe s
section
variable{X:Cx}{pos:Pos}
def tW(i:Nat):TG:=λ v Z H Q=>Q (Z.set i (some v)) H
def aLO(hN:X.N.Nodup)(hi:X.N[i]? =some x)(hx:Loc X.env.scope x)(hf:X.fn x=true\/X.env.scope.names.lookup x=some .local:=by first|exact .inl rfl|exact .inr rfl|assumption):PG X (.Name x pos) (tW i):=by
 intro kX s Z H v u Q I r h;exact zIf (z6 I hN hi hx r (λ s' I'=>⟨_,H,I',h⟩) hf)
def aML:TGs:=λ vs Z H Q=>vs=[]/\Q Z H
def aER(t:TG)(u:TGs):TGs:=λ vs Z H Q=>∃v r,vs=v::r/\t v Z H λ Z' H'=>u r Z' H' Q
def aGR:PGs X [] aML:=by
 intro kX s Z H vs us Q I r h;obtain⟨e,h⟩:=h;subst e;cases r;exact assignInOrder_nil ⟨Z,H,I,h⟩
def aAI(h1:PG X e t)(h2:PGs X es u)
  (hs:(zB6 (e::es) X.env).map (·.2)=zD0 e X.env::(zB6 es X.env).map (·.2):=by rfl):PGs X (e::es) (aER t u):=by
 intro kX s Z H vs us Q I r h;obtain⟨v,vr,e1,h⟩:=h;subst e1;cases r with
 |cons r rr=>
  rw[hs];refine assignInOrder_cons (thn (h1 kX s Z H _ _ _ I r h) λ _ s1 ⟨Z1,H1,I1,q1⟩=>?_);exact h2 kX s1 Z1 H1 _ _ Q I1 rr q1
def aJy(K:zAA)(n:Nat)(t:TGs):TG:=λ v Z H Q=>∃a xs,v= .ref a/\SqT K H a xs/\xs.length=n/\t xs Z H Q
def aIu(hc:X.calm=true)(h:PGs X es t)
  (hn:(zB6 es X.env).length=n:=by rfl)(hst:(zB6 es X.env).findIdx? (·.1)=none:=by rfl):PG X (.Tuple es k pos) (aJy X.K n t):=by
 intro kX s Z H v u Q I r hw;obtain⟨a,xs,e1,hq,hl,hw⟩:=hw;subst e1;cases r;obtain⟨its,rv,ht,hz⟩:=I.tuple hq;refine assign_Tuple_tuple (I.ok.hd hc) ht (by simp[hn,<-hl,rv.length]) hst λ h' hx=>?_
 have I1:Inv X kX Z H {s with heap:=h'}:=I.kept (t':=s.toks) λ b o e=>hx b o (zA7 (zAW e)) e
 exact h kX _ Z H xs _ Q I1 (by simpa using rv) hw
def aJz(to ti:TE)(t:aQJ):TG:=λ v Z H Q=>to Z H λ o H1=>ti Z H1 λ i H2=>t o i v H2 λ H3=>Q Z H3
def aFM(ho:PE X o to)(hi:PE X i ti)(hs:aQL X t)
  (ha:∀v,zD0 (.Subscript o i pos) X.env v=(do
   let ov <-zCE [v] (eval o X.env);let iv <-zCE [v,ov] (eval i X.env)
   zE9 pos
   zCE [v,ov,iv] (zIH ov iv v)
   release [v,ov,iv] []):=by intro _;rfl):PG X (.Subscript o i pos) (aJz to ti t):=by
 intro kX s Z H v u Q I r h;rw[ha];refine zAC (zB5 (thn (ho kX s Z H _ I h) λ ov s1 ⟨x,H1,I1,r1,q1⟩=>?_));refine zAC (zB5 (thn (hi kX s1 Z H1 _ I1 q1) λ iv s2 ⟨y,H2,I2,r2,q2⟩=>?_));refine zAC (zEV (zAC (zB5 (thn (hs kX s2 Z H2 x y v ov iv u _ I2 r1 r2 r q2) λ _ s3 ⟨H3,I3,q3⟩=>?_))));exact wpAny_release ⟨Z,H3,I3,q3⟩
def aCL(te:TE)(g:TG):TS:=λ D Z H=>te Z H λ x H1=>g x Z H1 D.nx
def aIn(he:PE X e te)(hg:PG X tg g)(hs:zHL [tg] e pos.line X.env=pure false:=by rfl)(hw:zHK [tg] e X.env=pure none:=by rfl)
  (h1:(zB6 [tg] X.env).map (·.2)=[zD0 tg X.env]:=by rfl):PS X (.Assign [tg] e pos) (aCL te g):=by
 intro kX s Z H D I h;refine wpAny_Assign_stores (thn (he kX s Z H _ I h) λ v s1 ⟨x,H1,I1,r1,q1⟩=>?_) hs hw;rw[h1];exact thn (hg kX s1 Z H1 x v _ I1 r1 q1) λ _ s2 q=>q
def pR(hN:X.N.Nodup)(hi:X.N[i]? =some x)(hx:Loc X.env.scope x)(he:PE X e te)(hs:zD2 e (some (.Name x pos')) pos.line X.env=pure false:=by rfl)(hf:X.fn x=true\/X.env.scope.names.lookup x=some .local:=by first|exact .inl rfl|exact .inr rfl|assumption):
  PS X (.Assign [.Name x pos'] e pos) (aCL te (tW i)):=by
 intro kX s Z H D I h;refine wpAny_Assign_Name (thn (he kX s Z H _ I h) λ v s1 ⟨y,H1,I1,r1,q1⟩=>?_) hs;exact z6 I1 hN hi hx r1 (λ s2 I2=>⟨_,H1,I2,q1⟩) hf
end
structure It where
 go:Nat->Hp->Prop
 yld:Nat->Hp->V->Hp->Prop
 stop:Nat->Hp->Prop
def wL(X:Cx)(kX:hZ)(H:Hp)(b:Addr):Prop:=
 H b=none/\b≠X.env.locals/\b∉X.fs/\(b∈X.ex\/X.z5.heap.objs.size<=b)/\(∀x c,X.env.cells.lookup x=some c->c≠b)/\∀p∈X.ta++(X.pn++kX),p.1≠b
def Inv.fpOk(I:Inv X kX Z H s)(hb:s.heap.objs.size<=b)(hn:H' b=none):wL X kX H' b:=by
 refine⟨hn,zBz (zAX I.lt hb),I.nofs hb,.inr (zAg I.sz hb),λ x c e z=>?_,λ p hp z=>?_⟩
 .obtain⟨v,q⟩:=I.cell x c e
  exact absurd (zAX q.lt (by rw[z];exact hb)) (zBT _)
 .exact absurd (zAX (I.pinL hp) (by rw[z];exact hb)) (zBT _)
structure Turn(P:zAS)(w:World)(K:zAA)(tg:Expr)(J:It)(fp:List Addr)(it:Addr)(tn:Nat->Heap->Prop):Prop where
 mem:it∈fp
 obj:∀i h,tn i h->∀b∈fp,∃o,h.get? b=some o/\∀v,o.data≠.cell v
 keep:∀i h h',tn i h->(∀b∈fp,∀o,h.get? b=some o->h'.get? b=some o)->tn i h'
 item:∀(X:Cx),X.prog=P->X.w=w->X.K=K->X.calm=true->∀(i:Nat) (kX:hZ) (s:zAD) (Z:St) (H:Hp) (E:Value->zAD->Prop),Inv X kX Z H s->(∀b∈fp,wL X kX H b)->tn i s.heap->J.go i H->
  wpAny (model P w) X.A (zEu (.ref it)) (λ r s1=>∃u,r=some u/\
   wpAny (model P w) X.A (zDH tg (.ref it) u) (λ _ s2=>∃x H',Inv X kX Z H' s2/\RelV x u/\J.yld i H x H'/\tn (i+1) s2.heap/\∀b∈fp,H' b=none) E s1) E s
 done:∀(X:Cx),X.prog=P->X.w=w->X.K=K->X.calm=true->∀(i:Nat) (kX:hZ) (s:zAD) (Z:St) (H:Hp) (E:Value->zAD->Prop),Inv X kX Z H s->(∀b∈fp,wL X kX H b)->tn i s.heap->J.stop i H->
  wpAny (model P w) X.A (zEu (.ref it)) (λ r s1=>r=none/\Inv X kX Z H s1) E s
 self:∀(A:zA6) (i:Nat) (s:zAD) (Q:Value->zAD->Prop) (E:Value->zAD->Prop),tn i s.heap->Q (.ref it) s->wpAny (model P w) A (zGr (.ref it)) Q E s
abbrev TI:=St->Hp->(It->Hp->Prop)->Prop
def PIE(X:Cx)(kX:hZ)(Z:St)(tg:Expr)(R:It->Hp->Prop)(itv:Value)(s2:zAD):Prop:=
 ∃(it:Addr) (fp:List Addr) (tn:Nat->Heap->Prop) (J:It) (H':Hp),itv= .ref it/\Inv X kX Z H' s2/\Turn X.prog X.w X.K tg J fp it tn/\tn 0 s2.heap/\(∀b∈fp,wL X kX H' b)/\R J H'
def PI(X:Cx)(tg iter:Expr)(wi:TI):Prop:=
 ∀(kX:hZ) (s:zAD) (Z:St) (H:Hp) (R:It->Hp->Prop),Inv X kX Z H s->wi Z H R->
  wpAny (model X.prog X.w) X.A (eval iter X.env) (λ v s1=>wpAny (model X.prog X.w) X.A (zGr v) (PIE X kX Z tg R) X.xe s1) X.xe s
def aJv(ho:s.heap.get? it=some o)(hc:o.cls= .type n)(hd:o.data= .fields vs)
    (hn:["enumerate","zip","dict_itemiterator","dict_reverseitemiterator","odict_iterator","itertools.zip_longest","itertools.pairwise"].contains n=false)(hQ:Q () s):wpAny M A (zDH tg (.ref it) u) Q E s:=by
  unfold zDH;cases tg<;>first
    |exact zAL hQ
    | (cases u <;> first
        |exact zAL hQ
        | (refine zAC (wpAny_load ho ?_)
           rw[hc,hd];show wpAny M A (if (["enumerate","zip","dict_itemiterator","dict_reverseitemiterator","odict_iterator","itertools.zip_longest","itertools.pairwise"].contains n&&vs[0]? ==some (zIR _))=true then _ else _) Q E s;rw[if_neg (by intro h;rw[hn,zHy]at h;cases h)];exact zAL hQ))
def Itl(K:zAA)(a:Addr):It:=
 ⟨λ i H=>∃xs x,SqL K H a xs/\xs[i]? =some x,λ i H x H'=>H'=H/\∀xs,SqL K H a xs->xs[i]? =some x,λ i H=>∃xs,SqL K H a xs/\xs.length<=i⟩
def Itt(K:zAA)(a:Addr):It:=
 ⟨λ i H=>∃xs x,SqT K H a xs/\xs[i]? =some x,λ i H x H'=>H'=H/\∀xs,SqT K H a xs->xs[i]? =some x,λ i H=>∃xs,SqT K H a xs/\xs.length<=i⟩
def Itr(lo:Int)(n:Nat):It:=⟨λ i _=>i<n,λ i H x H'=>H'=H/\x= .int (lo+i),λ i _=>n<=i⟩
def aGt{P:zAS}{w:World}{K:zAA}{tg:Expr}(a it:Addr):Turn P w K tg (Itl K a) [it] it (λ i h=>h.IsListIter it a i) where
 mem:=by simp
 obj:=λ i h st b hb=>by
  have e:b=it:=by simpa using hb
  subst e;obtain⟨o,e,c,d⟩:=st;exact⟨o,e,λ v z=>by rw[d]at z;cases z⟩
 keep:=λ i h h' st k=>st.at λ o e=>k it (by simp) o e
 item:=by
  intro X hP hw hK hc i kX s Z H E I hf st hg;subst hP hw hK;obtain⟨xs,x,hq,hx⟩:=hg;obtain⟨its,rv,p,hz⟩:=I.list hq;obtain⟨u,hu,ru⟩:=rv.get hx;obtain⟨f0,f1,f2,f3,f4,f5⟩:=hf it (by simp);refine wpAny_pyNext_list_item st p.isList (x:=u) (by simpa using hu) λ h' st' sb=>?_
  have I1:Inv X kX Z H {s with heap:=h'}:=I.turned (t':=s.toks) (λ b o hb e=>(sb.2 b hb).trans e) f0 f1 f3 f4 f5;obtain⟨o,e,c,d⟩:=id st';exact⟨u,rfl,aJv (s:={s with heap:=h'}) e c d (by decide) ⟨x,H,I1,ru,⟨rfl,λ ys hy=>by rw[I.list_inj hy hq];exact hx⟩,st',λ b hb=>(hf b hb).1⟩⟩
 done:=by
  intro X hP hw hK hc i kX s Z H E I hf st hg;subst hP hw hK;obtain⟨xs,hq,hx⟩:=hg;obtain⟨its,rv,p,hz⟩:=I.list hq;obtain⟨f0,f1,f2,f3,f4,f5⟩:=hf it (by simp);have hl:=rv.length;exact wpAny_pyNext_list_end (I.ok.hd hc) st p.isList (by simp;lia) λ h' eb=>⟨rfl,I.turned (t':=s.toks) (λ b o hb e=>eb b o hb e) f0 f1 f3 f4 f5⟩
 self:=λ _ _ _ _ _ st h=>wpAny_pyIter_listiter st h
def aEh{P:zAS}{w:World}{K:zAA}{tg:Expr}(a it:Addr):Turn P w K tg (Itt K a) [it] it (λ i h=>h.IsTupleIter it a i) where
 mem:=by simp
 obj:=λ i h st b hb=>by
  have e:b=it:=by simpa using hb
  subst e;obtain⟨o,e,c,d⟩:=st;exact⟨o,e,λ v z=>by rw[d]at z;cases z⟩
 keep:=λ i h h' st k=>st.at λ o e=>k it (by simp) o e
 item:=by
  intro X hP hw hK hc i kX s Z H E I hf st hg;subst hP hw hK;obtain⟨xs,x,hq,hx⟩:=hg;obtain⟨its,rv,p,hz⟩:=I.tuple hq;obtain⟨u,hu,ru⟩:=rv.get hx;obtain⟨f0,f1,f2,f3,f4,f5⟩:=hf it (by simp);refine wpAny_pyNext_tuple_item st (show s.heap.IsTuple a its.toArray from p) (x:=u) (by simpa using hu) λ h' st' sb=>?_
  have I1:Inv X kX Z H {s with heap:=h'}:=I.turned (t':=s.toks) (λ b o hb e=>(sb.2 b hb).trans e) f0 f1 f3 f4 f5;obtain⟨o,e,c,d⟩:=id st';exact⟨u,rfl,aJv (s:={s with heap:=h'}) e c d (by decide) ⟨x,H,I1,ru,⟨rfl,λ ys hy=>by rw[I.tuple_inj hy hq];exact hx⟩,st',λ b hb=>(hf b hb).1⟩⟩
 done:=by
  intro X hP hw hK hc i kX s Z H E I hf st hg;subst hP hw hK;obtain⟨xs,hq,hx⟩:=hg;obtain⟨its,rv,p,hz⟩:=I.tuple hq;obtain⟨f0,f1,f2,f3,f4,f5⟩:=hf it (by simp);have hl:=rv.length;exact wpAny_pyNext_tuple_end (I.ok.hd hc) st (show s.heap.IsTuple a its.toArray from p) (by simp;lia) λ h' eb=>⟨rfl,I.turned (t':=s.toks) (λ b o hb e=>eb b o hb e) f0 f1 f3 f4 f5⟩
 self:=λ _ _ _ _ _ st h=>wpAny_pyIter_tupleiter st h
def aEi{P:zAS}{w:World}{K:zAA}{tg:Expr}(it:Addr)(lo:Int)(n:Nat):Turn P w K tg (Itr lo n) [it] it (λ i h=>IsRangeIter h it (lo+(i:Nat)*1) ((n:Int)-(i:Nat)) 1) where
 mem:=by simp
 obj:=λ i h st b hb=>by
  have e:b=it:=by simpa using hb
  subst e;exact⟨_,st,λ v z=>by
   have z':Data.fields _=Data.cell v:=z;cases z'⟩
 keep:=λ i h h' st k=>k it (by simp) _ st
 item:=by
  intro X hP hw hK hc i kX s Z H E I hf st hg;subst hP hw hK;obtain⟨f0,f1,f2,f3,f4,f5⟩:=hf it (by simp);have W:=Walks.range (prog:=X.prog) (w:=X.w) (I.ok.hd hc) it lo 1 n;refine W.item i s _ _ hg st λ v h' tk hv st' kk=>?_
  obtain⟨t,rfl⟩:=hv;have I1:Inv X kX Z H {s with heap:=h',toks:=tk}:=I.turned (λ b o hb e=>kk b o (by simpa using hb) e) f0 f1 f3 f4 f5;refine⟨_,rfl,aJv (s:={s with heap:=h',toks:=tk}) (n:="range_iterator") st' rfl rfl (by decide) ⟨.int (lo+i),H,I1,⟨t,?_⟩,⟨rfl,rfl⟩,st',λ b hb=>(hf b hb).1⟩⟩;rw[Int.mul_one]
 done:=by
  intro X hP hw hK hc i kX s Z H E I hf st hg;subst hP hw hK;obtain⟨f0,f1,f2,f3,f4,f5⟩:=hf it (by simp);exact wpAny_pyNext_range_end (I.ok.hd hc) st (by have:n<=i:=hg;lia) λ h' eb=>⟨rfl,I.turned (t':=s.toks) (λ b o hb e=>eb b o hb e) f0 f1 f3 f4 f5⟩
 self:=λ _ _ _ _ _ st h=>wpAny_pyIter_rangeiter st h
section
variable{X:Cx}{tg:Expr}
def aDg{kX:hZ}{Z:St}{H:Hp}{s:zAD}{R:It->Hp->Prop}{E:Value->zAD->Prop}{lo hi:Int}{t u v:Tok}{tk:Nat}(I:Inv X kX Z H s)(h1: -(2^62)<=lo)(h2:lo<2^62)(h3: -(2^62)<=hi)(h4:hi<2^62)
  (q:R (Itr lo (hi-lo).toNat) H):wpAny (model X.prog X.w) X.A (zGr (.ref s.heap.objs.size)) (PIE X kX Z tg R) E {s with heap:=s.heap.push {cls:=.type "range",data:=.fields #[.int lo t,.int hi u,.int 1 v]},toks:=tk}:=by
 refine wpAny_pyIter_range (IsRange.new ..) (small_one h1 h2 h3 h4) ?_;have I1:Inv X kX Z H {s with heap:=s.heap.push {cls:=.type "range",data:=.fields #[.int lo t,.int hi u,.int 1 v]},toks:=tk}:=I.kept λ b o e=>zAG _ e
 refine⟨(s.heap.push {cls:=.type "range",data:=.fields #[.int lo t,.int hi u,.int 1 v]}).objs.size,[(s.heap.push {cls:=.type "range",data:=.fields #[.int lo t,.int hi u,.int 1 v]}).objs.size],_,_,H,rfl,
  I1.kept (t':=tk) λ b o e=>zAG _ e,aEi _ lo (hi-lo).toNat,?_,λ b hb=>?_,q⟩
 .have e1:lo+((0:Nat):Int)*1=lo:=by simp
  have e2:(((hi-lo).toNat:Nat):Int)-((0:Nat):Int)=zIU lo hi 1:=by rw[rangeSize_one];split<;>lia
  show IsRangeIter _ _ (lo+((0:Nat):Int)*1) ((((hi-lo).toNat:Nat):Int)-((0:Nat):Int)) 1;rw[e1,e2];exact zAZ _ rfl
 .have e:b=(s.heap.push {cls:=.type "range",data:=.fields #[.int lo t,.int hi u,.int 1 v]}).objs.size:=by simpa using hb
  subst e;exact I1.fpOk (zAQ _) (I1.hok.fresh (zAQ _))
def aQD(ta:TA):TI:=λ Z H R=>ta Z H λ vs H1=>∃j:Int,vs=[.int j]/\-(2^62)<=j/\j<2^62/\R (Itr 0 j.toNat) H1
def aQC(ta:TA):TI:=λ Z H R=>ta Z H λ vs H1=>∃i j:Int,vs=[.int i,.int j]/\(-(2^62)<=i/\i<2^62/\-(2^62)<=j/\j<2^62)/\R (Itr i (j-i).toNat) H1
def aHN{a:Expr}{ta:TA}{p pos:Pos}(hg:Gl X "range")(hm:X.mg "range"=none)(ha:PA X [a] ta)(hs:zAV [a] X.env=[(false,eval a X.env)]:=by rfl):PI X tg (.Call (.Name "range" p) [a] [] pos) (aQD ta):=by
 intro kX s Z H R I h;refine Call_ (xG I hg hm boot_range (zCM (thn (ha pos kX s Z H _ I h) λ us s1 ⟨vs,H1,I1,r1,q1⟩=>?_) hs rfl));obtain⟨j,e,q1,q2,q⟩:=q1;subst e;cases r1 with
 |cons r rr=>
  cases rr;obtain⟨t,rfl⟩:=r;exact call_range_1 (aDg I1 (by lia) (by lia) q1 q2 (by simpa using q))
def aHM(hg:Gl X "range")(hm:X.mg "range"=none)(ha:PA X [a,b] ta)(hs:zAV [a,b] X.env=[(false,eval a X.env),(false,eval b X.env)]:=by rfl)(hs2:zAV [b] X.env=[(false,eval b X.env)]:=by rfl):
  PI X tg (.Call (.Name "range" p) [a,b] [] pos) (aQC ta):=by
 intro kX s Z H R I h;refine Call_ (xG I hg hm boot_range (zCM (thn (ha pos kX s Z H _ I h) λ us s1 ⟨vs,H1,I1,r1,q1⟩=>?_) (by rw[hs,hs2]) (by rw[hs2];rfl)));obtain⟨i,j,e,⟨q1,q2,q3,q4⟩,q⟩:=q1;subst e;cases r1 with
 |cons r rr=>
  cases rr with
  |cons r' rr=>
   cases rr;obtain⟨t,rfl⟩:=r;obtain⟨t',rfl⟩:=r';exact call_range_2 (aDg I1 q1 q2 q3 q4 q)
def aQX(wi:TI)(g:TG)(tb:TS):TS:=λ D Z H=>wi Z H λ J H1=>∃W:Nat->Nat->St->Hp->Prop,(∃m,W 0 m Z H1)/\∀i m Z H,W i m Z H->
 (J.stop i H/\D.nx Z H)\/(J.go i H/\∃N:St->Hp->Prop,(∀Z' H',N Z' H'->∃m',m'<m/\W (i+1) m' Z' H')/\∀x H',J.yld i H x H'->g x Z H' λ Z2 H2=>tb {D with nx:=N,ct:=N,bk:=D.nx} Z2 H2)
def w6(fp:List Addr)(h:Heap):hZ:=fp.filterMap λ b=>(h.get? b).map λ o=>(b,o)
def pY(hb:b∈fp)(e:h.get? b=some o):(b,o)∈w6 fp h:=zBZ.mpr ⟨b,hb,by rw[e];rfl⟩
def aB9(hp:p∈w6 fp h):p.1∈fp/\h.get? p.1=some p.2:=by
 obtain⟨b,hb,e⟩:=zBZ.mp hp;cases q:h.get? b with
 |none=>rw[q]at e;cases e
 |some o=>
  rw[q]at e;have e':(b,o)=p:=zAc e;subst e';exact⟨hb,q⟩
def Inv.pinned(I:Inv X kX Z H s)(hf:∀b∈fp,wL X kX H b)(ho:∀b∈fp,∃o,s.heap.get? b=some o/\∀v,o.data≠.cell v):Inv X (kX++w6 fp s.heap) Z H s:=
 I.pins_of (λ p hp=>(zAx.mp hp).elim (λ z=>I.pin p (zAb _ z)) λ z=>by
  obtain⟨hb,e⟩:=aB9 z;obtain⟨f0,f1,f2,_⟩:=hf p.1 hb;obtain⟨o,e',d⟩:=ho p.1 hb;rw[e]at e';cases e';exact⟨e,f0,f1,f2,d⟩) λ q hq p hp=>(zAx.mp hq).elim (λ z=>(I.tab p hp).2.2.2.1 q (zAb _ z)) λ z=>((hf q.1 (aB9 z).1).2.2.2.2.2 p (zAr _ hp)).symm
def Inv.unpinned(I:Inv X (kX++pl) Z H s):Inv X kX Z H s:=I.pins_of (λ p hp=>I.pin p (zAb _ (zAr _ hp))) λ q hq p hp=>(I.tab p hp).2.2.2.1 q (zAb _ (zAr _ hq))
def aNf(hp:PassesOwn (model X.prog X.w) X.A X.env X.xe)(hc:X.calm=true)(hi:PI X tg iter wi)(hg:PG X tg g)(hb:PSs X body tb)
  (hs:∀x,zBs iter X.env x=pure x:=by intro _;rfl):PS X (.For tg iter body [] pos) (aQX wi g tb):=by
 intro kX s Z H D I h;refine wpAny_For (thn (hi kX s Z H _ I h) λ v s1 h1=>thn h1 λ itv s2 h2=>?_) hs;obtain⟨it,fp,tn,J,H2,e,I2,T,st2,f2,W,⟨m0,w0⟩,turn⟩:=h2;subst e;have aI:∀{H':Hp},(∀b∈fp,H' b=none)->∀b∈fp,wL X kX H' b:=λ hn b hb=>⟨hn b hb,(f2 b hb).2⟩
 refine codeAny_forLoop_any (λ n s'=>∃i Z' H',Inv X kX Z' H' s'/\tn i s'.heap/\(∀b∈fp,H' b=none)/\W i n Z' H') ?_ m0 ⟨0,Z,H2,I2,st2,λ b hb=>(f2 b hb).1,w0⟩;rintro n s3 ⟨i,Z3,H3,I3,st3,fr3,w3⟩;rcases turn i n Z3 H3 w3 with ⟨stop,qn⟩|⟨go,N,hN,step⟩
 .refine zDn hp (thn (T.done X rfl rfl rfl hc i kX s3 Z3 H3 X.xe I3 (aI fr3) st3 stop) λ r s4 ⟨hr,I4⟩=>?_)
  subst hr;exact zEa ⟨Z3,H3,I4,qn⟩
 .refine zDn hp (thn (T.item X rfl rfl rfl hc i kX s3 Z3 H3 X.xe I3 (aI fr3) st3 go) λ r s4 ⟨u,hr,h4⟩=>?_)
  subst hr;refine zDn hp (thn h4 λ _ s5 ⟨x,H5,I5,r5,y5,st5,fr5⟩=>?_);have I5':=I5.pinned (aI fr5) (T.obj _ _ st5);refine zDn hp (thn (hg _ s5 Z3 H5 x u _ I5' r5 (step x H5 y5)) λ _ s6 ⟨Z6,H6,I6,q6⟩=>?_);refine zDn hp (thn (hb _ s6 Z6 H6 _ I6 q6) λ f s7 q7=>?_);have again:∀{Z7:St} {H7:Hp},Inv X (kX++w6 fp s5.heap) Z7 H7 s7->N Z7 H7->∃m,m<n/\∃i Z' H',Inv X kX Z' H' s7/\tn i s7.heap/\(∀b∈fp,H' b=none)/\W i m Z' H':=λ{Z7 H7} I7 n7=>by
   obtain⟨m',hm,w7⟩:=hN Z7 H7 n7;refine⟨m',hm,i+1,Z7,H7,I7.unpinned,T.keep _ _ _ st5 λ b hb o e=>(I7.pin (b,o) (zAb _ (zAb _ (pY hb e)))).1,λ b hb=>?_,w7⟩;obtain⟨o,e,d⟩:=T.obj _ _ st5 b hb;exact(I7.pin (b,o) (zAb _ (zAb _ (pY hb e)))).2.1
  cases f with
  |next=>obtain⟨Z7,H7,I7,n7⟩:=q7;exact again I7 n7
  |cont=>obtain⟨Z7,H7,I7,n7⟩:=q7;exact again I7 n7
  |brk=>obtain⟨Z7,H7,I7,q7⟩:=q7;exact⟨Z7,H7,I7.unpinned,q7⟩
  |ret v=>obtain⟨x7,Z7,H7,I7,r7,q7⟩:=q7;exact⟨x7,Z7,H7,I7.unpinned,r7,q7⟩
end
abbrev R2:=V->V->Hp->VK->Prop
def OpR(X:Cx)(f:Value->Value->Sem Value)(r:R2):Prop:=
 ∀(kX:hZ) (s:zAD) (Z:St) (H:Hp) (x y:V) (v u:Value) (Q:VK),Inv X kX Z H s->RelV x v->RelV y u->r x y H Q->
  wpAny (model X.prog X.w) X.A (f v u) (EP X kX Z Q) X.xe s
def UnR(X:Cx)(f:Value->Sem Value)(r:V->Hp->VK->Prop):Prop:=
 ∀(kX:hZ) (s:zAD) (Z:St) (H:Hp) (x:V) (v:Value) (Q:VK),Inv X kX Z H s->RelV x v->r x H Q->
  wpAny (model X.prog X.w) X.A (f v) (EP X kX Z Q) X.xe s
def lH(X:Cx)(f:Value)(r:List V->Hp->VK->Prop):Prop:=
 ∀(kX:hZ) (s:zAD) (Z:St) (H:Hp) (xs:List V) (us:List Value) (Q:VK),Inv X kX Z H s->Vals xs us->r xs H Q->
  wpAny (model X.prog X.w) X.A (call f us) (EP X kX Z Q) X.xe s
def aQ8(X:Cx)(r:V->Hp->(Bool->Hp->Prop)->Prop):Prop:=
 ∀(kX:hZ) (s:zAD) (Z:St) (H:Hp) (x:V) (v:Value) (Q:Bool->Hp->Prop),Inv X kX Z H s->RelV x v->r x H Q->
  wpAny (model X.prog X.w) X.A (truthy v) (TP X kX Z Q) X.xe s
def tOp(r:R2)(ta tb:TE):TE:=λ Z H Q=>ta Z H λ x H1=>tb Z H1 λ y H2=>r x y H2 Q
def tUn(r:V->Hp->VK->Prop)(ta:TE):TE:=λ Z H Q=>ta Z H λ x H1=>r x H1 Q
def rI(C:Int->Int->Prop)(g:Int->Int->V):R2:=λ x y H Q=>∃i j,x= .int i/\y= .int j/\C i j/\Q (g i j) H
def rI0(g:Int->Int->V):R2:=λ x y H Q=>∃i j,x= .int i/\y= .int j/\Q (g i j) H
def rU(g:Int->V):V->Hp->VK->Prop:=λ x H Q=>∃i,x= .int i/\Q (g i) H
section
variable{X:Cx}{a b:Expr}{ta tb:TE}{pos:Pos}
def aOq(ha:PE X a ta)(hb:PE X b tb){kX:hZ}{s:zAD}{Z:St}{H:Hp}{R:V->V->Hp->Prop}(I:Inv X kX Z H s)
  (h:ta Z H λ x H1=>tb Z H1 λ y H2=>R x y H2){Q:Value->zAD->Prop}{f:Value->Value->Sem Value}
  (hf:∀v u s2 x y H2,Inv X kX Z H2 s2->RelV x v->RelV y u->R x y H2->wpAny (model X.prog X.w) X.A (f v u) Q X.xe s2):
  wpAny (model X.prog X.w) X.A (eval a X.env) (λ v zS=>wpAny (model X.prog X.w) X.A (eval b X.env) (λ u z4=>wpAny (model X.prog X.w) X.A (f v u) Q X.xe z4) X.xe zS) X.xe s:=by
 refine thn (ha kX s Z H _ I h) λ v s1 ⟨x,H1,I1,r1,q1⟩=>?_
 refine thn (hb kX s1 Z H1 _ I1 q1) λ u s2 ⟨y,H2,I2,r2,q2⟩=>?_
 exact hf v u s2 x y H2 I2 r1 r2 q2
def aMt{op:Operator}{r:R2}(ho:OpR X (zCG op) r)(ha:PE X a ta)(hb:PE X b tb):PE X (.BinOp a op b pos) (tOp r ta tb):=by
 intro kX s Z H Q I h;exact wpAny_BinOp (aOq ha hb I h λ v u s2 x y H2 I2 rx ry q=>ho kX s2 Z H2 x y v u Q I2 rx ry q)
def aPg(ho:UnR X (unaryOp op) r)(ha:PE X a ta):PE X (.UnaryOp op a pos) (tUn r ta):=by
 intro kX s Z H Q I h;exact UnaryOp_ (thn (ha kX s Z H _ I h) λ v s1 ⟨x,H1,I1,r1,q1⟩=>ho kX s1 Z H1 x v Q I1 r1 q1)
def opI{f:Value->Value->Sem Value}{C:Int->Int->Prop}{g:Int->Int->Int}
  (rule:∀(i j:Int) (t u:Tok) (s:zAD) (Q:Value->zAD->Prop) (E:Value->zAD->Prop),C i j->Q (.int (g i j) s.toks) {s with toks:=s.toks+1}->wpAny (model X.prog X.w) X.A (f (.int i t) (.int j u)) Q E s):
  OpR X f (rI C λ i j=>.int (g i j)):=by
 intro kX s Z H x y v u Q I rx ry h;obtain⟨i,j,rfl,rfl,hc,q⟩:=h;obtain⟨t,rfl⟩:=rx;obtain⟨t',rfl⟩:=ry;exact rule i j t t' s _ _ hc ⟨.int (g i j),H,I.tok _,⟨_,rfl⟩,q⟩
def aPr{f:Value->Value->Sem Value}{g:Int->Int->Int}
  (rule:∀(i j:Int) (t u:Tok) (s:zAD) (Q:Value->zAD->Prop) (E:Value->zAD->Prop),Q (.int (g i j) s.toks) {s with toks:=s.toks+1}->wpAny (model X.prog X.w) X.A (f (.int i t) (.int j u)) Q E s):
  OpR X f (rI0 λ i j=>.int (g i j)):=by
 intro kX s Z H x y v u Q I rx ry h;obtain⟨i,j,rfl,rfl,q⟩:=h;obtain⟨t,rfl⟩:=rx;obtain⟨t',rfl⟩:=ry;exact rule i j t t' s _ _ ⟨.int (g i j),H,I.tok _,⟨_,rfl⟩,q⟩
def aL4{f:Value->Value->Sem Value}{g:Int->Int->Bool}
  (rule:∀(i j:Int) (t u:Tok) (s:zAD) (Q:Value->zAD->Prop) (E:Value->zAD->Prop),Q (.bool (g i j)) s->wpAny (model X.prog X.w) X.A (f (.int i t) (.int j u)) Q E s):
  OpR X f (rI0 λ i j=>.bl (g i j)):=by
 intro kX s Z H x y v u Q I rx ry h;obtain⟨i,j,rfl,rfl,q⟩:=h;obtain⟨t,rfl⟩:=rx;obtain⟨t',rfl⟩:=ry;exact rule i j t t' s _ _ ⟨.bl (g i j),H,I,rfl,q⟩
def aQN(i j:Int):Prop:=0<j/\j<1073741824
def aQe(i j:Int):Prop:=0<=j/\j<=1000000/\i.natAbs<2^64
def aMd(i j:Int):Prop:=(-(2^64)<i/\i<2^64)\/(-(2^64)<j/\j<2^64)
def aMd.ok(h:aMd i j):IntMulOk i j:=by
 rcases h with ⟨h1,h2⟩|⟨h1,h2⟩
 .exact .of_left (intBits_le_64 h1 h2)
 .exact .of_right (intBits_le_64 h1 h2)
def aOO:OpR X (zCG .Add) (rI0 λ i j=>.int (i+j)):=aPr λ _ _ _ _ _ _ _ q=>add_int q
def aNz:OpR X (zCG .Sub) (rI0 λ i j=>.int (i-j)):=aPr λ _ _ _ _ _ _ _ q=>sub_int q
def aOD:OpR X (zCG .Mult) (rI aMd λ i j=>.int (i*j)):=opI λ _ _ _ _ _ _ _ hc q=>mul_int q hc.ok
def aL0:OpR X (zCG .FloorDiv) (rI aQN λ i j=>.int (i / j)):=opI λ i j _ _ _ _ _ hc q=>by
 have h1:(0:Int)<j:=hc.1;have h2:j<1073741824:=hc.2;exact floordiv_int (by lia) (by rw[Int.fdiv_eq_ediv_of_nonneg i (by lia)];exact q) (.inl (PyProof.noPylong_small (by lia)))
def aOE:OpR X (zCG .Mod) (rI (λ _ j=>0<j) λ i j=>.int (i%j)):=opI λ i j _ _ _ _ _ hc q=>by
 have h1:(0:Int)<j:=hc;exact mod_int' (by lia) (by rw[Int.fmod_eq_emod_of_nonneg i (by lia)];exact q)
def aOB:OpR X (zCG .Pow) (rI aQe λ i j=>.int (i^j.toNat)):=opI λ _ _ _ _ _ _ _ hc q=>pow_int_small hc.1 hc.2.1 hc.2.2 q
def unI{f:Value->Sem Value}{g:Int->Int}
  (rule:∀(i:Int) (t:Tok) (s:zAD) (Q:Value->zAD->Prop) (E:Value->zAD->Prop),Q (.int (g i) s.toks) {s with toks:=s.toks+1}->wpAny (model X.prog X.w) X.A (f (.int i t)) Q E s):
  UnR X f (rU λ i=>.int (g i)):=by
 intro kX s Z H x v Q I rx h;obtain⟨i,rfl,q⟩:=h;obtain⟨t,rfl⟩:=rx;exact rule i t s _ _ ⟨.int (g i),H,I.tok _,⟨_,rfl⟩,q⟩
def aNH:UnR X (unaryOp .USub) (rU λ i=>.int (-i)):=unI λ _ _ _ _ _ q=>neg_int q
end
section
variable{X:Cx}{a b c:Expr}{ta tb tc:TE}{pos:Pos}
def aKD(I:Inv X kX Z H s)(q:Q (.bl k) H)(e:k=k'):EP X kX Z Q (.bool k') s:=by
 subst e;exact⟨.bl k,H,I,rfl,q⟩
def aPn:OpR X (zAt .Lt) (rI0 λ i j=>.bl (decide (i<j))):=aL4 λ _ _ _ _ _ _ _ q=>lt_int q
def aPo:OpR X (zAt .LtE) (rI0 λ i j=>.bl (decide (i<=j))):=aL4 λ _ _ _ _ _ _ _ q=>le_int q
def aPp:OpR X (zAt .Gt) (rI0 λ i j=>.bl (decide (j<i))):=aL4 λ _ _ _ _ _ _ _ q=>gt_int q
def aPq:OpR X (zAt .GtE) (rI0 λ i j=>.bl (decide (j<=i))):=aL4 λ _ _ _ _ _ _ _ q=>ge_int q
def aOK:OpR X (zAt .Is) (λ x y H Q=>y= .non/\Q (.bl (decide (x= .non))) H):=by
 intro kX s Z H x y v u Q I rx ry h;obtain⟨rfl,q⟩:=h;cases ry;refine is_none_gen (aKD I q ?_);cases x<;>first
  |(cases rx;rfl)
  |(obtain⟨t,rfl⟩:=rx;rfl)
def isObj:HO->Bool
 | .lst _=>true
 | .ins _ _ _=>true
 |_=>false
def aJN(b:Expr)(h:op≠.In:=by decide)(h2:op≠.NotIn:=by decide):zBp op b=false:=by
 have e1:(op==CmpOp.In)=false:=by cases op<;>first|rfl|exact absurd rfl h
 have e2:(op==zIZ)=false:=by cases op<;>first|rfl|exact absurd rfl h2
 cases b<;>simp[zBp,e1,e2]
def aLS{op:CmpOp}{r:R2}(ho:OpR X (zAt op) r)(ha:PE X a ta)(hb:PE X b tb)(hm:zBp op b=false):PE X (.Compare a [op] [b] pos) (tOp r ta tb):=by
 intro kX s Z H Q I h;exact wpAny_Compare1 (aOq ha hb I h λ v u s2 x y H2 I2 rx ry q=>ho kX s2 Z H2 x y v u Q I2 rx ry q) hm
def aMh(t:TE):TT:=λ Z H Q=>t Z H λ x H'=>∃k,x= .bl k/\Q k H'
def aLJ(ho:OpR X (zAt op) r)(ha:PE X a ta)(hb:PE X b tb)(hm:zBp op b=false):PT X (.Compare a [op] [b] pos) (aMh (tOp r ta tb)):=by
 intro kX s Z H Q I h;refine zHr (thn (ha kX s Z H _ I h) λ v s1 ⟨x,H1,I1,r1,q1⟩=>thn (hb kX s1 Z H1 _ I1 q1) λ u s2 ⟨y,H2,I2,r2,q2⟩=>
  thn (ho kX s2 Z H2 x y v u _ I2 r1 r2 q2) λ c s3 ⟨z,H3,I3,r3,k,e,q3⟩=>?_) hm
 subst e;cases r3;exact zBe ⟨H3,I3,q3⟩
def aIG(r r':R2)(ta tb tc:TE):TE:=λ Z H Q=>ta Z H λ x H1=>tb Z H1 λ y H2=>r x y H2 λ z H3=>∃k,z= .bl k/\
 (if k=true then tc Z H3 λ w' H4=>r' y w' H4 Q else Q (.bl false) H3)
def aJB(ho:OpR X (zAt op) r)(ho':OpR X (zAt op') r')(ha:PE X a ta)(hb:PE X b tb)(hc:PE X c tc)
  (hm:zHm [op,op'] [b,c]=false:=by with_unfolding_all rfl):PE X (.Compare a [op,op'] [b,c] pos) (aIG r r' ta tb tc):=by
 intro kX s Z H Q I h;refine Compare_chain (thn (ha kX s Z H _ I h) λ v s1 ⟨x,H1,I1,r1,q1⟩=>chain_link (thn (hb kX s1 Z H1 _ I1 q1) λ u s2 ⟨y,H2,I2,r2,q2⟩=>
  thn (ho kX s2 Z H2 x y v u _ I2 r1 r2 q2) λ d s3 ⟨z,H3,I3,r3,k,e,q3⟩=>?_)) hm
 subst e;cases r3;refine zBe ?_;cases k with
 |false=>exact ite_ff ⟨.bl false,H3,I3,rfl,q3⟩
 |true=>exact ite_tt (chain_last (thn (hc kX s3 Z H3 _ I3 q3) λ w' s4 ⟨z',H4,I4,r4,q4⟩=>ho' kX s4 Z H4 y z' u w' Q I4 r2 r4 q4))
def aOy(K:zAA)(x:V)(H:Hp)(k:Bool):Prop:=
 match x with
 | .non=>k=false
 | .bl b=>k=b
 | .int i=>k=(i !=0)
 | .str y=>y.length<=zAU/\k=((y.length:Int)!=0)
 | .byt y=>y.size<=zAU/\k=((y.size:Int)!=0)
 | .ref p=>(∃xs,SqL K H p xs/\k= !xs.isEmpty)\/(∃xs,SqT K H p xs/\k= !xs.isEmpty)\/∃kvs,H p=some (.dK kvs)/\k= !kvs.isEmpty
 |_=>False
def aFd(r:KV kvs vs):(!vs.isEmpty)= !kvs.isEmpty:=by
 cases r<;>rfl
def aA3(r:Vals xs its):(!its.toArray.isEmpty)= !xs.isEmpty:=by
 cases r<;>simp
def u9:(zAU:Nat)<2^63:=by rw[zCe];decide
def aNL:aQ8 X (λ x H Q=>∃k,aOy X.K x H k/\Q k H):=by
 intro kX s Z H x v Q I rx h;obtain⟨k,e,q⟩:=h;have hl:=u9;have hs:zAU=16777216:=zCe;cases x with
 |non=>
  cases rx;have e':k=false:=e;subst e';exact truthy_none ⟨H,I,q⟩
 |bl b=>
  cases rx;have e':k=b:=e;subst e';exact zBe ⟨H,I,q⟩
 |int i=>
  obtain⟨t,rfl⟩:=rx;have e':k=(i !=0):=e;subst e';exact PySem.P.truthy_int ⟨H,I,q⟩
 |str y=>
  obtain⟨t,rfl⟩:=rx;obtain⟨hy,e'⟩:y.length<=zAU/\k=((y.length:Int)!=0):=e;subst e';exact PySem.P.truthy_str (by lia) ⟨H,I.tok _,q⟩
 |byt y=>
  obtain⟨t,rfl⟩:=rx;obtain⟨hy,e'⟩:y.size<=zAU/\k=((y.size:Int)!=0):=e;subst e';exact PySem.W.truthy_bytes (by lia) ⟨H,I.tok _,q⟩
 |ref p=>
  cases rx;have e':(∃xs,SqL X.K H p xs/\k= !xs.isEmpty)\/(∃xs,SqT X.K H p xs/\k= !xs.isEmpty)\/∃kvs,H p=some (.dK kvs)/\k= !kvs.isEmpty:=e
  rcases e' with ⟨xs,hx,e'⟩|⟨xs,hx,e'⟩|⟨kvs,hx,e'⟩
  .subst e'
   obtain⟨its,r,pl,hz⟩:=I.list hx;have kK:=r.length;exact wpAny_truthy_list pl.isList (by simp only[zAP];lia) ⟨H,I.tok _,by rw[aA3 r];exact q⟩
  .subst e'
   obtain⟨its,r,pl,hz⟩:=I.tuple hx;have kK:=r.length;exact truthy_tuple pl (by simp only[zAP];lia) ⟨H,I.tok _,by rw[aA3 r];exact q⟩
  .subst e'
   obtain⟨hz,hS,vs,r,m⟩:kvs.length<=zAU/\(p==zCZ)=false/\∃vs,KV kvs vs/\s.heap.DictOf (fJ X.prog X.w) p vs:=I.hok p _ hx
   have kK:kvs.length=vs.length:=zFf r;exact wpAny_truthy_dict hS m (by lia) ⟨H,I.tok _,by rw[aFd r];exact q⟩
 |_=>exact(show False from e).elim
def aIh(ha:PE X a ta)(he:∀whole,isTrue a X.env whole=(do let v <-whole;zE9 a.pos;zCE [v] (truthy v))):
  PT X a (λ Z H Q=>ta Z H λ x H'=>∃k,aOy X.K x H' k/\Q k H'):=by
 intro kX s Z H Q I h;exact isTrue_plain (thn (ha kX s Z H _ I h) λ v s1 ⟨x,H1,I1,r1,q1⟩=>aNL kX s1 Z H1 x v Q I1 r1 q1) (he _)
def vals1(r:Vals [x] us):∃u,us=[u]/\RelV x u:=by
 cases r with
 |cons r1 r2=>cases r2;exact⟨_,rfl,r1⟩
def vals2(r:Vals [x,y] us):∃u w',us=[u,w']/\RelV x u/\RelV y w':=by
 cases r with
 |cons r1 r2=>
  cases r2 with
  |cons r3 r4=>cases r4;exact⟨_,_,rfl,r1,r3⟩
def aHm(hc:X.calm=true):lH X (.builtin "max") (λ xs H Q=>∃i j,xs=[.int i,.int j]/\Q (.int (if j>i then j else i)) H):=by
 intro kX s Z H xs us Q I r h;obtain⟨i,j,rfl,q⟩:=h;obtain⟨u,w',rfl,⟨t,rfl⟩,⟨t',rfl⟩⟩:=vals2 r;refine max_two_ints (I.ok.hd hc) λ h' tk k=>⟨_,H,I.kept k,?_,q⟩
 by_cases hj:j>i
 .rw[if_pos hj,if_pos hj];exact⟨_,rfl⟩
 .rw[if_neg hj,if_neg hj];exact⟨_,rfl⟩
def aHl(hc:X.calm=true):lH X (.builtin "min") (λ xs H Q=>∃i j,xs=[.int i,.int j]/\Q (.int (if j<i then j else i)) H):=by
 intro kX s Z H xs us Q I r h;obtain⟨i,j,rfl,q⟩:=h;obtain⟨u,w',rfl,⟨t,rfl⟩,⟨t',rfl⟩⟩:=vals2 r;refine min_two_ints (I.ok.hd hc) λ h' tk k=>⟨_,H,I.kept k,?_,q⟩
 by_cases hj:j<i
 .rw[if_pos hj,if_pos hj];exact⟨_,rfl⟩
 .rw[if_neg hj,if_neg hj];exact⟨_,rfl⟩
def aCy:lH X (.type "str") (λ xs H Q=>∃i,xs=[.int i]/\i.natAbs.log2<1920/\Q (.str (zEA i)) H):=by
 intro kX s Z H xs us Q I r h;obtain⟨i,rfl,hz,q⟩:=h;obtain⟨u,rfl,t,rfl⟩:=vals1 r;exact PySem.P.str_of_int hz ⟨.str _,H,I.tok _,⟨_,rfl⟩,q⟩
end
structure aM8(h:Heap)(x dx C:Addr)(mA:Str->Option Value):Prop where
 obj:h.get? x=some (zCD C dx)
 ns:h.Ns1 dx mA
 ne:dx≠x
def aHZ{h:Heap}{dx:Addr}{mA:Str->Option Value}(n:h.Ns1 dx mA):∃od,h.get? dx=some od/\∀name,zEN name od=some (mA name):=by
 obtain⟨o,es,ep,ho,hd,hk,_,hm⟩:=n;refine⟨o,ho,λ name=>?_⟩;have e:=hm name;unfold nsFind findBy at e;rw[<-Array.find?_toList]at e;unfold zEN;rw[hd];dsimp only;split
 .rename_i y q
  rw[q]at e;exact congrArg some e
 .rename_i q
  rw[q]at e;have a:es.toList.any (·.refKey)=false:=by
   rw[zDp];intro y hy;obtain⟨z,t,hkey⟩:=hk y (Array.mem_toList_iff.mp hy);simp[DictEntry.refKey,hkey]
  have a':¬es.toList.any (·.refKey)=true:=by rw[a];exact zAM
  rw[if_neg a'];exact congrArg some e
def aM8.look(I:aM8 h x dx C mA):∃od,zHV h x (zCD C dx) C (some od)/\∀name,zEN name od=some (mA name):=
 let⟨od,ho,hl⟩:=aHZ I.ns
 ⟨od,⟨I.obj,rfl,rfl,ho⟩,hl⟩
section
variable{prog:zAS}{w:World}{A:zA6}{E:Value->zAD->Prop}{s:zAD}{K:zAA}{x dx C f:Addr}{mA:Str->Option Value}{name:Str}
def aJx(X:K.In s.heap)(I:aM8 s.heap x dx C mA)(hg:zEl K C name=true)
  (hf:zBJ K (.ref C) name=some (some (.ref f)))(ht:zHw K (.ref f)=true)(hv:mA name=none)(h:Q (.ref f,[.ref x]) s):
  wpAny (model prog w) A (getMethod (.ref x) name pl) Q E s:=by
 obtain⟨od,J,hl⟩:=I.look;exact PySem.W.method_fn X J (zGN hg).1 (zGN hg).2 hf (beq_iff_eq.mp ht) (by show(zEN name od).map (·.isSome)=some false;rw[hl,hv];rfl) h
def make_map(X:K.In s.heap)(hm:PySem.W.makesIn K C=true)
  (hi:zBJ K (.ref C) "__init__"=some (some (.ref f)))(hf:PySem.W.typeIn K (.ref f)=some (.type "function"))
  (h:zCJ (model prog w) (A.under (.builtin "type.__call__" ⟨.ref C::vs,kw⟩)) (.call (.ref f) ⟨.ref (s.heap.objs.size+1)::vs,kw⟩) (PySem.W.InitBack (s.heap.objs.size+1) R)
   {s with heap:=(s.heap.push zB4).push (zCD C s.heap.objs.size)}):
  zCJ (model prog w) A (.call (.ref C) ⟨vs,kw⟩) R s:=by
 obtain⟨hh,g,d,t,os⟩:=s;exact PySem.W.make_core (PySem.W.makes_of X hm) (zDM X hi) (λ self=>PySem.W.bind_fn X self hf) (.inl rfl) h
end
def aDI.none_of(r:aDI none o):o=none:=by
 cases o with
 |none=>rfl
 |some u=>exact(show False from r).elim
section
variable{P:zAS}{w:World}{H:Hp}{h:Heap}{a C dx:Addr}{fs:List (Str×V)}
def zM(hok:HOk P w H h)(e:H a=some (.ins C dx fs)):∃mA,aM8 h a dx C mA/\(∀f,aDI (fs.lookup f) (mA f))/\zIO mA (fs.map (·.1))/\fs.length<=1000/\H dx=some (.own a):=by
 obtain⟨d,z,ne,ob,mA,n,r,q⟩:=(show cZ P w H h a (.ins C dx fs)from hok a _ e);exact⟨mA,⟨ob,n,ne⟩,r,q,z,d⟩
end
structure Cls(K:zAA)(C:Addr):Prop where
 pg:zEl K C Str.empty=true
 hd:PySem.W.hasDictIn K C=true
 po:PySem.W.plainOver K C=true
 sa:zBJ K (.ref C) "__setattr__"=some (some (.builtin "object.__setattr__"))
def Cls.get{K:zAA}{C:Addr}(c:Cls K C)(f:Str):zEl K C f=true:=c.pg
def aPE(K:zAA)(C:Addr)(f:Str):Prop:=zBJ K (.ref C) f=some none
structure Meth(K:zAA)(C:Addr)(m:Str)(f:Addr):Prop where
 at_:zBJ K (.ref C) m=some (some (.ref f))
 fn:zHw K (.ref f)=true
 kp:zBR K (.ref f)=true
section
variable{X:Cx}{kX:hZ}{Z:St}{H:Hp}{s:zAD}{a C dx:Addr}{fs:List (Str×V)}{A:zA6}{E:Value->zAD->Prop}
def aFh(I:Inv X kX Z H s)(e:H a=some (.ins C dx fs))(c:Cls X.K C)(k:Meth X.K C m g)(l:fs.lookup m=none)
  (h:Q (.ref g,[.ref a]) s):wpAny (model X.prog X.w) A (getMethod (.ref a) m pl) Q E s:=by
 obtain⟨mA,O,r,_,_,_⟩:=zM I.hok e;have hn:mA m=none:=aDI.none_of (by rw[<-l];exact r m);exact aJx I.kIn O (c.get m) k.at_ k.fn hn h
def Inv.made(I:Inv X kX Z H s):Inv X kX Z (upd (upd H s.heap.objs.size (.own (s.heap.objs.size+1))) (s.heap.objs.size+1) (.ins C s.heap.objs.size []))
  {s with heap:=(s.heap.push zB4).push (zCD C s.heap.objs.size)}:=by
 have e1:(s.heap.push zB4).get? s.heap.objs.size=some zB4:=zAZ s.heap rfl;have e2:((s.heap.push zB4).push (zCD C s.heap.objs.size)).get? (s.heap.objs.size+1)=some (zCD C s.heap.objs.size):=by
  have:=zAZ (s.heap.push zB4) (o:=zCD C s.heap.objs.size) rfl
  rwa [zBc]at this
 have e3:(s.heap.push zB4).Ns s.heap.objs.size (λ _=>none):=⟨zB4,#[],_,e1,rfl,(λ e he=>absurd he (by simp)),λ _=>rfl⟩;have I1:=I.laid (a:=s.heap.objs.size) (o:=.own (s.heap.objs.size+1)) (h':=s.heap.push zB4) (t':=s.toks) (λ b u q=>zAG _ q) (zAQ _) ⟨_,e1⟩;refine I1.laid (a:=s.heap.objs.size+1) (o:=.ins C s.heap.objs.size []) (t':=s.toks) (λ b u q=>zAG _ q) (zFG (zBc _ _)) ?_;have ne:s.heap.objs.size≠s.heap.objs.size+1:=zA7 (zCQ _);refine⟨by rw[aj ne,bN],zAk _,ne,e2,λ _=>none,(Heap.Ns1.of_empty e3).at λ o q=>zAG _ q,λ _=>zDE,λ y hy=>absurd rfl hy⟩
end
def tFld(K:zAA)(ta:TE)(f:Str):TE:=λ Z H Q=>ta Z H λ x H1=>∃a C dx fs v,x= .ref a/\H1 a=some (.ins C dx fs)/\Cls K C/\aPE K C f/\fs.lookup f=some v/\Q v H1
section
variable{X:Cx}{e:Expr}{f:Str}{pos:Pos}
def methcall_of(he:PE X e te)(I:Inv X kX Z H s)
  (h:te Z H λ x H1=>∃a C dx fs g,x= .ref a/\H1 a=some (.ins C dx fs)/\Cls X.K C/\Meth X.K C m g/\fs.lookup m=none/\
   ∀s1,Inv X kX Z H1 s1->wpAny (model X.prog X.w) X.A (callWith pos (.ref g) [.ref a] (zBw pos (zAV args X.env)) (zDy pos (zCd [] X.env))) Q X.xe s1)
  (ht:eval (.Call (.Attribute e m apos) args [] pos) X.env=(do
   let ov <-eval e X.env
   zE9 apos.atName
   let(f,first) <-zCE [ov] (getMethod ov m pl)
   callWith pos f first (zBw pos (zAV args X.env)) (zDy pos (zCd [] X.env)))):
  wpAny (model X.prog X.w) X.A (eval (.Call (.Attribute e m apos) args [] pos) X.env) Q X.xe s:=by
 refine PySem.W.methodCall_KW (pl:=pl) (thn (he kX s Z H _ I h) λ u s1 ⟨x,H1,I1,rx,a,C,dx,fs,g,ex,ea,c,k,l,q⟩=>?_) ht;subst ex;obtain rfl:u=zBF a:=rx;exact aFh I1 ea c k l (q s1 I1)
end
section
variable{X:Cx}{kX:hZ}{Z:St}{H:Hp}{s:zAD}{A:zA6}{E:Value->zAD->Prop}{Q:Value->zAD->Prop}{c:Value}{b:Bool}
inductive xU(K:zAA)(H:Hp):V->Value->Prop where
 |non:xU K H .non (.type "NoneType")
 |bl (x:Bool):xU K H (.bl x) (.type "bool")
 |int (i:Int):xU K H (.int i) (.type "int")
 |str (x:Str):xU K H (.str x) (.type "str")
 |flt (x:UInt64):xU K H (.flt x) (.type "float")
 |lst {a:Addr} {xs:List V} (e:H a=some (.lst xs)):xU K H (.ref a) (.type "list")
 |frz {a:Addr} {o:Obj} {xs:List V} (e:H a=some (.frz o (.lst xs))):xU K H (.ref a) (.type "list")
 |tup {a:Addr} {xs:List V} (e:H a=some (.tup xs)):xU K H (.ref a) (.type "tuple")
 |dK {a:Addr} {kvs:List (Key×V)} (e:H a=some (.dK kvs)):xU K H (.ref a) (.type "dict")
 |dT {a:Addr} {kvs:List (List Key×V)} (e:H a=some (.dT kvs)):xU K H (.ref a) (.type "dict")
 |ins {a C dx:Addr} {fs:List (Str×V)} (e:H a=some (.ins C dx fs)) (cl:Cls K C) (ha:zBJ K (.ref C) "__class__"=some (some (.builtin "object.__class__")))
   (hn:PySem.W.specialIn K (.builtin "object.__class__") "__get__"=some (some (.builtin "getset_descriptor.__get__"))) (htk:PySem.W.takesIn K (.builtin "object.__class__")=some true)
   (hm:PySem.W.mroIn K C (.type "object")=some true):xU K H (.ref a) (.ref C)
def aH8(I:Inv X kX Z H s)(rx:RelV x u)(ty:xU X.K H x t)(e:zBi X.K t c=some b)(h:∀tk,Q (.bool b) {s with toks:=tk}):
  wpAny (model X.prog X.w) A (call (.builtin "isinstance") [u,c]) Q E s:=by
 cases ty with
 |non=>cases (show u=zB8 from rx);exact zBH PySem.W.kitx_none I.kIn zDE e (λ z=>nomatch z) h
 |bl y=>cases (show u=zC2 y from rx);exact zBH PySem.W.kitx_bool I.kIn zDE e (λ z=>nomatch z) h
 |int i=>obtain⟨t,q⟩:=(show∃t,u=zE8 i t from rx);cases q;exact zBH PySem.W.kitx_int I.kIn zDE e (λ z=>nomatch z) h
 |str y=>obtain⟨t,q⟩:=(show∃t,u=zEH y t from rx);cases q;exact zBH PySem.W.kitx_str I.kIn zDE e (λ z=>nomatch z) h
 |flt y=>obtain⟨t,q⟩:=(show∃t,u=zI7 y t from rx);cases q;exact zBH PySem.W.kitx_float I.kIn zDE e (λ z=>nomatch z) h
 |@lst a xs ea=>
  cases (show u=zBF a from rx);obtain⟨_,_,n,_,h1⟩:=(show cZ X.prog X.w H s.heap a (.lst xs)from I.hok a _ ea);exact zBH zGb I.kIn ⟨_,h1,rfl⟩ e (λ z=>nomatch z) h
 |@frz a ob xs ea=>
  cases (show u=zBF a from rx);obtain⟨_,_,_,n,_,h1⟩:=(show cZ X.prog X.w H s.heap a (.frz ob (.lst xs))from I.hok a _ ea);exact zBH zGb I.kIn ⟨_,h1,rfl⟩ e (λ z=>nomatch z) h
 |@tup a xs ea=>
  cases (show u=zBF a from rx);obtain⟨_,_,_,p⟩:=(show cZ X.prog X.w H s.heap a (.tup xs)from I.hok a _ ea);obtain⟨o,h1,h2,_⟩:=p;exact zBH zG3 I.kIn ⟨o,h1,h2⟩ e (λ z=>nomatch z) h
 |@dK a kvs ea=>
  cases (show u=zBF a from rx);obtain⟨_,_,vs,_,p⟩:=(show cZ X.prog X.w H s.heap a (.dK kvs)from I.hok a _ ea);obtain⟨o,es,ep,h1,h2,_⟩:=p;exact zBH zE6 I.kIn ⟨o,h1,h2.1⟩ e (λ z=>nomatch z) h
 |@dT a kvs ea=>
  cases (show u=zBF a from rx);obtain⟨_,_,xs,_,o,es,ep,h1,h2,_⟩:=(show cZ X.prog X.w H s.heap a (.dT kvs)from I.hok a _ ea);exact zBH zE6 I.kIn ⟨o,h1,h2.1⟩ e (λ z=>nomatch z) h
 |@ins a C dx fs ea cl ha hn htk hm=>
  cases (show u=zBF a from rx);obtain⟨mA,O,_⟩:=zM I.hok ea;obtain⟨od,J,_⟩:=O.look;exact zBH (PySem.W.kitx_own (cl.get _) cl.hd ha hn htk hm) I.kIn J e (λ z=>nomatch z) h
end
structure jX(k:Nat)(A:zA6):Prop where
 hd:A.handled=none
 dp:A.depth+3*k+5<zEv
 un:A.units+16*k+200<cLine
def jX.mono(r:jX k A)(h:j<=k):jX j A:=⟨r.hd,by have:=r.dp;lia,by have:=r.un;lia⟩
theorem jX.deeper(r:jX (k+1) A)(env:Env):jX k (A.deeper env):=
 ⟨r.hd,by have:=r.dp;show A.depth+1+3*k+5<_;lia,by have:=r.un;show A.units+3+16*k+200<_;lia⟩
theorem jX.depth(r:jX k A):A.depth<zEv:=by have:=r.dp;lia
theorem jX.units(r:jX k A):A.units+64<cLine:=by have:=r.un;lia
def jX.units0(r:jX k A):A.units<cLine:=by have:=r.un;lia
def uw:TA:=λ _ H Q=>Q [] H
def kE(ta:TE)(tr:TA):TA:=λ Z H Q=>ta Z H λ x H1=>tr Z H1 λ xs H2=>Q (x::xs) H2
section
variable{X:Cx}{e:Expr}{es:List Expr}{te:TE}{t:TA}{pos:Pos}
def fH:PA X [] uw:=λ _ _ _ _ H Q I h=>zGu ⟨[],H,I,.nil,h⟩
def az(ha:PE X e te)(hr:PA X es t)(hs:zAV (e::es) X.env=(false,eval e X.env)::zAV es X.env:=by rfl):PA X (e::es) (kE te t):=by
 intro pos kX s Z H Q I h;rw[hs];show wpAny _ _ (spliced ((false,eval e X.env)::zBw pos (zAV es X.env))) _ _ s;refine zGj (thn (ha kX s Z H _ I h) λ u s1 ⟨x,H1,I1,r1,q1⟩=>?_);exact thn (hr pos kX s1 Z H1 _ I1 q1) λ us s2 ⟨xs,H2,I2,r2,q2⟩=>⟨x::xs,H2,I2,.cons r1 r2,q2⟩
def aQQ(t:TA):TE:=λ Z H Q=>t Z H λ xs H1=>xs.length<=zAU/\∀p,H1 p=none->Q (.ref p) (upd H1 p (.tup xs))
def aQV(t:TA):TE:=λ Z H Q=>t Z H λ xs H1=>xs.length<=zAU/\∀p,H1 p=none->Q (.ref p) (upd H1 p (.lst xs))
def aNm{x1}(h:PA X es t):PE X (.Tuple es x1 pos) (aQQ t):=by
 intro kX s Z H Q I hq;refine wpAny_Tuple_spliced (thn (h pos kX s Z H _ I hq) λ us s1 ⟨xs,H1,I1,r,z,q⟩=>⟨by rw[<-r.length];exact z,?_⟩);have hf:H1 s1.heap.objs.size=none:=I1.hok.fresh (zAQ _);refine⟨.ref s1.heap.objs.size,upd H1 s1.heap.objs.size (.tup xs),I1.laid (t':=s1.toks) (λ b u e=>zAG _ e) (zAQ _) ?_,rfl,q _ hf⟩;exact⟨⟨z,NoD.push _⟩,us,r,⟨_,zAZ _ rfl,rfl,_,rfl⟩⟩
def aNq(h:PA X es t):PE X (.List es pos) (aQV t):=by
 intro kX s Z H Q I hq;refine wpAny_List_spliced (thn (h pos kX s Z H _ I hq) λ us s1 ⟨xs,H1,I1,r,z,q⟩=>⟨by rw[<-r.length];exact z,?_⟩);have hf:H1 s1.heap.objs.size=none:=I1.hok.fresh (zAQ _);refine⟨.ref s1.heap.objs.size,upd H1 s1.heap.objs.size (.lst xs),I1.laid (t':=s1.toks) (λ b u e=>zAG _ e) (zAQ _) ?_,rfl,q _ hf⟩;exact⟨z,us,0,r,zAZ _ rfl⟩
end
abbrev Sp:=List V->Hp->VK->XK->Prop
abbrev CXT:=List Env->Hp->zAD->XK->Value->zAD->Prop
structure aFt(P:zAS)(w:World)(K:zAA)(mg:Str->Option Value)(base:Heap)(A:zA6)(outer:List Env)(s:zAD)(H:Hp):Prop where
 frames:A.frames=some outer
 mod:Mod K mg base
 bs:∀b o,base.get? b=some o->s.heap.get? b=some o/\H b=none
 bsz:base.objs.size<=s.heap.objs.size
 funs:s.heap.FunFrames base outer
 frf:∀b∈frs outer,H b=none
 hok:HOk P w H s.heap
 bare:zE5 s.gens
def CE(outer:List Env)(P:zAS)(w:World)(H:Hp)(s:zAD)(Q:VK)(u:Value)(s':zAD):Prop:=
 ∃v H',s'.os=s.os/\zE5 s'.gens/\Un (frs outer) [] H H' s.heap s'.heap/\HOk P w H' s'.heap/\RelV v u/\Q v H'
def CR(CX:CXT)(outer:List Env)(P:zAS)(w:World)(H:Hp)(s:zAD)(Q:VK)(E:XK)(r:zEG)(s':zAD):Prop:=
 match r with
 | .ok (.ret u)=>CE outer P w H s Q u s'
 | .ok _=>False
 | .error e=>CX outer H s E e s'
structure cB(P:zAS)(w:World)(K:zAA)(mg:Str->Option Value)(base:Heap)(CX:CXT)(k:Nat)(f:Addr)(fd:zA5)(ps:List Str)(sp:Sp):Prop where
 len:∀vs H Q E,sp vs H Q E->vs.length=ps.length
 run:∀(A:zA6) (outer:List Env) (s:zAD) (H:Hp) (args:Args) (us:List Value) (vs:List V) (Q:VK) (E:XK),jX k A->aFt P w K mg base A outer s H->zFW s fd args (ps.zip us)->Vals vs us->sp vs H Q E->
  zCJ (model P w) A (.call (.ref f) args) (CR CX outer P w H s Q E) s
def cB.imp{P:zAS}{w:World}{K:zAA}{mg:Str->Option Value}{base:Heap}{CX:CXT}{k:Nat}{f:Addr}{fd:zA5}{ps:List Str}{sp sp':Sp}(F:cB P w K mg base CX k f fd ps sp)
  (h:∀vs H Q E,sp' vs H Q E->sp vs H Q E):cB P w K mg base CX k f fd ps sp':=
 ⟨λ vs H Q E q=>F.len vs H Q E (h _ _ _ _ q),λ A outer s H args us vs Q E hr he hb hv hs=>F.run A outer s H args us vs Q E hr he hb hv (h _ _ _ _ hs)⟩
section
variable{X:Cx}{kX:hZ}{Z:St}{H:Hp}{s s':zAD}
def Inv.env0(I:Inv X kX Z H s):aFt X.prog X.w X.K X.mg X.base X.A X.stack s H:=
 ⟨I.ok.frames,I.ok.mod,I.bs,zAg I.ok.bsz I.sz,I.stack,I.stkFree,I.hok,I.bare⟩
def Inv.after(I:Inv X kX Z H s)(h:CE X.stack X.prog X.w H s Q u s'):EP X kX Z Q u s':=by
 obtain⟨v,H',os,bare,un,hok,r,q⟩:=h;obtain⟨hh,g,d,t,os'⟩:=s';obtain rfl:os'=s.os:=os;exact⟨v,H',I.call (h':=hh) (g':=g) (d':=d) (t':=t) (ch:=[]) un hok bare (λ b z=>absurd z (by simp)),r,q⟩
end
def zY(sp:Sp)(dvs:List V)(E:XK)(t:TA):TE:=λ Z H Q=>t Z H λ vs H1=>sp (vs++dvs) H1 Q E
def tMeth(C:Addr)(m:Str)(sp:Sp)(dvs:List V)(E:XK)(ta:TE)(t:TA):TE:=λ Z H Q=>ta Z H λ x H1=>∃a dx fs,x= .ref a/\H1 a=some (.ins C dx fs)/\fs.lookup m=none/\
 t Z H1 λ vs H2=>sp (x::(vs++dvs)) H2 Q E
def tMake(C:Addr)(sp:Sp)(dvs:List V)(E:XK)(t:TA):TE:=λ Z H Q=>t Z H λ vs H1=>∀x dx,H1 x=none->H1 dx=none->dx≠x->
 sp (.ref x::(vs++dvs)) (upd (upd H1 dx (.own x)) x (.ins C dx [])) (λ v H2=>v= .non/\Q (.ref x) H2) E
def Binds(K:zAA)(fd:zA5)(ps:List Str)(ds:List Value):Prop:=
 ∀(s:zAD) (us:List Value),K.In s.heap->(us++ds).length=ps.length->zFW s fd ⟨us,[]⟩ (ps.zip (us++ds))
def Binds.all{K:zAA}{fd:zA5}{ps:List Str}(h:∀us:List Value,us.length=ps.length->zIQ fd ⟨us,[]⟩=pure (ps.zip us)):Binds K fd ps []:=λ s us _ hl=>by
 rw[zAw]at hl ⊢;exact .of_eq (h us hl)
def uo(CX:CXT)(X:Cx)(E:XK):Prop:=∀(kX:hZ) (Z:St) (H:Hp) (s:zAD) (e:Value) (s':zAD),Inv X kX Z H s->CX X.stack H s E e s'->X.xe e s'
section
variable{X:Cx}{CX:CXT}{k:Nat}{f:Addr}{fd:zA5}{ps:List Str}{sp:Sp}{dvs:List V}{ds:List Value}{E:XK}{x:Str}{p pos:Pos}{e:Expr}{es:List Expr}{t:TA}
def aFA(F:cB X.prog X.w X.K X.mg X.base CX k f fd ps sp)(hr:jX k X.A)(hb:Binds X.K fd ps ds)(hd:Vals dvs ds)(hx:uo CX X E)
  (I:Inv X kX Z H s)(r:Vals vs us)(h:sp (vs++dvs) H Q E):wpAny (model X.prog X.w) X.A (call (.ref f) us) (EP X kX Z Q) X.xe s:=by
 have r2:Vals (vs++dvs) (us++ds):=r.append hd;have hl:(us++ds).length=ps.length:=by rw[<-r2.length];exact F.len _ _ _ _ h
 refine zGt (zDB (F.run X.A X.stack s H ⟨us,[]⟩ (us++ds) (vs++dvs) Q E hr I.env0 (hb s us I.kIn hl) r2 h) λ r s' hq=>?_);cases r with
 |error e=>exact hx kX Z H s e s' I hq
 |ok fl=>
  cases fl with
  |ret u=>exact I.after hq
  |next=>exact zAJ hq
  |brk=>exact zAJ hq
  |cont=>exact zAJ hq
def aGS(F:cB X.prog X.w X.K X.mg X.base CX k f fd ps sp)(hr:jX k X.A)(hg:Gl X x)(hm:X.mg x=some (.ref f))(hk:zBR X.K (.ref f)=true)(hb:Binds X.K fd ps ds)(hd:Vals dvs ds)(hx:uo CX X E)
  (ha:PA X (e::es) t)(hdb:Nd x:=by decide)(he:zAV (e::es) X.env=(false,eval e X.env)::zAV es X.env:=by rfl)(hpl:(zBw pos (zAV es X.env)).any (·.1)=false:=by rfl):
  PE X (.Call (.Name x p) (e::es) [] pos) (zY sp dvs E t):=by
 intro kX s Z H Q I h;refine zBk (sJ I hg hm ?_ hdb);refine zD4 (h₀:=X.base) I.ok.mod.kin hk (thn (ha pos kX s Z H _ I h) λ us s1 ⟨vs,H1,I1,r,q⟩=>⟨I1.kIn,?_⟩) he hpl;exact aFA F hr hb hd hx I1 r q
end
structure aY(N P:List Str)(sc:Scope):Prop where
 kind:sc.kind= .function
 co:sc.isCoroutine=false
 gen:sc.isGenerator=false
 nd:N.Nodup
 pre:N.take P.length=P
 par:∀x∈P,sc.names.lookup x=some .local\/sc.names.lookup x=some .cell
 nofree:∀y∈sc.names,y.2≠.free
theorem aCD{zDT:Str->Option zDd}{x:Str}:∀{binds:List (Str×Value)} {m:Str->Option Value},(∀v,(x,v)∉binds)->bindL zDT binds m x=m x
 |[],_,_=>rfl
 |(n,v)::r,m,h=>by
  unfold bindL;rw[aCD λ w hw=>h w (zAH _ hw)];split
  .have:x≠n:=by rintro rfl;exact h v zAI
   simp[this]
  .rfl
theorem aCF{zDT:Str->Option zDd}{x:Str}:∀{binds:List (Str×Value)} {m:Str->Option Value},(∀v,(x,v)∉binds)->bindC zDT binds m x=m x
 |[],_,_=>rfl
 |(n,v)::r,m,h=>by
  unfold bindC;rw[aCF λ w hw=>h w (zAH _ hw)];split
  .rfl
  .have:x≠n:=by rintro rfl;exact h v zAI
   simp[this]
theorem aCE{zDT:Str->Option zDd}{x:Str}{v:Value}:∀{P:List Str} {vs:List Value} {i:Nat} {m:Str->Option Value},P.Nodup->P[i]? =some x->vs[i]? =some v->zDT x=some .local->
  bindL zDT (P.zip vs) m x=some v
 |[],_,_,_,_,h,_,_=>by simp at h
 |_::_,[],_,_,_,_,h,_=>by simp at h
 |p::P,w::vs,0,m,nd,h1,h2,hk=>by
  simp at h1 h2;subst h1;subst h2;show bindL zDT ((p,w)::P.zip vs) m p=_;unfold bindL;rw[aCD λ v hv=>(zBd.mp nd).1 (zCY hv).1,if_pos hk];simp
 |p::P,w::vs,i+1,m,nd,h1,h2,hk=>by
  show bindL zDT ((p,w)::P.zip vs) m x=_;unfold bindL;exact aCE (i:=i) (zBd.mp nd).2 (by simpa using h1) (by simpa using h2) hk
theorem aCG{zDT:Str->Option zDd}{x:Str}{v:Value}:∀{P:List Str} {vs:List Value} {i:Nat} {m:Str->Option Value},P.Nodup->P[i]? =some x->vs[i]? =some v->zDT x≠some .local->
  bindC zDT (P.zip vs) m x=some v
 |[],_,_,_,_,h,_,_=>by simp at h
 |_::_,[],_,_,_,_,h,_=>by simp at h
 |p::P,w::vs,0,m,nd,h1,h2,hk=>by
  simp at h1 h2;subst h1;subst h2;show bindC zDT ((p,w)::P.zip vs) m p=_;unfold bindC;rw[aCF λ v hv=>(zBd.mp nd).1 (zCY hv).1,if_neg hk];simp
 |p::P,w::vs,i+1,m,nd,h1,h2,hk=>by
  show bindC zDT ((p,w)::P.zip vs) m x=_;unfold bindC;exact aCG (i:=i) (zBd.mp nd).2 (by simpa using h1) (by simpa using h2) hk
def start(N:List Str)(vs:List V):St:=vs.map some++zBD (N.length-vs.length) none
def aAr(CX:CXT)(P:zAS)(w:World)(K:zAA)(mg:Str->Option Value)(base:Heap)(N:List Str)(qual:Str)(scope:Scope)(f:Addr)(cd:Value)(A:zA6)(outer:List Env)(s:zAD)(H:Hp)(E:XK):Cx where
 prog:=P
 w:=w
 K:=K
 mg:=mg
 base:=base
 A:=A.deeper (zDz qual scope s.heap.objs.size f cd)
 N:=N
 z5:=s
 z0:=H
 env:=zDz qual scope s.heap.objs.size f cd
 outer:=outer
 stack:=zDz qual scope s.heap.objs.size f cd::outer
 ex:=[]
 calm:=true
 fn:=λ _=>true
 pn:=[]
 xe:=λ e s'=>wpAny (model P w) (A.deeper (zDz qual scope s.heap.objs.size f cd)) (leaving (zDz qual scope s.heap.objs.size f cd) e) (λ _ s''=>CX outer H s E e s'') (λ e' s''=>CX outer H s E e' s'') s'
def vq{sc:Scope}{n:Nat}{x:Str}(h:sc.names.lookup x=some .cell):∃c,(zD1 n sc.names []).lookup x=some c:=by
 have q:=zDs sc.names n [] (.inl h);exact Option.isSome_iff_exists.mp q
def aBj{CX:CXT}{P:zAS}{w:World}{K:zAA}{mg:Str->Option Value}{base:Heap}{N ps:List Str}{qual:Str}{scope:Scope}{f:Addr}{cd:Value}{A:zA6}{outer:List Env}{s s1:zAD}{H:Hp}{E:XK}{us:List Value}{vs:List V}
  (S:aY N ps scope)(hd:A.handled=none)(e0:aFt P w K mg base A outer s H)(hl:vs.length=ps.length)(r:Vals vs us)
  (x:InCallC s s.heap.objs.size (bindL (zDz qual scope s.heap.objs.size f cd).kindOf (ps.zip us) λ _=>none) (zD1 (s.heap.objs.size+1) scope.names []) (bindC (zDz qual scope s.heap.objs.size f cd).kindOf (ps.zip us) λ _=>none) s1):
  Inv (aAr CX P w K mg base N qual scope f cd A outer s H E) [] (start N vs) H s1:=by
 have hpl:ps.length<=N.length:=by have:=congrArg zDv S.pre;rw[zCP]at this;lia
 obtain⟨h1,tk,rfl,hk⟩:=x.done;have noA:∀b:Addr,b∉(aAr CX P w K mg base N qual scope f cd A outer s H E).ex:=λ b z=>absurd (show b∈([]:List Addr)from z) (by simp)
 refine⟨⟨e0.mod,S.kind,rfl,rfl,zAQ _,λ y z c h1 h2=>?_,λ y hy=>?_,λ y c _ h=>?_,λ _=>hd,zGK e0.frames,.inr ⟨rfl,rfl⟩,λ b z=>absurd z (noA b),e0.bs,e0.bsz,λ b _ _=>noA b,λ b z=>absurd z (noA b),e0.funs,e0.frf⟩,
  rfl,e0.bare,Un.kept hk,⟨_,x.toInCall.ns,λ i y v h1 h2 h3=>?_⟩,λ y c h=>⟨_,x.cell y c h⟩,e0.hok.fresh (zAQ _),λ y c h=>?_,λ p hp=>absurd (show p∈([]:hZ)from hp) (by simp),e0.hok.kept hk,?_,λ p hp=>absurd (show p∈([]:hZ)from hp) (by simp)⟩
 .exact name_of_addr x.apart (zAj h1) (zAj h2)
 .have hy:scope.names.lookup y=some .cell\/scope.names.lookup y=some .free:=hy
  rcases hy with hy|hy
  .exact vq hy
  .exact absurd rfl (S.nofree _ (zAj hy))
 .exact zBl (x.above y c (zAj h))
 .have hi:i<vs.length:=by
   unfold start at h2;by_cases hi:i<vs.length
   .exact hi
   .rw[zDa (by simpa using hi)]at h2
    rw[zDu]at h2;split at h2<;>cases h2
  have ha:vs[i]? =some v:=by
   unfold start at h2;rw[zCf (by simpa using hi),zAR]at h2;cases e:vs[i]? with
   |none=>rw[e]at h2;cases h2
   |some a=>rw[e]at h2;cases h2;rfl
  obtain⟨u,hu,rv⟩:=r.get ha;have hp:ps[i]? =some y:=by
   rw[<-S.pre,List.getElem?_take_of_lt (by lia)];exact h1
  have ndP:ps.Nodup:=by rw[<-S.pre];exact S.nd.sublist (List.take_sublist _ _)
  refine⟨u,rv,?_⟩;rcases S.par y (zB1 hp)with k|k
  .exact .inl ⟨k,aCE ndP hp hu k⟩
  .obtain⟨c,e⟩:=vq (n:=s.heap.objs.size+1) k
   refine .inr ⟨.inl k,c,e,?_⟩;have q:=x.cell y c e;rw[aCG ndP hp hu (by show scope.names.lookup y≠_;rw[k];decide)]at q;exact q
 .exact e0.hok.fresh (zBl (x.above y c (zAj h)))
 .unfold start
  show _=N.length;rw[zAp,zAF,List.length_replicate];lia
def aNA{CX:CXT}{P:zAS}{w:World}{K:zAA}{mg:Str->Option Value}{base:Heap}{k:Nat}{f:Addr}{name qual:Str}{params:zCa}{body:List Stmt}{scope:Scope}{dV kV doc pm cdv ct oc:Value}{an od:Option Addr}
  {osl:Array (Option Value)}{N ps:List Str}{sp:Sp}(lk:K.lookup f=some ⟨oc,od,.func (zCH name qual params body scope dV kV doc pm an cdv ct),osl⟩)(hcd:zD7 K cdv qual=true)(S:aY N ps scope)
  (len:∀vs H Q E,sp vs H Q E->vs.length=ps.length)
  (hbody:∀(A:zA6) (outer:List Env) (s:zAD) (H:Hp) (vs:List V) (Q:VK) (E:XK),jX k (A.deeper (zDz qual scope s.heap.objs.size f cdv))->sp vs H Q E->
   ∃t,PSs (aAr CX P w K mg base N qual scope f cdv A outer s H E) body t/\t {nx:=λ _ H'=>Q .non H',rt:=Q} (start N vs) H):
  cB P w K mg base CX (k+1) f (zCH name qual params body scope dV kV doc pm an cdv ct) ps sp:=by
 refine⟨len,λ A outer s H args us vs Q E hr e0 hb r hsp=>?_⟩;have hl:=len _ _ _ _ hsp;have KX:K.In s.heap:=e0.mod.kin.keeps λ b o e=>(e0.bs b o e).1
 have lim:s.heap.NoLimit:=e0.mod.nolimit.keeps λ b o e=>(e0.bs b o e).1
 have hkind:∀y∈ps.zip us,scope.names.lookup y.1=some .local\/(scope.names.lookup y.1=some .cell/\((zD1 (s.heap.objs.size+1) scope.names []).lookup y.1).isSome=true):=λ⟨n,v⟩ hy=>by
  rcases S.par n (zCY hy).1 with q|q
  .exact .inl q
  .exact .inr ⟨q,zDs _ _ _ (.inl q)⟩
 refine zHj hr.depth (KX _ _ lk) rfl S.co S.gen rfl (zG2 KX hcd) (hb _ _ _ _ ?_);refine zG5 S.kind hkind λ env he s1 x=>?_
 subst he;refine⟨lim.keeps x.toInCall.keep,codeAny_func ?_⟩;obtain⟨t,ht,hq⟩:=hbody A outer s H vs Q E (hr.deeper _) hsp;have I:Inv (aAr CX P w K mg base N qual scope f cdv A outer s H E) [] (start N vs) H s1:=aBj S hr.hd e0 hl r x;refine zBP (ht [] s1 (start N vs) H _ I hq) (λ fl s' hs=>?_) λ e s' hs=>hs
 have fin:∀{Z':St} {H':Hp} {v:V} {u:Value},Inv (aAr CX P w K mg base N qual scope f cdv A outer s H E) [] Z' H' s'->RelV v u->Q v H'->CE outer P w H s Q u s':=
  λ{Z' H' v u} J rv q=>⟨v,H',J.os,J.bare,J.base,J.hok,rv,q⟩
 cases fl with
 |ret u=>
  obtain⟨v,Z',H',J,rv,q⟩:=hs;exact fin J rv q
 |next=>
  obtain⟨Z',H',J,q⟩:=hs;exact fin (v:=V.non) (u:=zB8) J rfl q
 |brk=>
  obtain⟨_,_,_,q⟩:=hs;exact zAJ q
 |cont=>
  obtain⟨_,_,_,q⟩:=hs;exact zAJ q
section
variable{X:Cx}{x:Str}{p pos:Pos}{e:Expr}{es:List Expr}{t:TA}{id T:String}{r:List V->Hp->VK->Prop}
def tCB(r:List V->Hp->VK->Prop)(t:TA):TE:=λ Z H Q=>t Z H λ vs H1=>r vs H1 Q
def vJ(hc:lH X (.builtin id) r)(hg:Gl X x)(hm:X.mg x=none)(hv:zBK x=some (.builtin id))(ha:PA X (e::es) t)(hn:x≠"__name__":=by decide)(hdb:Nd x:=by decide)
  (he:zAV (e::es) X.env=(false,eval e X.env)::zAV es X.env:=by rfl)(hpl:(zBw pos (zAV es X.env)).any (·.1)=false:=by rfl):PE X (.Call (.Name x p) (e::es) [] pos) (tCB r t):=by
 intro kX s Z H Q I h;refine zBk (xG I hg hm hv ?_ hn hdb);exact PyProof.Rows.callWith_builtin1 (thn (ha pos kX s Z H _ I h) λ us s1 ⟨vs,H1,I1,r1,q1⟩=>hc kX s1 Z H1 vs us Q I1 r1 q1) he hpl
def aB6(hc:lH X (.type T) r)(hg:Gl X x)(hm:X.mg x=none)(hv:zBK x=some (.type T))(ha:PA X (e::es) t)(hn:x≠"__name__":=by decide)(hdb:Nd x:=by decide)
  (he:zAV (e::es) X.env=(false,eval e X.env)::zAV es X.env:=by rfl)(hpl:(zBw pos (zAV es X.env)).any (·.1)=false:=by rfl):PE X (.Call (.Name x p) (e::es) [] pos) (tCB r t):=by
 intro kX s Z H Q I h;refine zBk (xG I hg hm hv ?_ hn hdb);exact zCM (thn (ha pos kX s Z H _ I h) λ us s1 ⟨vs,H1,I1,r1,q1⟩=>hc kX s1 Z H1 vs us Q I1 r1 q1) he hpl
end
end L2
namespace HT
open PySem PyProof.Rows
def lexLt:List Int->List Int->Bool
 |[],[]=>false
 |[],_::_=>true
 |_::_,[]=>false
 |x::xs,y::ys=>if x=y then lexLt xs ys else decide (x<y)
def mO(x y:Int)(xs ys:List Int):lexLt (x::xs) (y::ys)=if x=y then lexLt xs ys else decide (x<y):=rfl
def aBL:lexLt [] []=false:=rfl
def aAX(y:Int)(ys:List Int):lexLt [] (y::ys)=true:=rfl
def aAY(x:Int)(xs:List Int):lexLt (x::xs) []=false:=rfl
def aEW(A:zA6)(s:zAD)(a:Int)(t:Tok)(c:Int)(u:Tok):∃e,zC0 A s (.int a t) (.int c u) e/\(e=true↔a=c):=
 ⟨(a==c),zFm a t c u,by simp⟩
def aI5(A:zA6)(s:zAD)(a:Int)(t:Tok)(c:Int)(u:Tok)(prog:zAS)(w:World)(E:Value->zAD->Prop)(Q:Value->zAD->Prop)(h:Q (.bool (decide (a<c))) s):
  wpAny (model prog w) A (zGU .Lt (.int a t) (.int c u)) Q E s:=
 (zFT h:wpAny (model prog w) A (zAt .Lt (.int a t) (.int c u)) Q E s)
section
open PySem.SeqAt
open PySem.AutoSeq1(wpAny_loadPart')
open PySem.MeetsSeq PySem.MeetsSeq2 PySem.MeetsSeq3
def aAx(l b:Addr)(items items2:Array Value)(n n2:Nat)(dd dd2:Option Addr)(sl sl2:Array (Option Value))(ns ms:List Int)(hi:zBQ items.toList ns)(hj:zBQ items2.toList ms):
  Meets (zEQ.«tuple.__lt__» ⟨[.ref l,.ref b],[]⟩)
   (λ _ R s=>s.heap.get? l=some {cls:=.type "tuple",dict:=dd,data:=.seq items n,slots:=sl}/\s.heap.get? b=some {cls:=.type "tuple",dict:=dd2,data:=.seq items2 n2,slots:=sl2}/\
    R (.ok (.ret (.bool (lexLt ns ms)))) s):=
 .of_wp λ prog w A R s h=>by
  obtain⟨hp,g,d,tk,os⟩:=s;obtain⟨hl,hb,h⟩:=h;have f2:=zFJ;have z1:items.size=ns.length:=by rw[<-hi.length];simp
  have z2:items2.size=ms.length:=by rw[<-hj.length];simp
  wp_walk using zEb hl,zEb hb,zD9 _ (λ rest b s'=>b.1=none/\s'=⟨hp,g,d,tk,os⟩/\∃(vs ws:List Value) (ns' ms':List Int),rest=vs.zip ws/\
   zBQ vs ns'/\zBQ ws ms'/\ns'.length+items2.size=ms'.length+items.size/\R (.ok (.ret (.bool (lexLt ns' ms')))) ⟨hp,g,d,tk,os⟩) _
  case turn=>
   rintro⟨y,x⟩ rest b s' ⟨hb',rfl,vs,ws,ns',ms',hz,hvi,hwi,kK,hR⟩;cases hvi with
   |nil=>rw[zHR]at hz;cases hz
   |cons a t hvi'=>
    cases hwi with
    |nil=>rw[zHA]at hz;cases hz
    |cons c u hwi'=>
     rw[zAv]at hz;injection hz with hyx aT
     injection hyx with hy hx
     subst hy hx;rw[mO]at hR;simp only[zA0]at kK;obtain⟨e,he,hiff⟩:=aEW A.in1 ⟨hp,g,d,tk,os⟩ a t c u;refine zAC (he prog w _ _ ?_);cases e with
     |true=>
      rw[if_pos (hiff.mp rfl)]at hR;wp_walk;exact⟨rfl,rfl,_,_,_,_,aT,hvi',hwi',by lia,hR⟩
     |false=>
      rw[if_neg (λ q=>absurd (hiff.mpr q) zAM)]at hR;have hri:=aI5 A.in1 ⟨hp,g,d,tk,os⟩ a t c u prog w;wp_walk using hri;exact⟨_,rfl,by simpa using hR⟩
  case fin=>
   rintro⟨b1,b2⟩ s' ⟨hb',rfl,vs,ws,ns',ms',hz,hvi,hwi,kK,hR⟩;simp only at hb';subst hb';have hv:lexLt ns' ms'=decide (items.size<items2.size):=by
    cases hvi with
    |nil=>
     cases hwi with
     |nil=>
      simp only[zCW]at kK;rw[aBL];exact(decide_eq_false (by lia)).symm
     |cons c u hw=>
      simp only[zCW,zA0]at kK;rw[aAX];exact(decide_eq_true (by lia)).symm
    |cons a t hv=>
     cases hwi with
     |nil=>
      simp only[zCW,zA0]at kK;rw[aAY];exact(decide_eq_false (by lia)).symm
     |cons c u hw=>
      rw[zAv]at hz;cases hz
   rw[hv]at hR;wp_walk;exact⟨_,rfl,by simpa[zEF]using hR⟩
  case h=>
   exact⟨rfl,rfl,items.toList,items2.toList,ns,ms,rfl,hi,hj,by lia,h⟩
end
section
variable{prog:zAS}{w:World}{A:zA6}{E:Value->zAD->Prop}{s:zAD}
def aFW(hl:IsTup s.heap l items)(hb:IsTup s.heap b items2)(hi:zBQ items.toList ns)(hj:zBQ items2.toList ms)
  (hu:A.units<cLine)(h:Q (.bool (lexLt ns ms)) s):wpAny (model prog w) A (zAt .Lt (.ref l) (.ref b)) Q E s:=by
 obtain⟨⟨cls,dd,data,sl⟩,ho,hc,n,hd⟩:=id hl;obtain⟨⟨cls2,dd2,data2,sl2⟩,ho2,hc2,n2,hd2⟩:=id hb;simp only at hc hd hc2 hd2;subst hc hd hc2 hd2;exact zH1 (op:=.Lt) ⟨_,ho,rfl⟩ ⟨_,ho2,rfl⟩ PySem.F.slot_tuple_lt PySem.F.entry_tuple_lt (PySem.F.args_tuple_lt_2 _ _) (aAx l b items items2 n n2 dd dd2 sl sl2 ns ms hi hj)
  ⟨ho,ho2,show zC2 (lexLt ns ms)≠zG4/\Q (.bool (lexLt ns ms)) s from⟨(λ x=>nomatch x),h⟩⟩ hu
def aM1(ht:IsTup s.heap t vs.toArray)(hb:IsTup s.heap b ws.toArray)(hv:vs≠[])
  (h1:ws=[]->Q (.ref t) s)(h2:ws≠[]->Q (.ref s.heap.objs.size) {s with heap:=s.heap.push {cls:=.type "tuple",data:=.seq (vs++ws).toArray}})
  (hsz:vs.length+ws.length<=zAU):wpAny (model prog w) A (zCG .Add (.ref t) (.ref b)) Q E s:=by
 obtain⟨⟨cls,dd,data,sl⟩,ho,hc,n,hd⟩:=id ht;obtain⟨⟨cls2,dd2,data2,sl2⟩,ho2,hc2,n2,hd2⟩:=id hb;simp only at hc hd hc2 hd2;subst hc hd hc2 hd2;have e:vs.toArray++ws.toArray=(vs++ws).toArray:=by simp
 by_cases hw:ws=[]
 .exact zHk ⟨_,ho,rfl⟩ ⟨_,ho2,rfl⟩ zFr zHI zDr zDk (zDf _ _)
   (tuple_addW1 t b vs.toArray ws.toArray n n2 dd dd2 sl sl2 (by simpa using hv) (by simp[hw])) ⟨ho,ho2,h1 hw⟩
 .refine zHk ⟨_,ho,rfl⟩ ⟨_,ho2,rfl⟩ zFr zHI zDr zDk (zDf _ _)
   (tuple_addW2 t b vs.toArray ws.toArray n n2 dd dd2 sl sl2 (by simpa using hv) (by simpa using hw) (by rw[zAP,zAP];exact hsz)) ⟨ho,ho2,?_⟩
  rw[e];exact h2 hw
def sIx(n d:Nat):Option Int->Nat
 |none=>d
 |some v=>if v<0 then(v+(n:Int)).toNat else min v.toNat n
def aN5(n d:Nat)(hd:d<=n)(o:Option Int):sIx n d o<=n:=by
 cases o with
 |none=>exact hd
 |some v=>
  show(if v<0 then(v+(n:Int)).toNat else min v.toNat n)<=n
  by_cases hv:v<0
  .rw[if_pos hv];lia
  .rw[if_neg hv];exact Nat.min_le_right _ _
def aGn(v:Int)(n d:Nat):(if v<0 then max (v+(n:Int)) 0 else min v (n:Int))=((sIx n d (some v):Nat):Int):=by
 show(if v<0 then max (v+(n:Int)) 0 else min v (n:Int))=(((if v<0 then(v+(n:Int)).toNat else min v.toNat n):Nat):Int)
 by_cases hv:v<0
 .simp only[if_pos hv];lia
 .simp only[if_neg hv];lia
def aFr(lo hi:Option Int)(n:Nat):zDN lo hi 1 (n:Int)=(((sIx n 0 lo:Nat):Int),((sIx n n hi:Nat):Int)):=by
 have h1:¬((1:Int)<0):=by lia
 unfold zDN;simp only[h1,if_false];refine zHD ?_ ?_
 .cases lo with
  |none=>rfl
  |some v=>exact aGn v n 0
 .cases hi with
  |none=>rfl
  |some v=>exact aGn v n n
def aFL(i j:Nat):zCS (i:Int) (j:Int) 1=j-i:=by
 unfold zCS;have h1:(1:Int)>0:=by lia
 simp only[h1,if_true,Int.ediv_one];split<;>lia
def zc(p:zFK v o)(h:Q o s):wpAny (model prog w) A (zIW v) Q E s:=by
 cases p with
 |none=>exact slicePart_none h
 |int i t=>exact slicePart_int h
def oG{sl:Addr}{vl vu:Value}{lo hi:Option Int}{n:Nat}{Q:Int×Int×Nat->zAD->Prop}(hs:s.heap.IsSliceOf sl vl vu .none)(pl:zFK vl lo)(pu:zFK vu hi)
  (h:Q (((sIx n 0 lo:Nat):Int),1,sIx n n hi-sIx n 0 lo) s):wpAny (model prog w) A (zE2 (.ref sl) (pure (n:Int))) Q E s:=by
 obtain⟨os,hos,hcs,hds⟩:=id hs;unfold zE2 zIV;refine zAC (zAC (zGV hos hds (x:=vl) rfl (zAC (zGV hos hds (x:=vu) rfl (zAC (zGV hos hds (x:=.none) rfl (zAL ?_)))))));refine zAC (slicePart_none ?_);show wpAny _ _ (if ((1:Int)==0)=true then _ else _) _ _ s;rw[if_neg (by decide)];refine zAC (zc pl (zAC (zc pu (zAC (zAL ?_)))));show wpAny _ _ (match zDN lo hi 1 (n:Int)with|(lo,hi)=>pure (lo,(1:Int),zCS lo hi 1)) _ _ s;rw[aFr lo hi n];show wpAny _ _ (pure (((sIx n 0 lo:Nat):Int),(1:Int),zCS ((sIx n 0 lo:Nat):Int) ((sIx n n hi:Nat):Int) 1)) _ _ s;rw[aFL];exact zAL h
def aIs(xs:Array Value)(i k:Nat):((zAh k).filterMap λ(m:Nat)=>xs[((i:Int)+(m:Int)*1).toNat]?).toArray=((xs.toList.drop i).take k).toArray:=by
 have e:(λ(m:Nat)=>xs[((i:Int)+(m:Int)*1).toNat]?)=λ m=>xs[i+m]?:=by
  funext m
  have:((i:Int)+(m:Int)*1).toNat=i+m:=by lia
  rw[this]
 rw[e]
 have:=pick_run xs i k
 rw[List.filterMap_map]at this;have e2:((λ x=>xs[x]?)∘λ x=>i+x)=λ m=>xs[i+m]?:=rfl
 rw[e2]at this;rw[this]
def vY{t sl:Addr}{items:Array Value}{vl vu:Value}{lo hi:Option Int}{Q:Value->zAD->Prop}(ht:IsTup s.heap t items)(hs:s.heap.IsSliceOf sl vl vu .none)(pl:zFK vl lo)(pu:zFK vu hi)
  (hw:¬(sIx items.size 0 lo=0/\sIx items.size items.size hi=items.size))
  (h:Q (.ref s.heap.objs.size) {s with heap:=s.heap.push {cls:=.type "tuple",data:=.seq ((items.toList.drop (sIx items.size 0 lo)).take (sIx items.size items.size hi-sIx items.size 0 lo)).toArray}})
  (hsz:items.size<=zAU):wpAny (model prog w) A (zGQ (.ref t) (.ref sl)) Q E s:=by
 have bP:sizeOk (.seq ((items.toList.drop (sIx items.size 0 lo)).take (sIx items.size items.size hi-sIx items.size 0 lo)).toArray):=by
  show((items.toList.drop (sIx items.size 0 lo)).take (sIx items.size items.size hi-sIx items.size 0 lo)).toArray.size<=zAU
  rw[zAP,zCP,zDQ,zA2];lia
 have hj:sIx items.size items.size hi<=items.size:=aN5 _ _ (zAQ _) hi;obtain⟨os,hos,hcs,hds⟩:=id hs;have hTs:s.TypeIs (.ref sl) "slice":=⟨os,hos,hcs⟩;unfold zGQ
 try with_reducible refine zB5 ?_
 first|refine zAC (zAL ?_)|skip
 refine zAC (zIi ht.typeIs (by decide) ?_);refine zAC (zCU (name:=zES "__getitem__") ht.typeIs zB0
  (zCF zB0 ht.typeIs zID ?_ (zIP _ _)))
 show wpAny _ _ (zE3 (.ref t)>>=_) _ _ s;refine zAC (tupleItemsOf_ ht ?_);refine zAC (zEc hTs ?_);rw[if_pos (by decide)];refine zAC (oG hs pl pu ?_);have hno:¬((((sIx items.size 0 lo:Nat):Int)==0&&(1:Int)==1&&(sIx items.size items.size hi-sIx items.size 0 lo)==items.size)=true):=by
  intro q;rw[zAN,zAN]at q;have q1:((sIx items.size 0 lo:Nat):Int)=0:=zDG q.1.1;have q2:sIx items.size items.size hi-sIx items.size 0 lo=items.size:=zDG q.2;exact hw ⟨by lia,by lia⟩
 show wpAny _ _ (if (((sIx items.size 0 lo:Nat):Int)==0&&(1:Int)==1&&(sIx items.size items.size hi-sIx items.size 0 lo)==items.size)=true then _ else _) _ _ s;rw[if_neg hno,aIs]
 first
  |exact zAC (m:=zCV _) (zBX (zAL ⟨_,rfl,zAL h⟩) bP)
  |exact zAC (m:=zCV _) (zBX (zAC (zAL (zAL ⟨_,rfl,zAL h⟩))) bP)
  |exact zAC (zAC (m:=zCV _) (zBX (zAL (zAL ⟨_,rfl,zAL h⟩)) bP))
  |exact zAC (zAC (m:=zCV _) (zBX (zAL ⟨_,rfl,zAL h⟩) bP))
end
end HT
namespace L2
open PySem PySem.Spec PyProof.Rows
abbrev TO:=St->Hp->(Option Int->Hp->Prop)->Prop
def PO(X:Cx)(e:Option Expr)(t:TO):Prop:=
 ∀(kX:hZ) (s:zAD) (Z:St) (H:Hp) (Q:Option Int->Hp->Prop),Inv X kX Z H s->t Z H Q->
  wpAny (model X.prog X.w) X.A (evalPart e X.env) (λ u s'=>∃o H',Inv X kX Z H' s'/\zFK u o/\Q o H') X.xe s
def aKh:TO:=λ _ H Q=>Q none H
def aPR(t:TE):TO:=λ Z H Q=>t Z H λ x H1=>∃i,x= .int i/\Q (some i) H1
def intsAre_of:∀{us:List Value},Vals (ns.map V.int) us->zBQ us ns:=by
 induction ns with
 |nil=>intro us r;rw[zEw]at r;cases r;exact .nil
 |cons n ns ih=>
  intro us r;rw[zAE]at r;cases r with
  |cons r1 r2=>
   obtain⟨t,e⟩:=r1;subst e;exact .cons n t (ih r2)
section
variable{X:Cx}{e:Expr}{te:TE}{lo hi:Option Expr}{tl th:TO}{pos p2:Pos}
def aLM:PO X none aKh:=by
 intro kX s Z H Q I h;rw[evalPart_none];exact zAL ⟨none,H,I,.none,h⟩
def aLL(h:PE X e te):PO X (some e) (aPR te):=by
 intro kX s Z H Q I hw;rw[evalPart_some];refine thn (h kX s Z H _ I hw) λ u s1 ⟨x,H1,I1,r1,q1⟩=>?_
 obtain⟨i,rfl,q⟩:=q1;obtain⟨t,rfl⟩:=r1;exact⟨some i,H1,I1,.int i t,q⟩
def SlR(X:Cx)(r:V->Option Int->Option Int->Hp->VK->Prop):Prop:=
 ∀(kX:hZ) (s:zAD) (Z:St) (H:Hp) (x:V) (v vl vu:Value) (lo hi:Option Int) (sl:Addr) (Q:VK),Inv X kX Z H s->RelV x v->s.heap.IsSliceOf sl vl vu .none->zFK vl lo->zFK vu hi->r x lo hi H Q->
  ∃T id,zF8 (.type T) "__getitem__"=pure (some (.builtin id))/\s.TypeIs v T/\wpAny (model X.prog X.w) X.A (zGQ v (.ref sl)) (EP X kX Z Q) X.xe s
def SlR.or(h:SlR X r)(h':SlR X r'):SlR X (λ x lo hi H Q=>r x lo hi H Q\/r' x lo hi H Q):=by
 intro kX s Z H x v vl vu lo hi sl Q I rx hs pl pu q;rcases q with q|q
 .exact h kX s Z H x v vl vu lo hi sl Q I rx hs pl pu q
 .exact h' kX s Z H x v vl vu lo hi sl Q I rx hs pl pu q
def tSl(r:V->Option Int->Option Int->Hp->VK->Prop)(te:TE)(tl th:TO):TE:=λ Z H Q=>te Z H λ x H1=>tl Z H1 λ l H2=>th Z H2 λ u H3=>r x l u H3 Q
def aDo(hr:SlR X r)(he:PE X e te)(hl:PO X lo tl)(hu:PO X hi th):PE X (.Subscript e (.Slice lo hi none p2) pos) (tSl r te tl th):=by
 intro kX s Z H Q I h;refine Subscript_ (thn (he kX s Z H _ I h) λ v s1 ⟨x,H1,I1,r1,q1⟩=>?_);refine wpAny_Slice (thn (hl kX s1 Z H1 _ I1 q1) λ vl s2 ⟨l,H2,I2,pl,q2⟩=>thn (hu kX s2 Z H2 _ I2 q2) λ vu s3 ⟨u,H3,I3,pu,q3⟩=>?_);rw[evalPart_none];refine zAL ?_;have I4:Inv X kX Z H3 {s3 with heap:=s3.heap.push {cls:=.type "slice",data:=.fields #[vl,vu,.none]}}:=I3.kept (t':=s3.toks) λ b ob q=>zAG _ q
 obtain⟨T,id,hT,ht,hg⟩:=hr kX {s3 with heap:=s3.heap.push {cls:=.type "slice",data:=.fields #[vl,vu,.none]}} Z H3 x v vl vu l u s3.heap.objs.size Q I4 r1 (zIK ..) pl pu q3;show wpAny (model X.prog X.w) X.A (subscriptTail e (.Slice lo hi none p2) v (.ref s3.heap.objs.size)) (EP X kX Z Q) X.xe {s3 with heap:=s3.heap.push {cls:=.type "slice",data:=.fields #[vl,vu,.none]}};exact tail_any (ops:=[.ref s3.heap.objs.size,v]) ht hT hg (by with_unfolding_all rfl)
def aAs(xs:List V)(lo hi:Option Int):List V:=(xs.drop (HT.sIx xs.length 0 lo)).take (HT.sIx xs.length xs.length hi-HT.sIx xs.length 0 lo)
def yO(xs:List V)(lo hi:Option Int):(aAs xs lo hi).length<=xs.length:=by
 unfold aAs;rw[zCP,zDQ];lia
def aLC(K:zAA):R2:=λ x y H Q=>∃a b ns ms,x= .ref a/\y= .ref b/\SqT K H a (ns.map V.int)/\SqT K H b (ms.map V.int)/\Q (.bl (HT.lexLt ns ms)) H
def aOG(hu:X.A.units<cLine):OpR X (zAt .Lt) (aLC X.K):=by
 intro kX s Z H x y v u Q I rx ry h;obtain⟨a,b,ns,ms,rfl,rfl,ha,hb,q⟩:=h;cases rx;cases ry;obtain⟨its,r1,p1,_⟩:=I.tuple ha;obtain⟨its2,r2,p2,_⟩:=I.tuple hb;have i1:zBQ its.toArray.toList ns:=intsAre_of r1;have i2:zBQ its2.toArray.toList ms:=intsAre_of r2;exact HT.aFW p1 p2 i1 i2 hu ⟨.bl (HT.lexLt ns ms),H,I,rfl,q⟩
def aPe(K:zAA):R2:=λ x y H Q=>∃a b xs ys,x= .ref a/\y= .ref b/\SqT K H a xs/\SqT K H b ys/\xs≠[]/\xs.length+ys.length<=zAU/\
 (ys=[]->Q (.ref a) H)/\(ys≠[]->∀p,H p=none->Q (.ref p) (upd H p (.tup (xs++ys))))
def Vals.nil_iff(r:Vals xs us):us=[]↔xs=[]:=by
 cases r with
 |nil=>simp
 |cons _ _=>simp
def aL2:OpR X (zCG .Add) (aPe X.K):=by
 intro kX s Z H x y v u Q I rx ry h;obtain⟨a,b,xs,ys,rfl,rfl,ha,hb,hx,hz,q1,q2⟩:=h;cases rx;cases ry;obtain⟨its,r1,p1,_⟩:=I.tuple ha;obtain⟨its2,r2,p2,_⟩:=I.tuple hb;refine HT.aM1 p1 p2 (λ z=>hx (r1.nil_iff.mp z)) (λ z=>⟨.ref a,H,I,rfl,q1 (r2.nil_iff.mp z)⟩) (λ z=>?_) (by rw[<-r1.length,<-r2.length];exact hz);refine⟨.ref s.heap.objs.size,_,I.laid (t':=s.toks) (o:=.tup (xs++ys)) (λ b ob q=>zAG _ q) (zAQ _) ?_,rfl,q2 (λ w=>z (r2.nil_iff.mpr w)) _ (I.hok.fresh (zAQ _))⟩;exact⟨⟨by rw[zAp];exact hz,NoD.push _⟩,_,r1.append r2,zH8 _ _⟩
end
def ixN(n:Nat)(i:Int):Option Nat:=if 0<=i then(if i<n then some i.toNat else none)else if -(n:Int)<=i then some (i+n).toNat else none
def atI{α:Type}(xs:List α)(i:Int):Option α:=(ixN xs.length i).bind λ j=>xs[j]?
def aCk(h:ixN n i=some j):seqIndex? i n=some j/\j<n/\-(n:Int)<=i/\i<n:=by
 unfold ixN at h;by_cases h0:0<=i
 .rw[if_pos h0]at h
  by_cases h1:i<n
  .rw[if_pos h1]at h
   have e:i.toNat=j:=zAc h;exact⟨by rw[zIG h0 h1,e],by lia,by lia,h1⟩
  .rw[if_neg h1]at h;cases h
 .rw[if_neg h0]at h
  by_cases h1: -(n:Int)<=i
  .rw[if_pos h1]at h
   have e:(i+n).toNat=j:=zAc h;exact⟨by rw[zHn (by lia) h1,e],by lia,h1,by lia⟩
  .rw[if_neg h1]at h;cases h
def aDE(h:atI xs i=some v):∃j,seqIndex? i xs.length=some j/\xs[j]? =some v/\j<xs.length/\-(xs.length:Int)<=i/\i<xs.length:=by
 unfold atI at h;cases e:ixN xs.length i with
 |none=>rw[e]at h;cases h
 |some j=>
  rw[e]at h;obtain⟨h1,h2,h3,h4⟩:=aCk e;exact⟨j,h1,h,h2,h3,h4⟩
def zV(b:Expr):Prop:=∀o i,subscripted b false o i=operate [o,i] (zGQ o i)
def IxR(X:Cx)(r:R2):Prop:=
 ∀(value slice:Expr) (kX:hZ) (s:zAD) (Z:St) (H:Hp) (x y:V) (v u:Value) (Q:VK),Inv X kX Z H s->RelV x v->RelV y u->r x y H Q->
  subscripted slice false v u=operate [v,u] (zGQ v u)->wpAny (model X.prog X.w) X.A (subscriptTail value slice v u) (EP X kX Z Q) X.xe s
def MtR(X:Cx)(id:String)(r:V->List V->Hp->VK->Prop):Prop:=
 ∀(kX:hZ) (s:zAD) (Z:St) (H:Hp) (x:V) (xs:List V) (v:Value) (us:List Value) (Q:VK),Inv X kX Z H s->RelV x v->Vals xs us->r x xs H Q->
  wpAny (model X.prog X.w) X.A (call (.builtin id) (v::us)) (EP X kX Z Q) X.xe s
section
variable{X:Cx}{a b:Expr}{ta tb:TE}{pos:Pos}
def IxR.or(h:IxR X r)(h':IxR X r'):IxR X (λ x y H Q=>r x y H Q\/r' x y H Q):=by
 intro value slice kX s Z H x y v u Q I rx ry q hs;rcases q with q|q
 .exact h value slice kX s Z H x y v u Q I rx ry q hs
 .exact h' value slice kX s Z H x y v u Q I rx ry q hs
def aIw{r:R2}(hr:IxR X r)(ha:PE X a ta)(hb:PE X b tb)(hs:zV b):PE X (.Subscript a b pos) (tOp r ta tb):=by
 intro kX s Z H Q I h;exact Subscript_ (aOq ha hb I h λ v u s2 x y H2 I2 rx ry q=>hr a b kX s2 Z H2 x y v u Q I2 rx ry q (hs _ _))
def aPd(K:zAA):R2:=λ x y H Q=>∃p xs i v,x= .ref p/\y= .int i/\SqL K H p xs/\atI xs i=some v/\Q v H
def aPc(K:zAA):R2:=λ x y H Q=>∃p xs i v,x= .ref p/\y= .int i/\SqT K H p xs/\atI xs i=some v/\Q v H
def aNa:R2:=λ x y H Q=>∃z i c,x= .str z/\y= .int i/\z.length<=zAU/\atI z.cps.toList i=some c/\Q (.str ⟨#[c]⟩) H
def aGa:IxR X (aPd X.K):=by
 intro value slice kX s Z H x y v u Q I rx ry h hs;obtain⟨p,xs,i,z,rfl,rfl,hq,he,q⟩:=h;cases rx;obtain⟨t,rfl⟩:=ry;obtain⟨its,r,pl,hz⟩:=I.list hq;obtain⟨j,h1,h2,h3,h4,h5⟩:=aDE he;obtain⟨w,ew,rw'⟩:=r.get h2;have hl:=r.length;have hn:=u9;have fin:EP X kX Z Q w s:=⟨z,H,I,rw',q⟩;by_cases h0:0<=i
 .have hj:i.toNat=j:=by
   rw[zIG h0 h5]at h1;exact zAc h1
  exact item_listR pl.isList h0 (by lia) (by rw[hj];simpa using ew) fin hs
 .have hj:(i+(its.toArray.size:Int)).toNat=j:=by
   rw[zHn (by lia) h4]at h1;rw[zAP,<-hl];exact zAc h1
  exact zH2 (x:=w) pl.isList.typeIs zId.lookup
   (wpAny_getItem_list_neg (Q:=λ r s'=>r=w/\EP X kX Z Q r s') pl.isList (by lia) (by rw[zAP]<;>lia) (by lia) (by rw[hj];simpa using ew) ⟨rfl,fin⟩) hs
def aO3:IxR X (aPc X.K):=by
 intro value slice kX s Z H x y v u Q I rx ry h hs;obtain⟨p,xs,i,z,rfl,rfl,hq,he,q⟩:=h;cases rx;obtain⟨t,rfl⟩:=ry;obtain⟨its,r,pl,hz⟩:=I.tuple hq;obtain⟨j,h1,h2,h3,h4,h5⟩:=aDE he;obtain⟨w,ew,rw'⟩:=r.get h2;have hl:=r.length;have hn:=u9;have fin:EP X kX Z Q w s:=⟨z,H,I,rw',q⟩;exact zH2 (x:=w) pl.typeIs slot_tuple_getitem.lookup
  (getItem_tuple (j:=j) (Q:=λ r s'=>r=w/\EP X kX Z Q r s') pl (by lia) (by lia) (by rw[zAP,<-hl];exact h1) (by simpa using ew) ⟨rfl,fin⟩) hs
def aJd:IxR X aNa:=by
 intro value slice kX s Z H x y v u Q I rx ry h hs;obtain⟨z,i,c,rfl,rfl,hz,he,q⟩:=h;obtain⟨t,rfl⟩:=rx;obtain⟨t',rfl⟩:=ry;obtain⟨j,h1,h2,h3,h4,h5⟩:=aDE he;have hl:z.cps.toList.length=z.length:=by simp[zBb]
 rw[hl]at h1 h4 h5;have hn:=u9;exact tail_any (zEi s z t) slot_str_getitem.lookup (getItem_str (c:=c) (by
  have e1:decide (i < -(2^63:Int))=false:=decide_eq_false (by lia);have e2:decide (i ≥ 2^63)=false:=decide_eq_false (by lia);rw[e1,e2,Bool.or_false]) (by rw[h1];simpa using h2) ⟨.str ⟨#[c]⟩,H,I.tok _,⟨_,rfl⟩,q⟩) hs
def rIx(K:zAA):R2:=λ x y H Q=>aPd K x y H Q\/aPc K x y H Q\/aNa x y H Q
def aO4:IxR X (rIx X.K):=aGa.or (aO3.or aJd)
def aFU(its:List Value)(n j:Nat)(u:Value):zCI (·.setIfInBounds j u) {cls:=.type "list",data:=.seq its.toArray n}={cls:=.type "list",data:=.seq (its.set j u).toArray n}:=by
 simp[zCI]
theorem Inv.lst(I:Inv X kX Z H s)(h:H p=some (.lst xs)):
  ∃(its:List Value) (n:Nat),Vals xs its/\s.heap.get? p=some {cls:=.type "list",data:=.seq its.toArray n}/\xs.length<=zAU:=by
 obtain⟨z,its,n,r,e⟩:=I.hok p _ h;exact⟨its,n,r,e,z⟩
def Inv.lstUpd{kX:hZ}{Z:St}{H:Hp}{s:zAD}{p:Addr}{xs ys:List V}{its its':List Value}{n n':Nat}{f:Obj->Obj}(I:Inv X kX Z H s)(h:H p=some (.lst xs))
  (ho:s.heap.get? p=some {cls:=.type "list",data:=.seq its.toArray n})(hf:f {cls:=.type "list",data:=.seq its.toArray n}={cls:=.type "list",data:=.seq its'.toArray n'})(r:Vals ys its')(hz:ys.length<=zAU)(t:Nat):
  Inv X kX Z (upd H p (.lst ys)) {s with heap:=s.heap.update p f,toks:=t}:=by
 have e:(s.heap.update p f).get? p=some {cls:=.type "list",data:=.seq its'.toArray n'}:=by
  rw[zEK f ho (by rw[hf]<;>rfl),hf]
 refine I.write (x:=p) (e:=p) (by rw[h];trivial) (.inl rfl) (λ b u hb q=>(zGL _ _ (zDL hb)).trans q) ⟨_,e⟩ ?_;exact⟨hz,its',n',r,e⟩
def aDh:V->V->V->Hp->(Hp->Prop)->Prop:=λ o i v H Q=>∃p xs k j,o= .ref p/\i= .int k/\H p=some (.lst xs)/\ixN xs.length k=some j/\Q (upd H p (.lst (xs.set j v)))
def set_list:aQL X aDh:=by
 intro kX s Z H o i v ov iv u Q I ro ri rv h;obtain⟨p,xs,k,j,rfl,rfl,hp,hj,q⟩:=h;cases ro;obtain⟨t,rfl⟩:=ri;obtain⟨its,n,r,ho,hz⟩:=I.lst hp;obtain⟨h1,h2,h3,h4⟩:=aCk hj;have hl:=r.length;have hn:=u9;have I':Inv X kX Z (upd H p (.lst (xs.set j v))) {s with heap:=s.heap.update p (zCI (·.setIfInBounds j u))}:=
  I.lstUpd hp ho (aFU its n j u) (r.set rv j) (by rw[zAz];exact hz) s.toks
 by_cases h0:0<=k
 .have hk:k.toNat=j:=by
   rw[zIG h0 h4]at h1;exact zAc h1
  exact PySem.W.ki_setAt ho h0 (by lia) (by rw[zAP,<-hl];exact h4) (by rw[hk];exact⟨_,I',q⟩)
 .have hk:(k+(its.toArray.size:Int)).toNat=j:=by
   rw[zHn (by lia) h3]at h1;rw[zAP,<-hl];exact zAc h1
  exact PySem.W.ki_setBack ho (by lia) (by rw[zAP,<-hl];exact h3) (by lia) (by rw[hk];exact⟨_,I',q⟩)
def aCP(lo hi:Option Int)(n:Nat):(zDl lo hi none n).1=((HT.sIx n 0 lo:Nat):Int)/\(zDl lo hi none n).2.1=((HT.sIx n n hi:Nat):Int)/\(zDl lo hi none n).2.2=1:=by
 refine⟨?_,?_,rfl⟩
 .cases lo with
  |none=>simp[zDl,HT.sIx]
  |some i=>
   simp only[zDl,HT.sIx,zHC,show(1:Int)>0 by decide,if_true];by_cases h:i<0
   .simp only[h,if_true]<;>lia
   .simp only[h,if_false]<;>lia
 .cases hi with
  |none=>simp[zDl,HT.sIx]
  |some i=>
   simp only[zDl,HT.sIx,zHC,show(1:Int)>0 by decide,if_true];by_cases h:i<0
   .simp only[h,if_true]<;>lia
   .simp only[h,if_false]<;>lia
def aBA(its:List Value)(lo hi:Option Int):slicePick its.toArray lo hi none=((its.drop (HT.sIx its.length 0 lo)).take (HT.sIx its.length its.length hi-HT.sIx its.length 0 lo)).toArray:=by
 obtain⟨h1,h2,h3⟩:=aCP lo hi its.toArray.size;unfold slicePick;rw[h1,h2,h3];simp only[sliceRange_one,pick_run,zAP]<;>rfl
def aPa(K:zAA):V->Option Int->Option Int->Hp->VK->Prop:=λ x lo hi H Q=>∃a xs,x= .ref a/\SqL K H a xs/\∀p,H p=none->Q (.ref p) (upd H p (.lst (aAs xs lo hi)))
def aKn:SlR X (aPa X.K):=by
 intro kX s Z H x v vl vu lo hi sl Q I rx hs pl pu h;obtain⟨a,xs,rfl,hx,q⟩:=h;cases rx;obtain⟨its,r,ht,hz⟩:=I.list hx;have kK:=r.length;refine⟨"list",_,zId.lookup,ht.isList.typeIs,?_⟩;refine wpAny_getItem_list_slice ht.isList hs pl pu .none (by simp) ?_ (by rw[zAP]<;>lia);rw[aBA,<-kK];refine⟨.ref s.heap.objs.size,_,I.laid (t':=s.toks) (o:=.lst (aAs xs lo hi)) (λ b ob q=>zAG _ q) (zAQ _) ?_,rfl,q _ (I.hok.fresh (zAQ _))⟩;exact⟨zAg (yO xs lo hi) hz,_,0,(r.drop (HT.sIx xs.length 0 lo)).take (HT.sIx xs.length xs.length hi-HT.sIx xs.length 0 lo),zAZ _ rfl⟩
def aDA:lH X (.builtin "len") (λ xs H Q=>∃p ys,xs=[.ref p]/\(SqL X.K H p ys\/SqT X.K H p ys)/\Q (.int ys.length) H):=by
 intro kX s Z H xs us Q I r h;obtain⟨p,ys,rfl,hq,q⟩:=h;obtain⟨u,rfl,rx⟩:=vals1 r;cases rx;have hn:=u9;rcases hq with hq|hq
 .obtain⟨its,r',pl,hz⟩:=I.list hq
  have kK:=r'.length;exact Calls.call_len_list pl.isList (by simp only[zAP]<;>lia) ⟨.int ys.length,H,I.tok _,⟨s.toks+1,by rw[zAP,kK]⟩,q⟩
 .obtain⟨its,r',pl,hz⟩:=I.tuple hq
  have kK:=r'.length;exact len_tuple pl (by simp only[zAP]<;>lia) ⟨.int ys.length,H,I.tok _,⟨s.toks+1,by rw[zAP,kK]⟩,q⟩
def aCz:lH X (.builtin "len") (λ xs H Q=>∃z,xs=[.str z]/\z.length<=zAU/\Q (.int z.length) H):=by
 intro kX s Z H xs us Q I r h;obtain⟨z,rfl,hz,q⟩:=h;obtain⟨u,rfl,t,rfl⟩:=vals1 r;have hn:=u9;exact len_str (by lia) ⟨.int z.length,H,I.tok _,⟨_,rfl⟩,q⟩
def aBR:lH X (.type "tuple") (λ xs H Q=>∃p ys,xs=[.ref p]/\((SqL X.K H p ys/\∀l,H l=none->Q (.ref l) (upd H l (.tup ys)))\/(SqT X.K H p ys/\Q (.ref p) H))):=by
 intro kX s Z H xs us Q I r h;obtain⟨p,ys,rfl,h⟩:=h;obtain⟨u,rfl,rx⟩:=vals1 r;cases rx;rcases h with ⟨hq,q⟩|⟨hq,q⟩
 .obtain⟨its,r',pl,hz⟩:=I.list hq
  have kK:=r'.length;refine call_tuple_list pl.isList (λ h' kp=>?_) (by simp only[zAP]<;>lia);have I1:Inv X kX Z H {s with heap:=h'}:=I.kept (t':=s.toks) kp;have I2:Inv X kX Z (upd H h'.objs.size (.tup ys)) {s with heap:=h'.push {cls:=.type "tuple",data:=.seq its.toArray}}:=
   I1.laid (t':=s.toks) (λ b o e=>zAG _ e) (zAQ _) (show cZ X.prog X.w _ _ _ (.tup ys)from⟨⟨hz,NoD.push _⟩,its,r',zH8 _ _⟩)
  exact⟨.ref h'.objs.size,_,I2,rfl,q _ (I1.hok.fresh (zAQ _))⟩
 .obtain⟨its,r',pl,hz⟩:=I.tuple hq
  exact call_tuple_same pl ⟨.ref p,H,I,rfl,q⟩
def tyV(K:zAA)(T:String)(x:V)(H:Hp):Prop:=match x with
 | .str _=>T="str"
 | .int _=>T="int"
 | .ref p=>(T="list"/\∃xs,SqL K H p xs)\/(T="tuple"/\∃o,K.lookup p=some o/\o.cls= .type "tuple"/\o.dict=none)\/
   (T="dict"/\((∃kvs,H p=some (.dK kvs))\/∃kvs,H p=some (.dT kvs)))\/(T="set"/\∃S n,H p=some (.set S n))
 |_=>False
def aNI(I:Inv X kX Z H s)(r:RelV x v)(ty:tyV X.K T x H):
  s.TypeIs v T/\∀a,v= .ref a->∃ob,s.heap.get? a=some ob/\ob.dict=none:=by
 cases x with
 |str z=>
  obtain⟨t,rfl⟩:=r;cases (show T="str" from ty);exact⟨zEi s z t,λ _ e=>nomatch e⟩
 |int i=>
  obtain⟨t,rfl⟩:=r;cases (show T="int" from ty);exact⟨zIe s i t,λ _ e=>nomatch e⟩
 |ref p=>
  cases r;rcases ty with ⟨rfl,xs,hq⟩|⟨rfl,o,hk,hc,hd⟩|⟨rfl,hk⟩|⟨rfl,S,n,hk⟩
  .obtain⟨its,_,pl,_⟩:=I.list hq
   refine⟨pl.isList.typeIs,λ a e=>?_⟩;cases e;obtain⟨o,n,e,c,hd,_⟩:=pl;exact⟨o,e,hd⟩
  .refine⟨⟨o,I.kIn p o hk,hc⟩,λ a e=>?_⟩
   cases e;exact⟨o,I.kIn _ o hk,hd⟩
  .have z:∃o,s.heap.get? p=some o/\o.ExactDict:=by
    rcases hk with ⟨kvs,hk⟩|⟨kvs,hk⟩
    .obtain⟨_,_,_,_,o,_,_,e,ex,_⟩:=I.hok p _ hk
     exact⟨o,e,ex⟩
    .obtain⟨_,_,_,_,o,_,_,e,ex,_⟩:=I.hok p _ hk
     exact⟨o,e,ex⟩
   obtain⟨o,e,ex⟩:=z;refine⟨⟨o,e,ex.1⟩,λ a e2=>?_⟩;cases e2;exact⟨o,e,ex.2.1⟩
  .obtain⟨o,_,_,_,e,ex,_⟩:=I.hok p _ hk
   refine⟨⟨o,e,ex.1⟩,λ a e2=>?_⟩;cases e2;exact⟨o,e,ex.2.1⟩
 |_=>exact zAJ ty
def tBM(K:zAA)(T:String)(r:V->List V->Hp->VK->Prop)(to:TE)(t:TA):TE:=λ Z H Q=>to Z H λ x H1=>tyV K T x H1/\t Z H1 λ xs H2=>r x xs H2 Q
variable{o e:Expr}{es:List Expr}{to:TE}{t:TA}{name:Str}{apos cpos:Pos}{T id:String}{r:V->List V->Hp->VK->Prop}
def xq(pa:PlainAttrs T)(slot:Slot T name id)(hty:typeOf (.builtin id)=pure (.type "method_descriptor"))(hm:MtR X id r)(ho:PE X o to)(ha:PA X (e::es) t)
  (hbase:zCl o name X.env (eval o X.env)=eval o X.env:=by rfl)
  (hfew:((zBw cpos (zAV (e::es) X.env)).all (λ x=>!x.1)&&(zDy cpos (zCd [] X.env)).all (λ x=>x.1.isSome)
   &&decide ((e::es).length+([]:List zBv).length+(if ([]:List zBv).isEmpty then 0 else 1)<30))=true:=by rfl)
  (hline:(apos.endLine==cpos.line)=true:=by rfl)(hs:zAV (e::es) X.env=(false,eval e X.env)::zAV es X.env:=by rfl)(hplain:(zBw cpos (zAV es X.env)).any (·.1)=false:=by rfl):
  PE X (.Call (.Attribute o name apos) (e::es) [] cpos) (tBM X.K T r to t):=by
 intro kX s Z H Q I h;refine wpAny_Call_method_late hbase hfew hline rfl (thn (ho kX s Z H _ I h) λ v s1 ⟨x,H1,I1,r1,ty,q1⟩=>?_);obtain⟨h1,h2⟩:=aNI I1 r1 ty;refine⟨T,id,pa,slot,hty,h1,h2,?_⟩;have hA:=ha cpos kX s1 Z H1 _ I1 q1;rw[hs]at hA ⊢;refine zFx (by show(false||(zBw cpos (zAV es X.env)).any (·.1))=false;rw[hplain]<;>rfl) (zER ?_);exact thn hA λ us s2 ⟨vs,H2,I2,r2,q2⟩=>hm kX s2 Z H2 x vs v us Q I2 r1 r2 q2
end
def MtM(X:Cx)(id:String)(r:V->List V->Hp->VK->Prop):Prop:=
 ∀(kX:hZ) (s:zAD) (Z:St) (H:Hp) (x:V) (xs:List V) (v:Value) (us:List Value) (Q:VK),Inv X kX Z H s->RelV x v->Vals xs us->r x xs H Q->
  wpAny (model X.prog X.w) X.A (call (.builtin id) (v::us)) (EP X kX Z Q) X.xe s
def Vals.one:∀{x:V} {us:List Value},Vals [x] us->∃u,us=[u]/\RelV x u
 |_,_,.cons r .nil=>⟨_,rfl,r⟩
theorem Vals.eraseIdx:∀{xs:List V} {us:List Value} (i:Nat),Vals xs us->Vals (xs.eraseIdx i) (us.eraseIdx i)
 |_,_,_,.nil=>.nil
 |_,_,0,.cons _ t=>t
 |_,_,i+1,.cons r t=>.cons r (Vals.eraseIdx i t)
theorem Vals.rep(h:Vals xs us):∀k:Nat,Vals (zBD k xs).flatten (zBD k us).flatten
 |0=>.nil
 |k+1=>by
  rw[zBa,zBa,zC6,zC6];exact Vals.append h (Vals.rep h k)
theorem aBd:∀(l:List α) (i:Nat),(l.eraseIdx i).length<=l.length
 |[],_=>zAQ _
 |_::_,0=>zFZ _
 |_::r,i+1=>Nat.succ_le_succ (aBd r i)
theorem foldl_rep(its:List Value):∀(k:Nat) (acc:List Value),
  zHP (λ x1 x2=>x1++x2) acc.toArray (zBD k its.toArray)=(acc++(zBD k its).flatten).toArray
 |0,acc=>by simp
 |k+1,acc=>by
  have e:acc.toArray++its.toArray=(acc++its).toArray:=by simp
  have e2:(acc++its)++(zBD k its).flatten=acc++(zBD (k+1) its).flatten:=by
   rw[zBa,zC6,zBU]
  rw[<-e2,<-foldl_rep its k (acc++its),<-e,zBa,zBn]
section
variable{X:Cx}{kX:hZ}{Z:St}{H:Hp}{s:zAD}{l:Addr}{xs ys:List V}
def Inv.lset{its its':List Value}{n:Nat}{f:Array Value->Array Value}{t':Nat}(I:Inv X kX Z H s)(hH:H l=some (.lst xs))
  (e:s.heap.get? l=some {cls:=.type "list",data:=.seq its.toArray n})(hf:f its.toArray=its'.toArray)(hv:Vals ys its')(hz:ys.length<=zAU):
  Inv X kX Z (upd H l (.lst ys)) {s with heap:=s.heap.update l (zCI f),toks:=t'}:=by
 have q:=PySem.IsL.update e f;rw[hf]at q;refine I.write (x:=l) (e:=l) (by rw[hH];exact trivial) (.inl rfl) (λ b' u hb hu=>(zGL s.heap (zCI f) (zDL hb)).trans hu) ⟨_,q⟩ ?_;exact⟨hz,its',_,hv,q⟩
def Inv.lnew(I:Inv X kX Z H s)(hv:Vals ys its)(hz:ys.length<=zAU):
  Inv X kX Z (upd H s.heap.objs.size (.lst ys)) {s with heap:=s.heap.push {cls:=.type "list",data:=.seq its.toArray},toks:=t'}:=
 I.laid (λ _ _ q=>zAG _ q) (zAQ _) ⟨hz,its,0,hv,zAZ _ rfl⟩
theorem Inv.fresh(I:Inv X kX Z H s):H s.heap.objs.size=none:=I.hok.fresh (zAQ _)
def Inv.lstM(I:Inv X kX Z H s)(hH:H l=some (.lst xs)):xs.length<=zAU/\∃(its:List Value) (n:Nat),Vals xs its/\xs.length=its.length/\s.heap.get? l=some {cls:=.type "list",data:=.seq its.toArray n}:=by
 obtain⟨z,its,n,r,e⟩:=I.hok l _ hH;exact⟨z,its,n,r,r.length,e⟩
def aJM(h:n<=zAU):zDW n=false:=by
 unfold zDW;exact decide_eq_false (by lia)
end
section
variable{X:Cx}
def aLG:V->List V->Hp->VK->Prop:=λ x vs H Q=>∃l xs y,x= .ref l/\vs=[y]/\H l=some (.lst xs)/\xs.length<zAU/\Q .non (upd H l (.lst (xs++[y])))
def aBb:MtM X "list.append" aLG:=by
 intro kX s Z H x vs v us Q I rx rv h;obtain⟨l,xs,y,rfl,rfl,hH,hz,q⟩:=h;cases rx;obtain⟨u,rfl,ru⟩:=rv.one;obtain⟨z,its,n,r,hl,e⟩:=I.lstM hH;refine zCm zGX ⟨_,e,rfl⟩ F.entry_list_append (F.args_list_append_2 _ _) (PySem.list_append l its.toArray n u (by rw[zAP];lia)) ⟨e,?_⟩;refine⟨.non,_,I.lset (its':=its++[u]) hH e (by simp) (r.append (.cons ru .nil)) ?_,rfl,q⟩;rw[zAp,zCX];lia
def aI8:V->List V->Hp->VK->Prop:=λ x vs H Q=>∃l xs i k y,x= .ref l/\vs=[.int i]/\H l=some (.lst xs)/\-(2^63)<=i/\i<2^63/\seqIndex? i xs.length=some k/\xs[k]? =some y/\Q y (upd H l (.lst (xs.eraseIdx k)))
def aJS:MtM X "list.pop" aI8:=by
 intro kX s Z H x vs v us Q I rx rv h;obtain⟨l,xs,i,k,y,rfl,rfl,hH,h1,h2,hk,hy,q⟩:=h;cases rx;obtain⟨u,rfl,ru⟩:=rv.one;obtain⟨t,rfl⟩:=ru;obtain⟨z,its,n,r,hl,e⟩:=I.lstM hH;obtain⟨w,hw,rw'⟩:=r.get hy;refine zCm zGx ⟨_,e,rfl⟩ F.entry_list_pop (F.args_list_pop_2 _ _)
  (MeetsSeq.list_pop_at l its.toArray n i t k w (fitsIndex_both h1 h2) (by rw[zAP,<-hl];exact hk) (by rw[<-zAf];exact hw) (by rw[zAP];lia)) ⟨e,?_⟩
 refine⟨y,_,I.lset (its':=its.eraseIdx k) hH e ?_ (r.eraseIdx k) ?_,rw',q⟩
 .show its.toArray.eraseIdxIfInBounds k=(its.eraseIdx k).toArray
  rw[List.eraseIdxIfInBounds_toArray]
 .have:=aBd xs k
  lia
def aQ2:R2:=λ x y H Q=>∃l b xs zs,x= .ref l/\y= .ref b/\H l=some (.lst xs)/\H b=some (.lst zs)/\xs.length+zs.length<=zAU/\∀p,H p=none->Q (.ref p) (upd H p (.lst (xs++zs)))
def aON:OpR X (zCG .Add) aQ2:=by
 intro kX s Z H x y v u Q I rx ry h;obtain⟨l,b,xs,zs,rfl,rfl,hH,hB,hz,q⟩:=h;cases rx;cases ry;obtain⟨z,its,n,r,hl,e⟩:=I.lstM hH;obtain⟨z2,its2,n2,r2,hl2,e2⟩:=I.lstM hB;refine PySem.P.add_list e e2 ?_ (by rw[zAP,zAP];lia);have ea:its.toArray++its2.toArray=(its++its2).toArray:=by simp
 rw[ea];exact⟨.ref _,_,I.lnew (t':=s.toks) (r.append r2) (by rw[zAp];lia),rfl,q _ I.fresh⟩
def aPb:R2:=λ x y H Q=>∃l k xs,x= .ref l/\y= .int k/\H l=some (.lst xs)/\-(2^63)<=k/\k<2^63/\xs.length*k.toNat<=zAU/\
 ∀p,H p=none->Q (.ref p) (upd H p (.lst (zBD k.toNat xs).flatten))
def len_rep(xs:List α)(k:Nat):(zBD k xs).flatten.length=k*xs.length:=by
 induction k with
 |zero=>simp
 |succ k ih=>rw[zBa,zC6,zAp,ih,Nat.succ_mul,Nat.add_comm]
def aOA:OpR X (zCG .Mult) aPb:=by
 intro kX s Z H x y v u Q I rx ry h;obtain⟨l,k,xs,rfl,rfl,hH,h1,h2,hz,q⟩:=h;cases rx;obtain⟨t,rfl⟩:=ry;obtain⟨z,its,n,r,hl,e⟩:=I.lstM hH;have kK:its.toArray.size*k.toNat<=zAU:=by rw[zAP,<-hl];exact hz
 have hcap:¬its.toArray.size*k.toNat>(2^63-1) / 8:=by
  have:(zAU:Nat)<=(2^63-1) / 8:=by decide
  lia
 have hfit:¬(!zDI k)=true:=by
  rw[fitsIndex_both h1 h2];exact zAM
 have hlong:¬zDW (its.toArray.size*k.toNat)=true:=by
  rw[aJM kK];exact zAM
 have hnew:zHP (λ x1 x2=>x1++x2) #[] (zBD (if its.toArray.isEmpty=true then 0 else k.toNat) its.toArray)=(zBD k.toNat its).flatten.toArray:=by
  have f0:∀m:Nat,zHP (λ x1 x2=>x1++x2) #[] (zBD m its.toArray)=(zBD m its).flatten.toArray:=λ m=>by
   have:=foldl_rep its m []
   rw[zD3]at this;exact this
  rw[f0];cases its with
  |nil=>simp
  |cons a r'=>rw[if_neg (by simp)]
 refine wpAny_binaryOp_repeat_ref (T:="list") (U:="int") (by decide) ⟨_,e,rfl⟩ (λ s'=>zIe s' k t) noFill_list_mul F.fills_int_mul zI0 repeat_list F.slot_int_index.lookup
  (zCm zI0 (zIe s k t) F.entry_int_rmul (F.args_int_rmul_2 _ _) (int___rmul___int_list k t l its.toArray n)
   ⟨e,rfl,⟨_,e,rfl⟩,zCm F.slot_list_mul ⟨_,e,rfl⟩ F.entry_list_mul (F.args_list_mul_2 _ _) (AutoListH.list___mul___list_int_3 l its.toArray n k t hfit hcap hlong) ⟨e,?_⟩⟩)
 rw[hnew];exact⟨.ref _,_,I.lnew (t':=s.toks) (r.rep k.toNat) (by rw[len_rep,Nat.mul_comm];exact hz),rfl,q _ I.fresh⟩
end
end L2
namespace Att
open PySem PySem.W PySem.Calls PyProof.Rows
def yh:∀(ns:List Int) (vs:List Value),WellAll P h vs (ns.map WData.int)->zBQ vs ns:=by
 intro ns;induction ns with
 |nil=>
  intro vs w;rw[zEw]at w;cases w;exact .nil
 |cons n ns ih=>
  intro vs w;rw[zAE]at w;cases w with
  |cons a b=>
   cases a;exact .cons _ _ (ih _ b)
def aHA{l:OpenLaw}{n:Nat}(hn:l.most=some n){P:Params}{h:Heap}{args:List WData}{vals:List Value}
  (hpre:l.row.toRowW.claim.pre args=true)(hwl:WellAll P h vals args):
  ∃a vs ns,vals=[zBF a]/\args=[WData.list (ns.map WData.int)]/\h.get? a=some {cls:=.type "list",data:=.seq vs.toArray}/\zBQ vs ns/\ns.length<=n:=by
 have hsh:WShape.hasAll [] args [.list .int]=true:=(pre_splitW hpre).1;have hc:l.pre.holds [] {args:=args}=true:=(pre_splitW hpre).2;obtain⟨d,r,rfl,h1,h2⟩:=hasAllW_cons hsh;obtain rfl:=hasAllW_nil h2;obtain⟨xs,rfl,h3⟩:=hasW_list h1;obtain⟨ns,rfl⟩:=items_int h3;have kK:ns.length<=n:=by
  unfold OpenLaw.pre at hc;have h4:(WTm.not (.lt (.lit (.int (n:Int))) (.len (.arg 0)))).holds [] {args:=[.list (ns.map .int)]}=true:=by
   have h4:=(holds_andW hc).1;rw[hn]at h4;exact h4
  have h5:=condW_of h4 (w_not (w_lt w_lit (w_len_list (w_arg rfl))));rw[zAF]at h5;refine zHv λ q=>?_
  have q':(n:Int)<((ns.length:Nat):Int):=by lia
  first
   |(rw[decide_eq_true q']at h5;exact absurd h5 (by decide))
   |(simp at h5;lia)
 cases hwl with
 |cons w1 w2=>
  cases w2;cases w1 with
  |list ho pV=>exact⟨_,_,ns,rfl,rfl,ho,yh ns _ pV,kK⟩
def aHK(l:OpenLaw)(args:List WData):l.row.toRowW.claim.post args (.bool true) args=true:=
 postW_of (r:=l.row.toRowW) (X:=(true==true))
  (show WShape.has [] (.bool true) .bool=true by first|rfl|decide|simp[WShape.has,WShape.arms,WShape.armsAll])
  (show(WTm.eq .res (.lit (.bool true))).value [] {args:=args,res:=some (.bool true),after:=args}=some (.bool (true==true))from w_eq_bool (w_res rfl) w_lit) rfl
def aE6{l:OpenLaw}{n:Nat}{q:zAS}{loose:List Str}{XP:(Str->Option Value)->Heap->Prop}{YP:World->Heap->Prop}{d:DefRec}
  (hn:l.most=some n)(hdf:d.params.defaults=[])
  (call:∀(w:World) (z5 zS:zAD) (mg mb:Str->Option Value) (fa:Addr) (o:Obj) (pm cd doc:Value) (a:Addr) (vs:List Value) (ns:List Int),
   Ground q loose [] XP w z5 mg mb zS.heap->YP w zS.heap->
   zS.heap.get? fa=some o->o.data= .func (docDef d.name d.params d.body d.scope pm cd doc)->zS.heap.CodeRec cd d.name->mg d.name=some (.ref fa)->
   zS.heap.get? a=some {cls:=.type "list",data:=.seq vs.toArray}->zBQ vs ns->ns.length<=n->zS.gens=#[]->
   zCJ (model l.prog w) zFA (.call (.ref fa) ⟨[.ref a],[]⟩) (λ r s'=>r= .ok (.ret (.bool true))/\OldK zS.heap s'.heap/\s'.os=zS.os/\zE5 s'.gens) zS):
  WalkO q loose XP YP l.row.toRowW d [] (λ f vs=>zHE f vs):=by
 intro w z5 zS mg mb G Y fa o pm cd doc dV kV ho hd hcd hD hmg hg args vals as hpre hlay hrd hwl hlo;obtain rfl:dV= .none:=Dflts.none hD hdf;obtain rfl:kV= .none:=Dflts.noKw hD;obtain⟨a,vs,ns,rfl,rfl,hobj,hints,kK⟩:=aHA hn hpre hwl;refine enter_call (zDB (call w z5 zS mg mb fa o pm cd doc a vs ns G Y ho (fd_plain hd) hcd hmg hobj hints kK hg) λ r s' hq=>?_);obtain⟨rfl,h2,h3,h4⟩:=hq;exact⟨.inl ⟨.bool true,.bool true,[],rfl,λ _=>rfl,.bool true,aHK l _,λ _=>⟨zFY,λ _ hm=>(nomatch hm)⟩⟩,h2,h3,h4⟩
section
variable{prog:zAS}{w:World}{A:zA6}{E:Value->zAD->Prop}{s:zAD}{K:Frag}
def make_obj(X:K.In s.heap)(hm:makesIn K C=true)(hi:findIn K (.ref C) "__init__"=some (some (.ref fI)))(hf:isFn K (.ref fI)=true)
  (h:zCJ (model prog w) (A.under (.builtin "type.__call__" ⟨.ref C::rest,kw⟩)) (.call (.ref fI) ⟨.ref (s.heap.objs.size+1)::rest,kw⟩) (InitBack (s.heap.objs.size+1) R)
   {s with heap:=(s.heap.push emptyDict).push (instObj C s.heap.objs.size)}):zCJ (model prog w) A (.call (.ref C) ⟨rest,kw⟩) R s:=by
 obtain⟨hh,g,d,t,os⟩:=s;exact make_core (makes_of X hm) (looks_findIn X hi) (λ self=>bind_fn X self (beq_iff_eq.mp hf)) (.inl rfl) h
def get_field(X:K.In s.heap)(I:zHV s.heap x ox C (some (dictOf es n)))(hg:plainGet K C name=true)(hh:hasDictIn K C=true)(ha:findIn K (.ref C) name=some none)
  (hl:getL name es=some (some v))(hv:handedIn v=true)(h:Q v {s with toks:=s.toks+1}):wpAny (model prog w) A (getAttr (.ref x) name expr) Q E s:=
 get_value X I (plainGet_of hg).1 (findObj_own hh ha rfl hl) hv h
def ledger(h:Heap)(L d:Addr):hZ:=(zAh h.objs.size).filterMap λ a=>if a=L\/a=d then none else(h.get? a).map λ o=>(a,o)
end
end Att
namespace L2
open PySem PySem.Spec PyProof.Rows
theorem aBW:∀{vs:List Value} {ns:List Int},zBQ vs ns->Vals (ns.map V.int) vs
 |_,_,.nil=>.nil
 |_,_,.cons n t h=>.cons ⟨t,rfl⟩ (aBW h)
def Only(H:Hp):Prop:=∀b,H b=none\/∃o xs,H b=some (.frz o (.lst xs))
def sZ(s:Stmt):zCa:=match s with
 | .FunctionDef _ a _ _ _ _ _ _ _ _=>a
 |_=>{posonlyargs:=[],args:=[],vararg:=none,kwonlyargs:=[],kw_defaults:=[],kwarg:=none,defaults:=[]}
def fL(s:Stmt):List Stmt:=match s with
 | .FunctionDef _ _ b _ _ _ _ _ _ _=>b
 |_=>[]
def aJ(s:Stmt):Scope:=match s with
 | .FunctionDef _ _ _ _ _ _ sc _ _ _=>sc
 |_=>{kind:=.function,names:=[],isGenerator:=false,isCoroutine:=false}
abbrev CX0:CXT:=λ _ _ _ _ _ _=>False
abbrev E0:XK:=λ _ _ _=>False
structure Fun(K:zAA)(x qual:Str)(st:Stmt)(f:Addr)(fd:zA5):Prop where
 ex:∃(oc:Value) (od:Option Addr) (kV doc pm:Value) (an:Option Addr) (cdv ct:Value) (osl:Array (Option Value)),
  fd=zCH x qual (sZ st) (fL st) (aJ st) .none kV doc pm an cdv ct/\K.lookup f=some ⟨oc,od,.func fd,osl⟩/\zD7 K cdv qual=true
 kp:zBR K (.ref f)=true
section
variable{K:zAA}
def Fun.binds{x qual:Str}{st:Stmt}{f:Addr}{fd:zA5}{ps:List Str}(F:Fun K x qual st f fd)
  (h:∀(kV doc pm:Value) (an:Option Addr) (cdv ct:Value) (us:List Value),us.length=ps.length->zIQ (zCH x qual (sZ st) (fL st) (aJ st) .none kV doc pm an cdv ct) ⟨us,[]⟩=pure (ps.zip us)):Binds K fd ps []:=by
 obtain⟨oc,od,kV,doc,pm,an,cdv,ct,osl,rfl,lk,hcd⟩:=F.ex;exact .all (h kV doc pm an cdv ct)
def aOc{x qual:Str}{st:Stmt}{f:Addr}{oc:Value}{od an:Option Addr}{osl:Array (Option Value)}{kV doc pm cdv ct:Value}(l:K.lookup f=some ⟨oc,od,.func (zCH x qual (sZ st) (fL st) (aJ st) .none kV doc pm an cdv ct),osl⟩)
  (c:zD7 K cdv qual=true)(k:zBR K (.ref f)=true):Fun K x qual st f (zCH x qual (sZ st) (fL st) (aJ st) .none kV doc pm an cdv ct):=⟨⟨oc,od,kV,doc,pm,an,cdv,ct,osl,rfl,l,c⟩,k⟩
end
def aX(H H':Hp):Prop:=∀b o,H b=some o->H' b=some o
def aX.refl(H:Hp):aX H H:=λ _ _ h=>h
def aX.trans(a:aX H H1)(b:aX H1 H2):aX H H2:=λ c o h=>b c o (a c o h)
def aX.free(e:aX H H')(h:H' l=zG1):H l=zG1:=by
 cases q:H l with
 |none=>rfl
 |some o=>
  rw[e l o q]at h;cases h
end L2
set_option maxHeartbeats 4000000
namespace HT
open PySem PyProof.Rows
def lexLe:List Int->List Int->Bool
 |[],_=>true
 |_::_,[]=>false
 |x::xs,y::ys=>if x=y then lexLe xs ys else decide (x<=y)
def aF2(x y:Int)(xs ys:List Int):lexLe (x::xs) (y::ys)=if x=y then lexLe xs ys else decide (x<=y):=rfl
def aI6(A:zA6)(s:zAD)(a:Int)(t:Tok)(c:Int)(u:Tok)(prog:zAS)(w:World)(E:Value->zAD->Prop)(Q:Value->zAD->Prop)(h:Q (.bool (decide (a<=c))) s):
  wpAny (model prog w) A (zGU .LtE (.int a t) (.int c u)) Q E s:=
 (PyProof.Rows.le_int h:wpAny (model prog w) A (zAt .LtE (.int a t) (.int c u)) Q E s)
section
open PySem.SeqAt
open PySem.AutoSeq1(wpAny_loadPart')
open PySem.MeetsSeq PySem.MeetsSeq2 PySem.MeetsSeq3
def aAy(l b:Addr)(items items2:Array Value)(n n2:Nat)(dd dd2:Option Addr)(sl sl2:Array (Option Value))(ns ms:List Int)(hi:zBQ items.toList ns)(hj:zBQ items2.toList ms):
  Meets (zEQ.«tuple.__le__» ⟨[.ref l,.ref b],[]⟩)
   (λ _ R s=>s.heap.get? l=some {cls:=.type "tuple",dict:=dd,data:=.seq items n,slots:=sl}/\s.heap.get? b=some {cls:=.type "tuple",dict:=dd2,data:=.seq items2 n2,slots:=sl2}/\
    R (.ok (.ret (.bool (lexLe ns ms)))) s):=
 .of_wp λ prog w A R s h=>by
  obtain⟨hp,g,d,tk,os⟩:=s;obtain⟨hl,hb,h⟩:=h;have f2:=zFJ;have z1:items.size=ns.length:=by rw[<-hi.length];simp
  have z2:items2.size=ms.length:=by rw[<-hj.length];simp
  wp_walk using zEb hl,zEb hb,zD9 _ (λ rest b s'=>b.1=none/\s'=⟨hp,g,d,tk,os⟩/\∃(vs ws:List Value) (ns' ms':List Int),rest=vs.zip ws/\
   zBQ vs ns'/\zBQ ws ms'/\ns'.length+items2.size=ms'.length+items.size/\R (.ok (.ret (.bool (lexLe ns' ms')))) ⟨hp,g,d,tk,os⟩) _
  case turn=>
   rintro⟨y,x⟩ rest b s' ⟨hb',rfl,vs,ws,ns',ms',hz,hvi,hwi,kK,hR⟩;cases hvi with
   |nil=>rw[zHR]at hz;cases hz
   |cons a t hvi'=>
    cases hwi with
    |nil=>rw[zHA]at hz;cases hz
    |cons c u hwi'=>
     rw[zAv]at hz;injection hz with hyx aT
     injection hyx with hy hx
     subst hy hx;rw[aF2]at hR;simp only[zA0]at kK;obtain⟨e,he,hiff⟩:=aEW A.in1 ⟨hp,g,d,tk,os⟩ a t c u;refine zAC (he prog w _ _ ?_);cases e with
     |true=>
      rw[if_pos (hiff.mp rfl)]at hR;wp_walk;exact⟨rfl,rfl,_,_,_,_,aT,hvi',hwi',by lia,hR⟩
     |false=>
      rw[if_neg (λ q=>absurd (hiff.mpr q) zAM)]at hR;have hri:=aI6 A.in1 ⟨hp,g,d,tk,os⟩ a t c u prog w;wp_walk using hri;exact⟨_,rfl,by simpa using hR⟩
  case fin=>
   rintro⟨b1,b2⟩ s' ⟨hb',rfl,vs,ws,ns',ms',hz,hvi,hwi,kK,hR⟩;simp only at hb';subst hb';have hv:lexLe ns' ms'=decide (items.size<=items2.size):=by
    cases hvi with
    |nil=>
     simp only[zCW]at kK;have e:lexLe [] ms'=true:=by cases ms'<;>rfl
     rw[e];exact(decide_eq_true (by lia)).symm
    |cons a t hv=>
     cases hwi with
     |nil=>
      simp only[zCW,zA0]at kK;show false=_;exact(decide_eq_false (by lia)).symm
     |cons c u hw=>
      rw[zAv]at hz;cases hz
   rw[hv]at hR;wp_walk;exact⟨_,rfl,by simpa[zEF]using hR⟩
  case h=>
   exact⟨rfl,rfl,items.toList,items2.toList,ns,ms,rfl,hi,hj,by lia,h⟩
end
section
variable{prog:zAS}{w:World}{A:zA6}{E:Value->zAD->Prop}{s:zAD}
def aF3(hl:IsTup s.heap l items)(hb:IsTup s.heap b items2)(hi:zBQ items.toList ns)(hj:zBQ items2.toList ms)
  (hu:A.units<cLine)(h:Q (.bool (lexLe ns ms)) s):wpAny (model prog w) A (zAt .LtE (.ref l) (.ref b)) Q E s:=by
 obtain⟨⟨cls,dd,data,sl⟩,ho,hc,n,hd⟩:=id hl;obtain⟨⟨cls2,dd2,data2,sl2⟩,ho2,hc2,n2,hd2⟩:=id hb;simp only at hc hd hc2 hd2;subst hc hd hc2 hd2;exact zH1 (op:=.LtE) ⟨_,ho,rfl⟩ ⟨_,ho2,rfl⟩ PySem.F.slot_tuple_le PySem.F.entry_tuple_le (PySem.F.args_tuple_le_2 _ _) (aAy l b items items2 n n2 dd dd2 sl sl2 ns ms hi hj)
  ⟨ho,ho2,show zC2 (lexLe ns ms)≠zG4/\Q (.bool (lexLe ns ms)) s from⟨(λ x=>nomatch x),h⟩⟩ hu
def aKR{ws:List Value}(ht:IsTup s.heap t #[])(hb:IsTup s.heap b ws.toArray)(h1:Q (.ref b) s):wpAny (model prog w) A (zCG .Add (.ref t) (.ref b)) Q E s:=by
 obtain⟨⟨cls,dd,data,sl⟩,ho,hc,n,hd⟩:=id ht;obtain⟨⟨cls2,dd2,data2,sl2⟩,ho2,hc2,n2,hd2⟩:=id hb;simp only at hc hd hc2 hd2;subst hc hd hc2 hd2;exact zHk ⟨_,ho,rfl⟩ ⟨_,ho2,rfl⟩ zFr zHI zDr zDk (zDf _ _)
   (tuple_addW0 t b #[] ws.toArray n n2 dd dd2 sl sl2 (by simp)) ⟨ho,ho2,h1⟩
def vZ{lo hi:Option Int}(ht:IsTup s.heap t items)(hs:s.heap.IsSliceOf sl vl vu .none)(pl:zFK vl lo)(pu:zFK vu hi)
  (h1:sIx items.size 0 lo=0)(h2:sIx items.size items.size hi=items.size)
  (h:Q (.ref t) s):wpAny (model prog w) A (zGQ (.ref t) (.ref sl)) Q E s:=by
 obtain⟨os,hos,hcs,hds⟩:=id hs;have hTs:s.TypeIs (.ref sl) "slice":=⟨os,hos,hcs⟩;obtain⟨ot,hot,hct,hdt⟩:=id ht;unfold zGQ
 try with_reducible refine zB5 ?_
 first|refine zAC (zAL ?_)|skip
 refine zAC (zIi ht.typeIs (by decide) ?_);refine zAC (zCU (name:=zES "__getitem__") ht.typeIs zB0
  (zCF zB0 ht.typeIs zID ?_ (zIP _ _)))
 show wpAny _ _ (zE3 (.ref t)>>=_) _ _ s;refine zAC (tupleItemsOf_ ht ?_);refine zAC (zEc hTs ?_);rw[if_pos (by decide)];refine zAC (oG hs pl pu ?_);have hyes:(((sIx items.size 0 lo:Nat):Int)==0&&(1:Int)==1&&(sIx items.size items.size hi-sIx items.size 0 lo)==items.size)=true:=by
  rw[h1,h2];simp
 show wpAny _ _ (if (((sIx items.size 0 lo:Nat):Int)==0&&(1:Int)==1&&(sIx items.size items.size hi-sIx items.size 0 lo)==items.size)=true then _ else _) _ _ s;rw[if_pos hyes];unfold zIY;refine zAC (zAC (zEc ht.typeIs (zAL ?_)));rw[if_pos (by decide)];exact zAC (wpAny_rule (zAL ⟨_,rfl,zAL h⟩))
end
end HT
namespace L2
open PySem PySem.Spec PyProof.Rows
def aLq(t T:String):Bool:=decide (t=T)||(decide (t="bool")&&decide (T="int"))
def aLn{K:zAA}(ht:t∈["NoneType","bool","int","str","list","tuple","dict"])(hT:T∈["bool","int","str","list","tuple","dict"]):
  zBi K (.type t) (.type T)=some (aLq t T):=by
 simp only[zAO,zCk,or_false]at ht hT;rcases ht with rfl|rfl|rfl|rfl|rfl|rfl|rfl<;>rcases hT with rfl|rfl|rfl|rfl|rfl|rfl<;>kernel_rfl
def rG(t T:String)(b:Bool):Bool:=decide (t∈["NoneType","bool","int","str","list","tuple","dict"])&&decide (T∈["bool","int","str","list","tuple","dict"])&&(aLq t T==b)
def aF8{K:zAA}(h:rG t T b=true):zBi K (.type t) (.type T)=some b:=by
 unfold rG at h;rw[zAN,zAN]at h;rw[aLn (of_decide_eq_true h.1.1) (of_decide_eq_true h.1.2),zDG h.2]
def cu(h:H p=none)(o:HO):aX H (upd H p o):=λ b u q=>by rw[aj (bf q h)];exact q
section
variable{X:Cx}
def aQ1(K:zAA):List V->Hp->VK->Prop:=λ xs H Q=>∃x T t b,xs=[x,.ty T]/\xU K H x (.type t)/\rG t T b=true/\Q (.bl b) H
def o5:lH X (.builtin "isinstance") (aQ1 X.K):=by
 intro kX s Z H xs us Q I r h;obtain⟨x,T,t,b,rfl,ty,ok,q⟩:=h;obtain⟨u,w',rfl,r1,r2⟩:=vals2 r;obtain rfl:w'=zBu T:=r2;exact aH8 I r1 ty (aF8 ok) λ tk=>⟨.bl b,H,I.tok tk,rfl,q⟩
def aLD(K:zAA):R2:=λ x y H Q=>∃a b ns ms,x= .ref a/\y= .ref b/\SqT K H a (ns.map V.int)/\SqT K H b (ms.map V.int)/\Q (.bl (HT.lexLe ns ms)) H
def aOI(hu:X.A.units<cLine):OpR X (zAt .LtE) (aLD X.K):=by
 intro kX s Z H x y v u Q I rx ry h;obtain⟨a,b,ns,ms,rfl,rfl,ha,hb,q⟩:=h;cases rx;cases ry;obtain⟨its,r1,p1,_⟩:=I.tuple ha;obtain⟨its2,r2,p2,_⟩:=I.tuple hb;have i1:zBQ its.toArray.toList ns:=intsAre_of r1;have i2:zBQ its2.toArray.toList ms:=intsAre_of r2;exact HT.aF3 p1 p2 i1 i2 hu ⟨.bl (HT.lexLe ns ms),H,I,rfl,q⟩
def aJL:OpR X (zAt .Is) (λ x y H Q=>∃b c,x= .bl b/\y= .bl c/\Q (.bl (b==c)) H):=by
 intro kX s Z H x y v u Q I rx ry h;obtain⟨b,c,rfl,rfl,q⟩:=h;cases rx;cases ry;exact is_bool (aKD I q rfl)
def Inv.big'(I:Inv X kX Z H s):zCZ<s.heap.objs.size:=by
 have h:zAT<s.heap.objs.size:=(I.mod.glob.keeps I.bk).lt;exact zDh (by decide) h
def aPW:TE:=λ _ H Q=>∀p,H p=none->Q (.ref p) (upd H p (.dK []))
def aLR:PE X (.Dict [] [] pos) aPW:=λ kX s Z H Q I h=>
 wpAny_Dict_empty ⟨.ref s.heap.objs.size,_,I.laid (a:=s.heap.objs.size) (o:=.dK []) (t':=s.toks) (λ _ _ q=>zAG _ q) (zAQ _)
  ⟨zAk _,beq_eq_false_iff_ne.mpr (zDL (zA7 I.big')),[],.nil,Heap.DictOf.new s.heap⟩,rfl,h _ (I.hok.fresh (zAQ _))⟩
end
def oA(l:Addr)(H H':Hp):Prop:=∀b o,b≠l->H b=some o->H' b=some o
def aX.sqt{K:zAA}(e:aX H H')(h:SqT K H a xs):SqT K H' a xs:=by
 rcases h with (h|⟨o,h⟩)|h
 .exact .inl (.inl (e _ _ h))
 .exact .inl (.inr ⟨o,e _ _ h⟩)
 .exact .inr h
inductive D where
 |non|bl (b:Bool)|int (i:Int)|str (x:Str)|tup (l:List D)|lst (l:List D)|dct
mutual
inductive Rep(H:Hp):V->D->Prop where
 |non:Rep H .non .non
 |bl (b:Bool):Rep H (.bl b) (.bl b)
 |int (i:Int):Rep H (.int i) (.int i)
 |str (x:Str):Rep H (.str x) (.str x)
 |tup {a:Addr} {xs:List V} {ds:List D} (h:H a=some (.tup xs)) (r:aK3 H xs ds):Rep H (.ref a) (.tup ds)
 |lst {a:Addr} {xs:List V} {ds:List D} (h:H a=some (.lst xs)) (r:aK3 H xs ds):Rep H (.ref a) (.lst ds)
 |dct {a:Addr} (h:H a=some (.dK [])):Rep H (.ref a) .dct
inductive aK3(H:Hp):List V->List D->Prop where
 |nil:aK3 H [] []
 |cons {x:V} {d:D} {xs:List V} {ds:List D} (h:Rep H x d) (r:aK3 H xs ds):aK3 H (x::xs) (d::ds)
end
def PE.weaken(h:PE X e t)(imp:∀Z H Q,t' Z H Q->t Z H Q):PE X e t':=λ kX s Z H Q I q=>h kX s Z H Q I (imp Z H Q q)
def OpR.weaken(h:OpR X f r)(imp:∀x y H Q,r' x y H Q->r x y H Q):OpR X f r':=λ kX s Z H x y v u Q I rx ry q=>h kX s Z H x y v u Q I rx ry (imp x y H Q q)
def New(H:Hp)(o:HO)(Q:VK):Prop:=∀p H',aX H H'->H' p=some o->H p=none->Q (.ref p) H'
def New.at(n:New H o Q)(hp:H p=none):Q (.ref p) (upd H p o):=n p _ (cu hp o) bN hp
section
variable{X:Cx}{es:List Expr}{t:TA}{pos:Pos}
def aPP(t:TA):TE:=λ Z H Q=>t Z H λ xs H1=>xs.length<=zAU/\New H1 (.tup xs) Q
def aMi(t:TA):TE:=λ Z H Q=>t Z H λ xs H1=>xs.length<=zAU/\New H1 (.lst xs) Q
def aLP{x1}(h:PA X es t):PE X (.Tuple es x1 pos) (aPP t):=by
 have h':PA X es (λ Z H Q=>∃R:List V->Hp->Prop,t Z H R/\∀xs H',R xs H'->Q xs H'):=by
  intro pos kX s Z H Q I ⟨R,q,imp⟩;exact thn (h pos kX s Z H R I q) λ us s' ⟨vs,H',I',r,q'⟩=>⟨vs,H',I',r,imp _ _ q'⟩
 exact(aNm h').weaken λ Z H Q q=>⟨_,q,λ xs H' ⟨z,n⟩=>⟨z,λ p hp=>n.at hp⟩⟩
def vI(h:PA X es t):PE X (.List es pos) (aMi t):=by
 have h':PA X es (λ Z H Q=>∃R:List V->Hp->Prop,t Z H R/\∀xs H',R xs H'->Q xs H'):=by
  intro pos kX s Z H Q I ⟨R,q,imp⟩;exact thn (h pos kX s Z H R I q) λ us s' ⟨vs,H',I',r,q'⟩=>⟨vs,H',I',r,imp _ _ q'⟩
 exact(aNq h').weaken λ Z H Q q=>⟨_,q,λ xs H' ⟨z,n⟩=>⟨z,λ p hp=>n.at hp⟩⟩
def aNR:TE:=λ _ H Q=>New H (.dK []) Q
def aIz:PE X (.Dict [] [] pos) aNR:=aLR.weaken λ Z H Q n p hp=>n.at hp
def aIb:R2:=λ x y H Q=>∃l b xs zs,x= .ref l/\y= .ref b/\H l=some (.lst xs)/\H b=some (.lst zs)/\xs.length+zs.length<=zAU/\New H (.lst (xs++zs)) Q
def aGX:OpR X (zCG .Add) aIb:=aON.weaken λ x y H Q ⟨l,b,xs,zs,e1,e2,h1,h2,z,n⟩=>⟨l,b,xs,zs,e1,e2,h1,h2,z,λ p hp=>n.at hp⟩
def aDi:V->List V->Hp->VK->Prop:=λ x vs H Q=>∃l xs y,x= .ref l/\vs=[y]/\H l=some (.lst xs)/\xs.length<zAU/\∀H',oA l H H'->H' l=some (.lst (xs++[y]))->Q .non H'
def aFT:MtM X "list.append" aDi:=λ kX s Z H x xs v us Q I rx rv ⟨l,ys,y,e1,e2,h,z,n⟩=>
 aBb kX s Z H x xs v us Q I rx rv ⟨l,ys,y,e1,e2,h,z,n _ (λ b o ne hb=>by rw[aj ne];exact hb) bN⟩
end
def au(scope:Scope)(env:Env):List (Str×Addr):=(scope.names.filterMap λ y=>if y.2== .free then(env.cells.lookup y.1).map λ c=>(y.1,c)else none).reverse
theorem aAt(env:Env):∀(names:List (Str×zDd)) (acc:List (Str×Addr)),(∀y∈names,y.2= .free->∃c,env.cells.lookup y.1=some c)->
  (forIn names acc λ(x:Str×zDd) r=>if (x.2== .free)=true then do let c <-cellOf env x.1;pure (zB7 ((x.1,c)::r))else pure (zB7 r):Sem (List (Str×Addr)))=
   pure ((names.filterMap λ y=>if y.2== .free then(env.cells.lookup y.1).map λ c=>(y.1,c)else none).reverse++acc)
 |[],acc,_=>rfl
 |(n,k)::r,acc,h=>by
  rw[List.forIn_cons];have ih:=λ acc'=>aAt env r acc' λ y hy=>h y (zAH _ hy)
  by_cases hk:k= .free
  .subst hk
   obtain⟨c,hc⟩:=h (n,.free) zAI rfl;have hc':env.cells.lookup n=some c:=hc;simp only[beq_self_eq_true,if_true,cellOf,hc',zBN,zCr,List.reverse_cons,zBU,List.singleton_append];exact ih _
  .have hb:(k==zBq)=false:=by simpa using hk
   simp only[hb,zA1,if_false,zBN];exact ih _
def jz(h:∀y∈scope.names,y.2= .free->∃c,env.cells.lookup y.1=some c):zEh scope env=pure (au scope env):=by
 have e:=aAt env scope.names [] h;rw[zAw]at e;have e2:zEh scope env=((forIn scope.names ([]:List (Str×Addr)) λ(x:Str×zDd) r=>if (x.2== .free)=true then do let c <-cellOf env x.1;pure (zB7 ((x.1,c)::r))else pure (zB7 r):Sem (List (Str×Addr)))>>=λ r=>pure r):=rfl;rw[e2,e];rfl
def jC(h:(au scope env).lookup x=some c):env.cells.lookup x=some c:=by
 have hm:=zAj h;unfold au at hm;rw[zHc,zBZ]at hm;obtain⟨y,hy,e⟩:=hm;split at e
 .cases q:env.cells.lookup y.1 with
  |none=>rw[q]at e;cases e
  |some c'=>
   rw[q]at e;have e':=zAc e;injection e' with e1 e2
   subst e1 e2;exact q
 .cases e
def vp(hx:scope.names.lookup x=some .free)(h:env.cells.lookup x=some c):(au scope env).lookup x=some c:=by
 have hm:(x,zBq)∈scope.names:=zAj hx
 have:(x,c)∈au scope env:=by
  unfold au;rw[zHc,zBZ];exact⟨_,hm,by simp[h]⟩
 cases q:(au scope env).lookup x with
 |none=>
  exact absurd this (by
   intro hm'
   have:=List.lookup_eq_none_iff.mp q _ hm'
   simp at this)
 |some c'=>
  have:=jC q
  rw[h]at this;exact this.symm▸rfl
def yc(scope:Scope)(C:Addr):List (Str×Addr):=zD1 (C+1) scope.names []
theorem oZ:∀(names:List (Str×zDd)) (n:Nat) (acc:List (Str×Addr)),zD1 n names acc=zD1 n names []++acc
 |[],_,_=>rfl
 |(x,k)::r,n,acc=>by
  unfold zD1;split
  .rw[oZ r (n+1) ((x,n)::acc),oZ r (n+1) [(x,n)],zBU];rfl
  .exact oZ r n acc
theorem um:∀{names:List (Str×zDd)} {n:Nat} {x:Str} {c:Addr},(x,c)∈zD1 n names []->(x,zDK)∈names
 |(y,k)::r,n,x,c,h=>by
  unfold zD1 at h;split at h
  .rename_i hk
   rw[oZ,zAx]at h;rcases h with h|h
   .exact zAH _ (um h)
   .have e:=zA8.mp h
    cases e;rw[zDG hk];exact zAI
  .exact zAH _ (um h)
 |[],_,_,_,h=>by cases h
def oN{l m:List (Str×Addr)}(h:(l++m).lookup x=some c):l.lookup x=some c\/(l.lookup x=none/\m.lookup x=some c):=by
 rw[zEf]at h;cases e:l.lookup x with
 |some c'=>rw[e]at h;exact .inl h
 |none=>rw[e]at h;exact .inr ⟨rfl,h⟩
def aG2{M:Model}{A:zA6}{E:Value->zAD->Prop}{s:zAD}{scope:Scope}{globals:Addr}{cl:List (Str×Addr)}{qual:Str}{env:Env}{Q:Env->zAD->Prop}
  (h:∀h':Heap,h'.Ns s.heap.objs.size (λ _=>none)->(∀b o,s.heap.get? b=some o->h'.get? b=some o)->CellsOk h' (s.heap.objs.size+1) (yc scope s.heap.objs.size)->
   Q {scope:=scope,locals:=s.heap.objs.size,globals:=globals,cells:=yc scope s.heap.objs.size++cl,qual:=qual,func:=none,code:=env.code,frame:=env.frame,builtins:=env.builtins} {s with heap:=h'}):
  wpAny M A (zEt scope globals cl [] qual none .none (some env)) Q E s:=by
 simp only[zEt,Option.isSome_some,if_true];refine zAC (wpAny_alloc ?_);refine zAC (wpAny_layCells _ (λ name kind cells=>by cases hkc:kind==zDK<;>simp[hkc]) _ _ _ _ ?_);have ok:=cellsFrom_ok scope.names (s.heap.push {cls:=.type "dict",data:=.dict #[]}) (s.heap.objs.size+1) [] ⟨λ _ _ hm=>(nomatch hm),zFY⟩ (by rw[zBc];exact zAQ _);rw[zBc]at ok;rw[show({s with heap:=s.heap.push {cls:=.type "dict",data:=.dict #[]}}:zAD).heap.objs.size=s.heap.objs.size+1 from zBc ..,oZ];refine zAL ?_;exact h _ ((Heap.Ns.new s.heap (.type "dict")).keeps (pushCells_keeps _ _)) (λ b o e=>pushCells_keeps _ _ b o (zAG _ e)) ok
def Cx.block(X:Cx)(scope:Scope)(C:Addr)(N:List Str)(fp:List Addr)(z5:zAD)(z0:Hp):Cx:=
  {prog:=X.prog,w:=X.w,K:=X.K,mg:=X.mg,base:=X.base,A:=X.A,N:=N,z5:=z5,z0:=z0,env:=compEnvC scope (yc scope C++au scope X.env) C X.env,outer:=X.stack,stack:=X.stack,ex:=fp,
    fn:=λ x=>scope.names.lookup x==some .cell,calm:=X.calm,pn:=[],xe:=λ _ _=>False}
structure iQ(X:Cx)(scope:Scope)(N:List Str)(st:St->St)(ks:List Nat):Prop where
 kind:scope.kind= .function
 sep:∀y∈scope.names,y.2= .cell->scope.names.lookup y.1=some .cell
 loc:∀y∈scope.names,y.2= .local->scope.names.lookup y.1=some .local
 free:∀y∈scope.names,y.2= .free->X.env.kindOf y.1=some .cell\/X.env.kindOf y.1=some .free
 len:∀Z,(st Z).length=N.length
 val:∀Z (i:Nat) x v,N[i]? =some x->(st Z)[i]? =some (some v)->scope.names.lookup x=some .free/\i∉ks/\∃j:Nat,X.N[j]? =some x/\Z[j]? =some (some v)
def aC1(h:(zF7 scope env).names.lookup x=some .cell\/(zF7 scope env).names.lookup x=some .free):scope.names.lookup x=some .free\/scope.names.lookup x=some .cell:=by
 have go:∀names:List (Str×zDd),((names.map λ(n,k)=>if (k==zBq&&env.scope.kind== .function&&env.kindOf n==some .cell)then(n,zDK)else(n,k)).lookup x=some .cell\/
   (names.map λ(n,k)=>if (k==zBq&&env.scope.kind== .function&&env.kindOf n==some .cell)then(n,zDK)else(n,k)).lookup x=some .free)->names.lookup x=some .free\/names.lookup x=some .cell:=by
  intro names;induction names with
  |nil=>intro h;simp at h
  |cons y r ih=>
   obtain⟨n,k⟩:=y;intro h;rw[zAE]at h;by_cases hx:x==n
   .rw[zAe,hx]
    show some k=some .free\/some k=some .cell;by_cases hcc:(k==zBq&&env.scope.kind== .function&&env.kindOf n==some .cell)=true
    .rw[zAN,zAN]at hcc
     rw[zDG hcc.1.1];exact .inl rfl
    .simp only[if_neg hcc,zAe,hx]at h
     exact h.elim .inr .inl
   .have hx':(x==n)=false:=by simpa using hx
    rw[zAe,hx'];refine ih ?_;by_cases hcc:(k==zBq&&env.scope.kind== .function&&env.kindOf n==some .cell)=true
    .simp only[if_pos hcc,zAe,hx']at h
     exact h
    .simp only[if_neg hcc,zAe,hx']at h
     exact h
 exact go scope.names h
def aC2(h:scope.names.lookup x=some .free):(zF7 scope env).names.lookup x=some .cell\/(zF7 scope env).names.lookup x=some .free:=by
 have go:∀names:List (Str×zDd),names.lookup x=some .free->((names.map λ(n,k)=>if (k==zBq&&env.scope.kind== .function&&env.kindOf n==some .cell)then(n,zDK)else(n,k)).lookup x=some .cell\/
   (names.map λ(n,k)=>if (k==zBq&&env.scope.kind== .function&&env.kindOf n==some .cell)then(n,zDK)else(n,k)).lookup x=some .free):=by
  intro names;induction names with
  |nil=>intro h;simp at h
  |cons y r ih=>
   obtain⟨n,k⟩:=y;intro h;rw[zAE];by_cases hx:x==n
   .rw[zAe,hx]at h
    have hk:k= .free:=zAc h;by_cases hcc:(k==zBq&&env.scope.kind== .function&&env.kindOf n==some .cell)=true
    .simp only[if_pos hcc,zAe,hx]
     exact .inl trivial
    .simp only[if_neg hcc,zAe,hx]
     exact .inr (by rw[hk])
   .have hx':(x==n)=false:=by simpa using hx
    rw[zAe,hx']at h;by_cases hcc:(k==zBq&&env.scope.kind== .function&&env.kindOf n==some .cell)=true
    .simp only[if_pos hcc,zAe,hx']
     exact ih h
    .simp only[if_neg hcc,zAe,hx']
     exact ih h
 exact go scope.names h
section
variable{X:Cx}{kX:hZ}{Z:St}{H:Hp}{s:zAD}
theorem Inv.block{st:St->St}{D C:Addr}(I:Inv X kX Z H s)(B:iQ X scope N st ks)
  (hfp:∀b∈fp,wL X kX H b)(hob:∀b∈fp,∃ob,s.heap.get? b=some ob)
  (hD:s.heap.objs.size<=D)(hC:s.heap.objs.size<=C)(hDC:D≠C)(keep:∀b u,s.heap.get? b=some u->h'.get? b=some u)(hns:h'.Ns C λ _=>none)(hcs:CellsOk h' (C+1) (yc scope C))(hDo:∀c,C<c->D≠c)(aE:cZ X.prog X.w (upd H D o) h' D o):
  Inv (X.block scope C N fp s H) [] (st Z) (upd H D o) {s with heap:=h',toks:=tk}:=by
 have hHD:H D=none:=I.hok.fresh hD;have hcl:∀x c,(au scope X.env).lookup x=some c->X.env.cells.lookup x=some c:=λ x c e=>jC e
 have hol:∀x c,(yc scope C).lookup x=some c->C<c/\h'.IsCell c none:=λ x c e=>let⟨q1,q2⟩:=hcs.empty x c (zAj e);⟨q2,q1⟩
 have hlt:∀x c,(au scope X.env).lookup x=some c->c<s.heap.objs.size:=λ x c e=>let⟨v,ic⟩:=I.cell x c (hcl x c e);ic.lt
 have cK:∀b∈fp,b<s.heap.objs.size:=λ b hb=>by
  obtain⟨ob,e⟩:=hob b hb;exact zAW e
 refine⟨⟨I.mod,?_,I.ok.glob,I.ok.blt,hC,λ x y c e1 e2=>?_,λ x hx=>?_,λ x c hf e=>?_,I.ok.hd,I.ok.frames,.inl rfl,λ b hb=>⟨?_,λ x c e z=>?_⟩,
  I.bs,?_,λ b ob e hb=>?_,λ b hb hs=>?_,I.stack,I.stkFree⟩,rfl,I.bare,Un.laid keep hD hHD,⟨_,hns,λ i x v e1 e2 hv=>?_⟩,λ x c e=>?_,?_,λ x c e=>?_,λ p hp=>absurd (show p∈([]:hZ)from hp) (by simp),I.hok.laid keep hD aE,B.len Z,λ p hp=>absurd (show p∈([]:hZ)from hp) (by simp)⟩
 .show(zF7 scope X.env).kind= .function
  exact B.kind
 .rcases oN e1 with a1|⟨_,a1⟩<;>rcases oN e2 with a2|⟨_,a2⟩
  .exact PySem.name_of_addr hcs.apart (zAj a1) (zAj a2)
  .exact absurd (hlt y c a2) (zGE.mpr (zAg hC (zBl (hol x c a1).1)))
  .exact absurd (hlt x c a1) (zGE.mpr (zAg hC (zBl (hol y c a2).1)))
  .exact I.ok.inj x y c (hcl x c a1) (hcl y c a2)
 .show∃c,(yc scope C++au scope X.env).lookup x=some c
  rw[zEf];cases e:(yc scope C).lookup x with
  |some c=>exact⟨c,rfl⟩
  |none=>
   rcases aC1 hx with hfree|hcell
   .obtain⟨c,hc⟩:=I.ok.has x (B.free (x,.free) (zAj hfree) rfl)
    exact⟨c,vp hfree hc⟩
   .obtain⟨c,hc⟩:=vq (n:=C+1) hcell
    rw[show(yc scope C).lookup x=some c from hc]at e;cases e
 .rcases oN e with a1|⟨a0,_⟩
  .exact zAg hC (zBl (hol x c a1).1)
  .obtain⟨c',hc'⟩:=vq (n:=C+1) (zDG hf)
   rw[show(yc scope C).lookup x=some c' from hc']at a0;cases a0
 .exact zA7 (zAX (cK b hb) hC)
 .rcases oN e with a1|⟨_,a1⟩
  .exact absurd (cK b hb) (zGE.mpr (by rw[<-z];exact zAg hC (zBl (hol x c a1).1)))
  .exact(hfp b hb).2.2.2.2.1 x c (hcl x c a1) z
 .exact zAg I.ok.bsz I.sz
 .rcases(hfp b hb).2.2.2.1 with z|z
  .exact I.ok.noex b ob e z
  .exact absurd (zAX (zAW (I.ok.bs b ob e).1) z) (zBT _)
 .rcases zAO.mp (I.stkSub b hs)with z|z
  .exact(hfp b hb).2.1 z
  .exact(hfp b hb).2.2.1 z
 .obtain⟨hfree,_,j,f1,f2⟩:=B.val Z i x v e1 e2
  obtain⟨m,hn,hl⟩:=I.loc;have hk:=B.free (x,.free) (zAj hfree) rfl;obtain⟨u,ru,hu⟩:=hl j x v f1 f2 (hk.elim (λ z=>.inr (.inl z)) λ z=>.inr (.inr z));rcases hu with ⟨k,_⟩|⟨_,c,ec,ic⟩
  .rcases hk with z|z
   .exact absurd (k.symm.trans z) (by decide)
   .exact absurd (k.symm.trans z) (by decide)
  .have hno:(yc scope C).lookup x=none:=by
    cases e:(yc scope C).lookup x with
    |none=>rfl
    |some c'=>
     have:=B.sep _ (um (zAj e)) rfl
     rw[hfree]at this;cases this
   refine⟨u,ru,.inr ⟨?_,c,by show(yc scope C++au scope X.env).lookup x=some c;rw[zEf,hno];exact vp hfree ec,ic.keeps keep⟩⟩;rcases hv with z|z|z
   .have z':(zF7 scope X.env).names.lookup x=some .local:=z
    rcases aC2 (env:=X.env) hfree with y|y
    .exact absurd (z'.symm.trans y) (by decide)
    .exact absurd (z'.symm.trans y) (by decide)
   .exact .inl z
   .exact .inr z
 .rcases oN e with a1|⟨_,a1⟩
  .exact⟨_,(hol x c a1).2⟩
  .obtain⟨v,ic⟩:=I.cell x c (hcl x c a1)
   exact⟨v,ic.keeps keep⟩
 .show upd H D o C=none
  rw[aj (zDL hDC)];exact I.hok.fresh hC
 .show upd H D o c=none
  rcases oN e with a1|⟨_,a1⟩
  .rw[aj (zDL (hDo c (hol x c a1).1))]
   exact I.hok.fresh (zAg hC (zBl (hol x c a1).1))
  .obtain⟨v,ic⟩:=I.cell x c (hcl x c a1)
   rw[aj (zA7 (zAX ic.lt hD))];exact I.freeC x c (hcl x c a1)
end
section
variable{prog:zAS}{w:World}{A:zA6}{R:zEG->zAD->Prop}{s:zAD}
def aCt(I:Nat->zAD->Prop)
  (turn:∀n s,I n s->wpAny (model prog w) A (zEu it) (λ r zS=>match r with
   |none=>R (.ok .next) zS
   |some v=>wpAny (model prog w) A (zDH target it v) (λ _ zS=>wpAny (model prog w) A (zD0 target env v) (λ _ z4=>
     wpAny (model prog w) A (forIn ifs true λ c r=>if r=true then do let ok <-isTrue c env (eval c env);pure (zB7 ok)else pure (zB7 r)) (λ ok zD=>
      if ok=true then wpAny (model prog w) A (eval elt env) (λ x y7=>
       wpAny (model prog w) A (call (.builtin "list.append") [acc,x]) (λ _ s₅=>∃m,m<n/\I m s₅) (λ _ _=>False) y7) (λ _ _=>False) zD
      else∃m,m<n/\I m zD) (λ _ _=>False) z4) (λ _ _=>False) zS) (λ _ _=>False) zS) (λ _ _=>False) s)
  (n:Nat)(h:I n s):zCJ (model prog w) A (.compLoop (.ListComp elt [⟨target,iter,ifs,0⟩] scope pos) 0 it acc env) R s:=by
 refine codeAny_loop rfl I (λ n s hI=>?_) n h;show wpAny _ A ((compTurn (.ListComp elt [⟨target,iter,ifs,0⟩] scope pos) 0 it acc env).onRaise (λ x=>do noteFrame x env;theTreesLotGoes x)) _ _ s;refine wpAny_noted ?_;rw[compTurn_list];refine zAC (zEV (zAC (zBP (turn n s hI) (λ r zS zI=>?_) λ _ _ h'=>h'.elim)));cases r with
 |none=>exact zAL zI
 |some v=>
  refine zAC (zBP zI (λ _ zS zI=>?_) λ _ _ h'=>h'.elim);refine zAC (zBP zI (λ _ z4 yY=>zAC (zBP yY (λ ok zD yT=>?_) λ _ _ h'=>h'.elim)) λ _ _ h'=>h'.elim);cases ok with
  |false=>exact zAL ⟨rfl,yT⟩
  |true=>
   exact zAC (zAC (zBP yT (λ x y7 h₄=>zAC (zBP h₄ (λ _ s₅ h₅=>zAL (zAL ⟨rfl,h₅⟩)) λ _ _ h'=>h'.elim)) λ _ _ h'=>h'.elim))
end
def wK(g:TG)(ks:List Nat):Prop:=∀v Z H (Q:St->Hp->Prop),g v Z H Q->g v Z H (λ Z' H'=>Q Z' H'/\Z'.length=Z.length/\∀k,k∉ks->Z'[k]? =Z[k]?)
def aAw(g:TGs)(ks:List Nat):Prop:=∀vs Z H (Q:St->Hp->Prop),g vs Z H Q->g vs Z H (λ Z' H'=>Q Z' H'/\Z'.length=Z.length/\∀k,k∉ks->Z'[k]? =Z[k]?)
def aMI(h:i∈ks):wK (tW i) ks:=λ v Z H Q q=>⟨q,zAz,λ k hk=>zBh (λ(e:i=k)=>hk (e▸h))⟩
def aMH:aAw aML ks:=λ vs Z H Q ⟨e,q⟩=>⟨e,q,rfl,λ _ _=>rfl⟩
def aEd(g:TG):Prop:=∀v Z H (Q Q':St->Hp->Prop),(∀Z' H',Q Z' H'->Q' Z' H')->g v Z H Q->g v Z H Q'
def xV(g:TGs):Prop:=∀v Z H (Q Q':St->Hp->Prop),(∀Z' H',Q Z' H'->Q' Z' H')->g v Z H Q->g v Z H Q'
def aMK:aEd (tW i):=λ v Z H Q Q' imp q=>imp _ _ q
def aMJ:xV aML:=λ v Z H Q Q' imp ⟨e,q⟩=>⟨e,imp _ _ q⟩
def aJw(h1:aEd t)(h2:xV u):xV (aER t u):=λ vs Z H Q Q' imp ⟨v,r,e,q⟩=>⟨v,r,e,h1 _ _ _ _ _ (λ Z' H' q'=>h2 _ _ _ _ _ imp q') q⟩
def aJs(h1:wK t ks)(m1:aEd t)(h2:aAw u ks)(m2:xV u):aAw (aER t u) ks:=λ vs Z H Q ⟨v,r,e,q⟩=>
 ⟨v,r,e,m1 _ _ _ _ _ (λ Z' H' ⟨q',l',k'⟩=>m2 _ _ _ _ _ (λ Z2 H2 ⟨q2,l2,k2⟩=>⟨q2,l2.trans l',λ k hk=>(k2 k hk).trans (k' k hk)⟩) (h2 _ _ _ _ q')) (h1 _ _ _ _ q)⟩
def aOa{K:zAA}(h:aAw t ks):wK (aJy K n t) ks:=λ v Z H Q ⟨a,xs,e1,e2,e3,q⟩=>⟨a,xs,e1,e2,e3,h _ _ _ _ q⟩
def aOb{K:zAA}(h:xV t):aEd (aJy K n t):=λ v Z H Q Q' imp ⟨a,xs,e1,e2,e3,q⟩=>⟨a,xs,e1,e2,e3,h _ _ _ _ _ imp q⟩
def aEa(X:Cx)(ifs:List Expr)(t:TT):Prop:=
 ∀(kX:hZ) (s:zAD) (Z:St) (H:Hp) (Q:Bool->Hp->Prop),Inv X kX Z H s->t Z H Q->
  wpAny (model X.prog X.w) X.A (forIn ifs true λ c r=>if r=true then do let ok <-isTrue c X.env (eval c X.env);pure (zB7 ok)else pure (zB7 r)) (TP X kX Z Q) X.xe s
def aQP:TT:=λ _ H Q=>Q true H
def aNl:aEa X [] aQP:=λ _ _ _ H _ I h=>wpAny_tests_nil ⟨H,I,h⟩
def aNk(h:PT X c t):aEa X [c] t:=λ kX s Z H Q I q=>wpAny_tests_one (h kX s Z H Q I q)
def tLC(wi:TI)(st:St->St)(g:TG)(tt:TT)(te:TE):TE:=λ Z H Q=>wi Z H λ J H1=>∀l,H1 l=none->∃W:Nat->Nat->List V->Hp->Prop,(∃m,W 0 m [] (upd H1 l (.lst [])))/\
 ∀i m acc H2,W i m acc H2->H2 l=some (.lst acc)/\acc.length<zAU/\((J.stop i H2/\Q (.ref l) H2)\/(J.go i H2/\∀x H3,J.yld i H2 x H3->g x (st Z) H3 λ Z4 H4=>tt Z4 H4 λ ok H5=>
  if ok=true then te Z4 H5 λ y H6=>H6 l=some (.lst acc)/\∃m',m'<m/\W (i+1) m' (acc++[y]) (upd H6 l (.lst (acc++[y])))else∃m',m'<m/\W (i+1) m' acc H5))
section
variable{X:Cx}{elt tg iter:Expr}{ifs:List Expr}{scope:Scope}{pos:Pos}{N:List Str}{st:St->St}{ks:List Nat}{wi:TI}{g:TG}{tt:TT}{te:TE}
def aEE(B:iQ X scope N st ks)(hc:X.calm=true)(hg:∀C fp z5 z0,PG (X.block scope C N fp z5 z0) tg g)(hgo:wK g ks)(ht:∀C fp z5 z0,aEa (X.block scope C N fp z5 z0) ifs tt)
  (he:∀C fp z5 z0,PE (X.block scope C N fp z5 z0) elt te){H1:Hp}{Q:VK}{RR:Value->Addr->zEG->zAD->Prop}
  (I:Inv X kX Z H1 z4)(T:Turn X.prog X.w X.K tg J fp it tn)(h0:tn 0 z4.heap)(hfp:∀b∈fp,wL X kX H1 b)
  (h:∀l,H1 l=none->∃W:Nat->Nat->List V->Hp->Prop,(∃m,W 0 m [] (upd H1 l (.lst [])))/\
   ∀i m acc H2,W i m acc H2->H2 l=some (.lst acc)/\acc.length<zAU/\((J.stop i H2/\Q (.ref l) H2)\/(J.go i H2/\∀x H3,J.yld i H2 x H3->g x (st Z) H3 λ Z4 H4=>tt Z4 H4 λ ok H5=>
    if ok=true then te Z4 H5 λ y H6=>H6 l=some (.lst acc)/\∃m',m'<m/\W (i+1) m' (acc++[y]) (upd H6 l (.lst (acc++[y])))else∃m',m'<m/\W (i+1) m' acc H5)))
  (hRR:∀D C H' s',(∃Z',Inv (X.block scope C N fp z4 H1) [] Z' H' s')->z4.heap.objs.size<=C->Q (.ref D) H'->RR (.ref D) C (.ok .next) s'):
  wpAny (model X.prog X.w) X.A (zGS []) (λ acc zD=>wpAny (model X.prog X.w) X.A (zEt scope X.env.globals (au scope X.env) [] X.env.qual none .none (some X.env)) (λ cenv y7=>
   zCJ (model X.prog X.w) X.A (.compStart (.ListComp elt [⟨tg,iter,ifs,0⟩] scope pos) 0 (.ref it) acc {cenv with scope:=zF7 scope X.env}) (RR acc cenv.locals) y7) E zD) E z4:=by
 refine zBX (aG2 λ zI y9 zC y8=>?_);dsimp only at y9 zC y8 ⊢;generalize hH2:z4.heap.push {cls:=.type "list",dict:=none,data:=.seq ([]:List Value).toArray}=P2 at y9 zC y8 ⊢;have hC:P2.objs.size=z4.heap.objs.size+1:=by rw[<-hH2,zBc]
 have hDC:z4.heap.objs.size≠P2.objs.size:=by rw[hC];exact zA7 (zCQ _)
 have oQ:z4.heap.objs.size<=P2.objs.size:=by rw[hC];exact zFZ _
 have old:∀b o,z4.heap.get? b=some o->zI.get? b=some o:=λ b o e=>zC b o (hH2▸zAG _ e)
 have aE:zI.get? z4.heap.objs.size=some {cls:=.type "list",dict:=none,data:=.seq ([]:List Value).toArray}:=zC _ _ (hH2▸zAZ _ rfl);generalize hCe:P2.objs.size=C at y9 zC y8 hDC oQ hC ⊢;have hHD:H1 z4.heap.objs.size=none:=I.hok.fresh (zAQ _);have I0:Inv (X.block scope C N fp z4 H1) [] (st Z) (upd H1 z4.heap.objs.size (.lst [])) {z4 with heap:=zI,toks:=z4.toks}:=
  I.block B hfp (λ b hb=>by obtain⟨o,e,_⟩:=T.obj 0 _ h0 b hb;exact⟨o,e⟩) (zAQ _) oQ hDC old y9 y8 (λ c hc=>zA7 (zHT oQ hc)) ⟨zAk _,[],0,.nil,aE⟩
 obtain⟨W,⟨m0,w0⟩,step⟩:=h _ hHD;have h01:tn 0 zI:=T.keep 0 _ _ h0 λ b _ o e=>old b o e
 have aI:∀{H':Hp},(∀b∈fp,H' b=none)->∀b∈fp,wL (X.block scope C N fp z4 H1) [] H' b:=λ{H'} hn b hb=>
  ⟨hn b hb,(I0.ok.exf b hb).1,I0.ok.exfs b hb,.inl hb,λ x c e=>(I0.ok.exf b hb).2 x c e,λ p hp=>absurd (show p∈([]:hZ)from hp) (by simp)⟩
 have fr0:∀b∈fp,upd H1 z4.heap.objs.size (.lst []) b=none:=λ b hb=>by
  obtain⟨o,e,_⟩:=T.obj 0 _ h0 b hb;rw[aj (zA7 (zAW e))];exact(hfp b hb).1
 have loop:∀zD:zAD,zD={z4 with heap:=zI,toks:=z4.toks}->
   zCJ (model X.prog X.w) X.A (.compLoop (.ListComp elt [⟨tg,iter,ifs,0⟩] scope pos) 0 (.ref it) (.ref z4.heap.objs.size) (X.block scope C N fp z4 H1).env) (RR (.ref z4.heap.objs.size) C) zD:=by
  rintro zD rfl;refine aCt (λ n s'=>∃i acc H2,Inv (X.block scope C N fp z4 H1) [] (st Z) H2 s'/\tn i s'.heap/\(∀b∈fp,H2 b=none)/\W i n acc H2) ?_ m0 ⟨0,[],_,I0,h01,fr0,w0⟩;rintro n s3 ⟨i,acc,H2,I2,st2,fr2,w2⟩;obtain⟨hl,hz,alt⟩:=step i n acc H2 w2;rcases alt with ⟨stop,q⟩|⟨go,nxt⟩
  .refine thn (T.done (X.block scope C N fp z4 H1) rfl rfl rfl hc i [] s3 (st Z) H2 _ I2 (aI fr2) st2 stop) λ r s4 ⟨hr,I4⟩=>?_
   subst hr;exact hRR _ C H2 s4 ⟨_,I4⟩ oQ q
  .refine thn (T.item (X.block scope C N fp z4 H1) rfl rfl rfl hc i [] s3 (st Z) H2 _ I2 (aI fr2) st2 go) λ r s4 ⟨u,hr,h4⟩=>?_
   subst hr;refine thn h4 λ _ s5 ⟨x,H5,I5,r5,y5,st5,fr5⟩=>?_
   have I5':=I5.pinned (aI fr5) (T.obj _ _ st5);refine thn (hg C fp z4 H1 _ s5 (st Z) H5 x u _ I5' r5 (hgo _ _ _ _ (nxt x H5 y5))) λ _ s6 ⟨Z6,H6,I6,q6,aLj,ag6⟩=>?_
   refine thn (ht C fp z4 H1 _ s6 Z6 H6 _ I6 q6) λ ok s7 ⟨H7,I7,q7⟩=>?_
   have again:∀{H9:Hp} {s9:zAD} {acc':List V},Inv (X.block scope C N fp z4 H1) ([]++w6 fp s5.heap) Z6 H9 s9->(∃m',m'<n/\W (i+1) m' acc' H9)->
     ∃m,m<n/\∃i acc H2,Inv (X.block scope C N fp z4 H1) [] (st Z) H2 s9/\tn i s9.heap/\(∀b∈fp,H2 b=none)/\W i m acc H2:=λ{H9 s9 acc'} I9 ⟨m',hm,w9⟩=>by
    have cE:∀b∈fp,∀o,s5.heap.get? b=some o->s9.heap.get? b=some o/\H9 b=none:=λ b hb o e=>by
     have z:=I9.pin (b,o) (zAb _ (zAb _ (pY hb e)));exact⟨z.1,z.2.1⟩
    refine⟨m',hm,i+1,acc',H9,I9.unpinned.weak (by rw[aLj]) (λ k v e=>?_),T.keep _ _ _ st5 λ b hb o e=>(cE b hb o e).1,λ b hb=>?_,w9⟩
    .have hk:k<(st Z).length:=(zAK.mp e).1
     have hkN:k<N.length:=by rw[<-B.len Z];exact hk
     obtain⟨_,hks,_⟩:=B.val Z k _ v (zAB hkN) e;rw[ag6 k hks];exact e
    .obtain⟨o,e,_⟩:=T.obj _ _ st5 b hb
     exact(cE b hb o e).2
   cases ok with
   |false=>
    rw[if_neg zAM]at q7 ⊢;exact again I7 q7
   |true=>
    rw[if_pos rfl]at q7 ⊢;refine thn (he C fp z4 H1 _ s7 Z6 H7 _ I7 q7) λ u8 s8 ⟨y,H8,I8,r8,hl8,q8⟩=>?_
    refine thn (aBb _ s8 Z6 H8 (.ref z4.heap.objs.size) [y] (.ref z4.heap.objs.size) [u8] (λ _ H9=>H9=upd H8 z4.heap.objs.size (.lst (acc++[y]))) I8 rfl (.cons r8 .nil) ⟨_,acc,y,rfl,rfl,hl8,hz,rfl⟩) λ _ s9 ⟨_,H9,I9,_,e9⟩=>?_
    subst e9;exact again I9 q8
 exact codeAny_compStart_list (loop _ rfl) (T.self X.A 0 _ _ _ h01 (loop _ rfl))
def aDD(I:Inv X kX Z H1 z4)(hfp:∀b∈fp,wL X kX H1 b)(h:∃Z',Inv (X.block scope C N fp z4 H1) [] Z' H' s'):Inv X kX Z H' s':=by
 obtain⟨Z',J⟩:=h;exact I.call' (ch:=fp) J.os J.base J.hok J.bare λ b hb=>⟨(hfp b hb).2.2.2.1,(hfp b hb).2.1,(hfp b hb).2.2.2.2.1,(hfp b hb).2.2.2.2.2⟩
def aPi(B:iQ X scope N st ks)(hc:X.calm=true)(hi:PI X tg iter wi)(hg:∀C fp z5 z0,PG (X.block scope C N fp z5 z0) tg g)(hgo:wK g ks)(ht:∀C fp z5 z0,aEa (X.block scope C N fp z5 z0) ifs tt)
  (he:∀C fp z5 z0,PE (X.block scope C N fp z5 z0) elt te)(hs:∀x,zBs iter X.env x=pure x:=by intro _;rfl):PE X (.ListComp elt [⟨tg,iter,ifs,0⟩] scope pos) (tLC wi st g tt te):=by
 intro kX s Z H Q I h;have hcl:zEh scope X.env=pure (au scope X.env):=jz λ y hy hk=>I.ok.has _ (B.free y hy hk)
 rw[eval_ListComp];refine zEJ (use:=none) rfl hs hcl B.kind B.loc (thn (hi kX s Z H _ I h) λ v s1 h1=>thn h1 λ itv s2 h2=>?_);obtain⟨it,fp,tn,J,H2,e,I2,T,st2,f2,hq⟩:=h2;subst e;refine aEE (RR:=λ acc C=>compPost (model X.prog X.w) X.A X.xe none (EP X kX Z Q) acc C) B hc hg hgo ht he I2 T st2 f2 hq ?_;intro D C H' s' hJ oQ q;have I3:=aDD I2 f2 hJ;obtain⟨Z',J'⟩:=hJ;obtain⟨m,hn,_⟩:=id J'.loc;have hHC:H' C=none:=J'.free;refine⟨m,hn,λ h'' hs''=>⟨.ref D,H',?_,rfl,q⟩⟩;exact I3.turned (t':=s'.toks) (λ b o ne e=>(hs''.2 b ne).trans e) hHC (zBz (zAX I2.lt oQ)) (.inr (zAg I2.sz oQ))
  (λ x c e z=>by obtain⟨v,ic⟩:=I2.cell x c e;exact absurd (zAX ic.lt (by rw[z];exact oQ)) (zBT _))
  (λ p hp z=>absurd (zAX (I2.pinL hp) (by rw[z];exact oQ)) (zBT _))
def aIk(hN:X.N.Nodup)(hx1:X.N[i]? =some x)(hx2:Loc X.env.scope x)(B:iQ X scope N st ks)(hc:X.calm=true)(hi:PI X tg iter wi)(hg:∀C fp z5 z0,PG (X.block scope C N fp z5 z0) tg g)(hgo:wK g ks)
  (ht:∀C fp z5 z0,aEa (X.block scope C N fp z5 z0) ifs tt)(he:∀C fp z5 z0,PE (X.block scope C N fp z5 z0) elt te)(hsw:zD2 (.ListComp elt [⟨tg,iter,ifs,0⟩] scope pos) (some (.Name x pos')) spos.line X.env=pure true)
  (hs:∀x,zBs iter X.env x=pure x:=by intro _;rfl)(hf:X.fn x=true\/X.env.scope.names.lookup x=some .local:=by first|exact .inl rfl|exact .inr rfl|assumption):
  PS X (.Assign [.Name x pos'] (.ListComp elt [⟨tg,iter,ifs,0⟩] scope pos) spos) (aCL (tLC wi st g tt te) (tW i)):=by
 intro kX s Z H D I h;have hcl:zEh scope X.env=pure (au scope X.env):=jz λ y hy hk=>I.ok.has _ (B.free y hy hk)
 rw[exec_Assign_Name_used _ _ _ _ hsw];refine zAC (zEV (zAC ?_));show wpAny _ _ (do let _ <-comprehension (.ListComp elt [⟨tg,iter,ifs,0⟩] scope pos) scope X.env _ (zGS []) false (eval iter X.env) (some (zD0 (.Name x pos') X.env))) _ _ s;refine zAC (zBP (zEJ (use:=some (zD0 (.Name x pos') X.env)) (Q:=λ _ s'=>SP X kX D .next s') rfl hs hcl B.kind B.loc (thn (hi kX s Z H _ I h) λ v s1 h1=>thn h1 λ itv s2 h2=>?_)) (λ _ s' hq=>zAL (zAL hq)) λ _ _ e=>e);obtain⟨it,fp,tn,J,H2,e,I2,T,st2,f2,hq⟩:=h2;subst e;refine aEE (Q:=λ x H1=>tW i x Z H1 D.nx) (RR:=λ acc C=>compPost (model X.prog X.w) X.A X.xe (some (zD0 (.Name x pos') X.env)) (λ _ s'=>SP X kX D .next s') acc C) B hc hg hgo ht he I2 T st2 f2 hq ?_;intro DD C H' s' hJ oQ q;have I3:=aDD I2 f2 hJ;obtain⟨Z',J'⟩:=hJ;obtain⟨m,hn,_⟩:=id J'.loc;have hHC:H' C=none:=J'.free;have neL:C≠X.env.locals:=zBz (zAX I2.lt oQ);have neC:∀x c,X.env.cells.lookup x=some c->c≠C:=λ x c e z=>by obtain⟨v,ic⟩:=I2.cell x c e;exact absurd (zAX ic.lt (by rw[z];exact oQ)) (zBT _)
 show wpAny _ _ (zD0 (.Name x pos') X.env (.ref DD)) _ _ _;refine zIf ?_;refine aBZ I3 hN hx1 hx2 (show RelV (.ref DD) (.ref DD)from rfl) (λ s4 I4 ⟨a,hsa,ha⟩=>?_) hf;have nea:C≠a:=by
  rcases ha with z|z
  .rw[z];exact neL
  .exact zDL (neC _ _ z)
 refine⟨m,hn.sameBut hsa nea,λ h'' hs''=>⟨_,H',?_,q⟩⟩;exact I4.turned (t':=s4.toks) (λ b o ne e=>(hs''.2 b ne).trans e) hHC neL (.inr (zAg I2.sz oQ)) neC
  (λ p hp z=>absurd (zAX (I2.pinL hp) (by rw[z];exact oQ)) (zBT _))
end
def CX1(P:zAS)(w:World):CXT:=λ outer H s E e s'=>∃(ea:Addr) (cls a0:Value) (B:Heap) (H':Hp),e= .ref ea/\s'.os=s.os/\zE5 s'.gens/\Un (frs outer) [] H H' s.heap s'.heap/\HOk P w H' B/\zI1 B outer ea cls a0 s'.heap/\
 (∀b o,s.heap.get? b=some o->H b=none->b∉frs outer->B.get? b=some o)/\(∀b o,s.heap.get? b=some o->b∉frs outer->∃o',B.get? b=some o')/\E cls none H'
structure fX(X:Cx)(E:XK):Prop where
 stk:X.stack=X.env::X.outer
 fr:X.env.frame=some X.env.locals
 ex:X.ex=[]
 xe:X.xe=λ e s'=>wpAny (model X.prog X.w) X.A (leaving X.env e) (λ _ s''=>CX1 X.prog X.w X.outer X.z0 X.z5 E e s'') (λ e' s''=>CX1 X.prog X.w X.outer X.z0 X.z5 E e' s'') s'
def fX.of{K:zAA}:
  fX (aAr (CX1 P w) P w K mg base N qual scope f cd A outer z5 z0 E) E:=⟨rfl,rfl,rfl,rfl⟩
section
variable{X:Cx}{E:XK}
def aKC{B h':Heap}(hX:X.ex=[])(I:Inv X kX Z H s)
  (a1:∀b o,s.heap.get? b=some o->H b=none->b∉frs X.stack->B.get? b=some o)(a2:∀b o,s.heap.get? b=some o->b∉frs X.stack->∃o',B.get? b=some o')
  (a3:B.StaysIn h')(a4:∀b o,b∈frs X.outer->s.heap.get? b=some o->H b=none->(∀vs,o.data≠.fields vs)->∃sl,h'.get? b=some {o with slots:=sl})
  (a5:∀b o,s.heap.get? b=some o->H b=none->H' b=none)(a6:∀b xs,H b=some (.tup xs)->H' b=some (.tup xs))(a7:∀b o u,H b=some (.frz o u)->H' b=some (.frz o u))(a8:∀b q,H b=some (.tbl q)->H' b=some (.tbl q)):
  Un (frs X.outer) [] X.z0 H' X.z5.heap h'/\(∀b o,X.z5.heap.get? b=some o->X.z0 b=none->b∉frs X.outer->B.get? b=some o)/\(∀b o,X.z5.heap.get? b=some o->b∉frs X.outer->∃o',B.get? b=some o'):=by
 have nx:∀b,b∉X.ex:=λ b z=>by rw[hX]at z;cases z
 have noS:∀b o,X.z5.heap.get? b=some o->b∉frs X.outer->b∉frs X.stack:=λ b o e nf hb=>by
  rcases zAO.mp (I.stkSub b hb)with z|z
  .exact absurd z (zA7 (zAX (zAW e) I.ok.above))
  .exact nf z
 have bk:∀b o,X.z5.heap.get? b=some o->X.z0 b=none->b∉frs X.outer->B.get? b=some o:=λ b o e n nf=>
  a1 b o (I.base.keep b o e n nf (nx b)) (I.base.free b o e n (nx b)) (noS b o e nf)
 have ba:∀b o,X.z5.heap.get? b=some o->b∉frs X.outer->∃o',B.get? b=some o':=λ b o e nf=>by
  obtain⟨o1,e1⟩:=I.base.there b o e (nx b);exact a2 b o1 e1 (noS b o e nf)
 have sl:∀b o,X.z5.heap.get? b=some o->X.z0 b=none->b∈frs X.outer->∃sl,h'.get? b=some {o with slots:=sl}:=λ b o e n hb=>by
  obtain⟨sl1,e1⟩:=I.base.slot b o e n hb (nx b);obtain⟨_,o2,ho2,hnf⟩:=I.ok.funs.mem hb;rw[e]at ho2;cases ho2;obtain⟨sl2,e2⟩:=a4 b _ hb e1 (I.base.free b o e n (nx b)) hnf;exact⟨sl2,e2⟩
 refine⟨⟨λ b o e n nf _=>a3 b o (bk b o e n nf),λ b o e n hb _=>sl b o e n hb,λ b o e n _=>?_,λ b o e _=>?_,λ b xs e=>a6 b xs (I.base.tups b xs e),λ b o u e=>a7 b o u (I.base.frzs b o u e),λ b q e=>a8 b q (I.base.tbls b q e)⟩,bk,ba⟩
 .obtain⟨o1,e1⟩:=I.base.there b o e (nx b)
  exact a5 b o1 e1 (I.base.free b o e n (nx b))
 .by_cases hb:b∈frs X.outer
  .obtain⟨s2,e2⟩:=sl b o e (I.ok.frf b hb) hb
   exact⟨_,e2⟩
  .obtain⟨o',e'⟩:=ba b o e hb
   exact⟨o',a3 b o' e'⟩
def fX.pass(D:fX X E):uo (CX1 X.prog X.w) X E:=by
 intro kX Z H s e s' I h;obtain⟨ea,cls,a0,B,H',rfl,os,bare,un,hok,fly,bk,ba,hE⟩:=h;rw[D.xe];have fly':=fly;rw[D.stk]at fly';have hfr:=I.ok.frames;rw[D.stk]at hfr;refine wpAny_leaves_onW (L:=X.env.locals) hfr D.fr fly' λ h' fl up=>?_
 have a4:∀b o,b∈frs X.outer->s.heap.get? b=some o->H b=none->(∀vs,o.data≠.fields vs)->∃sl,h'.get? b=some {o with slots:=sl}:=λ b o hb e n nf=>by
  have hb':b∈frs X.stack:=by
   rw[D.stk];unfold frs;rw[zBN,D.fr];exact zAH _ hb
  obtain⟨s1,e1⟩:=un.slot b o e n hb' (λ z=>nomatch z);obtain⟨s2,e2⟩:=up b _ e1 nf;exact⟨s2,e2⟩
 obtain⟨u1,u2,u3⟩:=aKC (B:=B) (h':=h') (H':=H') D.ex I bk ba fl.1 a4 (λ b o e n=>un.free b o e n (λ z=>nomatch z)) un.tups un.frzs un.tbls;exact⟨ea,cls,a0,B,H',rfl,os.trans I.os,bare,u1,hok,fl,u2,u3,hE⟩
def fX.raise(D:fX X E){ea:Addr}(I:Inv X kX Z H s)
  (hx:Heap.MadeExcOf s.heap h1 ea cls vs)(hE:E cls none H):X.xe (.ref ea) {s with heap:=h1}:=by
 rw[D.xe];have stk:s.heap.FunFrames X.base X.stack:=I.stack;have hin:∀env∈X.stack,∀a,env.frame=some a->a∈frs X.stack:=λ env he a ha=>zBZ.mpr ⟨env,he,ha⟩
 have stk2:=zFh stk hin;have hfr:=I.ok.frames;rw[D.stk]at hfr;have stk3:s.heap.FunFrames (zCC s.heap (frs X.stack)) (X.env::X.outer):=by rw[<-D.stk];exact stk2
 refine wpAny_leaves_madeW (L:=X.env.locals) (base:=zCC s.heap (frs X.stack)) hfr D.fr (λ b o q=>zE0 _ q) stk3 hx λ h' t fl tup bn up=>?_
 have hok:HOk X.prog X.w H (zCC s.heap (frs X.stack)):=λ a o e=>by
  refine(I.hok a o e).stay (λ b u hb q=>zCb _ q λ hm=>?_) (λ _ z=>z) λ _ _ z=>z
  have hn:=I.stkFree b hm;rcases hb with z|z
  .rw[z,e]at hn;cases hn
  .rw[z]at hn;cases hn
 obtain⟨u1,u2,u3⟩:=aKC (B:=zCC s.heap (frs X.stack)) (h':=h') (H':=H) D.ex I (λ b o e n nf=>zCb _ e nf) (λ b o e nf=>⟨o,zCb _ e nf⟩) fl.1
  (λ b o hb e n nf=>up b o (hx.keeps b o e) nf) (λ b o e n=>n) (λ _ _ e=>e) (λ _ _ _ e=>e) (λ _ _ e=>e)
 exact⟨ea,cls,.ref t,_,H,rfl,I.os,I.bare,u1,hok,fl,u2,u3,hE⟩
def fX.own(D:fX X E):PassesOwn (model X.prog X.w) X.A X.env X.xe:=λ e s' h=>by
 rw[D.xe]at h ⊢;exact wpAny_leaving_again (SameStack.refl _) h
end
section
variable{P:zAS}{w:World}{K:zAA}{mg:Str->Option Value}{base:Heap}
def Fun.okX{st:Stmt}(F:Fun K x q st f fd)(S:aY N ps (aJ st))(len:∀vs H Q E,sp vs H Q E->vs.length=ps.length)
  (hbody:∀(cdv:Value) (A:zA6) (outer:List Env) (s:zAD) (H:Hp) (vs:List V) (Q:VK) (E:XK),jX k (A.deeper (zDz q (aJ st) s.heap.objs.size f cdv))->sp vs H Q E->
   ∃t,PSs (aAr (CX1 P w) P w K mg base N q (aJ st) f cdv A outer s H E) (fL st) t/\t {nx:=λ _ H'=>Q .non H',rt:=Q} (start N vs) H):cB P w K mg base (CX1 P w) (k+1) f fd ps sp:=by
 obtain⟨oc,od,kV,doc,pm,an,cdv,ct,osl,rfl,lk,hcd⟩:=F.ex;exact aNA lk hcd S len λ A outer s H vs Q E hr hsp=>hbody cdv A outer s H vs Q E hr hsp
end
def cW(K:zAA)(C:Addr):Prop:=zF3 K C [.type "ValueError",.type "Exception",.type "BaseException",.type "object"] "ValueError.__new__"=true
def wg{K:zAA}(X:K.In h)(hm:mg x=some (.ref C))(q:cW K C):OwnCls x C [.type "ValueError",.type "Exception",.type "BaseException",.type "object"] "ValueError.__new__" mg h:=by
 refine⟨hm,?_⟩;unfold cW zF3 at q;split at q
 .rename_i dd cd sl ho
  split at q
  .rename_i C' bm k0 k1 k2 k3 n k5 hm' hs
   simp only[zAN,beq_iff_eq,zDo]at q;obtain⟨⟨⟨⟨⟨rfl,rfl⟩,hdel⟩,ht⟩,hok⟩,hni⟩:=q;obtain⟨nm,bs,mro,ns,qn,hd,sn,sub,ab,col,del⟩:=cd;dsimp only at hm' hdel hok hni;subst hm' hdel;have hsl:sl=#[k0,k1,k2,k3,some (.builtin "ValueError.__new__"),k5]:=by
    obtain⟨l⟩:=sl;simp only at hs;rw[hs]
   subst hsl;exact⟨bm,ns,nm,qn,bs,hd,sn,sub,ab,col,dd,k0,k1,k2,k3,k5,_,X _ _ ho,.of_isNs (PySem.W.isNs_of_in X hok),PySem.W.nsMap_none_of_in X hok hni,PySem.W.tail_of_in X ht⟩
  .cases q
 .cases q
def aNQ(C:Addr)(E:XK)(ta:TA):TS:=λ _ Z H=>ta Z H λ vs H1=>vs.length<=zAU/\E (.ref C) none H1
section
variable{X:Cx}{E:XK}
def aIl(D:fX X E)(hc:X.calm=true){rest:List Expr}(hm:X.mg x=some (.ref C))(hC:cW X.K C)(hg:Gl X x)
  (ha:PA X (y6::rest) ta)(he:zAV (y6::rest) X.env=(false,eval y6 X.env)::zAV rest X.env:=by rfl)
  (hplain:(zBw cpos (zAV rest X.env)).any (·.1)=false:=by rfl)(hd:Nd x:=by decide):
  PS X (.Raise (some (.Call (.Name x np) (y6::rest) [] cpos)) none pos) (aNQ C E ta):=by
 intro kX s Z H DD I h;obtain⟨tl,NN,nm,q,bs,hdct,sn,sub,ab,col,dd,k0,k1,k2,k3,k5,mN,hCo,hN,hni,T⟩:=(wg (h:=X.base) I.mod.kin hm hC).obj;have FB:=PySem.F.excBase_ValueError;refine wpAny_Raise_call_subU (C:=C) (nm:=nm) (q:=q) (N:=NN) (bs:=bs) (bm:=tl) (hdct:=hdct) (sn:=sn) (sub:=sub) (ab:=ab) (col:=col) (dd:=dd) (k0:=k0) (k1:=k1) (k2:=k2) (k3:=k3) (k5:=k5)
  FB FB.hasB FB (mN:=mN) (T.hasType FB.hasBase) (I.ok.hd hc) (by rw[he];show(false||(zBw cpos (zAV rest X.env)).any (·.1))=false;rw[hplain];rfl) hni
  (sJ I hg hm ⟨rfl,?_⟩ hd)
 have harg:=ha cpos kX s Z H _ I h;rw[he]at harg ⊢;refine zER (zBP harg (λ vs z4 yY=>?_) λ _ _ y=>y);obtain⟨xs,H2,I2,rv,hz,hE⟩:=yY;refine⟨rfl,by show vs.length<=zAU;rw[<-rv.length];exact hz,I2.bk _ _ hCo,hN.keeps I2.bk,T.keeps I2.bk,λ h' ea hx=>D.raise I2 hx hE⟩
end
section
variable{κ:Type}[DecidableEq κ]
def aCJ(kvs:List (κ×V))(k:κ):Option V:=(kvs.find? λ kv=>decide (kv.1=k)).map (·.2)
def putK(kvs:List (κ×V))(k:κ)(v:V):List (κ×V):=
 if (kvs.any λ kv=>decide (kv.1=k))=true then kvs.map (λ kv=>if kv.1=k then(kv.1,v)else kv)else kvs++[(k,v)]
def aDO{p:κ×V}{r:List (κ×V)}{k:κ}(e:p.1=k):aCJ (p::r) k=some p.2:=by simp[aCJ,zEL,e]
def aDP{p:κ×V}{r:List (κ×V)}{k:κ}(e:¬p.1=k):aCJ (p::r) k=aCJ r k:=by simp[aCJ,zEL,e]
def yD(kvs:List (κ×V))(k:κ)(v:V):(putK kvs k v).length<=kvs.length+1:=by
 unfold putK;split
 .rw[zAF];omega
 .rw[zAp,zA0,zCW];omega
def KV.val{kvs:List (κ×V)}{vs:List (κ×Value)}(r:KV kvs vs)(k:κ):aDI (aCJ kvs k) (zHM vs k):=by
 unfold KV at r;induction r with
 |nil=>exact zDE
 |@cons p q ps qs h t ih=>
  obtain⟨h1,h2⟩:=h;by_cases e:p.1=k
  .have e':q.1=k:=h1.symm.trans e
   have b:zHM (q::qs) k=some q.2:=by simp[zHM,zEL,e']
   rw[aDO e,b];exact h2
  .have e':¬q.1=k:=λ z=>e (h1.trans z)
   have b:zHM (q::qs) k=zHM qs k:=by simp[zHM,zEL,e']
   rw[aDP e,b];exact ih
theorem KV.any{kvs:List (κ×V)}{vs:List (κ×Value)}(r:KV kvs vs)(k:κ):(kvs.any λ kv=>decide (kv.1=k))=vs.any λ kv=>decide (kv.1=k):=by
 unfold KV at r;induction r with
 |nil=>rfl
 |cons h t ih=>rw[zC5,zC5,ih,h.1]
def KV.repl{kvs:List (κ×V)}{vs:List (κ×Value)}(r:KV kvs vs)(k:κ){y:V}{u:Value}(ry:RelV y u):
  KV (kvs.map λ kv=>if kv.1=k then(kv.1,y)else kv) (vs.map λ kv=>if kv.1=k then(kv.1,u)else kv):=by
 unfold KV at r ⊢;induction r with
 |nil=>exact .nil
 |@cons p q ps qs h t ih=>
  rw[zAE,zAE];refine .cons ?_ ih;obtain⟨h1,h2⟩:=h;by_cases e:p.1=k
  .rw[if_pos e,if_pos (h1.symm.trans e)];exact⟨h1,ry⟩
  .rw[if_neg e,if_neg (λ z=>e (h1.trans z))];exact⟨h1,h2⟩
def KV.put{kvs:List (κ×V)}{vs:List (κ×Value)}(r:KV kvs vs)(k:κ){y:V}{u:Value}(ry:RelV y u):KV (putK kvs k y) (stored vs k u):=by
 unfold putK stored;rw[r.any k];by_cases e:(vs.any λ kv=>decide (kv.1=k))=true
 .rw[if_pos e,if_pos e];exact r.repl k ry
 .rw[if_neg e,if_neg e];exact Paired.snoc r ⟨rfl,ry⟩
theorem KV.length{kvs:List (κ×V)}{vs:List (κ×Value)}(r:KV kvs vs):kvs.length=vs.length:=zFf r
end
def aJa{P:zAS}{w:World}{k:Key}{u:Value}(r:RelV (kV k) u):(fJ P w).is k u=true:=by
 cases k with
 |inl i=>obtain⟨t,e⟩:=(show∃t,u=zE8 i t from r);subst e;exact aDw P w i t
 |inr x=>obtain⟨t,e⟩:=(show∃t,u=zEH x t from r);subst e;exact aDv P w x t
theorem aBg{P:zAS}{w:World}:∀{ks:List Key} {us:List Value},Vals (ks.map kV) us->ItemsAre (fJ P w) ks us
 |[],_,r=>by rw[zEw]at r;cases r;exact .nil
 |k::ks,_,r=>by
  rw[zAE]at r;cases r with
  |cons h t=>exact .cons (aJa h) (aBg t)
abbrev KT(H:Hp):List (List Key×V)->List (List Key×Addr×Value)->Prop:=zEs λ p q=>p.1=q.1/\H q.2.1=some (.tup (p.1.map kV))/\RelV p.2 q.2.2
section
variable{P:zAS}{w:World}{H:Hp}{h:Heap}{a:Addr}
def aMl{u:HO}(ok:HOk P w H h)(e:Rd H a u):cZ P w H h a u:=e.ok ok
def aKJ{kvs:List (Key×V)}(ok:HOk P w H h)(e:Rd H a (.dK kvs)):kvs.length<=zAU/\(a==zCZ)=false/\∃vs,KV kvs vs/\h.DictOf (fJ P w) a vs:=
 show cZ P w H h a (.dK kvs)from aMl ok e
def aQG{kvs:List (Key×V)}(ok:HOk P w H h)(e:H a=some (.dK kvs)):kvs.length<=zAU/\(a==zCZ)=false/\∃vs,KV kvs vs/\h.DictOf (fJ P w) a vs:=aKJ ok (.inl e)
def aOZ{ks:List Key}(ok:HOk P w H h)(e:H a=some (.tup (ks.map kV))):(zHp (fJ P w)).is h ks a:=by
 obtain⟨_,its,r,o,h1,h2,n,h3⟩:=(show cZ P w H h a (.tup (ks.map kV))from ok a _ e);exact⟨o,its.toArray,n,h1,h2,h3,by simpa using aBg r⟩
def aQF{kvs:List (List Key×V)}(ok:HOk P w H h)(e:Rd H a (.dT kvs)):kvs.length<=zAU/\(a==zCZ)=false/\
  ∃xs,KT H kvs xs/\h.DictOfH (zHp (fJ P w)) a xs:=by
 obtain⟨z,y,xs,r,o,es,ep,h1,h2,h3,h4,h5⟩:=(show cZ P w H h a (.dT kvs)from aMl ok e);refine⟨z,y,xs,r,o,es,ep,h1,h2,h3,h4,λ x hx=>?_,h5⟩;have all:∀{l:List (List Key×V)} {m:List (List Key×Addr×Value)},KT H l m->∀x∈m,(zHp (fJ P w)).is h x.1 x.2.1:=by
  intro l m q;induction q with
  |nil=>intro x hx;exact nomatch hx
  |@cons p q ps qs hq t ih=>
   intro x hx;rcases zAO.mp hx with e|hx
   .subst e
    exact aOZ ok (by rw[<-hq.1];exact hq.2.1)
   .exact ih x hx
 exact all r x hx
end
section
variable{X:Cx}{kX:hZ}{Z:St}{H:Hp}{s:zAD}{a:Addr}
def aMW{h':Heap}{t':Nat}{ob:HO}(I:Inv X kX Z H s)(mu:Mut (H a))(hs:zDJ a s.heap h')(he:∃q,h'.get? a=some q)(new:cZ X.prog X.w (upd H a ob) h' a ob):
  Inv X kX Z (upd H a ob) {s with heap:=h',toks:=t'}:=
 I.write (x:=a) (e:=a) mu (.inl rfl) (λ b q hb z=>(hs.2 b hb).trans z) he new
def aOh{P:zAS}{w:World}{H':Hp}{h':Heap}{kvs:List (Key×V)}{vs:List (Key×Value)}(z:kvs.length<=zAU)(hd:(a==zCZ)=false)(rel:KV kvs vs)(dd:h'.DictOf (fJ P w) a vs):
  cZ P w H' h' a (.dK kvs):=⟨z,hd,vs,rel,dd⟩
end
end L2
namespace Att
open PySem PySem.W PySem.Calls PyProof.Rows
end Att
namespace L2
open PySem PySem.Spec PyProof.Rows
section
variable{κ:Type}[DecidableEq κ]
end
section
variable{κ:Type}[DecidableEq κ]
theorem aDI.getD{o:Option V}{u:Option Value}{d:V}{d':Value}(r:aDI o u)(rd:RelV d d'):RelV (o.getD d) (u.getD d'):=by
 cases o with
 |none=>cases u with
  |none=>exact rd
  |some _=>exact(show False from r).elim
 |some _=>cases u with
  |none=>exact(show False from r).elim
  |some _=>exact r
end
def IsD(H:Hp)(a:Addr):Prop:=(∃kvs,Rd H a (.dK kvs))\/∃kvs,Rd H a (.dT kvs)
def aO6{X:Cx}{kX:hZ}{Z:St}{H:Hp}{s:zAD}{a:Addr}(I:Inv X kX Z H s)(d:IsD H a):
  s.TypeIs (.ref a) "dict"/\(∀b,zBF a= .ref b->∃ob,s.heap.get? b=some ob/\ob.dict=none)/\(a==zCZ)=false:=by
 rcases d with ⟨kvs,e⟩|⟨kvs,e⟩
 .obtain⟨_,hd,vs,_,dd⟩:=aKJ I.hok e
  refine⟨dd.typeIs,λ b q=>?_,hd⟩;cases q;obtain⟨ob,_,_,h1,h2,_⟩:=dd;exact⟨ob,h1,h2.2.1⟩
 .obtain⟨_,hd,xs,_,dd⟩:=aQF I.hok e
  refine⟨dd.typeIs,λ b q=>?_,hd⟩;cases q;obtain⟨ob,_,_,h1,h2,_⟩:=dd;exact⟨ob,h1,h2.2.1⟩
end L2
namespace Att
open PySem PySem.W PySem.Calls PyProof.Rows
end Att
namespace L2
open PySem PySem.Spec PyProof.Rows
section
variable{κ:Type}[DecidableEq κ]
end
def aBP{pos:Pos}{a b:Int}{c cv:Value}(l:List Value)(h:TriplesOk l)(e:zFP pos (l++[zIR a,zIR b,c])=some cv):zFP pos l=some cv\/cv=c:=by
 fun_induction TriplesOk l with
 |case1=>
  simp only[zD3,zFP,zIR]at e;split at e
  .exact .inr (zAc e).symm
  .cases e
 |case2 a' t b' u x rest ih=>
  simp only[zHa,zFP]at e ⊢;split at e
  .rename_i hc;rw[if_pos hc];exact .inl e
  .rename_i hc;rw[if_neg hc];exact ih h e
 |case3 l h1 h2=>exact h.elim
section
variable{X:Cx}{H:Hp}
structure aQM(X:Cx)(P:Addr):Prop where
 ta:∃o,X.ta=[(P,o)]
 ex:P∈X.ex
 tq:X.tq=X.env.qual++"<lambda>"
 code:∃c,X.env.code= .ref c/\zFN X.base c P
 blt:X.base.BuiltinsAt X.mg P
 gne:zAT≠P
def aEb(q:Str)(params:zCa)(body:Expr)(scope:Scope)(cl:List (Str×Addr))(pm:Value)(H:Hp)(f c':Addr)(ctv:Value):Prop:=
 H f=some (.frz (zCT "<lambda>" q params body scope cl pm c' ctv) (.own f))/\∃oc,H c'=some (.frz oc (.own c'))/\aNF q oc
end
def aEm(X:Cx)(k0:Nat)(i:Nat)(E:XK):TE:=λ Z H Q=>∃f cls dd sl fd k sp,Z[i]? =some (some (.ref f))/\H f=some (.frz ⟨cls,dd,.func fd,sl⟩ (.own f))/\cB X.prog X.w X.K X.mg X.base (CX1 X.prog X.w) k f fd [] sp/\k<=k0/\Binds X.K fd [] []/\sp [] H Q E
def aIv{X:Cx}{k0 i:Nat}{y:Str}{p pos:Pos}{E:XK}(hr:jX k0 X.A)(hx:uo (CX1 X.prog X.w) X E)(hN:X.N[i]? =some y)(hv:Vis X.env.scope y)(hd:Nd y:=by decide)(hcd:(y==("__classdict__":Str))=false:=by decide):
  PE X (.Call (.Name y p) [] [] pos) (aEm X k0 i E):=by
 intro kX s Z H Q I ⟨f,cls,dd,sl,fd,k,sp,hs,hf,F,hk,hb,h⟩;have fin:wpAny (model X.prog X.w) X.A (eval (.Name y p) X.env) (λ v s'=>v= .ref f/\s'=s) X.xe s:=by
  obtain⟨mm,hnn,hl⟩:=I.loc;obtain⟨u,ru,l⟩:=hl i y _ hN hs hv;cases ru;rcases l with ⟨hk2,hm⟩|⟨hk2,c,hc,hcell⟩
  .exact zDU (zEn I.ok.kind hk2 hnn hm ⟨rfl,rfl⟩) hd
  .rcases hk2 with hk2|hk2
   .exact zDU (zFB I.ok.kind hk2 hc hcell ⟨rfl,rfl⟩) hd
   .exact zDU (zFC I.ok.kind hk2 hc hcell ⟨rfl,rfl⟩ hcd) hd
 refine zBk (thn fin λ v s' ⟨ev,es'⟩=>?_);subst ev es';obtain⟨ho,_⟩:s'.heap.get? f=some _/\_:=I.hok f _ hf;have KX:PySem.W.Frag.In [(f,⟨cls,dd,.func fd,sl⟩)] s'.heap:=λ b o e=>by
  rw[zAe]at e;by_cases hbf:b=f
  .subst hbf
   simp only[beq_self_eq_true]at e;cases e;exact ho
  .simp only[beq_eq_false_iff_ne.mpr hbf]at e
   cases e
 exact PySem.W.callWith_K0 (K:=[(f,⟨cls,dd,.func fd,sl⟩)]) KX (by simp[zBR,zAe]) (aFA (us:=[]) F (hr.mono hk) hb .nil hx I .nil h)
def cxL(P:zAS)(w:World)(K:zAA)(mg:Str->Option Value)(base:Heap)(N:List Str)(q:Str)(scope:Scope)(cl:List (Str×Addr))(f:Addr)(cd:Value)(A:zA6)(outer:List Env)(s:zAD)(H:Hp)(E:XK):Cx where
 prog:=P
 w:=w
 K:=K
 mg:=mg
 base:=base
 A:=A.deeper (zCi q scope s.heap.objs.size f cd cl)
 N:=N
 z5:=s
 z0:=H
 env:=zCi q scope s.heap.objs.size f cd cl
 outer:=outer
 stack:=zCi q scope s.heap.objs.size f cd cl::outer
 ex:=[]
 calm:=true
 fn:=λ _=>false
 pn:=[]
 xe:=λ e s'=>wpAny (model P w) (A.deeper (zCi q scope s.heap.objs.size f cd cl)) (leaving (zCi q scope s.heap.objs.size f cd cl) e) (λ _ s''=>CX1 P w outer H s E e s'') (λ e' s''=>CX1 P w outer H s E e' s'') s'
def fX.ofL{P:zAS}{w:World}{K:zAA}{mg:Str->Option Value}{base:Heap}{N:List Str}{q:Str}{scope:Scope}{cl:List (Str×Addr)}{f:Addr}{cd:Value}{A:zA6}{outer:List Env}{s:zAD}{H:Hp}{E:XK}:
  fX (cxL P w K mg base N q scope cl f cd A outer s H E) E:=⟨rfl,rfl,rfl,rfl⟩
structure aAu(scope:Scope):Prop where
 kind:scope.kind= .function
 co:scope.isCoroutine=false
 gen:scope.isGenerator=false
 cell:∀y∈scope.names,y.2≠.cell
 loc:∀y∈scope.names,y.2≠.local
structure aK9(base:Heap)(N:List Str)(Z:St)(scope:Scope)(cl:List (Str×Addr)):Prop where
 inj:∀x y c,cl.lookup x=some c->cl.lookup y=some c->x=y
 has:∀x,scope.names.lookup x=some .free->∃c,cl.lookup x=some c
 cell:∀x c,cl.lookup x=some c->∃v,base.IsCell c v
 val:∀(i:Nat) x v,N[i]? =some x->Z[i]? =some (some v)->scope.names.lookup x=some .free->∃c u,cl.lookup x=some c/\RelV v u/\base.IsCell c (some u)
 len:Z.length=N.length
def aOV{P:zAS}{w:World}{K:zAA}{mg:Str->Option Value}{base:Heap}{N:List Str}{q:Str}{params:zCa}{scope:Scope}{cl:List (Str×Addr)}{f c':Addr}{pm ctv:Value}{body:Expr}{k:Nat}{Z:St}{H1:Hp}{sp:Sp}
  (la:aEb q params body scope cl pm H1 f c' ctv)(S:aAu scope)(cp:aK9 base N Z scope cl)
  (len:∀vs H Q E,sp vs H Q E->vs=[]/\aX H1 H)
  (hbody:∀(A:zA6) (outer:List Env) (s:zAD) (H:Hp) (Q:VK) (E:XK),jX k (A.deeper (zCi q scope s.heap.objs.size f (.ref c') cl))->sp [] H Q E->∃te,PE (cxL P w K mg base N q scope cl f (.ref c') A outer s H E) body te/\te Z H Q):
  cB P w K mg base (CX1 P w) (k+1) f (zFO "<lambda>" q params body scope cl pm (.ref c') ctv) [] sp:=by
 refine⟨λ vs H Q E h=>by rw[(len vs H Q E h).1];rfl,λ A outer s H args us vs Q E hr e0 hb r hsp=>?_⟩;obtain⟨rfl,hsm⟩:=len _ _ _ _ hsp;obtain⟨te,hpe,hte⟩:=hbody A outer s H Q E (hr.deeper _) hsp;have eI:s.heap.NoLimit:=e0.mod.nolimit.keeps λ b o e=>(e0.bs b o e).1
 obtain⟨hf,oc,hc,hco⟩:=la;obtain⟨ho,_⟩:s.heap.get? f=some _/\_:=e0.hok f _ (hsm _ _ hf);obtain⟨hoc,_⟩:s.heap.get? c'=some oc/\_:=e0.hok c' _ (hsm _ _ hc);obtain⟨vs,t,hd,hv⟩:=hco;refine PySem.W.kla_callFunE hr.depth ho rfl S.co S.gen rfl ⟨c',oc,vs,t,rfl,hoc,hd,hv⟩ (hb _ _ _ _ ?_);refine wpAny_newFunctionEnv S.cell (by intro y hy;simp at hy) (λ zI hns hsb=>?_) S.kind;have hk₁:∀b o,s.heap.get? b=some o->zI.get? b=some o:=λ b o e=>hsb.extBut b o (zA7 (zAW e)) (zAG _ e)
 refine⟨eI.keeps hk₁,?_⟩;show zCJ _ _ (.expr body (zCi q scope s.heap.objs.size f (.ref c') cl)) _ _;have kb:∀b o,base.get? b=some o->zI.get? b=some o:=λ b o e=>hk₁ b o (e0.bs b o e).1
 have I:Inv (cxL P w K mg base N q scope cl f (.ref c') A outer s H E) [] Z H {s with heap:=zI,toks:=s.toks+(([]:List Str).zip us).length}:=by
  refine⟨⟨e0.mod,S.kind,rfl,rfl,zAQ _,cp.inj,λ x hx=>?_,λ x c z=>absurd z zAM,λ _=>hr.hd,zGK e0.frames,.inr ⟨rfl,rfl⟩,λ b z=>(nomatch z),e0.bs,e0.bsz,λ b _ _=>λ z=>(nomatch z),λ b z=>(nomatch z),e0.funs,e0.frf⟩,
   rfl,e0.bare,Un.kept hk₁,⟨_,hns,λ i x v e1 e2 e3=>?_⟩,λ x c e=>?_,e0.hok.fresh (zAQ _),λ x c e=>?_,λ p hp=>(nomatch hp),e0.hok.kept hk₁,cp.len,λ p hp=>(nomatch hp)⟩
  .rcases hx with z|z
   .exact absurd rfl (S.cell _ (zAj z))
   .exact cp.has x z
  .rcases e3 with z|z|z
   .exact absurd rfl (S.loc _ (zAj z))
   .exact absurd rfl (S.cell _ (zAj z))
   .obtain⟨c,u,c1,c2,c3⟩:=cp.val i x v e1 e2 z
    exact⟨u,c2,.inr ⟨.inr z,c,c1,c3.keeps kb⟩⟩
  .obtain⟨v,z⟩:=cp.cell x c e
   exact⟨v,z.keeps kb⟩
  .obtain⟨v,o,z,_⟩:=cp.cell x c e
   exact(e0.bs c o z).2
 refine PySem.W.kla_codeExpr (zBP (hpe [] _ Z H _ I hte) (λ u s' hq=>?_) λ e s' hq=>hq);obtain⟨v,H',J,rv,q⟩:=hq;exact⟨v,H',J.os,J.bare,J.base,J.hok,rv,q⟩
def bse(X:Cx)(s:zAD)(H:Hp):Heap:=zCC s.heap (trk s.heap H++frs X.stack)
section
variable{X:Cx}{kX:hZ}{Z:St}{H:Hp}{s:zAD}
def aGo{b:Addr}{o:Obj}(e:s.heap.get? b=some o)(n:H b=none)(nf:b∉frs X.stack):(bse X s H).get? b=some o:=
 zCb _ e λ hm=>by
  rcases zAx.mp hm with z|z
  .have q:(H b).isSome=true:=(zBY.mp z).2
   rw[n]at q;cases q
  .exact nf z
def aOp{b:Addr}{o:Obj}(e:(bse X s H).get? b=some o):s.heap.get? b=some o/\H b=none:=by
 have e1:=zE0 _ e;refine⟨e1,?_⟩;cases q:H b with
 |none=>rfl
 |some u=>
  have hm:b∈trk s.heap H++frs X.stack:=zAr _ (zBY.mpr ⟨zBC.mpr (zAW e1),by rw[q];rfl⟩);have z:(zCC s.heap (trk s.heap H++frs X.stack)).get? b=none:=zGG _ hm;have e2:(zCC s.heap (trk s.heap H++frs X.stack)).get? b=some o:=e;rw[z]at e2;cases e2
def Inv.env1(I:Inv X kX Z H s):aFt X.prog X.w X.K X.mg (bse X s H) X.A X.stack s H:=by
 have kb:∀b o,X.base.get? b=some o->(bse X s H).get? b=some o:=λ b o e=>aGo (I.bs b o e).1 (I.bs b o e).2 λ hb=>by
  have z:=(I.stack.mem hb).1;rw[e]at z;cases z
 have ns:∀{b:Addr} {m:Str->Option Value},X.base.Ns b m->(bse X s H).Ns b m:=λ{b m} ⟨o,es,ep,e,r⟩=>⟨o,es,ep,kb _ _ e,r⟩
 refine⟨I.ok.frames,⟨I.mod.kin.keeps kb,ns I.mod.glob,?_,I.mod.nolimit.keeps kb⟩,λ b o e=>aOp e,zFG (zGH _ _),zFh I.stack λ env he a ha=>zAb _ (zBZ.mpr ⟨env,he,ha⟩),I.stkFree,I.hok,I.bare⟩;obtain⟨mb,h1,h2⟩:=I.mod.blt;exact⟨mb,ns h1,h2⟩
def aKz{CX:CXT}{k:Nat}{f:Addr}{fd:zA5}{ps:List Str}{sp:Sp}{E:XK}{Q:VK}{vs:List V}{us:List Value}(I:Inv X kX Z H s)(F:cB X.prog X.w X.K X.mg (bse X s H) CX k f fd ps sp)(hr:jX k X.A)(hb:Binds X.K fd ps [])(hx:uo CX X E)
  (r:Vals vs us)(h:sp vs H Q E):wpAny (model X.prog X.w) X.A (call (.ref f) us) (EP X kX Z Q) X.xe s:=by
 have hl:(us++[]).length=ps.length:=by rw[zAw,<-r.length];exact F.len _ _ _ _ h
 have hb':=hb s us I.kIn hl;rw[zAw]at hb';refine zGt (zDB (F.run X.A X.stack s H ⟨us,[]⟩ us vs Q E hr I.env1 hb' r h) λ r s' hq=>?_);cases r with
 |error e=>exact hx kX Z H s e s' I hq
 |ok fl=>
  cases fl with
  |ret u=>exact I.after hq
  |next=>exact zAJ hq
  |brk=>exact zAJ hq
  |cont=>exact zAJ hq
end
abbrev bmV:List Value:=[.type "ValueError",.type "Exception",.type "BaseException",.type "object"]
section
variable{prog:zAS}{w:World}{A:zA6}{E:Value->zAD->Prop}{h:Heap}{g:Array zCu}{d:Drawn}{t:Nat}{os:OsState}{a:Addr}{o:Obj}
 {nm q:Str}{C N:Addr}{bs bm:List Value}{hdct:Bool}{sn:List Str}{sub:List Value}{ab:Bool}{col:Option Bool}{dd:Option Addr}{k0 k1 k2 k3 k5:Option Value}{newId:String}{K:zAA}
def aE1{R:zEG->zAD->Prop}(hC:h.get? C=some (zEU nm q C N bs bm hdct sn sub ab col dd k0 k1 k2 k3 k5 newId))(T:OwnTail h bmV bm)
  (hx:h.get? a=some o)(hc:o.cls= .ref C)(hq:R (.ok (.ret (.ref C))) ⟨h,g,d,t,os⟩):
  zCJ (model prog w) A (.call (.builtin "getset_descriptor.__get__") ⟨[.builtin "object.__class__",.ref a,.ref C],[]⟩) R ⟨h,g,d,t,os⟩:=by
 have hT5:(⟨h,g,d,t,os⟩:zAD).TypeIs (.builtin "object.__class__") "getset_descriptor":=zEY;have hcB:(zBF C::bm).contains (.type (".".intercalate ("object.__class__".cutAt '.').dropLast))=true:=by
  rw[F.owner_object_class,zEe,T.hasType (X:="object") (b:=true) (by decide+kernel)];rfl
 refine zEm zG6.plain F.entry_gs_get (zG6.check _ _ _ _ _ _ _ _ hT5 (F.args_gs_get _ _ _) ?_)
 repeat (any_goals (first|assumption|(with_reducible refine zCO hx ?_;rw[hc])|(with_reducible refine zDm hC ?_;rw[hcB])|wp_step))
 refine⟨zGv _ (by decide+kernel),zCc F.entry_object_class ?_⟩
 repeat (any_goals (first|assumption|(with_reducible refine zCO hx ?_;rw[hc])|wp_step))
def aCx{M:Model}{nameV:Value}{Q:Unit->zAD->Prop}(hC:h.get? C=some (zEU nm q C N bs bm hdct sn sub ab col dd k0 k1 k2 k3 k5 newId))(T:OwnTail h bmV bm)
  (hx:h.get? a=some o)(hc:o.cls= .ref C)(hq:Q () ⟨h,g,d,t,os⟩):wpAny M A (zFq "BaseException.__getattribute__" ⟨[.ref a,nameV],[]⟩) Q E ⟨h,g,d,t,os⟩:=by
 have hk:builtinKind "BaseException.__getattribute__"=some .slot:=by decide+kernel
 have eK:splitId "BaseException.__getattribute__"=some ("BaseException","__getattribute__"):=by decide+kernel
 have hcB:(zBF C::bm).contains (.type "BaseException")=true:=by rw[zEe,T.hasType (X:="BaseException") (b:=true) (by decide+kernel)];rfl
 have ha:=F.args_bexc_ga (.ref a) nameV;simp only[zFq,hk,eK];refine zAC ?_
 .unfold isInstance
  repeat (first|(with_reducible refine zCO hx ?_;rw[hc])|(with_reducible refine zDm hC ?_;rw[hcB])|wp_step)
  exact hq
def aBQ{tk:Tok}{Q:Fin->zAD->Prop}(hC:h.get? C=some (zEU nm q C N bs bm hdct sn sub ab col dd k0 k1 k2 k3 k5 newId))(T:OwnTail h bmV bm)(lk:∀M:Model,zEZ M h (zF8 (.ref C) "__class__") (some (.builtin "object.__class__")))
  (hx:h.get? a=some o)(hc:o.cls= .ref C)(hq:Q (.done (.ret (.ref C))) ⟨h,g,d,t,os⟩):
  wpAny (model prog w) A (zEQ.«object.__getattribute__» ⟨[.ref a,.str "__class__" tk],[]⟩) Q E ⟨h,g,d,t,os⟩:=by
 have hT5:(⟨h,g,d,t,os⟩:zAD).TypeIs (.builtin "object.__class__") "getset_descriptor":=zEY;have f5:=zEY;have f6:=zG6.lookup;have f7:=F.slot_gs_set.lookup
 repeat (any_goals (first|assumption|(with_reducible refine zCO hx ?_;rw[hc])|with_reducible refine(lk _).here ?_|wp_step))
 refine aE1 hC T hx hc ?_
 repeat (any_goals (first|assumption|wp_step))
def aCv{Q:Option Value->zAD->Prop}(hC:h.get? C=some (zEU nm q C N bs bm hdct sn sub ab col dd k0 k1 k2 k3 k5 newId))(T:OwnTail h bmV bm)(lk:∀M:Model,zEZ M h (zF8 (.ref C) "__class__") (some (.builtin "object.__class__")))
  (lg:∀M:Model,zEZ M h (zF8 (.ref C) "__getattribute__") (some (.builtin "BaseException.__getattribute__")))(ln:∀M:Model,zEZ M h (zF8 (.ref C) "__getattr__") none)
  (hx:h.get? a=some o)(hc:o.cls= .ref C)(hq:Q (some (.ref C)) ⟨h,g,d,t+1,os⟩):wpAny (model prog w) A (getAttr? (.ref a) "__class__") Q E ⟨h,g,d,t,os⟩:=by
 have by_exc:∀{E:Value->zAD->Prop} {t:Nat} {tk:Tok} {Q:Value->zAD->Prop},Q (.ref C) ⟨h,g,d,t,os⟩->wpAny (model prog w) A (getAttrBy (.ref a) (.str "__class__" tk) false) Q E ⟨h,g,d,t,os⟩:=by
  intro E t tk Q hq;have FB:=PySem.F.excAttr_ValueError;have f3:=FB.ga.bind (.ref a);have hx0:(false&&onTheHeap (zDt "BaseException.__getattribute__"))=false:=rfl;have hx2:(zDt "BaseException.__getattribute__"==zDt "object.__getattribute__")=false:=by decide+kernel
  have hx1:(onTheHeap (zBF C)&&zDt "BaseException.__getattribute__"==zDt "object.__getattribute__")=false:=by rw[hx2];rfl
  repeat (any_goals (first|assumption|(with_reducible refine zCO hx ?_;rw[hc])|with_reducible refine(lg _).here ?_|with_reducible refine(ln _).here ?_|wp_step))
  refine zEm FB.ga.plain F.entry_bexc_ga (aCx hC T hx hc (aBQ hC T lk hx hc ?_))
  repeat (any_goals (first|assumption|wp_step))
 unfold getAttr? getAttrBy?
 repeat (any_goals (first|assumption|with_reducible apply by_exc|wp_step))
def aJ9(hE:cW K C)(ha:zBJ K (.ref C) "__class__"=some (some (.builtin "object.__class__")))(hgt:zBJ K (.ref C) "__getattribute__"=some (some (.builtin "BaseException.__getattribute__")))
  (hga:zBJ K (.ref C) "__getattr__"=some none):PySem.W.KitX K (.ref a) (.ref C) (λ h=>∃o,h.get? a=some o/\o.cls= .ref C) where
 ty:=λ M h _ ⟨o,h1,h2⟩=>h2▸(zI4 h1).andThen .now
 it:=λ M h X _=>by
  obtain⟨bm,NN,nm,q,bs,hdct,sn,sub,ab,col,dd,k0,k1,k2,k3,k5,mN,hC,_⟩:=(wg (h:=h) (mg:=λ _=>some (.ref C)) (x:="x") X rfl hE).obj;intro A' Q' E' s' k q;unfold isType loadHead;exact zAC (wpAny_loadPart (k _ _ hC) (zAL q))
 ne:=λ h tp dd its n sl X htp=>by
  obtain⟨bm,NN,nm,q,bs,hdct,sn,sub,ab,col,dd,k0,k1,k2,k3,k5,mN,hC,_⟩:=(wg (h:=h) (mg:=λ _=>some (.ref C)) (x:="x") X rfl hE).obj;refine zHO.mpr λ z=>?_
  have e:C=tp:=Value.ref.inj (beq_iff_eq.mp z);subst e;rw[hC]at htp;exact absurd (congrArg Obj.cls (zAc htp)) (by show zBu "type"≠zBu "tuple";decide+kernel)
 ca:=λ{prog w A E Q s} X ⟨o,h1,h2⟩ k=>by
  obtain⟨h,g,d,t,os⟩:=s;obtain⟨bm,NN,nm,q,bs,hdct,sn,sub,ab,col,dd,k0,k1,k2,k3,k5,mN,hC,hN,hni,T⟩:=(wg (h:=h) (mg:=λ _=>some (.ref C)) (x:="x") X rfl hE).obj;exact aCv hC T (λ M=>zDM X ha) (λ M=>zDM X hgt) (λ M=>zDM X hga) h1 h2 k
end
def excφ(a C:Addr):Heap->Prop:=λ h=>∃o,h.get? a=some o/\o.cls= .ref C
def excφ_stay{a C:Addr}:∀h1 h2:Heap,excφ a C h1->(∀o,h1.get? a=some o->h2.get? a=some o)->excφ a C h2:=λ h1 h2 ⟨o,e,c⟩ k=>⟨o,k o e,c⟩
structure aMc(K:zAA)(C:Addr):Prop where
 ex:cW K C
 ca:zBJ K (.ref C) "__class__"=some (some (.builtin "object.__class__"))
 gt:zBJ K (.ref C) "__getattribute__"=some (some (.builtin "BaseException.__getattribute__"))
 ga:zBJ K (.ref C) "__getattr__"=some none
section
variable{X:Cx}
def aMo(K:zAA):List V->Hp->VK->Prop:=λ xs H Q=>∃a C y c b,xs=[.ref a,y]/\RelV y c/\H a=some (.ext (excφ a C))/\aMc K C/\zBi K (.ref C) c=some b/\Q (.bl b) H
def aHo:lH X (.builtin "isinstance") (aMo X.K):=by
 intro kX s Z H xs us Q I r h;obtain⟨a,C,y,c,b,rfl,ry,ha,kc,e,q⟩:=h;obtain⟨u,w',rfl,r1,r2⟩:=vals2 r;cases r1;have hc:w'=c:=by
  cases y<;>first
   |(cases r2;cases ry;rfl)
   |(obtain⟨t1,rfl⟩:=r2;obtain⟨t2,rfl⟩:=ry;exact absurd e (by simp[zBi,PySem.W.kitCls]))
 subst hc;obtain⟨p,_⟩:excφ a C s.heap/\_:=I.hok a _ ha;exact zBH (aJ9 kc.ex kc.ca kc.gt kc.ga) I.kIn p e (λ z=>nomatch z) λ tk=>⟨.bl b,H,I.tok tk,rfl,q⟩
end
abbrev Cx.re(X:Cx)(A:zA6)(c:Bool)(pl:hZ)(E:Value->zAD->Prop):Cx:={X with A:=A,calm:=c,pn:=X.pn++pl,xe:=E}
section
variable{X:Cx}{kX:hZ}{Z:St}{H:Hp}{s:zAD}
theorem Inv.re{A:zA6}{c:Bool}{E:Value->zAD->Prop}(I:Inv X kX Z H s)(hf:A.frames=X.A.frames)(hd:c=true->A.handled=none):Inv (X.re A c kX E) [] Z H s:=
 ⟨⟨I.ok.mod,I.ok.kind,I.ok.glob,I.ok.blt,I.ok.above,I.ok.inj,I.ok.has,I.ok.cab,hd,hf.trans I.ok.frames,I.ok.stk,I.ok.exf,I.ok.bs,I.ok.bsz,I.ok.noex,I.ok.exfs,I.ok.funs,I.ok.frf⟩,
  I.os,I.bare,I.base,I.loc,I.cell,I.free,I.freeC,λ p hp=>I.pin p (by rw[zAw]at hp;exact hp),I.hok,I.len,λ p hp=>let⟨a,b,c,d,e⟩:=I.tab p hp;⟨a,b,c,λ q hq=>d q (by rw[zAw]at hq;exact hq),e⟩⟩
def Inv.unre{A:zA6}{c:Bool}{E:Value->zAD->Prop}{pins2:hZ}{Z2:St}{H2:Hp}{s2:zAD}(ok:X.Ok)(J:Inv (X.re A c kX E) pins2 Z2 H2 s2):Inv X kX Z2 H2 s2:=
 ⟨ok,J.os,J.bare,J.base,J.loc,J.cell,J.free,J.freeC,λ p hp=>J.pin p (zAr _ hp),J.hok,J.len,λ p hp=>let⟨a,b,c,d,e⟩:=J.tab p hp;⟨a,b,c,λ q hq=>d q (zAr _ hq),e⟩⟩
def Inv.track{a:Addr}{o:HO}(I:Inv X kX Z H s)(ha:H a=none)(h0:X.z5.heap.get? a=none)(hL:X.env.locals≠a)(hc:∀x c,X.env.cells.lookup x=some c->c≠a)(hp:∀p∈X.ta++(X.pn++kX),p.1≠a)
  (new:cZ X.prog X.w (upd H a o) s.heap a o):Inv X kX Z (upd H a o) s:=by
 have ne:∀b u,H b=some u->b≠a:=λ b u e=>bf e ha
 refine⟨I.ok,I.os,I.bare,⟨I.base.keep,I.base.slot,λ b ob e n nx=>?_,I.base.there,λ b xs e=>?_,λ b ob u e=>?_,λ b ps e=>?_⟩,I.loc,I.cell,?_,λ x c e=>?_,λ p hp'=>?_,λ b u e=>?_,I.len,λ p hp'=>?_⟩
 .rw[aj (λ z=>by rw[z,h0]at e;cases e)]
  exact I.base.free b ob e n nx
 .have e1:=I.base.tups b xs e
  rw[aj (ne b _ e1)];exact e1
 .have e1:=I.base.frzs b ob u e
  rw[aj (ne b _ e1)];exact e1
 .have e1:=I.base.tbls b ps e
  rw[aj (ne b _ e1)];exact e1
 .rw[aj hL];exact I.free
 .rw[aj (hc x c e)];exact I.freeC x c e
 .obtain⟨p1,p2,p3⟩:=I.pin p hp'
  exact⟨p1,by rw[aj (hp p (zAb _ hp'))];exact p2,p3⟩
 .by_cases hb:b=a
  .subst hb;rw[bN]at e;cases e;exact new
  .rw[aj hb]at e
   exact(I.hok b u e).stay (λ c v _ q=>q) (λ c q=>by rw[aj (ne c _ q)];exact q) (λ c xs q=>by rw[aj (ne c _ q)];exact q) λ c o2 u2 q=>by rw[aj (ne c _ q)];exact q
 .obtain⟨n1,n2,n3,n0,ps,n4,n5⟩:=I.tab p hp'
  exact⟨by rw[aj (hp p (zAr _ hp'))];exact n1,n2,n3,n0,ps,n4,n5.mono λ b o u e=>by rw[aj (ne b _ e)];exact e⟩
def Inv.gone{i:Nat}{n:Str}{h':Heap}{m:Str->Option Value}{v:Option Value}{tk:Nat}(I:Inv X kX Z H s)(hN:X.N.Nodup)(hi:X.N[i]? =some n)(hm:s.heap.Ns X.env.locals m)(hn:h'.Ns X.env.locals λ x=>if x=n then v else m x)(hs:zDJ X.env.locals s.heap h'):
  Inv X kX (Z.set i none) H {s with heap:=h',toks:=tk}:=by
 obtain⟨m0,hm0,hl⟩:=id I.loc;have cne:=I.cne;have em:m0=m:=by
  obtain⟨o1,es1,ep1,e1,d1,k1⟩:=hm0;obtain⟨o2,es2,ep2,e2,d2,k2⟩:=hm;rw[e1]at e2;cases e2;rw[d1]at d2;cases d2;funext x;exact(k1.2 x).symm.trans (k2.2 x)
 subst em;obtain⟨oL,_,_,hoL,_⟩:=id hm0;have keep:∀b o,b≠X.env.locals->s.heap.get? b=some o->h'.get? b=some o:=λ b o nb e=>(hs.2 b nb).trans e
 refine⟨I.ok,I.os,I.bare,⟨λ b o e n' hb hx=>?_,λ b o e n' hb hx=>?_,I.base.free,λ b o e hx=>?_,I.base.tups,I.base.frzs,I.base.tbls⟩,⟨_,hn,λ j y v' e1 e2 e3=>?_⟩,λ y c e=>?_,I.free,I.freeC,λ p hp=>?_,λ b u e=>?_,by simpa using I.len,λ p hp=>?_⟩
 .exact keep b o (zA7 (zAX (zAW e) I.ok.above)) (I.base.keep b o e n' hb hx)
 .obtain⟨sl,e1⟩:=I.base.slot b o e n' hb hx
  exact⟨sl,keep b _ (zA7 (zAX (zAW e) I.ok.above)) e1⟩
 .obtain⟨o',e1⟩:=I.base.there b o e hx
  exact⟨o',keep b _ (zA7 (zAX (zAW e) I.ok.above)) e1⟩
 .have hj:j≠i:=λ z=>by
   subst z;rw[zEr]at e2;simp at e2
  rw[zBh (zDL hj)]at e2;obtain⟨u,r,q⟩:=hl j y v' e1 e2 e3;refine⟨u,r,?_⟩;have yn:y≠n:=λ z=>hj (aAP hN e1 (z▸hi))
  rcases q with ⟨k,e⟩|⟨k,c,e,z⟩
  .exact .inl ⟨k,by simp[yn,e]⟩
  .exact .inr ⟨k,c,e,z.sameBut hs (cne y c e)⟩
 .obtain⟨v',z⟩:=I.cell y c e
  exact⟨v',z.sameBut hs (cne y c e)⟩
 .obtain⟨p1,p2,p3,p4⟩:=I.pin p hp
  exact⟨keep _ _ p3 p1,p2,p3,p4⟩
 .refine(I.hok b u e).stay (λ c v' hc q=>keep c v' ?_ q) (λ _ q=>q) λ _ _ q=>q
  rintro rfl;rcases hc with z|z
  .rw[<-z,I.free]at e;cases e
  .rw[I.free]at z;cases z
 .obtain⟨n1,n2,n3,n0,ps,n4,n5⟩:=I.tab p hp
  exact⟨n1,n2,n3,n0,ps,keep _ _ n2 n4,n5⟩
end
section
variable{M:Model}{A:zA6}{E:Value->zAD->Prop}{h:Heap}{g:Array zCu}{d:Drawn}{t:Nat}{os:OsState}
variable{nm q:Str}{C N:Addr}{bs bm:List Value}{hdct:Bool}{sn:List Str}{sub:List Value}{ab:Bool}{col:Option Bool}{dd:Option Addr}{k0 k1 k2 k3 k5:Option Value}{newId:String}
variable{nm' q':Str}{C' N':Addr}{bs' bm':List Value}{hdct':Bool}{sn':List Str}{sub':List Value}{ab':Bool}{col':Option Bool}{dd':Option Addr}{k0' k1' k2' k3' k5':Option Value}{newId':String}
def aAj{e:Addr}{oe:Obj}{Q:Bool->zAD->Prop}(hC:h.get? C=some (zEU nm q C N bs bm hdct sn sub ab col dd k0 k1 k2 k3 k5 newId))(hC':h.get? C'=some (zEU nm' q' C' N' bs' bm' hdct' sn' sub' ab' col' dd' k0' k1' k2' k3' k5' newId'))
  (he:h.get? e=some oe)(eM:oe.cls= .ref C)(hb':bm'.contains (.type "BaseException")=true)(hs:(zBF C::bm).contains (.ref C')=true)
  (hq:Q true ⟨h,g,d,t,os⟩):wpAny M A (excMatches (.ref e) (.ref C')) Q E ⟨h,g,d,t,os⟩:=by
 have hcB:(zBF C'::bm').contains (.type "BaseException")=true:=by rw[zEe,hb',zIT]
 have f:=tc_notTuple;unfold excMatches
 repeat (first|(with_reducible refine zCO he ?_;rw[eM])|with_reducible refine zCO hC' ?_|(with_reducible refine zDm hC' ?_;rw[hcB])|(with_reducible refine zDm hC ?_;rw[hs])|wp_step)
 exact hq
end
def cZ.there{P:zAS}{w:World}{H:Hp}{h:Heap}{a:Addr}{o:HO}(x:cZ P w H h a o):∃ob,h.get? a=some ob:=by
 cases o with
 |lst xs=>obtain⟨_,_,_,_,e⟩:=x;exact⟨_,e⟩
 |tup xs=>
  obtain⟨_,_,_,p⟩:=x;obtain⟨o,e,_⟩:=p;exact⟨_,e⟩
 |dK kvs=>obtain⟨_,_,_,_,o,_,_,e,_⟩:=x;exact⟨_,e⟩
 |dT kvs=>obtain⟨_,_,_,_,o,_,_,e,_⟩:=x;exact⟨_,e⟩
 |set S n=>obtain⟨o,_,_,_,e,_⟩:=x;exact⟨_,e⟩
 |ins C dx fs=>obtain⟨_,_,_,e,_⟩:=x;exact⟨_,e⟩
 |own y=>exact x
 |xd fs=>obtain⟨_,⟨_,_,_,e,_⟩,_⟩:=x;exact⟨_,e⟩
 |rng lo hi=>obtain⟨_,_,_,e⟩:=x;exact⟨_,e⟩
 |frz ob u=>obtain⟨e,_⟩:=x;exact⟨_,e⟩
 |tbl q=>obtain⟨_,e,_⟩:=x;exact⟨_,e⟩
 |met f y=>exact⟨_,show h.get? a=some _ from x⟩
 |ext φ=>obtain⟨_,e,_⟩:=x;exact e
def xN(K:zAA)(C C':Addr):Bool:=
 match K.lookup C with
 |some ⟨_,_,.cls cd,_⟩=>cd.mro.contains (.ref C')
 |_=>false
abbrev Cx.tr(X:Cx)(kX:hZ)(E':XK):Cx:=X.re X.A true kX λ e s'=>∃Z H s,Inv X kX Z H s/\CX1 X.prog X.w X.stack H s E' e s'
abbrev Cx.ha(X:Cx)(kX:hZ)(ea:Addr):Cx:=X.re (X.A.mark (some (.ref ea))) false kX λ _ _=>False
def aIE(X:Cx)(i:Nat)(C':Addr)(E':XK)(tb th:TS):TS:=λ D Z H=>tb D Z H/\∀cls H1,E' cls none H1->∃C,cls= .ref C/\cW X.K C/\xN X.K C C'=true/\∀(Z1:St) (ea:Addr),Z1.length=X.N.length->H1 ea=none->
 th {nx:=λ Z' H'=>D.nx (Z'.set i none) H',rt:=D.rt,bk:=λ Z' H'=>D.bk (Z'.set i none) H',ct:=λ Z' H'=>D.ct (Z'.set i none) H'} (Z1.set i (some (.ref ea))) (upd H1 ea (.ext (excφ ea C)))
section
variable{X:Cx}{E E':XK}
def Cx.tr_ok{kX:hZ}(J:(X.tr kX E').Ok):X.Ok:=
 ⟨J.mod,J.kind,J.glob,J.blt,J.above,J.inj,J.has,J.cab,λ _=>J.hd rfl,J.frames,J.stk,J.exf,J.bs,J.bsz,J.noex,J.exfs,J.funs,J.frf⟩
def Cx.tr_pass{kX:hZ}:uo (CX1 X.prog X.w) (X.tr kX E') E':=λ pins2 Z H s e s' I h=>⟨Z,H,s,Inv.unre (Cx.tr_ok I.ok) I,h⟩
def aIj(D:fX X E)(hc:X.calm=true)(hN:X.N.Nodup){i:Nat}{n:Str}(hi:X.N[i]? =some n)(hl:X.env.scope.names.lookup n=some .local){x:Str}{C':Addr}(hm:X.mg x=some (.ref C'))(hg:Gl X x)(hC':cW X.K C')
  {body suite:List Stmt}{b₀:Stmt}{tb th:TS}{np hpos pos:Pos}(hb:∀kX,PSs (X.tr kX E') body tb)(hs:∀kX ea,PSs (X.ha kX ea) (b₀::suite) th)(hdb:Nd x:=by decide):
  PS X (.Try body [.ExceptHandler (some (.Name x np)) (some n) (b₀::suite) hpos] [] [] pos) (aIE X i C' E' tb th):=by
 intro kX s Z H DD I hh;obtain⟨h1,h2⟩:=hh;refine wpAny_Try_except (zBP (hb kX [] s Z H DD (I.re rfl λ _=>I.ok.hd hc) h1) (λ f s1 q=>?_) λ e s1 q=>?_)
 .cases f with
  |next=>
   obtain⟨Z',H',J,q⟩:=q;exact zEa ⟨Z',H',Inv.unre I.ok J,q⟩
  |brk=>obtain⟨Z',H',J,q⟩:=q;exact⟨Z',H',Inv.unre I.ok J,q⟩
  |cont=>obtain⟨Z',H',J,q⟩:=q;exact⟨Z',H',Inv.unre I.ok J,q⟩
  |ret u=>obtain⟨v,Z',H',J,r,q⟩:=q;exact⟨v,Z',H',Inv.unre I.ok J,r,q⟩
 .obtain⟨Z1,H1,s0,J,ea,cls,a0,B,H2,rfl,os,bare,un,hok,fly,bk,ba,hE⟩:=q
  obtain⟨C,rfl,hC,bS,hth⟩:=h2 cls H2 hE;have hfr:=I.ok.frames;rw[D.stk]at hfr;have fly':=fly;rw[D.stk]at fly';have mk:∀hh:Heap,zI1 B X.stack ea (.ref C) a0 hh->s1.heap.UpToSlots hh->Inv X kX Z1 H2 {s1 with heap:=hh}:=λ hh fl up=>by
   refine J.call' (ch:=[]) os ⟨λ b o e n nf _=>fl.1 b o (bk b o e n nf),λ b o e n hb _=>?_,un.free,λ b o e _=>?_,un.tups,un.frzs,un.tbls⟩ (λ a o e=>(hok a o e).stay (λ b u _ q=>fl.1 b u q) (λ _ z=>z) λ _ _ z=>z) bare (λ b z=>nomatch z)
   .obtain⟨s2,e2⟩:=un.slot b o e n hb (λ z=>nomatch z)
    obtain⟨_,o3,e3,nf⟩:=fly.2.2.1.mem hb;rw[e2]at e3;cases e3;obtain⟨s4,e4⟩:=up b _ e2 nf;exact⟨s4,e4⟩
   .by_cases hb:b∈frs X.stack
    .obtain⟨_,o3,e3,nf⟩:=fl.2.2.1.mem hb
     exact⟨o3,e3⟩
    .obtain⟨o',e'⟩:=ba b o e hb
     exact⟨o',fl.1 b o' e'⟩
  refine wpAny_looks_onW hfr D.fr fly' λ h3 held up3=>?_
  refine wpAny_landsW held λ h4 fly4 up4=>?_
  rw[<-D.stk]at fly4;have J4:=mk h4 fly4 (up3.trans up4);have K4:Inv (X.ha kX ea) [] Z1 H2 {s1 with heap:=h4}:=J4.re rfl (λ z=>nomatch z);obtain⟨ob4,he4,hc4⟩:=fly4.there;obtain⟨tl,NN,nm,q,bs,hdct,sn,sub,ab,col,dd,k0,k1,k2,k3,k5,mN,hCo,hNn,hni,T⟩:=(wg (h:=h4) (mg:=λ _=>some (.ref C)) (x:="x") J4.kIn rfl hC).obj;obtain⟨tl',NN',nm',q',bs',hdct',sn',sub',ab',col',dd',k0',k1',k2',k3',k5',mN',hCo',hNn',hni',T'⟩:=(wg (h:=h4) (mg:=λ _=>some (.ref C')) (x:="x") J4.kIn rfl hC').obj;have hmro:(zBF C::tl).contains (.ref C')=true:=by
   unfold xN at bS;split at bS
   .rename_i oc od cd sl ho
    have e:=J4.kIn _ _ ho;have e2:(some _:Option Obj)=some _:=e.symm.trans hCo;injection e2 with e2
    have e3:=congrArg Obj.data e2;injection e3 with e3
    subst e3;exact bS
   .cases bS
  refine wpAny_handleBy_cons (codeAny_handlers_test (sJ (X:=X.ha kX ea) K4 hg hm ?_ hdb)) (by intro q;cases q);refine aAj hCo hCo' he4 hc4 (T'.hasType (X:="BaseException") (b:=true) (by decide+kernel)) hmro ?_;refine codeAny_handlers_suite_as ?_;refine lands_againW fly4 λ h5 fly5 up5=>?_
  have J5:=mk h5 fly5 ((up3.trans up4).trans up5);obtain⟨f1,f2,f3,oe,vs,T5,oT,ts,he5,⟨hcl5,h05⟩,hd5,_⟩:=id fly5;have nof:ea∉frs X.stack:=λ z=>by
   obtain⟨_,o3,e3,nf⟩:=f3.mem z;rw[he5]at e3;cases e3;exact nf vs hd5
  have inB:∀b o,s0.heap.get? b=some o->b∉frs X.stack->b≠ea:=λ b o e nf z=>by
   obtain⟨o',e'⟩:=ba b o e nf;rw[z,f2]at e';cases e'
  have hL:X.env.locals∈frs X.stack:=by
   rw[D.stk];unfold frs;rw[zBN,D.fr];exact zAI
  have h2n:H2 ea=none:=by
   cases e:H2 ea with
   |none=>rfl
   |some o=>
    obtain⟨ob,e'⟩:=(hok ea o e).there;rw[f2]at e';cases e'
  have J6:Inv X kX Z1 (upd H2 ea (.ext (excφ ea C))) {s1 with heap:=h5}:=by
   refine J5.track h2n ?_ (λ z=>nof (z▸hL)) (λ y c e z=>?_) (λ p hp z=>?_) ⟨⟨oe,he5,hcl5⟩,⟨oe,he5⟩,excφ_stay⟩
   .cases e:X.z5.heap.get? ea with
    |none=>rfl
    |some o=>
     obtain⟨o',e'⟩:=J.base.there ea o e (by rw[D.ex];exact λ z=>nomatch z);exact absurd rfl (inB ea o' e' nof)
   .obtain⟨v,o,ho,hd⟩:=J5.cell y c e
    rw[z]at ho;have e2:some o=some oe:=ho.symm.trans he5;cases e2;rw[hd]at hd5;cases hd5
   .have hh:∃o,s0.heap.get? p.1=some o/\p.1≠X.env.locals/\p.1∉X.fs:=by
     rcases zAx.mp hp with z|z
     .obtain⟨_,a,b,_,_,c,_⟩:=J.tab p z
      exact⟨_,c,a,b⟩
     .obtain⟨p1,p2,p3,p4,_⟩:=J.pin p z
      exact⟨_,p1,p3,p4⟩
    obtain⟨o,p1,p3,p4⟩:=hh;refine inB p.1 o p1 (λ w=>?_) z;rcases zAO.mp (J.stkSub p.1 w)with z|z
    .exact p3 z
    .exact p4 z
  have K6:Inv (X.ha kX ea) [] Z1 (upd H2 ea (.ext (excφ ea C))) {s1 with heap:=h5}:=J6.re rfl (λ z=>nomatch z);refine z6 (X:=X.ha kX ea) (v:=.ref ea) K6 hN hi (.inl hl) rfl (λ s7 I7=>?_) (.inr hl);refine zBP (hs kX ea [] s7 _ _ _ I7 (hth Z1 ea J.len h2n)) (λ f s8 q8=>?_) λ _ _ z=>z.elim
  have dE:∀{Z':St} {H':Hp} {Q:zAD->Prop},Inv (X.ha kX ea) [] Z' H' s8->(∀s9,Inv X kX (Z'.set i none) H' s9->Q s9)->
    wpAny (model X.prog X.w) X.A (do bindName X.env n .none;unbindBehindTheSuite X.env n hpos) (λ _ s9=>Q s9) X.xe s8:=λ{Z' H' Q} K8 k=>by
   have J8:Inv X kX Z' H' s8:=Inv.unre I.ok K8;obtain⟨m,hmm,_⟩:=id J8.loc;refine wpAny_nameGoes_keeps hl hmm (by rw[I.ok.kind];rfl) λ h' v hn hsb=>k _ (Inv.gone J8 hN hi hmm hn hsb)
  cases f with
  |next=>obtain⟨Z',H',K8,q⟩:=q8;exact dE K8 λ s9 J9=>⟨_,_,J9,q⟩
  |brk=>obtain⟨Z',H',K8,q⟩:=q8;exact dE K8 λ s9 J9=>⟨_,_,J9,q⟩
  |cont=>obtain⟨Z',H',K8,q⟩:=q8;exact dE K8 λ s9 J9=>⟨_,_,J9,q⟩
  |ret u=>obtain⟨v,Z',H',K8,r,q⟩:=q8;exact dE K8 λ s9 J9=>⟨v,_,_,J9,r,q⟩
end
structure m7(k:Nat)(A:zA6):Prop where
 dp:A.depth+3*k+5<zEv
 un:A.units+16*k+200<cLine
def jX.h{k:Nat}{A:zA6}(r:jX k A):m7 k A:=⟨r.dp,r.un⟩
theorem m7.mark{k:Nat}{A:zA6}{v:Option Value}(r:m7 k A):m7 k (A.mark v):=⟨r.dp,r.un⟩
def m7.mono{j k:Nat}{A:zA6}(r:m7 k A)(h:j<=k):m7 j A:=⟨by have:=r.dp;omega,by have:=r.un;omega⟩
theorem m7.deeper{k:Nat}{A:zA6}(r:m7 (k+1) A)(env:Env):m7 k (A.deeper env):=
 ⟨by have:=r.dp;show A.depth+1+3*k+5<_;omega,by have:=r.un;show A.units+3+16*k+200<_;omega⟩
theorem m7.depth{k:Nat}{A:zA6}(r:m7 k A):A.depth<zEv:=by have:=r.dp;omega
abbrev aKS(A:zA6):zA6:={A with handled:=none}
structure FnH(P:zAS)(w:World)(K:zAA)(mg:Str->Option Value)(base:Heap)(k:Nat)(f:Addr)(fd:zA5)(ps:List Str)(sp:Sp):Prop where
 len:∀vs H Q E,sp vs H Q E->vs.length=ps.length
 run:∀(A:zA6) (outer:List Env) (s:zAD) (H:Hp) (args:Args) (us:List Value) (vs:List V) (Q:VK) (E:XK),m7 k A->aFt P w K mg base A outer s H->zFW s fd args (ps.zip us)->Vals vs us->sp vs H Q E->
  zCJ (model P w) A (.call (.ref f) args) (CR CX0 outer P w H s Q E) s
abbrev cxH(P:zAS)(w:World)(K:zAA)(mg:Str->Option Value)(base:Heap)(N:List Str)(q:Str)(scope:Scope)(f:Addr)(cd:Value)(A:zA6)(outer:List Env)(s:zAD)(H:Hp):Cx:=
 (aAr CX0 P w K mg base N q scope f cd (aKS A) outer s H λ _ _ _=>False).re (A.deeper (zDz q scope s.heap.objs.size f cd)) false [] λ _ _=>False
section
variable{P:zAS}{w:World}{K:zAA}{mg:Str->Option Value}{base:Heap}
def Fun.okH{x q:Str}{st:Stmt}{f:Addr}{fd:zA5}{N ps:List Str}{k:Nat}{sp:Sp}(F:Fun K x q st f fd)(S:aY N ps (aJ st))(len:∀vs H Q E,sp vs H Q E->vs.length=ps.length)
  (hbody:∀(cdv:Value) (A:zA6) (outer:List Env) (s:zAD) (H:Hp) (vs:List V) (Q:VK) (E:XK),m7 k (A.deeper (zDz q (aJ st) s.heap.objs.size f cdv))->sp vs H Q E->
   ∃t,PSs (cxH P w K mg base N q (aJ st) f cdv A outer s H) (fL st) t/\t {nx:=λ _ H'=>Q .non H',rt:=Q} (start N vs) H):FnH P w K mg base (k+1) f fd ps sp:=by
 obtain⟨oc,od,kV,doc,pm,an,cdv,ct,osl,rfl,lk,hcd⟩:=F.ex;refine⟨len,λ A outer s H args us vs Q E hr e0 hb r hsp=>?_⟩;have KX:K.In s.heap:=e0.mod.kin.keeps λ b o e=>(e0.bs b o e).1
 have par:∀y∈ps.zip us,(aJ st).names.lookup y.1=some .local\/((aJ st).names.lookup y.1=some .cell/\((zD1 (s.heap.objs.size+1) (aJ st).names []).lookup y.1).isSome=true):=λ y hy=>
  (S.par y.1 (zCY (a:=y.1) (b:=y.2) hy).1).imp id λ z=>⟨z,zDs _ _ _ (.inl z)⟩
 refine zHj hr.depth (KX _ _ lk) rfl S.co S.gen rfl (zG2 KX hcd) (hb _ _ _ _ (zG5 S.kind par λ env he s1 x=>?_));cases he;refine⟨(e0.mod.nolimit.keeps λ b o e=>(e0.bs b o e).1).keeps x.toInCall.keep,codeAny_func ?_⟩;obtain⟨t,ht,hq⟩:=hbody cdv A outer s H vs Q E (hr.deeper _) hsp;have e1:aFt P w K mg base (aKS A) outer s H:=⟨e0.frames,e0.mod,e0.bs,e0.bsz,e0.funs,e0.frf,e0.hok,e0.bare⟩;have I0:Inv (aAr CX0 P w K mg base N q (aJ st) f cdv (aKS A) outer s H λ _ _ _=>False) [] (start N vs) H s1:=aBj S rfl e1 (len _ _ _ _ hsp) r x;have I1:Inv (cxH P w K mg base N q (aJ st) f cdv A outer s H) [] (start N vs) H s1:=I0.re rfl (λ z=>nomatch z);refine zBP (ht [] s1 (start N vs) H _ I1 hq) (λ fl s' hs=>?_) λ e s' hs=>hs.elim
 cases fl with
 |ret u=>obtain⟨v,Z',H',J,rv,q⟩:=hs;exact⟨v,H',J.os,J.bare,J.base,J.hok,rv,q⟩
 |next=>obtain⟨Z',H',J,q⟩:=hs;exact⟨.non,H',J.os,J.bare,J.base,J.hok,rfl,q⟩
 |brk=>obtain⟨_,_,_,q⟩:=hs;exact q.elim
 |cont=>obtain⟨_,_,_,q⟩:=hs;exact q.elim
end
section
variable{X:Cx}{k:Nat}{f:Addr}{fd:zA5}{ps:List Str}{sp:Sp}{dvs:List V}{ds:List Value}{E:XK}{x:Str}{p pos:Pos}{e:Expr}{es:List Expr}{t:TA}
def aJC(F:FnH X.prog X.w X.K X.mg X.base k f fd ps sp)(hr:m7 k X.A)(hg:Gl X x)(hm:X.mg x=some (.ref f))(hk:zBR X.K (.ref f)=true)(hb:Binds X.K fd ps ds)(hd:Vals dvs ds)
  (ha:PA X (e::es) t)(hdb:Nd x:=by decide)(he:zAV (e::es) X.env=(false,eval e X.env)::zAV es X.env:=by rfl)(hpl:(zBw pos (zAV es X.env)).any (·.1)=false:=by rfl):
  PE X (.Call (.Name x p) (e::es) [] pos) (zY sp dvs E t):=by
 intro kX s Z H Q I h;refine zBk (sJ I hg hm (zD4 (h₀:=X.base) I.ok.mod.kin hk (thn (ha pos kX s Z H _ I h) λ us s1 hz=>?_) he hpl) hdb);obtain⟨vs,H1,I1,r,q⟩:=hz;refine⟨I1.kIn,zGt (zDB (F.run X.A X.stack s1 H1 ⟨us,[]⟩ (us++ds) (vs++dvs) Q E hr I1.env0 (hb s1 us I1.kIn ?_) (r.append hd) q) λ r' s' hq=>?_)⟩
 .rw[<-(r.append hd).length];exact F.len _ _ _ _ q
 .cases r' with
  |error e=>exact zAJ hq
  |ok fl=>
   cases fl with
   |ret u=>exact I1.after hq
   |next=>exact zAJ hq
   |brk=>exact zAJ hq
   |cont=>exact zAJ hq
end
def spW(wd:Addr->Option Str):Sp:=λ vs H Q _=>∃ea C w,vs=[.ref ea]/\H ea=some (.ext (excφ ea C))/\wd C=some w/\∀H',aX H H'->Q (.str w) H'
def spR(P:zAS)(w:World)(K:zAA)(mg:Str->Option Value)(base:Heap)(k0:Nat)(told:Str)(wd:Addr->Option Str):Sp:=λ vs H Q _=>∃f cls dd sl fd k sp,vs=[.ref f]/\H f=some (.frz ⟨cls,dd,.func fd,sl⟩ (.own f))/\cB P w K mg base (CX1 P w) k f fd [] sp/\k<=k0/\Binds K fd [] []/\
 sp [] H (λ _ H'=>Q (.str told) H') (λ c _ H1=>∃C wo,c= .ref C/\wd C=some wo/\∀H',aX H1 H'->Q (.str wo) H')
section
variable{X:Cx}{E:XK}{n0 n1 n2 few cn pe told:Str}{C' fc:Addr}{fdc:zA5}{kc k0:Nat}{wd:Addr->Option Str}
def aI3(D:fX X E)(hc:X.calm=true)(hN:X.N=[n0,n1,n2])(nd:X.N.Nodup)(l0:X.env.scope.names.lookup n0=some .local)(l1:X.env.scope.names.lookup n1=some .local)(l2:X.env.scope.names.lookup n2=some .local)(hf:∀x,X.fn x=true)
  (hm:X.mg few=some (.ref C'))(hg:Gl X few)(hC':cW X.K C')(FC:FnH X.prog X.w X.K X.mg X.base kc fc fdc [pe] (spW wd))(hgc:Gl X cn)(hmc:X.mg cn=some (.ref fc))(hkc:zBR X.K (.ref fc)=true)(hbc:Binds X.K fdc [pe] [])
  (hr:jX k0 X.A)(hkk:kc<=k0)(hw:∀C w,wd C=some w->cW X.K C/\xN X.K C C'=true){p1 p2 p3 p4 p5 p6 p7 p8 p9 p10 p11 p12 p13 p14 p15 p16:Pos}{j1:Nat}{vs:List V}{H:Hp}{Q:VK}{E0:XK}(h:spR X.prog X.w X.K X.mg X.base k0 told wd vs H Q E0)
  (d1:Nd few:=by decide)(d2:Nd cn:=by decide)(d3:Nd n0:=by decide)(d4:Nd n1:=by decide)(d5:Nd n2:=by decide)
  (d6:(n0==("__classdict__":Str))=false:=by decide)(d7:(n1==("__classdict__":Str))=false:=by decide)(d8:(n2==("__classdict__":Str))=false:=by decide):
  ∃t,PSs X [.Assign [.Name n1 p1] (.Constant (.str told) j1 p2) p3,.Try [.Expr (.Call (.Name n0 p4) [] [] p5) p6] [.ExceptHandler (some (.Name few p7)) (some n2) [.Assign [.Name n1 p8] (.Call (.Name cn p9) [.Name n2 p10] [] p11) p12] p13] [] [] p14,.Return (some (.Name n1 p15)) p16] t/\
   t {nx:=λ _ H'=>Q .non H',rt:=Q} (start X.N vs) H:=by
 obtain⟨f,cls,dd,sl,fd,k,sp,rfl,hH,F,hk,hb,hsp⟩:=h;have i0:X.N[0]? =some n0:=by rw[hN];rfl
 have i1:X.N[1]? =some n1:=by rw[hN];rfl
 have i2:X.N[2]? =some n2:=by rw[hN];rfl
 refine⟨_,iI (pR nd i1 (.inl l1) iD (hf:=.inl (hf _))) (iI (aIj (E':=λ c _ H1=>∃C wo,c= .ref C/\wd C=some wo/\∀H',aX H1 H'->Q (.str wo) H') D hc nd i2 l2 hm hg hC' (tb:=aBX (aEm X k0 0 λ c _ H1=>∃C wo,c= .ref C/\wd C=some wo/\∀H',aX H1 H'->Q (.str wo) H')) (th:=aCL (zY (spW wd) [] E (kE (pB 2) uw)) (tW 1))
  (λ kX=>pQ (vH (aIv (X:=X.tr kX _) hr Cx.tr_pass i0 (.inl l0) d3 d6))) (λ kX ea=>pQ (pR (X:=X.ha kX ea) nd i1 (.inl l1) (aJC (X:=X.ha kX ea) FC ((hr.h.mono hkk).mark) hgc hmc hkc hbc .nil (az (ie (X:=X.ha kX ea) i2 (.inl l2) d5 d8) fH) d2) (hf:=.inl (hf _)))) d1) (pQ (aAE (ie i1 (.inl l1) d4 d7)))),?_⟩
 have hs:start X.N [.ref f]=[some (.ref f),none,none]:=by rw[hN];rfl
 rw[hs];have e:(λ(_:V) H1=>Q (.str told) H1)=λ(_:V) H1=>aNP (pB 1) {nx:=λ _ H'=>Q .non H',rt:=Q} [some (.ref f),some (.str told),none] H1:=by
  funext v H1;exact propext ⟨λ q=>⟨_,rfl,q⟩,λ⟨v',e',q⟩=>by cases e';exact q⟩
 rw[e]at hsp;have key:aIE X 2 C' (λ c _ H1=>∃C wo,c= .ref C/\wd C=some wo/\∀H',aX H1 H'->Q (.str wo) H') (aBX (aEm X k0 0 λ c _ H1=>∃C wo,c= .ref C/\wd C=some wo/\∀H',aX H1 H'->Q (.str wo) H')) (aCL (zY (spW wd) [] E (kE (pB 2) uw)) (tW 1))
  {nx:=aNP (pB 1) {nx:=λ _ H'=>Q .non H',rt:=Q},rt:=Q} [some (.ref f),some (.str told),none] H:=?_
 .exact key
 refine⟨⟨f,cls,dd,sl,fd,k,sp,rfl,hH,F,hk,hb,hsp⟩,λ c H1 ⟨C,wo,ec,hwd,hq⟩=>⟨C,ec,(hw C wo hwd).1,(hw C wo hwd).2,λ Z1 ea hl hn=>?_⟩⟩
 .rw[hN]at hl
  obtain⟨a,b,c,rfl⟩:∃a b c,Z1=[a,b,c]:=by
   match Z1,hl with
   |[a,b,c],_=>exact⟨a,b,c,rfl⟩
  refine⟨.ref ea,rfl,ea,C,wo,rfl,bN,hwd,λ H' sm=>⟨.str wo,rfl,hq H' λ b o e=>sm b o ?_⟩⟩;rw[aj (bf e hn)];exact e
end
def aEn(K:zAA)(c:V):TE:=tCB (aMo K) (kE (pB 0) (kE (tC c) uw))
def qO(K:zAA):List V->TA
 |[]=>uw
 |c::cs=>kE (aEn K c) (qO K cs)
def aFz:List Str->TA
 |[]=>uw
 |x::xs=>kE (tC (.str x)) (aFz xs)
def Kt(K:zAA)(C:Addr)(c:V)(b:Bool):Prop:=∃u,RelV c u/\zBi K (.ref C) u=some b
section
variable{K:zAA}{Z:St}{H:Hp}{ea C:Addr}
def aCK{c:V}{b:Bool}{Q:VK}(hs:Z[0]? =some (some (.ref ea)))(hH:H ea=some (.ext (excφ ea C)))(hk:aMc K C)(h:Kt K C c b)(q:Q (.bl b) H):aEn K c Z H Q:=by
 obtain⟨u,r,e⟩:=h;exact⟨.ref ea,hs,ea,C,c,u,b,rfl,r,hH,hk,e,q⟩
theorem qd(hs:Z[0]? =some (some (.ref ea)))(hH:H ea=some (.ext (excφ ea C)))(hk:aMc K C):∀{cs:List V} {bs:List Bool} {Q:List V->Hp->Prop},zEs (Kt K C) cs bs->Q (bs.map V.bl) H->qO K cs Z H Q
 |_,_,_,.nil,q=>q
 |_,_,_,.cons h r,q=>aCK hs hH hk h (qd hs hH hk r q)
theorem aDR:∀{l:List Str} {Q:List V->Hp->Prop},Q (l.map V.str) H->aFz l Z H Q
 |[],_,q=>q
 |x::l,_,q=>aDR (l:=l) (Q:=λ xs H2=>_) q
end
structure Wd(K:zAA)(c1 c2:V)(ks:List (List V))(ws:List Str)(C:Addr)(w:Str):Prop where
 k:aMc K C
 q1:Kt K C c1 true
 q2:Kt K C c2 true
 bs:∃(b1 b2 b3 b4:List Bool) (j:Nat) (k1 k2 k3 k4:List V),ks=[k1,k2,k3,k4]/\zEs (Kt K C) k1 b1/\zEs (Kt K C) k2 b2/\zEs (Kt K C) k3 b3/\zEs (Kt K C) k4 b4/\(b1++b2++b3++b4).length<=100/\(b1++b2++b3++b4).count true=1/\
  (b1++b2++b3++b4)[j]? =some true/\(∀m,m<j->(b1++b2++b3++b4)[m]? =some false)/\ws[j]? =some w
section
variable{X:Cx}{n0 n1 n2 odd:Str}{c1 c2:V}{k1 k2 k3 k4:List V}{l1 l2:List Str}{a1 a2:Expr}{as1 as2 e1 e2 e3 e4 w1 w2:List Expr}{kw1 kw2:List zBv}{Q:VK}{H:Hp}{vs:List V}
 {p1 p2 p3 p4 p5 p6 p7 p8 p9 p10 p11 p12 p13 p14 p15 p16 p17 p18 p19 p20 p21 p22 p23 p24 p25 p26 p27 p28 p29 p30 p31 p32 p33 p34 p35 p36 p37 p38 p39 p40:Pos}{q1 q2 q3 q4 q5 q6 q7:Pos}{j1 j2 j3 j4 j5:Nat}{E0:XK}{wd:Addr->Option Str}
end
structure aDG(d:Nat)(e tg iter:Expr)(ifs:List Expr)(body:Env->Addr->Sem Unit):Prop where
 under:∀(A:zA6) (it:Value) (D:Addr) (env:Env),A.under (.compLoop e d it (.ref D) env)=A
 den:∀(prog:zAS) (w:World) (it:Value) (D:Addr) (env:Env),(model prog w).den (.compLoop e d it (.ref D) env)=(compTurn e d it (.ref D) env).onRaise (λ x=>do noteFrame x env;theTreesLotGoes x)
 turn:∀(it:Value) (D:Addr) (env:Env),compTurn e d it (.ref D) env=(do
   zE9 iter.pos
   match <-zEu it with
   |none=>pure (.done .next)
   |some v=>
    zDH tg it v
    zD0 tg env v
    let mut ok:=true
    for c in ifs do if ok then ok <-isTrue c env (eval c env)
    if ok then
     body env D
    again (.compLoop e d it (.ref D) env))
section
variable{s:zAD}{A:zA6}{prog:zAS}{w:World}{R:zEG->zAD->Prop}
def aCu{D:Addr}(hb:aDG d e tg iter ifs body)(I:Nat->zAD->Prop)
  (one:∀n s,I n s->wpAny (model prog w) A (zEu it) (λ r zS=>match r with
   |none=>R (.ok .next) zS
   |some v=>wpAny (model prog w) A (zDH tg it v) (λ _ zS=>wpAny (model prog w) A (zD0 tg env v) (λ _ z4=>
     wpAny (model prog w) A (forIn ifs true λ c r=>if r=true then do let ok <-isTrue c env (eval c env);pure (zB7 ok)else pure (zB7 r)) (λ ok zD=>if ok=true then wpAny (model prog w) A (body env D) (λ _ s₅=>∃m,m<n/\I m s₅) (λ _ _=>False) zD
      else∃m,m<n/\I m zD) (λ _ _=>False) z4) (λ _ _=>False) zS) (λ _ _=>False) zS) (λ _ _=>False) s)
  (n:Nat)(h:I n s):zCJ (model prog w) A (.compLoop e d it (.ref D) env) R s:=by
 refine codeAny_loop rfl I (λ n s hJ=>?_) n h;rw[hb.under,hb.den];refine wpAny_noted ?_;rw[hb.turn];refine zAC (zEV (zAC (zBP (one n s hJ) (λ r zS zI=>?_) λ _ _ h'=>h'.elim)));cases r with
 |none=>exact zAL zI
 |some v=>
  refine zAC (zBP zI (λ _ zS zI=>?_) λ _ _ h'=>h'.elim);refine zAC (zBP zI (λ _ z4 yY=>zAC (zBP yY (λ ok zD yT=>?_) λ _ _ h'=>h'.elim)) λ _ _ h'=>h'.elim);cases ok with
  |false=>exact zAL (And.intro rfl yT)
  |true=>exact zAC (zBP yT (λ _ y7 h₄=>zAL ⟨rfl,h₄⟩) λ _ _ h'=>h'.elim)
end
def aDH(d:Nat)(e:Expr):Prop:=∀{prog:zAS} {w:World} {A:zA6} {R:zEG->zAD->Prop} {s:zAD} {it acc:Value} {env:Env},
  zCJ (model prog w) A (.compLoop e d it acc env) R s->
  wpAny (model prog w) A (zGr it) (λ it' s'=>zCJ (model prog w) A (.compLoop e d it' acc env) R s') (notedBy (model prog w) A env λ x s'=>R (.error x) s') s->
  zCJ (model prog w) A (.compStart e d it acc env) R s
structure aKa(prog:zAS)(w:World)(mk:Sem Value)(obs:Obj->Prop)(o:Addr->HO):Prop where
 make:∀{A:zA6} {Q:Value->zAD->Prop} {E:Value->zAD->Prop} {s:zAD},(∀ob,obs ob->Q (.ref s.heap.objs.size) {s with heap:=s.heap.push ob})->wpAny (model prog w) A mk Q E s
 live:∀ob,obs ob->ob.isFreed=false
 ok:∀{H:Hp} {h:Heap} {a:Addr} {ob:Obj},obs ob->h.get? a=some ob->zCZ<a->cZ prog w H h a (o a)
def PB(X:Cx)(body:Env->Addr->Sem Unit)(tb:Addr->St->Hp->(Hp->Prop)->Prop):Prop:=
 ∀(D:Addr) (kX:hZ) (s:zAD) (Z:St) (H:Hp) (Q:Hp->Prop),Inv X kX Z H s->tb D Z H Q->wpAny (model X.prog X.w) X.A (body X.env D) (λ _ s'=>∃H',Inv X kX Z H' s'/\Q H') X.xe s
def aQ6(I:Inv X kX Z H s):zCZ<s.heap.objs.size:=
 zDh (by decide) (I.mod.glob.keeps I.bk).lt
def aPY(o:Addr->HO)(wi:TI)(st:St->St)(g:TG)(tt:TT)(tb:Addr->St->Hp->(Hp->Prop)->Prop):TE:=λ Z H Q=>wi Z H λ J H1=>∀l,H1 l=none->∃W:Nat->Nat->Hp->Prop,(∃m,W 0 m (upd H1 l (o l)))/\
 ∀i m H2,W i m H2->((J.stop i H2/\Q (.ref l) H2)\/(J.go i H2/\∀x H3,J.yld i H2 x H3->g x (st Z) H3 λ Z4 H4=>tt Z4 H4 λ ok H5=>
  if ok=true then tb l Z4 H5 λ H6=>∃m',m'<m/\W (i+1) m' H6 else∃m',m'<m/\W (i+1) m' H5))
section
variable{X:Cx}{e tg iter:Expr}{ifs:List Expr}{scope:Scope}{N:List Str}{st:St->St}{ks:List Nat}{wi:TI}{g:TG}{tt:TT}{body:Env->Addr->Sem Unit}{tb:Addr->St->Hp->(Hp->Prop)->Prop}{pos:Pos}{mk:Sem Value}{obs:Obj->Prop}{o:Addr->HO}
def aKQ(B:iQ X scope N st ks)(hc:X.calm=true)(hT:aDG 0 e tg iter ifs body)(hS:aDH 0 e)(hA:aKa X.prog X.w mk obs o)(hg:∀C fp z5 z0,PG (X.block scope C N fp z5 z0) tg g)(hgo:wK g ks)(ht:∀C fp z5 z0,aEa (X.block scope C N fp z5 z0) ifs tt)
  (he:∀C fp z5 z0,PB (X.block scope C N fp z5 z0) body tb){Q:VK}{RR:Value->Addr->zEG->zAD->Prop}
  (I:Inv X kX Z H1 z4)(T:Turn X.prog X.w X.K tg J fp it tn)(h0:tn 0 z4.heap)(hfp:∀b∈fp,wL X kX H1 b)
  (h:∀l,H1 l=none->∃W:Nat->Nat->Hp->Prop,(∃m,W 0 m (upd H1 l (o l)))/\
   ∀i m H2,W i m H2->((J.stop i H2/\Q (.ref l) H2)\/(J.go i H2/\∀x H3,J.yld i H2 x H3->g x (st Z) H3 λ Z4 H4=>tt Z4 H4 λ ok H5=>
    if ok=true then tb l Z4 H5 λ H6=>∃m',m'<m/\W (i+1) m' H6 else∃m',m'<m/\W (i+1) m' H5)))
  (hRR:∀D C H' s',(∃Z',Inv (X.block scope C N fp z4 H1) [] Z' H' s')->z4.heap.objs.size<=C->Q (.ref D) H'->RR (.ref D) C (.ok .next) s'):
  wpAny (model X.prog X.w) X.A mk (λ acc zD=>wpAny (model X.prog X.w) X.A (zEt scope X.env.globals (au scope X.env) [] X.env.qual none .none (some X.env)) (λ cenv y7=>
   zCJ (model X.prog X.w) X.A (.compStart e 0 (.ref it) acc {cenv with scope:=zF7 scope X.env}) (RR acc cenv.locals) y7) E zD) E z4:=by
 refine hA.make λ ob hob=>aG2 λ zI y9 zC y8=>?_
 dsimp only at y9 zC y8 ⊢;generalize hH2:z4.heap.push ob=P2 at y9 zC y8 ⊢;have hC:P2.objs.size=z4.heap.objs.size+1:=by rw[<-hH2,zBc]
 have hDC:z4.heap.objs.size≠P2.objs.size:=by rw[hC];exact zA7 (zCQ _)
 have oQ:z4.heap.objs.size<=P2.objs.size:=by rw[hC];exact zFZ _
 have old:∀b o,z4.heap.get? b=some o->zI.get? b=some o:=λ b o e=>zC b o (hH2▸zAG _ e)
 have aE:zI.get? z4.heap.objs.size=some ob:=zC _ _ (hH2▸zAZ _ (hA.live ob hob));generalize hCe:P2.objs.size=C at y9 zC y8 hDC oQ hC ⊢;have hHD:H1 z4.heap.objs.size=none:=I.hok.fresh (zAQ _);have I0:Inv (X.block scope C N fp z4 H1) [] (st Z) (upd H1 z4.heap.objs.size (o z4.heap.objs.size)) {z4 with heap:=zI,toks:=z4.toks}:=
  I.block B hfp (λ b hb=>by obtain⟨o,e,_⟩:=T.obj 0 _ h0 b hb;exact⟨o,e⟩) (zAQ _) oQ hDC old y9 y8 (λ c hc=>zA7 (zHT oQ hc)) (hA.ok hob aE (aQ6 I))
 obtain⟨W,⟨m0,w0⟩,step⟩:=h _ hHD;have h01:tn 0 zI:=T.keep 0 _ _ h0 λ b _ o e=>old b o e
 have aI:∀{H':Hp},(∀b∈fp,H' b=none)->∀b∈fp,wL (X.block scope C N fp z4 H1) [] H' b:=λ{H'} hn b hb=>
  ⟨hn b hb,(I0.ok.exf b hb).1,I0.ok.exfs b hb,.inl hb,λ x c e=>(I0.ok.exf b hb).2 x c e,λ p hp=>absurd (show p∈([]:hZ)from hp) (by simp)⟩
 have fr0:∀b∈fp,upd H1 z4.heap.objs.size (o z4.heap.objs.size) b=none:=λ b hb=>by
  obtain⟨o,e,_⟩:=T.obj 0 _ h0 b hb;rw[aj (zA7 (zAW e))];exact(hfp b hb).1
 have loop:∀sx:zAD,sx={z4 with heap:=zI,toks:=z4.toks}->
   zCJ (model X.prog X.w) X.A (.compLoop e 0 (.ref it) (.ref z4.heap.objs.size) (X.block scope C N fp z4 H1).env) (RR (.ref z4.heap.objs.size) C) sx:=by
  rintro sx rfl;refine aCu hT (λ n s'=>∃i H2,Inv (X.block scope C N fp z4 H1) [] (st Z) H2 s'/\tn i s'.heap/\(∀b∈fp,H2 b=none)/\W i n H2) ?_ m0 ⟨0,_,I0,h01,fr0,w0⟩;rintro n s3 ⟨i,H2,I2,st2,fr2,w2⟩;rcases step i n H2 w2 with ⟨stop,q⟩|⟨go,nxt⟩
  .refine thn (T.done (X.block scope C N fp z4 H1) rfl rfl rfl hc i [] s3 (st Z) H2 _ I2 (aI fr2) st2 stop) λ r s4 ⟨hr,I4⟩=>?_
   subst hr;exact hRR _ C H2 s4 ⟨_,I4⟩ oQ q
  .refine thn (T.item (X.block scope C N fp z4 H1) rfl rfl rfl hc i [] s3 (st Z) H2 _ I2 (aI fr2) st2 go) λ r s4 ⟨u,hr,h4⟩=>?_
   subst hr;refine thn h4 λ _ s5 ⟨x,H5,I5,r5,y5,st5,fr5⟩=>?_
   have I5p:=I5.pinned (aI fr5) (T.obj _ _ st5);refine thn (hg C fp z4 H1 _ s5 (st Z) H5 x u _ I5p r5 (hgo _ _ _ _ (nxt x H5 y5))) λ _ s6 ⟨Z6,H6,I6,q6,aLj,ag6⟩=>?_
   refine thn (ht C fp z4 H1 _ s6 Z6 H6 _ I6 q6) λ ok s7 ⟨H7,I7,q7⟩=>?_
   have again:∀{H9:Hp} {s9:zAD},Inv (X.block scope C N fp z4 H1) ([]++w6 fp s5.heap) Z6 H9 s9->(∃m',m'<n/\W (i+1) m' H9)->
     ∃m,m<n/\∃i H2,Inv (X.block scope C N fp z4 H1) [] (st Z) H2 s9/\tn i s9.heap/\(∀b∈fp,H2 b=none)/\W i m H2:=λ{H9 s9} I9 ⟨m',hm,w9⟩=>by
    have cE:∀b∈fp,∀o,s5.heap.get? b=some o->s9.heap.get? b=some o/\H9 b=none:=λ b hb o e=>by
     have z:=I9.pin (b,o) (zAb _ (zAb _ (pY hb e)));exact⟨z.1,z.2.1⟩
    refine⟨m',hm,i+1,H9,I9.unpinned.weak (by rw[aLj]) (λ k v e=>?_),T.keep _ _ _ st5 λ b hb o e=>(cE b hb o e).1,λ b hb=>?_,w9⟩
    .have hk:k<(st Z).length:=(zAK.mp e).1
     have hkN:k<N.length:=by rw[<-B.len Z];exact hk
     obtain⟨_,hks,_⟩:=B.val Z k _ v (zAB hkN) e;rw[ag6 k hks];exact e
    .obtain⟨o,e,_⟩:=T.obj _ _ st5 b hb
     exact(cE b hb o e).2
   cases ok with
   |false=>
    rw[if_neg zAM]at q7 ⊢;exact again I7 q7
   |true=>
    rw[if_pos rfl]at q7 ⊢;exact thn (he C fp z4 H1 _ _ s7 Z6 H7 _ I7 q7) λ _ s8 ⟨H8,I8,q8⟩=>again I8 q8
 exact hS (loop _ rfl) (T.self X.A 0 _ _ _ h01 (loop _ rfl))
def aPj(B:iQ X scope N st ks)(hc:X.calm=true)(hi:PI X tg iter wi)(hg:∀C fp z5 z0,PG (X.block scope C N fp z5 z0) tg g)(hgo:wK g ks)(ht:∀C fp z5 z0,aEa (X.block scope C N fp z5 z0) ifs tt)
  (hT:aDG 0 e tg iter ifs body)(hS:aDH 0 e)(hA:aKa X.prog X.w mk obs o)(he:∀C fp z5 z0,PB (X.block scope C N fp z5 z0) body tb)(hcs:clausesOf e=⟨tg,iter,ifs,0⟩::gs)(hev:eval e X.env=comprehension e scope X.env (firstIterPos (⟨tg,iter,ifs,0⟩::gs) pos) mk false (eval iter X.env))(hs:∀x,zBs iter X.env x=pure x:=by intro _;rfl):PE X e (aPY o wi st g tt tb):=by
 intro kX s Z H Q I h;have hcl:zEh scope X.env=pure (au scope X.env):=jz λ y hy hk=>I.ok.has _ (B.free y hy hk)
 rw[hev];refine zEJ (use:=none) hcs hs hcl B.kind B.loc (thn (hi kX s Z H _ I h) λ v s1 h1=>thn h1 λ itv s2 h2=>?_);obtain⟨it,fp,tn,J,H2,e,I2,T,st2,f2,hq⟩:=h2;subst e;refine aKQ (RR:=λ acc C=>compPost (model X.prog X.w) X.A X.xe none (EP X kX Z Q) acc C) B hc hT hS hA hg hgo ht he I2 T st2 f2 hq ?_;intro D C H' s' hJ oQ q;have I3:=aDD I2 f2 hJ;obtain⟨Z',J'⟩:=hJ;obtain⟨m,hn,_⟩:=id J'.loc;have hHC:H' C=none:=J'.free;refine⟨m,hn,λ h'' hs''=>⟨.ref D,H',?_,rfl,q⟩⟩;exact I3.turned (t':=s'.toks) (λ b o ne e=>(hs''.2 b ne).trans e) hHC (zBz (zAX I2.lt oQ)) (.inr (zAg I2.sz oQ))
  (λ x c e z=>by obtain⟨v,ic⟩:=I2.cell x c e;exact absurd (zAX ic.lt (by rw[z];exact oQ)) (zBT _))
  (λ p hp z=>absurd (zAX (I2.pinL hp) (by rw[z];exact oQ)) (zBT _))
end
def aAp(kx vx:Expr)(env:Env)(D:Addr):Sem Unit:=do
 let kv <-eval kx env;let vv <-zCE [kv] (eval vx env);zE9 {kx.pos with endLine:=vx.pos.endLine,endCol:=vx.pos.endCol}
 zCE [kv,vv] (dictSet D kv vv)
def aGu(kx vx tg iter:Expr)(ifs:List Expr)(scope:Scope)(pos:Pos):aDG 0 (.DictComp kx vx [⟨tg,iter,ifs,0⟩] scope pos) tg iter ifs (aAp kx vx):=
 ⟨λ _ _ _ _=>rfl,λ _ _ _ _ _=>rfl,λ _ _ _=>rfl⟩
def aEo(kx vx tg iter:Expr)(ifs:List Expr)(scope:Scope)(pos:Pos):aDH 0 (.DictComp kx vx [⟨tg,iter,ifs,0⟩] scope pos):=λ h0 h=>codeAny_compStart_dict h0 h
end L2
namespace VL
open PySem PySem.Spec PyProof.Rows L2
inductive D where
 |non|bl (b:Bool)|int (i:Int)|str (x:Str)|tup (l:List D)|lst (l:List D)|dct (ks vs:List D)|set (l:List Int)|scr (l:List Int)|fn (x:Str)|itm (o:Option Nat) (l:gX)
instance:Inhabited D:=⟨.non⟩
def kD:Key->D
 | .inl i=>.int i
 | .inr x=>.str x
variable{K:zAA}
def rY(K:zAA)(H:Hp)(a:Addr)(ns:List Int):Prop:=(∃o,H a=some (.frz o (.lst (ns.map V.int))))\/
 ∃(o:Obj) (its:Array Value) (n:Nat),K.lookup a=some o/\o.cls= .type "list"/\o.dict=none/\o.data= .seq its n/\its.size<=zAU/\Vals (ns.map V.int) its.toList
def rY.sq(h:rY K H a ns):SqL K H a (ns.map V.int):=by
 rcases h with h|h
 .exact .inl (.inr h)
 .exact .inr h
def aAv(H:Hp)(a:Addr)(oo:Option Nat)(l:gX):Prop:=∃o es ep,o.data= .dict es ep/\(oo=none\/oo=some ep)/\H a=some (.frz o (.dK (l.map λ p=>(.inl p.1,V.int p.2))))
def hsh(ns:List Int):Int:=reduceHash (zIX (ns.map hashInt))
def dxO(a:Addr)(es:List (List Int×Addr×V)):HO:=.ext λ h=>es.length<=zAU/\(a==zCZ)=false/\∃(xs:List (List Int×Addr×Value)) (o:Obj) (ts:Array DictEntry) (ep:Nat),zEs (λ e x=>e.1=x.1/\e.2.1=x.2.1/\RelV e.2.2 x.2.2) es xs/\
 h.get? a=some o/\o.ExactDict/\o.data= .dict ts ep/\ts.toList=xs.map λ x=>⟨hsh x.1,.ref x.2.1,x.2.2⟩
structure DxK(K:zAA)(H:Hp)(a:Addr)(es:List (List Int×Addr×V)):Prop where
 at_:H a=some (dxO a es)
 ks:∀e∈es,SqT K H e.2.1 (e.1.map V.int)
 nd:(es.map (·.1)).Nodup
mutual
inductive Rp(K:zAA):(Addr->Prop)->Hp->V->D->Prop where
 |non {A:Addr->Prop} {H:Hp}:Rp K A H .non .non
 |bl {A:Addr->Prop} {H:Hp} (b:Bool):Rp K A H (.bl b) (.bl b)
 |int {A:Addr->Prop} {H:Hp} (i:Int):Rp K A H (.int i) (.int i)
 |str {A:Addr->Prop} {H:Hp} (x:Str):Rp K A H (.str x) (.str x)
 |tup {A:Addr->Prop} {H:Hp} {a:Addr} {xs:List V} {ds:List D} (h:SqT K H a xs) (r:Rps K A H xs ds):Rp K A H (.ref a) (.tup ds)
 |lst {A:Addr->Prop} {H:Hp} {a:Addr} {xs:List V} {ds:List D} (h:H a=some (.lst xs)) (m:A a) (r:Rps K (λ p=>A p/\p≠a) H xs ds):Rp K A H (.ref a) (.lst ds)
 |dK {A:Addr->Prop} {H:Hp} {a:Addr} {kvs:List (Key×V)} {ds:List D} (h:H a=some (.dK kvs)) (m:A a) (r:Rps K (λ p=>A p/\p≠a) H (kvs.map (·.2)) ds):Rp K A H (.ref a) (.dct (kvs.map λ p=>kD p.1) ds)
 |dT {A:Addr->Prop} {H:Hp} {a:Addr} {es:List (List Int×Addr×V)} {ds:List D} (h:DxK K H a es) (m:A a) (r:Rps K (λ p=>A p/\p≠a) H (es.map (·.2.2)) ds):Rp K A H (.ref a) (.dct (.non::es.map λ e=>.tup (e.1.map .int)) ds)
 |set {A:Addr->Prop} {H:Hp} {a:Addr} {S:Int->Bool} {l:List Int} (h:H a=some (.set S l.length)) (m:A a) (hS:∀i,S i=decide (i∈l)) (nd:l.Nodup):Rp K A H (.ref a) (.set l)
 |scr {A:Addr->Prop} {H:Hp} {a:Addr} {ns:List Int} (h:rY K H a ns):Rp K A H (.ref a) (.scr ns)
 |fn {A:Addr->Prop} {H:Hp} {a:Addr} {x:Str} (h:zA4 K zAT x=some (some (.ref a))):Rp K A H (.ref a) (.fn x)
 |itm {A:Addr->Prop} {H:Hp} {a:Addr} {oo:Option Nat} {l:gX} (h:aAv H a oo l):Rp K A H (.ref a) (.itm oo l)
inductive Rps(K:zAA):(Addr->Prop)->Hp->List V->List D->Prop where
 |nil {A:Addr->Prop} {H:Hp}:Rps K A H [] []
 |cons {A:Addr->Prop} {H:Hp} {x:V} {d:D} {xs:List V} {ds:List D} (h:Rp K A H x d) (r:Rps K A H xs ds):Rps K A H (x::xs) (d::ds)
end
def rY.mono(s:aX H H')(h:rY K H a ns):rY K H' a ns:=by
 rcases h with ⟨o,h⟩|h
 .exact .inl ⟨o,s _ _ h⟩
 .exact .inr h
def aAv.mono(h:aAv H a oo l)(s:aX H H'):aAv H' a oo l:=let⟨o,es,ep,y,z,e⟩:=h;⟨o,es,ep,y,z,s _ _ e⟩
def DxK.mono(h:DxK K H a es)(s:aX H H'):DxK K H' a es:=⟨s _ _ h.at_,λ e he=>s.sqt (h.ks e he),h.nd⟩
def Rp.mono'(s:aX H H')(r:Rp K A H x d)(hA:∀p o,H p=some o->A p->A' p):Rp K A' H' x d:=
 Rp.rec (motive_1:=λ A H x d _=>∀H',aX H H'->∀A':Addr->Prop,(∀p o,H p=some o->A p->A' p)->Rp K A' H' x d) (motive_2:=λ A H xs ds _=>∀H',aX H H'->∀A':Addr->Prop,(∀p o,H p=some o->A p->A' p)->Rps K A' H' xs ds)
  (λ _ _ _ _=>.non) (λ b _ _ _ _=>.bl b) (λ i _ _ _ _=>.int i) (λ x _ _ _ _=>.str x) (λ h _ ih _ s _ hA=>.tup (s.sqt h) (ih _ s _ hA))
  (λ h m _ ih _ s _ hA=>.lst (s _ _ h) (hA _ _ h m) (ih _ s _ λ p o e z=>⟨hA p o e z.1,z.2⟩)) (λ h m _ ih _ s _ hA=>.dK (s _ _ h) (hA _ _ h m) (ih _ s _ λ p o e z=>⟨hA p o e z.1,z.2⟩))
  (λ h m _ ih _ s _ hA=>.dT (h.mono s) (hA _ _ h.at_ m) (ih _ s _ λ p o e z=>⟨hA p o e z.1,z.2⟩)) (λ h m hS nd _ s _ hA=>.set (s _ _ h) (hA _ _ h m) hS nd) (λ h _ s _ _=>.scr (h.mono s)) (λ h _ _ _ _=>.fn h) (λ h _ s _ _=>.itm (h.mono s)) (λ _ _ _ _=>.nil) (λ _ _ ih ir _ s _ hA=>.cons (ih _ s _ hA) (ir _ s _ hA)) r H' s A' hA
def Rps.mono'(s:aX H H')(r:Rps K A H xs ds)(hA:∀p o,H p=some o->A p->A' p):Rps K A' H' xs ds:=
 Rps.rec (motive_1:=λ A H x d _=>∀H',aX H H'->∀A':Addr->Prop,(∀p o,H p=some o->A p->A' p)->Rp K A' H' x d) (motive_2:=λ A H xs ds _=>∀H',aX H H'->∀A':Addr->Prop,(∀p o,H p=some o->A p->A' p)->Rps K A' H' xs ds)
  (λ _ _ _ _=>.non) (λ b _ _ _ _=>.bl b) (λ i _ _ _ _=>.int i) (λ x _ _ _ _=>.str x) (λ h _ ih _ s _ hA=>.tup (s.sqt h) (ih _ s _ hA))
  (λ h m _ ih _ s _ hA=>.lst (s _ _ h) (hA _ _ h m) (ih _ s _ λ p o e z=>⟨hA p o e z.1,z.2⟩)) (λ h m _ ih _ s _ hA=>.dK (s _ _ h) (hA _ _ h m) (ih _ s _ λ p o e z=>⟨hA p o e z.1,z.2⟩))
  (λ h m _ ih _ s _ hA=>.dT (h.mono s) (hA _ _ h.at_ m) (ih _ s _ λ p o e z=>⟨hA p o e z.1,z.2⟩)) (λ h m hS nd _ s _ hA=>.set (s _ _ h) (hA _ _ h m) hS nd) (λ h _ s _ _=>.scr (h.mono s)) (λ h _ _ _ _=>.fn h) (λ h _ s _ _=>.itm (h.mono s)) (λ _ _ _ _=>.nil) (λ _ _ ih ir _ s _ hA=>.cons (ih _ s _ hA) (ir _ s _ hA)) r H' s A' hA
def Rp.mono(s:aX H H')(hA:∀p o,H p=some o->A p->A' p)(r:Rp K A H x d):Rp K A' H' x d:=r.mono' s hA
def Rps.mono(s:aX H H')(hA:∀p o,H p=some o->A p->A' p)(r:Rps K A H x d):Rps K A' H' x d:=r.mono' s hA
def Rp.up(s:aX H H')(r:Rp K A H x d):Rp K A H' x d:=r.mono s λ _ _ _ h=>h
def Rp.wk(hA:∀p o,H p=some o->A p->A' p)(r:Rp K A H x d):Rp K A' H x d:=r.mono (aX.refl H) hA
def Rps.up(s:aX H H')(r:Rps K A H x d):Rps K A H' x d:=r.mono s λ _ _ _ h=>h
def Rps.wk(hA:∀p o,H p=some o->A p->A' p)(r:Rps K A H x d):Rps K A' H x d:=r.mono (aX.refl H) hA
def mR:HO->Bool
 | .lst _=>true| .dK _=>true| .dT _=>true| .set _ _=>true| .ext _=>true|_=>false
def aCM(s:oA l H H')(hl:H l=some o)(ho:mR o=true)(h:SqT K H a xs):SqT K H' a xs:=by
 rcases h with (h|⟨u,h⟩)|h
 .refine .inl (.inl (s _ _ (λ e=>?_) h))
  subst e;rw[hl]at h;cases h;cases ho
 .refine .inl (.inr ⟨u,s _ _ (λ e=>?_) h⟩)
  subst e;rw[hl]at h;cases h;cases ho
 .exact .inr h
def aGH(s:oA l H H')(hl:H l=some o)(ho:mR o=true)(h:rY K H a ns):rY K H' a ns:=by
 rcases h with ⟨u,h⟩|h
 .exact .inl ⟨u,s _ _ (λ e=>by subst e;rw[hl]at h;cases h;cases ho) h⟩
 .exact .inr h
def aAv.but(h:aAv H a oo q)(s:oA l H H')(hl:H l=some o)(ho:mR o=true):aAv H' a oo q:=let⟨u,es,ep,y,z,e⟩:=h;⟨u,es,ep,y,z,s _ _ (λ z=>by subst z;rw[hl]at e;cases e;cases ho) e⟩
def DxK.but(h:DxK K H a es)(s:oA l H H')(hl:H l=some o)(ho:mR o=true)(ne:a≠l):DxK K H' a es:=
 ⟨s _ _ ne h.at_,λ e he=>aCM s hl ho (h.ks e he),h.nd⟩
def Rp.but'(s:oA l H H')(hl:H l=some o)(ho:mR o=true)(r:Rp K A H x d)(hA:¬A l):Rp K A H' x d:=
 Rp.rec (motive_1:=λ A H x d _=>∀H',oA l H H'->∀o:HO,H l=some o->mR o=true->¬A l->Rp K A H' x d) (motive_2:=λ A H xs ds _=>∀H',oA l H H'->∀o:HO,H l=some o->mR o=true->¬A l->Rps K A H' xs ds)
  (λ _ _ _ _ _ _=>.non) (λ b _ _ _ _ _ _=>.bl b) (λ i _ _ _ _ _ _=>.int i) (λ x _ _ _ _ _ _=>.str x) (λ h _ ih _ s o hl ho hA=>.tup (aCM s hl ho h) (ih _ s o hl ho hA))
  (λ h m _ ih _ s o hl ho hA=>.lst (s _ _ (λ e=>hA (e▸m)) h) m (ih _ s o hl ho λ z=>hA z.1)) (λ h m _ ih _ s o hl ho hA=>.dK (s _ _ (λ e=>hA (e▸m)) h) m (ih _ s o hl ho λ z=>hA z.1))
  (λ h m _ ih _ s o hl ho hA=>.dT (h.but s hl ho λ e=>hA (e▸m)) m (ih _ s o hl ho λ z=>hA z.1)) (λ h m hS nd _ s o hl ho hA=>.set (s _ _ (λ e=>hA (e▸m)) h) m hS nd) (λ h _ s o hl ho _=>.scr (aGH s hl ho h)) (λ h _ _ _ _ _ _=>.fn h) (λ h _ s o hl ho _=>.itm (h.but s hl ho)) (λ _ _ _ _ _ _=>.nil) (λ _ _ ih ir _ s o hl ho hA=>.cons (ih _ s o hl ho hA) (ir _ s o hl ho hA)) r H' s o hl ho hA
def Rps.but'(s:oA l H H')(hl:H l=some o)(ho:mR o=true)(r:Rps K A H xs ds)(hA:¬A l):Rps K A H' xs ds:=
 Rps.rec (motive_1:=λ A H x d _=>∀H',oA l H H'->∀o:HO,H l=some o->mR o=true->¬A l->Rp K A H' x d) (motive_2:=λ A H xs ds _=>∀H',oA l H H'->∀o:HO,H l=some o->mR o=true->¬A l->Rps K A H' xs ds)
  (λ _ _ _ _ _ _=>.non) (λ b _ _ _ _ _ _=>.bl b) (λ i _ _ _ _ _ _=>.int i) (λ x _ _ _ _ _ _=>.str x) (λ h _ ih _ s o hl ho hA=>.tup (aCM s hl ho h) (ih _ s o hl ho hA))
  (λ h m _ ih _ s o hl ho hA=>.lst (s _ _ (λ e=>hA (e▸m)) h) m (ih _ s o hl ho λ z=>hA z.1)) (λ h m _ ih _ s o hl ho hA=>.dK (s _ _ (λ e=>hA (e▸m)) h) m (ih _ s o hl ho λ z=>hA z.1))
  (λ h m _ ih _ s o hl ho hA=>.dT (h.but s hl ho λ e=>hA (e▸m)) m (ih _ s o hl ho λ z=>hA z.1)) (λ h m hS nd _ s o hl ho hA=>.set (s _ _ (λ e=>hA (e▸m)) h) m hS nd) (λ h _ s o hl ho _=>.scr (aGH s hl ho h)) (λ h _ _ _ _ _ _=>.fn h) (λ h _ s o hl ho _=>.itm (h.but s hl ho)) (λ _ _ _ _ _ _=>.nil) (λ _ _ ih ir _ s o hl ho hA=>.cons (ih _ s o hl ho hA) (ir _ s o hl ho hA)) r H' s o hl ho hA
def Rp.but(s:oA l H H')(hl:H l=some o)(ho:mR o=true)(hA:¬A l)(r:Rp K A H x d):Rp K A H' x d:=r.but' s hl ho hA
def Rps.but(s:oA l H H')(hl:H l=some o)(ho:mR o=true)(hA:¬A l)(r:Rps K A H x d):Rps K A H' x d:=r.but' s hl ho hA
mutual
def imm:D->Bool
 | .tup l=>oR l
 | .lst _=>false
 | .dct _ _=>false
 | .set _=>false
 |_=>true
def oR:List D->Bool
 |[]=>true
 |d::r=>imm d&&oR r
end
def aBk(e:oR (d::r)=true):imm d=true/\oR r=true:=by
 simp only[oR,zAN]at e;exact e
def aLw(e:imm (.tup l)=true):oR l=true:=by simpa[imm]using e
def aMB(e:imm (.lst l)=true):False:=by simp[imm]at e
def aGd(e:imm (.dct l k)=true):False:=by simp[imm]at e
def aLy(e:imm (.set l)=true):False:=by simp[imm]at e
def Rp.imm'(r:Rp K A H x d)(e:VL.imm d=true):Rp K A' H x d:=
 Rp.rec (motive_1:=λ _ H x d _=>VL.imm d=true->Rp K A' H x d) (motive_2:=λ _ H xs ds _=>oR ds=true->Rps K A' H xs ds)
  (λ _=>.non) (λ b _=>.bl b) (λ i _=>.int i) (λ x _=>.str x) (λ h _ ih e=>.tup h (ih (aLw e)))
  (λ _ _ _ _ e=>(aMB e).elim) (λ _ _ _ _ e=>(aGd e).elim) (λ _ _ _ _ e=>(aGd e).elim) (λ _ _ _ _ e=>(aLy e).elim) (λ h _=>.scr h) (λ h _=>.fn h) (λ h _=>.itm h) (λ _=>.nil) (λ _ _ ih ir e=>.cons (ih (aBk e).1) (ir (aBk e).2)) r e
theorem Rp.imm(r:Rp K A H x d)(h:VL.imm d=true):Rp K A' H x d:=r.imm' h
def Rp.int_inv(r:Rp K A H v (.int i)):v= .int i:=by cases r;rfl
def Rp.tup_inv(r:Rp K A H v (.tup ds)):∃a xs,v= .ref a/\SqT K H a xs/\Rps K A H xs ds:=by cases r with|tup h r=>exact⟨_,_,rfl,h,r⟩
def Rp.lst_inv(r:Rp K A H v (.lst ds)):∃a xs,v= .ref a/\H a=some (.lst xs)/\A a/\Rps K (λ p=>A p/\p≠a) H xs ds:=by cases r with|lst h m r=>exact⟨_,_,rfl,h,m,r⟩
def Rp.scr_inv(r:Rp K A H v (.scr ns)):∃a,v= .ref a/\rY K H a ns:=by cases r with|scr h=>exact⟨_,rfl,h⟩
def Rps.one_inv(r:Rps K A H vs [d]):∃v,vs=[v]/\Rp K A H v d:=by cases r with|cons h r=>cases r;exact⟨_,rfl,h⟩
section
variable{A:Addr->Prop}{H:Hp}
theorem Rps.length:∀{xs:List V} {ds:List D},Rps K A H xs ds->xs.length=ds.length:=by
 intro xs ds h;induction xs generalizing ds with
 |nil=>cases h;rfl
 |cons x xs ih=>cases h with|cons _ r=>exact congrArg (·+1) (ih r)
theorem Rps.get:∀{xs:List V} {ds:List D} {i:Nat} {x:V},Rps K A H xs ds->xs[i]? =some x->∃d,ds[i]? =some d/\Rp K A H x d
 |_,_,_,_,.nil,e=>by simp at e
 |_,_,0,_,.cons h _,e=>by simp at e;subst e;exact⟨_,rfl,h⟩
 |_,_,i+1,x,.cons _ r,e=>by
  obtain⟨d,h1,h2⟩:=Rps.get (i:=i) (x:=x) r (by simpa using e);exact⟨d,by simpa using h1,h2⟩
theorem Rps.getD:∀{xs:List V} {ds:List D} {i:Nat} {d:D},Rps K A H xs ds->ds[i]? =some d->∃x,xs[i]? =some x/\Rp K A H x d
 |_,_,_,_,.nil,e=>by simp at e
 |_,_,0,_,.cons h _,e=>by simp at e;subst e;exact⟨_,rfl,h⟩
 |_,_,i+1,d,.cons _ r,e=>by
  obtain⟨x,h1,h2⟩:=Rps.getD (i:=i) (d:=d) r (by simpa using e);exact⟨x,by simpa using h1,h2⟩
def Rps.append:∀{xs ys:List V} {ds es:List D},Rps K A H xs ds->Rps K A H ys es->Rps K A H (xs++ys) (ds++es):=by
 intro xs ys ds es h s;induction xs generalizing ds with
 |nil=>cases h;exact s
 |cons x xs ih=>cases h with|cons h r=>exact .cons h (ih r)
theorem Rps.take:∀{xs:List V} {ds:List D} (n:Nat),Rps K A H xs ds->Rps K A H (xs.take n) (ds.take n)
 |_,_,0,_=>.nil
 |_,_,_+1,.nil=>.nil
 |_,_,n+1,.cons h r=>.cons h (Rps.take n r)
theorem Rps.drop:∀{xs:List V} {ds:List D} (n:Nat),Rps K A H xs ds->Rps K A H (xs.drop n) (ds.drop n)
 |_,_,0,r=>r
 |_,_,_+1,.nil=>.nil
 |_,_,n+1,.cons _ r=>Rps.drop n r
theorem Rps.set(h:Rp K A H x d):∀{xs:List V} {ds:List D} (n:Nat),Rps K A H xs ds->Rps K A H (xs.set n x) (ds.set n d)
 |_,_,_,.nil=>.nil
 |_,_,0,.cons _ r=>.cons h r
 |_,_,n+1,.cons k r=>.cons k (Rps.set h n r)
theorem Rps.ints:∀{ns:List Int},Rps K A H (ns.map V.int) (ns.map D.int)
 |[]=>.nil
 |n::ns=>.cons (.int n) Rps.ints
theorem Rps.ints_of:∀{xs:List V} {ns:List Int},Rps K A H xs (ns.map D.int)->xs=ns.map V.int
 |_,[],.nil=>rfl
 |_,n::ns,.cons h r=>by
  cases h;rw[zAE,Rps.ints_of r]
end
def aW(h:a=b):a=b:=h
inductive Rs(α:Type) where
 |ok (a:α)|ex (c:Str)|st
noncomputable def Rs.bd{α β:Type}:Rs α->(α->Rs β)->Rs β
 | .ok a,f=>f a
 | .ex c,_=>.ex c
 | .st,_=>.st
@[simp] def aM(a:α)(f:α->Rs β):(Rs.ok a).bd f=f a:=aW rfl
def fB{r:Rs α}(h:r.bd f= .ok b):∃a,r= .ok a/\f a= .ok b:=by
 cases r with
 |ok a=>exact⟨a,rfl,h⟩
 |ex c=>cases h
 |st=>cases h
inductive Slot where
 |no|sh (d:D)|nw (d:D)|ow (d:D)|oz (d:D)|o2 (l:List (List D))
abbrev En:=List Slot
abbrev Lab:=Addr->Nat×Nat
abbrev Mode:=Option (List Nat)
def inM(m:Mode)(n:Nat):Prop:=match m with
 |none=>True
 |some L=>n∈L
def jn:Mode->Mode->Mode
 |some a,some b=>some (a++b)
 |_,_=>none
def aQA(h:inM a n):inM (jn a b) n:=by
 cases a with
 |none=>cases b<;>exact trivial
 |some L=>
  cases b with
  |none=>exact trivial
  |some M=>exact zAr _ h
def aPz(h:inM b n):inM (jn a b) n:=by
 cases a with
 |none=>cases b<;>exact trivial
 |some L=>
  cases b with
  |none=>exact trivial
  |some M=>exact zAb _ h
def fpM(m:Mode)(lab:Lab)(H:Hp):Addr->Prop:=λ p=>H p=none\/inM m (lab p).1
def aKB(h:fpM a lab H p):fpM (jn a b) lab H p:=h.imp id aQA
def aKA(h:fpM b lab H p):fpM (jn a b) lab H p:=h.imp id aPz
def oV(s:aX H H')(h:fpM m lab H' p):fpM m lab H p:=h.imp (λ z=>s.free z) id
structure Gx where
 H0:Hp
 E:XK
 cl:Str->Addr
def aHS:D->Bool
 | .lst _=>true
 | .dct _ _=>true
 | .set _=>true
 |_=>false
def iG(K:zAA)(H:Hp)(lab:Lab)(i:Nat)(v:V):Slot->Prop
 | .no=>True
 | .sh d=>Rp K (λ p=>(lab p).1<=1) H v d
 | .nw d=>Rp K (λ p=>(lab p).1=1) H v d
 | .ow d=>Rp K (λ p=>(lab p).1=1\/(lab p).1=i+2) H v d/\(aHS d=true->∃a,v= .ref a/\(lab a).1=i+2)
 | .oz d=>∃a xs ds,v= .ref a/\d= .lst ds/\H a=some (.lst xs)/\(lab a).1=i+2/\Rps K (λ p=>(lab p).1<=1) H xs ds
 | .o2 l=>∃a xs,v= .ref a/\H a=some (.lst xs)/\lab a=(i+2,0)/\xs.length=l.length/\∀(j:Nat) x ds,xs[j]? =some x->l[j]? =some ds->Rp K (λ p=>lab p=(i+2,j+1)) H x (.lst ds)
structure RR(K:zAA)(G:Gx)(U:List (V×D))(Y:En)(Z:L2.St)(H:Hp)(lab:Lab):Prop where
 len:Z.length=Y.length
 sl:∀(i:Nat) (s:Slot),Y[i]? =some s->s= .no\/∃v,Z[i]? =some (some v)/\iG K H lab i v s
 old:aX G.H0 H
 new:∀p,(lab p).1≠0->G.H0 p=none
 tm:∀q∈U,Rp K (λ p=>(lab p).1<=1) H q.1 q.2
theorem iG.up(s:aX H H')(h:iG K H lab i v x):iG K H' lab i v x:=by
 cases x with
 |no=>exact trivial
 |sh d=>exact Rp.up s h
 |nw d=>exact Rp.up s h
 |ow d=>exact⟨Rp.up s h.1,h.2⟩
 |oz d=>
  obtain⟨a,xs,ds,e1,e2,e3,e4,e5⟩:=h;exact⟨a,xs,ds,e1,e2,s _ _ e3,e4,e5.up s⟩
 |o2 l=>
  obtain⟨a,xs,e1,e2,e3,e4,e5⟩:=h;exact⟨a,xs,e1,s _ _ e2,e3,e4,λ j x ds f1 f2=>(e5 j x ds f1 f2).up s⟩
def aIZ(r:Rp K A H (.ref a) d)(hm:aHS d=true):∃o,H a=some o/\mR o=true/\A a:=by
 cases r with
 |lst h m _=>exact⟨_,h,rfl,m⟩
 |dK h m _=>exact⟨_,h,rfl,m⟩
 |dT h m _=>exact⟨_,h.at_,rfl,m⟩
 |set h m _ _=>exact⟨_,h,rfl,m⟩
 |tup _ _=>cases hm
 |scr _=>cases hm
 |fn _=>cases hm
 |itm _=>cases hm
def aN6(r:Rp K A H v d)(hm:aHS d=true):∃a,v= .ref a:=by
 cases r with
 |lst h m _=>exact⟨_,rfl⟩
 |dK h m _=>exact⟨_,rfl⟩
 |dT h m _=>exact⟨_,rfl⟩
 |set h m _ _=>exact⟨_,rfl⟩
 |_=>cases hm
theorem iG.lab{lab lab':Lab}(hl:∀p o,H p=some o->lab' p=lab p)(h:iG K H lab i v x):iG K H lab' i v x:=by
 cases x with
 |no=>exact trivial
 |sh d=>exact Rp.wk (λ p o e q=>(hl p o e).symm▸q) h
 |nw d=>exact Rp.wk (λ p o e q=>(hl p o e).symm▸q) h
 |ow d=>
  obtain⟨h,t⟩:=h;refine⟨Rp.wk (λ p o e q=>(hl p o e).symm▸q) h,λ m=>?_⟩;obtain⟨a,rfl,ea⟩:=t m;obtain⟨o,ho,_⟩:=aIZ h m;exact⟨a,rfl,(congrArg (·.1) (hl a o ho)).trans ea⟩
 |oz d=>
  obtain⟨a,xs,ds,e1,e2,e3,e4,e5⟩:=h;exact⟨a,xs,ds,e1,e2,e3,(congrArg (·.1) (hl _ _ e3)).trans e4,Rps.wk (λ p o e q=>(hl p o e).symm▸q) e5⟩
 |o2 l=>
  obtain⟨a,xs,e1,e2,e3,e4,e5⟩:=h;exact⟨a,xs,e1,e2,(hl _ _ e2).trans e3,e4,λ j x ds f1 f2=>Rp.wk (λ p o e q=>(hl p o e).symm▸q) (e5 j x ds f1 f2)⟩
section
variable{G:Gx}{U:List (V×D)}{Y:En}{Z:L2.St}{H H':Hp}{lab lab':Lab}
theorem RR.up(R:RR K G U Y Z H lab)(s:aX H H'):RR K G U Y Z H' lab:=
 ⟨R.len,λ i x e=>(R.sl i x e).imp id λ⟨v,e1,e2⟩=>⟨v,e1,e2.up s⟩,R.old.trans s,R.new,λ q hq=>(R.tm q hq).up s⟩
def RR.relab(R:RR K G U Y Z H lab)(hl:∀p o,H p=some o->lab' p=lab p)(hn:∀p,(lab' p).1≠0->G.H0 p=none):RR K G U Y Z H lab':=
 ⟨R.len,λ i x e=>(R.sl i x e).imp id λ⟨v,e1,e2⟩=>⟨v,e1,e2.lab hl⟩,R.old,hn,λ q hq=>Rp.wk (λ p o e z=>by rw[hl p o e];exact z) (R.tm q hq)⟩
def RR.drop(R:RR K G (U'++U) Y Z H lab):RR K G U Y Z H lab:=⟨R.len,R.sl,R.old,R.new,λ z hz=>R.tm z (zAb _ hz)⟩
def RR.put(R:RR K G U Y Z H lab)(h:iG K H lab i v s):RR K G U (Y.set i s) (Z.set i (some v)) H lab:=by
 refine⟨by rw[zAz,zAz,R.len],λ j x e=>?_,R.old,R.new,R.tm⟩;by_cases hj:i=j
 .subst hj
  have hi:i<Y.length:=by
   have:=(zAK.mp e).1
   rwa [zAz]at this
  rw[zBo hi]at e;cases e;exact .inr ⟨v,by rw[zBo (by rw[R.len];exact hi)],h⟩
 .rw[zBh hj]at e
  rcases R.sl j x e with z|⟨u,e1,e2⟩
  .exact .inl z
  .exact .inr ⟨u,by rw[zBh hj];exact e1,e2⟩
def eX(H:Hp)(n:Nat)(lab:Lab):Lab:=λ p=>match H p with
 |none=>(n,0)
 |some _=>lab p
def cM(h:H p=some o):eX H n lab p=lab p:=by unfold eX;rw[h]
def aAQ(h:H p=none):eX H n lab p=(n,0):=by unfold eX;rw[h]
def RR.fresh{P:Nat->Prop}(h1:P 1)(hm:∀k,inM m k->P k)(R:RR K G U Y Z H lab)(s:aX H H')(r:Rp K (fpM m lab H) H' v d):
  RR K G U Y Z H' (eX H 1 lab)/\Rp K (λ p=>P (eX H 1 lab p).1) H' v d:=by
 refine⟨(R.relab (λ p o e=>cM e) λ p hp=>?_).up s,Rp.wk (λ p o e z=>?_) r⟩
 .cases e:H p with
  |none=>exact R.old.free e
  |some o=>rw[cM e]at hp;exact R.new p hp
 .rcases z with z|z
  .rw[aAQ z];exact h1
  .cases e:H p with
   |none=>rw[aAQ e];exact h1
   |some o=>rw[cM e];exact hm _ z
def RR.freshO(i:Nat)(hm:∀k,inM m k->k=1\/k=i+2)(R:RR K G U Y Z H lab)(s:aX H H')(r:Rp K (fpM m lab H) H' v d)(ht:aHS d=true->∃a,v= .ref a/\H a=none):
  ∃lab',RR K G U Y Z H' lab'/\iG K H' lab' i v (.ow d):=by
 obtain⟨R',r'⟩:=R.fresh (P:=λ k=>k=1\/k=i+2) (.inl rfl) hm s r;cases hd:aHS d with
 |false=>exact⟨_,R',r',λ z=>absurd z (by simp[hd])⟩
 |true=>
  obtain⟨a,rfl,ha⟩:=ht hd;refine⟨λ p=>if p=a then(i+2,0)else eX H 1 lab p,?_,Rp.wk (λ p o e z=>?_) r',λ _=>⟨a,rfl,by show(if a=a then((i+2,0):Nat×Nat)else eX H 1 lab a).1=i+2;rw[if_pos rfl]⟩⟩
  .refine(R.relab (lab':=λ p=>if p=a then(i+2,0)else eX H 1 lab p) (λ p o e=>?_) λ p hp=>?_).up s
   .rw[if_neg (λ z=>by subst z;rw[ha]at e;cases e),cM e]
   .by_cases z:p=a
    .subst z;exact R.old.free ha
    .rw[if_neg z]at hp;exact R'.new p hp
  .dsimp only
   by_cases q:p=a
   .rw[if_pos q];exact .inr rfl
   .rw[if_neg q];exact z
def aMu(h:iG K H lab i v (.oz d)):Rp K (λ p=>(lab p).1<=1\/(lab p).1=i+2) H v d:=by
 obtain⟨a,xs,ds,rfl,rfl,h1,h2,h3⟩:=h;exact .lst h1 (.inr h2) (h3.wk λ p o e z=>⟨.inl z,λ q=>by subst q;lia⟩)
end
structure Ct where
 ι:Type
 X:ι->Cx
 prog:zAS
 w:World
 K:zAA
 mg:Str->Option Value
 base:Heap
 k:Nat
 G:Gx
 cx:∀i,(X i).prog=prog/\(X i).w=w/\(X i).K=K/\(X i).mg=mg/\(X i).base=base
 calm:∀i,(X i).calm=true
 room:∀i,jX k (X i).A
 own:∀i,PassesOwn (model (X i).prog (X i).w) (X i).A (X i).env (X i).xe
 pass:∀i,uo (CX1 (X i).prog (X i).w) (X i) G.E
 dOk:Bool
 dcx:dOk=true->∀i,fX (X i) G.E
def Ct.hK(C:Ct)(i:C.ι):(C.X i).K=C.K:=(C.cx i).2.2.1
def WR{α:Type}(G:Gx)(r:Rs α)(P:α->Prop):Prop:=match r with
 | .ok a=>P a
 | .ex c=>∀H',aX G.H0 H'->G.E (.ref (G.cl c)) none H'
 | .st=>False
theorem WR.bd(h:WR G (r.bd k) P):WR G r (λ a=>WR G (k a) P):=by
 cases r with
 |ok a=>exact h
 |ex c=>exact h
 |st=>exact h
def WR.imp(h:WR G r P)(f:∀a,r= .ok a->P a->P' a):WR G r P':=by
 cases r with
 |ok a=>exact f a rfl h
 |ex c=>exact h
 |st=>exact h
abbrev QE(K:zAA)(m:Mode)(lab:Lab)(H:Hp)(Q:VK):D->Prop:=λ d=>∀v H',aX H H'->Rp K (fpM m lab H) H' v d->Q v H'
abbrev QA(K:zAA)(m:Mode)(lab:Lab)(H:Hp)(Q:List V->Hp->Prop):List D->Prop:=λ ds=>∀vs H',aX H H'->Rps K (fpM m lab H) H' vs ds->Q vs H'
abbrev QT(H:Hp)(Q:Bool->Hp->Prop):Bool->Prop:=λ b=>∀H',aX H H'->Q b H'
def kY(K:zAA)(G:Gx)(m:Mode)(t:TE)(f:En->Rs D):Prop:=∀U Z H Y lab (Q:VK),RR K G U Y Z H lab->WR G (f Y) (QE K m lab H Q)->t Z H Q
def aPD(K:zAA)(G:Gx)(m:Mode)(t:TA)(f:En->Rs (List D)):Prop:=∀U Z H Y lab (Q:List V->Hp->Prop),RR K G U Y Z H lab->WR G (f Y) (QA K m lab H Q)->t Z H Q
def aHq(K:zAA)(G:Gx)(t:TT)(f:En->Rs Bool):Prop:=∀U Z H Y lab (Q:Bool->Hp->Prop),RR K G U Y Z H lab->WR G (f Y) (QT H Q)->t Z H Q
def SE(C:Ct)(m:Mode)(e:Expr)(f:En->Rs D):Prop:=∃t,(∀i,PE (C.X i) e t)/\kY C.K C.G m t f
def SA(C:Ct)(m:Mode)(es:List Expr)(f:En->Rs (List D)):Prop:=∃t,(∀i,PA (C.X i) es t)/\aPD C.K C.G m t f
def ST(C:Ct)(e:Expr)(f:En->Rs Bool):Prop:=∃t,(∀i,PT (C.X i) e t)/\aHq C.K C.G t f
def SW(C:Ct)(e:Expr)(f:En->Rs Bool):Prop:=∃t,(∀i,PW (C.X i) e t)/\aHq C.K C.G t f
def SW.st(h:SW C e f):ST C e f:=let⟨t,h1,h2⟩:=h;⟨t,λ i=>(h1 i).pt,h2⟩
def eO(i:Nat):En->Rs D:=λ Y=>match Y[i]? with
 |some (.sh d)=>.ok d
 |some (.nw d)=>.ok d
 |some (.ow d)=>.ok d
 |some (.oz d)=>.ok d
 |some (.o2 l)=>.ok (.lst (l.map .lst))
 |_=>.st
def aD(i:Nat):En->Rs D:=λ Y=>match Y[i]? with
 |some (.sh d)=>.ok d
 |some (.nw d)=>.ok d
 |_=>.st
def jZ(i:Nat):En->Rs D:=λ Y=>match Y[i]? with
 |some (.nw d)=>.ok d
 |_=>.st
def aGs(i:Nat):En->Rs D:=λ Y=>match Y[i]? with
 |some (.ow d)=>.ok d
 |some (.o2 l)=>.ok (.lst (l.map .lst))
 |_=>.st
def cD(d:D):En->Rs D:=λ _=>.ok d
def aGZ{K:zAA}{H:Hp}{lab:Lab}{i:Nat}{v:V}{l:List (List D)}(h:iG K H lab i v (.o2 l)):Rp K (λ p=>(lab p).1=i+2) H v (.lst (l.map .lst)):=by
 obtain⟨a,xs,rfl,ha,hla,kK,hin⟩:=h;refine .lst ha (by rw[hla]) ?_;have go:∀(xs:List V) (l:List (List D)) (n:Nat),xs.length=l.length->0<n->(∀(j:Nat) x ds,xs[j]? =some x->l[j]? =some ds->Rp K (λ p=>lab p=(i+2,n+j)) H x (.lst ds))->Rps K (λ p=>(lab p).1=i+2/\p≠a) H xs (l.map .lst):=by
  intro xs;induction xs with
  |nil=>intro l n hl _ _;cases l with|nil=>exact .nil|cons _ _=>simp at hl
  |cons x xs ih=>
   intro l n hl hn h;cases l with
   |nil=>simp at hl
   |cons ds l=>
    refine .cons (Rp.wk (λ p o e z=>⟨by rw[z],λ e=>by rw[e,hla]at z;have z2:(0:Nat)=n+0:=congrArg zIM z;lia⟩) (h 0 x ds rfl rfl)) (ih l (n+1) (by simpa using hl) (by lia) λ j y es e1 e2=>?_);have z:=h (j+1) y es (by simpa using e1) (by simpa using e2);rw[show n+1+j=n+(j+1)by lia];exact z
 exact go xs l 1 kK (by lia) λ j x ds e1 e2=>by have z:=hin j x ds e1 e2;rw[show 1+j=j+1 by lia];exact z
section
variable{C:Ct}{pos:Pos}
def aKo(K:zAA)(G:Gx)(i:Nat):kY K G (some [0,1,i+2]) (pB i) (eO i):=by
 intro U Z H Y lab Q R W;unfold eO at W;cases e:Y[i]? with
 |none=>rw[e]at W;exact W.elim
 |some s=>
  rw[e]at W;rcases R.sl i s e with rfl|⟨v,ev,hv⟩
  .exact zAJ W
  .cases s with
   |no=>exact zAJ W
   |sh d=>exact⟨v,ev,W v H (aX.refl H) (Rp.wk (λ p o e z=>.inr (by show(lab p).1∈[0,1,i+2];rcases(show(lab p).1=0\/(lab p).1=1 by lia)with q|q<;>rw[q]<;>simp)) hv)⟩
   |nw d=>exact⟨v,ev,W v H (aX.refl H) (Rp.wk (λ p o e z=>.inr (by show(lab p).1∈[0,1,i+2];rw[z];simp)) hv)⟩
   |ow d=>exact⟨v,ev,W v H (aX.refl H) (Rp.wk (λ p o e z=>.inr (by show(lab p).1∈[0,1,i+2];rcases z with q|q<;>rw[q]<;>simp)) hv.1)⟩
   |oz d=>exact⟨v,ev,W v H (aX.refl H) (Rp.wk (λ p o e z=>.inr (by show(lab p).1∈[0,1,i+2];rcases(show(lab p).1=0\/(lab p).1=1\/(lab p).1=i+2 by lia)with q|q|q<;>rw[q]<;>simp)) (aMu hv))⟩
   |o2 l=>exact⟨v,ev,W v H (aX.refl H) (Rp.wk (λ p o e z=>.inr (by show(lab p).1∈[0,1,i+2];rw[z];simp)) (aGZ hv))⟩
def aIO(K:zAA)(G:Gx)(i:Nat):kY K G (some [0,1]) (pB i) (aD i):=by
 intro U Z H Y lab Q R W;unfold aD at W;cases e:Y[i]? with
 |none=>rw[e]at W;exact W.elim
 |some s=>
  rw[e]at W;rcases R.sl i s e with rfl|⟨v,ev,hv⟩
  .exact zAJ W
  .cases s with
   |sh d=>exact⟨v,ev,W v H (aX.refl H) (Rp.wk (λ p o e z=>.inr (by show(lab p).1∈[0,1];rcases(show(lab p).1=0\/(lab p).1=1 by lia)with q|q<;>rw[q]<;>simp)) hv)⟩
   |nw d=>exact⟨v,ev,W v H (aX.refl H) (Rp.wk (λ p o e z=>.inr (by show(lab p).1∈[0,1];rw[z];simp)) hv)⟩
   |_=>exact zAJ W
def aIQ(K:zAA)(G:Gx)(i:Nat):kY K G (some [1]) (pB i) (jZ i):=by
 intro U Z H Y lab Q R W;unfold jZ at W;cases e:Y[i]? with
 |none=>rw[e]at W;exact W.elim
 |some s=>
  rw[e]at W;rcases R.sl i s e with rfl|⟨v,ev,hv⟩
  .exact zAJ W
  .cases s with
   |nw d=>exact⟨v,ev,W v H (aX.refl H) (Rp.wk (λ p o e z=>.inr (by show(lab p).1∈[1];rw[z];simp)) hv)⟩
   |_=>exact zAJ W
def aIP(K:zAA)(G:Gx)(i:Nat):kY K G (some [1,i+2]) (pB i) (aGs i):=by
 intro U Z H Y lab Q R W;unfold aGs at W;cases e:Y[i]? with
 |none=>rw[e]at W;exact W.elim
 |some s=>
  rw[e]at W;rcases R.sl i s e with rfl|⟨v,ev,hv⟩
  .exact zAJ W
  .cases s with
   |ow d=>exact⟨v,ev,W v H (aX.refl H) (Rp.wk (λ p o e z=>.inr (by show(lab p).1∈[1,i+2];rcases z with q|q<;>rw[q]<;>simp)) hv.1)⟩
   |o2 l=>exact⟨v,ev,W v H (aX.refl H) (Rp.wk (λ p o e z=>.inr (by show(lab p).1∈[1,i+2];rw[z];simp)) (aGZ hv))⟩
   |_=>exact zAJ W
def jL(i:Nat)(hN:∀j,(C.X j).N[i]? =some x:=by intro _;rfl)(hv:∀j,Vis (C.X j).env.scope x:=by intro _;first|exact zC7 rfl|exact zBj (zC7 rfl)|exact zBj (zBj rfl))(hd:Nd x:=by decide)
  (hcd:(x==("__classdict__":Str))=false:=by decide):SE C (some [0,1,i+2]) (.Name x pos) (eO i):=⟨_,λ j=>ie (hN j) (hv j) hd hcd,aKo _ _ i⟩
def aB(i:Nat)(hN:∀j,(C.X j).N[i]? =some x:=by intro _;rfl)(hv:∀j,Vis (C.X j).env.scope x:=by intro _;first|exact zC7 rfl|exact zBj (zC7 rfl)|exact zBj (zBj rfl))(hd:Nd x:=by decide)
  (hcd:(x==("__classdict__":Str))=false:=by decide):SE C (some [0,1]) (.Name x pos) (aD i):=⟨_,λ j=>ie (hN j) (hv j) hd hcd,aIO _ _ i⟩
def iR(i:Nat)(hN:∀j,(C.X j).N[i]? =some x:=by intro _;rfl)(hv:∀j,Vis (C.X j).env.scope x:=by intro _;first|exact zC7 rfl|exact zBj (zC7 rfl)|exact zBj (zBj rfl))(hd:Nd x:=by decide)
  (hcd:(x==("__classdict__":Str))=false:=by decide):SE C (some [1]) (.Name x pos) (jZ i):=⟨_,λ j=>ie (hN j) (hv j) hd hcd,aIQ _ _ i⟩
def aGD(i:Nat)(hN:∀j,(C.X j).N[i]? =some x:=by intro _;rfl)(hv:∀j,Vis (C.X j).env.scope x:=by intro _;first|exact zC7 rfl|exact zBj (zC7 rfl)|exact zBj (zBj rfl))(hd:Nd x:=by decide)
  (hcd:(x==("__classdict__":Str))=false:=by decide):SE C (some [1,i+2]) (.Name x pos) (aGs i):=⟨_,λ j=>ie (hN j) (hv j) hd hcd,aIP _ _ i⟩
def aG:SE C (some []) (.Constant (.int i) j pos) (cD (.int i)):=⟨_,λ _=>aIx,λ U Z H Y lab Q R W=>W _ H (aX.refl H) (.int i)⟩
def nA:SE C (some []) (.Constant (.bool b) j pos) (cD (.bl b)):=⟨_,λ _=>aJD,λ U Z H Y lab Q R W=>W _ H (aX.refl H) (.bl b)⟩
def jM:SE C (some []) (.Constant .none j pos) (cD .non):=⟨_,λ _=>aNp,λ U Z H Y lab Q R W=>W _ H (aX.refl H) .non⟩
def bD:SE C (some []) (.Constant (.str x) j pos) (cD (.str x)):=⟨_,λ _=>iD,λ U Z H Y lab Q R W=>W _ H (aX.refl H) (.str x)⟩
def iT(hm:C.mg x=some u)(r:RelV v u)(hd:∀A H,Rp C.K A H v d)(hdb:Nd x:=by decide)(hg:∀i,Gl (C.X i) x:=by intro _;rfl):SE C (some []) (.Name x pos) (cD d):=
 ⟨_,λ i=>gC (hg i) (by rw[(C.cx i).2.2.2.1];exact hm) r hdb,λ U Z H Y lab Q R W=>W _ H (aX.refl H) (hd _ _)⟩
def aBO(d:D):Rs D:=if imm d=true then .ok d else .st
def cP(f:En->Rs D):En->Rs D:=λ Y=>(f Y).bd aBO
def dU(h:SE C m e f):SE C (some []) e (cP f):=by
 obtain⟨t,h1,h2⟩:=h;refine⟨t,h1,λ U Z H Y lab Q R W=>h2 U Z H Y lab Q R (W.bd.imp λ d _ w v H' s r=>?_)⟩;unfold aBO at w;by_cases hd:imm d=true
 .rw[if_pos hd]at w
  exact w v H' s (r.imm hd)
 .rw[if_neg hd]at w
  exact zAJ w
def aF:En->Rs (List D):=λ _=>.ok []
def aA(f:En->Rs D)(g:En->Rs (List D)):En->Rs (List D):=λ Y=>(f Y).bd λ d=>(g Y).bd λ ds=>.ok (d::ds)
variable{m m1 m2:Mode}{e a b:Expr}{es:List Expr}{f fa fb:En->Rs D}{g:En->Rs (List D)}
def aH:SA C (some []) [] aF:=⟨_,λ _=>fH,λ U Z H Y lab Q R W=>W _ H (aX.refl H) .nil⟩
def aC(h:SE C m1 e f)(hr:SA C m2 es g)(hs:∀i,zAV (e::es) (C.X i).env=(false,eval e (C.X i).env)::zAV es (C.X i).env:=by intro _;rfl):SA C (jn m1 m2) (e::es) (aA f g):=by
 obtain⟨t,h1,h2⟩:=h;obtain⟨u,k1,k2⟩:=hr;refine⟨_,λ i=>az (h1 i) (k1 i) (hs i),λ U Z H Y lab Q R W=>?_⟩;refine h2 U Z H Y lab _ R (W.bd.imp λ d _ w x H1 s1 r1=>?_);refine k2 U Z H1 Y lab _ (R.up s1) (w.bd.imp λ ds _ w xs H2 s2 r2=>?_);exact w (x::xs) H2 (s1.trans s2) (.cons (r1.mono s2 λ p o _ z=>aKB z) (r2.wk λ p o _ z=>aKA (oV s1 z)))
def jD(g:En->Rs (List D)):En->Rs D:=λ Y=>(g Y).bd λ ds=>if ds.length<=zAU then .ok (.tup ds)else .st
def iJ(g:En->Rs (List D)):En->Rs D:=λ Y=>(g Y).bd λ ds=>if ds.length<=zAU then .ok (.lst ds)else .st
def gH{x1}(h:SA C m es g):SE C m (.Tuple es x1 pos) (jD g):=by
 obtain⟨t,h1,h2⟩:=h;refine⟨_,λ i=>aLP (h1 i),λ U Z H Y lab Q R W=>h2 U Z H Y lab _ R (W.bd.imp λ ds _ w xs H1 s1 r1=>?_)⟩;by_cases hz:ds.length<=zAU
 .rw[if_pos hz]at w
  exact⟨by rw[r1.length];exact hz,λ p H' s hp _=>w _ H' (s1.trans s) (.tup (SqT.of hp) (r1.up s))⟩
 .rw[if_neg hz]at w
  exact zAJ w
def nO(h:SA C m es g):SE C m (.List es pos) (iJ g):=by
 obtain⟨t,h1,h2⟩:=h;refine⟨_,λ i=>vI (h1 i),λ U Z H Y lab Q R W=>h2 U Z H Y lab _ R (W.bd.imp λ ds _ w xs H1 s1 r1=>?_)⟩;by_cases hz:ds.length<=zAU
 .rw[if_pos hz]at w
  exact⟨by rw[r1.length];exact hz,λ p H' s hp hn=>w _ H' (s1.trans s) (.lst hp (.inl (s1.free hn)) ((r1.wk λ q o e z=>⟨z,λ e'=>by subst e';rw[hn]at e;cases e⟩).up s))⟩
 .rw[if_neg hz]at w
  exact zAJ w
def aKx:SE C (some []) (.Dict [] [] pos) (cD (.dct [] [])):=
 ⟨_,λ _=>aIz,λ U Z H Y lab Q R W p H' s hp hn=>W _ H' s (.dK (kvs:=[]) hp (.inl hn) .nil)⟩
def aQO(H:Hp)(v:V)(d:D):Prop:=aHS d=true->∃a,v= .ref a/\H a=none
def aPC(K:zAA)(G:Gx)(m:Mode)(t:TE)(f:En->Rs D):Prop:=∀U Z H Y lab (Q:VK),RR K G U Y Z H lab->WR G (f Y) (λ d=>∀v H',aX H H'->Rp K (fpM m lab H) H' v d->aQO H v d->Q v H')->t Z H Q
def SF(C:Ct)(m:Mode)(e:Expr)(f:En->Rs D):Prop:=∃t,(∀i,PE (C.X i) e t)/\aPC C.K C.G m t f
def kY.toF{K:zAA}{G:Gx}{t:TE}{f:En->Rs D}(h:kY K G (some []) t f):aPC K G (some []) t f:=λ U Z H Y lab Q R W=>
 h U Z H Y lab Q R (W.imp λ d _ w v H' s r=>w v H' s r λ hm=>by
  obtain⟨a,rfl⟩:=aN6 r hm;obtain⟨o,_,_,z⟩:=aIZ r hm;rcases z with z|z
  .exact⟨a,rfl,z⟩
  .cases z)
def aQ0(h:SE C (some []) e f):SF C (some []) e f:=let⟨t,h1,h2⟩:=h;⟨t,h1,h2.toF⟩
def aCR(h:SA C m es g):SF C m (.List es pos) (iJ g):=by
 obtain⟨t,h1,h2⟩:=h;refine⟨_,λ i=>vI (h1 i),λ U Z H Y lab Q R W=>h2 U Z H Y lab _ R (W.bd.imp λ ds _ w xs H1 s1 r1=>?_)⟩;by_cases hz:ds.length<=zAU
 .rw[if_pos hz]at w
  exact⟨by rw[r1.length];exact hz,λ p H' s hp hn=>w _ H' (s1.trans s) (.lst hp (.inl (s1.free hn)) ((r1.wk λ q o e z=>⟨z,λ e'=>by subst e';rw[hn]at e;cases e⟩).up s)) λ _=>⟨p,rfl,s1.free hn⟩⟩
 .rw[if_neg hz]at w
  exact zAJ w
def OpS(K:zAA)(r:R2)(fd:D->D->Rs D):Prop:=∀(A:Addr->Prop) x y d e H (Q:VK) z,Rp K A H x d->Rp K A H y e->fd d e= .ok z->(∀v H',aX H H'->Rp K (λ p=>H p=none\/A p) H' v z->Q v H')->r x y H Q
def UnS(K:zAA)(r:V->Hp->VK->Prop)(fd:D->Rs D):Prop:=∀(A:Addr->Prop) x d H (Q:VK) z,Rp K A H x d->fd d= .ok z->(∀v H',aX H H'->Rp K (λ p=>H p=none\/A p) H' v z->Q v H')->r x H Q
def wM(K:zAA)(r:List V->Hp->VK->Prop)(fd:List D->Rs D):Prop:=∀(A:Addr->Prop) xs ds H (Q:VK) z,Rps K A H xs ds->fd ds= .ok z->(∀v H',aX H H'->Rp K (λ p=>H p=none\/A p) H' v z->Q v H')->r xs H Q
def okD(r:Rs D):Rs D:=match r with
 | .ok d=>.ok d
 |_=>.st
def op2(fd:D->D->Rs D)(fa fb:En->Rs D):En->Rs D:=λ Y=>(fa Y).bd λ x=>(fb Y).bd λ y=>okD (fd x y)
def op1(fd:D->Rs D)(fa:En->Rs D):En->Rs D:=λ Y=>(fa Y).bd λ x=>okD (fd x)
def opA(fd:List D->Rs D)(fa:En->Rs (List D)):En->Rs D:=λ Y=>(fa Y).bd λ x=>okD (fd x)
theorem WR.okD(h:WR G (okD r) P):∃z,r= .ok z/\P z:=by
 cases r with
 |ok z=>exact⟨z,rfl,h⟩
 |ex c=>exact zAJ h
 |st=>exact zAJ h
def zB{K:zAA}{G:Gx}{r:R2}{ta tb:TE}{fd:D->D->Rs D}(hs:OpS K r fd)(h1:kY K G m1 ta fa)(h2:kY K G m2 tb fb):kY K G (jn m1 m2) (tOp r ta tb) (op2 fd fa fb):=by
 intro U Z H Y lab Q R W;refine h1 U Z H Y lab _ R (W.bd.imp λ d _ w x H1 s1 r1=>?_);refine h2 U Z H1 Y lab _ (R.up s1) (w.bd.imp λ e _ w y H2 s2 r2=>?_);obtain⟨z,ez,w⟩:=w.okD;refine hs (fpM (jn m1 m2) lab H) x y d e H2 Q z (r1.mono s2 λ p o _ q=>aKB q) (r2.wk λ p o _ q=>aKA (oV s1 q)) ez λ v H' s r=>w v H' ((s1.trans s2).trans s) (r.wk λ p o _ q=>?_)
 rcases q with q|q
 .exact .inl ((s1.trans s2).free q)
 .exact q
def aKq{K:zAA}{G:Gx}{r:V->Hp->VK->Prop}{ta:TE}{fd:D->Rs D}(hs:UnS K r fd)(h1:kY K G m ta fa):kY K G m (tUn r ta) (op1 fd fa):=by
 intro U Z H Y lab Q R W;refine h1 U Z H Y lab _ R (W.bd.imp λ d _ w x H1 s1 r1=>?_);obtain⟨z,ez,w⟩:=w.okD;refine hs (fpM m lab H) x d H1 Q z r1 ez λ v H' s r=>w v H' (s1.trans s) (r.wk λ p o _ q=>?_)
 rcases q with q|q
 .exact .inl (s1.free q)
 .exact q
def aGB{K:zAA}{G:Gx}{r:List V->Hp->VK->Prop}{ta:TA}{fd:List D->Rs D}(hs:wM K r fd)(h1:aPD K G m ta g):kY K G m (tCB r ta) (opA fd g):=by
 intro U Z H Y lab Q R W;refine h1 U Z H Y lab _ R (W.bd.imp λ d _ w x H1 s1 r1=>?_);obtain⟨z,ez,w⟩:=w.okD;refine hs (fpM m lab H) x d H1 Q z r1 ez λ v H' s r=>w v H' (s1.trans s) (r.wk λ p o _ q=>?_)
 rcases q with q|q
 .exact .inl (s1.free q)
 .exact q
def iC(h:SE C m e f)(hi:∀Y d,f Y= .ok d->imm d=true):SE C (some []) e f:=by
 obtain⟨t,h1,h2⟩:=h;exact⟨t,h1,λ U Z H Y lab Q R W=>h2 U Z H Y lab Q R (W.imp λ d ed w v H' s r=>w v H' s (r.imm (hi Y d ed)))⟩
def lJ(h:∀x y z,fd x y= .ok z->imm z=true)(e:op2 fd fa fb Y= .ok d):imm d=true:=by
 obtain⟨x,_,e⟩:=fB e;obtain⟨y,_,e⟩:=fB e;unfold okD at e;split at e
 .rename_i z hz
  cases e;exact h x y _ hz
 .cases e
def aLz(h:∀x z,fd x= .ok z->imm z=true)(e:op1 fd fa Y= .ok d):imm d=true:=by
 obtain⟨x,_,e⟩:=fB e;unfold okD at e;split at e
 .rename_i z hz
  cases e;exact h x _ hz
 .cases e
def sV(h:∀x z,fd x= .ok z->imm z=true)(e:opA fd g Y= .ok d):imm d=true:=by
 obtain⟨x,_,e⟩:=fB e;unfold okD at e;split at e
 .rename_i z hz
  cases e;exact h x _ hz
 .cases e
def zm(ro:∀i,OpR (C.X i) (zCG op) r)(hs:OpS C.K r fd)(ha:SE C m1 a fa)(hb:SE C m2 b fb):SE C (jn m1 m2) (.BinOp a op b pos) (op2 fd fa fb):=by
 obtain⟨t,h1,h2⟩:=ha;obtain⟨u,k1,k2⟩:=hb;exact⟨_,λ i=>aMt (ro i) (h1 i) (k1 i),zB hs h2 k2⟩
def aP2(ro:∀i,UnR (C.X i) (unaryOp op) r)(hs:UnS C.K r fd)(ha:SE C m a fa):SE C m (.UnaryOp op a pos) (op1 fd fa):=by
 obtain⟨t,h1,h2⟩:=ha;exact⟨_,λ i=>aPg (ro i) (h1 i),aKq hs h2⟩
def aEv(ro:∀i,OpR (C.X i) (zAt op) r)(hs:OpS C.K r fd)(ha:SE C m1 a fa)(hb:SE C m2 b fb)(hm:zBp op b=false:=by first|exact aJN _|(with_unfolding_all rfl)):
  SE C (jn m1 m2) (.Compare a [op] [b] pos) (op2 fd fa fb):=by
 obtain⟨t,h1,h2⟩:=ha;obtain⟨u,k1,k2⟩:=hb;exact⟨_,λ i=>aLS (ro i) (h1 i) (k1 i) hm,zB hs h2 k2⟩
def aP5(ro:∀i,IxR (C.X i) r)(hs:OpS C.K r fd)(ha:SE C m1 a fa)(hb:SE C m2 b fb)(hp:zV b:=by exact λ _ _=>rfl):SE C (jn m1 m2) (.Subscript a b pos) (op2 fd fa fb):=by
 obtain⟨t,h1,h2⟩:=ha;obtain⟨u,k1,k2⟩:=hb;exact⟨_,λ i=>aIw (ro i) (h1 i) (k1 i) hp,zB hs h2 k2⟩
variable{p:Pos}{x:Str}{id T:String}
def qm(ro:∀i,lH (C.X i) (.builtin id) r)(hs:wM C.K r fd)(hg:∀i,Gl (C.X i) x)(hm:C.mg x=none)(hv:zBK x=some (.builtin id))(ha:SA C m (e::es) g)
  (hn:x≠"__name__":=by decide)(hdb:Nd x:=by decide)(he:∀i,zAV (e::es) (C.X i).env=(false,eval e (C.X i).env)::zAV es (C.X i).env:=by intro _;rfl)
  (hpl:∀i,(zBw pos (zAV es (C.X i).env)).any (·.1)=false:=by intro _;rfl):SE C m (.Call (.Name x p) (e::es) [] pos) (opA fd g):=by
 obtain⟨t,h1,h2⟩:=ha;exact⟨_,λ i=>vJ (ro i) (hg i) (by rw[(C.cx i).2.2.2.1];exact hm) hv (h1 i) hn hdb (he i) (hpl i),aGB hs h2⟩
def aD3(ro:∀i,lH (C.X i) (.type T) r)(hs:wM C.K r fd)(hg:∀i,Gl (C.X i) x)(hm:C.mg x=none)(hv:zBK x=some (.type T))(ha:SA C m (e::es) g)
  (hn:x≠"__name__":=by decide)(hdb:Nd x:=by decide)(he:∀i,zAV (e::es) (C.X i).env=(false,eval e (C.X i).env)::zAV es (C.X i).env:=by intro _;rfl)
  (hpl:∀i,(zBw pos (zAV es (C.X i).env)).any (·.1)=false:=by intro _;rfl):SE C m (.Call (.Name x p) (e::es) [] pos) (opA fd g):=by
 obtain⟨t,h1,h2⟩:=ha;exact⟨_,λ i=>aB6 (ro i) (hg i) (by rw[(C.cx i).2.2.2.1];exact hm) hv (h1 i) hn hdb (he i) (hpl i),aGB hs h2⟩
def xT(f g:En->Rs D):En->Rs D:=λ Y=>(f Y).bd λ d=>match d with
 | .bl true=>g Y
 | .bl false=>.ok (.bl false)
 |_=>.st
def orD(f g:En->Rs D):En->Rs D:=λ Y=>(f Y).bd λ d=>match d with
 | .bl false=>g Y
 | .bl true=>.ok (.bl true)
 |_=>.st
def aOR:D->Rs D
 | .bl b=>.ok (.bl (!b))
 |_=>.st
variable{rest:List Expr}
def lw{op}(h:SE C m a fa):SE C m (.BoolOp op [a] pos) fa:=by
 obtain⟨t,h1,h2⟩:=h;exact⟨_,λ i=>aNn (h1 i),h2⟩
def lz(ha:SE C m1 a fa)(hb:SE C m2 (.BoolOp .And (b::rest) pos) fb):SE C m2 (.BoolOp .And (a::b::rest) pos) (xT fa fb):=by
 obtain⟨t,h1,h2⟩:=ha;obtain⟨u,k1,k2⟩:=hb;refine⟨_,λ i=>aNs (h1 i) (k1 i),λ U Z H Y lab Q R W=>h2 U Z H Y lab _ R (W.bd.imp λ d _ w x H1 s1 r1=>?_)⟩;cases r1 with
 |bl c=>
  refine⟨c,rfl,?_⟩;cases c with
  |true=>
   rw[if_pos rfl];exact k2 U Z H1 Y lab Q (R.up s1) (w.imp λ z _ w v H' s r=>w v H' (s1.trans s) (r.wk λ p o _ q=>oV s1 q))
  |false=>
   rw[if_neg zAM];exact w _ H1 s1 (.bl false)
 |_=>exact zAJ w
def aP3(ha:SE C m1 a fa)(hb:SE C m2 (.BoolOp .Or (b::rest) pos) fb):SE C m2 (.BoolOp .Or (a::b::rest) pos) (orD fa fb):=by
 obtain⟨t,h1,h2⟩:=ha;obtain⟨u,k1,k2⟩:=hb;refine⟨_,λ i=>aPh (h1 i) (k1 i),λ U Z H Y lab Q R W=>h2 U Z H Y lab _ R (W.bd.imp λ d _ w x H1 s1 r1=>?_)⟩;cases r1 with
 |bl c=>
  refine⟨c,rfl,?_⟩;cases c with
  |false=>
   rw[if_neg zAM];exact k2 U Z H1 Y lab Q (R.up s1) (w.imp λ z _ w v H' s r=>w v H' (s1.trans s) (r.wk λ p o _ q=>oV s1 q))
  |true=>
   rw[if_pos rfl];exact w _ H1 s1 (.bl true)
 |_=>exact zAJ w
def aNZ(ha:SE C m a fa):SE C (some []) (.UnaryOp .Not a pos) (op1 aOR fa):=by
 obtain⟨t,h1,h2⟩:=ha;refine⟨_,λ i=>aNo (h1 i),λ U Z H Y lab Q R W=>h2 U Z H Y lab _ R (W.bd.imp λ d _ w x H1 s1 r1=>?_)⟩;obtain⟨z,ez,w⟩:=w.okD;cases r1 with
 |bl c=>cases ez;exact⟨c,rfl,w _ H1 s1 (.bl _)⟩
 |_=>cases ez
def ifD(c:En->Rs Bool)(f g:En->Rs D):En->Rs D:=λ Y=>(c Y).bd λ k=>if k=true then f Y else g Y
def aD0(hc:ST C c fc)(ha:SE C m1 a fa)(hb:SE C m2 b fb):SE C (jn m1 m2) (.IfExp c a b pos) (ifD fc fa fb):=by
 obtain⟨tc,c1,c2⟩:=hc;obtain⟨t,h1,h2⟩:=ha;obtain⟨u,k1,k2⟩:=hb;refine⟨_,λ i=>aIy (c1 i) (h1 i) (k1 i),λ U Z H Y lab Q R W=>c2 U Z H Y lab _ R (W.bd.imp λ k _ w H1 s1=>?_)⟩;cases k with
 |true=>
  rw[if_pos rfl]at w ⊢;exact h2 U Z H1 Y lab Q (R.up s1) (w.imp λ z _ w v H' s r=>w v H' (s1.trans s) (r.wk λ p o _ q=>aKB (oV s1 q)))
 |false=>
  rw[if_neg zAM]at w ⊢;exact k2 U Z H1 Y lab Q (R.up s1) (w.imp λ z _ w v H' s r=>w v H' (s1.trans s) (r.wk λ p o _ q=>aKA (oV s1 q)))
def chD(fd fd':D->D->Rs D)(fa fb fc:En->Rs D):En->Rs D:=λ Y=>(fa Y).bd λ x=>(fb Y).bd λ y=>(okD (fd x y)).bd λ z=>match z with
 | .bl true=>(fc Y).bd λ w=>okD (fd' y w)
 | .bl false=>.ok (.bl false)
 |_=>.st
def aGx{K:zAA}{G:Gx}{r r':R2}{ta tb tc:TE}{fd fd':D->D->Rs D}{fc:En->Rs D}{m3:Mode}(hs:OpS K r fd)(hs':OpS K r' fd')(hi:∀x y z,fd' x y= .ok z->imm z=true)(h1:kY K G m1 ta fa)(h2:kY K G m2 tb fb)(h3:kY K G m3 tc fc):
  kY K G (some []) (aIG r r' ta tb tc) (chD fd fd' fa fb fc):=by
 intro U Z H Y lab Q R W;refine h1 U Z H Y lab _ R (W.bd.imp λ d _ w x H1 s1 r1=>?_);refine h2 U Z H1 Y lab _ (R.up s1) (w.bd.imp λ e _ w y H2 s2 r2=>?_);obtain⟨z,ez,w⟩:=w.bd.okD;refine hs (λ _=>True) x y d e H2 _ z (r1.mono s2 λ p o _ q=>trivial) (r2.wk λ p o _ q=>trivial) ez λ v H3 s3 r3=>?_
 cases r3 with
 |bl c=>
  refine⟨c,rfl,?_⟩;cases c with
  |false=>
   rw[if_neg zAM];exact w _ H3 ((s1.trans s2).trans s3) (.bl false)
  |true=>
   rw[if_pos rfl];refine h3 U Z H3 Y lab _ ((R.up s1).up (s2.trans s3)) (w.bd.imp λ e' _ w y' H4 s4 r4=>?_);obtain⟨z',ez',w⟩:=w.okD;exact hs' (λ _=>True) y y' e e' H4 Q z' (r2.mono (s3.trans s4) λ p o _ q=>trivial) (r4.wk λ p o _ q=>trivial) ez' λ v H5 s5 r5=>w v H5 ((((s1.trans s2).trans s3).trans s4).trans s5) (r5.imm (hi _ _ _ ez'))
 |_=>exact zAJ w
def aD1(ro:∀i,OpR (C.X i) (zAt op) r)(hs:OpS C.K r fd)(ro':∀i,OpR (C.X i) (zAt op') r')(hs':OpS C.K r' fd')(hi:∀x y z,fd' x y= .ok z->imm z=true)
  (ha:SE C m1 a fa)(hb:SE C m2 b fb)(hc:SE C m3 c fc)(hm:zHm [op,op'] [b,c]=false:=by with_unfolding_all rfl):SE C (some []) (.Compare a [op,op'] [b,c] pos) (chD fd fd' fa fb fc):=by
 obtain⟨t,h1,h2⟩:=ha;obtain⟨u,k1,k2⟩:=hb;obtain⟨v,l1,l2⟩:=hc;exact⟨_,λ i=>aJB (ro i) (ro' i) (h1 i) (k1 i) (l1 i) hm,aGx hs hs' hi h2 k2 l2⟩
def aNM:D->Rs Bool
 | .non=>.ok false
 | .bl b=>.ok b
 | .int i=>.ok (i !=0)
 | .tup l=>.ok (!l.isEmpty)
 | .lst l=>.ok (!l.isEmpty)
 |_=>.st
def blD:D->Rs Bool
 | .bl b=>.ok b
 |_=>.st
def tst(f:En->Rs D):En->Rs Bool:=λ Y=>(f Y).bd aNM
def tsb(f:En->Rs D):En->Rs Bool:=λ Y=>(f Y).bd blD
def aA2{K:zAA}{A:Addr->Prop}{H:Hp}{xs:List V}{ds:List D}(r:Rps K A H xs ds):(!ds.isEmpty)= !xs.isEmpty:=by cases r<;>rfl
def dR(ha:SE C m a fa)(he:∀i whole,isTrue a (C.X i).env whole=(do let v <-whole;zE9 a.pos;zCE [v] (truthy v)):=by intro _ _;rfl):ST C a (tst fa):=by
 obtain⟨t,h1,h2⟩:=ha;refine⟨λ Z H Q=>t Z H λ x H'=>∃k,aOy C.K x H' k/\Q k H',λ i=>by rw[<-C.hK i];exact aIh (h1 i) (he i),λ U Z H Y lab Q R W=>h2 U Z H Y lab _ R (W.bd.imp λ d _ w x H1 s1 r1=>?_)⟩;cases r1 with
 |non=>exact⟨false,rfl,w H1 s1⟩
 |bl b=>exact⟨b,rfl,w H1 s1⟩
 |int i=>exact⟨i !=0,rfl,w H1 s1⟩
 |tup h r=>exact⟨_,.inr (.inl ⟨_,h,rfl⟩),by rw[<-aA2 r];exact w H1 s1⟩
 |lst h m r=>exact⟨_,.inl ⟨_,SqL.of h,rfl⟩,by rw[<-aA2 r];exact w H1 s1⟩
 |_=>exact zAJ w
def aKp{K:zAA}{G:Gx}{t:TE}{f:En->Rs D}(h:kY K G m t f):aHq K G (aMh t) (tsb f):=λ U Z H Y lab Q R W=>h U Z H Y lab _ R (W.bd.imp λ d _ w x H1 s1 r1=>by
 cases r1 with
 |bl b=>exact⟨b,rfl,w H1 s1⟩
 |_=>exact zAJ w)
def qe(ro:∀i,OpR (C.X i) (zAt op) r)(hs:OpS C.K r fd)(ha:SE C m1 a fa)(hb:SE C m2 b fb)(hm:zBp op b=false:=by first|exact aJN _|(with_unfolding_all rfl)):
  ST C (.Compare a [op] [b] pos) (tsb (op2 fd fa fb)):=by
 obtain⟨t,h1,h2⟩:=ha;obtain⟨u,k1,k2⟩:=hb;exact⟨_,λ i=>aLJ (ro i) (h1 i) (k1 i) hm,aKp (zB hs h2 k2)⟩
variable{ga gb:En->Rs Bool}
def o6(f g:En->Rs Bool):En->Rs Bool:=λ Y=>(f Y).bd λ k=>if k=true then g Y else .ok false
def orT(f g:En->Rs Bool):En->Rs Bool:=λ Y=>(f Y).bd λ k=>if k=true then .ok true else g Y
def nj(f:En->Rs Bool):En->Rs Bool:=λ Y=>(f Y).bd λ k=>.ok (!k)
def mj(ha:ST C a ga):SW C (.BoolOp .And [a] pos) ga:=let⟨t,h1,h2⟩:=ha;⟨t,λ i=>aLH (h1 i),h2⟩
def uH(ha:ST C a ga):SW C (.BoolOp .Or [a] pos) ga:=let⟨t,h1,h2⟩:=ha;⟨t,λ i=>aIe (h1 i),h2⟩
def pC(ha:ST C a ga)(hb:SW C (.BoolOp .And (b::rest) pos) gb):SW C (.BoolOp .And (a::b::rest) pos) (o6 ga gb):=by
 obtain⟨t,h1,h2⟩:=ha;obtain⟨u,k1,k2⟩:=hb;refine⟨_,λ i=>aNb (h1 i) (k1 i),λ U Z H Y lab Q R W=>h2 U Z H Y lab _ R (W.bd.imp λ k _ w H1 s1=>?_)⟩;cases k with
 |true=>
  rw[if_pos rfl]at w ⊢;exact k2 U Z H1 Y lab Q (R.up s1) (w.imp λ z _ w H' s=>w H' (s1.trans s))
 |false=>
  rw[if_neg zAM]at w ⊢;exact w H1 s1
def xf(ha:ST C a ga)(hb:SW C (.BoolOp .Or (b::rest) pos) gb):SW C (.BoolOp .Or (a::b::rest) pos) (orT ga gb):=by
 obtain⟨t,h1,h2⟩:=ha;obtain⟨u,k1,k2⟩:=hb;refine⟨_,λ i=>aMr (h1 i) (k1 i),λ U Z H Y lab Q R W=>h2 U Z H Y lab _ R (W.bd.imp λ k _ w H1 s1=>?_)⟩;cases k with
 |false=>
  rw[if_neg zAM]at w ⊢;exact k2 U Z H1 Y lab Q (R.up s1) (w.imp λ z _ w H' s=>w H' (s1.trans s))
 |true=>
  rw[if_pos rfl]at w ⊢;exact w H1 s1
def jF(ha:ST C a ga):ST C (.UnaryOp .Not a pos) (nj ga):=by
 obtain⟨t,h1,h2⟩:=ha;exact⟨_,λ i=>aFI (h1 i),λ U Z H Y lab Q R W=>h2 U Z H Y lab _ R (W.bd.imp λ k _ w H1 s1=>w H1 s1)⟩
end
inductive Ou where
 |nx (Y:En)|rt (d:D)|bk (Y:En)|ct (Y:En)|ex (c:Str)|st
noncomputable def Rs.bo{α:Type}:Rs α->(α->Ou)->Ou
 | .ok a,f=>f a
 | .ex c,_=>.ex c
 | .st,_=>.st
@[simp] def bK(a:α)(f:α->Ou):(Rs.ok a).bo f=f a:=aW rfl
noncomputable def Ou.sq:Ou->(En->Ou)->Ou
 | .nx Y,f=>f Y
 |o,_=>o
@[simp] def ak(Y:En)(f:En->Ou):(Ou.nx Y).sq f=f Y:=aW rfl
@[simp] def sq_rt(d:D)(f:En->Ou):(Ou.rt d).sq f= .rt d:=aW rfl
def WS(K:zAA)(G:Gx)(U:List (V×D))(o:Ou)(De:Ends):Prop:=match o with
 | .nx Y=>∀Z H lab,RR K G U Y Z H lab->De.nx Z H
 | .bk Y=>∀Z H lab,RR K G U Y Z H lab->De.bk Z H
 | .ct Y=>∀Z H lab,RR K G U Y Z H lab->De.ct Z H
 | .rt d=>∀v H,aX G.H0 H->Rp K (λ p=>G.H0 p=none) H v d->De.rt v H
 | .ex c=>∀H',aX G.H0 H'->G.E (.ref (G.cl c)) none H'
 | .st=>False
theorem WS.bo{K:zAA}(h:WS K G U (r.bo k) De):WR G r (λ a=>WS K G U (k a) De):=by
 cases r with
 |ok a=>exact h
 |ex c=>exact h
 |st=>exact h
def aOz(K:zAA)(G:Gx)(t:TS)(f:En->Ou):Prop:=∀U Z H Y lab (De:Ends),RR K G U Y Z H lab->WS K G U (f Y) De->t De Z H
def SS(C:Ct)(s:Stmt)(f:En->Ou):Prop:=∃t,(∀i,PS (C.X i) s t)/\aOz C.K C.G t f
def SSs(C:Ct)(s:List Stmt)(f:En->Ou):Prop:=∃t,(∀i,PSs (C.X i) s t)/\aOz C.K C.G t f
section
variable{C:Ct}{pos:Pos}{s:Stmt}{ss:List Stmt}{f g:En->Ou}{e:Expr}{m:Mode}{fe:En->Rs D}
def bJ:SSs C [] .nx:=⟨_,λ _=>aC3,λ U Z H Y lab De R W=>W Z H lab R⟩
def bI(f g:En->Ou):En->Ou:=λ Y=>(f Y).sq g
def aN(h:SS C s f):SSs C [s] f:=let⟨t,h1,h2⟩:=h;⟨t,λ i=>pQ (h1 i),h2⟩
def aL(h:SS C s f)(k:SSs C ss g):SSs C (s::ss) (bI f g):=by
 obtain⟨t,h1,h2⟩:=h;obtain⟨u,k1,k2⟩:=k;refine⟨_,λ i=>iI (h1 i) (k1 i),λ U Z H Y lab De R W=>h2 U Z H Y lab _ R ?_⟩;unfold bI at W;cases h:f Y with
 |nx Y'=>rw[h]at W;exact λ Z' H' lab' R'=>k2 U Z' H' Y' lab' De R' W
 |rt d=>rw[h]at W;exact W
 |bk Y'=>rw[h]at W;exact W
 |ct Y'=>rw[h]at W;exact W
 |ex c=>rw[h]at W;exact W
 |st=>rw[h]at W;exact W
def frz(i:Nat)(Y:En):En:=match Y[i]? with
 |some (.ow d)=>Y.set i (.nw d)
 |some (.o2 l)=>Y.set i (.nw (.lst (l.map .lst)))
 |_=>Y
def aPs:Mode->Bool
 |some L=>L.all (·!=0)
 |none=>false
def retS(fe:En->Rs D):En->Ou:=λ Y=>(fe Y).bo .rt
def aq(he:SE C m e fe)(hm:aPs m=true:=by rfl):SS C (.Return (some e) pos) (retS fe):=by
 obtain⟨t,h1,h2⟩:=he;refine⟨_,λ i=>aAE (h1 i),λ U Z H Y lab De R W=>h2 U Z H Y lab _ R (W.bo.imp λ d _ w v H' s r=>w v H' (R.old.trans s) (r.wk λ p o _ z=>?_))⟩;rcases z with z|z
 .exact R.old.free z
 .cases m with
  |none=>cases hm
  |some L=>
   refine R.new p λ e0=>?_
   have:=zA9.mp hm _ z
   rw[e0]at this;simp at this
def aGl(fe:En->Rs D):En->Ou:=λ Y=>(fe Y).bo λ _=>.nx Y
def aGA(he:SE C m e fe)(hs:∀i,zD2 e none pos.line (C.X i).env=pure false:=by intro _;rfl):SS C (.Expr e pos) (aGl fe):=by
 obtain⟨t,h1,h2⟩:=he;exact⟨_,λ i=>vH (h1 i) (hs i),λ U Z H Y lab De R W=>h2 U Z H Y lab _ R (W.bo.imp λ d _ w v H' s r=>w Z H' lab (R.up s))⟩
def ifS(c:En->Rs Bool)(f g:En->Ou):En->Ou:=λ Y=>(c Y).bo λ k=>if k=true then f Y else g Y
def cO{a b:List Stmt}(hc:ST C c fc)(ha:SSs C a f)(hb:SSs C b g):SS C (.If c a b pos) (ifS fc f g):=by
 obtain⟨tc,c1,c2⟩:=hc;obtain⟨t,h1,h2⟩:=ha;obtain⟨u,k1,k2⟩:=hb;refine⟨_,λ i=>aIm (c1 i) (h1 i) (k1 i),λ U Z H Y lab De R W=>c2 U Z H Y lab _ R (W.bo.imp λ k _ w H1 s1=>?_)⟩;cases k with
 |true=>rw[if_pos rfl]at w ⊢;exact h2 U Z H1 Y lab De (R.up s1) w
 |false=>rw[if_neg zAM]at w ⊢;exact k2 U Z H1 Y lab De (R.up s1) w
def SV(C:Ct)(i:Nat)(s:Stmt)(m:Mode)(f:En->Rs D):Prop:=∃t,(∀j,PS (C.X j) s (aCL t (tW i)))/\kY C.K C.G m t f
def eQ(he:SE C m e fe)(hN:∀j,(C.X j).N[i]? =some x:=by intro _;rfl)(hx:∀j,Loc (C.X j).env.scope x:=by intro _;first|exact zC7 rfl|exact zBj rfl)(hs:∀j,zD2 e (some (.Name x pos')) pos.line (C.X j).env=pure false:=by intro _;rfl)(hf:∀j,(C.X j).fn x=true\/(C.X j).env.scope.names.lookup x=some .local:=by intro _;first|exact .inl rfl|exact .inr rfl)(nd:∀j,(C.X j).N.Nodup:=by intro _;assumption):
  SV C i (.Assign [.Name x pos'] e pos) m fe:=by
 obtain⟨t,h1,h2⟩:=he;exact⟨t,λ j=>pR (nd j) (hN j) (hx j) (h1 j) (hs j) (hf j),h2⟩
def SVF(C:Ct)(i:Nat)(s:Stmt)(m:Mode)(f:En->Rs D):Prop:=∃t,(∀j,PS (C.X j) s (aCL t (tW i)))/\aPC C.K C.G m t f
def aDS(he:SF C m e fe)(hN:∀j,(C.X j).N[i]? =some x:=by intro _;rfl)(hx:∀j,Loc (C.X j).env.scope x:=by intro _;first|exact zC7 rfl|exact zBj rfl)(hs:∀j,zD2 e (some (.Name x pos')) pos.line (C.X j).env=pure false:=by intro _;rfl)(hf:∀j,(C.X j).fn x=true\/(C.X j).env.scope.names.lookup x=some .local:=by intro _;first|exact .inl rfl|exact .inr rfl)(nd:∀j,(C.X j).N.Nodup:=by intro _;assumption):
  SVF C i (.Assign [.Name x pos'] e pos) m fe:=by
 obtain⟨t,h1,h2⟩:=he;exact⟨t,λ j=>pR (nd j) (hN j) (hx j) (h1 j) (hs j) (hf j),h2⟩
def aGY(P:Nat->Bool):Mode->Bool
 |some L=>L.all P
 |none=>false
def pW(h:aGY P m=true):∀k,inM m k->P k=true:=by
 intro k hk;cases m with
 |none=>cases h
 |some L=>exact zA9.mp h k hk
abbrev okS:Mode->Bool:=aGY λ k=>decide (k<=1)
abbrev okN:Mode->Bool:=aGY λ k=>k==1
abbrev okO(i:Nat):Mode->Bool:=aGY λ k=>k==1||k==i+2
def bZ(i:Nat)(fe:En->Rs D):En->Ou:=λ Y=>(fe Y).bo λ d=>.nx (Y.set i (.sh d))
def sr(i:Nat)(fe:En->Rs D):En->Ou:=λ Y=>(fe Y).bo λ d=>.nx (Y.set i (.nw d))
def yR(i:Nat)(fe:En->Rs D):En->Ou:=λ Y=>(fe Y).bo λ d=>.nx (Y.set i (.ow d))
def RR.shared{K:zAA}(hm:okS m=true)(R:RR K G U Y Z H lab)(s:aX H H')(r:Rp K (fpM m lab H) H' v d):
  RR K G U Y Z H' (eX H 1 lab)/\Rp K (λ p=>(eX H 1 lab p).1<=1) H' v d:=R.fresh (P:=λ k=>k<=1) (by decide) (λ k hk=>of_decide_eq_true (pW hm k hk)) s r
def bG{i:Nat}(h:SV C i s m fe)(hm:okS m=true:=by rfl):SS C s (bZ i fe):=by
 obtain⟨t,h1,h2⟩:=h;refine⟨_,h1,λ U Z H Y lab De R W=>h2 U Z H Y lab _ R (W.bo.imp λ d _ w v H' s r=>?_)⟩;obtain⟨R',r'⟩:=R.shared hm s r;exact w _ _ _ (R'.put (s:=.sh d) r')
def my(h:SV C i s m fe)(hm:okN m=true:=by rfl):SS C s (sr i fe):=by
 obtain⟨t,h1,h2⟩:=h;refine⟨_,h1,λ U Z H Y lab De R W=>h2 U Z H Y lab _ R (W.bo.imp λ d _ w v H' s r=>?_)⟩;obtain⟨R',r'⟩:=R.fresh (P:=λ k=>k=1) rfl (λ k hk=>beq_iff_eq.mp (pW hm k hk)) s r;exact w _ _ _ (R'.put (s:=.nw d) r')
def uy(h:SVF C i s m fe)(hm:okO i m=true:=by rfl):SS C s (yR i fe):=by
 obtain⟨t,h1,h2⟩:=h;refine⟨_,h1,λ U Z H Y lab De R W=>h2 U Z H Y lab _ R (W.bo.imp λ d _ w v H' s r ht=>?_)⟩;obtain⟨lab',R',r'⟩:=R.freshO i (λ k hk=>by have:=pW hm k hk;simpa using this) s r ht;exact w _ _ _ (R'.put (s:=.ow d) r')
def aPB(K:zAA)(G:Gx)(g:TG)(fg:D->En->Rs En):Prop:=∀U v d Z H Y lab (Q:L2.St->Hp->Prop) Y',RR K G U Y Z H lab->Rp K (λ p=>(lab p).1<=1) H v d->fg d Y= .ok Y'->(∀Z',RR K G U Y' Z' H lab->Q Z' H)->g v Z H Q
def aQK(K:zAA)(G:Gx)(g:TGs)(fg:List D->En->Rs En):Prop:=∀U vs ds Z H Y lab (Q:L2.St->Hp->Prop) Y',RR K G U Y Z H lab->Rps K (λ p=>(lab p).1<=1) H vs ds->fg ds Y= .ok Y'->(∀Z',RR K G U Y' Z' H lab->Q Z' H)->g vs Z H Q
def SG(C:Ct)(tg:Expr)(ks:List Nat)(fg:D->En->Rs En):Prop:=∃g,(∀i,PG (C.X i) tg g)/\aPB C.K C.G g fg/\wK g ks/\aEd g
def SGs(C:Ct)(tg:List Expr)(ks:List Nat)(fg:List D->En->Rs En):Prop:=∃g,(∀i,PGs (C.X i) tg g)/\aQK C.K C.G g fg/\aAw g ks/\xV g
def gnm(i:Nat):D->En->Rs En:=λ d Y=>.ok (Y.set i (.sh d))
def yo:List D->En->Rs En:=λ ds Y=>match ds with
 |[]=>.ok Y
 |_=>.st
def gw(f:D->En->Rs En)(g:List D->En->Rs En):List D->En->Rs En:=λ ds Y=>match ds with
 |d::r=>(f d Y).bd (g r)
 |_=>.st
def xM(n:Nat)(g:List D->En->Rs En):D->En->Rs En:=λ d Y=>match d with
 | .tup ds=>if ds.length=n then g ds Y else .st
 |_=>.st
variable{ks:List Nat}{fg:D->En->Rs En}{fgs:List D->En->Rs En}{tg:Expr}{tgs:List Expr}
def gY(hN:∀j,(C.X j).N[i]? =some x:=by intro _;rfl)(hx:∀j,Loc (C.X j).env.scope x:=by intro _;first|exact zC7 rfl|exact zBj rfl)(hf:∀j,(C.X j).fn x=true\/(C.X j).env.scope.names.lookup x=some .local:=by intro _;first|exact .inl rfl|exact .inr rfl)(nd:∀j,(C.X j).N.Nodup:=by intro _;assumption)(hk:i∈ks:=by decide):SG C (.Name x pos) ks (gnm i):=
 ⟨_,λ j=>aLO (nd j) (hN j) (hx j) (hf j),λ U v d Z H Y lab Q Y' R r e q=>by cases e;exact q _ (R.put (s:=.sh d) r),aMI hk,aMK⟩
def aCQ:SGs C [] ks yo:=by
 refine⟨_,λ _=>aGR,λ U vs ds Z H Y lab Q Y' R r e q=>?_,aMH,aMJ⟩;cases r with
 |nil=>cases e;exact⟨rfl,q _ R⟩
 |cons _ _=>cases e
def oH(h:SG C tg ks fg)(k:SGs C tgs ks fgs)(hs:∀i,(zB6 (tg::tgs) (C.X i).env).map (·.2)=zD0 tg (C.X i).env::(zB6 tgs (C.X i).env).map (·.2):=by intro _;rfl):SGs C (tg::tgs) ks (gw fg fgs):=by
 obtain⟨g,h1,h2,h3,h4⟩:=h;obtain⟨u,k1,k2,k3,k4⟩:=k;refine⟨_,λ i=>aAI (h1 i) (k1 i) (hs i),λ U vs ds Z H Y lab Q Y' R r e q=>?_,aJs h3 h4 k3 k4,aJw h4 k4⟩;cases r with
 |nil=>cases e
 |cons h r=>
  obtain⟨Y1,e1,e2⟩:=fB e;exact⟨_,_,rfl,h2 U _ _ Z H Y lab _ Y1 R h e1 λ Z1 R1=>k2 U _ _ Z1 H Y1 lab Q Y' R1 r e2 q⟩
def aEs(h:SGs C tgs ks fgs)(hn:∀i,(zB6 tgs (C.X i).env).length=n:=by intro _;rfl)(hst:∀i,(zB6 tgs (C.X i).env).findIdx? (·.1)=none:=by intro _;rfl):SG C (.Tuple tgs k pos) ks (xM n fgs):=by
 obtain⟨u,k1,k2,k3,k4⟩:=h;refine⟨aJy C.K n u,λ i=>by rw[<-C.hK i];exact aIu (C.calm i) (k1 i) (hn i) (hst i),λ U v d Z H Y lab Q Y' R r e q=>?_,aOa k3,aOb k4⟩;cases r with
 |tup h r=>
  unfold xM at e;dsimp only at e;split at e
  .rename_i hl
   exact⟨_,_,rfl,h,by rw[r.length];exact hl,k2 U _ _ Z H Y lab Q Y' R r e q⟩
  .cases e
 |_=>cases e
def JL(K:zAA)(lab:Lab)(J:It)(H:Hp)(ds:List D):Prop:=∀i,(ds.length<=i->J.stop i H)/\(i<ds.length->J.go i H/\∀x H',J.yld i H x H'->aX H H'/\∃d,ds[i]? =some d/\Rp K (λ p=>(lab p).1<=1) H' x d)
def aPA(K:zAA)(G:Gx)(wi:TI)(f:En->Rs (List D)):Prop:=∀U Z H Y lab (Rr:It->Hp->Prop),RR K G U Y Z H lab->
 WR G (f Y) (λ ds=>∀J H1 lab1 U1,aX H H1->(∀p o,H p=some o->lab1 p=lab p)->RR K G (U1++U) Y Z H1 lab1->(∀lab' H',(∀q∈U1,Rp K (λ p=>(lab' p).1<=1) H' q.1 q.2)->JL K lab' J H' ds)->Rr J H1)->wi Z H Rr
def SI(C:Ct)(tg iter:Expr)(f:En->Rs (List D)):Prop:=∃wi,(∀i,PI (C.X i) tg iter wi)/\aPA C.K C.G wi f
def aQB(K:zAA)(tl:TE):TI:=λ Z H R=>tl Z H λ x H1=>∃a,x= .ref a/\(((∃xs,SqL K H1 a xs)/\R (Itl K a) H1)\/((∃xs,SqT K H1 a xs)/\R (Itt K a) H1))
def aNj(hl:PE X l tl):PI X tg l (aQB X.K tl):=by
 intro kX s Z H R I h;refine thn (hl kX s Z H _ I h) λ v s1 ⟨x,H1,I1,r1,a,e,q1⟩=>?_
 subst e;cases r1;have hp:∀b∈[s1.heap.objs.size],wL X kX H1 b:=λ b hb=>by
  have e:b=s1.heap.objs.size:=by simpa using hb
  rw[e];exact I1.fpOk (zAQ _) (I1.hok.fresh (zAQ _))
 rcases q1 with ⟨⟨xs,hq⟩,q⟩|⟨⟨xs,hq⟩,q⟩
 .obtain⟨its,rv,p,hz⟩:=I1.list hq
  refine zF9 p.isList ?_;exact⟨_,_,_,_,H1,rfl,I1.kept (t':=s1.toks) λ b o e=>zAG _ e,aGt a _,⟨_,zAZ _ rfl,rfl,rfl⟩,hp,q⟩
 .obtain⟨its,rv,p,hz⟩:=I1.tuple hq
  refine zIS (show s1.heap.IsTuple a its.toArray from p) ?_;exact⟨_,_,_,_,H1,rfl,I1.kept (t':=s1.toks) λ b o e=>zAG _ e,aEh a _,⟨_,zAZ _ rfl,rfl,rfl⟩,hp,q⟩
def itD:D->Rs (List D)
 | .tup l=>.ok l
 | .lst l=>.ok l
 | .scr l=>.ok (l.map .int)
 |_=>.st
def fC(fe:En->Rs D):En->Rs (List D):=λ Y=>(fe Y).bd itD
def aG9{K:zAA}(h:SqL K H a xs)(r:Rps K (λ p=>(lab p).1<=1) H xs ds):JL K lab (Itl K a) H ds:=by
 have hl:=r.length;refine λ i=>⟨λ hi=>⟨xs,h,by lia⟩,λ hi=>⟨⟨xs,xs[i]'(by lia),h,by simp[hl,hi]⟩,λ x H' y=>?_⟩⟩
 obtain⟨e,y⟩:=y;subst e;obtain⟨d,h1,h2⟩:=r.get (y xs h);exact⟨aX.refl _,d,h1,h2⟩
def aO2{K:zAA}(h:SqT K H a xs)(r:Rps K (λ p=>(lab p).1<=1) H xs ds):JL K lab (Itt K a) H ds:=by
 have hl:=r.length;refine λ i=>⟨λ hi=>⟨xs,h,by lia⟩,λ hi=>⟨⟨xs,xs[i]'(by lia),h,by simp[hl,hi]⟩,λ x H' y=>?_⟩⟩
 obtain⟨e,y⟩:=y;subst e;obtain⟨d,h1,h2⟩:=r.get (y xs h);exact⟨aX.refl _,d,h1,h2⟩
def jJ(he:SE C m e fe)(hm:okS m=true:=by rfl):SI C tg e (fC fe):=by
 obtain⟨t,p1,p2⟩:=he;refine⟨aQB C.K t,λ i=>by rw[<-C.hK i];exact aNj (p1 i),λ U Z H Y lab Rr R W=>p2 U Z H Y lab _ R (W.bd.imp λ d _ w v H1 s r=>?_)⟩;obtain⟨R',r'⟩:=R.shared hm s r;cases d with
 |tup l=>
  cases r' with
  |tup h q=>
   rename_i a xs;refine⟨_,rfl,.inr ⟨⟨_,h⟩,w _ H1 _ [(.ref a,.tup l)] s (λ p o e=>cM e) ⟨R'.len,R'.sl,R'.old,R'.new,λ z hz=>?_⟩ λ lab' H' hq=>?_⟩⟩
   .rcases zAO.mp hz with rfl|hz
    .exact .tup h q
    .exact R'.tm z hz
   .have z:=hq _ (zAI ..)
    cases z with
    |tup h' q'=>exact aO2 h' q'
 |lst l=>
  cases r' with
  |lst h mm q=>
   rename_i a xs;refine⟨_,rfl,.inl ⟨⟨_,SqL.of h⟩,w _ H1 _ [(.ref a,.lst l)] s (λ p o e=>cM e) ⟨R'.len,R'.sl,R'.old,R'.new,λ z hz=>?_⟩ λ lab' H' hq=>?_⟩⟩
   .rcases zAO.mp hz with rfl|hz
    .exact .lst h mm q
    .exact R'.tm z hz
   .have z:=hq _ (zAI ..)
    cases z with
    |lst h' _ q'=>exact aG9 (SqL.of h') (q'.wk λ _ _ _ z=>z.1)
 |scr l=>
  cases r' with
  |scr h=>
   rename_i a;refine⟨_,rfl,.inl ⟨⟨_,h.sq⟩,w _ H1 _ [(.ref a,.scr l)] s (λ p o e=>cM e) ⟨R'.len,R'.sl,R'.old,R'.new,λ z hz=>?_⟩ λ lab' H' hq=>?_⟩⟩
   .rcases zAO.mp hz with rfl|hz
    .exact .scr h
    .exact R'.tm z hz
   .have z:=hq _ (zAI ..)
    cases z with
    |scr h'=>exact aG9 h'.sq Rps.ints
 |_=>exact zAJ w
end
section
variable{C:Ct}{pos:Pos}{s:Stmt}{ss:List Stmt}{f:En->Ou}{e a b:Expr}{es:List Expr}{m:Mode}{fa:En->Rs D}{ks:List Nat}{fg:D->En->Rs En}{tg:Expr}{fi:En->Rs (List D)}{ga:En->Rs (List D)}
def dO(lo hi:Int):List D:=(zAh (hi-lo).toNat).map λ(k:Nat)=>.int (lo+(k:Int))
def j7:List D->Rs (List D)
 |[.int j]=>if -(2^62)<=j/\j<2^62 then .ok (dO 0 j)else .st
 |_=>.st
def yX:List D->Rs (List D)
 |[.int i,.int j]=>if (-(2^62)<=i/\i<2^62)/\(-(2^62)<=j/\j<2^62)then .ok (dO i j)else .st
 |_=>.st
def gB(r:List D->Rs (List D))(ga:En->Rs (List D)):En->Rs (List D):=λ Y=>(ga Y).bd r
def aJb{K:zAA}{lo hi:Int}:JL K lab (Itr lo (hi-lo).toNat) H (dO lo hi):=by
 have hl:(dO lo hi).length=(hi-lo).toNat:=by unfold dO;simp
 refine λ i=>⟨λ h=>by show(hi-lo).toNat<=i;lia,λ h=>⟨by show i<(hi-lo).toNat;lia,λ x H' y=>?_⟩⟩
 obtain⟨e,rfl⟩:=y;subst e;refine⟨aX.refl _,.int (lo+i),?_,.int _⟩;unfold dO;rw[zAR,zGl (by lia)];rfl
def jK(ha:SA C m [a] ga)(hm:C.mg "range"=none)(hs:∀i,zAV [a] (C.X i).env=[(false,eval a (C.X i).env)]:=by intro _;rfl)(hg:∀i,Gl (C.X i) "range":=by intro _;rfl):SI C tg (.Call (.Name "range" p) [a] [] pos) (gB j7 ga):=by
 obtain⟨t,h1,h2⟩:=ha;refine⟨_,λ i=>aHN (hg i) (by rw[(C.cx i).2.2.2.1];exact hm) (h1 i) (hs i),λ U Z H Y lab Rr R W=>h2 U Z H Y lab _ R (W.bd.imp λ ds _ w vs H1 s r=>?_)⟩;unfold j7 at w;split at w
 .rename_i j _
  split at w
  .rename_i hj
   cases r with
   |cons h r=>
    cases h;cases r;refine⟨j,rfl,hj.1,hj.2,?_⟩;have z:=w (Itr 0 (j-0).toNat) H1 lab [] s (λ _ _ _=>rfl) (R.up s) λ lab' H' _=>aJb
    rwa [Int.sub_zero]at z
  .exact zAJ w
 .exact zAJ w
def aGC(ha:SA C m [a,b] ga)(hm:C.mg "range"=none)(hs:∀i,zAV [a,b] (C.X i).env=[(false,eval a (C.X i).env),(false,eval b (C.X i).env)]:=by intro _;rfl)(hs2:∀i,zAV [b] (C.X i).env=[(false,eval b (C.X i).env)]:=by intro _;rfl)(hg:∀i,Gl (C.X i) "range":=by intro _;rfl):SI C tg (.Call (.Name "range" p) [a,b] [] pos) (gB yX ga):=by
 obtain⟨t,h1,h2⟩:=ha;refine⟨_,λ i=>aHM (hg i) (by rw[(C.cx i).2.2.2.1];exact hm) (h1 i) (hs i) (hs2 i),λ U Z H Y lab Rr R W=>h2 U Z H Y lab _ R (W.bd.imp λ ds _ w vs H1 s r=>?_)⟩;unfold yX at w;split at w
 .rename_i i j _
  split at w
  .rename_i hj
   cases r with
   |cons h r=>
    cases h;cases r with
    |cons h r=>
     cases h;cases r;exact⟨i,j,rfl,⟨hj.1.1,hj.1.2,hj.2.1,hj.2.2⟩,w (Itr i (j-i).toNat) H1 lab [] s (λ _ _ _=>rfl) (R.up s) λ lab' H' _=>aJb⟩
  .exact zAJ w
 .exact zAJ w
def forL(fg:D->En->Rs En)(b:En->Ou):List D->En->Ou
 |[],Y=>.nx Y
 |d::ds,Y=>match fg d Y with
  | .ok Y1=>match b Y1 with
   | .nx Y2=>forL fg b ds Y2
   | .ct Y2=>forL fg b ds Y2
   | .bk Y2=>.nx Y2
   |o=>o
  |_=>.st
def rN(fi:En->Rs (List D))(fg:D->En->Rs En)(b:En->Ou):En->Ou:=λ Y=>(fi Y).bo λ ds=>forL fg b ds Y
def kh(hi:SI C tg e fi)(hg:SG C tg ks fg)(hb:SSs C ss f)(hs:∀i,∀x,zBs e (C.X i).env x=pure x:=by intro _ _;rfl):SS C (.For tg e ss [] pos) (rN fi fg f):=by
 obtain⟨wi,i1,i2⟩:=hi;obtain⟨gg,g1,g2,_,g4⟩:=hg;obtain⟨tb,b1,b2⟩:=hb;refine⟨_,λ i=>aNf (C.own i) (C.calm i) (i1 i) (g1 i) (b1 i) (hs i),λ U Z H Y lab De R W=>i2 U Z H Y lab _ R (W.bo.imp λ ds _ w J H1 lab1 U1 s1 _ R1 jl=>?_)⟩;refine⟨λ i n Z' H'=>∃Y' lab',RR C.K C.G (U1++U) Y' Z' H' lab'/\n=ds.length-i/\i<=ds.length/\WS C.K C.G U (forL fg f (ds.drop i) Y') De,⟨ds.length,Y,lab1,R1,by lia,by lia,w⟩,?_⟩;rintro i n Z' H' ⟨Y',lab',R',rfl,hi,w'⟩;have jj:=jl lab' H' λ q hq=>R'.tm q (zAr _ hq)
 by_cases hlt:i<ds.length
 .obtain⟨go,yl⟩:=(jj i).2 hlt
  refine .inr ⟨go,λ Z2 H2=>∃Y2 lab2,RR C.K C.G (U1++U) Y2 Z2 H2 lab2/\WS C.K C.G U (forL fg f (ds.drop (i+1)) Y2) De,λ Z2 H2 ⟨Y2,lab2,R2,w2⟩=>⟨ds.length-(i+1),by lia,Y2,lab2,R2,rfl,hlt,w2⟩,λ x H2 hy=>?_⟩;obtain⟨s2,d,ed,rx⟩:=yl x H2 hy;replace R':=R'.up s2;have ed2:ds.drop i=d::ds.drop (i+1):=by
   rw[zDg hlt]
   have:=zAB hlt
   rw[ed]at this;cases this;rfl
  rw[ed2]at w';unfold forL at w';cases eg:fg d Y' with
  |ex c=>rw[eg]at w';exact zAJ w'
  |st=>rw[eg]at w';exact zAJ w'
  |ok Y1=>
   rw[eg]at w';refine g2 (U1++U) x d Z' H2 Y' lab' _ Y1 R' rx eg λ Z1 R1'=>b2 (U1++U) Z1 H2 Y1 lab' _ R1' ?_
   dsimp only at w';cases eb:f Y1 with
   |nx Y2=>rw[eb]at w';exact λ Z2 H3 lab2 R2=>⟨Y2,lab2,R2,w'⟩
   |ct Y2=>rw[eb]at w';exact λ Z2 H3 lab2 R2=>⟨Y2,lab2,R2,w'⟩
   |bk Y2=>rw[eb]at w';exact λ Z2 H3 lab2 R2=>w' Z2 H3 lab2 R2.drop
   |rt d=>rw[eb]at w';exact w'
   |ex c=>rw[eb]at w';exact w'
   |st=>rw[eb]at w';exact w'
 .have e:i=ds.length:=by lia
  subst e;rw[zFE]at w';exact .inl ⟨(jj _).1 (zAQ _),w' Z' H' lab' R'.drop⟩
def fuel:Nat:=1000000
def qx(x:Str)(ga:En->Rs (List D)):En->Ou:=λ Y=>(ga Y).bo λ ds=>if ds.length<=zAU then .ex x else .st
def qg{rest:List Expr}(hd:C.dOk=true)(hm:C.mg x=some (.ref Ca))(hcl:C.G.cl x=Ca)(hC:cW C.K Ca)(ha:SA C m (y6::rest) ga)(he:∀i,zAV (y6::rest) (C.X i).env=(false,eval y6 (C.X i).env)::zAV rest (C.X i).env:=by intro _;rfl)(hplain:∀i,(zBw cpos (zAV rest (C.X i).env)).any (·.1)=false:=by intro _;rfl)(hdb:Nd x:=by decide)(hg:∀i,Gl (C.X i) x:=by intro _;rfl):SS C (.Raise (some (.Call (.Name x np) (y6::rest) [] cpos)) none pos) (qx x ga):=by
 obtain⟨t,h1,h2⟩:=ha;refine⟨_,λ i=>aIl (C.dcx hd i) (C.calm i) (by rw[(C.cx i).2.2.2.1];exact hm) (by rw[C.hK i];exact hC) (hg i) (h1 i) (he i) (hplain i) hdb,λ U Z H Y lab De R W=>h2 U Z H Y lab _ R (W.bo.imp λ ds _ w vs H1 s r=>?_)⟩;by_cases hz:ds.length<=zAU
 .rw[if_pos hz]at w
  refine⟨by rw[r.length];exact hz,?_⟩
  have:=w H1 (R.old.trans s)
  rwa [hcl]at this
 .rw[if_neg hz]at w
  exact zAJ w
def spF(K:zAA)(cl:Str->Addr)(n:Nat)(F:List D->Rs D):Sp:=λ vs H Q E=>∃ds,vs.length=n/\Rps K (λ _=>True) H vs ds/\WR ⟨H,E,cl⟩ (F ds) (λ d=>∀v H',aX H H'->Rp K (λ p=>H p=none) H' v d->Q v H')
def aK(F:List D->Rs D)(ga:En->Rs (List D)):En->Rs D:=λ Y=>(ga Y).bd F
def aDX{K:zAA}(hn:∀Y ds,ga Y= .ok ds->ds.length=n)(h:aPD K G m t ga):kY K G (some []) (zY (spF K G.cl n F) [] G.E t) (aK F ga):=by
 intro U Z H Y lab Q R W;refine h U Z H Y lab _ R (W.bd.imp λ ds eds w vs H1 s r=>⟨ds,by rw[zAw,r.length];exact hn Y ds eds,by rw[zAw];exact r.wk λ _ _ _ _=>trivial,?_⟩);cases hF:F ds with
 |ok d=>
  rw[hF]at w;exact λ v H' s' r'=>w v H' (s.trans s') (r'.wk λ p o _ z=>.inl (s.free z))
 |ex c=>rw[hF]at w;exact λ H' s'=>w H' ((R.old.trans s).trans s')
 |st=>rw[hF]at w;exact w
variable{k:Nat}{fn:Addr}{fd:zA5}{ps:List Str}{x:Str}{p:Pos}{F:List D->Rs D}{n:Nat}
def aKy(hF:cB C.prog C.w C.K C.mg C.base (CX1 C.prog C.w) k fn fd ps (spF C.K C.G.cl n F))(hr:k<=C.k)(hm:C.mg x=some (.ref fn))(hk:zBR C.K (.ref fn)=true)(hb:Binds C.K fd ps [])(ha:SA C m (e::es) ga)(hn:∀Y ds,ga Y= .ok ds->ds.length=n)(hdb:Nd x:=by decide)(he:∀i,zAV (e::es) (C.X i).env=(false,eval e (C.X i).env)::zAV es (C.X i).env:=by intro _;rfl)(hpl:∀i,(zBw pos (zAV es (C.X i).env)).any (·.1)=false:=by intro _;rfl)(hg:∀i,Gl (C.X i) x:=by intro _;rfl):SE C (some []) (.Call (.Name x p) (e::es) [] pos) (aK F ga):=by
 obtain⟨t,h1,h2⟩:=ha;refine⟨_,λ i=>?_,aDX hn h2⟩;obtain⟨e1,e2,e3,e4,e5⟩:=C.cx i;refine aGS (CX:=CX1 (C.X i).prog (C.X i).w) (by rw[e1,e2,e3,e4,e5];exact hF) ((C.room i).mono hr) (hg i) (by rw[e4];exact hm) (by rw[e3];exact hk) (by rw[e3];exact hb) .nil (C.pass i) (h1 i) hdb (he i) (hpl i)
def zL(h:aF Y= .ok ds):ds.length=0:=by cases h;rfl
def vU(h:∀Y ds,ga Y= .ok ds->ds.length=n):∀Y ds,aA fa ga Y= .ok ds->ds.length=n+1:=λ Y ds e=>by
 obtain⟨d,_,e⟩:=fB e;obtain⟨r,er,e⟩:=fB e;cases e;rw[zA0,h Y r er]
end
def au(mg:Str->Option Value):Str->Addr:=λ x=>match mg x with
 |some (.ref a)=>a
 |_=>0
abbrev ctD(P:zAS)(w:World)(K:zAA)(mg:Str->Option Value)(base:Heap)(N:List Str)(q:Str)(sc:Scope)(f:Addr)(cdv:Value)(A:zA6)(outer:List Env)(s:zAD)(H:Hp)(E:XK)(k:Nat)(hr:jX k (A.deeper (zDz q sc s.heap.objs.size f cdv))):Ct where
 ι:=Unit
 X:=λ _=>aAr (CX1 P w) P w K mg base N q sc f cdv A outer s H E
 prog:=P
 w:=w
 K:=K
 mg:=mg
 base:=base
 k:=k
 G:=⟨H,E,au mg⟩
 cx:=λ _=>⟨rfl,rfl,rfl,rfl,rfl⟩
 calm:=λ _=>rfl
 room:=λ _=>hr
 own:=λ _=>fX.own fX.of
 pass:=λ _=>fX.pass fX.of
 dOk:=true
 dcx:=λ _ _=>fX.of
def aa(n:Nat)(ds:List D):En:=ds.map .sh++zBD (n-ds.length) .no
def dW(n:Nat)(f:En->Ou):List D->Rs D:=λ ds=>match f (aa n ds)with
 | .nx _=>.ok .non
 | .rt d=>.ok d
 | .ex c=>.ex c
 |_=>.st
theorem RR.start{K:zAA}(r:Rps K (λ _=>True) H vs ds):RR K ⟨H,E,cl⟩ [] (aa N.length ds) (start N vs) H (λ _=>(0,0)):=by
 have hl:=r.length;refine⟨by unfold aa L2.start;simp[hl],λ i s e=>?_,aX.refl H,λ p hp=>absurd rfl hp,λ q hq=>by cases hq⟩;unfold aa at e;by_cases hi:i<ds.length
 .rw[zCf (by simpa using hi),zAR]at e
  cases ed:ds[i]? with
  |none=>rw[ed]at e;cases e
  |some d=>
   rw[ed]at e;cases e;obtain⟨x,ex,rx⟩:=r.getD ed;refine .inr ⟨x,?_,rx.wk λ _ _ _ _=>zAk _⟩;unfold L2.start;rw[zCf (by simpa[hl]using hi),zAR,ex];rfl
 .rw[zDa (by simpa using hi),zDu]at e
  split at e
  .cases e;exact .inl rfl
  .cases e
section
variable{P:zAS}{w:World}{K:zAA}{mg:Str->Option Value}{base:Heap}
def aOd{x q:Str}{st:Stmt}(F:L2.Fun K x q st fn fd)(S:aY N ps (aJ st))
  (hb:∀cdv A outer s H E hr,SSs (ctD P w K mg base N q (aJ st) fn cdv A outer s H E k hr) (fL st) f):
  cB P w K mg base (CX1 P w) (k+1) fn fd ps (spF K (au mg) ps.length (dW N.length f)):=by
 refine F.okX S (λ vs H Q E ⟨ds,hl,_⟩=>hl) λ cdv A outer s H vs Q E hr ⟨ds,hl,r,W⟩=>?_
 obtain⟨t,h1,h2⟩:=hb cdv A outer s H E hr;refine⟨t,h1 (),h2 [] _ H _ _ _ (RR.start r) ?_⟩;unfold dW at W;cases e:f (aa N.length ds)with
 |nx Y=>rw[e]at W;exact λ Z' H' lab R=>W .non H' R.old .non
 |rt d=>rw[e]at W;exact λ v H' s r=>W v H' s r
 |ex c=>rw[e]at W;exact W
 |bk Y=>rw[e]at W;exact zAJ W
 |ct Y=>rw[e]at W;exact zAJ W
 |st=>rw[e]at W;exact zAJ W
def aMO{st:Stmt}(F:L2.Fun K x q st fn fd)(S:aY N ps (aJ st))
  (hb:∀cdv A outer s H E hr,SSs (ctD P w K mg base N q (aJ st) fn cdv A outer s H E k hr) (fL st) f)(hn:ps.length=n)(hF:dW N.length f=FF):
  cB P w K mg base (CX1 P w) (k+1) fn fd ps (spF K (au mg) n FF):=by
 subst hn hF;exact aOd F S hb
end
def OpR.or(h:OpR X f r)(h':OpR X f r'):OpR X f (λ x y H Q=>r x y H Q\/r' x y H Q):=by
 intro kX s Z H x y v u Q I rx ry q;rcases q with q|q
 .exact h kX s Z H x y v u Q I rx ry q
 .exact h' kX s Z H x y v u Q I rx ry q
def OpS.or{K:zAA}(h:OpS K r fd)(h':OpS K r' fd'):OpS K (λ x y H Q=>r x y H Q\/r' x y H Q) (λ d e=>match fd d e with
  | .ok z=>.ok z
  |_=>fd' d e):=by
 intro A x y d e H Q z rx ry ez q;dsimp only at ez;cases hd:fd d e with
 |ok w=>rw[hd]at ez;cases ez;exact .inl (h A x y d e H Q _ rx ry hd q)
 |ex c=>rw[hd]at ez;exact .inr (h' A x y d e H Q z rx ry ez q)
 |st=>rw[hd]at ez;exact .inr (h' A x y d e H Q z rx ry ez q)
section
variable{K:zAA}
def i2(p:Int->Int->Bool)(g:Int->Int->D):D->D->Rs D
 | .int i,.int j=>if p i j=true then .ok (g i j)else .st
 |_,_=>.st
def aFO{g:Int->Int->Int}(hp:∀i j,p i j=true->c i j):OpS K (rI c λ i j=>.int (g i j)) (i2 p λ i j=>.int (g i j)):=by
 intro A x y d e H Q z rx ry ez q;unfold i2 at ez;split at ez
 .rename_i i j
  split at ez
  .rename_i h
   cases ez;obtain rfl:=rx.int_inv;obtain rfl:=ry.int_inv;exact⟨i,j,rfl,rfl,hp i j h,q _ H (aX.refl H) (.int _)⟩
  .cases ez
 .cases ez
def aLX{g:Int->Int->Int}:OpS K (rI0 λ i j=>.int (g i j)) (i2 (λ _ _=>true) λ i j=>.int (g i j)):=by
 intro A x y d e H Q z rx ry ez q;unfold i2 at ez;split at ez
 .rename_i i j
  cases ez;obtain rfl:=rx.int_inv;obtain rfl:=ry.int_inv;exact⟨i,j,rfl,rfl,q _ H (aX.refl H) (.int _)⟩
 .cases ez
def aC7{g:Int->Int->Bool}:OpS K (rI0 λ i j=>.bl (g i j)) (i2 (λ _ _=>true) λ i j=>.bl (g i j)):=by
 intro A x y d e H Q z rx ry ez q;unfold i2 at ez;split at ez
 .rename_i i j
  cases ez;obtain rfl:=rx.int_inv;obtain rfl:=ry.int_inv;exact⟨i,j,rfl,rfl,q _ H (aX.refl H) (.bl _)⟩
 .cases ez
def aCn{g:Int->Int->Int}:∀x y z,i2 p (λ i j=>.int (g i j)) x y= .ok z->imm z=true:=by
 intro x y z e;unfold i2 at e;split at e
 .split at e
  .cases e;rfl
  .cases e
 .cases e
def aJo{g:Int->Int->Bool}:∀x y z,i2 p (λ i j=>.bl (g i j)) x y= .ok z->imm z=true:=by
 intro x y z e;unfold i2 at e;split at e
 .split at e
  .cases e;rfl
  .cases e
 .cases e
def bY:D->D->Rs D
 | .int i,.int j=>.ok (.int (i+j))
 | .lst l,.lst m=>if l.length+m.length<=zAU then .ok (.lst (l++m))else .st
 | .tup l,.tup m=>if l.length+m.length<=zAU then .ok (.tup (l++m))else .st
 |_,_=>.st
def aMq(K:zAA):R2:=λ x y H Q=>∃a b xs ys,x= .ref a/\y= .ref b/\SqT K H a xs/\SqT K H b ys/\xs.length+ys.length<=zAU/\
 (xs=[]->Q (.ref b) H)/\(ys=[]->Q (.ref a) H)/\New H (.tup (xs++ys)) Q
def aL1:OpR X (zCG .Add) (aMq X.K):=by
 intro kX s Z H x y v u Q I rx ry h;obtain⟨a,b,xs,ys,rfl,rfl,ha,hb,hz,q0,q1,q2⟩:=h;by_cases hx:xs=[]
 .subst hx
  cases rx;cases ry;obtain⟨its,r1,p1,_⟩:=I.tuple ha;obtain⟨its2,r2,p2,_⟩:=I.tuple hb;cases r1;exact HT.aKR p1 p2 ⟨.ref b,H,I,rfl,q0 rfl⟩
 .exact aL2 kX s Z H _ _ v u Q I rx ry ⟨a,b,xs,ys,rfl,rfl,ha,hb,hx,hz,q1,λ _ p hp=>q2.at hp⟩
def aIc(K:zAA):R2:=λ x y H Q=>rI0 (λ i j=>.int (i+j)) x y H Q\/(aIb x y H Q\/aMq K x y H Q)
def aL3:OpR X (zCG .Add) (aIc X.K):=OpR.or aOO (OpR.or aGX aL1)
def aNx:OpS K (aIc K) bY:=by
 intro A x y d e H Q z rx ry ez q;unfold bY at ez;split at ez
 .cases ez;obtain rfl:=rx.int_inv;obtain rfl:=ry.int_inv;exact .inl ⟨_,_,rfl,rfl,q _ H (aX.refl H) (.int _)⟩
 .split at ez
  .rename_i hl
   cases ez;obtain⟨_,_,rfl,h1,m1,r1⟩:=rx.lst_inv;obtain⟨_,_,rfl,h2,m2,r2⟩:=ry.lst_inv;refine .inr (.inl ⟨_,_,_,_,rfl,rfl,h1,h2,by rw[r1.length,r2.length];exact hl,λ p H' s hp hn=>q _ H' s (.lst hp (.inl hn) ?_)⟩);exact(((r1.wk λ _ _ _ z=>z.1).append (r2.wk λ _ _ _ z=>z.1)).wk (A':=λ q=>(H q=none\/A q)/\q≠p) λ q o e z=>⟨.inr z,λ e'=>by subst e';rw[hn]at e;cases e⟩).up s
  .cases ez
 .split at ez
  .rename_i hl
   cases ez;obtain⟨_,_,rfl,h1,r1⟩:=rx.tup_inv;obtain⟨_,_,rfl,h2,r2⟩:=ry.tup_inv;have r1':=r1.wk (A':=λ p=>H p=none\/A p) λ _ _ _ z=>.inr z
   have r2':=r2.wk (A':=λ p=>H p=none\/A p) λ _ _ _ z=>.inr z
   refine .inr (.inr ⟨_,_,_,_,rfl,rfl,h1,h2,by rw[r1.length,r2.length];exact hl,λ e=>?_,λ e=>?_,λ p H' s hp hn=>q _ H' s (.tup (SqT.of hp) ((r1'.append r2').up s))⟩)
   .subst e
    cases r1';exact q _ H (aX.refl H) (.tup h2 r2')
   .subst e
    cases r2';rw[zAw]at q;exact q _ H (aX.refl H) (.tup h1 r1')
  .cases ez
 .cases ez
def jb:D->D->Rs D
 | .int i,.int j=>if (decide (-(2^64)<i)&&decide (i<2^64))||(decide (-(2^64)<j)&&decide (j<2^64))then .ok (.int (i*j))else .st
 | .lst l,.int k=>if decide (-(2^63)<=k)&&decide (k<2^63)&&decide (l.length*k.toNat<=zAU)&&oR l then .ok (.lst (zBD k.toNat l).flatten)else .st
 |_,_=>.st
theorem Rps.rep(r:Rps K A H xs ds):∀k:Nat,Rps K A H (zBD k xs).flatten (zBD k ds).flatten
 |0=>.nil
 |k+1=>by
  rw[zBa,zBa,zC6,zC6];exact r.append (Rps.rep r k)
def aMm:R2:=λ x y H Q=>rI aMd (λ i j=>.int (i*j)) x y H Q\/aPb x y H Q
def aLZ:OpR X (zCG .Mult) aMm:=OpR.or aOD aOA
def aNv:OpS K aMm jb:=by
 intro A x y d e H Q z rx ry ez q;unfold jb at ez;split at ez
 .split at ez
  .rename_i hc
   cases ez;obtain rfl:=rx.int_inv;obtain rfl:=ry.int_inv;refine .inl ⟨_,_,rfl,rfl,?_,q _ H (aX.refl H) (.int _)⟩;simp only[zFQ,zAN,decide_eq_true_eq]at hc;exact hc
  .cases ez
 .split at ez
  .rename_i hc
   simp only[zAN,decide_eq_true_eq]at hc;cases ez;obtain⟨_,_,rfl,h1,m1,r1⟩:=rx.lst_inv;obtain rfl:=ry.int_inv;refine .inr ⟨_,_,_,rfl,rfl,h1,hc.1.1.1,hc.1.1.2,by rw[r1.length];exact hc.1.2,λ p hp=>q _ _ (cu hp _) (.lst bN (.inl hp) ?_)⟩;exact((r1.rep _).wk (A':=λ q=>(H q=none\/A q)/\q≠p) λ q o e z=>⟨.inr z.1,λ e'=>by subst e';rw[hp]at e;cases e⟩).up (cu hp _)
  .cases ez
 .cases ez
def intsOf:List D->Option (List Int)
 |[]=>some []
 | .int i::r=>(intsOf r).map (i::·)
 |_=>none
theorem rM:∀{l:List D} {ns:List Int},intsOf l=some ns->l=ns.map .int
 |[],ns,h=>by cases h;rfl
 | .int i::r,ns,h=>by
  simp only[intsOf,zDw]at h;obtain⟨ms,h1,rfl⟩:=h;rw[rM h1];rfl
 | .non::_,_,h=>by cases h
 | .bl _::_,_,h=>by cases h
 | .str _::_,_,h=>by cases h
 | .tup _::_,_,h=>by cases h
 | .lst _::_,_,h=>by cases h
 | .dct _ _::_,_,h=>by cases h
 | .set _::_,_,h=>by cases h
 | .scr _::_,_,h=>by cases h
theorem ue:∀ns:List Int,intsOf (ns.map .int)=some ns
 |[]=>rfl
 |n::ns=>by simp only[zAE,intsOf,ue ns,zCr]
def ltT(p:List Int->List Int->Bool):D->D->Rs D
 | .tup l,.tup m=>match intsOf l,intsOf m with
  |some ns,some ms=>.ok (.bl (p ns ms))
  |_,_=>.st
 |_,_=>.st
def aGJ(r:Rp K A H x (.tup l))(e:intsOf l=some ns):∃a,x= .ref a/\SqT K H a (ns.map V.int):=by
 have:=rM e
 subst this;cases r with
 |tup h r=>
  have:=r.ints_of
  subst this;exact⟨_,rfl,h⟩
def aGW(hr:∀x y H Q,(∃a b ns ms,x= .ref a/\y= .ref b/\SqT K H a (ns.map V.int)/\SqT K H b (ms.map V.int)/\Q (.bl (p ns ms)) H)->r x y H Q):OpS K r (ltT p):=by
 intro A x y d e H Q z rx ry ez q;unfold ltT at ez;split at ez
 .split at ez
  .rename_i ns ms e1 e2
   cases ez;obtain⟨a,rfl,ha⟩:=aGJ rx e1;obtain⟨b,rfl,hb⟩:=aGJ ry e2;exact hr _ _ _ _ ⟨a,b,ns,ms,rfl,rfl,ha,hb,q _ H (aX.refl H) (.bl _)⟩
  .cases ez
 .cases ez
def ltD:D->D->Rs D:=λ d e=>match i2 (λ _ _=>true) (λ i j=>.bl (decide (i<j))) d e with
 | .ok z=>.ok z
 |_=>ltT HT.lexLt d e
def leD:D->D->Rs D:=λ d e=>match i2 (λ _ _=>true) (λ i j=>.bl (decide (i<=j))) d e with
 | .ok z=>.ok z
 |_=>ltT HT.lexLe d e
def gtD:D->D->Rs D:=i2 (λ _ _=>true) (λ i j=>.bl (decide (j<i)))
def geD:D->D->Rs D:=i2 (λ _ _=>true) (λ i j=>.bl (decide (j<=i)))
def aOF(hu:X.A.units<cLine):OpR X (zAt .Lt) (λ x y H Q=>rI0 (λ i j=>.bl (decide (i<j))) x y H Q\/aLC X.K x y H Q):=OpR.or aPn (aOG hu)
def aOH(hu:X.A.units<cLine):OpR X (zAt .LtE) (λ x y H Q=>rI0 (λ i j=>.bl (decide (i<=j))) x y H Q\/aLD X.K x y H Q):=OpR.or aPo (aOI hu)
def aJJ:OpS K (λ x y H Q=>rI0 (λ i j=>.bl (decide (i<j))) x y H Q\/aLC K x y H Q) ltD:=OpS.or aC7 (aGW λ _ _ _ _ h=>h)
def aJK:OpS K (λ x y H Q=>rI0 (λ i j=>.bl (decide (i<=j))) x y H Q\/aLD K x y H Q) leD:=OpS.or aC7 (aGW λ _ _ _ _ h=>h)
def aGc(e:ltT p x y= .ok z):imm z=true:=by
 unfold ltT at e;split at e
 .split at e
  .cases e;rfl
  .cases e
 .cases e
def aJm:∀x y z,ltD x y= .ok z->imm z=true:=by
 intro x y z e;unfold ltD at e;split at e
 .rename_i w hw;cases e;exact aJo _ _ _ hw
 .exact aGc e
def aO9:∀x y z,leD x y= .ok z->imm z=true:=by
 intro x y z e;unfold leD at e;split at e
 .rename_i w hw;cases e;exact aJo _ _ _ hw
 .exact aGc e
def isD(neg:Bool):D->D->Rs D
 | .bl a,.bl b=>if neg then .st else .ok (.bl (a==b))
 |d,.non=>match d with
  | .non=>.ok (.bl (!neg))
  |_=>.ok (.bl neg)
 |_,_=>.st
def aOJ:OpR X (zAt .Is) (λ x y H Q=>(∃b c,x= .bl b/\y= .bl c/\Q (.bl (b==c)) H)\/(y= .non/\Q (.bl (decide (x= .non))) H)):=OpR.or aJL aOK
def aN7(r:Rp K A H x d)(h:d≠.non):x≠.non:=by
 cases r with
 |non=>exact absurd rfl h
 |_=>exact λ e=>by cases e
def aPm:OpS K (λ x y H Q=>(∃b c,x= .bl b/\y= .bl c/\Q (.bl (b==c)) H)\/(y= .non/\Q (.bl (decide (x= .non))) H)) (isD false):=by
 intro A x y d e H Q z rx ry ez q;unfold isD at ez;split at ez
 .cases ez;cases rx;cases ry;exact .inl ⟨_,_,rfl,rfl,q _ H (aX.refl H) (.bl _)⟩
 .cases ry
  split at ez
  .cases ez;cases rx;exact .inr ⟨rfl,by rw[decide_eq_true rfl];exact q _ H (aX.refl H) (.bl _)⟩
  .rename_i hn
   cases ez;exact .inr ⟨rfl,by rw[decide_eq_false (aN7 rx hn)];exact q _ H (aX.refl H) (.bl _)⟩
 .cases ez
def tD:D->Rs D
 | .int i=>.ok (.int (-i))
 |_=>.st
def aNG:UnS K (rU λ i=>.int (-i)) tD:=by
 intro A x d H Q z rx ez q;cases rx with
 |int i=>cases ez;exact⟨i,rfl,q _ H (aX.refl H) (.int _)⟩
 |_=>cases ez
def aMA:∀x z,tD x= .ok z->imm z=true:=by
 intro x z e;cases x with
 |int i=>cases e;rfl
 |_=>cases e
def atD(l:List D)(i:Int):Rs D:=match atI l i with
 |some d=>.ok d
 |none=>.st
def ixD:D->D->Rs D
 | .tup l,.int i=>atD l i
 | .lst l,.int i=>atD l i
 | .scr l,.int i=>atD (l.map .int) i
 |_,_=>.st
theorem Rps.at(r:Rps K A H xs ds)(e:atI ds i=some d):∃x,atI xs i=some x/\Rp K A H x d:=by
 unfold atI at e ⊢;rw[r.length];cases h:ixN ds.length i with
 |none=>rw[h]at e;cases e
 |some j=>
  rw[h]at e;obtain⟨x,e1,e2⟩:=r.getD (i:=j) (d:=d) e;exact⟨x,e1,e2⟩
def aPl:OpS K (rIx K) ixD:=by
 intro A x y d e H Q z rx ry ez q;unfold ixD at ez;split at ez
 .unfold atD at ez
  split at ez
  .rename_i w hw
   cases ez;obtain⟨_,_,rfl,h,r⟩:=rx.tup_inv;obtain rfl:=ry.int_inv;obtain⟨v,e1,e2⟩:=r.at hw;exact .inr (.inl ⟨_,_,_,v,rfl,rfl,h,e1,q v H (aX.refl H) (e2.wk λ _ _ _ z=>.inr z)⟩)
  .cases ez
 .unfold atD at ez
  split at ez
  .rename_i w hw
   cases ez;obtain⟨_,_,rfl,h,m,r⟩:=rx.lst_inv;obtain rfl:=ry.int_inv;obtain⟨v,e1,e2⟩:=r.at hw;exact .inl ⟨_,_,_,v,rfl,rfl,SqL.of h,e1,q v H (aX.refl H) (e2.wk λ _ _ _ z=>.inr z.1)⟩
  .cases ez
 .unfold atD at ez
  split at ez
  .rename_i w hw
   cases ez;obtain⟨_,rfl,h⟩:=rx.scr_inv;obtain rfl:=ry.int_inv;obtain⟨v,e1,e2⟩:=(Rps.ints (K:=K) (A:=A) (H:=H)).at hw;exact .inl ⟨_,_,_,v,rfl,rfl,h.sq,e1,q v H (aX.refl H) (e2.wk λ _ _ _ z=>.inr z)⟩
  .cases ez
 .cases ez
def gM:List D->Rs D
 |[.tup l]=>.ok (.int l.length)
 |[.lst l]=>.ok (.int l.length)
 |[.scr l]=>.ok (.int l.length)
 |_=>.st
def aOl:wM K (λ xs H Q=>∃p ys,xs=[.ref p]/\(SqL K H p ys\/SqT K H p ys)/\Q (.int ys.length) H) gM:=by
 intro A xs ds H Q z r ez q;unfold gM at ez;split at ez
 .cases ez
  obtain⟨_,rfl,h0⟩:=r.one_inv;obtain⟨_,_,rfl,h,r⟩:=h0.tup_inv;exact⟨_,_,rfl,.inr h,by rw[r.length];exact q _ H (aX.refl H) (.int _)⟩
 .cases ez
  obtain⟨_,rfl,h0⟩:=r.one_inv;obtain⟨_,_,rfl,h,m,r⟩:=h0.lst_inv;exact⟨_,_,rfl,.inl (SqL.of h),by rw[r.length];exact q _ H (aX.refl H) (.int _)⟩
 .cases ez
  obtain⟨_,rfl,h0⟩:=r.one_inv;obtain⟨_,rfl,h⟩:=h0.scr_inv;exact⟨_,_,rfl,.inl h.sq,by rw[zAF];exact q _ H (aX.refl H) (.int _)⟩
 .cases ez
def aMD:∀x z,gM x= .ok z->imm z=true:=by
 intro x z e;unfold gM at e;split at e<;>first|(cases e;rfl)|cases e
def tyD:D->String
 | .non=>"NoneType"| .bl _=>"bool"| .int _=>"int"| .str _=>"str"| .tup _=>"tuple"| .lst _=>"list"| .dct _ _=>"dict"| .set _=>"set"| .scr _=>"script"| .fn _=>"function"| .itm _ _=>"items"
def lD(T:String):D->Rs D:=λ d=>if rG (tyD d) T true=true then .ok (.bl true)else if rG (tyD d) T false=true then .ok (.bl false)else .st
def aMn(K:zAA)(T:String):List V->Hp->VK->Prop:=λ xs H Q=>∃x d A b,xs=[x,.ty T]/\Rp K A H x d/\rG (tyD d) T b=true/\Q (.bl b) H
def aHn:lH X (.builtin "isinstance") (aMn X.K T):=by
 intro kX s Z H xs us Q I rv h;obtain⟨x,d,A,b,rfl,rd,ok,q⟩:=h;cases rd with
 |tup h r=>
  obtain⟨u,w',rfl,ru,rw'⟩:=vals2 rv;cases ru;cases rw';obtain⟨its,_,⟨o,h1,h2,_⟩,_⟩:=I.tuple h;exact zBH zG3 I.kIn ⟨o,h1,h2⟩ (aF8 ok) (λ z=>nomatch z) λ tk=>⟨.bl b,H,I.tok _,rfl,q⟩
 |set h m hS nd=>cases b<;>simp[rG,tyD]at ok
 |scr h=>cases b<;>simp[rG,tyD]at ok
 |fn h=>cases b<;>simp[rG,tyD]at ok
 |itm h=>cases b<;>simp[rG,tyD]at ok
 |non=>exact o5 kX s Z H _ us Q I rv ⟨_,T,_,b,rfl,.non,ok,q⟩
 |bl c=>exact o5 kX s Z H _ us Q I rv ⟨_,T,_,b,rfl,.bl c,ok,q⟩
 |int c=>exact o5 kX s Z H _ us Q I rv ⟨_,T,_,b,rfl,.int c,ok,q⟩
 |str c=>exact o5 kX s Z H _ us Q I rv ⟨_,T,_,b,rfl,.str c,ok,q⟩
 |lst h m r=>exact o5 kX s Z H _ us Q I rv ⟨_,T,_,b,rfl,.lst h,ok,q⟩
 |dK h m r=>exact o5 kX s Z H _ us Q I rv ⟨_,T,_,b,rfl,.dK h,ok,q⟩
 |dT h m r=>
  obtain⟨u,w',rfl,ru,rw'⟩:=vals2 rv;cases ru;cases rw';obtain⟨⟨_,_,_,o,_,_,_,h1,h2,_⟩,_⟩:=(show cZ X.prog X.w H s.heap _ (dxO _ _)from I.hok _ _ h.at_);exact zBH zE6 I.kIn ⟨o,h1,h2.1⟩ (aF8 ok) (λ z=>nomatch z) λ tk=>⟨.bl b,H,I.tok _,rfl,q⟩
end
section
variable{C:Ct}{pos p p2:Pos}{m:Mode}{a:Expr}{fa:En->Rs D}
def nR(ha:SE C m a fa)(hm:C.mg "isinstance"=none)(hmT:C.mg x=none)(hn:x≠"__name__":=by decide)(hd:Nd x:=by decide)(he:∀i,zAV [a,.Name x p2] (C.X i).env=(false,eval a (C.X i).env)::zAV [.Name x p2] (C.X i).env:=by intro _;rfl)(hpl:∀i,(zBw pos (zAV [.Name x p2] (C.X i).env)).any (·.1)=false:=by intro _;rfl)(hg:∀i,Gl (C.X i) "isinstance":=by intro _;rfl)(hv:zBK "isinstance"=some (.builtin "isinstance"):=by decide+kernel)(hgT:∀i,Gl (C.X i) x:=by intro _;rfl)(hvT:zBK x=some (.type T):=by decide+kernel):
  SE C (some []) (.Call (.Name "isinstance" p) [a,.Name x p2] [] pos) (op1 (lD T) fa):=by
 obtain⟨t,h1,h2⟩:=ha;refine⟨tCB (aMn C.K T) (kE t (kE (tC (.ty T)) uw)),λ i=>?_,λ U Z H Y lab Q R W=>?_⟩
 .rw[<-C.hK i]
  exact vJ aHn (hg i) (by rw[(C.cx i).2.2.2.1];exact hm) hv (az (h1 i) (az (aGT (v:=.ty T) (hgT i) (by rw[(C.cx i).2.2.2.1];exact hmT) hvT rfl hn hd) fH) (he i)) (by decide) (by decide) (he i) (hpl i)
 .refine h2 U Z H Y lab _ R (W.bd.imp λ d _ w x H1 s1 r1=>?_)
  obtain⟨z,ez,w⟩:=w.okD;unfold lD at ez;split at ez
  .rename_i h;cases ez;exact⟨x,d,_,true,rfl,r1,h,w _ H1 s1 (.bl _)⟩
  .split at ez
   .rename_i h;cases ez;exact⟨x,d,_,false,rfl,r1,h,w _ H1 s1 (.bl _)⟩
   .cases ez
end
def aEk:Slot->Slot
 | .ow d=>.sh d
 | .nw d=>.sh d
 | .oz d=>.sh d
 | .o2 l=>.sh (.lst (l.map .lst))
 |s=>s
def shE(Y:En):En:=Y.map aEk
def stV(js:kQ)(Z:L2.St):L2.St:=js.map λ o=>o.bind λ j=>(Z[j]?).join
def stE(js:kQ)(Y:En):En:=js.map λ o=>match o with
 |none=>.no
 |some j=>(Y[j]?).getD .no
def aLA{K:zAA}(h:iG K H lab i v s):∃d,(s= .no\/aEk s= .sh d)/\(s= .no\/Rp K (λ _=>True) H v d):=by
 cases s with
 |no=>exact⟨.non,.inl rfl,.inl rfl⟩
 |sh d=>exact⟨d,.inr rfl,.inr (Rp.wk (λ _ _ _ _=>trivial) h)⟩
 |nw d=>exact⟨d,.inr rfl,.inr (Rp.wk (λ _ _ _ _=>trivial) h)⟩
 |ow d=>exact⟨d,.inr rfl,.inr (Rp.wk (λ _ _ _ _=>trivial) h.1)⟩
 |oz d=>exact⟨d,.inr rfl,.inr (Rp.wk (λ _ _ _ _=>trivial) (aMu h))⟩
 |o2 l=>exact⟨_,.inr rfl,.inr (Rp.wk (λ _ _ _ _=>trivial) (aGZ h))⟩
theorem RR.shE{K:zAA}(R:RR K G U Y Z H lab):RR K G U (shE Y) Z H (λ _=>(0,0)):=by
 refine⟨by unfold VL.shE;rw[zAF];exact R.len,λ i s e=>?_,R.old,λ p hp=>absurd rfl hp,λ q hq=>(R.tm q hq).wk λ _ _ _ _=>zAk _⟩;unfold VL.shE at e;rw[zAR]at e;cases e0:Y[i]? with
 |none=>rw[e0]at e;cases e
 |some s0=>
  rw[e0]at e;cases e;rcases R.sl i s0 e0 with rfl|⟨v,ev,hv⟩
  .exact .inl rfl
  .obtain⟨d,h1,h2⟩:=aLA hv
   rcases h1 with rfl|h1
   .exact .inl rfl
   .rcases h2 with rfl|h2
    .exact .inl rfl
    .exact .inr ⟨v,ev,by rw[h1];exact h2.wk λ _ _ _ _=>zAk _⟩
def aIL{i:Nat}(e:(stE js Y)[i]? =some s):s= .no\/∃j,js[i]? =some (some j)/\Y[j]? =some s:=by
 unfold stE at e;rw[zAR]at e;cases ej:js[i]? with
 |none=>rw[ej]at e;cases e
 |some o=>
  rw[ej]at e;cases o with
  |none=>cases e;exact .inl rfl
  |some j=>
   cases er:Y[j]? with
   |none=>simp[er]at e;exact .inl e.symm
   |some s'=>simp[er]at e;subst e;exact .inr ⟨j,rfl,er⟩
def RR.block{K:zAA}{U:List (V×D)}(R:RR K G U (VL.shE Y) Z H lab)(hz:∀p,(lab p).1<=1)(hl:H l=none):
  RR K G U (stE js (VL.shE Y)) (stV js Z) H (λ p=>if p=l then(2,0)else(0,0)):=by
 have nl:∀p o,H p=some o->p≠l:=λ p o e z=>by subst z;rw[hl]at e;cases e
 refine⟨by unfold stE stV;rw[zAF,zAF],λ i s e=>?_,R.old,λ p hp=>?_,λ q hq=>(R.tm q hq).wk λ p o e _=>by rw[if_neg (nl p o e)];exact zAk _⟩
 .rcases aIL e with rfl|⟨j,ej,es⟩
  .exact .inl rfl
  .rcases R.sl j s es with rfl|⟨v,ev,hv⟩
   .exact .inl rfl
   .refine .inr ⟨v,?_,?_⟩
    .unfold stV
     rw[zAR,ej];simp[ev]
    .unfold VL.shE at es
     rw[zAR]at es;cases e0:Y[j]? with
     |none=>rw[e0]at es;cases es
     |some s0=>
      rw[e0]at es;cases es;cases s0 with
      |no=>trivial
      |oz d=>exact Rp.wk (λ p o e _=>by show(if p=l then((2,0):Nat×Nat)else(0,0)).1<=1;rw[if_neg (nl p o e)];exact zAk _) hv
      |nw d=>exact Rp.wk (λ p o e _=>by show(if p=l then((2,0):Nat×Nat)else(0,0)).1<=1;rw[if_neg (nl p o e)];exact zAk _) hv
      |sh d=>exact Rp.wk (λ p o e _=>by show(if p=l then((2,0):Nat×Nat)else(0,0)).1<=1;rw[if_neg (nl p o e)];exact zAk _) hv
      |ow d=>exact Rp.wk (λ p o e _=>by show(if p=l then((2,0):Nat×Nat)else(0,0)).1<=1;rw[if_neg (nl p o e)];exact zAk _) hv
      |o2 d=>exact Rp.wk (λ p o e _=>by show(if p=l then((2,0):Nat×Nat)else(0,0)).1<=1;rw[if_neg (nl p o e)];exact zAk _) hv
 .by_cases hp':p=l
  .subst hp';exact R.old.free hl
  .exact absurd (show(if p=l then((2,0):Nat×Nat)else(0,0)).1=0 by rw[if_neg hp']) hp
def aQ5(XN N:List Str)(js:kQ)(ks:List Nat)(sc:Scope):Bool:=(zAh js.length).all λ i=>match js[i]? with
 |some (some j)=>match N[i]?,XN[j]? with
  |some x,some y=>x==y&&sc.names.lookup x==some .free&& !ks.contains i
  |_,_=>false
 |_=>true
def aFn(h1:sc.kind= .function)(h2:(sc.names.all λ y=>y.2 != .cell||sc.names.lookup y.1==some .cell)=true)(h3:(sc.names.all λ y=>y.2 != .local||sc.names.lookup y.1==some .local)=true)
  (h4:(sc.names.all λ y=>y.2 != .free||(X.env.kindOf y.1==some .cell||X.env.kindOf y.1==some .free))=true)(h5:js.length=N.length)(h6:aQ5 X.N N js ks sc=true):iQ X sc N (stV js) ks:=by
 refine⟨h1,λ y hy e=>?_,λ y hy e=>?_,λ y hy e=>?_,λ Z=>by unfold stV;rw[zAF];exact h5,λ Z i x v e1 e2=>?_⟩
 .have:=zA9.mp h2 y hy
  rw[e]at this;simpa using this
 .have:=zA9.mp h3 y hy
  rw[e]at this;simpa using this
 .have:=zA9.mp h4 y hy
  rw[e]at this;simpa using this
 .unfold stV at e2
  rw[zAR]at e2;cases ej:js[i]? with
  |none=>rw[ej]at e2;cases e2
  |some o=>
   rw[ej]at e2;cases o with
   |none=>cases e2
   |some j=>
    have hi:i<js.length:=(zAK.mp ej).1
    have:=zA9.mp h6 i (zBC.mpr hi)
    rw[ej,e1]at this;dsimp only at this;cases ey:X.N[j]? with
    |none=>rw[ey]at this;cases this
    |some y=>
     rw[ey]at this;simp only[zAN,beq_iff_eq,zDo]at this;obtain⟨⟨h,h'⟩,h''⟩:=this;subst h;refine⟨h',λ hk=>?_,j,ey,?_⟩
     .rw[List.contains_iff_mem.mpr hk]at h'';cases h''
     .simp only[zCr,zHB,Option.some.injEq]at e2
      cases es:Z[j]? with
      |none=>rw[es]at e2;cases e2
      |some w=>rw[es]at e2;simp at e2;subst e2;rfl
abbrev Ct.blk(C:Ct)(sc:Scope)(N:List Str):Ct where
 ι:=C.ι×Addr×List Addr×zAD×Hp
 X:=λ i=>(C.X i.1).block sc i.2.1 N i.2.2.1 i.2.2.2.1 i.2.2.2.2
 prog:=C.prog
 w:=C.w
 K:=C.K
 mg:=C.mg
 base:=C.base
 k:=C.k
 G:={C.G with E:=λ _ _ _=>False}
 cx:=λ i=>C.cx i.1
 calm:=λ i=>C.calm i.1
 room:=λ i=>C.room i.1
 own:=λ i=>PassesOwn.never
 pass:=λ i kX Z H s e s' I h=>by obtain⟨_,_,_,_,_,_,_,_,_,_,_,_,_,hE⟩:=h;exact hE
 dOk:=false
 dcx:=λ h=>absurd h zAM
def lcL(Y:En)(fg:D->En->Rs En)(ft:En->Rs Bool)(fe:En->Rs D):List D->Rs (List D)
 |[]=>.ok []
 |d::ds=>(fg d Y).bd λ Y1=>(ft Y1).bd λ k=>if k=true then(fe Y1).bd λ y=>(lcL Y fg ft fe ds).bd λ ys=>.ok (y::ys)else lcL Y fg ft fe ds
def lcD(fi:En->Rs (List D))(js:kQ)(fg:D->En->Rs En)(ft:En->Rs Bool)(fe:En->Rs D):En->Rs D:=λ Y=>(fi (shE Y)).bd λ ds=>
 if ds.length<zAU then(match lcL (stE js (shE Y)) fg ft fe ds with
  | .ok l=>.ok (.lst l)
  |_=>.st)else .st
def aK2(C:Ct)(ifs:List Expr)(f:En->Rs Bool):Prop:=∃t,(∀i,aEa (C.X i) ifs t)/\aHq C.K C.G t f
def cj:En->Rs Bool:=λ _=>.ok true
def iW:aK2 C [] cj:=⟨_,λ _=>aNl,λ U Z H Y lab Q R W=>W H (aX.refl H)⟩
def aNX(h:ST C c f):aK2 C [c] f:=let⟨t,h1,h2⟩:=h;⟨t,λ i=>aNk (h1 i),h2⟩
def aEF(h:lcL Y fg ft fe (d::ds)= .ok l):
  ∃Y1 k,fg d Y= .ok Y1/\ft Y1= .ok k/\((k=true/\∃y ys,fe Y1= .ok y/\lcL Y fg ft fe ds= .ok ys/\l=y::ys)\/(k=false/\lcL Y fg ft fe ds= .ok l)):=by
 unfold lcL at h;obtain⟨Y1,e1,h⟩:=fB h;obtain⟨k,e2,h⟩:=fB h;refine⟨Y1,k,e1,e2,?_⟩;cases k with
 |true=>
  rw[if_pos rfl]at h;obtain⟨y,e3,h⟩:=fB h;obtain⟨ys,e4,h⟩:=fB h;cases h;exact .inl ⟨rfl,y,ys,e3,e4,rfl⟩
 |false=>
  rw[if_neg zAM]at h;exact .inr ⟨rfl,h⟩
def RR.but_blk{K:zAA}{U:List (V×D)}(R:RR K G U (stE js (VL.shE Y)) Z H (λ p=>if p=l then(2,0)else(0,0)))(B:oA l H H')(hl:H l=some o)(ho:mR o=true)(h0:G.H0 l=none):
  RR K G U (stE js (VL.shE Y)) Z H' (λ p=>if p=l then(2,0)else(0,0)):=by
 have cS:¬((λ p=>if p=l then((2,0):Nat×Nat)else(0,0)) l).1<=1:=by simp
 refine⟨R.len,λ j s e=>?_,λ b o hb=>?_,R.new,λ q hq=>(R.tm q hq).but B hl ho cS⟩
 .rcases R.sl j s e with z|⟨u,e1,e2⟩
  .exact .inl z
  .refine .inr ⟨u,e1,?_⟩
   rcases aIL e with rfl|⟨jx,ej,es⟩
   .trivial
   .unfold VL.shE at es
    rw[zAR]at es;cases e0:Y[jx]? with
    |none=>rw[e0]at es;cases es
    |some s0=>rw[e0]at es;cases es;cases s0<;>first|trivial|exact Rp.but B hl ho cS e2
 .exact B b o (λ z=>by subst z;rw[h0]at hb;cases hb) (R.old b o hb)
def RR.blk0{K:zAA}(R:RR K G U (VL.shE Y) Z H lab)(hG:G'.H0=G.H0):RR K G' U (VL.shE Y) Z H (λ _=>(0,0)):=by
 refine⟨R.len,λ i s e=>?_,by rw[hG];exact R.old,λ p hp=>absurd rfl hp,λ q hq=>(R.tm q hq).wk λ _ _ _ _=>zAk _⟩;rcases R.sl i s e with rfl|⟨v,ev,hv⟩
 .exact .inl rfl
 .unfold VL.shE at e
  rw[zAR]at e;cases e0:Y[i]? with
  |none=>rw[e0]at e;cases e
  |some s0=>rw[e0]at e;cases e;cases s0<;>first|exact .inl rfl|exact .inr ⟨v,ev,Rp.wk (λ _ _ _ _=>zAk _) hv⟩
section
variable{K:zAA}{G:Gx}{wi:TI}{fi:En->Rs (List D)}{js:kQ}{g:TG}{fg:D->En->Rs En}{tt:TT}{ft:En->Rs Bool}{te:TE}{fe:En->Rs D}
def aIR(hi:aPA K G wi fi)(hg:aPB K {G with E:=λ _ _ _=>False} g fg)(ht:aHq K {G with E:=λ _ _ _=>False} tt ft)(he:kY K {G with E:=λ _ _ _=>False} (some []) te fe):
  kY K G (some []) (tLC wi (stV js) g tt te) (lcD fi js fg ft fe):=by
 intro U Z H Y lab Q R W;refine hi U Z H _ _ _ R.shE (W.bd.imp λ ds _ w J H1 lab1 U1 s1 _ R1 jl=>?_);intro l hl;obtain⟨kK,out,qV,w⟩:ds.length<zAU/\∃out,lcL (stE js (VL.shE Y)) fg ft fe ds= .ok out/\QE K (some []) lab H Q (.lst out):=by
  by_cases kK:ds.length<zAU
  .rw[if_pos kK]at w
   cases qV:lcL (stE js (VL.shE Y)) fg ft fe ds with
   |ok out=>rw[qV]at w;exact⟨kK,out,rfl,w⟩
   |ex c=>rw[qV]at w;exact zAJ w
   |st=>rw[qV]at w;exact zAJ w
  .rw[if_neg kK]at w
   exact zAJ w
 have R0:RR K {G with E:=λ _ _ _=>False} (U1++U) (VL.shE Y) Z H1 (λ _=>(0,0)):=R1.blk0 rfl;have RB:=R0.block (js:=js) (λ _=>zAk _) hl;have hHl:H l=none:=s1.free hl;have cS:¬((λ p=>if p=l then((2,0):Nat×Nat)else(0,0)) l).1<=1:=by simp
 refine⟨λ i n acc H2=>∃pre,n=ds.length-i/\i<=ds.length/\H2 l=some (.lst acc)/\RR K {G with E:=λ _ _ _=>False} (U1++U) (stE js (VL.shE Y)) (stV js Z) H2 (λ p=>if p=l then(2,0)else(0,0))/\aX H H2/\acc.length<=i/\
  Rps K (λ p=>H p=none/\p≠l) H2 acc pre/\∃post,lcL (stE js (VL.shE Y)) fg ft fe (ds.drop i)= .ok post/\out=pre++post,⟨ds.length,[],by lia,by lia,bN,RB.up (cu hl _),s1.trans (cu hl _),zAQ _,.nil,out,qV,rfl⟩,?_⟩
 rintro i n acc H2 ⟨pre,rfl,hi,hH2,R2,s2,aE,rpre,post,hpost,eout⟩;refine⟨hH2,by lia,?_⟩;have jj:=jl _ H2 λ q hq=>R2.tm q (zAr _ hq)
 by_cases hlt:i<ds.length
 .obtain⟨go,yl⟩:=(jj i).2 hlt
  refine .inr ⟨go,λ x H3 hy=>?_⟩;obtain⟨s3,d,ed,rx⟩:=yl x H3 hy;replace R2:=R2.up s3;replace hH2:=s3 _ _ hH2;replace s2:=s2.trans s3;replace rpre:=rpre.up s3;have ed2:ds.drop i=d::ds.drop (i+1):=by
   rw[zDg hlt]
   have:=zAB hlt
   rw[ed]at this;cases this;rfl
  rw[ed2]at hpost;obtain⟨Y1,k,e1,e2,e3⟩:=aEF hpost;refine hg (U1++U) x d _ H3 _ _ _ Y1 R2 rx e1 λ Z4 R4=>?_
  refine ht (U1++U) Z4 H3 Y1 _ _ R4 ?_;rw[e2];intro H5 s5;rcases e3 with ⟨rfl,y,ys,e3,e4,rfl⟩|⟨rfl,e4⟩
  .rw[if_pos rfl]
   refine he (U1++U) Z4 H5 Y1 _ _ (R4.up s5) ?_;rw[e3];intro v H6 s6 r6;have hl6:H6 l=some (.lst acc):=s6 _ _ (s5 _ _ hH2);have B:oA l H6 (upd H6 l (.lst (acc++[v]))):=λ b o ne hb=>by rw[aj ne];exact hb
   refine⟨hl6,ds.length-(i+1),by lia,pre++[y],rfl,hlt,bN,?_,?_,by rw[zAp];simp;lia,?_,ys,e4,by rw[eout];simp⟩
   .exact(R2.up (s5.trans s6)).but_blk B hl6 rfl (R1.old.free hl)
   .exact λ b o hb=>B b o (λ z=>by subst z;rw[hHl]at hb;cases hb) (((s2.trans s5).trans s6) b o hb)
   .refine((rpre.up (s5.trans s6)).append (.cons (r6.wk λ p o _ z=>?_) .nil)).but B hl6 rfl λ z=>z.2 rfl
    rcases z with z|z
    .exact⟨(s2.trans s5).free z,λ e=>by subst e;rw[s5 _ _ hH2]at z;cases z⟩
    .cases z
  .rw[if_neg zAM]
   exact⟨ds.length-(i+1),by lia,pre,rfl,hlt,s5 _ _ hH2,R2.up s5,s2.trans s5,by lia,rpre.up s5,post,e4,eout⟩
 .have ei:i=ds.length:=by lia
  subst ei;rw[zFE]at hpost;cases hpost;rw[zAw]at eout;subst eout;exact .inl ⟨(jj _).1 (zAQ _),w _ H2 s2 (.lst hH2 (.inl hHl) (rpre.wk λ p o _ z=>⟨.inl z.1,z.2⟩))⟩
end
section
variable{C:Ct}{pos:Pos}{elt tg iter:Expr}{ifs:List Expr}{sc:Scope}{N:List Str}{js:kQ}{ks:List Nat}{fi:En->Rs (List D)}{fg:D->En->Rs En}{ft:En->Rs Bool}{fe:En->Rs D}
def cL{C:Ct}(nd:N.Nodup:=by decide+kernel)(hk:i∈ks:=by decide)(hN:∀j,((C.blk sc N).X j).N[i]? =some x:=by intro _;rfl)(hx:∀j,Loc ((C.blk sc N).X j).env.scope x:=by intro _;first|exact zC7 rfl|exact zBj rfl)
  (hf:∀j,((C.blk sc N).X j).fn x=true\/((C.blk sc N).X j).env.scope.names.lookup x=some .local:=by intro _;first|exact .inl rfl|exact .inr rfl):SG (C.blk sc N) (.Name x pos) ks (gnm i):=
 gY hN hx hf (λ _=>nd) hk
def qP(hi:SI C tg iter fi)(hg:SG (C.blk sc N) tg ks fg)(ht:aK2 (C.blk sc N) ifs ft)(he:SE (C.blk sc N) (some []) elt fe)(hs:∀i x,zBs iter (C.X i).env x=pure x:=by intro _ _;rfl)(hB:∀i,iQ (C.X i) sc N (stV js) ks:=by intro _;exact aFn rfl rfl rfl rfl rfl rfl):SE C (some []) (.ListComp elt [⟨tg,iter,ifs,0⟩] sc pos) (lcD fi js fg ft fe):=by
 obtain⟨wi,i1,i2⟩:=hi;obtain⟨g,g1,g2,g3,g4⟩:=hg;obtain⟨tt,t1,t2⟩:=ht;obtain⟨te,e1,e2⟩:=he;exact⟨_,λ i=>aPi (hB i) (C.calm i) (i1 i) (λ c fp z5 z0=>g1 (i,c,fp,z5,z0)) g3 (λ c fp z5 z0=>t1 (i,c,fp,z5,z0)) (λ c fp z5 z0=>e1 (i,c,fp,z5,z0)) (hs i),aIR i2 g2 t2 e2⟩
def aIH(hi:SI C tg iter fi)(hg:SG (C.blk sc N) tg ks fg)(ht:aK2 (C.blk sc N) ifs ft)(he:SE (C.blk sc N) (some []) elt fe)(hN:∀j,(C.X j).N[i]? =some x:=by intro _;rfl)(hx:∀j,Loc (C.X j).env.scope x:=by intro _;first|exact zC7 rfl|exact zBj rfl)(hsw:∀j,zD2 (.ListComp elt [⟨tg,iter,ifs,0⟩] sc pos) (some (.Name x pos')) spos.line (C.X j).env=pure true:=by intro _;rfl)(hs:∀i x,zBs iter (C.X i).env x=pure x:=by intro _ _;rfl)(hf:∀j,(C.X j).fn x=true\/(C.X j).env.scope.names.lookup x=some .local:=by intro _;first|exact .inl rfl|exact .inr rfl)(nd:∀j,(C.X j).N.Nodup:=by intro _;assumption)(hB:∀i,iQ (C.X i) sc N (stV js) ks:=by intro _;exact aFn rfl rfl rfl rfl rfl rfl):
  SV C i (.Assign [.Name x pos'] (.ListComp elt [⟨tg,iter,ifs,0⟩] sc pos) spos) (some []) (lcD fi js fg ft fe):=by
 obtain⟨wi,i1,i2⟩:=hi;obtain⟨g,g1,g2,g3,g4⟩:=hg;obtain⟨tt,t1,t2⟩:=ht;obtain⟨te,e1,e2⟩:=he;exact⟨_,λ j=>aIk (nd j) (hN j) (hx j) (hB j) (C.calm j) (i1 j) (λ c fp z5 z0=>g1 (j,c,fp,z5,z0)) g3 (λ c fp z5 z0=>t1 (j,c,fp,z5,z0)) (λ c fp z5 z0=>e1 (j,c,fp,z5,z0)) (hsw j) (hs j) (hf j),aIR i2 g2 t2 e2⟩
end
def RR.mut{K:zAA}(R:RR K G U Y Z H lab)(ev:Z[i]? =some (some v))(hl:H l=some o)(ho:mR o=true)(hlab:(lab l).1=i+2)
  (B:oA l H H')(h':iG K H' lab i v s'):RR K G U (Y.set i s') Z H' lab:=by
 refine⟨by rw[zAz];exact R.len,λ j x e=>?_,λ b u hb=>B b u (λ z=>?_) (R.old b u hb),R.new,λ q hq=>(R.tm q hq).but B hl ho λ z=>by lia⟩
 .by_cases hj:i=j
  .subst hj
   have hi:i<Y.length:=by
    have:=(zAK.mp e).1
    rwa [zAz]at this
   rw[zBo hi]at e;cases e;exact .inr ⟨v,ev,h'⟩
  .rw[zBh hj]at e
   rcases R.sl j x e with z|⟨u,e1,e2⟩
   .exact .inl z
   .refine .inr ⟨u,e1,?_⟩
    cases x with
    |no=>trivial
    |sh d=>exact Rp.but B hl ho (λ z=>by lia) e2
    |nw d=>exact Rp.but B hl ho (λ z=>by lia) e2
    |ow d=>exact⟨Rp.but B hl ho (λ z=>by lia) e2.1,e2.2⟩
    |oz d=>
     obtain⟨a,xs,ds,q1,q2,q3,q4,q5⟩:=e2;exact⟨a,xs,ds,q1,q2,B a _ (λ z=>by subst z;exact hj (by lia)) q3,q4,Rps.but B hl ho (λ z=>by lia) q5⟩
    |o2 ll=>
     obtain⟨a,xs,q1,q2,q3,q4,q5⟩:=e2;refine⟨a,xs,q1,B a _ (λ z=>?_) q2,q3,q4,λ jj y ds f1 f2=>(q5 jj y ds f1 f2).but B hl ho λ z=>?_⟩
     .rw[z]at q3;rw[q3]at hlab;exact hj (by simpa using hlab.symm)
     .rw[z]at hlab;exact hj (by simpa using hlab.symm)
 .subst z
  have:=R.new b (by rw[hlab];lia)
  rw[this]at hb;cases hb
section
variable{C:Ct}{pos apos cpos p:Pos}{e:Expr}{fe:En->Rs D}{i:Nat}{x:Str}{m:Mode}
def yt(i:Nat)(fe:En->Rs D):En->Ou:=λ Y=>match Y[i]? with
 |some (.ow (.lst ds))=>(fe Y).bo λ d=>if ds.length<zAU then .nx (Y.set i (.ow (.lst (ds++[d]))))else .st
 |_=>.st
def oF(i:Nat)(he:SE C m e fe)(hm:okN m=true:=by rfl)(hN:∀j,(C.X j).N[i]? =some x:=by intro _;rfl)(hv:∀j,Vis (C.X j).env.scope x:=by intro _;first|exact zC7 rfl|exact zBj (zC7 rfl)|exact zBj (zBj rfl))(hd:Nd x:=by decide)
  (hcd:(x==("__classdict__":Str))=false:=by decide)(hs1:∀j,zAV [e] (C.X j).env=[(false,eval e (C.X j).env)]:=by intro _;rfl)
  (hbase:∀j,zCl (.Name x p) "append" (C.X j).env (eval (.Name x p) (C.X j).env)=eval (.Name x p) (C.X j).env:=by intro _;rfl)
  (hfew:∀j,((zBw cpos (zAV [e] (C.X j).env)).all (λ x=>!x.1)&&(zDy cpos (zCd [] (C.X j).env)).all (λ x=>x.1.isSome)&&decide ([e].length+([]:List zBv).length+(if ([]:List zBv).isEmpty then 0 else 1)<30))=true:=by intro _;rfl)
  (hline:(apos.endLine==cpos.line)=true:=by rfl)
  (hsw:∀j,zD2 (.Call (.Attribute (.Name x p) "append" apos) [e] [] cpos) none pos.line (C.X j).env=pure false:=by intro _;rfl):
  SS C (.Expr (.Call (.Attribute (.Name x p) "append" apos) [e] [] cpos) pos) (yt i fe):=by
 obtain⟨t,h1,h2⟩:=he;refine⟨aBX (tBM C.K "list" aDi (pB i) (kE t uw)),λ j=>vH (by rw[<-C.hK j];exact xq zBf zGX PySem.F.type_list_append aFT (ie (hN j) (hv j) hd hcd) (az (h1 j) fH (hs1 j)) (hbase j) (hfew j) hline (hs1 j) rfl) (hsw j),λ U Z H Y lab De R W=>?_⟩;unfold yt at W;cases es:Y[i]? with
 |none=>rw[es]at W;exact zAJ W
 |some s=>
  rw[es]at W;split at W
  .rename_i ds hs
   cases hs;rcases R.sl i _ es with z|⟨v,ev,hv'⟩
   .cases z
   .obtain⟨hv1,htop⟩:=hv'
    obtain⟨a0,ea0,la0⟩:=htop rfl;subst ea0;cases hv1 with
    |lst h mm r=>
     rename_i xs;refine⟨.ref a0,ev,.inl ⟨rfl,xs,SqL.of h⟩,h2 U Z H Y lab _ R (W.bo.imp λ d _ w y H2 s2 r2=>?_)⟩;by_cases hz:ds.length<zAU
     .rw[if_pos hz]at w
      refine⟨a0,xs,y,rfl,rfl,s2 _ _ h,by rw[r.length];exact hz,λ H3 B h3=>?_⟩;obtain⟨R',r'⟩:=R.fresh (P:=λ k=>k=1) rfl (λ k hk=>beq_iff_eq.mp (pW hm k hk)) s2 r2;have la:(eX H 1 lab a0).1=i+2:=by rw[cM h];exact la0
      refine w Z H3 _ (R'.mut ev (s2 _ _ h) rfl la B ⟨.lst h3 (.inr la) ?_,λ _=>⟨a0,rfl,la⟩⟩);have ra:Rps C.K (λ p=>((eX H 1 lab p).1=1\/(eX H 1 lab p).1=i+2)/\p≠a0) H2 (xs++[y]) (ds++[d]):=by
       refine(r.mono s2 λ p o e z=>⟨by rw[cM e];exact z.1,z.2⟩).append (.cons (r'.wk λ p o e z=>⟨.inl z,λ q=>?_⟩) .nil);subst q;rw[la]at z;lia
      exact ra.but B (s2 _ _ h) rfl λ z=>z.2 rfl
     .rw[if_neg hz]at w
      exact zAJ w
  .exact zAJ W
end
mutual
def eqD:D->D->Bool
 | .non,.non=>true
 | .bl a,.bl b=>a==b
 | .bl a,.int b=>(if a then 1 else 0)==b
 | .int a,.bl b=>a==(if b then 1 else 0)
 | .int a,.int b=>a==b
 | .str a,.str b=>a==b
 | .tup l,.tup m=>yp l m
 | .lst l,.lst m=>yp l m
 |_,_=>false
def yp:List D->List D->Bool
 |[],[]=>true
 |x::xs,y::ys=>eqD x y&&yp xs ys
 |_,_=>false
end
mutual
def oY:D->Nat
 | .tup l=>di l+1
 | .lst l=>di l+1
 |_=>0
def di:List D->Nat
 |[]=>0
 |d::r=>max (oY d) (di r)
end
mutual
def bO:D->Bool
 | .tup l=>bQ l
 | .lst l=>bQ l
 | .dct _ _=>false
 | .set _=>false
 | .scr _=>false
 | .fn _=>false
 | .itm _ _=>false
 |_=>true
def bQ:List D->Bool
 |[]=>true
 |d::r=>bO d&&bQ r
end
mutual
theorem vh:∀d:D,bO d=true->eqD d d=true
 | .non,_=>by simp[eqD]
 | .bl b,_=>by simp[eqD]
 | .int i,_=>by simp[eqD]
 | .str x,_=>by simp[eqD]
 | .tup l,h=>by exact xO l (by simpa[bO]using h)
 | .lst l,h=>by exact xO l (by simpa[bO]using h)
 | .dct _ _,h=>by simp[bO]at h
 | .set _,h=>by simp[bO]at h
 | .scr _,h=>by simp[bO]at h
theorem xO:∀l:List D,bQ l=true->yp l l=true
 |[],_=>by simp[yp]
 |d::r,h=>by
  simp only[bQ,zAN]at h;simp only[yp,zAN];exact⟨vh d h.1,xO r h.2⟩
end
structure o7(K:zAA)(H:Hp)(s:zAD):Prop where
 tup:∀{a:Addr} {xs:List V},SqT K H a xs->∃its:List Value,Vals xs its/\s.heap.IsTuple a its.toArray
 lst:∀{a:Addr} {xs:List V},H a=some (.lst xs)->∃its:List Value,Vals xs its/\s.heap.IsList a its.toArray
 inj:∀{a:Addr} {xs ys:List V},SqT K H a xs->SqT K H a ys->xs=ys
 ne:∀{a:Addr} {xs ys:List V},SqT K H a xs->H a=some (.lst ys)->False
def Inv.seqOk(I:L2.Inv X kX Z H s):o7 X.K H s where
 tup:=λ h=>let⟨its,r,p,_⟩:=I.tuple h;⟨its,r,p⟩
 lst:=λ h=>let⟨its,r,p,_⟩:=I.list (SqL.of h);⟨its,r,p.isList⟩
 inj:=λ h h'=>I.tuple_inj h h'
 ne:=λ h h'=>by
  obtain⟨its,_,⟨o,e,c,_⟩,_⟩:=I.tuple h;obtain⟨its2,_,⟨o2,n2,e2,c2,_⟩,_⟩:=I.list (SqL.of h');rw[e]at e2;cases e2;rw[c]at c2;injection c2 with c3
  exact absurd c3 (by decide)
section
variable{K:zAA}{H:Hp}{s:zAD}
def ndP:D->Prop
 | .dct _ _=>False
 | .set _=>False
 | .scr _=>False
 | .fn _=>False
 | .itm _ _=>False
 |_=>True
def ndx{d:D}(h:bO d=true):ndP d:=by cases d<;>first|exact zDE|(simp[bO]at h)
def cA(h:bO (.dct a b)=true):False:=by simp[bO]at h
def gf(h:bO (.set a)=true):False:=by simp[bO]at h
def gh(h:bO (.scr a)=true):False:=by simp[bO]at h
def jR(h:bO (.fn a)=true):False:=by simp[bO]at h
def gj(h:bO (.itm o a)=true):False:=by simp[bO]at h
def lM(h:bO (.tup a)=true):bQ a=true:=by simpa[bO]using h
def lN(h:bO (.lst a)=true):bQ a=true:=by simpa[bO]using h
def nD(h:bQ (d::a)=true):bO d=true/\bQ a=true:=by
 simp only[bQ,zAN]at h;exact h
def aMb(K:zAA)(s:zAD)(H:Hp)(x:V)(d:D):Prop:=o7 K H s->∀(A':Addr->Prop) (e:D),Rp K A' H x e->bO d=true->bO e=true->d=e
def aEc(K:zAA)(s:zAD)(H:Hp)(xs:List V)(ds:List D):Prop:=o7 K H s->∀(A':Addr->Prop) (es:List D),Rps K A' H xs es->bQ ds=true->bQ es=true->ds=es
def aLt(ha:SqT K H a xs)(ih:aEc K s H xs ds):aMb K s H (.ref a) (.tup ds):=λ ok A' e h n1 n2=>by
 cases h with
 |tup hb r'=>
  have e:=ok.inj ha hb;subst e;rw[ih ok _ _ r' (lM n1) (lM n2)]
 |lst hb _ _=>exact(ok.ne ha hb).elim
 |_=>exact zAJ (ndx n2)
def aLu(ha:H a=some (.lst xs))(ih:aEc K s H xs ds):aMb K s H (.ref a) (.lst ds):=λ ok A' e h n1 n2=>by
 cases h with
 |tup hb r'=>exact(ok.ne hb ha).elim
 |lst hb _ r'=>
  rw[ha]at hb;cases hb;rw[ih ok _ _ r' (lN n1) (lN n2)]
 |_=>exact zAJ (ndx n2)
def aJi(h1:aMb K s H x d)(h2:aEc K s H xs ds):aEc K s H (x::xs) (d::ds):=λ ok A' es h n1 n2=>by
 cases h with
 |cons k r'=>rw[h1 ok _ _ k (nD n1).1 (nD n2).1,h2 ok _ _ r' (nD n1).2 (nD n2).2]
def Rp.inj(ok:o7 K H s)(r:Rp K A H x d)(h:Rp K A' H x e)(n1:bO d=true)(n2:bO e=true):d=e:=
 Rp.rec (motive_1:=λ _ H x d _=>aMb K s H x d) (motive_2:=λ _ H xs ds _=>aEc K s H xs ds)
  (λ _ _ _ h _ _=>by cases h;rfl) (λ _ _ _ _ h _ _=>by cases h;rfl) (λ _ _ _ _ h _ _=>by cases h;rfl) (λ _ _ _ _ h _ _=>by cases h;rfl) (λ ha _ ih=>aLt ha ih) (λ ha _ _ ih=>aLu ha ih)
  (λ _ _ _ _ _ _ _ _ n1 _=>(cA n1).elim) (λ _ _ _ _ _ _ _ _ n1 _=>(cA n1).elim) (λ _ _ _ _ _ _ _ _ n1 _=>(gf n1).elim) (λ _ _ _ _ _ n1 _=>(gh n1).elim) (λ _ _ _ _ _ n1 _=>(jR n1).elim) (λ _ _ _ _ _ n1 _=>(gj n1).elim)
  (λ _ _ _ h _ _=>by cases h;rfl) (λ _ _ h1 h2=>aJi h1 h2) r ok A' e h n1 n2
end
theorem aEV:∀(l m:List D),yp l m=((zAh (min l.length m.length)).all (λ j=>match l[j]?,m[j]? with|some a,some b=>eqD a b|_,_=>true)&&l.length==m.length)
 |[],[]=>by simp[yp]
 |[],y::ys=>by simp[yp]
 |x::xs,[]=>by simp[yp]
 |x::xs,y::ys=>by
  have ih:=aEV xs ys;simp only[yp,ih,zA0,Nat.succ_min_succ,List.range_succ_eq_map,zFy,zI2,List.getElem?_cons_zero,Function.comp_def,zGA,Nat.succ_eq_add_one,Nat.add_one_inj,zFb];congr 1;congr 1;simp
theorem aBz:∀{l:List D} {d:D},d∈l->oY d<=di l
 |x::r,d,h=>by
  simp only[di];rcases zAO.mp h with rfl|h
  .exact zIA _ _
  .exact zAg (aBz h) (zHu _ _)
theorem uX:∀{l:List D} {d:D},d∈l->bQ l=true->bO d=true
 |x::r,d,h,n=>by
  simp only[bQ,zAN]at n;rcases zAO.mp h with rfl|h
  .exact n.1
  .exact uX h n.2
def mV(hn:n=ds.length)(hm:m=es.length):((zAh (min n m)).all (λ j=>match ds[j]?,es[j]? with|some a,some b=>eqD a b|_,_=>true)&&n==m)=yp ds es:=by
 subst hn hm;exact(aEV ds es).symm
section
variable{K:zAA}{H:Hp}{s:zAD}
def aK6(K:zAA)(H:Hp)(s:zAD)(n:Nat):Prop:=∀(A1 A2:Addr->Prop) (x y:V) (d e:D) (A:zA6) (u v:Value),Rp K A1 H x d->Rp K A2 H y e->RelV x u->RelV y v->oY d<=n->bO d=true->bO e=true->A.units+n<cLine->zC0 A s u v (eqD d e)
def aK7(K:zAA)(H:Hp)(s:zAD)(n:Nat):Prop:=∀(A1 A2:Addr->Prop) (xs ys:List V) (ds es:List D) (A:zA6) (us vs:List Value),Rps K A1 H xs ds->Rps K A2 H ys es->Vals xs us->Vals ys vs->di ds<=n->bQ ds=true->bQ es=true->A.units+n<cLine->
  ∀(j:Nat) (h1:j<us.toArray.size) (h2:j<vs.toArray.size),zC0 A s us.toArray[j] vs.toArray[j] (match ds[j]?,es[j]? with|some a,some b=>eqD a b|_,_=>true)
def aAk(ok:o7 K H s)(n:Nat)(IH:∀k,n=k+1->aK7 K H s k):aK6 K H s n:=by
 intro A1 A2 x y d e A u v r1 r2 ru rv hd nd ne hu;have hu0:A.units<cLine:=by lia
 cases r1 with
 |tup h1 q1=>
  rename_i a xs ds;cases ru;obtain⟨its,w1,t1⟩:=ok.tup h1;cases r2 with
  |tup h2 q2=>
   rename_i b ys es;cases rv;obtain⟨its2,w2,t2⟩:=ok.tup h2;by_cases hab:a=b
   .subst hab
    have e:=Rp.inj ok (Rp.tup h1 q1) (Rp.tup h2 q2) nd ne;rw[<-e,vh _ nd];exact zEg _
   .simp only[oY]at hd
    obtain⟨k,rfl⟩:∃k,n=k+1:=⟨n-1,by lia⟩
    have z:=zGI t1 t2 hu0 (IH k rfl _ _ _ _ _ _ _ _ _ q1 q2 w1 w2 (by lia) (lM nd) (lM ne) (by show A.units+1+k<cLine;lia));rw[mV (by rw[zAP,<-w1.length,q1.length]) (by rw[zAP,<-w2.length,q2.length])]at z;simp only[eqD];exact zEP hab z
  |lst h2 mm2 q2=>
   cases rv;obtain⟨its2,w2,t2⟩:=ok.lst h2;simp only[eqD];exact SeqAt.EqAt.tuple_list t1 t2 hu0
  |non=>cases rv;exact SeqAt.EqAt.tuple_none t1 hu0
  |bl b=>cases rv;exact SeqAt.EqAt.tuple_bool b t1 hu0
  |int i=>obtain⟨tk,rfl⟩:=rv;exact SeqAt.EqAt.tuple_int i tk t1 hu0
  |str i=>obtain⟨tk,rfl⟩:=rv;exact SeqAt.EqAt.tuple_str i tk t1 hu0
  |_=>exact zAJ (ndx ne)
 |lst h1 mm1 q1=>
  rename_i a xs ds;cases ru;obtain⟨its,w1,t1⟩:=ok.lst h1;cases r2 with
  |lst h2 mm2 q2=>
   rename_i b ys es;cases rv;obtain⟨its2,w2,t2⟩:=ok.lst h2;by_cases hab:a=b
   .subst hab
    have e:=Rp.inj ok (Rp.lst h1 mm1 q1) (Rp.lst h2 mm2 q2) nd ne;rw[<-e,vh _ nd];exact zEg _
   .simp only[oY]at hd
    obtain⟨k,rfl⟩:∃k,n=k+1:=⟨n-1,by lia⟩
    have l1:its.toArray.size=ds.length:=by rw[zAP,<-w1.length,q1.length]
    have l2:its2.toArray.size=es.length:=by rw[zAP,<-w2.length,q2.length]
    by_cases hl:its.toArray.size=its2.toArray.size
    .have z:=zGO t1 t2 hl hu0 (IH k rfl _ _ _ _ _ _ _ _ _ q1 q2 w1 w2 (by lia) (lN nd) (lN ne) (by show A.units+1+k<cLine;lia))
     have z':=mV (ds:=ds) (es:=es) l1 l2;rw[<-hl,zFH,beq_self_eq_true,zDV]at z';rw[z']at z;simp only[eqD];exact zEP hab z
    .have z:=zEz t1 t2 (by simpa using hl) hu0
     have z':=mV (ds:=ds) (es:=es) l1 l2;rw[beq_eq_false_iff_ne.mpr hl,zFc]at z';simp only[eqD];rw[<-z'];exact zEP hab z
  |tup h2 q2=>
   cases rv;obtain⟨its2,w2,t2⟩:=ok.tup h2;simp only[eqD];exact SeqAt.EqAt.list_tuple t1 t2 hu0
  |non=>cases rv;exact SeqAt.EqAt.list_none t1 hu0
  |bl b=>cases rv;exact SeqAt.EqAt.list_bool b t1 hu0
  |int i=>obtain⟨tk,rfl⟩:=rv;exact SeqAt.EqAt.list_int i tk t1 hu0
  |str i=>obtain⟨tk,rfl⟩:=rv;exact SeqAt.EqAt.list_str i tk t1 hu0
  |_=>exact zAJ (ndx ne)
 |non=>
  cases ru;cases r2 with
  |tup h2 q2=>cases rv;obtain⟨_,_,t2⟩:=ok.tup h2;exact SeqAt.EqAt.none_tuple t2 hu0
  |lst h2 mm2 q2=>cases rv;obtain⟨_,_,t2⟩:=ok.lst h2;exact SeqAt.EqAt.none_list t2 hu0
  |dK _ _ _=>exact(cA ne).elim
  |dT _ _ _=>exact(cA ne).elim
  |set _ _ _ _=>exact(gf ne).elim
  |scr _=>exact(gh ne).elim
  |fn _=>exact(jR ne).elim
  |itm _=>exact(gj ne).elim
  |non=>cases rv;exact zEg _
  |bl b=>cases rv;exact SeqAt.EqAt.none_bool b
  |int i=>obtain⟨tk,rfl⟩:=rv;exact SeqAt.EqAt.none_int i tk
  |str i=>obtain⟨tk,rfl⟩:=rv;exact SeqAt.EqAt.none_str i tk
 |bl a=>
  cases ru;cases r2 with
  |tup h2 q2=>cases rv;obtain⟨_,_,t2⟩:=ok.tup h2;exact SeqAt.EqAt.bool_tuple a t2 hu0
  |lst h2 mm2 q2=>cases rv;obtain⟨_,_,t2⟩:=ok.lst h2;exact SeqAt.EqAt.bool_list a t2 hu0
  |dK _ _ _=>exact(cA ne).elim
  |dT _ _ _=>exact(cA ne).elim
  |set _ _ _ _=>exact(gf ne).elim
  |scr _=>exact(gh ne).elim
  |fn _=>exact(jR ne).elim
  |itm _=>exact(gj ne).elim
  |non=>cases rv;exact SeqAt.EqAt.bool_none a
  |bl b=>cases rv;exact zF4 a b
  |int i=>obtain⟨tk,rfl⟩:=rv;exact SeqAt.EqAt.bool_int a i tk
  |str i=>obtain⟨tk,rfl⟩:=rv;exact SeqAt.EqAt.bool_str a i tk
 |int a=>
  obtain⟨tu,rfl⟩:=ru;cases r2 with
  |tup h2 q2=>cases rv;obtain⟨_,_,t2⟩:=ok.tup h2;exact SeqAt.EqAt.int_tuple a tu t2 hu0
  |lst h2 mm2 q2=>cases rv;obtain⟨_,_,t2⟩:=ok.lst h2;exact SeqAt.EqAt.int_list a tu t2 hu0
  |dK _ _ _=>exact(cA ne).elim
  |dT _ _ _=>exact(cA ne).elim
  |set _ _ _ _=>exact(gf ne).elim
  |scr _=>exact(gh ne).elim
  |fn _=>exact(jR ne).elim
  |itm _=>exact(gj ne).elim
  |non=>cases rv;exact SeqAt.EqAt.int_none a tu
  |bl b=>cases rv;exact SeqAt.EqAt.int_bool a tu b
  |int i=>obtain⟨tk,rfl⟩:=rv;exact zFm a tu i tk
  |str i=>obtain⟨tk,rfl⟩:=rv;exact zFn a tu i tk
 |str a=>
  obtain⟨tu,rfl⟩:=ru;cases r2 with
  |tup h2 q2=>cases rv;obtain⟨_,_,t2⟩:=ok.tup h2;exact SeqAt.EqAt.str_tuple a tu t2 hu0
  |lst h2 mm2 q2=>cases rv;obtain⟨_,_,t2⟩:=ok.lst h2;exact SeqAt.EqAt.str_list a tu t2 hu0
  |dK _ _ _=>exact(cA ne).elim
  |dT _ _ _=>exact(cA ne).elim
  |set _ _ _ _=>exact(gf ne).elim
  |scr _=>exact(gh ne).elim
  |fn _=>exact(jR ne).elim
  |itm _=>exact(gj ne).elim
  |non=>cases rv;exact SeqAt.EqAt.str_none a tu
  |bl b=>cases rv;exact SeqAt.EqAt.str_bool a tu b
  |int i=>obtain⟨tk,rfl⟩:=rv;exact zFo a tu i tk
  |str i=>obtain⟨tk,rfl⟩:=rv;exact zFp a tu i tk
 |_=>exact zAJ (ndx nd)
def aBu(ok:o7 K H s)(n:Nat)(IH:aK6 K H s n):aK7 K H s n:=by
 intro A1 A2 xs ys ds es A us vs q1 q2 w1 w2 hd nd ne hu j h1 h2;have hj1:j<us.length:=by simpa using h1
 have hj2:j<vs.length:=by simpa using h2
 have hx:j<xs.length:=by rw[w1.length];exact hj1
 have hy:j<ys.length:=by rw[w2.length];exact hj2
 have ex:=zAB hx;have ey:=zAB hy;obtain⟨d,ed,rd⟩:=q1.get ex;obtain⟨e,ee,re⟩:=q2.get ey;obtain⟨u,eu,ru⟩:=w1.get ex;obtain⟨v,ev,rv⟩:=w2.get ey;have e1:us.toArray[j]=u:=by
  rw[zG7];exact zAc ((zAB hj1).symm.trans eu)
 have e2:vs.toArray[j]=v:=by
  rw[zG7];exact zAc ((zAB hj2).symm.trans ev)
 rw[e1,e2,ed,ee];exact IH _ _ _ _ _ _ _ _ _ rd re ru rv (zAg (aBz (zB1 ed)) hd) (uX (zB1 ed) nd) (uX (zB1 ee) ne) hu
theorem aKF(ok:o7 K H s):∀n,aK6 K H s n
 |0=>aAk ok 0 λ k h=>absurd h (by simp)
 |n+1=>aAk ok (n+1) λ k h=>by
  have h':=zHf h;subst h';exact aBu ok n (aKF ok n)
def aOf(ok:o7 K H s):∀{A1 A2:Addr->Prop} {x y:V} {d e:D} (n:Nat) {A:zA6} {u v:Value},Rp K A1 H x d->Rp K A2 H y e->RelV x u->RelV y v->oY d<=n->bO d=true->bO e=true->A.units+n<cLine->zC0 A s u v (eqD d e)
 |_,_,_,_,_,_,n,A,u,v,r1,r2,ru,rv,hd,nd,ne,hu=>aKF ok n _ _ _ _ _ _ _ _ _ r1 r2 ru rv hd nd ne hu
def aNC(ok:o7 K H s):∀{A1 A2:Addr->Prop} {xs ys:List V} {ds es:List D} (n:Nat) {A:zA6} {us vs:List Value},Rps K A1 H xs ds->Rps K A2 H ys es->Vals xs us->Vals ys vs->di ds<=n->bQ ds=true->bQ es=true->A.units+n<cLine->
  ∀(j:Nat) (h1:j<us.toArray.size) (h2:j<vs.toArray.size),zC0 A s us.toArray[j] vs.toArray[j] (match ds[j]?,es[j]? with|some a,some b=>eqD a b|_,_=>true)
 |_,_,xs,ys,ds,es,n,A,us,vs,q1,q2,w1,w2,hd,nd,ne,hu,j,h1,h2=>aBu ok n (aKF ok n) _ _ _ _ _ _ _ _ _ q1 q2 w1 w2 hd nd ne hu j h1 h2
def aI7(ok:o7 K H s)(n:Nat)(r1:Rp K A1 H x d)(r2:Rp K A2 H y e)(ru:RelV x u)(rv:RelV y v)(hd:oY d<=n)(nd:bO d=true)(ne:bO e=true)(hu:A.units+n<cLine):
  SeqAt.RcAt A s u v (eqD d e)/\SeqAt.RcNeAt A s u v (!eqD d e):=by
 have hu0:A.units<cLine:=by lia
 cases r1 with
 |tup h1 q1=>
  rename_i a xs ds;cases ru;obtain⟨its,w1,t1⟩:=ok.tup h1;cases r2 with
  |tup h2 q2=>
   rename_i b ys es;cases rv;obtain⟨its2,w2,t2⟩:=ok.tup h2;simp only[oY]at hd;obtain⟨k,rfl⟩:∃k,n=k+1:=⟨n-1,by lia⟩
   have he:=aNC ok (A:=A.in1) k q1 q2 w1 w2 (by lia) (lM nd) (lM ne) (by show A.units+1+k<cLine;lia);have z:=zGI t1 t2 hu0 he;have z2:=SeqAt.RcNeAt.tuples t1 t2 hu0 he;rw[mV (by rw[zAP,<-w1.length,q1.length]) (by rw[zAP,<-w2.length,q2.length])]at z z2;simp only[eqD];exact⟨z,z2⟩
  |lst h2 mm2 q2=>
   cases rv;obtain⟨its2,w2,t2⟩:=ok.lst h2;simp only[eqD];exact⟨SeqAt.RcAt.tuple_list t1 t2 hu0,SeqAt.RcNeAt.tuple_list t1 t2 hu0⟩
  |non=>cases rv;exact⟨SeqAt.RcAt.tuple_none t1 hu0,SeqAt.RcNeAt.tuple_none t1 hu0⟩
  |bl b=>cases rv;exact⟨SeqAt.RcAt.tuple_bool b t1 hu0,SeqAt.RcNeAt.tuple_bool b t1 hu0⟩
  |int i=>obtain⟨tk,rfl⟩:=rv;exact⟨SeqAt.RcAt.tuple_int i tk t1 hu0,SeqAt.RcNeAt.tuple_int i tk t1 hu0⟩
  |str i=>obtain⟨tk,rfl⟩:=rv;exact⟨SeqAt.RcAt.tuple_str i tk t1 hu0,SeqAt.RcNeAt.tuple_str i tk t1 hu0⟩
  |_=>exact zAJ (ndx ne)
 |lst h1 mm1 q1=>
  rename_i a xs ds;cases ru;obtain⟨its,w1,t1⟩:=ok.lst h1;cases r2 with
  |lst h2 mm2 q2=>
   rename_i b ys es;cases rv;obtain⟨its2,w2,t2⟩:=ok.lst h2;simp only[oY]at hd;obtain⟨k,rfl⟩:∃k,n=k+1:=⟨n-1,by lia⟩
   have l1:its.toArray.size=ds.length:=by rw[zAP,<-w1.length,q1.length]
   have l2:its2.toArray.size=es.length:=by rw[zAP,<-w2.length,q2.length]
   have z':=mV (ds:=ds) (es:=es) l1 l2;by_cases hl:its.toArray.size=its2.toArray.size
   .have he:=aNC ok (A:=A.in1) k q1 q2 w1 w2 (by lia) (lN nd) (lN ne) (by show A.units+1+k<cLine;lia)
    have z:=zGO t1 t2 hl hu0 he;have z2:=SeqAt.RcNeAt.lists t1 t2 hl hu0 he;rw[<-hl,zFH,beq_self_eq_true,zDV]at z';rw[z']at z z2;simp only[eqD];exact⟨z,z2⟩
   .rw[beq_eq_false_iff_ne.mpr hl,zFc]at z'
    simp only[eqD];rw[<-z'];exact⟨zEz t1 t2 (by simpa using hl) hu0,SeqAt.RcNeAt.lists_lengths t1 t2 (by simpa using hl) hu0⟩
  |tup h2 q2=>
   cases rv;obtain⟨its2,w2,t2⟩:=ok.tup h2;simp only[eqD];exact⟨SeqAt.RcAt.list_tuple t1 t2 hu0,SeqAt.RcNeAt.list_tuple t1 t2 hu0⟩
  |non=>cases rv;exact⟨SeqAt.RcAt.list_none t1 hu0,SeqAt.RcNeAt.list_none t1 hu0⟩
  |bl b=>cases rv;exact⟨SeqAt.RcAt.list_bool b t1 hu0,SeqAt.RcNeAt.list_bool b t1 hu0⟩
  |int i=>obtain⟨tk,rfl⟩:=rv;exact⟨SeqAt.RcAt.list_int i tk t1 hu0,SeqAt.RcNeAt.list_int i tk t1 hu0⟩
  |str i=>obtain⟨tk,rfl⟩:=rv;exact⟨SeqAt.RcAt.list_str i tk t1 hu0,SeqAt.RcNeAt.list_str i tk t1 hu0⟩
  |_=>exact zAJ (ndx ne)
 |non=>
  cases ru;cases r2 with
  |tup h2 q2=>cases rv;obtain⟨_,_,t2⟩:=ok.tup h2;exact⟨SeqAt.RcAt.none_tuple t2 hu0,SeqAt.RcNeAt.none_tuple t2 hu0⟩
  |lst h2 mm2 q2=>cases rv;obtain⟨_,_,t2⟩:=ok.lst h2;exact⟨SeqAt.RcAt.none_list t2 hu0,SeqAt.RcNeAt.none_list t2 hu0⟩
  |dK _ _ _=>exact(cA ne).elim
  |dT _ _ _=>exact(cA ne).elim
  |set _ _ _ _=>exact(gf ne).elim
  |scr _=>exact(gh ne).elim
  |fn _=>exact(jR ne).elim
  |itm _=>exact(gj ne).elim
  |non=>cases rv;exact⟨SeqAt.RcAt.none_none,SeqAt.RcNeAt.none_none⟩
  |bl b=>cases rv;exact⟨SeqAt.RcAt.none_bool b,SeqAt.RcNeAt.none_bool b⟩
  |int i=>obtain⟨tk,rfl⟩:=rv;exact⟨SeqAt.RcAt.none_int i tk,SeqAt.RcNeAt.none_int i tk⟩
  |str i=>obtain⟨tk,rfl⟩:=rv;exact⟨SeqAt.RcAt.none_str i tk,SeqAt.RcNeAt.none_str i tk⟩
 |bl a=>
  cases ru;cases r2 with
  |tup h2 q2=>cases rv;obtain⟨_,_,t2⟩:=ok.tup h2;exact⟨SeqAt.RcAt.bool_tuple a t2 hu0,SeqAt.RcNeAt.bool_tuple a t2 hu0⟩
  |lst h2 mm2 q2=>cases rv;obtain⟨_,_,t2⟩:=ok.lst h2;exact⟨SeqAt.RcAt.bool_list a t2 hu0,SeqAt.RcNeAt.bool_list a t2 hu0⟩
  |dK _ _ _=>exact(cA ne).elim
  |dT _ _ _=>exact(cA ne).elim
  |set _ _ _ _=>exact(gf ne).elim
  |scr _=>exact(gh ne).elim
  |fn _=>exact(jR ne).elim
  |itm _=>exact(gj ne).elim
  |non=>cases rv;exact⟨SeqAt.RcAt.bool_none a,SeqAt.RcNeAt.bool_none a⟩
  |bl b=>cases rv;exact⟨SeqAt.RcAt.bool_bool a b,SeqAt.RcNeAt.bool_bool a b⟩
  |int i=>obtain⟨tk,rfl⟩:=rv;exact⟨SeqAt.RcAt.bool_int a i tk,SeqAt.RcNeAt.bool_int a i tk⟩
  |str i=>obtain⟨tk,rfl⟩:=rv;exact⟨SeqAt.RcAt.bool_str a i tk,SeqAt.RcNeAt.bool_str a i tk⟩
 |int a=>
  obtain⟨tu,rfl⟩:=ru;cases r2 with
  |tup h2 q2=>cases rv;obtain⟨_,_,t2⟩:=ok.tup h2;exact⟨SeqAt.RcAt.int_tuple a tu t2 hu0,SeqAt.RcNeAt.int_tuple a tu t2 hu0⟩
  |lst h2 mm2 q2=>cases rv;obtain⟨_,_,t2⟩:=ok.lst h2;exact⟨SeqAt.RcAt.int_list a tu t2 hu0,SeqAt.RcNeAt.int_list a tu t2 hu0⟩
  |dK _ _ _=>exact(cA ne).elim
  |dT _ _ _=>exact(cA ne).elim
  |set _ _ _ _=>exact(gf ne).elim
  |scr _=>exact(gh ne).elim
  |fn _=>exact(jR ne).elim
  |itm _=>exact(gj ne).elim
  |non=>cases rv;exact⟨SeqAt.RcAt.int_none a tu,SeqAt.RcNeAt.int_none a tu⟩
  |bl b=>cases rv;exact⟨SeqAt.RcAt.int_bool a tu b,SeqAt.RcNeAt.int_bool a tu b⟩
  |int i=>obtain⟨tk,rfl⟩:=rv;exact⟨SeqAt.RcAt.int_int a tu i tk,SeqAt.RcNeAt.int_int a tu i tk⟩
  |str i=>obtain⟨tk,rfl⟩:=rv;exact⟨SeqAt.RcAt.int_str a tu i tk,SeqAt.RcNeAt.int_str a tu i tk⟩
 |str a=>
  obtain⟨tu,rfl⟩:=ru;cases r2 with
  |tup h2 q2=>cases rv;obtain⟨_,_,t2⟩:=ok.tup h2;exact⟨SeqAt.RcAt.str_tuple a tu t2 hu0,SeqAt.RcNeAt.str_tuple a tu t2 hu0⟩
  |lst h2 mm2 q2=>cases rv;obtain⟨_,_,t2⟩:=ok.lst h2;exact⟨SeqAt.RcAt.str_list a tu t2 hu0,SeqAt.RcNeAt.str_list a tu t2 hu0⟩
  |dK _ _ _=>exact(cA ne).elim
  |dT _ _ _=>exact(cA ne).elim
  |set _ _ _ _=>exact(gf ne).elim
  |scr _=>exact(gh ne).elim
  |fn _=>exact(jR ne).elim
  |itm _=>exact(gj ne).elim
  |non=>cases rv;exact⟨SeqAt.RcAt.str_none a tu,SeqAt.RcNeAt.str_none a tu⟩
  |bl b=>cases rv;exact⟨SeqAt.RcAt.str_bool a tu b,SeqAt.RcNeAt.str_bool a tu b⟩
  |int i=>obtain⟨tk,rfl⟩:=rv;exact⟨SeqAt.RcAt.str_int a tu i tk,SeqAt.RcNeAt.str_int a tu i tk⟩
  |str i=>obtain⟨tk,rfl⟩:=rv;exact⟨SeqAt.RcAt.str_str a tu i tk,SeqAt.RcNeAt.str_str a tu i tk⟩
 |_=>exact zAJ (ndx nd)
end
section
variable{K:zAA}{H:Hp}{s:zAD}
open Classical in
def tE(K:zAA)(H:Hp)(d:D)(u:Value):Bool:=if h:∃e,bO e=true/\∃y,RelV y u/\Rp K (λ _=>True) H y e then eqD (choose h) d else false
def aGk(ok:o7 K H s)(r:RelV y u)(h:Rp K A H y e)(ne:bO e=true):tE K H d u=eqD e d:=by
 have hx:∃e,bO e=true/\∃y,RelV y u/\Rp K (λ _=>True) H y e:=⟨e,ne,y,r,h.wk λ _ _ _ _=>trivial⟩
 unfold tE;rw[dif_pos hx];obtain⟨n',y',r',h'⟩:=Classical.choose_spec hx;have e1:=RelV.inj r r';subst e1;rw[Rp.inj ok h' h n' ne]
def inD(d:D)(es:List D):Bool:=es.any λ e=>eqD e d
def wG(ok:o7 K H s):∀{A:Addr->Prop} {xs:List V} {es:List D} {us:List Value},Rps K A H xs es->Vals xs us->bQ es=true->us.any (tE K H d)=inD d es:=by
 intro A xs es us h v n;induction v generalizing es with
 |nil=>cases h;rfl
 |cons k t ih=>
  cases h with
  |cons h r=>
   simp only[bQ,zAN]at n;unfold inD;rw[zC5,zC5,aGk ok k h n.1,ih r n.2];rfl
def zR(ok:o7 K H s)(rx:Rp K A0 H x d)(rv:RelV x v)(hu:A.units+n<cLine)(nd:bO d=true):∀{A1:Addr->Prop} {xs:List V} {es:List D} {us:List Value},Rps K A1 H xs es->Vals xs us->di es<=n->bQ es=true->∀u∈us,zC0 A s u v (tE K H d u):=by
 intro A1 xs es us h v' hd ne u hm;induction v' generalizing es with
 |nil=>cases hm
 |cons k t ih=>
  cases h with
  |cons h r=>
   simp only[di]at hd;simp only[bQ,zAN]at ne;rcases zAO.mp hm with z|z
   .subst z
    rw[aGk ok k h ne.1];exact aOf ok n h rx k rv (zAg (zIA _ _) hd) ne.1 nd hu
   .exact ih r (zAg (zHu _ _) hd) ne.2 z
end
section
variable{X:Cx}
def aIa(K:zAA)(neg:Bool):R2:=λ x y H Q=>∃A B d e,Rp K A H x d/\Rp K B H y e/\oY d<=60/\bO d=true/\bO e=true/\Q (.bl (if neg then !eqD d e else eqD d e)) H
def aOM(hu:X.A.units+64<cLine):OpR X (zAt .Eq) (aIa X.K false):=by
 intro kX s Z H x y v u Q I rx ry h;obtain⟨A,B,d,e,r1,r2,hd,nd,ne,q⟩:=h;exact(aI7 (Inv.seqOk I) 60 r1 r2 rx ry hd nd ne (by lia)).1 X.prog X.w X.xe _ ⟨.bl (eqD d e),H,I,rfl,q⟩
def aOC(hu:X.A.units+64<cLine):OpR X (zAt .NotEq) (aIa X.K true):=by
 intro kX s Z H x y v u Q I rx ry h;obtain⟨A,B,d,e,r1,r2,hd,nd,ne,q⟩:=h;exact(aI7 (Inv.seqOk I) 60 r1 r2 rx ry hd nd ne (by lia)).2 X.prog X.w X.xe _ ⟨.bl (!eqD d e),H,I,rfl,q⟩
def aI9(K:zAA)(neg:Bool):R2:=λ x y H Q=>∃A B d a es,Rp K A H x d/\y= .ref a/\(Rp K B H (.ref a) (.lst es)\/Rp K B H (.ref a) (.tup es))/\di es<=60/\bO d=true/\bQ es=true/\Q (.bl (if neg then !inD d es else inD d es)) H
def aOL(hu:X.A.units+64<cLine):OpR X (zAt .In) (aI9 X.K false):=by
 intro kX s Z H x y v u Q I rx ry h;obtain⟨A,B,d,a,es,rd,rfl,ra,hd,nd,ne,q⟩:=h;cases ry;have ok:=Inv.seqOk I;have hu1:X.A.in1.units+60<cLine:=by show X.A.units+1+60<cLine;lia
 rcases ra with ra|ra
 .cases ra with
  |lst ha _ r=>
   obtain⟨its,rv,tl⟩:=ok.lst ha;refine SeqAt.in_listAt (tE X.K H d) tl (λ w hw=>zR ok rd rx hu1 nd r rv hd ne w (by simpa using hw)) ⟨.bl _,H,I,rfl,?_⟩;rw[show its.toArray.any (tE X.K H d)=its.any (tE X.K H d)by simp,wG ok r rv ne];exact q
 .cases ra with
  |tup ha r=>
   obtain⟨its,rv,tl⟩:=ok.tup ha;refine SeqAt.in_tupleAt (tE X.K H d) tl (λ w hw=>zR ok rd rx hu1 nd r rv hd ne w (by simpa using hw)) ⟨.bl _,H,I,rfl,?_⟩;rw[show its.toArray.any (tE X.K H d)=its.any (tE X.K H d)by simp,wG ok r rv ne];exact q
def aHR(hu:X.A.units+64<cLine):OpR X (zAt .NotIn) (aI9 X.K true):=by
 intro kX s Z H x y v u Q I rx ry h;obtain⟨A,B,d,a,es,rd,rfl,ra,hd,nd,ne,q⟩:=h;cases ry;have ok:=Inv.seqOk I;have hu1:X.A.in1.units+60<cLine:=by show X.A.units+1+60<cLine;lia
 rcases ra with ra|ra
 .cases ra with
  |lst ha _ r=>
   obtain⟨its,rv,tl⟩:=ok.lst ha;refine SeqAt.notIn_listAt (tE X.K H d) tl (λ w hw=>zR ok rd rx hu1 nd r rv hd ne w (by simpa using hw)) ⟨.bl _,H,I,rfl,?_⟩;rw[show its.toArray.any (tE X.K H d)=its.any (tE X.K H d)by simp,wG ok r rv ne];exact q
 .cases ra with
  |tup ha r=>
   obtain⟨its,rv,tl⟩:=ok.tup ha;refine SeqAt.notIn_tupleAt (tE X.K H d) tl (λ w hw=>zR ok rd rx hu1 nd r rv hd ne w (by simpa using hw)) ⟨.bl _,H,I,rfl,?_⟩;rw[show its.toArray.any (tE X.K H d)=its.any (tE X.K H d)by simp,wG ok r rv ne];exact q
end
section
variable{K:zAA}
def eqR(neg:Bool):D->D->Rs D:=λ d e=>if decide (oY d<=60)&&bO d&&bO e then .ok (.bl (if neg then !eqD d e else eqD d e))else .st
def inR(neg:Bool):D->D->Rs D:=λ d e=>match e with
 | .lst es=>if decide (di es<=60)&&bO d&&bQ es then .ok (.bl (if neg then !inD d es else inD d es))else .st
 | .tup es=>if decide (di es<=60)&&bO d&&bQ es then .ok (.bl (if neg then !inD d es else inD d es))else .st
 |_=>.st
def os_eq:OpS K (aIa K n) (eqR n):=by
 intro A x y d e H Q z rx ry ez q;unfold eqR at ez;split at ez
 .rename_i h
  simp only[zAN,decide_eq_true_eq]at h;cases ez;exact⟨A,A,d,e,rx,ry,h.1.1,h.1.2,h.2,q _ H (aX.refl H) (.bl _)⟩
 .cases ez
def aMw:OpS K (aI9 K n) (inR n):=by
 intro A x y d e H Q z rx ry ez q;unfold inR at ez;split at ez
 .split at ez
  .rename_i h
   simp only[zAN,decide_eq_true_eq]at h;cases ez;cases ry with
   |lst ha mm r=>exact⟨A,A,d,_,_,rx,rfl,.inl (.lst ha mm r),h.1.1,h.1.2,h.2,q _ H (aX.refl H) (.bl _)⟩
  .cases ez
 .split at ez
  .rename_i h
   simp only[zAN,decide_eq_true_eq]at h;cases ez;cases ry with
   |tup ha r=>exact⟨A,A,d,_,_,rx,rfl,.inr (.tup ha r),h.1.1,h.1.2,h.2,q _ H (aX.refl H) (.bl _)⟩
  .cases ez
 .cases ez
def aJn:∀x y z,eqR n x y= .ok z->imm z=true:=by
 intro x y z e;unfold eqR at e;split at e
 .cases e;rfl
 .cases e
end
section
variable{K:zAA}
def boolsOf:List D->Option (List Bool)
 |[]=>some []
 | .bl i::r=>(boolsOf r).map (i::·)
 |_=>none
theorem vy:∀{l:List D} {ns:List Bool},boolsOf l=some ns->l=ns.map .bl
 |[],ns,h=>by cases h;rfl
 | .bl i::r,ns,h=>by
  simp only[boolsOf,zDw]at h;obtain⟨ms,h1,rfl⟩:=h;rw[vy h1];rfl
 | .non::_,_,h=>by cases h
 | .int _::_,_,h=>by cases h
 | .str _::_,_,h=>by cases h
 | .tup _::_,_,h=>by cases h
 | .lst _::_,_,h=>by cases h
 | .dct _ _::_,_,h=>by cases h
 | .set _::_,_,h=>by cases h
 | .scr _::_,_,h=>by cases h
theorem yP:∀ns:List Bool,boolsOf (ns.map .bl)=some ns
 |[]=>rfl
 |n::ns=>by simp only[zAE,boolsOf,yP ns,zCr]
theorem aCB{X:Cx}:∀{bs:List Bool} {us:List Value},Vals (bs.map V.bl) us->LSm.BoolsAre us bs
 |[],_,.nil=>.nil
 |b::bs,_,.cons r t=>by
  have e:_=zC2 b:=r;subst e;exact .cons b (aCB (X:=X) t)
theorem Rps.bools_of:∀{xs:List V} {bs:List Bool},Rps K A H xs (bs.map D.bl)->xs=bs.map V.bl
 |_,[],.nil=>rfl
 |_,n::ns,.cons h r=>by
  cases h;rw[zAE,Rps.bools_of r]
def wI(f:List Bool->Bool):List D->Rs D
 |[.lst l]=>match boolsOf l with
  |some bs=>.ok (.bl (f bs))
  |none=>.st
 |_=>.st
def aKT{X:Cx}(hc:X.calm=true):lH X (.builtin "all") (λ xs H Q=>∃(p:Addr) (bs:List Bool),xs=[.ref p]/\H p=some (.lst (bs.map V.bl))/\Q (.bl (bs.all id)) H):=by
 intro kX s Z H xs us Q I r h;obtain⟨p,bs,rfl,hp,q⟩:=h;obtain⟨u,rfl,ru⟩:=vals1 r;cases ru;obtain⟨its,rv,pl,hz⟩:=I.list (SqL.of hp);have hb:=aCB (X:=X) rv;have hl:=pl.isList;have hlt:p<s.heap.objs.size:=by obtain⟨_,e,_⟩:=hl;exact zAW e
 refine call_all_walk (zF9 hl ?_);refine⟨s.heap.objs.size,[s.heap.objs.size,p],[s.heap.objs.size],its.toArray.size,_,_,λ i=>(bs[i]?).getD true,rfl,Walks.list (A:=X.A.in1) (I.ok.hd hc) _ p (zA7 hlt) its.toArray,
  ⟨⟨_,zAZ _ rfl,rfl,rfl⟩,hl.push _⟩,λ i v s' Q' E' hP hQ=>?_,λ h' tk hk=>?_⟩
 .obtain⟨b,e,rfl⟩:=hb.get i v (by simpa using hP)
  simp only[e,Option.getD_some]at hQ;exact zBe hQ
 .have e:((zAh its.toArray.size).all λ i=>(bs[i]?).getD true)=bs.all id:=by
   rw[zAP,hb.length];exact LSm.range_all bs
  rw[e];exact⟨.bl _,H,I.kept (LSm.kept_iter hk),rfl,q⟩
def aOm:wM K (λ xs H Q=>∃(p:Addr) (bs:List Bool),xs=[.ref p]/\H p=some (.lst (bs.map V.bl))/\Q (.bl (f bs)) H) (wI f):=by
 intro A xs ds H Q z r ez q;unfold wI at ez;split at ez
 .split at ez
  .rename_i l bs e
   cases ez
   have:=vy e
   subst this;cases r with
   |cons h r=>
    cases r;cases h with
    |lst h m r=>
     have:=r.bools_of
     subst this;exact⟨_,bs,rfl,h,q _ H (aX.refl H) (.bl _)⟩
  .cases ez
 .cases ez
def aME:∀x z,wI f x= .ok z->imm z=true:=by
 intro x z e;unfold wI at e;split at e
 .split at e
  .cases e;rfl
  .cases e
 .cases e
def mmD(f:Int->Int->Int):List D->Rs D
 |[.int i,.int j]=>.ok (.int (f i j))
 |_=>.st
def aND:wM K (λ xs H Q=>∃i j,xs=[.int i,.int j]/\Q (.int (f i j)) H) (mmD f):=by
 intro A xs ds H Q z r ez q;unfold mmD at ez;split at ez
 .cases ez
  cases r with
  |cons h r=>
   cases h;cases r with
   |cons h r=>
    cases h;cases r;exact⟨_,_,rfl,q _ H (aX.refl H) (.int _)⟩
 .cases ez
def aJl:∀x z,mmD f x= .ok z->imm z=true:=by
 intro x z e;unfold mmD at e;split at e
 .cases e;rfl
 .cases e
def fG:List D->Rs D
 |[.lst l]=>.ok (.tup l)
 |[.tup l]=>.ok (.tup l)
 |_=>.st
def aKP:wM K (λ xs H Q=>∃p ys,xs=[.ref p]/\((SqL K H p ys/\∀l,H l=none->Q (.ref l) (upd H l (.tup ys)))\/(SqT K H p ys/\Q (.ref p) H))) fG:=by
 intro A xs ds H Q z r ez q;unfold fG at ez;split at ez
 .cases ez
  cases r with
  |cons h r=>
   cases r;cases h with
   |lst h m r=>exact⟨_,_,rfl,.inl ⟨SqL.of h,λ l hl=>q _ _ (cu hl _) (.tup (SqT.of bN) ((r.wk λ _ _ _ z=>.inr z.1).up (cu hl _)))⟩⟩
 .cases ez
  cases r with
  |cons h r=>
   cases r;cases h with
   |tup h r=>exact⟨_,_,rfl,.inr ⟨h,q _ H (aX.refl H) (.tup h (r.wk λ _ _ _ z=>.inr z))⟩⟩
 .cases ez
def iH:List D->Rs D
 |[.int i]=>if i.natAbs.log2<1920 then .ok (.str (zEA i))else .st
 |_=>.st
def aOj:wM K (λ xs H Q=>∃i,xs=[.int i]/\i.natAbs.log2<1920/\Q (.str (zEA i)) H) iH:=by
 intro A xs ds H Q z r ez q;unfold iH at ez;split at ez
 .split at ez
  .rename_i h
   cases ez;cases r with
   |cons h' r=>cases h';cases r;exact⟨_,rfl,h,q _ H (aX.refl H) (.str _)⟩
  .cases ez
 .cases ez
end
def cutD(l:List D)(lo hi:Option Int):List D:=(l.drop (HT.sIx l.length 0 lo)).take (HT.sIx l.length l.length hi-HT.sIx l.length 0 lo)
def Rps.cut{K:zAA}(r:Rps K A H xs ds)(lo hi:Option Int):Rps K A H (aAs xs lo hi) (cutD ds lo hi):=by
 unfold aAs cutD;rw[r.length];exact(r.drop _).take _
def slD(d:D)(lo hi:Option Int):Rs D:=match d with
 | .tup l=>.ok (.tup (cutD l lo hi))
 | .lst l=>.ok (.lst (cutD l lo hi))
 |_=>.st
def aP8(K:zAA):V->Option Int->Option Int->Hp->VK->Prop:=λ x lo hi H Q=>(∃a xs,x= .ref a/\SqT K H a xs/\∀c H',aX H H'->SqT K H' c (aAs xs lo hi)->Q (.ref c) H')\/aPa K x lo hi H Q
def aKm:SlR X (λ x lo hi H Q=>∃a xs,x= .ref a/\SqT X.K H a xs/\∀c H',aX H H'->SqT X.K H' c (aAs xs lo hi)->Q (.ref c) H'):=by
 intro kX s Z H x v vl vu lo hi sl Q I rx hs pl pu h;obtain⟨a,xs,rfl,hx,q⟩:=h;cases rx;obtain⟨its,r,ht,hz⟩:=I.tuple hx;have kK:its.toArray.size=xs.length:=by rw[zAP];exact r.length.symm
 refine⟨"tuple",_,zB0.lookup,ht.typeIs,?_⟩;by_cases hw:HT.sIx xs.length 0 lo=0/\HT.sIx xs.length xs.length hi=xs.length
 .refine HT.vZ ht hs pl pu (by rw[kK];exact hw.1) (by rw[kK];exact hw.2) ⟨.ref a,H,I,rfl,q a H (aX.refl H) ?_⟩
  have:aAs xs lo hi=xs:=by
   unfold aAs;rw[hw.1,hw.2,List.drop_zero,Nat.sub_zero,List.take_length]
  rw[this];exact hx
 .refine HT.vY ht hs pl pu (by rw[kK];exact hw) ?_ (by rw[kK];exact hz)
  rw[kK];refine⟨.ref s.heap.objs.size,_,I.laid (t':=s.toks) (o:=.tup (aAs xs lo hi)) (λ b ob q=>zAG _ q) (zAQ _) ?_,rfl,q _ _ (cu (I.hok.fresh (zAQ _)) _) (SqT.of bN)⟩;exact⟨⟨zAg (yO xs lo hi) hz,NoD.push _⟩,_,(r.drop (HT.sIx xs.length 0 lo)).take (HT.sIx xs.length xs.length hi-HT.sIx xs.length 0 lo),zH8 _ _⟩
def aQZ:SlR X (aP8 X.K):=aKm.or aKn
section
variable{C:Ct}{pos p2:Pos}{m:Mode}{a e:Expr}{fa fe:En->Rs D}{lo hi:Option Expr}
def aQ9(K:zAA)(G:Gx)(t:TO)(f:En->Rs (Option Int)):Prop:=∀U Z H Y lab (Q:Option Int->Hp->Prop),RR K G U Y Z H lab->WR G (f Y) (λ o=>∀H',aX H H'->Q o H')->t Z H Q
def SO(C:Ct)(e:Option Expr)(f:En->Rs (Option Int)):Prop:=∃t,(∀i,PO (C.X i) e t)/\aQ9 C.K C.G t f
def cU:En->Rs (Option Int):=λ _=>.ok none
def cT(fe:En->Rs D):En->Rs (Option Int):=λ Y=>(fe Y).bd λ d=>match d with
 | .int i=>.ok (some i)
 |_=>.st
def jH:SO C none cU:=⟨_,λ _=>aLM,λ U Z H Y lab Q R W=>W H (aX.refl H)⟩
def jG(h:SE C m e fe):SO C (some e) (cT fe):=by
 obtain⟨t,h1,h2⟩:=h;refine⟨_,λ i=>aLL (h1 i),λ U Z H Y lab Q R W=>h2 U Z H Y lab _ R (W.bd.imp λ d _ w x H1 s r=>?_)⟩;cases r with
 |int i=>exact⟨i,rfl,w H1 s⟩
 |_=>exact zAJ w
def pG(fa:En->Rs D)(fl fh:En->Rs (Option Int)):En->Rs D:=λ Y=>(fa Y).bd λ d=>(fl Y).bd λ l=>(fh Y).bd λ h=>okD (slD d l h)
def aDZ{fl fh:En->Rs (Option Int)}(ha:SE C m a fa)(hl:SO C lo fl)(hh:SO C hi fh):SE C m (.Subscript a (.Slice lo hi none p2) pos) (pG fa fl fh):=by
 obtain⟨t,h1,h2⟩:=ha;obtain⟨tl,l1,l2⟩:=hl;obtain⟨th,k1,k2⟩:=hh;refine⟨tSl (aP8 C.K) t tl th,λ i=>by rw[<-C.hK i];exact aDo aQZ (h1 i) (l1 i) (k1 i),λ U Z H Y lab Q R W=>h2 U Z H Y lab _ R (W.bd.imp λ d _ w x H1 s1 r1=>?_)⟩;refine l2 U Z H1 Y lab _ (R.up s1) (w.bd.imp λ ol _ w H2 s2=>?_);refine k2 U Z H2 Y lab _ ((R.up s1).up s2) (w.bd.imp λ oh _ w H3 s3=>?_);obtain⟨z,ez,w⟩:=w.okD;have s:=s1.trans (s2.trans s3);have r3:=r1.up (s2.trans s3);cases d with
 |tup l=>
  cases ez;cases r3 with
  |tup h r=>exact .inl ⟨_,_,rfl,h,λ c H' s' hc=>w _ H' (s.trans s') (.tup hc ((r.cut ol oh).up s'))⟩
 |lst l=>
  cases ez;cases r3 with
  |lst h mm r=>
   exact .inr ⟨_,_,rfl,SqL.of h,λ p hp=>w _ _ (s.trans (cu hp _)) (.lst bN (.inl (s.free hp)) (((r.cut ol oh).wk λ q o e z=>⟨z.1,λ e'=>by subst e';rw[hp]at e;cases e⟩).up (cu hp _)))⟩
 |_=>cases ez
end
section
variable{C:Ct}{pos p:Pos}{m m1 m2 m3:Mode}{a b c e:Expr}{fa fb fc:En->Rs D}{ga:En->Rs (List D)}
def Ct.u0(C:Ct)(i:C.ι):(C.X i).A.units<cLine:=(C.room i).units0
def Ct.u64(C:Ct)(i:C.ι):(C.X i).A.units+64<cLine:=(C.room i).units
def Ct.ltR(C:Ct)(i:C.ι):OpR (C.X i) (zAt .Lt) (λ x y H Q=>rI0 (λ i j=>.bl (decide (i<j))) x y H Q\/aLC C.K x y H Q):=by have h:=aOF (X:=C.X i) (C.u0 i);rw[C.hK i]at h;exact h
def Ct.leR(C:Ct)(i:C.ι):OpR (C.X i) (zAt .LtE) (λ x y H Q=>rI0 (λ i j=>.bl (decide (i<=j))) x y H Q\/aLD C.K x y H Q):=by have h:=aOH (X:=C.X i) (C.u0 i);rw[C.hK i]at h;exact h
def Ct.eqRl(C:Ct)(i:C.ι):OpR (C.X i) (zAt .Eq) (aIa C.K false):=by have h:=aOM (X:=C.X i) (C.u64 i);rw[C.hK i]at h;exact h
def Ct.neRl(C:Ct)(i:C.ι):OpR (C.X i) (zAt .NotEq) (aIa C.K true):=by have h:=aOC (X:=C.X i) (C.u64 i);rw[C.hK i]at h;exact h
def Ct.inRl(C:Ct)(i:C.ι):OpR (C.X i) (zAt .In) (aI9 C.K false):=by have h:=aOL (X:=C.X i) (C.u64 i);rw[C.hK i]at h;exact h
def Ct.ninRl(C:Ct)(i:C.ι):OpR (C.X i) (zAt .NotIn) (aI9 C.K true):=by have h:=aHR (X:=C.X i) (C.u64 i);rw[C.hK i]at h;exact h
def Ct.aQH(C:Ct)(i:C.ι):OpR (C.X i) (zCG .Add) (aIc C.K):=by have h:=aL3 (X:=C.X i);rw[C.hK i]at h;exact h
def ux:D->D->Rs D:=i2 (λ _ _=>true) λ i j=>.int (i-j)
def aAb:D->D->Rs D:=i2 (λ _ j=>decide (0<j)&&decide (j<1073741824)) λ i j=>.int (i / j)
def uY:D->D->Rs D:=i2 (λ _ j=>decide (0<j)) λ i j=>.int (i%j)
def aNh:D->D->Rs D:=i2 (λ i j=>decide (0<=j)&&decide (j<=1000000)&&decide (i.natAbs<2^64)) λ i j=>.int (i^j.toNat)
def cJ(ha:SE C m1 a fa)(hb:SE C m2 b fb):SE C (jn m1 m2) (.BinOp a .Add b pos) (op2 bY fa fb):=zm C.aQH aNx ha hb
def uK(ha:SE C m1 a fa)(hb:SE C m2 b fb):SE C (jn m1 m2) (.BinOp a .Mult b pos) (op2 jb fa fb):=zm (λ _=>aLZ) aNv ha hb
def wO(ha:SE C m1 a fa)(hb:SE C m2 b fb):SE C (some []) (.BinOp a .Sub b pos) (op2 ux fa fb):=iC (zm (λ _=>aNz) aLX ha hb) λ _ _ h=>lJ aCn h
def aGG(ha:SE C m1 a fa)(hb:SE C m2 b fb):SE C (some []) (.BinOp a .FloorDiv b pos) (op2 aAb fa fb):=iC (zm (λ _=>aL0) (aFO λ i j h=>by simpa[aQN]using h) ha hb) λ _ _ h=>lJ aCn h
def uL(ha:SE C m1 a fa)(hb:SE C m2 b fb):SE C (some []) (.BinOp a .Mod b pos) (op2 uY fa fb):=iC (zm (λ _=>aOE) (aFO λ i j h=>by simpa using h) ha hb) λ _ _ h=>lJ aCn h
def aNY(ha:SE C m1 a fa)(hb:SE C m2 b fb):SE C (some []) (.BinOp a .Pow b pos) (op2 aNh fa fb):=iC (zm (λ _=>aOB) (aFO λ i j h=>by simp only[zAN,decide_eq_true_eq]at h;exact⟨h.1.1,h.1.2,h.2⟩) ha hb) λ _ _ h=>lJ aCn h
def ql(ha:SE C m a fa):SE C (some []) (.UnaryOp .USub a pos) (op1 tD fa):=iC (aP2 (λ _=>aNH) aNG ha) λ _ _ h=>aLz aMA h
def aIW(ha:SE C m1 a fa)(hb:SE C m2 b fb):SE C (some []) (.Compare a [.Lt] [b] pos) (op2 ltD fa fb):=iC (aEv C.ltR aJJ ha hb) λ _ _ h=>lJ aJm h
def zp(ha:SE C m1 a fa)(hb:SE C m2 b fb):SE C (some []) (.Compare a [.Eq] [b] pos) (op2 (eqR false) fa fb):=iC (aEv C.eqRl os_eq ha hb) λ _ _ h=>lJ aJn h
def aP4(ha:SE C m1 a fa)(hb:SE C m2 b fb):SE C (some []) (.Compare a [.NotEq] [b] pos) (op2 (eqR true) fa fb):=iC (aEv C.neRl os_eq ha hb) λ _ _ h=>lJ aJn h
def z7(ha:SE C m1 a fa)(hb:SE C m2 b fb):ST C (.Compare a [.Lt] [b] pos) (tsb (op2 ltD fa fb)):=qe C.ltR aJJ ha hb
def aIK(ha:SE C m1 a fa)(hb:SE C m2 b fb):ST C (.Compare a [.Gt] [b] pos) (tsb (op2 gtD fa fb)):=qe (λ _=>aPp) aC7 ha hb
def aP0(ha:SE C m1 a fa)(hb:SE C m2 b fb):ST C (.Compare a [.GtE] [b] pos) (tsb (op2 geD fa fb)):=qe (λ _=>aPq) aC7 ha hb
def lF(ha:SE C m1 a fa)(hb:SE C m2 b fb):ST C (.Compare a [.Eq] [b] pos) (tsb (op2 (eqR false) fa fb)):=qe C.eqRl os_eq ha hb
def aB0(ha:SE C m1 a fa)(hb:SE C m2 b fb):ST C (.Compare a [.NotEq] [b] pos) (tsb (op2 (eqR true) fa fb)):=qe C.neRl os_eq ha hb
def aIJ(ha:SE C m1 a fa)(hb:SE C m2 b fb)(hm:zBp .In b=false:=by with_unfolding_all rfl):ST C (.Compare a [.In] [b] pos) (tsb (op2 (inR false) fa fb)):=qe C.inRl aMw ha hb hm
def aNT(ha:SE C m1 a fa)(hb:SE C m2 b fb)(hm:zBp .NotIn b=false:=by with_unfolding_all rfl):ST C (.Compare a [.NotIn] [b] pos) (tsb (op2 (inR true) fa fb)):=qe C.ninRl aMw ha hb hm
def aMj(ha:SE C m1 a fa)(hb:SE C m2 b fb):ST C (.Compare a [.Is] [b] pos) (tsb (op2 (isD false) fa fb)):=qe (λ _=>aOJ) aPm ha hb
def aKv(ha:SE C m1 a fa)(hb:SE C m2 b fb)(hc:SE C m3 c fc)(hm:zHm [.LtE,.LtE] [b,c]=false:=by with_unfolding_all rfl):SE C (some []) (.Compare a [.LtE,.LtE] [b,c] pos) (chD leD leD fa fb fc):=aD1 C.leR aJK C.leR aJK aO9 ha hb hc hm
def aKu(ha:SE C m1 a fa)(hb:SE C m2 b fb)(hc:SE C m3 c fc)(hm:zHm [.LtE,.Lt] [b,c]=false:=by with_unfolding_all rfl):SE C (some []) (.Compare a [.LtE,.Lt] [b,c] pos) (chD leD ltD fa fb fc):=aD1 C.leR aJK C.ltR aJJ aJm ha hb hc hm
def aQ(ha:SE C m1 a fa)(hb:SE C m2 b fb)(hp:zV b:=by exact λ _ _=>rfl):SE C m1 (.Subscript a b pos) (op2 ixD fa fb):=by
 obtain⟨t,h1,h2⟩:=ha;obtain⟨u,k1,k2⟩:=hb;refine⟨tOp (rIx C.K) t u,λ i=>by rw[<-C.hK i];exact aIw aO4 (h1 i) (k1 i) hp,λ U Z H Y lab Q R W=>?_⟩;refine h2 U Z H Y lab _ R (W.bd.imp λ d _ w x H1 s1 r1=>?_);refine k2 U Z H1 Y lab _ (R.up s1) (w.bd.imp λ e _ w y H2 s2 r2=>?_);obtain⟨z,ez,w⟩:=w.okD;have hi:imm e=true:=by
  unfold ixD at ez;split at ez<;>first|rfl|cases ez
 refine aPl (fpM m1 lab H) x y d e H2 Q z (r1.up s2) (r2.imm hi) ez λ v H' s r=>w v H' ((s1.trans s2).trans s) (r.wk λ p o _ q=>?_)
 rcases q with q|q
 .exact .inl ((s1.trans s2).free q)
 .exact q
def nQ(hm:C.mg "len"=none)(ha:SA C m [a] ga)(he:∀i,zAV [a] (C.X i).env=[(false,eval a (C.X i).env)]:=by intro _;rfl)(hg:∀i,Gl (C.X i) "len":=by intro _;rfl):SE C (some []) (.Call (.Name "len" p) [a] [] pos) (opA gM ga):=
 iC (qm (λ i=>by have h:=aDA (X:=C.X i);rw[C.hK i]at h;exact h) aOl hg hm zHx ha (by decide) (by decide) he) λ _ _ h=>sV aMD h
def aEw(hm:C.mg "all"=none)(ha:SA C m [a] ga)(he:∀i,zAV [a] (C.X i).env=[(false,eval a (C.X i).env)]:=by intro _;rfl)(hg:∀i,Gl (C.X i) "all":=by intro _;rfl)(hv:zBK "all"=some (.builtin "all"):=by decide+kernel):SE C (some []) (.Call (.Name "all" p) [a] [] pos) (opA (wI λ bs=>bs.all id) ga):=
 iC (qm (λ i=>aKT (C.calm i)) aOm hg hm hv ha (by decide) (by decide) he) λ _ _ h=>sV aME h
def aGE(hm:C.mg "min"=none)(ha:SA C m [a,b] ga)(he:∀i,zAV [a,b] (C.X i).env=(false,eval a (C.X i).env)::zAV [b] (C.X i).env:=by intro _;rfl)(hpl:∀i,(zBw pos (zAV [b] (C.X i).env)).any (·.1)=false:=by intro _;rfl)(hg:∀i,Gl (C.X i) "min":=by intro _;rfl)(hv:zBK "min"=some (.builtin "min"):=by decide+kernel):SE C (some []) (.Call (.Name "min" p) [a,b] [] pos) (opA (mmD λ i j=>if j<i then j else i) ga):=
 iC (qm (λ i=>aHl (C.calm i)) aND hg hm hv ha (by decide) (by decide) he hpl) λ _ _ h=>sV aJl h
def aGF(hm:C.mg "max"=none)(ha:SA C m [a,b] ga)(he:∀i,zAV [a,b] (C.X i).env=(false,eval a (C.X i).env)::zAV [b] (C.X i).env:=by intro _;rfl)(hpl:∀i,(zBw pos (zAV [b] (C.X i).env)).any (·.1)=false:=by intro _;rfl)(hg:∀i,Gl (C.X i) "max":=by intro _;rfl)(hv:zBK "max"=some (.builtin "max"):=by decide+kernel):SE C (some []) (.Call (.Name "max" p) [a,b] [] pos) (opA (mmD λ i j=>if j>i then j else i) ga):=
 iC (qm (λ i=>aHm (C.calm i)) aND hg hm hv ha (by decide) (by decide) he hpl) λ _ _ h=>sV aJl h
def kI(hm:C.mg "tuple"=none)(ha:SA C m [a] ga)(he:∀i,zAV [a] (C.X i).env=[(false,eval a (C.X i).env)]:=by intro _;rfl)(hg:∀i,Gl (C.X i) "tuple":=by intro _;rfl)(hv:zBK "tuple"=some (.type "tuple"):=by decide+kernel):SE C m (.Call (.Name "tuple" p) [a] [] pos) (opA fG ga):=
 aD3 (λ i=>by have h:=aBR (X:=C.X i);rw[C.hK i]at h;exact h) aKP hg hm hv ha (by decide) (by decide) he
def aLx:∀x z,iH x= .ok z->imm z=true:=by
 intro x z e;unfold iH at e;split at e
 .split at e
  .cases e;rfl
  .cases e
 .cases e
def pH(hm:C.mg "str"=none)(ha:SA C m [a] ga)(he:∀i,zAV [a] (C.X i).env=[(false,eval a (C.X i).env)]:=by intro _;rfl)(hg:∀i,Gl (C.X i) "str":=by intro _;rfl)(hv:zBK "str"=some (.type "str"):=by decide+kernel):SE C (some []) (.Call (.Name "str" p) [a] [] pos) (opA iH ga):=
 iC (aD3 (λ i=>aCy) aOj hg hm hv ha (by decide) (by decide) he) λ _ _ h=>sV aLx h
def aMk(K:zAA):Sp:=λ vs H Q E=>∃a ns,vs=[.ref a]/\rY K H a ns/\ns.length<=63/\∀H',Q (.bl true) H'
def aLk{K:zAA}(h:∀ns:List Int,ns.length<=63->F [.scr ns]= .ok (.bl true)):∀vs H Q E,aMk K vs H Q E->spF K cl 1 F vs H Q E:=by
 rintro vs H Q E ⟨a,ns,rfl,hs,hl,q⟩;refine⟨[.scr ns],rfl,.cons (.scr hs) .nil,?_⟩;rw[h ns hl];intro v H' s r;cases r;exact q H'
end
abbrev ctL(P:zAS)(w:World)(K:zAA)(mg:Str->Option Value)(base:Heap)(N:List Str)(q:Str)(sc:Scope)(cl:List (Str×Addr))(f:Addr)(cdv:Value)(A:zA6)(outer:List Env)(s:zAD)(H:Hp)(E:XK)(k:Nat)(hr:jX k (A.deeper (zCi q sc s.heap.objs.size f cdv cl))):Ct where
 ι:=Unit
 X:=λ _=>cxL P w K mg base N q sc cl f cdv A outer s H E
 prog:=P
 w:=w
 K:=K
 mg:=mg
 base:=base
 k:=k
 G:=⟨H,E,au mg⟩
 cx:=λ _=>⟨rfl,rfl,rfl,rfl,rfl⟩
 calm:=λ _=>rfl
 room:=λ _=>hr
 own:=λ _=>fX.own fX.ofL
 pass:=λ _=>fX.pass fX.ofL
 dOk:=true
 dcx:=λ _ _=>fX.ofL
def shS:Slot->Slot
 | .no=>.no
 | .sh d=>.sh d
 | .nw d=>.sh d
 | .ow d=>.sh d
 | .oz d=>.sh d
 | .o2 l=>.sh (.lst (l.map .lst))
def iG.shut{K:zAA}{H:Hp}{lab:Lab}{i:Nat}{v:V}{x:Slot}(h:iG K H lab i v x):iG K H (λ _=>(0,0)) i v (shS x):=by
 cases x with
 |no=>exact trivial
 |sh d=>exact Rp.wk (λ _ _ _ _=>zAk _) h
 |nw d=>exact Rp.wk (λ _ _ _ _=>zAk _) h
 |ow d=>exact Rp.wk (λ _ _ _ _=>zAk _) h.1
 |oz d=>
  obtain⟨a,xs,ds,rfl,rfl,e3,e4,e5⟩:=h;exact .lst e3 (zAk _) (Rps.wk (λ p o e z=>⟨zAk _,λ ep=>by
   have z':(lab p).1<=1:=z;rw[ep,e4]at z';omega⟩) e5)
 |o2 l=>exact Rp.wk (λ _ _ _ _=>zAk _) (aGZ h)
theorem RR.shut{K:zAA}{G:Gx}{U:List (V×D)}{Y:En}{Z:L2.St}{H:Hp}{lab:Lab}{E:XK}{cl:Str->Addr}(R:RR K G U Y Z H lab):RR K ⟨H,E,cl⟩ [] (Y.map shS) Z H (λ _=>(0,0)):=by
 refine⟨by rw[zAF];exact R.len,λ i s e=>?_,aX.refl H,λ p hp=>absurd rfl hp,λ q hq=>by cases hq⟩;rw[zAR]at e;cases hr:Y[i]? with
 |none=>rw[hr]at e;cases e
 |some x=>
  rw[hr]at e;cases e;rcases R.sl i x hr with z|⟨v,e1,e2⟩
  .subst z;exact .inl rfl
  .exact .inr ⟨v,e1,e2.shut⟩
def aP1(cl:Str->Addr)(H1:Hp)(r:Rs D):Sp:=λ vs H Q E=>vs=[]/\aX H1 H/\WR ⟨H,E,cl⟩ r (λ _=>∀v H',aX H H'->Q v H')
def aHH(wn:Str->Option Str)(told:Str)(fe:En->Rs D):En->Rs D:=λ Y=>match fe (Y.map shS)with
 | .ok _=>.ok (.str told)
 | .ex c=>(match wn c with
  |some w=>.ok (.str w)
  |none=>.st)
 | .st=>.st
def aPQ(P:zAS)(w:World)(K:zAA)(mg:Str->Option Value)(N:List Str)(q:Str)(params:zCa)(body:Expr)(scope:Scope)(k0:Nat)(told:Str)(wd:Addr->Option Str)(E:XK):TE:=λ Z H Q=>
 ∀(base:Heap) (cl:List (Str×Addr)) (f c':Addr) (ctv pm:Value) (H1:Hp),aX H H1->aEb q params body scope cl pm H1 f c' ctv->aK9 base N Z scope cl->spR P w K mg base k0 told wd [.ref f] H1 Q E
end VL
namespace L2
open PySem PySem.Spec PyProof.Rows
def cxW(P:zAS)(w:World)(K:zAA)(mg:Str->Option Value)(base:Heap)(N:List Str)(qual:Str)(scope:Scope)(f:Addr)(cd:Value)(A:zA6)(s:zAD)(H:Hp)(Pt:Addr):Cx where
 prog:=P
 w:=w
 K:=K
 mg:=mg
 base:=base
 A:=A.deeper (zDz qual scope s.heap.objs.size f cd)
 N:=N
 z5:=s
 z0:=H
 env:=zDz qual scope s.heap.objs.size f cd
 outer:=[]
 stack:=[zDz qual scope s.heap.objs.size f cd]
 ex:=[Pt]
 calm:=true
 fn:=λ _=>true
 pn:=[]
 xe:=λ _ _=>False
 ta:=[(Pt,zEO #[])]
 tq:=qual++".<locals>."++"<lambda>"
end L2
namespace VL
open PySem PySem.Spec PyProof.Rows L2
def aFD{P:zAS}{w:World}{K:zAA}{mg:Str->Option Value}{base:Heap}{x q n0 n1 n2 few cn pe told:Str}{st:Stmt}{f fc C':Addr}{fd fdc:zA5}{kc k0:Nat}{wd:Addr->Option Str}{p1 p2 p3 p4 p5 p6 p7 p8 p9 p10 p11 p12 p13 p14 p15 p16:Pos}{j1:Nat}
  (F:L2.Fun K x q st f fd)(S:aY [n0,n1,n2] [n0] (aJ st))(hst:fL st=[.Assign [.Name n1 p1] (.Constant (.str told) j1 p2) p3,.Try [.Expr (.Call (.Name n0 p4) [] [] p5) p6] [.ExceptHandler (some (.Name few p7)) (some n2) [.Assign [.Name n1 p8] (.Call (.Name cn p9) [.Name n2 p10] [] p11) p12] p13] [] [] p14,.Return (some (.Name n1 p15)) p16])
  (l0:(aJ st).names.lookup n0=some .local)(l1:(aJ st).names.lookup n1=some .local)(l2:(aJ st).names.lookup n2=some .local)(g1:(aJ st).names.lookup few=some .globalImplicit)(g2:(aJ st).names.lookup cn=some .globalImplicit)
  (hm:mg few=some (.ref C'))(hC':cW K C')(FC:FnH P w K mg base kc fc fdc [pe] (spW wd))(hmc:mg cn=some (.ref fc))(hkc:zBR K (.ref fc)=true)(hbc:Binds K fdc [pe] [])(hkk:kc<=k0)(hw:∀C w,wd C=some w->cW K C/\xN K C C'=true)
  (d1:Nd few:=by decide)(d2:Nd cn:=by decide)(d3:Nd n0:=by decide)(d4:Nd n1:=by decide)(d5:Nd n2:=by decide)
  (d6:(n0==("__classdict__":Str))=false:=by decide)(d7:(n1==("__classdict__":Str))=false:=by decide)(d8:(n2==("__classdict__":Str))=false:=by decide):
  cB P w K mg base (CX1 P w) (k0+1) f fd [n0] (spR P w K mg base k0 told wd):=by
 refine F.okX S (λ vs H Q E ⟨_,_,_,_,_,_,_,e,_⟩=>by rw[e];rfl) λ cdv A outer s H vs Q E hr hsp=>?_
 rw[hst];exact aI3 (X:=aAr (CX1 P w) P w K mg base [n0,n1,n2] q (aJ st) f cdv A outer s H E) fX.of rfl rfl S.nd l0 l1 l2 (λ _=>rfl) hm g1 hC' FC g2 hmc hkc hbc hr hkk hw hsp d1 d2 d3 d4 d5 d6 d7 d8
end VL
namespace L2
open PySem PySem.Spec PyProof.Rows
def jQ{X:Cx}{n0:Str}{e:Expr}{c:V}{p p' pos:Pos}(hN:X.N[0]? =some n0)(hv:X.env.scope.names.lookup n0=some .local)(hg:Gl X "isinstance")(hm:X.mg "isinstance"=none)(hc:PE X e (tC c))(hse:zAV [e] X.env=(false,eval e X.env)::zAV [] X.env:=by rfl)
  (hpl:(zBw pos (zAV [e] X.env)).any (·.1)=false:=by rfl)(d:Nd n0:=by decide)(d':(n0==("__classdict__":Str))=false:=by decide):PE X (.Call (.Name "isinstance" p) [.Name n0 p',e] [] pos) (aEn X.K c):=
 vJ aHo hg hm rfl (az (ie hN (.inl hv) d d') (az hc fH hse)) (hpl:=hpl)
section
variable{P:zAS}{w:World}{K:zAA}{mg:Str->Option Value}{base:Heap}{x q n0 n1 n2 odd:Str}{st:Stmt}{f:Addr}{fd:zA5}{k:Nat}{wd:Addr->Option Str}{c1 c2:V}{k1 k2 k3 k4:List V}{l1 l2:List Str}{a1 a2:Expr}{as1 as2 e1 e2 e3 e4 w1 w2:List Expr}{kw1 kw2:List zBv}
 {p1 p2 p3 p4 p5 p6 p7 p8 p9 p10 p11 p12 p13 p14 p15 p16 p17 p18 p19 p20 p21 p22 p23 p24 p25 p26 p27 p28 p29 p30 p31 p32 p33 p34 p35 p36 p37 p38 p39 p40:Pos}{q1 q2 q3 q4 q5 q6 q7:Pos}{j1 j2 j3 j4 j5:Nat}
end
structure LawOk(P:zAS)(w:World)(K:zAA)(mg:Str->Option Value)(fa Pt:Addr)(k n:Nat):Prop where
 ex:∃(x name qual:Str) (params:zCa) (body:List Stmt) (scope:Scope) (dV kV doc pm ct oc:Value) (an od:Option Addr) (c:Addr) (osl:Array (Option Value)) (N:List Str),
  K.lookup Pt=none/\zBr K c Pt=true/\K.lookup fa=some ⟨oc,od,.func (zCH name qual params body scope dV kV doc pm an (.ref c) ct),osl⟩/\zD7 K (.ref c) qual=true/\aY N [x] scope/\
  (∀(s:zAD) (u:Value),zFW s (zCH name qual params body scope dV kV doc pm an (.ref c) ct) ⟨[u],[]⟩ [(x,u)])/\
  ∀(a:Addr) (ns:List Int),ns.length<=n->∀(base:Heap) (s:zAD) (H:Hp),jX k (callerA.deeper (zDz qual scope s.heap.objs.size fa (.ref c)))->aQM (cxW P w K mg base N qual scope fa (.ref c) zFA s H Pt) Pt->Only H->SqL K H a (ns.map V.int)->
   ∃t,PSs (cxW P w K mg base N qual scope fa (.ref c) zFA s H Pt) body t/\t {nx:=λ _ _=>False,rt:=λ v _=>v= .bl true} (start N [.ref a]) H
def clB(K:zAA)(few C:Addr):Bool:=zF3 K C [.type "ValueError",.type "Exception",.type "BaseException",.type "object"] "ValueError.__new__"&&decide (zBJ K (.ref C) "__class__"=some (some (.builtin "object.__class__")))&&decide (zBJ K (.ref C) "__getattribute__"=some (some (.builtin "BaseException.__getattribute__")))&&decide (zBJ K (.ref C) "__getattr__"=some none)&&decide (zBi K (.ref C) (.ref few)=some true)&&decide (zBi K (.ref C) (.type "ValueError")=some true)&&xN K C few
def aFk(K:zAA)(few:Addr)(cs:List Addr):Bool:=(zAh cs.length).all λ j=>match cs[j]? with
 |none=>true
 |some C=>clB K few C&&(zAh cs.length).all λ i=>match cs[i]? with
  |none=>true
  |some c=>decide (zBi K (.ref C) (.ref c)=some (i==j))
theorem lookup_at{C:Addr}{w:Str}:∀{cs:List Addr} {ws:List Str},(cs.zip ws).lookup C=some w->∃j:Nat,cs[j]? =some C/\ws[j]? =some w
 |[],_,h=>by cases h
 |_::_,[],h=>by cases h
 |c::cs,x::ws,h=>by
  rw[zAv,zAe]at h;by_cases e:C==c
  .simp only[e]at h
   cases h;exact⟨0,by rw[zDG e];rfl,rfl⟩
  .simp only[e]at h
   obtain⟨j,h1,h2⟩:=lookup_at h;exact⟨j+1,h1,h2⟩
def aMe{K:zAA}{few c0 c1 c2 c3 c4 c5 c6 c7 c8 c9 c10 c11:Addr}{ws:List Str}(h:aFk K few [c0,c1,c2,c3,c4,c5,c6,c7,c8,c9,c10,c11]=true){C:Addr}{w:Str}(hw:([c0,c1,c2,c3,c4,c5,c6,c7,c8,c9,c10,c11].zip ws).lookup C=some w):
  Wd K (.ref few) (.ty "ValueError") [[.ref c0,.ref c1,.ref c2],[.ref c3,.ref c4,.ref c5],[.ref c6,.ref c7,.ref c8],[.ref c9,.ref c10,.ref c11]] ws C w/\cW K C/\xN K C few=true:=by
 obtain⟨j,h1,h2⟩:=lookup_at hw;have hj:j<12:=(zAK.mp h1).1;have h3:=zA9.mp h j (zBC.mpr hj);simp only[h1,zAN]at h3;obtain⟨h4,h5⟩:=h3;have F:∀(i:Nat) c,[c0,c1,c2,c3,c4,c5,c6,c7,c8,c9,c10,c11][i]? =some c->Kt K C (.ref c) (i==j):=λ i c e=>by
  have h6:=zA9.mp h5 i (zBC.mpr (zAK.mp e).1);simp only[e]at h6;exact⟨_,rfl,of_decide_eq_true h6⟩
 unfold clB at h4;simp only[zAN,decide_eq_true_eq]at h4;obtain⟨⟨⟨⟨⟨⟨q1,q2⟩,q3⟩,q4⟩,q5⟩,q6⟩,q7⟩:=h4;refine⟨⟨⟨q1,q2,q3,q4⟩,⟨_,rfl,q5⟩,⟨_,rfl,q6⟩,[0==j,1==j,2==j],[3==j,4==j,5==j],[6==j,7==j,8==j],[9==j,10==j,11==j],j,_,_,_,_,rfl,.cons (F 0 c0 rfl) (.cons (F 1 c1 rfl) (.cons (F 2 c2 rfl) .nil)),.cons (F 3 c3 rfl) (.cons (F 4 c4 rfl) (.cons (F 5 c5 rfl) .nil)),
  .cons (F 6 c6 rfl) (.cons (F 7 c7 rfl) (.cons (F 8 c8 rfl) .nil)),.cons (F 9 c9 rfl) (.cons (F 10 c10 rfl) (.cons (F 11 c11 rfl) .nil)),by simp,?_,?_,?_,h2⟩,q1,q7⟩
 .exact(by decide:∀j,j<12->([0==j,1==j,2==j]++[3==j,4==j,5==j]++[6==j,7==j,8==j]++[9==j,10==j,11==j]).count true=1) j hj
 .exact(by decide:∀j,j<12->([0==j,1==j,2==j]++[3==j,4==j,5==j]++[6==j,7==j,8==j]++[9==j,10==j,11==j])[j]? =some true) j hj
 .exact λ m hm=>(by decide:∀j,j<12->∀m,m<j->([0==j,1==j,2==j]++[3==j,4==j,5==j]++[6==j,7==j,8==j]++[9==j,10==j,11==j])[m]? =some false) j hj m hm
def aJ3{scope sc:Scope}(h:∀y∈scope.names,y.2= .free->sc.names.lookup y.1=some .cell\/sc.names.lookup y.1=some .free):∀y∈scope.names,y.2= .free->sc.names.lookup y.1=some .cell\/sc.names.lookup y.1=some .free:=h
def aE2{K:zAA}{few:Addr}{cs:List Addr}(h:aFk K few cs=true){i j:Nat}{C c:Addr}(hj:cs[j]? =some C)(hi:cs[i]? =some c):zBi K (.ref C) (.ref c)=some (i==j):=by
 have h3:=zA9.mp h j (zBC.mpr (zAK.mp hj).1);simp only[hj,zAN]at h3;have h6:=zA9.mp h3.2 i (zBC.mpr (zAK.mp hi).1);simp only[hi]at h6;exact of_decide_eq_true h6
def aMZ{K:zAA}{few:Addr}{cs:List Addr}(h:aFk K few cs=true){i j:Nat}{C:Addr}(hj:cs[j]? =some C)(hi:cs[i]? =some C):i=j:=by
 have a:=aE2 h hj hi;have b:=aE2 h hj hj;rw[a]at b;have e:=zAc b;rw[beq_self_eq_true]at e;exact zDG e
theorem aAV{C:Addr}{w:Str}:∀{cs:List Addr} {ws:List Str} {j:Nat},(∀i:Nat,cs[i]? =some C->i=j)->cs[j]? =some C->ws[j]? =some w->(cs.zip ws).lookup C=some w
 |[],_,_,_,h,_=>by simp at h
 |_::_,[],_,_,_,h=>by simp at h
 |c::cs,x::ws,j,u,h1,h2=>by
  rw[zAv,zAe];by_cases e:C==c
  .have e0:0=j:=u 0 (by rw[zDG e];rfl)
   subst e0;simp only[e];simpa using h2
  .simp only[e]
   cases j with
   |zero=>
    have e1:c=C:=by simpa using h1
    rw[e1]at e;simp at e
   |succ j=>exact aAV (j:=j) (λ i hi=>zHf (u (i+1) hi)) h1 h2
def aPI{K:zAA}{few:Addr}{cs:List Addr}{ws:List Str}(h:aFk K few cs=true){j:Nat}{C:Addr}{w:Str}(h1:cs[j]? =some C)(h2:ws[j]? =some w):(cs.zip ws).lookup C=some w:=aAV (λ i hi=>aMZ h h1 hi) h1 h2
end L2
namespace VL
open PySem PySem.Spec PyProof.Rows L2
def aPH{K:zAA}{mg:Str->Option Value}{few c0 c1 c2 c3 c4 c5 c6 c7 c8 c9 c10 c11:Addr}{ws:List Str}{ns:List Str}(h:aFk K few [c0,c1,c2,c3,c4,c5,c6,c7,c8,c9,c10,c11]=true)
  (hl:ns.map (VL.au mg)=[c0,c1,c2,c3,c4,c5,c6,c7,c8,c9,c10,c11]):∀c w,(ns.zip ws).lookup c=some w->([c0,c1,c2,c3,c4,c5,c6,c7,c8,c9,c10,c11].zip ws).lookup (VL.au mg c)=some w:=λ c w e=>by
 have go:∀(ns:List Str) (ws:List Str),(ns.zip ws).lookup c=some w->∃j:Nat,ns[j]? =some c/\ws[j]? =some w:=by
  intro ns;induction ns with
  |nil=>intro ws h;cases h
  |cons x ns ih=>
   intro ws h;cases ws with
   |nil=>cases h
   |cons y ws=>
    rw[zAv,zAe]at h;by_cases e:c==x
    .simp only[e]at h
     cases h;exact⟨0,by rw[zDG e];rfl,rfl⟩
    .simp only[e]at h
     obtain⟨j,h1,h2⟩:=ih ws h;exact⟨j+1,h1,h2⟩
 obtain⟨j,h1,h2⟩:=go ns ws e;refine aPI h (j:=j) ?_ h2;rw[<-hl,zAR,h1];rfl
section
variable{O:zCK}{kz:Nat->O.α}{n:Nat}
def Wr{α:Type}(kz:Nat->O.α)(n:Nat):zFl α->(α->Prop)->Prop
 | .ret a,Q=>Q a
 | .ask i j k,Q=>i<n/\j<n/\Wr kz n (k (O.blt (kz i) (kz j))) Q
theorem Wr.bindI:∀{t:zFl α},Wr kz n t (λ a=>Wr kz n (g a) Q)->Wr kz n (t.bind g) Q
 | .ret _,h=>h
 | .ask _ _ _,⟨h1,h2,h3⟩=>⟨h1,h2,Wr.bindI h3⟩
abbrev Pm(n:Nat)(p:Array Nat):Prop:=p.Perm (zAh n).toArray
def Pm.sz(h:Pm n p):p.size=n:=by
 have:=h.size_eq
 simpa using this
def Pm.in(h:Pm n p)(hi:i<n):p.getD i 0<n:=by
 have hs:i<p.size:=by rw[h.sz];exact hi
 have e:p.getD i 0=p[i]:=by simp[zBt,hs]
 rw[e];have hm:p[i]∈(zAh n).toArray:=h.mem_iff.mp (Array.getElem_mem hs);simpa using hm
def Kp(kz:Nat->O.α)(p:Array Nat)(i:Nat):O.α:=kz (p.getD i 0)
def aEI(h:p[i]? =q[j]?):Kp kz p i=Kp kz q j:=by
 unfold Kp;congr 1;rw[zBL,zBL,h]
def aJ6(hs:c<p.size)(hd:d<=c)(k:Nat):
  Kp kz (bubble p c d) k=if k=c-d then Kp kz p c else if c-d<k/\k<=c then Kp kz p (k-1)else Kp kz p k:=by
 have e:=getElem?_bubble hs d hd k;by_cases u1:k=c-d
 .rw[if_pos u1]at e ⊢
  exact aEI e
 .rw[if_neg u1]at e ⊢
  by_cases u2:c-d<k/\k<=c
  .rw[if_pos u2]at e ⊢
   exact aEI e
  .rw[if_neg u2]at e ⊢
   exact aEI e
def aF7(hj:j<=p.size)(k:Nat):Kp kz (zEC p i j) k=if i<=k/\k<j then Kp kz p (i+j-1-k)else Kp kz p k:=by
 unfold zEC;have e:=getElem?_mirror_all (i:=i) hj k;by_cases u1:i<=k/\k<j
 .rw[if_pos u1]at e ⊢
  exact aEI e
 .rw[if_neg u1]at e ⊢
  exact aEI e
def sO(hj:j<=p.size)(he:∀k,i<=k->k<j->Kp kz p k=Kp kz p (j-1))(k:Nat):Kp kz (zEC p i j) k=Kp kz p k:=by
 rw[aF7 hj];split
 .rw[he _ (by lia) (by lia),he k (by lia) (by lia)]
 .rfl
def Up(kz:Nat->O.α)(p:Array Nat)(k:Nat):Prop:=∀i j,i<=j->j<k->O.kle (Kp kz p i) (Kp kz p j)
def Dn(kz:Nat->O.α)(p:Array Nat)(k:Nat):Prop:=∀i j,i<=j->j<k->O.kle (Kp kz p j) (Kp kz p i)
def aAD(h:Pm n p)(i j:Nat):Pm n (zEC p i j):=(mirror_perm _ _ _ _).trans h
def Up.succ(h:Up kz p m)(hm:1<=m)(hl:O.kle (Kp kz p (m-1)) (Kp kz p m)):Up kz p (m+1):=by
 intro i j hij hj;by_cases q:j<m
 .exact h i j hij q
 .have q':j=m:=by lia
  subst q';by_cases q2:i=j
  .rw[q2];exact zCp _
  .exact zDq (h i (j-1) (by lia) (by lia)) hl
def Dn.succ(h:Dn kz p m)(hm:1<=m)(hl:O.kle (Kp kz p m) (Kp kz p (m-1))):Dn kz p (m+1):=by
 intro i j hij hj;by_cases q:j<m
 .exact h i j hij q
 .have q':j=m:=by lia
  subst q';by_cases q2:i=j
  .rw[q2];exact zCp _
  .exact zDq hl (h i (j-1) (by lia) (by lia))
theorem aEe(hp:Pm n p)(hr:r<=n):∀(f m:Nat),1<=m->m+f=r->Up kz p m->
  (∀m',1<=m'->m'<=r->Up kz p m'->(m'=r\/O.klt (Kp kz p m') (Kp kz p (m'-1)))->Q m')->Wr kz n (PySem.W.kas_asc p f m) Q
 |0,m,h1,hm,hu,k=>k m h1 (by lia) hu (.inl (by lia))
 |f+1,m,h1,hm,hu,k=>by
  refine⟨hp.in (by lia),hp.in (by lia),?_⟩;have hd:O.blt (kz (p.getD m 0)) (kz (p.getD (m-1) 0))=O.blt (Kp kz p m) (Kp kz p (m-1)):=rfl;rw[hd];cases hb:O.blt (Kp kz p m) (Kp kz p (m-1))with
  |true=>exact k m h1 (by lia) hu (.inr hb)
  |false=>exact aEe hp hr f (m+1) (by lia) (by lia) (hu.succ h1 hb) k
theorem yz(hr:r<=n):∀(f:Nat) (p:Array Nat) (m e:Nat),Pm n p->1<=m->m+f=r->Dn kz p m->e+1<=m->(∀i,m-(e+1)<=i->i<m->Kp kz p i=Kp kz p (m-1))->
  (∀p' m' e',Pm n p'->1<=m'->m'<=r->Dn kz p' m'->e'+1<=m'->(∀i,m'-(e'+1)<=i->i<m'->Kp kz p' i=Kp kz p' (m'-1))->Q (p',m',e'))->Wr kz n (PySem.W.kas_desc f p m e) Q
 |0,p,m,e,hp,h1,hm,hd,he,hq,k=>k p m e hp h1 (by lia) hd he hq
 |f+1,p,m,e,hp,h1,hm,hd,he,hq,k=>by
  have hsz:m<=p.size:=by rw[hp.sz];lia
  refine⟨hp.in (by lia),hp.in (by lia),?_⟩;have hx:O.blt (kz (p.getD m 0)) (kz (p.getD (m-1) 0))=O.blt (Kp kz p m) (Kp kz p (m-1)):=rfl;rw[hx];cases hb:O.blt (Kp kz p m) (Kp kz p (m-1))with
  |true=>
   have hd':Dn kz p (m+1):=hd.succ h1 (zEd hb);dsimp only;rw[if_pos rfl];by_cases hz:e>0
   .rw[if_pos hz]
    refine yz hr f _ (m+1) 0 (aAD hp _ _) (by lia) (by lia) (λ i j hij hj=>?_) (by lia) (λ i u v=>by congr 1;lia) k;rw[sO hsz hq,sO hsz hq];exact hd' i j hij hj
   .rw[if_neg hz]
    exact yz hr f p (m+1) 0 hp (by lia) (by lia) hd' (by lia) (λ i u v=>by congr 1;lia) k
  |false=>
   dsimp only;rw[if_neg (by simp)];refine⟨hp.in (by lia),hp.in (by lia),?_⟩;have hy:O.blt (kz (p.getD (m-1) 0)) (kz (p.getD m 0))=O.blt (Kp kz p (m-1)) (Kp kz p m):=rfl;rw[hy];cases hc:O.blt (Kp kz p (m-1)) (Kp kz p m)with
   |true=>exact k p m e hp h1 (by lia) hd he hq
   |false=>
    dsimp only;rw[if_neg (by simp)];have hee:Kp kz p m=Kp kz p (m-1):=zGY hc hb;refine yz hr f p (m+1) (e+1) hp (by lia) (by lia) (hd.succ h1 hc) (by lia) (λ i u v=>?_) k;rw[show m+1-1=m by lia];by_cases hi:i=m
    .rw[hi]
    .rw[hee]
     exact hq i (by lia) (by lia)
def aFu(hr:r<=n)(hp:Pm n p)(h1:1<=m)(hm:m<=r)(hd:Dn kz p m)(k:∀m' p',Pm n p'->1<=m'->m'<=r->Up kz p' m'->Q (m',p')):Wr kz n (PySem.W.kas_tail3 m r p) Q:=by
 have hsz:m<=p.size:=by rw[hp.sz];lia
 refine Wr.bindI (aEe (aAD hp 0 m) hr (r-m) m h1 (by lia) (λ i j hij hj=>?_) λ m' a1 a2 a3 _=>k m' _ (aAD hp 0 m) a1 a2 a3);rw[aF7 hsz,aF7 hsz,if_pos (by lia),if_pos (by lia)];exact hd _ _ (by lia) (by lia)
def xW(hr:r<=n)(hp:Pm n p)(hm:m+1<=r)(hd:Dn kz p (m+1))(k:∀m' p',Pm n p'->1<=m'->m'<=r->Up kz p' m'->Q (m',p')):Wr kz n (PySem.W.kas_descPart m r p) Q:=by
 refine Wr.bindI (yz hr (r-(m+1)) p (m+1) 0 hp (by lia) (by lia) hd (by lia) (λ i u v=>by congr 1;lia) λ p' m' e' a1 a2 a3 a4 a5 a6=>?_);have hsz:m'<=p'.size:=by rw[a1.sz];lia
 dsimp only;by_cases hz:e'>0
 .rw[if_pos hz]
  refine aFu hr (aAD a1 _ _) a2 a3 (λ i j hij hj=>?_) k;rw[sO hsz a6,sO hsz a6];exact a4 i j hij hj
 .rw[if_neg hz]
  exact aFu hr a1 a2 a3 a4 k
def aHw(hr:r<=n)(hp:Pm n p)(h1:1<=r)(k:∀m' p',Pm n p'->1<=m'->m'<=r->Up kz p' m'->Q (m',p')):Wr kz n (PySem.W.kas_count r p) Q:=by
 refine Wr.bindI (aEe hp hr (r-1) 1 (zAQ 1) (by lia) (λ i j hij hj=>by rw[show i=j by lia];exact zCp _) λ m a1 a2 a3 a4=>?_);by_cases hm:m=r
 .rw[if_pos (by simpa using hm)]
  exact k m p hp a1 a2 a3
 .rw[if_neg (by simpa using hm)]
  have hl:O.klt (Kp kz p m) (Kp kz p (m-1)):=a4.resolve_left hm;by_cases hg:m>1
  .rw[if_pos hg]
   refine⟨hp.in (by lia),hp.in (by lia),?_⟩;have hx:O.blt (kz (p.getD 0 0)) (kz (p.getD (m-1) 0))=O.blt (Kp kz p 0) (Kp kz p (m-1)):=rfl;rw[hx];cases hb:O.blt (Kp kz p 0) (Kp kz p (m-1))with
   |true=>exact k m p hp a1 a2 a3
   |false=>
    dsimp only;rw[if_neg (by simp)];have hsz:m<=p.size:=by rw[hp.sz];lia
    have pV:∀i,0<=i->i<m->Kp kz p i=Kp kz p (m-1):=λ i _ hi=>zGY (a3 i (m-1) (by lia) (by lia)) (zDq hb (a3 0 i (by lia) hi))
    refine xW hr (aAD hp 0 m) (by lia) (λ i j hij hj=>?_) k;rw[sO hsz pV,sO hsz pV];by_cases hjm:j<m
    .rw[pV i (by lia) (by lia),pV j (by lia) hjm];exact zCp _
    .have hj':j=m:=by lia
     subst hj';by_cases hi:i=j
     .rw[hi];exact zCp _
     .rw[pV i (by lia) (by lia)];exact zEd hl
  .rw[if_neg hg]
   have hm1:m=1:=by lia
   subst hm1;refine xW hr hp (by lia) (λ i j hij hj=>?_) k;by_cases hi:i=j
   .rw[hi];exact zCp _
   .have e1:i=0:=by lia
    have e2:j=1:=by lia
    subst e1 e2;exact zEd hl
theorem zW(hp:Pm n p)(hc:c<n)(hu:Up kz p c):∀(f l r:Nat),l<=r->r<=c->r-l<=f->(∀i,i<l->O.kle (Kp kz p i) (Kp kz p c))->(∀i,r<=i->i<c->O.klt (Kp kz p c) (Kp kz p i))->
  (∀l',l'<=c->(∀i,i<l'->O.kle (Kp kz p i) (Kp kz p c))->(∀i,l'<=i->i<c->O.klt (Kp kz p c) (Kp kz p i))->Q l')->Wr kz n (zGa p c f l r) Q
 |0,l,r,a1,a2,a3,a4,a5,k=>by
  have e:l=r:=by lia
  subst e;exact k l a2 a4 a5
 |f+1,l,r,a1,a2,a3,a4,a5,k=>by
  unfold zGa;by_cases hg:l ≥ r
  .rw[if_pos hg]
   have e:l=r:=by lia
   subst e;exact k l a2 a4 a5
  .rw[if_neg hg]
   refine⟨hp.in hc,hp.in (by lia),?_⟩;have hx:O.blt (kz (p.getD c 0)) (kz (p.getD ((l+r) / 2) 0))=O.blt (Kp kz p c) (Kp kz p ((l+r) / 2)):=rfl;rw[hx];cases hb:O.blt (Kp kz p c) (Kp kz p ((l+r) / 2))with
   |true=>exact zW hp hc hu f l ((l+r) / 2) (by lia) (by lia) (by lia) a4 (λ i u v=>KeyOrd.klt_of_klt_of_kle hb (hu _ _ u v)) k
   |false=>exact zW hp hc hu f ((l+r) / 2+1) r (by lia) a2 (by lia) (λ i u=>zDq (hu i ((l+r) / 2) (by lia) (by lia)) hb) a5 k
theorem aHx:∀(f:Nat) (p:Array Nat) (c:Nat),Pm n p->c+f=n->Up kz p c->(∀p',Pm n p'->Up kz p' n->Q p')->Wr kz n (PySem.W.kas_bin f p c) Q
 |0,p,c,hp,hc,hu,k=>k p hp (by rw[show n=c by lia];exact hu)
 |f+1,p,c,hp,hc,hu,k=>by
  refine Wr.bindI (zW hp (by lia) hu c 0 c (by lia) (zAQ c) (by lia) (λ i u=>by lia) (λ i u v=>by lia) λ l a1 a2 a3=>?_);refine aHx f _ (c+1) ((bubble_perm _ _ _).trans hp) (by lia) (λ i j hij hj=>?_) k;have hs:c<p.size:=by rw[hp.sz];lia
  rw[aJ6 hs (by lia),aJ6 hs (by lia),show c-(c-l)=l by lia]
  repeat' split
  all_goals first
   |(exfalso;lia)
   |exact O.irrefl _
   |exact a2 _ (by lia)
   |exact KeyOrd.klt_asymm (a3 _ (by lia) (by lia))
   |exact hu _ _ (by lia) (by lia)
def aKd(h1:1<=n)(k:∀p,Pm n p->Up kz p n->Q p):Wr kz n (PySem.W.kas_sort n) Q:=by
 refine Wr.bindI (aHw (zAQ n) (zGW _) h1 λ m p a1 a2 a3 a4=>?_);dsimp only;by_cases hm:m<n
 .rw[if_pos hm]
  exact aHx _ p _ a1 (by lia) (by rw[show max m 1=m by lia];exact a4) k
 .rw[if_neg hm]
  exact k p a1 (by rw[show n=m by lia];exact a4)
theorem aDL{I:zAD->Prop}(hc:∀i j (C:Bool->zAD->Prop) s,I s->i<n->j<n->(∀s',I s'->C (O.blt (kz i) (kz j)) s')->cmp i j C s):
  ∀(t:zFl α) (s:zAD),I s->Wr kz n t (λ a=>∀s',I s'->Q a s')->t.kasWp cmp Q s
 | .ret a,s,hI,h=>h s hI
 | .ask i j k,s,hI,⟨h1,h2,h3⟩=>hc i j _ s hI h1 h2 λ s' hI'=>aDL hc _ s' hI' h3
end
theorem aCc:∀a:List Int,HT.lexLt a a=false
 |[]=>rfl
 |x::a=>by rw[HT.mO,if_pos rfl];exact aCc a
theorem vR:∀a b c:List Int,HT.lexLt a b=true->HT.lexLt b c=true->HT.lexLt a c=true
 |[],[],c,h,_=>by cases h
 |[],_::_,[],_,h=>by cases h
 |[],_::_,_::_,_,_=>rfl
 |_::_,[],_,h,_=>by cases h
 |_::_,_::_,[],_,h=>by cases h
 |x::a,y::b,z::c,h1,h2=>by
  rw[HT.mO]at h1 h2 ⊢;by_cases e1:x=y
  .subst e1
   rw[if_pos rfl]at h1;by_cases e2:x=z
   .rw[if_pos e2]at h2 ⊢
    exact vR a b c h1 h2
   .rw[if_neg e2]at h2 ⊢
    exact h2
  .rw[if_neg e1]at h1
   simp only[decide_eq_true_eq]at h1;by_cases e2:y=z
   .subst e2
    rw[if_neg e1];simpa using h1
   .rw[if_neg e2]at h2
    simp only[decide_eq_true_eq]at h2;rw[if_neg (by lia)];simp only[decide_eq_true_eq];lia
theorem aAU:∀a b:List Int,HT.lexLt a b=false->HT.lexLt b a=false->a=b
 |[],[],_,_=>rfl
 |[],_::_,h,_=>by cases h
 |_::_,[],_,h=>by cases h
 |x::a,y::b,h1,h2=>by
  rw[HT.mO]at h1 h2;by_cases e:x=y
  .subst e
   rw[if_pos rfl]at h1 h2;rw[aAU a b h1 h2]
  .rw[if_neg e]at h1
   rw[if_neg λ q=>e q.symm]at h2;simp only[decide_eq_false_iff_not]at h1 h2;lia
def aJV(a b c:List Int)(h:HT.lexLt a c=true):HT.lexLt a b=true\/HT.lexLt b c=true:=by
 cases e1:HT.lexLt a b with
 |true=>exact .inl rfl
 |false=>
  right;cases e2:HT.lexLt b a with
  |true=>exact vR b a c e2 h
  |false=>rw[<-aAU a b e1 e2];exact h
def aF1:zCK:=⟨List Int,HT.lexLt,aCc,vR,aJV,aAU⟩
inductive cH(h:Heap):List Value->List (List Int)->Prop where
 |nil:cH h [] []
 |cons {x:Addr} {o:Obj} {xs:Array Value} {k:Nat} {ns:List Int} {vs:List Value} {nss:gV} (ho:h.get? x=some o) (hc:o.cls= .type "tuple") (hd:o.data= .seq xs k) (hi:zBQ xs.toList ns) (hne:ns≠[]) (r:cH h vs nss):cH h (.ref x::vs) (ns::nss)
theorem cH.mono(k:∀x o,h.get? x=some o->o.cls= .type "tuple"->h'.get? x=some o):∀{vs:List Value} {nss:gV},cH h vs nss->cH h' vs nss
 |_,_,.nil=>.nil
 |_,_,.cons ho hc hd hi hne r=>.cons (k _ _ ho hc) hc hd hi hne (cH.mono k r)
theorem cH.len:∀{vs:List Value} {nss:gV},cH h vs nss->vs.length=nss.length
 |_,_,.nil=>rfl
 |_,_,.cons _ _ _ _ _ r=>by rw[zA0,zA0,r.len]
theorem cH.at:∀{vs:List Value} {nss:gV} {i:Nat},cH h vs nss->i<vs.length->∃x o xs k,vs.getD i zB8= .ref x/\h.get? x=some o/\o.cls= .type "tuple"/\o.data= .seq xs k/\zBQ xs.toList (nss.getD i [])/\nss.getD i []≠[]
 |_,_,_,.nil,hi=>by simp at hi
 |_,_,0,.cons ho hc hd hi hne _,_=>⟨_,_,_,_,rfl,ho,hc,hd,hi,hne⟩
 |_,_,i+1,.cons _ _ _ _ _ r,hi=>by
  obtain⟨x,o,xs,k,q⟩:=cH.at (i:=i) r (by simpa using hi);exact⟨x,o,xs,k,by simpa using q⟩
theorem cH.firsts:∀{vs:List Value} {nss:gV},cH h vs nss->∃fs,PySem.W.KatTups h vs fs/\fs.length=vs.length/\∀f∈fs,∃n t,f=zE8 n t
 |_,_,.nil=>⟨[],.nil,rfl,λ f hf=>by simp at hf⟩
 |_,_,.cons (xs:=xs) ho hc hd hi hne r=>by
  obtain⟨fs,h1,h2,h3⟩:=cH.firsts r;obtain⟨l,rfl⟩:∃l:List Value,xs=l.toArray:=⟨xs.toList,by simp⟩
  rw[show l.toArray.toList=l by simp]at hi;cases hi with
  |nil=>exact absurd rfl hne
  |cons n t q=>
   rename_i l' ns';refine⟨.int n t::fs,.cons ho hc hd (by simp) h1,by simp[h2],λ f hf=>?_⟩;rcases zAO.mp hf with rfl|hf
   .exact⟨n,t,rfl⟩
   .exact h3 f hf
section
variable{prog:zAS}{w:World}{A:zA6}{E:Value->zAD->Prop}{s:zAD}
def aEJ:∀{xs ys:List Value} {ns ms:List Int} (i:Nat),zBQ xs ns->zBQ ys ms->fin=decide (xs.length<ys.length)->Q (HT.lexLt ns ms) s->PySem.W.KatLex prog w A b fin Q (xs.zip ys) i s:=by
 intro xs ys ns ms i hx;induction hx generalizing ys ms i with
 |nil=>intro hy hf q;cases hy<;>(subst hf;exact q)
 |@cons x t xs ns r ih=>
  intro hy hf q;cases hy with
  |nil=>subst hf;exact q
  |@cons y u ys ms r'=>?_
  rw[zAv];refine PySem.W.kat_cons (wpAny_eqBool_int ?_);rw[HT.mO]at q;by_cases e:x=y
  .rw[if_pos e]at q
   rw[show(x==y)=true by simpa using e];exact PySem.W.kat_yes (ih (i+1) r' (by rw[hf];simp) q)
  .rw[if_neg e]at q
   rw[show(x==y)=false by simpa using e];refine PySem.W.kat_no ?_;cases hb:(b&&i==0)with
   |true=>exact oneLt_int q
   |false=>exact PySem.W.kat_one _ _ (zFT q)
def aF9(hx:s.heap.get? x=some ox)(dx:ox.data= .seq xs n)(hy:s.heap.get? y=some oy)(dy:oy.data= .seq ys k)(hi:zBQ xs.toList ns)(hj:zBQ ys.toList ms)
  (q:Q (HT.lexLt ns ms) s):wpAny (model prog w) A (keyLt' (tuples' b) (.ref x) (.ref y)) Q E s:=
 PySem.W.kat_lt hx dx hy dy (aEJ 0 hi hj (by simp) q)
def sy(vs:List Value)(p:Array Nat):Array Value:=(p.toList.map λ i=>vs.getD i zB8).toArray
def aKb(h:vs.length<2):(vs.toArray.zip vs.toArray).map (·.2)=sy vs (zAh vs.length).toArray:=by
 cases vs with
 |nil=>simp[sy]
 |cons v t=>
  cases t with
  |nil=>simp[sy]
  |cons u t=>exact absurd h (zGE.mpr (Nat.le_add_left 2 t.length))
def aF0(ho:s.heap.get? a=some (zCN "list" vs.toArray c))(ht:cH s.heap vs nss)(h64:vs.length<64)
  (h:∀p:Array Nat,Pm vs.length p->Up (O:=aF1) (λ i=>nss.getD i []) p vs.length->P (.done (.ret .none)) {s with heap:=zGs s.heap a vs (sy vs p)}):
  wpAny (model prog w) A (zEQ.«list.sort» ⟨[.ref a],[]⟩) P E s:=by
 have hlt:a<s.heap.objs.size:=zAW ho;have hz:vs.length<=zAU:=by rw[zCe];lia
 obtain⟨e1,ho1⟩:∃e1,(s.heap.update a (zCI λ _=>(#[]:Array Value))).get? a=some (zCN "list" #[] e1):=⟨_,zGP ho λ _=>#[]⟩
 have keep:∀x o,s.heap.get? x=some o->o.cls= .type "tuple"->(((s.heap.update a (zCI λ _=>(#[]:Array Value))).push (zCN "tuple" vs.toArray 0)).push (zCN "list" #[] 0)).get? x=some o:=λ x o e q=>by
  have hxa:x≠a:=λ z=>by
   subst z;rw[ho]at e;cases e;exact absurd q (show¬(zBu "list"=zBu "tuple")by decide)
  refine zAG _ (zAG _ ?_);rw[zE4 _ _ _ _ hxa];exact e
 have ho6:(((s.heap.update a (zCI λ _=>(#[]:Array Value))).push (zCN "tuple" vs.toArray 0)).push (zCN "list" #[] 0)).get? a=some (zCN "list" #[] e1):=zAG _ (zAG _ ho1);have ht6:=ht.mono keep;rw[list_sort_plain];refine zAC (listItems_at ho rfl (zAC (zHG ho rfl ?_ (by rw[zAP];exact hz) (zAk _))));refine zAC (zIF ho1 rfl (zAC (wpAny_newTuple ?_ (by show vs.length<=_;exact hz))));refine zAC (wpAny_newList (zB5 ?_) (zAk _));show wpAny (model prog w) A _ P E {s with heap:=((s.heap.update a (zCI λ _=>(#[]:Array Value))).push (zCN "tuple" vs.toArray 0)).push (zCN "list" #[] 0)};dsimp only;have hsz:∀p:Array Nat,Pm vs.length p->(sy vs p).size=vs.length:=λ p a1=>by unfold sy;rw[zAP,zAF,zA2,a1.sz]
 by_cases h2:vs.toArray.size<2
 .rw[if_pos h2,if_pos h2]
  refine zAC (zAL ?_);rw[StateT.run_pure];refine zAC (zAL ?_);have h2':vs.length<2:=by simpa using h2
  have a1:Pm vs.length (zAh vs.length).toArray:=zGW _;have a3:=aKb h2';dsimp only;refine zAC (zIF ho6 rfl ?_);show wpAny (model prog w) A (Builtin.List.listUpdate (.ref a) (λ _=>(vs.toArray.zip vs.toArray).map (·.2))>>=_) P E _;rw[a3];refine zAC (zHG ho6 rfl ?_ (zAk _) (by show(sy vs _).size<=_;rw[hsz _ a1];lia));simp only[bne_self_eq_false,zA1,if_false];exact zAL (h _ a1 λ i j hij hj=>by rw[show i=j by lia];exact aCc _)
 .rw[if_neg h2,if_neg h2]
  have h2':2<=vs.length:=zHv (show¬vs.length<2 by simpa using h2);obtain⟨fs,f1,f2,f3⟩:=ht6.firsts;refine zAC (PySem.W.kat_kind (T:=.type "int") f1 (by lia) (λ v hv=>?_) (by decide) ?_)
  .obtain⟨n,t,rfl⟩:=f3 v hv
   exact zI5
  rw[show(zBu "int" !=zBu "tuple")=true by decide];refine zAC (zBP (PySem.W.kat_run (κ:=tuples' true) (ks:=vs) (vs:=vs) (Q:=λ st s'=>s'={s with heap:=((s.heap.update a (zCI λ _=>(#[]:Array Value))).push (zCN "tuple" vs.toArray 0)).push (zCN "list" #[] 0)}/\∃p:Array Nat,Pm vs.length p/\Up (O:=aF1) (λ i=>nss.getD i []) p vs.length/\(arrOf st).map (·.2)=sy vs p/\zGJ st=none)
   (G:=λ p s'=>s'={s with heap:=((s.heap.update a (zCI λ _=>(#[]:Array Value))).push (zCN "tuple" vs.toArray 0)).push (zCN "list" #[] 0)}/\Pm vs.length p/\Up (O:=aF1) (λ i=>nss.getD i []) p vs.length)
   rfl h2' h64 (λ p st s' _ b2 b3 b4=>⟨b4.1,p,b4.2.1,b4.2.2,PySem.W.kat_snds rfl b2,b3⟩) ?_) (λ r s' hr=>?_) λ _ _ e=>e)
  .refine aDL (O:=aF1) (kz:=λ i=>nss.getD i []) (n:=vs.length) (I:=λ s'=>s'={s with heap:=((s.heap.update a (zCI λ _=>(#[]:Array Value))).push (zCN "tuple" vs.toArray 0)).push (zCN "list" #[] 0)}) (λ i j C s' hI hi hj hC=>?_) _ _ rfl (aKd (by lia) λ p a1 a2 s' hs'=>⟨hs',a1,a2⟩)
   subst hI;unfold PySem.W.kas_ask;obtain⟨x,ox,xs,kx,x1,x2,_,x4,x5,_⟩:=ht6.at hi;obtain⟨y,oy,ys,ky,y1,y2,_,y4,y5,_⟩:=ht6.at hj;rw[x1,y1];exact aF9 x2 x4 y2 y4 x5 y5 (hC _ rfl)
  .obtain⟨⟨⟩,st⟩:=r
   obtain⟨e,p,b1,b2,b3,b4⟩:=hr;subst e;refine zAC (zIF ho6 rfl ?_);rw[b3,b4];refine zAC (zHG ho6 rfl ?_ (zAk _) (by show(sy vs p).size<=_;rw[hsz p b1];lia));simp only[bne_self_eq_false,zA1,if_false];exact zAL (h p b1 b2)
end
theorem sub_len[BEq α][LawfulBEq α]:∀{l l':List α},l.Nodup->(∀x∈l,x∈l')->l.length<=l'.length
 |[],_,_,_=>zAk _
 |x::l,l',nd,h=>by
  have hx:x∈l':=h x zAI;have ih:=sub_len (l:=l) (l':=l'.erase x) (zBd.mp nd).2 λ y hy=>(List.mem_erase_of_ne λ e=>by subst e;exact(zBd.mp nd).1 hy).mpr (h y (zAH _ hy))
  rw[List.length_erase_of_mem hx]at ih
  have:0<l'.length:=List.length_pos_of_mem hx
  rw[zA0];lia
def Ris(xs:Array Nat):Prop:=∀i j,i<j->j<xs.size->xs.getD i 0<xs.getD j 0
theorem aDC(hr:Ris xs):∀(f lo hi:Nat),lo<=hi->hi<=xs.size->hi-lo<=f->(∀i,i<lo->xs.getD i 0<j)->(∀i,hi<=i->i<xs.size->j<=xs.getD i 0)->
  zDR xs j f lo hi<=xs.size/\(∀i,i<zDR xs j f lo hi->xs.getD i 0<j)/\∀i,zDR xs j f lo hi<=i->i<xs.size->j<=xs.getD i 0
 |0,lo,hi,h1,h2,h3,h4,h5=>by
  have e:lo=hi:=by lia
  subst e;exact⟨h2,h4,h5⟩
 |f+1,lo,hi,h1,h2,h3,h4,h5=>by
  unfold zDR;by_cases hl:lo<hi
  .rw[if_pos hl]
   dsimp only;have hm:(lo+hi) / 2<xs.size:=by lia
   have e:xs.getD ((lo+hi) / 2) j=xs.getD ((lo+hi) / 2) 0:=by simp[zBt,hm]
   rw[e];by_cases hc:xs.getD ((lo+hi) / 2) 0<j
   .rw[if_pos hc]
    refine aDC hr f _ hi (by lia) h2 (by lia) (λ i hi'=>?_) h5;by_cases q:i=(lo+hi) / 2
    .rw[q];exact hc
    .exact zDh (hr i ((lo+hi) / 2) (by lia) hm) hc
   .rw[if_neg hc]
    refine aDC hr f lo _ (by lia) (by lia) (by lia) h4 λ i q1 q2=>?_
    by_cases q:i=(lo+hi) / 2
    .rw[q];lia
    .have:=hr ((lo+hi) / 2) i (by lia) q2
     lia
  .rw[if_neg hl]
   have e:lo=hi:=by lia
   subst e;exact⟨h2,h4,h5⟩
def vz(hr:Ris xs)(j:Nat):zAm xs j<=xs.size/\(∀i,i<zAm xs j->xs.getD i 0<j)/\∀i,zAm xs j<=i->i<xs.size->j<=xs.getD i 0:=
 aDC hr xs.size 0 xs.size (zAk _) (zAQ _) (by lia) (λ i h=>by lia) λ i h1 h2=>by lia
structure fU(t:zBy)(n:Nat):Prop where
 dum:t.dummies=#[]
 siz:t.place.size=n
 ris:Ris t.place
 top:∀i,i<n->t.place.getD i 0<=t.mask
 msk:t.mask=7/\n<5\/t.mask=31/\n<19\/t.mask=127/\n<77
 pla:t.plain=true
def fU.fresh(led:Bool):fU (zHF 0 0 led) 0:=⟨rfl,rfl,λ i j _ h=>by simp[zHF]at h,λ i h=>by lia,.inl ⟨rfl,by lia⟩,rfl⟩
def fU.few(h:fU t n):n<t.mask:=by
 rcases h.msk with ⟨e,l⟩|⟨e,l⟩|⟨e,l⟩<;>lia
theorem fU.fill(h:fU t n):t.fill=n:=by unfold zHX;rw[h.dum,h.siz];rfl
theorem fU.fits(h:fU t n):t.fits n=true:=by
 unfold zHY;rw[h.fill,h.siz]
 have:=h.few
 simp;lia
def uz(h:fU t n)(j:Nat):t.slot j= .empty\/∃i,i<n/\t.slot j= .live i/\t.place.getD i 0=j:=by
 unfold zH0;dsimp only;by_cases e:(t.place[zAm t.place j]? ==some j)=true
 .rw[if_pos e]
  have e':=beq_iff_eq.mp e;obtain⟨h1,h2⟩:=zB2.mp e';exact .inr ⟨_,by rw[<-h.siz];exact h1,rfl,by simp[zBt,h1,h2]⟩
 .rw[if_neg e]
  have:zDx t.dummies j=false:=by rw[h.dum];unfold zDx;simp
  rw[this];exact .inl (by simp)
def aDW(h:fU t n)(e:t.slot j= .empty):∀i,i<n->t.place.getD i 0≠j:=by
 intro i hi q;obtain⟨b1,b2,b3⟩:=vz h.ris j;have hb:zAm t.place j=i:=by
  rcases zEx (zAm t.place j) i with z|z|z
  .have z1:=b3 _ (zAQ _) (by rw[h.siz];lia)
   have z2:=h.ris _ i z (by rw[h.siz];exact hi);lia
  .exact z
  .have:=b2 i z
   lia
 have hi':i<t.place.size:=by rw[h.siz];exact hi
 have e2:t.place[i]? =some j:=by rw[zB2];exact⟨hi',by rw[<-q];simp[zBt,hi']⟩
 unfold zH0 at e;dsimp only at e;rw[hb,e2]at e;simp at e
def qb(mask:Nat):Nat->Nat×Nat->Nat×Nat
 |0,st=>st
 |k+1,st=>qb mask k (zAo mask st.1 st.2)
theorem aEA(mask:Nat):∀(k:Nat) (st:Nat×Nat),(qb mask k st).2=st.2 / 32^k
 |0,st=>by simp[qb]
 |k+1,st=>by
  show(qb mask k (zAo mask st.1 st.2)).2=_
  rw[aEA mask k];show st.2 / 32 / 32^k=_;rw[Nat.div_div_eq_div_mul,Nat.pow_succ,Nat.mul_comm]
theorem aED(mask:Nat):∀(j k:Nat) (st:Nat×Nat),qb mask (j+k) st=qb mask k (qb mask j st)
 |0,k,st=>by rw[zFI];rfl
 |j+1,k,st=>by
  rw[show j+1+k=(j+k)+1 by lia];exact aED mask j k _
def orb(M:Nat):Nat->Nat->Nat
 |0,i=>i
 |k+1,i=>orb M k ((i*5+1)%M)
theorem zH(M:Nat):∀(j k i:Nat),orb M (j+k) i=orb M k (orb M j i)
 |0,k,i=>by rw[zFI];rfl
 |j+1,k,i=>by
  rw[show j+1+k=(j+k)+1 by lia];exact zH M j k _
theorem aEB(mask:Nat):∀(k i:Nat),qb mask k (i,0)=(orb (mask+1) k i,0)
 |0,i=>rfl
 |k+1,i=>by
  show qb mask k (zAo mask i 0)=_
  have:zAo mask i 0=((i*5+1)%(mask+1),0):=by simp[zAo]
  rw[this];exact aEB mask k _
def aHQ:∀M∈[8,32,128],(∀t∈zAh M,∃k∈zAh M,orb M k 0=t)/\orb M M 0=0:=by decide+kernel
def aLY(hm:mask=7\/mask=31\/mask=127)(hi:i<=mask)(ht:t<=mask):∃k,k<=mask/\orb (mask+1) k i=t:=by
 have hM:mask+1∈[8,32,128]:=by rcases hm with e|e|e<;>subst e<;>decide
 obtain⟨h1,h2⟩:=aHQ _ hM;obtain⟨a,ha,ea⟩:=h1 i (by simp;lia);obtain⟨b,hb,eb⟩:=h1 t (by simp;lia);simp only[zBC]at ha hb;by_cases hab:a<=b
 .refine⟨b-a,by lia,?_⟩
  rw[<-ea,<-zH,show a+(b-a)=b by lia,eb]
 .refine⟨mask+1-a+b,by lia,?_⟩
  rw[<-ea,<-zH,show a+(mask+1-a+b)=(mask+1)+b by lia,zH,h2,eb]
def aM3(h:Int):zAq h<2^64:=by
 unfold zAq;have h1:=zD6 h (show(2^64:Int)≠0 by decide);have h2:=zCx h (show(0:Int)<2^64 by decide);lia
def aEC(hm:mask=7\/mask=31\/mask=127)(h:Int)(ht:t<=mask)(y0:Nat):∃k,k<mask+15/\(qb mask k (y0,zAq h)).1=t:=by
 have e1:(qb mask 13 (y0,zAq h)).2=0:=by
  rw[aEA]
  have:=aM3 h
  exact Nat.div_eq_of_lt (zDh this (by decide))
 have e2:(qb mask 13 (y0,zAq h)).1<=mask:=by
  show(qb mask 12 (zAo mask y0 (zAq h))).1<=mask
  have go:∀k (st:Nat×Nat),st.1<=mask->(qb mask k st).1<=mask:=by
   intro k;induction k with
   |zero=>intro st q;exact q
   |succ k ih=>
    intro st q;refine ih _ ?_
    show(st.1*5+1+st.2 / 32)%(mask+1)<=mask
    exact zBm (zDF _ (zCq _))
  refine go 12 _ ?_
  show(y0*5+1+zAq h / 32)%(mask+1)<=mask
  exact zBm (zDF _ (zCq _))
 obtain⟨k,hk,ek⟩:=aLY hm e2 ht;refine⟨13+k,by lia,?_⟩;rw[aED];have e3:qb mask 13 (y0,zAq h)=((qb mask 13 (y0,zAq h)).1,0):=by rw[<-e1]
 rw[e3,aEB];exact ek
def wX(hi:i<=mask):i<=zAd mask i/\zAd mask i<=mask/\zAd mask i<=i+9:=by
 unfold zAd;split<;>lia
section
variable{t:zBy}{n:Nat}{hashAt:Nat->Int}{h:Int}
abbrev aGI(t:zBy)(i pert:Nat):zBg:={j:=i,more:=zAd t.mask i-i,i:=i,perturb:=pert,dummy:=none}
def aA8(fuel:Nat)(p:zBg):zBW t hashAt h (fuel+1) p=(match t.slot p.j with
  | .empty=>some (.empty p.j p.dummy)
  | .dummy=>zBW t hashAt h fuel (t.advance {p with dummy:=some p.j})
  | .live i=>if hashAt i==h then some (.candidate p.j i (t.advance p))else zBW t hashAt h fuel (t.advance p)):=rfl
theorem aJu(T:fU t n)(hh:∀i,i<n->hashAt i≠h):∀(m fuel:Nat) (p:zBg),p.more=m->p.dummy=none->
  (∃j,p.j<=j/\j<=p.j+m/\t.slot j= .empty/\zBW t hashAt h (fuel+m+1) p=some (.empty j none))\/
  (t.slot p.j≠.empty/\zBW t hashAt h (fuel+m+1) p=zBW t hashAt h fuel (aGI t (zAo t.mask p.i p.perturb).1 (zAo t.mask p.i p.perturb).2))
 |0,fuel,p,hm,hd=>by
  rw[show fuel+0+1=fuel+1 from rfl,aA8];rcases uz T p.j with e|⟨i,hi,e,_⟩
  .rw[e]
   exact .inl ⟨p.j,zAQ _,zAQ _,e,by rw[hd]⟩
  .rw[e]
   right;refine⟨by simp,?_⟩;dsimp only;rw[if_neg (by simpa using hh i hi)];congr 1;unfold zGc;rw[if_neg (by lia)];simp[aGI,hd]
 |m+1,fuel,p,hm,hd=>by
  rw[aA8];rcases uz T p.j with e|⟨i,hi,e,_⟩
  .rw[e]
   exact .inl ⟨p.j,zAQ _,by lia,e,by rw[hd]⟩
  .rw[e]
   dsimp only;rw[if_neg (by simpa using hh i hi)];have ha:t.advance p={p with j:=p.j+1,more:=p.more-1}:=by
    unfold zGc;rw[if_pos (by lia)]
   rw[ha];rcases aJu T hh m fuel {p with j:=p.j+1,more:=p.more-1} (by show p.more-1=m;lia) hd with ⟨j,q1,q2,q3,q4⟩|⟨q1,q2⟩
   .exact .inl ⟨j,by show p.j<=j;have:p.j+1<=j:=q1;lia,by have:j<=p.j+1+m:=q2;lia,q3,q4⟩
   .exact .inr ⟨by simp,q2⟩
theorem aGg(T:fU t n)(hh:∀i,i<n->hashAt i≠h):∀(N fuel i pert:Nat),i<=t.mask->10*N<=fuel->
  (∃j,j<=t.mask/\t.slot j= .empty/\zBW t hashAt h fuel (aGI t i pert)=some (.empty j none))\/∀k,k<N->t.slot (qb t.mask k (i,pert)).1≠.empty
 |0,fuel,i,pert,hi,hf=>.inr λ k hk=>by lia
 |N+1,fuel,i,pert,hi,hf=>by
  obtain⟨r1,r2,r3⟩:=wX hi;obtain⟨f',rfl⟩:∃f',fuel=f'+(zAd t.mask i-i)+1:=⟨fuel-(zAd t.mask i-i)-1,by lia⟩
  rcases aJu T hh (zAd t.mask i-i) f' (aGI t i pert) rfl rfl with ⟨j,q1,q2,q3,q4⟩|⟨q1,q2⟩
  .exact .inl ⟨j,by have:j<=i+(zAd t.mask i-i):=q2;lia,q3,q4⟩
  .have hl:(zAo t.mask i pert).1<=t.mask:=zBm (zDF _ (zCq _))
   rcases aGg T hh N f' _ (zAo t.mask i pert).2 hl (by lia)with ⟨j,s1,s2,s3⟩|s
   .exact .inl ⟨j,s1,s2,q2.trans s3⟩
   .right
    intro k hk;cases k with
    |zero=>exact q1
    |succ k=>exact s k (by lia)
def fU.mask3(T:fU t n):t.mask=7\/t.mask=31\/t.mask=127:=by
 rcases T.msk with ⟨e,_⟩|⟨e,_⟩|⟨e,_⟩
 .exact .inl e
 .exact .inr (.inl e)
 .exact .inr (.inr e)
def aFK(T:fU t n)(hh:∀i,i<n->hashAt i≠h):∃j,j<=t.mask/\t.slot j= .empty/\t.probe hashAt h (t.probeStart h)=some (.empty j none):=by
 have hs:zAq h%(t.mask+1)<=t.mask:=zBm (zDF _ (zCq _));rcases aGg T hh (t.mask+15) (10*zBE t.mask) _ (zAq h) hs (by unfold zBE;lia)with z|z
 .exact z
 .exfalso
  have pV:∀x∈zAh (t.mask+1),x∈t.place.toList:=by
   intro x hx;simp only[zBC]at hx;obtain⟨k,hk,ek⟩:=aEC T.mask3 h (t:=x) (by lia) (zAq h%(t.mask+1))
   have:=z k hk
   rw[ek]at this;rcases uz T x with e|⟨i,hi,_,e⟩
   .exact absurd e this
   .rw[<-e]
    have hi':i<t.place.size:=by rw[T.siz];exact hi
    rw[show t.place.getD i 0=t.place[i]by simp[zBt,hi']];exact zFa hi'
  have:=sub_len List.nodup_range pV
  have h2:=T.few;rw[zDD,zA2,T.siz]at this;lia
end
def zM(xs:Array α)(p:Nat)(x d:α)(hp:p<=xs.size)(i:Nat):(zBI xs p x).getD i d=if i<p then xs.getD i d else if i=p then x else xs.getD (i-1) d:=by
 have e:∀(ys:Array α) i,ys.getD i d=(ys.toList[i]?).getD d:=λ ys i=>by rw[zBL,zAf]
 rw[e,e,e,zDc];have hl:p<=xs.toList.length:=by simpa using hp
 by_cases h1:i<p
 .rw[if_pos h1,zCf (by rw[zCP];lia),List.getElem?_take,if_pos h1]
 .rw[if_neg h1,zDa (by rw[zCP];lia),zCP,Nat.min_eq_left hl]
  by_cases h2:i=p
  .rw[if_pos h2,h2,Nat.sub_self]
   rfl
  .rw[if_neg h2,show i-p=(i-p-1)+1 by lia,zGA,List.getElem?_drop]
   congr 2;lia
def aA4(xs:Array α)(p:Nat)(x:α):(zBI xs p x).size=xs.size+1:=by
 rw[<-zA2,(zF5 xs p x).length_eq,zEj];simp
def xZ{t:zBy}(hf:t.fill=n):t.tooFull=decide (t.mask*3<=n*5):=by unfold SetTable.tooFull;rw[hf]
structure uF(t:zBy)(n:Nat):Prop where
 dum:t.dummies=#[]
 siz:t.place.size=n
 ris:Ris t.place
 top:∀i,i<n->t.place.getD i 0<=t.mask
 msk:t.mask=7/\n<=5\/t.mask=31/\n<=19\/t.mask=127/\n<77
 pla:t.plain=true
theorem uF.fill(h:uF t n):t.fill=n:=by unfold zHX;rw[h.dum,h.siz];rfl
theorem uF.fits(h:uF t n):t.fits n=true:=by
 unfold zHY;rw[h.fill,h.siz]
 have:=h.msk
 simp;lia
def aNc(T:fU t n)(h64:n<76)(hj:j<=t.mask)(he:t.slot j= .empty):uF (t.put j).1 (n+1)/\(t.put j).2=zAm t.place j/\(t.put j).2<=n/\(t.put j).1.mask=t.mask/\(t.put j).1.led=t.led:=by
 have hno:=aDW T he;obtain⟨b1,b2,b3⟩:=vz T.ris j;have hsz:=T.siz;have hg:=zM t.place (zAm t.place j) j 0 b1;refine⟨⟨?_,?_,?_,?_,?_,T.pla⟩,rfl,by rw[<-hsz];exact b1,rfl,rfl⟩
 .show(if zDx t.dummies j then SetTable.eraseAt t.dummies (zAm t.dummies j)else t.dummies)=#[]
  rw[T.dum]
  have:zDx #[] j=false:=by unfold zDx;simp
  rw[this];rfl
 .show(zBI t.place _ j).size=n+1
  rw[aA4,hsz]
 .intro a b hab hb
  have hb':b<n+1:=by
   have:b<(zBI t.place (zAm t.place j) j).size:=hb
   rw[aA4,hsz]at this;exact this
  show(zBI t.place (zAm t.place j) j).getD a 0<(zBI t.place (zAm t.place j) j).getD b 0
  rw[hg,hg];by_cases a1:a<zAm t.place j
  .rw[if_pos a1]
   by_cases c1:b<zAm t.place j
   .rw[if_pos c1];exact T.ris a b hab (by lia)
   .rw[if_neg c1]
    by_cases c2:b=zAm t.place j
    .rw[if_pos c2];exact b2 a a1
    .rw[if_neg c2]
     exact T.ris a (b-1) (by lia) (by lia)
  .rw[if_neg a1,if_neg (show¬b<zAm t.place j by lia),if_neg (show¬b=zAm t.place j by lia)]
   by_cases a2:a=zAm t.place j
   .rw[if_pos a2]
    have q1:=b3 (b-1) (by lia) (by lia);have q2:=hno (b-1) (by lia);lia
   .rw[if_neg a2]
    exact T.ris (a-1) (b-1) (by lia) (by lia)
 .intro i hi
  show(zBI t.place (zAm t.place j) j).getD i 0<=t.mask
  rw[hg];split
  .exact T.top i (by lia)
  .split
   .exact hj
   .exact T.top (i-1) (by lia)
 .have:=T.msk
  show t.mask=7/\n+1<=5\/t.mask=31/\n+1<=19\/t.mask=127/\n+1<77;lia
def uF.still{t:zBy}(h:uF t n)(hf:t.tooFull=false):fU t n:=by
 rw[xZ h.fill]at hf;simp only[decide_eq_false_iff_not]at hf;refine⟨h.dum,h.siz,h.ris,h.top,?_,h.pla⟩;rcases h.msk with ⟨e,l⟩|⟨e,l⟩|⟨e,l⟩<;>rw[e]at hf
 .exact .inl ⟨e,by lia⟩
 .exact .inr (.inl ⟨e,by lia⟩)
 .exact .inr (.inr ⟨e,by lia⟩)
def uF.full{t:zBy}(h:uF t n)(h64:n<=76)(hf:t.tooFull=true):n=5\/n=19:=by
 rw[xZ h.fill]at hf;simp only[decide_eq_true_eq]at hf
 have:=h.msk
 lia
def heldBy(owner:Array (Option Nat)):List Nat:=owner.toList.filterMap id
theorem aA7:∀(l:kQ) (j x:Nat),l[j]? =some none->((l.set j (some x)).filterMap id).Perm (x::l.filterMap id)
 |[],j,x,h=>by simp at h
 |a::l,0,x,h=>by
  simp at h;subst h;exact zB3 _
 |none::l,j+1,x,h=>by
  have ih:=aA7 l j x (by simpa using h);simpa using ih
 |some a::l,j+1,x,h=>by
  have ih:=aA7 l j x (by simpa using h)
  have:(((some a::l).set (j+1) (some x)).filterMap id).Perm (a::x::l.filterMap id):=by
   simpa using ih.cons a
  exact this.trans (zED _ _ _)
theorem aBl:∀(l:kQ),(∀j,j<l.length->∃x,l[j]? =some (some x))->(l.filterMap id).length=l.length
 |[],_=>rfl
 |a::l,h=>by
  obtain⟨x,e⟩:=h 0 (by simp);have ex:a=some x:=by simpa using e
  subst ex;have ih:=aBl l λ j hj=>by simpa using h (j+1) (by simpa using hj)
  simp[ih]
theorem aGh(ho:owner.size=mask+1):∀(N i pert:Nat),i<=mask->
  (∃j,owner.toList[j]? =some none/\zBG mask owner N i pert=some j)\/∀k,k<N->∃x,owner.toList[(qb mask k (i,pert)).1]? =some (some x)
 |0,i,pert,hi=>.inr λ k hk=>by lia
 |N+1,i,pert,hi=>by
  obtain⟨r1,r2,r3⟩:=wX hi;have bX:zBG mask owner (N+1) i pert=(match (zAh (zAd mask i+1-i)).find? λ k=>(owner.getD (i+k) (some 0)).isNone with
   |some k=>some (i+k)
   |none=>zBG mask owner N (zAo mask i pert).1 (zAo mask i pert).2):=rfl
  rw[bX];cases hf:(zAh (zAd mask i+1-i)).find? λ k=>(owner.getD (i+k) (some 0)).isNone with
  |some k=>
   left;have h1:=zFe hf;have h2:=List.find?_some hf;simp only[zBC]at h1;have hlt:i+k<owner.size:=by lia
   refine⟨i+k,?_,rfl⟩;have e:owner.getD (i+k) (some 0)=owner[i+k]:=by simp[zBt,hlt]
   rw[e]at h2;rw[zAf,zB2];exact⟨hlt,by simpa using h2⟩
  |none=>
   have h0:=zGy.mp hf 0 (by simp;lia);have hlt:i<owner.size:=by lia
   have e:owner.getD (i+0) (some 0)=owner[i]:=by simp[zBt,hlt]
   rw[e]at h0;have hl:(zAo mask i pert).1<=mask:=zBm (zDF _ (zCq _));rcases aGh ho N _ (zAo mask i pert).2 hl with ⟨j,s1,s2⟩|s
   .exact .inl ⟨j,s1,s2⟩
   .right
    intro k hk;cases k with
    |zero=>
     show∃x,owner.toList[i]? =some (some x)
     rw[zAf];cases q:owner[i]with
     |none=>rw[q]at h0;simp at h0
     |some x=>exact⟨x,by rw[zB2];exact⟨hlt,q⟩⟩
    |succ k=>exact s k (by lia)
def aHf(hm:mask=7\/mask=31\/mask=127)(ho:owner.size=mask+1)(hfew:(heldBy owner).length<mask+1)(h:Int):
  ∃j,owner.toList[j]? =some none/\zBG mask owner (zBE mask) (zAq h%(mask+1)) (zAq h)=some j:=by
 rcases aGh ho (zBE mask) _ (zAq h) (zBm (zDF (zAq h) (zCq mask)))with z|z
 .exact z
 .exfalso
  have:=aBl owner.toList λ j hj=>by
   rw[zA2,ho]at hj;obtain⟨k,hk,ek⟩:=aEC hm h (t:=j) (by lia) (zAq h%(mask+1));obtain⟨x,e⟩:=z k (by unfold zBE;lia);rw[ek]at e;exact⟨x,e⟩
  unfold heldBy at hfew;rw[this,zA2]at hfew;lia
def jU(mask:Nat)(acc:Option (Array (Option Nat)×Nat))(h:Int):Option (Array (Option Nat)×Nat):=do
 let(owner,k) <-acc
 let j <-zBG mask owner (zBE mask) (zAq h%(mask+1)) (zAq h)
 pure (owner.setIfInBounds j (some k),k+1)
theorem aAZ(hm:mask=7\/mask=31\/mask=127):∀(hs:List Int) (owner:Array (Option Nat)) (k:Nat),owner.size=mask+1->(heldBy owner).Perm (zAh k)->k+hs.length<=mask->
  ∃owner',hs.foldl (jU mask) (some (owner,k))=some (owner',k+hs.length)/\owner'.size=mask+1/\(heldBy owner').Perm (zAh (k+hs.length))
 |[],owner,k,ho,hp,hl=>⟨owner,rfl,ho,hp⟩
 |h::hs,owner,k,ho,hp,hl=>by
  rw[zA0]at hl;obtain⟨j,e1,e2⟩:=aHf hm ho (by rw[hp.length_eq,zDD];lia) h;have hst:jU mask (some (owner,k)) h=some (owner.setIfInBounds j (some k),k+1):=by
   unfold jU;simp[e2]
  rw[zBn,hst];obtain⟨o',f1,f2,f3⟩:=aAZ hm hs (owner.setIfInBounds j (some k)) (k+1) (by simpa using ho) (by
   unfold heldBy;rw[zD5];refine(aA7 owner.toList j k e1).trans ?_;rw[List.range_succ];exact(zGk k hp).trans (List.perm_append_singleton k _).symm) (by lia)
  refine⟨o',?_,f2,?_⟩
  .rw[f1,zA0,show k+1+hs.length=k+(hs.length+1)by lia]
  .rw[zA0,show k+(hs.length+1)=k+1+hs.length by lia]
   exact f3
def aEP(m:Nat):heldBy (zDY m none)=[]:=by
 unfold heldBy;rw[zFv];induction m with
 |zero=>rfl
 |succ m ih=>rw[zBa];simpa using ih
def aEG(hm:mask=7\/mask=31\/mask=127)(hs:Array Int)(hl:hs.size<=mask):∃owner,zDb mask hs=some owner/\owner.size=mask+1/\(heldBy owner).Perm (zAh hs.size):=by
 obtain⟨o',f1,f2,f3⟩:=aAZ hm hs.toList (zDY (mask+1) none) 0 (by simp) (by rw[aEP];exact zB3 _) (by simpa using hl);refine⟨o',?_,f2,by simpa using f3⟩;have e:zDb mask hs=(hs.foldl (jU mask) (some (zDY (mask+1) none,0))).map (·.1):=rfl;rw[e,<-zGg,f1];rfl
def fK(owner:Array (Option Nat))(m:Nat):List (Nat×Nat):=(zAh m).filterMap λ j=>(owner.getD j none).map (j,·)
theorem aDy:∀(l:kQ) (b:Nat) (f:Nat->Option Nat),(∀i,i<l.length->f (b+i)=(l[i]?).getD none)->
  ((zGn b l.length).filterMap λ j=>(f j).map (j,·)).map (·.2)=l.filterMap id
 |[],_,_,_=>rfl
 |a::l,b,f,h=>by
  have h0:=h 0 (by simp);simp at h0;have ih:=aDy l (b+1) f λ i hi=>by
   have:=h (i+1) (by simpa using hi)
   rw[show b+(i+1)=b+1+i by lia]at this;simpa using this
  rw[zA0,zHe,zBN,h0];cases a with
  |none=>simpa using ih
  |some x=>simpa using ih
def aFY(owner:Array (Option Nat)):(fK owner owner.size).map (·.2)=heldBy owner:=by
 have:=aDy owner.toList 0 (λ j=>owner.getD j none) λ i hi=>by
  rw[zFI,zBL,zAf]
 unfold fK heldBy;rw[zG9,<-this,zA2]
theorem aDz(f:Nat->Option Nat):∀(m b:Nat),(((zGn b m).filterMap λ j=>(f j).map (j,·)).map (·.1)).Pairwise (·< ·)/\∀x∈((zGn b m).filterMap λ j=>(f j).map (j,·)).map (·.1),b<=x/\x<b+m
 |0,b=>⟨.nil,λ x hx=>by simp at hx⟩
 |m+1,b=>by
  obtain⟨ih1,ih2⟩:=aDz f m (b+1);rw[zHe,zBN];cases hf:f b with
  |none=>
   simp only[zHU];exact⟨ih1,λ x hx=>by have:=ih2 x hx;lia⟩
  |some y=>
   simp only[zCr,zAE];refine⟨zBB.mpr ⟨λ x hx=>by have:=ih2 x hx;lia,ih1⟩,λ x hx=>?_⟩;rcases zAO.mp hx with e|hx
   .lia
   .have:=ih2 x hx
    lia
def aFC{l:List Nat}(h:l.Pairwise (·< ·)):Ris l.toArray:=by
 intro i j hij hj;have hj':j<l.length:=by simpa using hj
 have e:∀k,k<l.length->l.toArray.getD k 0=l[k]!:=λ k hk=>by simp[zBt,hk]
 have:=zCh.mp h i j (by lia) hj' hij
 simp[zBt,hj',show i<l.length by lia];exact this
def aI2{t:zBy}(hp:t.plain=true)(hn:n=5\/n=19)(hs:Array Int)(hl:hs.size=n):
  ∃t' order,t.relaid hs (zCy n)=some (t',order)/\fU t' n/\t'.led=t.led/\order.toList.Perm (zAh n):=by
 have hm:∃mask,zEX (zCy n)-1=mask/\(mask=31/\n=5\/mask=127/\n=19):=by
  rcases hn with e|e<;>subst e
  .exact⟨31,by decide,.inl ⟨rfl,rfl⟩⟩
  .exact⟨127,by decide,.inr ⟨rfl,rfl⟩⟩
 obtain⟨mask,em,hmn⟩:=hm;have hm3:mask=7\/mask=31\/mask=127:=by lia
 obtain⟨owner,o1,o2,o3⟩:=aEG hm3 hs (by lia);have hsnd:=aFY owner;obtain⟨r1,r2⟩:=aDz (λ j=>owner.getD j none) (mask+1) 0;rw[<-zG9]at r1 r2;have kK:((fK owner (mask+1)).map (·.1)).length=n:=by
  rw[zAF,<-zAF (f:=(·.2)),<-o2,hsnd,o3.length_eq,zDD,hl]
 refine⟨{mask:=mask,place:=((fK owner (mask+1)).map (·.1)).toArray,dummies:=#[],finger:=t.finger,led:=t.led,moves:=t.movedTo mask,plain:=t.plain},((fK owner (mask+1)).map (·.2)).toArray,?_,⟨rfl,?_,aFC r1,?_,?_,hp⟩,rfl,?_⟩
 .unfold zGq zHZ
  rw[em,o1];rfl
 .simpa using kK
 .intro i hi
  have hi':i<((fK owner (mask+1)).map (·.1)).length:=by rw[kK];exact hi
  show((fK owner (mask+1)).map (·.1)).toArray.getD i 0<=mask
  have:((fK owner (mask+1)).map (·.1)).toArray.getD i 0=((fK owner (mask+1)).map (·.1))[i]:=by
   rw[zBL,List.getElem?_toArray,zAB hi'];rfl
  rw[this]
  have:=r2 _ (zCj hi')
  lia
 .show mask=7/\n<5\/mask=31/\n<19\/mask=127/\n<77
  lia
 .show((fK owner (mask+1)).map (·.2)).Perm (zAh n)
  rw[<-o2,hsnd,<-hl];exact o3
def aFq(mask:Nat)(p:zBg):zBg:=
 if p.more>0 then{p with j:=p.j+1,more:=p.more-1}else
 {p with j:=(zAo mask p.i p.perturb).1,more:=zAd mask (zAo mask p.i p.perturb).1-(zAo mask p.i p.perturb).1,i:=(zAo mask p.i p.perturb).1,perturb:=(zAo mask p.i p.perturb).2}
abbrev aHC(mask i pert:Nat):zBg:={j:=i,more:=zAd mask i-i,i:=i,perturb:=pert,dummy:=none}
def pst(mask:Nat)(h:Int):Nat->zBg
 |0=>aHC mask (zAq h%(mask+1)) (zAq h)
 |k+1=>aFq mask (pst mask h k)
def aK0(mask:Nat)(p:zBg):(aFq mask p).dummy=p.dummy:=by unfold aFq;split<;>rfl
theorem aGO(mask:Nat)(h:Int):∀k,(pst mask h k).dummy=none
 |0=>rfl
 |k+1=>(aK0 mask _).trans (aGO mask h k)
def nM(mask:Nat)(L:List (Int×Nat)):Prop:=∀e∈L,∃k,(pst mask e.1 k).j=e.2/\k<10*zBE mask/\∀k',k'<k->∃e'∈L,e'.2=(pst mask e.1 k').j
def nM.perm(h:nM mask L)(p:L'.Perm L):nM mask L':=λ e he=>by
 obtain⟨k,a,b,c⟩:=h e (p.mem_iff.mp he);exact⟨k,a,b,λ k' hk=>by obtain⟨e',x,y⟩:=c k' hk;exact⟨e',p.mem_iff.mpr x,y⟩⟩
def nM.cons(h:nM mask L)(hx:∃k,(pst mask x.1 k).j=x.2/\k<10*zBE mask/\∀k',k'<k->∃e'∈L,e'.2=(pst mask x.1 k').j):nM mask (x::L):=λ e he=>by
 rcases zAO.mp he with rfl|he
 .obtain⟨k,a,b,c⟩:=hx
  exact⟨k,a,b,λ k' hk=>by obtain⟨e',x,y⟩:=c k' hk;exact⟨e',zAH _ x,y⟩⟩
 .obtain⟨k,a,b,c⟩:=h e he
  exact⟨k,a,b,λ k' hk=>by obtain⟨e',x,y⟩:=c k' hk;exact⟨e',zAH _ x,y⟩⟩
section
variable{t:zBy}{n:Nat}{hashAt:Nat->Int}{h:Int}
def aB2(T:fU t n)(hi:i<n):t.slot (t.place.getD i 0)= .live i:=by
 rcases uz T (t.place.getD i 0)with e|⟨i',h1,h2,h3⟩
 .exact absurd rfl (aDW T e i hi)
 .have:i'=i:=by
   rcases zEx i' i with z|z|z
   .have:=T.ris i' i z (by rw[T.siz];exact hi);lia
   .exact z
   .have:=T.ris i i' z (by rw[T.siz];exact h1);lia
  rw[h2,this]
theorem aEQ(T:fU t n)(hi:i<n)(hh:hashAt i=h)(hu:∀i',i'<n->hashAt i'=h->i'=i):∀(d k fuel:Nat),(pst t.mask h (k+d)).j=t.place.getD i 0->d<fuel->(∀k',k'<k+d->∃i',i'<n/\t.place.getD i' 0=(pst t.mask h k').j)->
  ∃j nx,zBW t hashAt h fuel (pst t.mask h k)=some (.candidate j i nx)
 |d,k,0,_,hf,_=>by lia
 |0,k,fuel+1,hj,hf,hp=>by
  rw[aA8];have hj':(pst t.mask h k).j=t.place.getD i 0:=hj;rw[hj',aB2 T hi];dsimp only;rw[if_pos (by simp[hh])];exact⟨_,_,rfl⟩
 |d+1,k,fuel+1,hj,hf,hp=>by
  rw[aA8];obtain⟨i',h1,h2⟩:=hp k (by lia);rw[<-h2,aB2 T h1];dsimp only;by_cases e:hashAt i'=h
  .rw[if_pos (by simp[e]),hu i' h1 e]
   exact⟨_,_,rfl⟩
  .rw[if_neg (by simpa using e)]
   exact aEQ T hi hh hu d (k+1) fuel (by rw[show k+1+d=k+(d+1)by lia];exact hj) (by lia) (by rw[show k+1+d=k+(d+1)by lia];exact hp)
theorem aJt(T:fU t n):∀(fuel k:Nat),zBW t hashAt h fuel (pst t.mask h k)=some (.empty j none)->∃K,k<=K/\K<k+fuel/\(pst t.mask h K).j=j/\∀k',k<=k'->k'<K->∃i',i'<n/\t.place.getD i' 0=(pst t.mask h k').j
 |0,k,e=>by cases e
 |fuel+1,k,e=>by
  rw[aA8]at e;rcases uz T (pst t.mask h k).j with q|⟨i,hi,q,hp⟩
  .rw[q]at e
   dsimp only at e;rw[aGO]at e;injection e with e
   injection e with e
   exact⟨k,zAQ _,by lia,e,λ k' a b=>by lia⟩
  .rw[q]at e
   dsimp only at e;split at e
   .cases e
   .obtain⟨K,a,b,c,d⟩:=aJt T fuel (k+1) e
    refine⟨K,by lia,by lia,c,λ k' a' b'=>?_⟩;by_cases z:k'=k
    .subst z;exact⟨i,hi,hp⟩
    .exact d k' (by lia) b'
end
def tlS(t:zBy)(es:hV):List (Int×Nat):=(es.toList.map (·.1)).zip t.place.toList
def aMg(T:fU t es.size)(hi:i<es.size):(es[i].1,t.place.getD i 0)∈tlS t es:=by
 have h2:i<t.place.size:=by rw[T.siz];exact hi
 refine zEM.mpr ⟨i,?_⟩;unfold tlS;rw[zCg];constructor
 .rw[zAR,zAf,zAs hi];rfl
 .rw[zAf,zAs h2]
  simp[zBt,h2]
def aNO(T:fU t es.size)(he:e∈tlS t es):∃i,i<es.size/\t.place.getD i 0=e.2:=by
 obtain⟨i,hi⟩:=zEM.mp he;unfold tlS at hi;have h:=(zCg.mp hi).2;rw[zAf]at h;obtain⟨h1,h2⟩:=zB2.mp h;exact⟨i,by rw[<-T.siz];exact h1,by simp[zBt,h1,h2]⟩
def aDn(T:fU t es.size)(P:nM t.mask (tlS t es))(hi:i<es.size)(hu:∀i' (q:i'<es.size),es[i'].1=es[i].1->i'=i):
  ∃j nx,t.probe (λ i=>(es[i]?.map (·.1)).getD 0) es[i].1 (t.probeStart es[i].1)=some (.candidate j i nx):=by
 obtain⟨k,a,b,c⟩:=P _ (aMg T hi);have hat:∀i' (q:i'<es.size),(es[i']?.map (·.1)).getD 0=es[i'].1:=λ i' q=>by rw[zAs q];rfl
 have:=aEQ (hashAt:=λ i=>(es[i]?.map (·.1)).getD 0) T hi (hat i hi) (λ i' q e=>hu i' q ((hat i' q).symm.trans e)) k 0 (10*zBE t.mask) (by rw[zFI];exact a) b λ k' hk=>by
  obtain⟨e',x,y⟩:=c k' (by lia);obtain⟨i',z1,z2⟩:=aNO T x;exact⟨i',z1,z2.trans y⟩
 unfold SetTable.probe;exact this
def aHJ(T:fU t es.size)(e:t.probe hashAt h (t.probeStart h)=some (.empty j none)):∃k,(pst t.mask h k).j=j/\k<10*zBE t.mask/\∀k',k'<k->∃e'∈tlS t es,e'.2=(pst t.mask h k').j:=by
 obtain⟨K,a,b,c,d⟩:=aJt T (10*zBE t.mask) 0 e;refine⟨K,c,by lia,λ k' hk=>?_⟩;obtain⟨i',h1,h2⟩:=d k' (zAk _) hk;exact⟨_,aMg T h1,h2⟩
def aNN(T:fU t es.size)(hp:p<=es.size):(((zBI es p x).toList.map (·.1)).zip (zBI t.place p j).toList).Perm ((x.1,j)::tlS t es):=by
 rw[zDc,zDc,zBA,zAE];have hs:=T.siz;rw[zHt (by simp[hs]),zAv];refine zHd.trans (zGk _ ?_)
 have:tlS t es=((es.toList.map (·.1)).take p++(es.toList.map (·.1)).drop p).zip (t.place.toList.take p++t.place.toList.drop p):=by rw[zBx,zBx];rfl
 rw[this,zHt (by simp[hs]),zGD,zGC]
theorem zG(e:pst mask h k=aHC mask i pert):∀m,m<=zAd mask i-i->pst mask h (k+m)={aHC mask i pert with j:=i+m,more:=zAd mask i-i-m}
 |0,_=>by rw[Nat.add_zero,e];simp
 |m+1,hm=>by
  show aFq mask (pst mask h (k+m))=_;rw[zG e m (by lia)];unfold aFq;rw[if_pos (show zAd mask i-i-m>0 by lia)];simp;lia
def aIi(e:pst mask h k=aHC mask i pert):pst mask h (k+(zAd mask i-i)+1)=aHC mask (zAo mask i pert).1 (zAo mask i pert).2:=by
 show aFq mask (pst mask h (k+(zAd mask i-i)))=_;rw[zG e _ (zAQ _)];unfold aFq;rw[if_neg (by show¬zAd mask i-i-(zAd mask i-i)>0;lia)]
theorem aES(ho:owner.size=mask+1):∀(N i pert k:Nat),i<=mask->pst mask h k=aHC mask i pert->zBG mask owner N i pert=some j->
  ∃K,k<=K/\K<k+10*N/\(pst mask h K).j=j/\∀k',k<=k'->k'<K->∃x,owner.toList[(pst mask h k').j]? =some (some x)
 |0,i,pert,k,hi,e,q=>by cases q
 |N+1,i,pert,k,hi,e,q=>by
  obtain⟨r1,r2,r3⟩:=wX hi;have bX:zBG mask owner (N+1) i pert=(match (zAh (zAd mask i+1-i)).find? λ k=>(owner.getD (i+k) (some 0)).isNone with
   |some k=>some (i+k)
   |none=>zBG mask owner N (zAo mask i pert).1 (zAo mask i pert).2):=rfl
  rw[bX]at q;have full:∀m,m<=zAd mask i-i->((owner.getD (i+m) (some 0)).isNone)=false->∃x,owner.toList[(pst mask h (k+m)).j]? =some (some x):=λ m hm z=>by
   rw[zG e m hm]
   show∃x,owner.toList[i+m]? =some (some x)
   have hlt:i+m<owner.size:=by lia
   rw[show owner.getD (i+m) (some 0)=owner[i+m]by simp[zBt,hlt]]at z;rw[zAf];cases w:owner[i+m]with
   |none=>rw[w]at z;cases z
   |some x=>exact⟨x,by rw[zB2];exact⟨hlt,w⟩⟩
  cases hf:(zAh (zAd mask i+1-i)).find? λ k=>(owner.getD (i+k) (some 0)).isNone with
  |some m=>
   rw[hf]at q;cases q;have h1:=zFe hf;simp only[zBC]at h1;refine⟨k+m,by lia,by lia,by rw[zG e m (by lia)],λ k' a b=>?_⟩;obtain⟨d,rfl⟩:∃d,k'=k+d:=⟨k'-k,by lia⟩
   refine full d (by lia) ?_
   have:=(List.find?_range_eq_some.mp hf).2.2 d (by lia)
   exact(zDo _).mp this
  |none=>
   rw[hf]at q;have hl:(zAo mask i pert).1<=mask:=zBm (zDF _ (zCq _));obtain⟨K,a,b,c,d⟩:=aES ho N _ _ _ hl (aIi e) q;refine⟨K,by lia,by lia,c,λ k' a' b'=>?_⟩;by_cases z:k'<k+(zAd mask i-i)+1
   .obtain⟨m,rfl⟩:∃m,k'=k+m:=⟨k'-k,by lia⟩
    refine full m (by lia) ?_;exact zHO.mpr (zGy.mp hf m (by simp;lia))
   .exact d k' (by lia) b'
def aK4(mask:Nat)(hs:List Int)(owner:Array (Option Nat)):Prop:=∀j x,owner.toList[j]? =some (some x)->∃h,hs[x]? =some h/\∃K,(pst mask h K).j=j/\K<10*zBE mask/\∀k',k'<K->∃y,owner.toList[(pst mask h k').j]? =some (some y)
def aK4.set{K k j:Nat}(O:aK4 mask hs owner)(hx:hs[k]? =some h)(hK:(pst mask h K).j=j)(hK2:K<10*zBE mask)(hp:∀k',k'<K->∃y,owner.toList[(pst mask h k').j]? =some (some y)):aK4 mask hs (owner.setIfInBounds j (some k)):=by
 have keep:∀(a:Nat),(∃y,owner.toList[a]? =some (some y))->∃y,(owner.setIfInBounds j (some k)).toList[a]? =some (some y):=λ a ⟨y,e⟩=>by
  rw[zD5,zEr];by_cases z:j=a
  .subst z
   rw[if_pos rfl]
   have:=(zAK.mp e).1
   exact⟨k,by rw[if_pos this]⟩
  .rw[if_neg z];exact⟨y,e⟩
 intro a x e;rw[zD5,zEr]at e;by_cases z:j=a
 .subst z
  rw[if_pos rfl]at e;split at e
  .cases e
   exact⟨h,hx,K,hK,hK2,λ k' q=>keep _ (hp k' q)⟩
  .cases e
 .rw[if_neg z]at e
  obtain⟨h',a1,K',a2,a3,a4⟩:=O a x e;exact⟨h',a1,K',a2,a3,λ k' q=>keep _ (a4 k' q)⟩
theorem aG6(all:List Int):∀(hs:List Int) (owner:Array (Option Nat)) (k:Nat),owner.size=mask+1->all.drop k=hs->aK4 mask all owner->∀o' k',hs.foldl (jU mask) (some (owner,k))=some (o',k')->aK4 mask all o'
 |[],owner,k,ho,hd,O,o',k',e=>by cases e;exact O
 |h::hs,owner,k,ho,hd,O,o',k',e=>by
  rw[zBn]at e;cases q:zBG mask owner (zBE mask) (zAq h%(mask+1)) (zAq h)with
  |none=>
   have hst:jU mask (some (owner,k)) h=none:=by unfold jU;simp[q]
   rw[hst]at e
   have:∀l:List Int,l.foldl (jU mask) none=none:=λ l=>by induction l with
    |nil=>rfl
    |cons a l ih=>rw[zBn];exact ih
   rw[this]at e;cases e
  |some j=>
   have hst:jU mask (some (owner,k)) h=some (owner.setIfInBounds j (some k),k+1):=by unfold jU;simp[q]
   rw[hst]at e;obtain⟨K,a,b,c,d⟩:=aES (h:=h) ho (zBE mask) _ _ 0 (zBm (zDF _ (zCq _))) rfl q;have hk:all[k]? =some h:=by
    have:=congrArg (·[0]?) hd
    simpa using this
   refine aG6 all hs _ (k+1) (by simpa using ho) ?_ (O.set hk c (by lia) λ k' q=>d k' (zAk _) q) o' k' e
   have:=congrArg (List.drop 1) hd
   rw[List.drop_drop]at this;simpa using this
def aAW(h:p∈fK owner m):owner.toList[p.1]? =some (some p.2):=by
 unfold fK at h;obtain⟨j,hj,e⟩:=zBZ.mp h;cases q:owner.getD j none with
 |none=>rw[q]at e;cases e
 |some x=>
  rw[q]at e;cases e;rw[zAf];rw[zBL]at q;cases w:owner[j]? with
  |none=>rw[w]at q;cases q
  |some y=>rw[w]at q;rw[show y=some x from q]
def aFZ(hj:j<m)(h:owner.toList[j]? =some (some x)):(j,x)∈fK owner m:=by
 unfold fK;refine zBZ.mpr ⟨j,zBC.mpr hj,?_⟩;rw[zAf]at h;rw[zBL,h];rfl
theorem aGi(es:hV):∀l:List (Nat×Nat),(∀p∈l,∃h,(es.toList.map (·.1))[p.2]? =some h)->((l.map (·.2)).filterMap (es[·]?)).map (·.1)=l.map λ p=>((es.toList.map (·.1))[p.2]?).getD 0
 |[],_=>rfl
 |p::l,h=>by
  obtain⟨x,e⟩:=h p zAI;have ih:=aGi es l λ q hq=>h q (zAH _ hq)
  rw[zAE,zAE,zBN];have e':=e;rw[zAR,zAf]at e';cases w:es[p.2]? with
  |none=>rw[w]at e';cases e'
  |some y=>
   rw[w]at e';dsimp only;rw[zAE,ih,e];rw[show y.1=x from zAc e'];rfl
theorem aDK(f:α->β)(g:α->γ):∀l:List α,(l.map f).zip (l.map g)=l.map λ a=>(f a,g a)
 |[]=>rfl
 |a::l=>by rw[zAE,zAE,zAv,aDK f g l];rfl
def aHF{t:zBy}(hn:n=5\/n=19)(es:hV)(hl:es.size=n)(e:t.relaid (es.map (·.1)) (zCy n)=some (t',order)):nM t'.mask (tlS t' (order.filterMap (es[·]?))):=by
 have hm:∃mask,zEX (zCy n)-1=mask/\(mask=31/\n=5\/mask=127/\n=19):=by
  rcases hn with e|e<;>subst e
  .exact⟨31,by decide,.inl ⟨rfl,rfl⟩⟩
  .exact⟨127,by decide,.inr ⟨rfl,rfl⟩⟩
 obtain⟨mask,em,hmn⟩:=hm;have hm3:mask=7\/mask=31\/mask=127:=by lia
 obtain⟨owner,f1,f2,f3⟩:=aAZ hm3 (es.map (·.1)).toList (zDY (mask+1) none) 0 (by simp) (by rw[aEP];exact zB3 _) (by simp;lia);have o1:zDb mask (es.map (·.1))=some owner:=by
  have e:zDb mask (es.map (·.1))=((es.map (·.1)).foldl (jU mask) (some (zDY (mask+1) none,0))).map (·.1):=rfl;rw[e,<-zGg,f1];rfl
 have O:=aG6 (mask:=mask) (es.map (·.1)).toList _ _ 0 (by simp) rfl (λ j x q=>by
  rw[zFv,zDu]at q;split at q<;>cases q) _ _ f1
 unfold zGq zHZ at e;rw[em,o1]at e;cases e;rw[Array.toList_map]at O;show nM mask _;have et:tlS {mask:=mask,place:=((fK owner (mask+1)).map (·.1)).toArray,dummies:=#[],finger:=t.finger,led:=t.led,moves:=t.movedTo mask,plain:=t.plain} (((fK owner (mask+1)).map (·.2)).toArray.filterMap (es[·]?))=(fK owner (mask+1)).map λ p=>(((es.toList.map (·.1))[p.2]?).getD 0,p.1):=by
  unfold tlS;rw[zFu,aGi es _ λ p hp=>by
   obtain⟨h,q,_⟩:=O p.1 p.2 (aAW hp);exact⟨h,q⟩]
  exact aDK _ _ _
 show nM mask (tlS {mask:=mask,place:=((fK owner (mask+1)).map (·.1)).toArray,dummies:=#[],finger:=t.finger,led:=t.led,moves:=t.movedTo mask,plain:=t.plain} (((fK owner (mask+1)).map (·.2)).toArray.filterMap (es[·]?)));rw[et];intro e he;obtain⟨p,hp,rfl⟩:=zAY.mp he;obtain⟨h,q,K,a,b,c⟩:=O p.1 p.2 (aAW hp);dsimp only;rw[q];refine⟨K,a,b,λ k' hk=>?_⟩;obtain⟨y,z⟩:=c k' hk;refine⟨_,zAY.mpr ⟨((pst mask h k').j,y),aFZ ?_ z,rfl⟩,rfl⟩
 have:=(zAK.mp z).1
 rw[zA2,f2]at this;exact this
abbrev dC(es:hV)(ep:Nat)(t:zBy):Obj:={cls:=.type "set",dict:=none,data:=.set es ep t}
def SetT(h:Heap)(a:Addr)(es:hV)(t:zBy):Prop:=∃ep,h.get? a=some (dC es ep t)
structure TupAt(h:Heap)(x:Addr)(ns:List Int):Prop where
 ex:∃o xs k,h.get? x=some o/\o.cls= .type "tuple"/\o.data= .seq xs k/\zBQ xs.toList ns
theorem nu:∀{vs:List Value} {ns:List Int},zBQ vs ns->ItemsAre (zIE prog w) ns vs
 |_,_,.nil=>.nil
 |_,_,.cons n t r=>.cons (intKind_is _ _ n t) (nu r)
section
variable{prog:zAS}{w:World}{A:zA6}{E:Value->zAD->Prop}{s:zAD}
theorem oU{fuel:Nat}:∀{vs:List Value} {ns:List Int},zBQ vs ns->∀v∈vs,zGR fuel v=pure true
 |_,_,.nil,v,hv=>by simp at hv
 |_,_,.cons n t r,v,hv=>by
  rcases zAO.mp hv with rfl|hv
  .cases fuel<;>rfl
  .exact oU r v hv
def ym{x:Addr}(hx:TupAt s.heap x ns)(h:Q true s):wpAny (model prog w) A (zGR 8 (.ref x)) Q E s:=by
 obtain⟨o,xs,k,ho,hc,hd,hi⟩:=hx.ex;have hT:s.TypeIs (.ref x) "tuple":=⟨o,ho,hc⟩;unfold zGR;refine zAC (wpAny_specialOf hT PySem.F.slot_tuple_hash.lookup ?_);dsimp only;refine zAC (wpAny_seqItems ho hd ?_);refine zAC ?_;show wpAny (model prog w) A (forIn xs _ _) _ _ _;rw[<-zGh];refine zBP (zD9 _ (λ rest b s'=>b.1=none/\s'=s/\∀v∈rest,zGR 7 v=pure true) (λ b s'=>b.1=none/\s'=s) ?_ ?_ _ _ ⟨rfl,rfl,oU hi⟩) ?_ λ _ _ e=>e
 .rintro v rest b s' ⟨hb,rfl,hr⟩
  rw[hr v zAI];refine zAC (zAL ?_);simp only[zCs,zA1,if_false];exact zAL ⟨rfl,rfl,λ u hu=>hr u (zAH _ hu)⟩
 .rintro b s' ⟨hb,rfl,_⟩
  exact⟨hb,rfl⟩
 .rintro⟨b1,b2⟩ s' ⟨hb,rfl⟩
  dsimp only at hb;subst hb;exact zAL h
def aII(ho:s.heap.get? a=some (dC es ep t))(hz:es'.size<=4000)
  (h:(s.heap.update a (zHg es' t')).get? a=some (dC es' (ep+1) t')->Q () {s with heap:=s.heap.update a (zHg es' t')}):wpAny (model prog w) A (storeSet a es' t') Q E s:=by
 refine wpAny_storeSet_of ho rfl (h ?_) (by rw[zCe];lia)
 have:=zEK (zHg es' t') ho (by rw[putSet_of es' t' rfl];rfl)
 rw[putSet_of es' t' rfl]at this;exact this
def zg(ho:s.heap.get? a=some (dC es ep t))(T:fU t es.size)(hne:∀e∈es.toList,e.1≠h)
  (q:∀j,j<=t.mask->t.slot j= .empty->(∃k,(pst t.mask h k).j=j/\k<10*zBE t.mask/\∀k',k'<k->∃e'∈tlS t es,e'.2=(pst t.mask h k').j)->Q (.free j false) s):wpAny (model prog w) A (zHo a x h true) Q E s:=by
 unfold zHo;unfold setSearchFrom;refine zAC (zBS ho rfl T.fits ?_);dsimp only;have hg:t.gaveWay=false:=by
  unfold zGd;rcases T.mask3 with e|e|e<;>rw[e]<;>decide
 rw[hg];simp only[zA1,if_false];obtain⟨j,j1,j2,j3⟩:=aFK (hashAt:=λ i=>(es[i]?.map (·.1)).getD 0) T (h:=h) λ i hi=>by
  have e:es[i]? =some es[i]:=zAs hi;rw[e];exact hne _ (zFa hi)
 have j3':t.probe (λ i=>(es[i]?.map (·.1)).getD 0) h ((none:Option zBg).getD (t.probeStart h))=some (.empty j none):=j3;split
 .rename_i met heq
  have e:some met=some (.empty j none):=heq.symm.trans j3';cases e;exact zAL (q j j1 j2 (aHJ T j3))
 .rename_i hno
  exact(hno _ j3').elim
def TupAt.key(hx:TupAt h x ns):IsTupleKey (zIE prog w) h ns x:=let⟨o,xs,k,a,b,c,d⟩:=hx.ex;⟨o,xs,k,a,b,c,nu d⟩
theorem vN{fuel:Nat}:∀{vs:List Value} {ns:List Int},zBQ vs ns->∀v∈vs,zEI fuel v=pure false
 |_,_,.nil,v,hv=>by simp at hv
 |_,_,.cons n t r,v,hv=>by
  rcases zAO.mp hv with rfl|hv
  .cases fuel<;>rfl
  .exact vN r v hv
def yC(hx:TupAt s.heap x ns)(h:Q false s):wpAny (model prog w) A (zEI 8 (.ref x)) Q E s:=by
 obtain⟨o,xs,k,ho,hc,hd,hi⟩:=hx.ex;unfold zEI;refine zAC (zEc (T:="tuple") ⟨o,ho,hc⟩ ?_);dsimp only;rw[if_pos (by decide)];refine zAC (zAL ?_);simp only[zCs,zA1,if_false];refine zAC (wpAny_seqItems ho hd ?_);refine zAC ?_;show wpAny _ _ (forIn xs _ _) _ _ s;rw[<-zGh];refine zD9 _ (λ rest r s'=>r.1=none/\s'=s/\∀v∈rest,zEI 7 v=pure false) _ ?_ ?_ _ _ ⟨rfl,rfl,vN hi⟩
 .rintro v rest r s' ⟨hr,rfl,pV⟩
  rw[pV v zAI];refine zAC (zAL ?_);simp only[zA1,if_false];exact zAL ⟨rfl,rfl,λ u hu'=>pV u (zAH _ hu')⟩
 .rintro⟨r1,r2⟩ s' ⟨hr,rfl,_⟩
  simp only at hr;subst hr;exact zAL h
def aM5(h:Heap)(v:Value):Prop:=∃y ms,v= .ref y/\TupAt h y ms
def aIV(hx:TupAt s.heap x ns)(l:List Value)(hl:∀v∈l,aM5 s.heap v)(h:Q false s):wpAny (model prog w) A (zIb (.ref x) l) Q E s:=by
 unfold zIb;refine zAC ?_;refine zD9 _ (λ rest r s'=>r.1=none/\s'=s/\∀v∈rest,aM5 s.heap v) _ ?_ ?_ _ _ ⟨rfl,rfl,hl⟩
 .rintro v rest r s' ⟨hr,rfl,pV⟩
  obtain⟨y,ms,rfl,hy⟩:=pV v zAI;have aT:=λ u hu'=>pV u (zAH _ hu')
  dsimp only;split
  .exact zAL ⟨rfl,rfl,aT⟩
  .refine zAC (zHq hx.key ?_)
   simp only[zCs,zA1,if_false];refine zAC (zHq hy.key ?_);simp only[zCs,zA1,if_false];refine zAC (yC hx ?_);simp only[zA1,if_false];refine zAC (yC hy ?_);simp only[zA1,if_false];exact zAL ⟨rfl,rfl,aT⟩
 .rintro⟨r1,r2⟩ s' ⟨hr,rfl,_⟩
  simp only at hr;subst hr;exact zAL h
def yQ(hu:A.units<cLine)(ho:s.heap.get? a=some (dC es ep t))(T:fU t es.size)(P:nM t.mask (tlS t es))(hes:∀e∈es.toList,aM5 s.heap e.2)(hx:TupAt s.heap x ns)(hi:i<es.size)(h1:es[i].1=hsh ns)(h2:es[i].2= .ref y)(hy:TupAt s.heap y ns)
  (hun:∀i' (q:i'<es.size),es[i'].1=es[i].1->i'=i)(q:Q (.there none) s):wpAny (model prog w) A (zHo a (.ref x) (hsh ns) true) Q E s:=by
 unfold zHo;unfold setSearchFrom;refine zAC (zBS ho rfl T.fits ?_);dsimp only;have hg:t.gaveWay=false:=by
  unfold zGd;rcases T.mask3 with e|e|e<;>rw[e]<;>decide
 rw[hg];simp only[zA1,if_false];obtain⟨j,nx,j3⟩:=aDn T P hi hun;rw[h1]at j3;have j3':t.probe (λ i=>(es[i]?.map (·.1)).getD 0) (hsh ns) ((none:Option zBg).getD (t.probeStart (hsh ns)))=some (.candidate j i nx):=j3;have he:es[i]? =some (hsh ns,.ref y):=by rw[zAs hi,<-h1,<-h2]
 split
 .rename_i met heq
  have e:some met=some (.candidate j i nx):=heq.symm.trans j3';cases e;dsimp only;have fin:∀k:Bool->Array (Int×Value)×Nat×zBy->Sem SetFound,(∀r,k true r=pure (.there none))->wpAny (model prog w) A (zCE [zBF y] (eqBool (.ref y) (.ref x))>>=λ equal=>setState a>>=λ r=>k equal r) Q E s:=λ k hk=>by
   refine zAC (zB5 (wpAny_eqBool_tuple hu hy.key hx.key ?_));rw[show decide (ns=ns)=true by simp];refine zAC (zBS ho rfl T.fits ?_);rw[hk];exact zAL q
  have stored:∀v∈(es.filter (·.1==hsh ns)).toList.map (·.2),aM5 s.heap v:=λ v hv=>by
   obtain⟨e,he,rfl⟩:=zAY.mp hv;rw[Array.toList_filter]at he;exact hes e (zBY.mp he).1
  cases hl:t.led with
  |true=>
   simp only[zCs,zA1,if_false];rw[he];exact fin _ λ r=>rfl
  |false=>
   simp only[zFd,if_true];refine zAC (aIV hx _ stored ?_);simp only[zA1,if_false];rw[he];exact fin _ λ r=>rfl
 .rename_i hno
  exact(hno _ j3').elim
def aDY(ho:s.heap.get? a=some (dC es ep t))(T:uF t n)(hn:es.size=n)(h5:n=5\/n=19)
  (q:∀h' es' t',zDJ a s.heap h'->SetT h' a es' t'->fU t' n->t'.led=t.led->es'.toList.Perm es.toList->nM t'.mask (tlS t' es')->Q () {s with heap:=h'}):wpAny (model prog w) A (setRelay a (zCy n)) Q E s:=by
 have hsz:zEX (zCy n)<=zAU:=by
  rw[zCe];rcases h5 with e|e<;>rw[e]<;>decide
 obtain⟨t',order,r1,r2,r3,r4⟩:=aI2 T.pla h5 (es.map (·.1)) (by rw[Array.size_map];exact hn);have aS:(order.filterMap (es[·]?)).toList.Perm es.toList:=by
  rw[zFu];refine(r4.filterMap _).trans ?_;rw[<-hn,filterMap_getElem?_range]
 have hes:(order.filterMap (es[·]?)).size=es.size:=by rw[<-zA2,aS.length_eq,zA2]
 have eJ:=aHF h5 es hn r1;unfold setRelay;refine zAC (zBS ho rfl (by rw[hn];exact T.fits) ?_);dsimp only;rw[if_neg (by lia),r1];refine zAC ?_;refine zII (a:=(order.filterMap (es[·]?),t')) ?_ ?_
 .show(if ((order.filterMap (es[·]?)).size !=es.size)=true then _ else pure (order.filterMap (es[·]?),t'))=_
  rw[hes];simp only[bne_self_eq_false,zA1,if_false]
 .exact aII ho (by rw[hes,hn];lia) λ e=>q _ _ t' (zCA ..) ⟨_,e⟩ r2 r3 aS eJ
def SetT.keep(S:SetT h a es t)(k:∀o,h.get? a=some o->h'.get? a=some o):SetT h' a es t:=let⟨ep,e⟩:=S;⟨ep,k _ e⟩
def gR(zs:List (α×List Int))(p:α×List Int):List (α×List Int):=if p.2∈zs.map (·.2)then zs else zs++[p]
def ent(p:Value×List Int):Int×Value:=(hsh p.2,p.1)
structure yu(h:Heap)(a:Addr)(led:Bool)(zs:iX)(es:hV)(t:zBy):Prop where
 at_:SetT h a es t
 ok:fU t es.size
 way:nM t.mask (tlS t es)
 led_:t.led=led
 perm:es.toList.Perm (zs.map ent)
 nd:(zs.map λ p=>hsh p.2).Nodup
def aNE(h:Heap)(zs:iX):Prop:=∀p∈zs,∃y,p.1= .ref y/\TupAt h y p.2
def aEu(hu:A.units<cLine)(S:yu s.heap a led zs es t)(hz:aNE s.heap zs)(hx:TupAt s.heap x ns)(hin:∀p∈zs,hsh p.2=hsh ns->p.2=ns)(h64:(gR zs (.ref x,ns)).length<=76)
  (q:∀b h' tk es' t',zDJ a s.heap h'->s.toks<=tk->yu h' a led (gR zs (.ref x,ns)) es' t'->Q b {s with heap:=h',toks:=tk}):wpAny (model prog w) A (setAdd a (.ref x)) Q E s:=by
 obtain⟨⟨ep,ho⟩,T,P,hl,hp,hnd⟩:=S;obtain⟨o,xs,k,xo,xc,xd,xi⟩:=hx.ex;unfold setAdd;refine zB5 (zAC ?_);refine wpAny_pyHash_tuple (knd:=zIE prog w) (ks:=ns) hu ⟨o,xs,k,xo,xc,xd,nu xi⟩ ?_;have eh:tupleKeyHash (zIE prog w) ns=hsh ns:=rfl;rw[eh];unfold setAddHashed;refine zB5 ?_;unfold setAddHashedIn;refine zAC (zBS ho rfl T.fits ?_);dsimp only;have hb:byScan (.ref x) es=false:=rfl;rw[hb];simp only[zA1,if_false];have hes:∀e∈es.toList,∃p∈zs,e=ent p:=λ e he=>by
  obtain⟨p,hp',e'⟩:=zAY.mp (hp.mem_iff.mp he);exact⟨p,hp',e'.symm⟩
 have hndE:(es.toList.map (·.1)).Nodup:=((hp.map (·.1)).nodup_iff).mpr (by rw[zAl];exact hnd);by_cases hm:ns∈zs.map (·.2)
 .have ed:gR zs (.ref x,ns)=zs:=by unfold gR;rw[if_pos hm]
  obtain⟨p,hp1,hp2⟩:=zAY.mp hm;obtain⟨y,ey,hy⟩:=hz p hp1;have eP:(hsh ns,zBF y)∈es.toList:=by
   refine hp.mem_iff.mpr (zAY.mpr ⟨p,hp1,?_⟩);unfold ent;rw[hp2,ey]
  obtain⟨i,hi,ei⟩:=List.mem_iff_getElem.mp eP;rw[zA2]at hi;rw[Array.getElem_toList]at ei;refine zAC (yQ (s:={s with heap:=s.heap,toks:=_}) hu ho T P (λ e he=>?_) (ns:=ns) (i:=i) (y:=y) ⟨o,xs,k,xo,xc,xd,xi⟩ hi (by rw[ei]) (by rw[ei]) (by rw[<-hp2];exact hy) (λ i' q e=>?_) ?_)
  .obtain⟨p',a1,rfl⟩:=hes e he
   obtain⟨y',b1,b2⟩:=hz p' a1;exact⟨y',_,b1,b2⟩
  .have h1:(es.toList.map (·.1))[i']? =some es[i'].1:=by rw[zAR,zAf,zAs q];rfl
   have h2:(es.toList.map (·.1))[i]? =some es[i].1:=by rw[zAR,zAf,zAs hi];rfl
   rw[e]at h1;exact(zDC (by simpa using q) hndE).mp (h1.trans h2.symm)
  .dsimp only
   exact zAL (q _ _ _ _ _ ⟨rfl,λ _ _=>rfl⟩ (zFL _ _) (by rw[ed];exact⟨⟨_,ho⟩,T,P,hl,hp,hnd⟩))
 .have ed:gR zs (.ref x,ns)=zs++[(.ref x,ns)]:=by unfold gR;rw[if_neg hm]
  rw[ed]at h64;have hzl:es.size=zs.length:=by rw[<-zA2,hp.length_eq,zAF]
  rw[zAp,zCX]at h64;have hne:∀e∈es.toList,e.1≠hsh ns:=λ e he z=>by
   obtain⟨p,a1,rfl⟩:=hes e he;exact hm (zAY.mpr ⟨p,a1,hin p a1 z⟩)
  have hnd':((zs++[(zBF x,ns)]).map λ p=>hsh p.2).Nodup:=by
   rw[zBA];refine zB9.mpr ⟨hnd,by simp,λ a ha b hb=>?_⟩;obtain⟨p,a1,rfl⟩:=zAY.mp ha;rw[zA8.mp hb];exact λ z=>hm (zAY.mpr ⟨p,a1,hin p a1 z⟩)
  refine zAC (zg ho T hne λ j j1 j2 j3=>?_);dsimp only;refine zAC (zBS ho rfl T.fits ?_);dsimp only;obtain⟨PP,p1,p2,p3,p4⟩:=aNc T (by lia) j1 j2;have hes:(zBI es (t.put j).2 (hsh ns,zBF x)).size=es.size+1:=aA4 _ _ _;have aS:(zBI es (t.put j).2 (hsh ns,zBF x)).toList.Perm ((zs++[(zBF x,ns)]).map ent):=by
   have:=zF5 es (t.put j).2 (hsh ns,zBF x)
   rw[zEj]at this;rw[zBA];exact this.trans (hp.append_right _)
  have eJ:nM (t.put j).1.mask (tlS (t.put j).1 (zBI es (t.put j).2 (hsh ns,zBF x))):=by
   rw[p3];exact(P.cons (x:=(hsh ns,j)) j3).perm (aNN T p2)
  rw[PP.pla];simp only[if_true];refine zAC (ym (ns:=ns) ⟨o,xs,k,xo,xc,xd,xi⟩ ?_);simp only[if_true];refine zAC (aII ho (by rw[hes];lia) λ e1=>?_);simp only[zFd,zFw];cases hf:(t.put j).1.tooFull with
  |true=>
   simp only[if_true];have h5:=PP.full (by lia) hf;refine zAC (aDY (s:={s with heap:=_,toks:=_}) e1 PP hes h5 λ h' es' t' b1 b2 b3 b4 b5 b6=>?_);have hsz:es'.size=es.size+1:=by rw[<-zA2,b5.length_eq,zA2,hes]
   exact zAL (q _ h' _ es' t' ((zCA s.heap a _).trans b1) (zFL _ _) (by rw[ed];exact⟨b2,by rw[hsz];exact b3,b6,b4.trans (p4.trans hl),b5.trans aS,hnd'⟩))
  |false=>
   simp only[zA1,if_false];exact zAL (q _ _ _ _ _ (zCA ..) (zFL _ _) (by rw[ed];exact⟨⟨_,e1⟩,by rw[hes];exact PP.still hf,eJ,p4.trans hl,aS,hnd'⟩))
end
def ddV(l:List (α×List Int)):List (α×List Int):=l.foldl gR []
theorem aCs:∀(l:List (α×List Int)) (acc:List (α×List Int)),acc.length<=(l.foldl gR acc).length/\(∀p∈acc,p∈l.foldl gR acc)/\∀p∈l.foldl gR acc,p∈acc\/p∈l
 |[],acc=>⟨zAQ _,λ _ h=>h,λ _ h=>.inl h⟩
 |x::l,acc=>by
  obtain⟨a,b,c⟩:=aCs l (gR acc x);have h:gR acc x=acc\/gR acc x=acc++[x]:=by unfold gR;split<;>simp
  refine⟨zAg ?_ a,λ p hp=>b p ?_,λ p hp=>?_⟩
  .rcases h with e|e<;>rw[e]<;>simp
  .rcases h with e|e<;>rw[e]<;>simp[hp]
  .rcases c p hp with z|z
   .rcases h with e|e<;>rw[e]at z
    .exact .inl z
    .rcases zAx.mp z with z|z
     .exact .inl z
     .exact .inr (by rw[zA8.mp z];exact zAI)
   .exact .inr (zAH _ z)
def zQ(h:p∈ddV l):p∈l:=by
 rcases(aCs l []).2.2 p h with z|z
 .simp at z
 .exact z
def aKN(l:List (α×List Int))(x:α×List Int):ddV (l++[x])=gR (ddV l) x:=by unfold ddV;rw[zEq];rfl
def aKM(l:List (α×List Int))(i:Nat):(ddV (l.take i)).length<=(ddV l).length:=by
 conv=>rhs;rw[<-zBx i l]
 unfold ddV;rw[zEq];exact(aCs _ _).1
def aHi(f:α->β)(zs:List (α×List Int))(p:α×List Int):gR (zs.map λ q=>(f q.1,q.2)) (f p.1,p.2)=(gR zs p).map λ q=>(f q.1,q.2):=by
 have e:(zs.map λ q=>(f q.1,q.2)).map (·.2)=zs.map (·.2):=by rw[zAl];rfl
 unfold gR;rw[e];dsimp only;split
 .rfl
 .rw[zBA];rfl
def aMU(f:α->β)(l:List (α×List Int)):ddV (l.map λ q=>(f q.1,q.2))=(ddV l).map λ q=>(f q.1,q.2):=by
 have go:∀(l:List (α×List Int)) acc,(l.map λ q=>(f q.1,q.2)).foldl gR (acc.map λ q=>(f q.1,q.2))=(l.foldl gR acc).map λ q=>(f q.1,q.2):=by
  intro l;induction l with
  |nil=>intro acc;rfl
  |cons x l ih=>intro acc;rw[zAE,zBn,zBn,aHi];exact ih _
 exact go l []
def ddT(l:gV):gV:=l.foldl (λ acc x=>if x∈acc then acc else acc++[x]) []
def aMT(l:List (α×List Int)):(ddV l).map (·.2)=ddT (l.map (·.2)):=by
 have go:∀(l:List (α×List Int)) (acc:List (α×List Int)),(l.foldl gR acc).map (·.2)=(l.map (·.2)).foldl (λ acc x=>if x∈acc then acc else acc++[x]) (acc.map (·.2)):=by
  intro l;induction l with
  |nil=>intro acc;rfl
  |cons x l ih=>
   intro acc;rw[zBn,zAE,zBn,ih];congr 1;unfold gR;split
   .rfl
   .rw[zBA];rfl
 exact go l []
def cH.tup{i:Nat}(t:cH h vs nss)(hv:vs[i]? =some v):∃x ns,v= .ref x/\nss[i]? =some ns/\TupAt h x ns:=by
 have hi:i<vs.length:=(zAK.mp hv).1;obtain⟨x,o,xs,k,e1,e2,e3,e4,e5,_⟩:=t.at hi;have hi2:i<nss.length:=by rw[<-t.len];exact hi
 refine⟨x,nss.getD i [],?_,by simp[hi2],⟨o,xs,k,e2,e3,e4,e5⟩⟩;rw[<-e1];simp[hv]
section
variable{prog:zAS}{w:World}{A:zA6}{R:zEG->zAD->Prop}{I:Addr}{fp wr:List Addr}{G:Array zCu->Array zCu->Prop}{n:Nat}{St:Nat->zAD->Prop}{vs:List Value}{nss:gV}
def aGz(W:WalksS prog w A.in1 I fp wr G n (λ i v=>vs.toArray[i]? =some v) St)(S:Addr)(hSf:S∉fp)(hn:n=vs.length)(hu:A.in1.units<cLine)(h64:(ddV (vs.zip nss)).length<=76)(hin2:∀a∈nss,∀b∈nss,hsh a=hsh b->a=b)(hin:∀x,.ref x∈vs->x∉wr)(led:Bool):
  ∀(k i:Nat) (s:zAD) (es:hV) (t:zBy),n-i=k->i<=n->St i s->cH s.heap vs nss->yu s.heap S led (ddV ((vs.zip nss).take i)) es t->
   (∀s' es' t',Moved (S::wr) G s s'->yu s'.heap S led (ddV (vs.zip nss)) es' t'->R (.ok (.ret .none)) s')->
   zCJ (model prog w) A (.builtin "set.update.loop" ⟨[.ref S,.ref I],[]⟩) R s:=by
 have hSw:S∉wr:=λ h=>hSf (W.sub _ h)
 have hsb:∀b∈wr,b∈S::wr:=λ b hb=>zAH _ hb
 intro k;induction k with
 |zero=>
  intro i s es t hk hi hst ht hS hR;have hin':i=n:=by lia
  subst hin';refine zCc zDi ?_;rw[zC3 zCR _];show wpAny _ A.in1 (zEu (.ref I)>>=_) _ _ s;refine zAC (W.done s _ _ hst λ s' hm=>zAL (hR s' es t (hm.mono hsb) ?_))
  have:(vs.zip nss).length<=i:=by rw[zFS,hn];exact Nat.min_le_left _ _
  rw[zEE this]at hS
  exact{hS with at_:=hS.at_.keep λ o e=>hm.heap S _ hSw e}
 |succ k ih=>
  intro i s es t hk hi hst ht hS hR;have hlt:i<n:=by lia
  refine zCc zDi ?_;rw[zC3 zCR _];show wpAny _ A.in1 (zEu (.ref I)>>=_) _ _ s;refine zAC (W.item i s _ _ hlt hst λ v s' hP' hst' hm=>?_);have hP:vs[i]? =some v:=by simpa using hP'
  obtain⟨x,ns,rfl,hns,hx⟩:=ht.tup hP;have ht':cH s'.heap vs nss:=by
   have go:∀{us:List Value} {ms:gV},(∀y,.ref y∈us->y∉wr)->cH s.heap us ms->cH s'.heap us ms:=by
    intro us ms hy z;induction z with
    |nil=>exact .nil
    |cons ho hc hd hi hne r ih2=>exact .cons (hm.heap _ _ (hy _ zAI) ho) hc hd hi hne (ih2 λ y m=>hy y (zAH _ m))
   exact go hin ht
  have hS':yu s'.heap S led (ddV ((vs.zip nss).take i)) es t:={hS with at_:=hS.at_.keep λ o e=>hm.heap S _ hSw e};have hx':TupAt s'.heap x ns:=by
   obtain⟨y,ms,e1,e2,e3⟩:=ht'.tup hP;cases e1;rw[hns]at e2;cases e2;exact e3
  have pV:aNE s'.heap (ddV ((vs.zip nss).take i)):=λ p hp=>by
   have hp2:=zG8 (zQ hp);obtain⟨j,hj⟩:=zEM.mp hp2;obtain⟨z1,z2⟩:=zCg.mp hj;obtain⟨y,ms,e1,e2,e3⟩:=ht'.tup z1;rw[z2]at e2;cases e2;exact⟨y,e1,e3⟩
  have dP:ddV ((vs.zip nss).take (i+1))=gR (ddV ((vs.zip nss).take i)) (.ref x,ns):=by
   rw[List.take_add_one,(zCg (z:=(zBF x,ns))).mpr ⟨hP,hns⟩];exact aKN _ _
  have hmn:ns∈nss:=zB1 hns;show wpAny _ A.in1 (zCE [zBF x] (setAdd S (.ref x))>>=_) _ _ s';refine zAC (zB5 (aEu hu hS' pV hx' (λ p hp z=>hin2 _ (zCY (zG8 (zQ hp))).2 _ hmn z) (by rw[<-dP];exact zAg (aKM _ _) h64) λ b h' tk es' t' c1 c2 c3=>?_));rw[<-dP]at c3;have kp:∀b o,b≠S->s'.heap.get? b=some o->h'.get? b=some o:=λ b o hb e=>by rw[c1.2 b hb];exact e
  have ht2:cH h' vs nss:=ht'.mono λ y o e c=>kp y o (λ z=>by
   subst z;obtain⟨ep,q⟩:=hS'.at_;rw[q]at e;cases e;exact absurd c (show¬(zBu "set"=zBu "tuple")by decide)) e
  refine zAL ⟨zHH zCR _,ih (i+1) _ es' t' (by lia) hlt (W.frame _ s' _ _ hst' c2 λ b hb o e=>kp b o (λ z=>hSf (z▸hb)) e) ht2 c3 λ s'' es'' t'' hm'' hS''=>?_⟩;exact hR s'' es'' t'' (Moved.trans W.gtrans ((hm.mono hsb).then_heap c2 λ b o hb e=>kp b o (λ z=>hb (z▸zAI)) e) hm'') hS''
end
end VL
namespace PySem
section
variable{prog:zAS}{w:World}{A:zA6}{E:Value->zAD->Prop}{s:zAD}
def aIU(a:Value)(h:Q₁ (.ref s.heap.objs.size) {s with heap:=s.heap.push (VL.dC #[] 0 (.fresh 0 0 (!w.params.followText "set-order")))}):
  zCJ (model prog w) A (.call (.builtin "set.__new__") ⟨[.type "set",a],[]⟩) (wants Q₁ E) s:=by
 refine codeAny_of_tree ?_;show wpAny _ A.in1 (zFq "set.__new__" ⟨[.type "set",a],[]⟩>>=λ _=>again (.builtin "set.__new__" ⟨[.type "set",a],[]⟩)) _ _ s;refine zAC (zII (F.newCall_set_1 a) (zAL ⟨zHH zFi _,zCc PySem.F.entry_set_new ?_⟩));rw[zC3 zFi _];unfold zEQ.«set.__new__» zH4;have bS:=sub_set_self;obtain⟨hp,g,d,tk,os⟩:=s;dsimp only;wp_walk;refine zD8 (zAL ?_);dsimp only;simp only[newObj];exact zAC (wpAny_alloc (zAL (zAL h)))
set_option maxHeartbeats 3200000 in
def aE4{l:Addr}{T:String}{oI:Obj}{Φ:Heap->Prop}{Q:Value->zAD->Prop}(hty:s.TypeIs (.ref l) T)(hsls:zHl (.type T) (.type "set")=pure false)(hslf:zHl (.type T) (.type "frozenset")=pure false)(hne:(zBu T==zBu "dict")=false)
  (hit:∀(zI:Heap) (yB:zA6) (yA:Value->zAD->Prop) (Q₁:Value->zAD->Prop),(∀b o,s.heap.get? b=some o->zI.get? b=some o)->Q₁ (.ref zI.objs.size) {s with heap:=zI.push oI}->wpAny (model prog w) yB (zGr (.ref l)) Q₁ yA {s with heap:=zI})
  (hrun:∀R:zEG->zAD->Prop,(∀h' tk,Φ h'->(∀b o,s.heap.get? b=some o->h'.get? b=some o)->R (.ok (.ret .none)) {s with heap:=h',toks:=tk})->
   zCJ (model prog w) A.in1.in1 (.builtin "set.update.loop" ⟨[.ref s.heap.objs.size,.ref (s.heap.push (VL.dC #[] 0 (.fresh 0 0 (!w.params.followText "set-order")))).objs.size],[]⟩) R {s with heap:=(s.heap.push (VL.dC #[] 0 (.fresh 0 0 (!w.params.followText "set-order")))).push oI})
  (h:∀h' tk,Φ h'->(∀b o,s.heap.get? b=some o->h'.get? b=some o)->Q (.ref s.heap.objs.size) {s with heap:=h',toks:=tk}):
  wpAny (model prog w) A (call (.type "set") [.ref l]) Q E s:=by
 obtain⟨c,tl,hmro⟩:=zCt.mro;have hmade:=zCt.made;have bS:=zCt.sub
 refine zGt (codeAny_of_tree ?_);show wpAny _ _ (callAny (.type "set") _) _ _ _;refine zAL ⟨zGv _ (by decide+kernel),zCc PySem.F.entry_type_call ?_⟩;rw[Around.under_plain (weight_type_call_type "set" [.ref l] []) rfl];have h1:=zCt.notType;have h2:=zCt.canCreate
 have hct:=F.typeCall_set_1 (.ref l);repeat (any_goals (first|assumption|wp_step))
 generalize hled:(!w.params.followText "set-order")=led at hrun;refine zDB (aIU (.ref l) (E:=E) (Q₁:=λ obj zS=>obj= .ref s.heap.objs.size/\zS={s with heap:=s.heap.push (VL.dC #[] 0 (.fresh 0 0 led))}) ⟨rfl,by rw[hled]⟩) λ r zS hr=>?_
 cases r with
 |error e=>exact hr
 |ok fl=>
  cases fl with
  |ret obj=>
   obtain⟨rfl,rfl⟩:=hr;have hS:(s.heap.push (VL.dC #[] 0 (.fresh 0 0 led))).get? s.heap.objs.size=some (VL.dC #[] 0 (.fresh 0 0 led)):=zAZ _ rfl;have hT:Shared.TypeIs {s with heap:=s.heap.push (VL.dC #[] 0 (.fresh 0 0 led))} (.ref s.heap.objs.size) "set":=⟨_,hS,rfl⟩;have hli:=zCt.init.lookup;have hbi:=zCt.init.bind (.ref s.heap.objs.size)
   repeat (any_goals (first|assumption|wp_step))
   refine zDB (zEm (R:=wants (λ r z4=>r= .none/\∃h' tk,z4={s with heap:=h',toks:=tk}/\Φ h'/\(∀b o,s.heap.get? b=some o->h'.get? b=some o)) E) zCt.init.plain F.entry_set_init (check_set_init_1 hT ?_)) λ r₂ z4 hr₂=>?_
   .obtain⟨ol,hol,hcl⟩:=hty
    obtain⟨ocls,odict,odata,oslots⟩:=ol;simp only at hcl;subst hcl;have hol':(s.heap.push (VL.dC #[] 0 (.fresh 0 0 led))).get? l=some {cls:=.type T,dict:=odict,data:=odata,slots:=oslots}:=zAG _ hol;unfold zEQ.«set.__init__» noKeywords zH7;generalize hPI:zGr=PI;wp_walk;subst hPI;refine hit _ _ _ _ (λ b o e=>zAG _ e) (zAC (wpAny_runValue (hrun _ λ h' tk g1 g2=>?_)));show wpAny _ _ _ _ _ _;refine zAL ?_;show wpAny _ _ (ret zB8) _ _ _;exact zAL ⟨rfl,h',tk,rfl,g1,g2⟩
   .cases r₂ with
    |error e=>exact hr₂
    |ok fl₂=>
     cases fl₂ with
     |ret r=>
      obtain⟨rfl,h',tk,rfl,g1,g2⟩:=hr₂
      repeat (any_goals (first|assumption|wp_step))
      exact h _ _ g1 g2
     |_=>exact hr₂.elim
  |_=>exact hr.elim
def aCA{l:Addr}{T:String}{oI:Obj}{vs:List Value}{nss:gV}{St:Addr->Nat->Heap->Prop}{Q:Value->zAD->Prop}(hh:A.handled=none)(hu:A.units+8<cLine)(hty:s.TypeIs (.ref l) T)(hsls:zHl (.type T) (.type "set")=pure false)(hslf:zHl (.type T) (.type "frozenset")=pure false)(hne:(zBu T==zBu "dict")=false)
  (hit:∀(zI:Heap) (yB:zA6) (yA:Value->zAD->Prop) (Q₁:Value->zAD->Prop),(∀b o,s.heap.get? b=some o->zI.get? b=some o)->Q₁ (.ref zI.objs.size) {s with heap:=zI.push oI}->wpAny (model prog w) yB (zGr (.ref l)) Q₁ yA {s with heap:=zI})
  (hW:∀(A':zA6) I,l≠I->A'.handled=none->Walks prog w A' I [I,l] [I] vs.toArray.size (λ i v=>vs.toArray[i]? =some v) (St I))(h0:∀zI:Heap,(∀b o,s.heap.get? b=some o->zI.get? b=some o)->St zI.objs.size 0 (zI.push oI))
  (ht:VL.cH s.heap vs nss)(h64:(VL.ddV (vs.zip nss)).length<=76)(hin:∀a∈nss,∀b∈nss,VL.hsh a=VL.hsh b->a=b)
  (h:∀h' tk es t,VL.yu h' s.heap.objs.size (!w.params.followText "set-order") (VL.ddV (vs.zip nss)) es t->(∀b o,s.heap.get? b=some o->h'.get? b=some o)->Q (.ref s.heap.objs.size) {s with heap:=h',toks:=tk}):
  wpAny (model prog w) A (call (.type "set") [.ref l]) Q E s:=by
 obtain⟨ol,hol,hcl⟩:=hty;have hlS:l<s.heap.objs.size:=zAW hol;refine aE4 (T:=T) (Φ:=λ h'=>∃es t,VL.yu h' s.heap.objs.size (!w.params.followText "set-order") (VL.ddV (vs.zip nss)) es t) ⟨ol,hol,hcl⟩ hsls hslf hne hit (λ R hR=>?_) λ h' tk ⟨es,t,g1⟩ g5=>h h' tk es t g1 g5
 generalize (!w.params.followText "set-order")=led at hR ⊢;have hS:(s.heap.push (VL.dC #[] 0 (.fresh 0 0 led))).get? s.heap.objs.size=some (VL.dC #[] 0 (.fresh 0 0 led)):=zAZ _ rfl;have hh3:A.in1.in1.in1.handled=none:=by simp[hh]
 have hneI:l≠(s.heap.push (VL.dC #[] 0 (.fresh 0 0 led))).objs.size:=by rw[zBc];exact zA7 (zC9 hlS)
 have hSf:s.heap.objs.size∉[(s.heap.push (VL.dC #[] 0 (.fresh 0 0 led))).objs.size,l]:=by
  rw[zBc];simp only[zAO,zCk,or_false,not_or];exact⟨zA7 (zCQ _),zBz hlS⟩
 have hvt:∀{us:List Value} {ms:gV},VL.cH s.heap us ms->∀x,.ref x∈us->x<s.heap.objs.size:=by
  intro us ms z;induction z with
  |nil=>intro x hx;simp at hx
  |cons ho _ _ _ _ _ ih=>
   intro x hx;rcases zAO.mp hx with e|hx
   .cases e;exact zAW ho
   .exact ih x hx
 refine VL.aGz ((hW _ _ hneI hh3).toS) s.heap.objs.size hSf (by simp) (by simp;omega) h64 hin (λ x hx=>?_) led (vs.toArray.size-0) 0 _ #[] (.fresh 0 0 led) (by simp) (zAk _)
  (h0 _ λ b o e=>zAG _ e) (ht.mono λ x o e _=>zAG _ (zAG _ e)) ⟨⟨0,zAG _ hS⟩,VL.fU.fresh led,(λ e he=>by cases he),rfl,zB3 _,zHz⟩ ?hR
 case hR=>
  intro s' es t hm hS';obtain⟨h',g',d',tk',os'⟩:=s';have eg:g'=s.gens:=hm.gens;have ed:d'=s.drawn:=hm.drawn;have eo:os'=s.os:=hm.os;subst eg;subst ed;subst eo;refine hR h' tk' ⟨es,t,hS'⟩ λ b o e=>hm.heap b o ?_ (zAG _ (zAG _ e))
  have hb:=zAW e;simp only[zAO,zCk,or_false,not_or];rw[zBc];exact⟨zA7 hb,zA7 (zC9 hb)⟩
 have:=hvt ht x hx
 simp only[zAO,zCk,or_false];rw[zBc];exact zA7 (zC9 this)
def aHk(hh:A.handled=none)(hu:A.units+8<cLine)(hl:s.heap.IsList l vs.toArray)(ht:VL.cH s.heap vs nss)(h64:(VL.ddV (vs.zip nss)).length<=76)(hin:∀a∈nss,∀b∈nss,VL.hsh a=VL.hsh b->a=b)
  (h:∀h' tk es t,VL.yu h' s.heap.objs.size (!w.params.followText "set-order") (VL.ddV (vs.zip nss)) es t->(∀b o,s.heap.get? b=some o->h'.get? b=some o)->Q (.ref s.heap.objs.size) {s with heap:=h',toks:=tk}):
  wpAny (model prog w) A (call (.type "set") [.ref l]) Q E s:=by
 obtain⟨ol,hol,hcl,nl,hdl⟩:=hl;exact aCA hh hu (T:="list") ⟨ol,hol,hcl⟩ F.sub_list_set F.sub_list_frozenset (by decide) (λ zI yB yA Q₁ k q=>zF9 (s:={s with heap:=zI}) (items:=vs.toArray) ⟨ol,k _ _ hol,hcl,nl,hdl⟩ q) (λ A' I ne e=>Walks.list e I l ne vs.toArray)
  (λ zI k=>⟨⟨_,zAZ _ rfl,rfl,rfl⟩,Heap.IsList.push ⟨ol,k _ _ hol,hcl,nl,hdl⟩ _⟩) ht h64 hin h
def aE5(hh:A.handled=none)(hu:A.units+8<cLine)(hl:s.heap.IsTuple l vs.toArray)(ht:VL.cH s.heap vs nss)(h64:(VL.ddV (vs.zip nss)).length<=76)(hin:∀a∈nss,∀b∈nss,VL.hsh a=VL.hsh b->a=b)
  (h:∀h' tk es t,VL.yu h' s.heap.objs.size (!w.params.followText "set-order") (VL.ddV (vs.zip nss)) es t->(∀b o,s.heap.get? b=some o->h'.get? b=some o)->Q (.ref s.heap.objs.size) {s with heap:=h',toks:=tk}):
  wpAny (model prog w) A (call (.type "set") [.ref l]) Q E s:=by
 obtain⟨ol,hol,hcl,nl,hdl⟩:=hl;exact aCA hh hu (T:="tuple") ⟨ol,hol,hcl⟩ F.sub_tuple_set F.sub_tuple_frozenset (by decide) (λ zI yB yA Q₁ k q=>zIS (s:={s with heap:=zI}) (items:=vs.toArray) ⟨ol,k _ _ hol,hcl,nl,hdl⟩ q) (λ A' I ne e=>Walks.tuple e I l ne vs.toArray)
  (λ zI k=>⟨⟨_,zAZ _ rfl,rfl,rfl⟩,⟨ol,zAG _ (k _ _ hol),hcl,nl,hdl⟩⟩) ht h64 hin h
end
end PySem
namespace VL
open PySem PySem.Spec PyProof.Rows L2
theorem aEO:∀{l:List α} {i:Nat} (h:i<l.length),(l[i]::l.eraseIdx i).Perm l
 |a::l,0,_=>zB3 _
 |a::l,i+1,h=>by
  have h':i<l.length:=by simpa using h
  have ih:=aEO (l:=l) (i:=i) h'
  show(l[i]::a::l.eraseIdx i).Perm (a::l)
  exact(zED _ _ _).trans (ih.cons a)
theorem aGQ(next:Nat->Nat):∀(f k:Nat) (left:List α) (out:Array α),left.length<=f->(pickOrder.go next f k left out).toList.Perm (out.toList++left)
 |0,k,left,out,h=>by
  have:left=[]:=zGB.mp (by omega)
  subst this;rw[zAw];exact zB3 _
 |f+1,k,left,out,h=>by
  unfold pickOrder.go;cases left with
  |nil=>simp
  |cons a l=>
   have hlt:next k%(a::l).length<(a::l).length:=zDF _ (by simp)
   rw[zAB hlt];dsimp only;refine(aGQ next f (k+1) _ _ (by rw[zEW];simp only[hlt,if_true];simp at h ⊢;omega)).trans ?_;rw[zEj,zBU];exact List.Perm.append_left _ (aEO hlt)
def aHL(next:Nat->Nat)(xs:Array α):(pickOrder next xs).toList.Perm xs.toList:=by
 have:=aGQ next xs.size 0 xs.toList #[] (by simp)
 unfold pickOrder;simpa using this
def vK(w:World)(d:Addr)(ep:Nat)(es:hV):hV:=if w.params.followText "set-order" then pickOrder (w.params.setOrder d ep) es else es
def sH(w:World)(d:Addr)(ep:Nat)(es:hV):(vK w d ep es).toList.Perm es.toList:=by
 unfold vK;split
 .exact aHL _ _
 .exact zB3 _
def slotAt(w:World)(t:zBy):Nat->Nat
 |0=>0
 |i+1=>if w.params.followText "set-order" then 0 else t.place.getD i 0+1
def aFo(T:fU t n)(hf:w.params.followText "set-order"=false):∀i,i<=n->zAm t.place (slotAt w t i)=i
 |0,_=>by
  obtain⟨b1,b2,b3⟩:=vz T.ris 0;show zAm t.place 0=0;cases h:zAm t.place 0 with
  |zero=>rfl
  |succ k=>
   rw[h]at b2
   have:=b2 0 (by omega)
   omega
 |i+1,hi=>by
  unfold slotAt;rw[hf];simp only[zA1,if_false];obtain⟨b1,b2,b3⟩:=vz T.ris (t.place.getD i 0+1);have hs:=T.siz;rcases zEx (zAm t.place (t.place.getD i 0+1)) (i+1)with z|z|z
  .have:=b3 i (by omega) (by omega)
   omega
  .exact z
  .have h1:=b2 (i+1) (by omega)
   have h2:=T.ris i (i+1) (by omega) (by omega);omega
section
variable{prog:zAS}{w:World}{A:zA6}{E:Value->zAD->Prop}{s:zAD}{d:Addr}{es:hV}{ep:Nat}{t:zBy}
def zj(ho:s.heap.get? d=some (dC es ep t))(T:fU t es.size)(hled:t.led= !w.params.followText "set-order")(hi:i<=es.size)
  (h:Q (((vK w d ep es)[i]?).map λ e=>(e.2,slotAt w t (i+1))) s):wpAny (model prog w) A (setNext d (slotAt w t i) i ep) Q E s:=by
 unfold setNext;refine zAC (zBS ho rfl T.fits ?_);dsimp only;unfold zIc;refine zAC (zAC (zD8 (zAL ?_)));show wpAny _ _ (if w.params.followText "set-order"=true then _ else _) _ _ _;unfold vK at h;cases hf:w.params.followText "set-order" with
 |true=>
  rw[hf]at h;simp only[if_true]at h ⊢;simp only[bne_self_eq_false,zA1,if_false];unfold setWalk;refine zAC (zAC (zBS ho rfl T.fits ?_));dsimp only;unfold zIc;refine zAC (zAC (zD8 (zAL ?_)));show wpAny _ _ (if w.params.followText "set-order"=true then _ else _) _ _ _;rw[hf];simp only[if_true];refine zAC (zD8 (zAL (zAL ?_)));have e1:slotAt w t (i+1)=slotAt w t i:=by
   unfold slotAt;cases i with
   |zero=>simp[hf]
   |succ i=>simp[hf]
  rw[e1]at h;exact h
 |false=>
  rw[hf]at h hled;simp only[zA1,if_false]at h ⊢;have hd:(!t.plain&&decide (es.size>1))=false:=by rw[T.pla];rfl
  show wpAny _ _ (if (!t.plain&&decide (es.size>1))=true then _ else _) _ _ _;rw[hd];simp only[zA1,if_false];refine zAC ?_;show wpAny _ _ (if (!t.led&& !es.isEmpty)=true then _ else _) _ _ _;rw[hled];simp only[zFd,zCs,zHy,zA1,if_false];refine zAL ?_;rw[aFo T hf i hi];have hslot:slotAt w t (i+1)=t.place.getD i 0+1:=by unfold slotAt;rw[hf];rfl
  rw[hslot]at h;by_cases hlt:i<es.size
  .have h1:es[i]? =some es[i]:=zAs hlt
   have hlt2:i<t.place.size:=by rw[T.siz];exact hlt
   have h2:t.place[i]? =some (t.place.getD i 0):=by
    rw[zAs hlt2];simp[zBt,hlt2]
   rw[h1,h2];rw[h1]at h;exact zAL h
  .have h1:es[i]? =none:=zFt (by omega)
   rw[h1];rw[h1]at h;exact zAL h
def cX:PySem.Slot "set_iterator" "__next__" "set_iterator.__next__":=
 .of (owner:="set_iterator") (n:="__next__") (by rw[typeLookup_type,zHi];kernel_rfl) (by decide+kernel) (by decide+kernel) (by decide+kernel) (.inl (by decide+kernel)) (by rw[zGe];kernel_rfl)
def mz:PySem.Slot "set_iterator" "__iter__" "set_iterator.__iter__":=
 .of (owner:="set_iterator") (n:="__iter__") (by rw[typeLookup_type,zHi];kernel_rfl) (by decide+kernel) (by decide+kernel) (by decide+kernel) (.inl (by decide+kernel)) (by rw[zGe];kernel_rfl)
def mW:entryFor table "set_iterator.__next__"=some zEQ.«set_iterator.__next__»:=entryFor_of_fast (by kernel_rfl)
def uf:entryFor table "set_iterator.__iter__"=some zEQ.«dict_keyiterator.__iter__»:=entryFor_alias (id':="dict_keyiterator.__iter__") (by kernel_rfl) rfl (by decide+kernel) (by kernel_rfl)
def yq:entryFor table "set.__iter__"=some zEQ.«frozenset.__iter__»:=entryFor_alias (id':="frozenset.__iter__") (by kernel_rfl) rfl (by decide+kernel) (by kernel_rfl)
def nJ(a:Value):argsOk "set_iterator.__next__" ⟨[a],[]⟩:=by unfold argsOk;kernel_rfl
def wF(a:Value):argsOk "set_iterator.__iter__" ⟨[a],[]⟩:=by unfold argsOk;kernel_rfl
end
section
variable{prog:zAS}{w:World}{A:zA6}{E:Value->zAD->Prop}{s:zAD}{d I:Addr}{es:hV}{ep:Nat}{t:zBy}{i':Nat}
abbrev aJf(d:Addr)(sl i n ep:Nat):Obj:={cls:=.type "set_iterator",data:=.fields #[.int sl 0,.int i 0,.ref d,.int n 0,.int ep 0]}
def aMa(h:Heap)(I d:Addr)(sl i n ep:Nat):Prop:=h.get? I=some (aJf d sl i n ep)
def aJe{h:Heap}{sl i n ep k:Nat}(e:h.get? I=some {cls:=.type "set_iterator",data:=.fields vs}):(h.update I (zI3 (·.setIfInBounds k x))).get? I=some {cls:=.type "set_iterator",data:=.fields (vs.setIfInBounds k x)}:=by
 have:=zEK (zI3 (·.setIfInBounds k x)) e (Obj.isFreed_of_fields (Obj.data_mapFields rfl _))
 rw[this];rfl
def aEt(hI:aMa s.heap I d (slotAt w t i') i' es.size ep)(ho:s.heap.get? d=some (dC es ep t))(T:fU t es.size)(hled:t.led= !w.params.followText "set-order"){v:Value}(hi:i'<es.size)(hv:((vK w d ep es)[i']?).map (·.2)=some v){Q:Option Value->zAD->Prop}
  (h:∀h',aMa h' I d (slotAt w t (i'+1)) (i'+1) es.size ep->zDJ I s.heap h'->Q (some v) {s with heap:=h'}):wpAny (model prog w) A (zEu (.ref I)) Q E s:=by
 have hT:s.TypeIs (.ref I) "set_iterator":=⟨_,hI,rfl⟩;unfold zEu;refine zAC (zHN (zCU (name:=zES "__next__") hT cX (zCF cX hT mW ?_ (nJ _))));show wpAny _ _ (fieldsOf (.ref I)>>=_) _ _ s;refine zAC (wpAny_fieldsOf hI rfl ?_);dsimp only;refine zAC ?_;unfold setEntries;refine zAC (zBS ho rfl T.fits (zAL ?_));simp only[bne_self_eq_false,zA1,if_false];refine zAC ?_;simp only[zC8];refine zj ho T hled (zBl hi) ?_;cases hq:(vK w d ep es)[i']? with
 |none=>rw[hq]at hv;cases hv
 |some e=>
  rw[hq]at hv;cases hv;dsimp only[zCr];refine zAC (zGf hI rfl (by simp) ?_);have e1:=aJe (h:=s.heap) (I:=I) (k:=0) (x:=zIR (slotAt w t (i'+1))) (sl:=0) (i:=0) (n:=0) (ep:=0) hI;refine zAC (zGf e1 rfl (by simp) ?_);have e2:=aJe (k:=1) (x:=zIR (i'+1)) (sl:=0) (i:=0) (n:=0) (ep:=0) e1;exact zAL ⟨_,rfl,zAL (h _ e2 ((zCA ..).trans (zCA ..)))⟩
def aGy(hh:A.handled=none)(hI:aMa s.heap I d (slotAt w t es.size) es.size es.size ep)(ho:s.heap.get? d=some (dC es ep t))(T:fU t es.size)(hled:t.led= !w.params.followText "set-order")
  (h:∀h',Heap.ExtBut I s.heap h'->Q none {s with heap:=h'}):wpAny (model prog w) A (zEu (.ref I)) Q E s:=by
 have hT:s.TypeIs (.ref I) "set_iterator":=⟨_,hI,rfl⟩;unfold zEu;refine zAC (zHN (zCU (name:=zES "__next__") hT cX (zCF cX hT mW ?_ (nJ _))));show wpAny _ _ (fieldsOf (.ref I)>>=_) _ _ s;refine zAC (wpAny_fieldsOf hI rfl ?_);dsimp only;refine zAC ?_;unfold setEntries;refine zAC (zBS ho rfl T.fits (zAL ?_));simp only[bne_self_eq_false,zA1,if_false];refine zAC ?_;simp only[zC8];refine zj ho T hled (zAQ _) ?_;have hq:(vK w d ep es)[es.size]? =none:=zFt (by
  have:=(sH w d ep es).length_eq
  rw[zA2,zA2]at this;lia)
 rw[hq];dsimp only[zHU];refine zAC (zGf hI rfl (by simp) ?_);show wpAny _ _ (newExc (.type "StopIteration") []>>=_) _ _ _;refine zAC ?_;simp only[newExc,newTuple];refine zAC (zBX (zAC (m:=firstArgMember _ _) (zII (a:=zB8) (by first|rfl|(simp only[firstArgMember];rfl)) (zBX ?_ (by size_fits)))) (by size_fits));simp only[raiseNew];refine zAC (wpAny_handled ?_);rw[show A.in1.handled=none from hh];refine zAC (zAL (wpAny_throw ?_));refine zAC (zFs (T:="StopIteration") (b:=true) ⟨_,zAZ _ rfl,rfl⟩ isSubtype_stop ?_);exact zAL (h _ (((zCA ..).extBut.push _).push _))
def aGr(hh:A.handled=none)(I d:Addr)(hne:d≠I)(es:hV)(ep:Nat)(t:zBy)(T:fU t es.size)(hled:t.led= !w.params.followText "set-order"):
  Walks prog w A I [I,d] [I] es.size (λ i v=>((vK w d ep es)[i]?).map (·.2)=some v) (λ i h=>aMa h I d (slotAt w t i) i es.size ep/\h.get? d=some (dC es ep t)) where
 sub:=λ b hb=>by simp at hb;simp[hb]
 frame:=λ _ _ _ st hk=>⟨hk I (by simp) _ st.1,hk d (by simp) _ st.2⟩
 item:=λ i s Q E hi st hQ=>by
  have hl:i<(vK w d ep es).size:=by
   have:=(sH w d ep es).length_eq
   rw[zA2,zA2]at this;lia
  have hv:((vK w d ep es)[i]?).map (·.2)=some (vK w d ep es)[i].2:=by rw[zAs hl];rfl
  refine aEt st.1 st.2 T hled hi hv λ h' hI' hs'=>?_
  exact hQ _ h' s.toks hv ⟨hI',by rw[hs'.2 d hne];exact st.2⟩ λ b o hb e=>hs'.extBut b o (λ h=>hb (by simp[h])) e
 done:=λ s Q E st hQ=>aGy hh st.1 st.2 T hled λ h' he'=>hQ h' s.toks λ b o hb e=>he' b o (λ h=>hb (by simp[h])) e
 self:=λ i s Q E st hQ=>by
  have hT:s.TypeIs (.ref I) "set_iterator":=⟨_,st.1,rfl⟩;refine zIh hT mz (zCF mz hT uf ?_ (wF _));show wpAny _ _ (ret (.ref I)) _ _ s;exact zAL ⟨_,rfl,"set_iterator",_,hT,cX.lookup,hQ⟩
def aFH(ho:s.heap.get? d=some (dC es ep t))(T:fU t es.size)(h:Q (.ref s.heap.objs.size) {s with heap:=s.heap.push (aJf d 0 0 es.size ep)}):wpAny (model prog w) A (zGr (.ref d)) Q E s:=by
 have hT:s.TypeIs (.ref d) "set":=⟨_,ho,rfl⟩;refine zIh hT zFk (zCF zFk hT yq ?_ (PySem.F.args_set_iter_1 _));unfold zEQ.«frozenset.__iter__» zH6 slotArgs;simp only[List.isEmpty_nil,zCs,zA1,↓reduceIte,bind_assoc,zCW,bne_self_eq_false];unfold zH3 zH5;refine zAC (zAL (zAC (zAL (zAC (zAC (wpAny_setEntries_of ho rfl T.fits (zAL ?_)))))));unfold setDrawn;refine zAC (zAC (zBS ho rfl T.fits ?_));dsimp only;unfold zIc;refine zAC (zAC (zD8 (zAL (zAL ?_))));have hd:(!w.params.followText "set-order"&&(!t.plain&&decide (es.size>1)))=false:=by rw[T.pla];simp
 show wpAny _ _ (if (!w.params.followText "set-order"&&(!t.plain&&decide (es.size>1)))=true then _ else _) _ _ _;rw[hd];simp only[zA1,if_false];refine zAC (zAL (zAC (wpAny_setEpoch_of ho rfl T.fits ?_)));simp only[newFields];refine zAC (zBX (zAL ⟨_,rfl,"set_iterator",_,⟨_,zAZ _ rfl,rfl⟩,cX.lookup,?_⟩));exact h
def aJq(hT:s.TypeIs (.ref r) "set")(h:Q false s):wpAny (model prog w) A (zE1 (.ref r)) Q E s:=by
 unfold zE1;refine zAC (wpAny_specialOf hT PySem.F.slot_set_len.lookup ?_);generalize hid:("set.__len__":String)=id0;wp_delta;rw[show splitId id0=some ("set","__len__")from by subst hid;decide+kernel];subst hid;refine zAC (zFs (T:="set") (b:=true) hT (by rw[zGe];kernel_rfl) ?_);refine wpAny_ite_split (λ hab=>absurd hab (by decide)) λ _=>wpAny_ite_split (λ _=>?_) λ hab=>absurd (by decide+kernel) hab
 exact zAC (zEc hT (zAL h))
def aKk(T:fU t es.size)(hled:t.led= !w.params.followText "set-order"):zHW prog w "set" d d es.size (λ i v=>((vK w d ep es)[i]?).map (·.2)=some v) (λ h=>h.get? d=some (dC es ep t)) where
 type:=λ _ hm=>⟨_,hm,rfl⟩
 there:=λ _ hm=>⟨zAW hm,zAW hm⟩
 keep:=λ _ _ hm hk=>hk d (.inl rfl) _ hm
 notList:=by decide
 notTuple:=by decide
 hint:=λ _ _ _ _ hm hq=>aJq ⟨_,hm,rfl⟩ hq
 iter:=λ A s hh hm=>⟨aJf d 0 0 es.size ep,_,(λ _ _ hq=>aFH hm T hq),aGr hh _ d (zA7 (zAW hm)) es ep t T hled,⟨zAZ _ rfl,zAG _ hm⟩⟩
end
section
variable{prog:zAS}{w:World}{A:zA6}{E:Value->zAD->Prop}{s:zAD}{T:String}{r d:Addr}{n:Nat}{P:Nat->Value->Prop}{OK:Heap->Prop}
def aE0(K:zHW prog w T r d n P OK)(hh:A.handled=none)(hok:OK s.heap)(hn:n<=zAU)
  (h:∀h' tk vs,s.heap.objs.size<h'.objs.size->(∀b o,s.heap.get? b=some o->h'.get? b=some o)->vs.length=n->(∀(j:Nat) v,vs[j]? =some v->P j v)->Q vs {s with heap:=h',toks:=tk}):wpAny (model prog w) A (collect (.ref r)) Q E s:=by
 have hlt:=K.there _ hok;unfold collect;refine zAC (wpAny_runValue (zCc PySem.F.entry_proto_collect ?_));rw[zC3 PySem.F.plain_proto_collect _];show wpAny _ A.in1 (zGS []>>=λ l=>again (.builtin "list.__iadd__" ⟨[l,.ref r],[]⟩)) _ _ s;refine zAC (zBX (zAL ⟨zHH zF0 _,zCc PySem.F.entry_list_iadd ?_⟩));rw[zC3 zF0 _];show wpAny _ A.in1 (Builtin.List.listExtendWith (.ref s.heap.objs.size) (.ref r) (.ref s.heap.objs.size)) _ _ _;have fin:∀h' tk acc' c',(∀b o,b≠s.heap.objs.size->(s.heap.push (zCN "list" #[] 0)).get? b=some o->h'.get? b=some o)->h'.get? s.heap.objs.size=some {cls:=.type "list",dict:=none,data:=.seq acc' c',slots:=#[]}->ItemsOf P acc' n->
   wpAny (model prog w) A (do match (zBF s.heap.objs.size)with
    | .ref a=>match (<-load a).data with
     | .seq xs _=>pure xs.toList
     |_=>unsupported "internal:collect"
    |_=>unsupported "internal:collect") Q E {s with heap:=h',toks:=tk}:=λ h' tk acc' c' hk hS' aE=>
  zAC (wpAny_load hS' (zAL (h h' tk acc'.toList (zAW hS') (λ b o e=>hk b o (zA7 (zAW e)) (zAG _ e)) (by rw[zA2];exact aE.1) λ j v e=>aE.2 j v (by rw[<-zAf];exact e))))
 refine zBP (PySem.W.kdl_extend (A:=A) (s:={s with heap:=s.heap.push (zCN "list" #[] 0)}) (R:=λ r s'=>∃h' tk acc' c',r= .ok (.ret (.ref s.heap.objs.size))/\s'={s with heap:=h',toks:=tk}/\(∀b o,b≠s.heap.objs.size->(s.heap.push (zCN "list" #[] 0)).get? b=some o->h'.get? b=some o)/\h'.get? s.heap.objs.size=some {cls:=.type "list",dict:=none,data:=.seq acc' c',slots:=#[]}/\ItemsOf P acc' n)
  K hh (K.keep _ _ hok λ b _ o e=>zAG _ e) s.heap.objs.size (zBz hlt.1) (zBz hlt.2) (.ref s.heap.objs.size) 0 (zAZ _ rfl) (λ h' tk acc' c' hk hS' aE=>⟨h',tk,acc',c',rfl,rfl,hk,hS',aE⟩) hn) (λ f s' hf=>?_) λ e s' he=>?_
 .cases f with
  |done f=>
   obtain⟨h',tk,acc',c',q1,q2,q3,q4,q5⟩:=hf;cases q1;subst q2;exact fin h' tk acc' c' q3 q4 q5
  |again c=>
   refine⟨hf.1,zDB hf.2 λ r s' hr=>?_⟩;obtain⟨h',tk,acc',c',q1,q2,q3,q4,q5⟩:=hr;subst q1 q2;exact fin h' tk acc' c' q3 q4 q5
 .obtain⟨h',tk,acc',c',q1,_⟩:=he
  cases q1
end
def aM7(h:Heap)(p:Value×List Int):Prop:=∃x o xs k,p.1= .ref x/\h.get? x=some o/\o.cls= .type "tuple"/\o.data= .seq xs k/\zBQ xs.toList p.2/\p.2≠[]
theorem cH.all:∀{vs:List Value} {nss:gV},cH h vs nss->∀p∈vs.zip nss,aM7 h p
 |_,_,.nil,p,hp=>by simp at hp
 |_,_,.cons ho hc hd hi hne r,p,hp=>by
  rw[zAv]at hp;rcases zAO.mp hp with e|hp
  .subst e;exact⟨_,_,_,_,rfl,ho,hc,hd,hi,hne⟩
  .exact r.all p hp
theorem aFx:∀{zs:iX},(∀p∈zs,aM7 h p)->cH h (zs.map (·.1)) (zs.map (·.2))
 |[],_=>.nil
 |p::zs,hz=>by
  obtain⟨x,o,xs,k,e1,e2,e3,e4,e5,e6⟩:=hz p zAI;rw[zAE,zAE,e1];exact .cons e2 e3 e4 e5 e6 (aFx λ q hq=>hz q (zAH _ hq))
def pU(h:l.Perm m'):∀{m:List α},m'=m.map f->∃m2:List α,m2.Perm m/\l=m2.map f:=by
 induction h with
 |nil=>intro m e;exact⟨m,zB3 _,e⟩
 |cons x p ih=>
  intro m e;cases m with
  |nil=>cases e
  |cons a m=>
   rw[zAE]at e;injection e with e1 e2
   obtain⟨m2,q1,q2⟩:=ih e2;exact⟨a::m2,q1.cons a,by rw[zAE,q2,e1]⟩
 |swap x y l=>
  intro m e;cases m with
  |nil=>cases e
  |cons a m=>
   cases m with
   |nil=>rw[zAE]at e;injection e with _ e2;cases e2
   |cons b m=>
    rw[zAE,zAE]at e;injection e with e1 e2
    injection e2 with e2 e3
    exact⟨b::a::m,zED _ _ _,by rw[zAE,zAE,e1,e2,e3]⟩
 |trans p q ih1 ih2=>
  intro m e;obtain⟨m2,a1,a2⟩:=ih2 e;obtain⟨m3,b1,b2⟩:=ih1 a2;exact⟨m3,b1.trans a1,b2⟩
def wJ(l:gV):Prop:=l.Pairwise λ a b=>HT.lexLt b a=false
section
variable{prog:zAS}{w:World}{A:zA6}{E:Value->zAD->Prop}{s:zAD}
def aDV{Q:Value->zAD->Prop}(hz:∀p∈zs,aM7 s.heap p)(h64:zs.length<64)
  (h:∀(zs':iX) h' e,zs'.Perm zs->wJ (zs'.map (·.2))->(∀b o,s.heap.get? b=some o->h'.get? b=some o)->h'.get? s.heap.objs.size=some (zCN "list" (zs'.map (·.1)).toArray e)->Q (.ref s.heap.objs.size) {s with heap:=h'}):
  wpAny (model prog w) A (zGS (zs.map (·.1))>>=λ l=>zCE [l] (call (.builtin "list.sort") [l])>>=λ _=>ret l) (λ fin s'=>∃r,fin= .done (.ret r)/\Q r s') E s:=by
 have kK:(zs.map (·.1)).length=zs.length:=zAF _;refine zAC (wpAny_newList ?_ (by rw[zCe];omega));have hoL:(s.heap.push (zCN "list" (zs.map (·.1)).toArray 0)).get? s.heap.objs.size=some (zCN "list" (zs.map (·.1)).toArray 0):=zAZ _ rfl;refine zAC (zB5 (zCF slot_list_sort ⟨_,hoL,rfl⟩ entry_list_sort ?_ (args_list_sort _)));refine aF0 (s:={s with heap:=s.heap.push (zCN "list" (zs.map (·.1)).toArray 0)}) hoL (aFx λ p hp=>?_) (by omega) λ p a1 a2=>⟨_,rfl,?_⟩
 .obtain⟨x,o,xs,k,e1,e2,e3⟩:=hz p hp
  exact⟨x,o,xs,k,e1,zAG _ e2,e3⟩
 rw[kK]at a1 a2;have eL:p.toList.map (λ i=>(zs.map (·.1)).getD i zB8)=(p.toList.map λ i=>zs.getD i (zB8,[])).map (·.1):=by
  rw[zAl];refine zCL λ i hi=>?_
  show(zs.map (·.1)).getD i zB8=(zs.getD i (zB8,[])).1
  rw[zA3,zA3,zAR];cases zs[i]?<;>rfl
 have aS:(p.toList.map λ i=>zs.getD i (zB8,[])).Perm zs:=by
  have h1:p.toList.Perm (zAh zs.length):=by
   have:=Array.perm_iff_toList_perm.mp a1
   simpa using this
  refine(h1.map _).trans ?_
  have:(zAh zs.length).map (λ i=>zs.getD i (zB8,[]))=zs:=by
   refine zHb (by simp) λ i h1 h2=>?_
   rw[zDP,zGz,zA3,zAB h2];rfl
  rw[this]
 have hne:∀b o,s.heap.get? b=some o->b≠s.heap.objs.size:=λ b o e=>zA7 (zAW e)
 obtain⟨e1,he1⟩:∃e1,((s.heap.push (zCN "list" (zs.map (·.1)).toArray 0)).update s.heap.objs.size (zCI λ _=>(#[]:Array Value))).get? s.heap.objs.size=some (zCN "list" #[] e1):=⟨_,zGP hoL λ _=>#[]⟩
 have g1:=zAG (zCN "list" #[] 0) (zAG (zCN "tuple" (zs.map (·.1)).toArray 0) he1);have g2:=zGP g1 (λ _=>sy (zs.map (·.1)) p);generalize (if ((sy (zs.map (·.1)) p).size==(#[]:Array Value).size)=true then e1 else e1+1)=c1 at g2;have hend:(zGs (s.heap.push (zCN "list" (zs.map (·.1)).toArray 0)) s.heap.objs.size (zs.map (·.1)) (sy (zs.map (·.1)) p)).get? s.heap.objs.size=some (zCN "list" (sy (zs.map (·.1)) p) c1):=g2;have qV:sy (zs.map (·.1)) p=((p.toList.map λ i=>zs.getD i (zB8,[])).map (·.1)).toArray:=by unfold sy;rw[eL]
 have hris:wJ ((p.toList.map λ i=>zs.getD i (zB8,[])).map (·.2)):=by
  unfold wJ;rw[zAl];refine zCh.mpr λ i j hi hj hij=>?_
  rw[zAF,zA2,a1.sz]at hi hj;have hk:∀k (hk:k<zs.length),Kp (O:=aF1) (λ i=>(zs.map (·.2)).getD i []) p k=(zs.getD (p.getD k 0) (zB8,[])).2:=λ k hk=>by
   show(zs.map (·.2)).getD (p.getD k 0) []=_
   rw[zA3,zA3,zAR];cases zs[p.getD k 0]?<;>rfl
  have hg:∀k (hk:k<p.toList.length),p.toList[k]=p.getD k 0:=λ k hk=>by
   have:k<p.size:=by simpa using hk
   simp[zBt,this]
  have this:HT.lexLt (Kp (O:=aF1) (λ i=>(zs.map (·.2)).getD i []) p j) (Kp (O:=aF1) (λ i=>(zs.map (·.2)).getD i []) p i)=false:=a2 i j (zBl hij) hj;rw[hk i hi,hk j hj]at this;rw[zDP,zDP,hg,hg];exact this
 have dL:∀b o,s.heap.get? b=some o->(zGs (s.heap.push (zCN "list" (zs.map (·.1)).toArray 0)) s.heap.objs.size (zs.map (·.1)) (sy (zs.map (·.1)) p)).get? b=some o:=λ b o e=>by
  unfold zGs;rw[zE4 _ _ _ _ (hne b o e)];refine zAG _ (zAG _ ?_);rw[zE4 _ _ _ _ (hne b o e)];exact zAG _ e
 rw[qV]at hend dL;have hq:=h (p.toList.map λ i=>zs.getD i (zB8,[])) _ c1 aS hris dL hend;rw[<-qV]at hq;exact zAL ⟨_,rfl,hq⟩
def aCN(h:wpAny (model prog w) A.in1 (collect v) (λ vs s'=>wpAny (model prog w) A.in1 (zGS vs>>=λ l=>zCE [l] (call (.builtin "list.sort") [l])>>=λ _=>ret l) (λ fin s'=>∃r,fin= .done (.ret r)/\Q r s') E s') E s):
  wpAny (model prog w) A (call (.builtin "sorted") [v]) Q E s:=by
 refine Calls.call_function_entry kind_sorted plain_sorted entry_sorted (args_sorted1 _) ?_;unfold zEQ.«sorted»;refine zAC (m:=checkCount "sorted" 1 1 _) (zAL (zAC ?_));exact h
end
inductive cz(K:zAA)(H:Hp):List V->List (List Int)->Prop where
 |nil:cz K H [] []
 |cons {a:Addr} {ns:List Int} {vs:List V} {nss:gV} (h:SqT K H a (ns.map V.int)) (hne:ns≠[]) (r:cz K H vs nss):cz K H (.ref a::vs) (ns::nss)
def qZ:V->Value
 | .ref a=>.ref a
 |_=>.none
def cz.vals{K:zAA}:∀{vs:List V} {nss:gV} {us:List Value},cz K H vs nss->Vals vs us->us=vs.map qZ:=by
 intro vs nss us t v;induction v generalizing nss with
 |nil=>rfl
 |cons q s ih=>
  cases t with
  |cons _ _ r=>
   cases q;rw[zAE,ih r];rfl
theorem cz.len{K:zAA}:∀{vs:List V} {nss:gV},cz K H vs nss->vs.length=nss.length
 |_,_,.nil=>rfl
 |_,_,.cons _ _ r=>by rw[zA0,zA0,r.len]
theorem cz.refs{K:zAA}:∀{vs:List V} {nss:gV},cz K H vs nss->∀v∈vs,RelV v (qZ v)
 |_,_,.nil,v,hv=>by simp at hv
 |_,_,.cons _ _ r,v,hv=>by
  rcases zAO.mp hv with e|hv
  .subst e;exact rfl
  .exact r.refs v hv
theorem cz.up{K:zAA}(s:aX H H'):∀{vs:List V} {nss:gV},cz K H vs nss->cz K H' vs nss
 |_,_,.nil=>.nil
 |_,_,.cons h hne r=>.cons (s.sqt h) hne (r.up s)
theorem cz.at(I:Inv X kX Z H s):∀{vs:List V} {nss:gV},cz X.K H vs nss->cH s.heap (vs.map qZ) nss
 |_,_,.nil=>.nil
 |_,_,.cons h hne r=>by
  obtain⟨its,rv,⟨o,ho,hc,n,hd⟩,_⟩:=I.tuple h;exact .cons ho hc hd (by simpa using intsAre_of rv) hne (r.at I)
theorem aBV:∀{vs:List V},(∀v∈vs,RelV v (qZ v))->Vals vs (vs.map qZ)
 |[],_=>.nil
 |v::vs,h=>.cons (h v zAI) (aBV λ u hu=>h u (zAH _ hu))
def setφ(w:World)(a:Addr)(zs:iX):Heap->Prop:=λ h=>∃es t,yu h a (!w.params.followText "set-order") zs es t
abbrev aHG(zs:List (V×List Int)):iX:=zs.map λ q=>(qZ q.1,q.2)
def aDf(vs:List V)(nss:gV):(vs.map qZ).zip nss=aHG (vs.zip nss):=by rw[zHQ];rfl
def aMP{w:World}{H:Hp}{h:Heap}{a:Addr}{zs:iX}(S:yu h a (!w.params.followText "set-order") zs es t):cZ prog w H h a (.ext (setφ w a zs)):=
 ⟨⟨es,t,S⟩,(let⟨_,e⟩:=S.at_;⟨_,e⟩),λ h1 h2 ⟨es,t,S⟩ k=>⟨es,t,{S with at_:=S.at_.keep k}⟩⟩
section
variable{X:Cx}
def aGL(K:zAA)(w:World):List V->Hp->VK->Prop:=λ xs H Q=>∃p vs nss,xs=[.ref p]/\(SqL K H p vs\/SqT K H p vs)/\cz K H vs nss/\(ddV (vs.zip nss)).length<=76/\(∀a∈nss,∀b∈nss,hsh a=hsh b->a=b)/\∀a H',aX H H'->H' a=some (.ext (setφ w a (aHG (ddV (vs.zip nss)))))->H a=none->Q (.ref a) H'
def aFm(hc:X.calm=true)(hu:X.A.units+64<cLine):lH X (.type "set") (aGL X.K X.w):=by
 intro kX s Z H xs us Q I r h;obtain⟨p,vs,nss,rfl,hp,ht,h64,hin,q⟩:=h;obtain⟨u,rfl,ru⟩:=vals1 r;cases ru;have ez:ddV ((vs.map qZ).zip nss)=aHG (ddV (vs.zip nss)):=by rw[aDf];exact aMU qZ _
 have h64':(ddV ((vs.map qZ).zip nss)).length<=76:=by rw[ez,zAF];exact h64
 have hfr:H s.heap.objs.size=none:=I.hok.fresh (zAQ _);have fin:∀h' tk es t,yu h' s.heap.objs.size (!X.w.params.followText "set-order") (ddV ((vs.map qZ).zip nss)) es t->(∀b o,s.heap.get? b=some o->h'.get? b=some o)->EP X kX Z Q (.ref s.heap.objs.size) {s with heap:=h',toks:=tk}:=λ h' tk es t g1 g5=>by
  rw[ez]at g1;exact⟨.ref s.heap.objs.size,upd H s.heap.objs.size (.ext (setφ X.w s.heap.objs.size (aHG (ddV (vs.zip nss))))),I.laid (t':=tk) g5 (zAQ _) (aMP g1),rfl,q _ _ (cu hfr _) bN hfr⟩
 rcases hp with hp|hp
 .obtain⟨its,rv,pl,hz⟩:=I.list hp
  have e:=ht.vals rv;subst e;exact PySem.aHk (I.ok.hd hc) (by lia) pl.isList (ht.at I) h64' hin fin
 .obtain⟨its,rv,pl,hz⟩:=I.tuple hp
  have e:=ht.vals rv;subst e;exact PySem.aE5 (I.ok.hd hc) (by lia) pl (ht.at I) h64' hin fin
def aGq(H:Hp)(vs:List V)(nss:gV)(Q:VK):Prop:=∀zs:List (V×List Int),zs.Perm (vs.zip nss)->wJ (zs.map (·.2))->New H (.lst (zs.map (·.1))) Q
def aEq{kX:hZ}(I:Inv X kX Z H s)(ht:cz X.K H vs nss)(h64:vs.length<64)(q:aGq H vs nss Q)
  (hs1:∃h1 tk,s1={s with heap:=h1,toks:=tk}/\s.heap.objs.size<=h1.objs.size/\∀b o,s.heap.get? b=some o->h1.get? b=some o){zs:iX}(hz:zs.Perm ((vs.map qZ).zip nss))(hus:us=zs.map (·.1)):
  wpAny (model X.prog X.w) X.A.in1 (zGS us>>=λ l=>zCE [l] (call (.builtin "list.sort") [l])>>=λ _=>ret l) (λ fin s'=>∃r,fin= .done (.ret r)/\EP X kX Z Q r s') X.xe s1:=by
 obtain⟨h1,tk,rfl,hsz,keep⟩:=hs1;subst hus;have pV:∀p∈zs,aM7 h1 p:=λ p hp=>by
  obtain⟨x,o,xs,k,e1,e2,e3⟩:=(ht.at I).all p (hz.mem_iff.mp hp);exact⟨x,o,xs,k,e1,keep _ _ e2,e3⟩
 have kK:zs.length<64:=by
  rw[hz.length_eq,zFS,zAF,<-ht.len,zFH];exact h64
 refine aDV (s:={s with heap:=h1,toks:=tk}) pV kK λ zs' h' e a1 a2 a3 a4=>?_
 have eL:(vs.map qZ).zip nss=(vs.zip nss).map λ p=>(qZ p.1,p.2):=by rw[zHQ];rfl
 obtain⟨ws,w1,w2⟩:=pU (f:=λ p:V×List Int=>(qZ p.1,p.2)) (a1.trans hz) eL;have hfr:H h1.objs.size=none:=I.hok.fresh hsz;have eP:∀v∈ws.map (·.1),RelV v (qZ v):=λ v hv=>by
  obtain⟨p,hp,rfl⟩:=zAY.mp hv;exact ht.refs p.1 (zCY (w1.mem_iff.mp hp)).1
 have hws:zs'.map (·.1)=(ws.map (·.1)).map qZ:=by rw[w2,zAl,zAl];rfl
 have hwl:(ws.map (·.1)).length<=zAU:=by
  rw[zAF,w1.length_eq,zFS,<-ht.len,zFH,zCe];lia
 refine⟨.ref h1.objs.size,upd H h1.objs.size (.lst (ws.map (·.1))),I.laid (t':=tk) (λ b o e=>a3 b o (keep b o e)) hsz ⟨hwl,(ws.map (·.1)).map qZ,e,aBV eP,?_⟩,rfl,(q ws w1 ?_).at hfr⟩
 .rw[<-hws];exact a4
 .have:ws.map (·.2)=zs'.map (·.2):=by rw[w2,zAl];rfl
  rw[this];exact a2
def aEp{kX:hZ}{P:Value->zAD->Prop}(hc:X.calm=true)(I:Inv X kX Z H s){zs:iX}(ha:H a=some (.ext (setφ X.w a zs)))(h64:zs.length<4000)
  (h:∀s1 (zs':iX),(∃h1 tk,s1={s with heap:=h1,toks:=tk}/\s.heap.objs.size<=h1.objs.size/\∀b o,s.heap.get? b=some o->h1.get? b=some o)->zs'.Perm zs->wpAny (model X.prog X.w) X.A.in1 (zGS (zs'.map (·.1))>>=λ l=>zCE [l] (call (.builtin "list.sort") [l])>>=λ _=>ret l) (λ fin s'=>∃r,fin= .done (.ret r)/\P r s') X.xe s1):
  wpAny (model X.prog X.w) X.A (call (.builtin "sorted") [.ref a]) P X.xe s:=by
 obtain⟨⟨es,t,S⟩,_,_⟩:=I.hok a _ ha;obtain⟨⟨ep,e1⟩,e2,_,e3,e4,_⟩:=S;have hsz:es.size=zs.length:=by rw[<-zA2,e4.length_eq,zAF]
 have hh:X.A.in1.handled=none:=I.ok.hd hc;refine aCN (aE0 (aKk (ep:=ep) e2 e3) hh e1 (by rw[hsz,zCe];lia) λ h1 tk vs1 k0 k1 k2 k3=>?_);obtain⟨zs',z1,z2⟩:=pU (f:=ent) ((sH X.w a ep es).trans e4) rfl;have hvs:vs1=zs'.map (·.1):=by
  have e5:(vK X.w a ep es).toList.map (·.2)=zs'.map (·.1):=by rw[z2,zAl];rfl
  rw[<-e5];have kK:(vK X.w a ep es).toList.length=es.size:=by rw[(sH X.w a ep es).length_eq,zA2]
  refine zHb (by rw[k2,zAF,kK]) λ i g1 g2=>?_
  have:=k3 i _ (zAB g1)
  rw[<-zAf,<-zAR,zAB g2]at this;exact(zAc this).symm
 subst hvs;exact h _ zs' ⟨h1,tk,rfl,zBl k0,k1⟩ z1
theorem aHv:∀zs:List (α×β),(zs.map (·.1)).zip (zs.map (·.2))=zs
 |[]=>rfl
 |p::zs=>by rw[zAE,zAE,zAv,aHv zs]
def aFG(K:zAA)(w:World):List V->Hp->VK->Prop:=λ xs H Q=>∃a zs,xs=[.ref a]/\H a=some (.ext (setφ w a (aHG zs)))/\cz K H (zs.map (·.1)) (zs.map (·.2))/\zs.length<64/\aGq H (zs.map (·.1)) (zs.map (·.2)) Q
def aBS(hc:X.calm=true):lH X (.builtin "sorted") (aFG X.K X.w):=by
 intro kX s Z H xs us Q I r h;obtain⟨a,zs,rfl,ha,ht,h64,q⟩:=h;obtain⟨u,rfl,ru⟩:=vals1 r;cases ru;exact aEp hc I ha (by rw[zAF];lia) λ s1 zs' hs1 hp=>aEq I ht (by rw[zAF];exact h64) q hs1 (by rw[aDf,aHv];exact hp) rfl
end
def aH9(a:List Int):gV->List (List Int)
 |[]=>[a]
 |b::l=>if HT.lexLt b a then b::aH9 a l else a::b::l
def za:gV->List (List Int)
 |[]=>[]
 |a::l=>aH9 a (za l)
theorem xJ(a:List Int):∀l,(aH9 a l).Perm (a::l)
 |[]=>zB3 _
 |b::l=>by
  unfold aH9;split
  .exact((xJ a l).cons b).trans (zED _ _ _)
  .exact zB3 _
theorem uJ:∀l,(za l).Perm l
 |[]=>zB3 _
 |a::l=>(xJ a _).trans ((uJ l).cons a)
def aLh(h:HT.lexLt a b=true):HT.lexLt b a=false:=by
 cases e:HT.lexLt b a with
 |false=>rfl
 |true=>have:=vR a b a h e;rw[aCc]at this;cases this
def aOT(h1:HT.lexLt b a=false)(h2:HT.lexLt c b=false):HT.lexLt c a=false:=by
 cases e:HT.lexLt c a with
 |false=>rfl
 |true=>
  rcases aJV c b a e with z|z
  .rw[h2]at z;cases z
  .rw[h1]at z;cases z
theorem aA5(a:List Int):∀l,wJ l->wJ (aH9 a l)
 |[],_=>zBB.mpr ⟨λ _ h=>by simp at h,.nil⟩
 |b::l,h=>by
  obtain⟨h1,h2⟩:=zBB.mp h;unfold aH9;cases e:HT.lexLt b a with
  |true=>
   rw[if_pos rfl];refine zBB.mpr ⟨λ x hx=>?_,aA5 a l h2⟩;rcases zAO.mp ((xJ a l).mem_iff.mp hx)with q|q
   .subst q;exact aLh e
   .exact h1 x q
  |false=>
   rw[if_neg (by simp)];refine zBB.mpr ⟨λ x hx=>?_,h⟩;rcases zAO.mp hx with q|q
   .subst q;exact e
   .exact aOT e (h1 x q)
theorem qj:∀l,wJ (za l)
 |[]=>.nil
 |a::l=>aA5 a _ (qj l)
theorem aB3:∀{a b:gV},a.Perm b->wJ a->wJ b->a=b
 |[],b,p,_,_=>p.nil_eq
 |x::a,b,p,h1,h2=>by
  cases b with
  |nil=>exact absurd p.length_eq (by simp)
  |cons y b=>
   have hxy:x=y:=by
    obtain⟨q1,_⟩:=zBB.mp h1;obtain⟨q2,_⟩:=zBB.mp h2;have m1:x∈y::b:=p.mem_iff.mp zAI;have m2:y∈x::a:=p.mem_iff.mpr zAI;rcases zAO.mp m1 with e|m1
    .exact e
    .rcases zAO.mp m2 with e|m2
     .exact e.symm
     .exact aAU _ _ (q2 x m1) (q1 y m2)
   subst hxy;rw[aB3 (List.Perm.cons_inv p) (zBB.mp h1).2 (zBB.mp h2).2]
abbrev tupI(ns:List Int):D:=.tup (ns.map .int)
def uG:List D->Option gV
 |[]=>some []
 | .tup l::r=>match intsOf l,uG r with
  |some (n::ns),some nss=>some ((n::ns)::nss)
  |_,_=>none
 |_=>none
theorem xY:∀{l:List D} {nss:gV},uG l=some nss->l=nss.map tupI/\∀ns∈nss,ns≠[]
 |[],nss,h=>by cases h;exact⟨rfl,λ ns h=>by simp at h⟩
 | .tup l::r,nss,h=>by
  unfold uG at h;split at h
  .rename_i n ns nss' e1 e2
   cases h;obtain⟨q1,q2⟩:=xY e2;rw[rM e1,q1];refine⟨rfl,λ ms hm=>?_⟩;rcases zAO.mp hm with e|hm
   .subst e;simp
   .exact q2 ms hm
  .cases h
 | .non::_,_,h=>by cases h
 | .int _::_,_,h=>by cases h
 | .bl _::_,_,h=>by cases h
 | .str _::_,_,h=>by cases h
 | .lst _::_,_,h=>by cases h
 | .dct _ _::_,_,h=>by cases h
 | .set _::_,_,h=>by cases h
 | .scr _::_,_,h=>by cases h
theorem zX:∀{nss:gV},(∀ns∈nss,ns≠[])->uG (nss.map tupI)=some nss
 |[],_=>rfl
 |[]::nss,h=>absurd rfl (h [] zAI)
 |(n::ns)::nss,h=>by
  have ih:=zX λ ms hm=>h ms (zAH _ hm)
  rw[zAE];unfold uG;rw[ih,show intsOf (List.map D.int (n::ns))=some (n::ns)from ue _]
theorem aDQ{K:zAA}:∀{xs:List V} {nss:gV},Rps K A H xs (nss.map tupI)->(∀ns∈nss,ns≠[])->cz K H xs nss
 |_,[],.nil,_=>.nil
 |_,ns::nss,.cons h r,hne=>by
  cases h with
  |tup h r'=>
   have e:=r'.ints_of;subst e;exact .cons h (hne ns zAI) (aDQ r λ ms hm=>hne ms (zAH _ hm))
theorem aIY{K:zAA}:∀{zs:List (V×List Int)},(∀p∈zs,∃a,p.1= .ref a/\SqT K H a (p.2.map V.int))->Rps K A H (zs.map (·.1)) ((zs.map (·.2)).map tupI)
 |[],_=>.nil
 |p::zs,h=>by
  obtain⟨a,e1,e2⟩:=h p zAI;rw[zAE,zAE,zAE,e1];exact .cons (.tup e2 .ints) (aIY λ q hq=>h q (zAH _ hq))
theorem cz.all{K:zAA}:∀{vs:List V} {nss:gV},cz K H vs nss->∀p∈vs.zip nss,∃a,p.1= .ref a/\SqT K H a (p.2.map V.int)
 |_,_,.nil,p,hp=>by simp at hp
 |_,_,.cons h _ r,p,hp=>by
  rw[zAv]at hp;rcases zAO.mp hp with e|hp
  .subst e;exact⟨_,rfl,h⟩
  .exact r.all p hp
def aIN{K:zAA}(ht:cz K H vs nss)(q:∀v H',aX H H'->Rp K (λ p=>H p=none) H' v (.lst ((za nss).map tupI))->Q v H'):aGq H vs nss Q:=by
 intro zs hz hr p H' s hp hn;have e:zs.map (·.2)=za nss:=aB3 (((hz.map (·.2)).trans (by rw[zFF (by rw[ht.len];exact zAQ _)])).trans (uJ nss).symm) hr (qj nss);refine q _ H' s (.lst hp hn ?_);rw[<-e];exact aIY λ p hp=>by
  obtain⟨a,e1,e2⟩:=ht.all p (hz.mem_iff.mp hp);exact⟨a,e1,s.sqt e2⟩
def aMG(nss:gV):Bool:=nss.all λ a=>nss.all λ b=>a==b||hsh a !=hsh b
def aMF(h:aMG nss=true):∀a∈nss,∀b∈nss,hsh a=hsh b->a=b:=λ a ha b hb e=>by
 have:=zA9.mp (zA9.mp h a ha) b hb
 simpa[e]using this
theorem cz.one{K:zAA}:∀{zs:List (V×List Int)},(∀p∈zs,∃a,p.1= .ref a/\SqT K H a (p.2.map V.int)/\p.2≠[])->cz K H (zs.map (·.1)) (zs.map (·.2))
 |[],_=>.nil
 |p::zs,h=>by
  obtain⟨a,e1,e2,e3⟩:=h p zAI;rw[zAE,zAE,e1];exact .cons e2 e3 (cz.one λ q hq=>h q (zAH _ hq))
theorem cz.ne{K:zAA}:∀{vs:List V} {nss:gV},cz K H vs nss->∀ns∈nss,ns≠[]
 |_,_,.nil,ns,h=>by simp at h
 |_,_,.cons _ hne r,ns,h=>by
  rcases zAO.mp h with e|h
  .subst e;exact hne
  .exact r.ne ns h
def cz.dd{K:zAA}(t:cz K H vs nss):cz K H ((ddV (vs.zip nss)).map (·.1)) ((ddV (vs.zip nss)).map (·.2)):=cz.one λ p hp=>by
 obtain⟨a,e1,e2⟩:=t.all p (zQ hp);exact⟨a,e1,e2,t.ne _ (zCY (zQ hp)).2⟩
theorem cz.ddT{K:zAA}(t:cz K H vs nss):(ddV (vs.zip nss)).map (·.2)=VL.ddT nss:=by rw[aMT,zFF (by rw[t.len];exact zAQ _)]
def lr(n:Nat)(l:List D):Rs D:=match uG l with
 |some nss=>if (ddT nss).length<n/\aMG nss=true then .ok (.lst ((za (ddT nss)).map tupI))else .st
 |none=>.st
def dI:List D->Rs D
 |[.lst l]=>lr 64 l
 |[.tup l]=>lr 64 l
 |_=>.st
def aKs{K:zAA}{w:World}{Q Q':VK}(hp:SqL K H p vs\/SqT K H p vs)(r:Rps K A H vs l)(ez:lr n l= .ok z)(hn:n<=77)
  (hr:∀a zs H2,aX H H2->H2 a=some (.ext (setφ w a (aHG zs)))->cz K H2 (zs.map (·.1)) (zs.map (·.2))->zs.length<n->aGq H2 (zs.map (·.1)) (zs.map (·.2)) Q->Q' (.ref a) H2)
  (q:∀v H',aX H H'->Rp K (λ p=>H p=none) H' v z->Q v H'):aGL K w [.ref p] H Q':=by
 unfold lr at ez;split at ez
 .rename_i nss e
  obtain⟨e1,e2⟩:=xY e;subst e1;split at ez
  .rename_i hl
   cases ez;have ht:=aDQ r e2;have hlv:=hl.1;rw[<-ht.ddT,zAF]at hlv;refine⟨_,_,nss,rfl,hp,ht,by lia,aMF hl.2,λ a H2 s2 ha hn=>hr a _ H2 s2 ha (ht.dd.up s2) hlv ?_⟩;refine aIN (ht.dd.up s2) ?_;rw[ht.ddT];exact λ v H' s r=>q v H' (s2.trans s) (r.wk λ p o _ q=>s2.free q)
  .cases ez
 .cases ez
section
variable{C:Ct}{pos p p2 pos2:Pos}{m:Mode}{a:Expr}{ga:En->Rs (List D)}
def vC(hm:C.mg "sorted"=none)(hm2:C.mg "set"=none)(ha:SA C m [a] ga)(he:∀i,zAV [a] (C.X i).env=[(false,eval a (C.X i).env)]:=by intro _;rfl)(he2:∀i,zAV [Expr.Call (.Name "set" p2) [a] [] pos2] (C.X i).env=[(false,eval (.Call (.Name "set" p2) [a] [] pos2) (C.X i).env)]:=by intro _;rfl)(hg:∀i,Gl (C.X i) "sorted":=by intro _;rfl)(hv:zBK "sorted"=some (.builtin "sorted"):=by decide+kernel)(hg2:∀i,Gl (C.X i) "set":=by intro _;rfl)(hv2:zBK "set"=some (.type "set"):=by decide+kernel):
  SE C (some []) (.Call (.Name "sorted" p) [.Call (.Name "set" p2) [a] [] pos2] [] pos) (opA dI ga):=by
 obtain⟨t,h1,h2⟩:=ha;have hw:∀i,(C.X i).w=C.w:=λ i=>(C.cx i).2.1
 refine⟨tCB (aFG C.K C.w) (kE (tCB (aGL C.K C.w) t) uw),λ i=>vJ (by rw[<-C.hK i,<-hw i];exact aBS (C.calm i)) (hg i) (by rw[(C.cx i).2.2.2.1];exact hm) hv
  (az (aB6 (by rw[<-C.hK i,<-hw i];exact aFm (C.calm i) (C.u64 i)) (hg2 i) (by rw[(C.cx i).2.2.2.1];exact hm2) hv2 (h1 i) (by decide) (by decide) (he i) rfl) fH (he2 i)) (by decide) (by decide) (he2 i) rfl,λ U Z H Y lab Q R W=>?_⟩
 refine h2 U Z H Y lab _ R (W.bd.imp λ ds _ w xs H1 s1 r1=>?_);obtain⟨z,ez,w⟩:=w.okD;have fin:∀{p vs l},(SqL C.K H1 p vs\/SqT C.K H1 p vs)->∀{A},Rps C.K A H1 vs l->lr 64 l= .ok z->aGL C.K C.w [.ref p] H1 λ x H2=>aFG C.K C.w [x] H2 Q:=λ hp _ r ez=>aKs hp r ez (by decide) (λ a zs H2 _ h1 h2 h3 h4=>⟨a,zs,rfl,h1,h2,h3,h4⟩) λ v H' s r=>w v H' (s1.trans s) (r.wk λ p o _ q=>.inl (s1.free q))
 unfold dI at ez;split at ez
 .cases r1 with
  |cons h r=>
   cases r;obtain⟨a,xs,rfl,h,m,r⟩:=h.lst_inv;exact fin (.inl (SqL.of h)) r ez
 .cases r1 with
  |cons h r=>
   cases r;obtain⟨a,xs,rfl,h,r⟩:=h.tup_inv;exact fin (.inr h) r ez
 .cases ez
end
structure Mg{β:Type}(r:β->β->Prop)(T out ra rb:List β):Prop where
 pm:(out++(ra++rb)).Perm T
 so:out.Pairwise r
 lo:∀x∈out,∀y∈ra++rb,r x y
 sa:ra.Pairwise r
 sb:rb.Pairwise r
section
variable{β:Type}{r:β->β->Prop}{T:List β}
def Mf(r:β->β->Prop)(T o:List β):Prop:=o.Perm T/\o.Pairwise r
end
structure Eg(st st':zDS):Prop where
 k:zDT st'=zDT st
 a:arrOf st'=arrOf st
 p:zGT st'=zGT st
 f:zGJ st'=zGJ st
abbrev LS:=Option (Array Keyed)×Array Keyed×Nat×Nat×Nat×Nat×Nat
section
variable{O:zCK}{kf:Keyed->O.α}{T:List Keyed}{a b out:Array Keyed}{ia ib mg ac bc m0:Nat}{st:zDS}{Q:ForInStep LS->zDS->Prop}
abbrev rK(O:zCK)(kf:Keyed->O.α)(x y:Keyed):Prop:=O.kle (kf x) (kf y)
abbrev Ml(O:zCK)(kf:Keyed->O.α)(T:List Keyed)(a b out:Array Keyed)(ia ib:Nat):Prop:=Mg (rK O kf) T out.toList (a.toList.drop ia) (b.toList.drop ib)
structure Tu(O:zCK)(kf:Keyed->O.α)(T:List Keyed)(a b:Array Keyed)(m0:Nat)(st:zDS)(Q:ForInStep LS->zDS->Prop):Prop where
 ret:∀o out ia ib mg ac bc st',Eg st st'->Mf (rK O kf) T o.toList->Q (.done (some o,out,ia,ib,mg,ac,bc)) st'
 on:∀out ia ib mg ac bc st',Eg st st'->Ml O kf T a b out ia ib->ia+1<a.size->ib<b.size->m0<ia+ib->Q (.done (none,out,ia,ib,mg,ac,bc)) st'/\Q (.yield (none,out,ia,ib,mg,ac,bc)) st'
end
abbrev HS:=Option (Array Keyed)×Nat×Nat×Array Keyed×Nat×Nat×Nat
section
variable{O:zCK}{kf:Keyed->O.α}{T:List Keyed}{a b out:Array Keyed}{na nb mg ac bc m0:Nat}{st:zDS}{Q:ForInStep HS->zDS->Prop}
abbrev rH(O:zCK)(kf:Keyed->O.α)(x y:Keyed):Prop:=O.kle (kf y) (kf x)
abbrev Mh(O:zCK)(kf:Keyed->O.α)(T:List Keyed)(a b out:Array Keyed)(na nb:Nat):Prop:=Mg (rH O kf) T out.toList (a.toList.take na).reverse (b.toList.take nb).reverse
structure Th(O:zCK)(kf:Keyed->O.α)(T:List Keyed)(a b:Array Keyed)(m0:Nat)(st:zDS)(Q:ForInStep HS->zDS->Prop):Prop where
 ret:∀o na nb out mg ac bc st',Eg st st'->Mf (rK O kf) T o.toList->Q (.done (some o,na,nb,out,mg,ac,bc)) st'
 on:∀na nb out mg ac bc st',Eg st st'->Mh O kf T a b out na nb->0<na->1<nb->na<=a.size->nb<=b.size->na+nb<m0->Q (.done (none,na,nb,out,mg,ac,bc)) st'/\Q (.yield (none,na,nb,out,mg,ac,bc)) st'
end
structure Ea(st st':zDS):Prop where
 k:zDT st'=zDT st
 p:zGT st'=zGT st
 f:zGJ st'=zGJ st
section
variable{κ:zDX}{G:Keyed->Prop}{st:zDS}{P R:List Keyed}{lo:Nat}
structure Sg(κ:zDX)(G:Keyed->Prop)(st:zDS)(lo:Nat)(P R:List Keyed):Prop where
 k:zDT st=κ
 l:(arrOf st).toList=P++R
 p:P.length=lo
 g:∀x∈R,G x
end
def Pr(O:zCK)(kf:Keyed->O.α):Nat->List (List Keyed)->List (Nat×Nat×Nat)->Prop
 |_,[],[]=>True
 |o,x::segs,p::ps=>p.1=o/\p.2.1=x.length/\0<x.length/\x.Pairwise (rK O kf)/\Pr O kf (o+x.length) segs ps
 |_,_,_=>False
section
variable{κ:zDX}{O:zCK}{kf:Keyed->O.α}{st:zDS}{T R:List Keyed}{segs:List (List Keyed)}
structure Rn(κ:zDX)(O:zCK)(kf:Keyed->O.α)(T:List Keyed)(st:zDS)(segs:List (List Keyed))(R:List Keyed):Prop where
 k:zDT st=κ
 f:zGJ st=none
 l:(arrOf st).toList=segs.flatten++R
 pm:(arrOf st).toList.Perm T
 pr:Pr O kf 0 segs (zGT st).toList
end
def eH{α:Type}(l:List α)(i:Int)(y:α):List α:=l.take (if i<0 then(i+(l.length:Int)).toNat else min i.toNat l.length)++y::l.drop (if i<0 then(i+(l.length:Int)).toNat else min i.toNat l.length)
def sU(l:List α)(i:Int)(y:α):(eH l i y).length=l.length+1:=by
 unfold eH;rw[zAp,zA0,zCP,zDQ];omega
def aMp:V->List V->Hp->VK->Prop:=λ x vs H Q=>∃l xs i y,x= .ref l/\vs=[.int i,y]/\H l=some (.lst xs)/\-(2^63)<=i/\i<2^63/\xs.length<zAU/\∀H',oA l H H'->H' l=some (.lst (eH xs i y))->Q .non H'
def aLc:MtM X "list.insert" aMp:=by
 intro kX s Z H x vs v us Q I rx rv h;obtain⟨l,xs,i,y,rfl,rfl,hH,h1,h2,hz,q⟩:=h;cases rx;obtain⟨u1,u2,rfl,r1,r2⟩:=vals2 rv;obtain⟨t,rfl⟩:=r1;obtain⟨z,its,n,r,hl,e⟩:=I.lstM hH;have hf:zDI i=true:=by unfold zDI;simp;omega
 refine zCm zFV ⟨_,e,rfl⟩ PySem.F.entry_list_insert (PySem.F.args_list_insert_3 _ _ _) (zIN l its.toArray n i t u2 (by simp[hf]) (by rw[zAP];omega)) ⟨e,?_⟩;refine⟨.non,_,I.lset (ys:=eH xs i y) (its':=eH its i u2) hH e ?_ ?_ ?_,rfl,q _ (λ b o ne hb=>by rw[aj ne];exact hb) bN⟩
 .show(its.toArray.extract 0 (if i<0 then(i+(its.toArray.size:Int)).toNat else min i.toNat its.toArray.size)).push u2++its.toArray.extract (if i<0 then(i+(its.toArray.size:Int)).toNat else min i.toNat its.toArray.size)=(eH its i u2).toArray
  rw[PySem.W.kl_ins_eq,zAP];rfl
 .unfold eH
  rw[hl];exact(r.take _).append (.cons r2 (r.drop _))
 .rw[sU];omega
theorem Rps.eH{K:zAA}(r:Rps K A H xs ds)(h:Rp K A H x d)(i:Int):Rps K A H (VL.eH xs i x) (VL.eH ds i d):=by
 unfold VL.eH;rw[r.length];exact(r.take _).append (.cons h (r.drop _))
section
variable{C:Ct}{pos apos cpos p:Pos}{e e1 e2:Expr}{f1 f2:En->Rs D}{i:Nat}{x:Str}{m m1:Mode}
def aHa(i:Nat)(f1 f2:En->Rs D):En->Ou:=λ Y=>match Y[i]? with
 |some (.ow (.lst ds))=>(f1 Y).bo λ k=>match k with
  | .int n=>(f2 Y).bo λ d=>if -(2^63)<=n/\n<2^63/\ds.length<zAU then .nx (Y.set i (.ow (.lst (eH ds n d))))else .st
  |_=>.st
 |_=>.st
def aB1(i:Nat)(he1:SE C m1 e1 f1)(he2:SE C m e2 f2)(hm:okN m=true:=by rfl)(hN:∀j,(C.X j).N[i]? =some x:=by intro _;rfl)(hv:∀j,Vis (C.X j).env.scope x:=by intro _;first|exact zC7 rfl|exact zBj (zC7 rfl)|exact zBj (zBj rfl))(hd:Nd x:=by decide)
  (hcd:(x==("__classdict__":Str))=false:=by decide)(hs1:∀j,zAV [e1,e2] (C.X j).env=(false,eval e1 (C.X j).env)::zAV [e2] (C.X j).env:=by intro _;rfl)(hs2:∀j,zAV [e2] (C.X j).env=[(false,eval e2 (C.X j).env)]:=by intro _;rfl)
  (hbase:∀j,zCl (.Name x p) "insert" (C.X j).env (eval (.Name x p) (C.X j).env)=eval (.Name x p) (C.X j).env:=by intro _;rfl)
  (hfew:∀j,((zBw cpos (zAV [e1,e2] (C.X j).env)).all (λ x=>!x.1)&&(zDy cpos (zCd [] (C.X j).env)).all (λ x=>x.1.isSome)&&decide ([e1,e2].length+([]:List zBv).length+(if ([]:List zBv).isEmpty then 0 else 1)<30))=true:=by intro _;rfl)
  (hline:(apos.endLine==cpos.line)=true:=by rfl)(hplain:∀j,(zBw cpos (zAV [e2] (C.X j).env)).any (·.1)=false:=by intro _;rfl)
  (hsw:∀j,zD2 (.Call (.Attribute (.Name x p) "insert" apos) [e1,e2] [] cpos) none pos.line (C.X j).env=pure false:=by intro _;rfl):
  SS C (.Expr (.Call (.Attribute (.Name x p) "insert" apos) [e1,e2] [] cpos) pos) (aHa i f1 f2):=by
 obtain⟨t1,a1,a2⟩:=he1;obtain⟨t2,b1,b2⟩:=he2;refine⟨aBX (tBM C.K "list" aMp (pB i) (kE t1 (kE t2 uw))),λ j=>vH (by rw[<-C.hK j];exact xq zBf zFV PySem.F.type_list_insert aLc (ie (hN j) (hv j) hd hcd) (az (a1 j) (az (b1 j) fH (hs2 j)) (hs1 j)) (hbase j) (hfew j) hline (hs1 j) (hplain j)) (hsw j),λ U Z H Y lab De R W=>?_⟩;unfold aHa at W;cases es:Y[i]? with
 |none=>rw[es]at W;exact zAJ W
 |some s=>
  rw[es]at W;split at W
  .rename_i ds hs
   cases hs;rcases R.sl i _ es with z|⟨v,ev,hv'⟩
   .cases z
   .obtain⟨hv1,htop⟩:=hv'
    obtain⟨a0,ea0,la0⟩:=htop rfl;subst ea0;cases hv1 with
    |lst h mm r=>
     rename_i xs;refine⟨.ref a0,ev,.inl ⟨rfl,xs,SqL.of h⟩,a2 U Z H Y lab _ R (W.bo.imp λ k _ w y1 H1 s1 r1=>?_)⟩;cases k with
     |int n=>
      cases r1;refine b2 U Z H1 Y lab _ (R.up s1) (w.bo.imp λ d _ w y H2 s2 r2=>?_);by_cases hz: -(2^63)<=n/\n<2^63/\ds.length<zAU
      .rw[if_pos hz]at w
       refine⟨a0,xs,n,y,rfl,rfl,(s1.trans s2) _ _ h,hz.1,hz.2.1,by rw[r.length];exact hz.2.2,λ H3 B h3=>?_⟩;obtain⟨R',r'⟩:=(R.up s1).fresh (P:=λ k=>k=1) rfl (λ k hk=>beq_iff_eq.mp (pW hm k hk)) s2 r2;have h1:H1 a0=some (.lst xs):=s1 _ _ h;have la:(eX H1 1 lab a0).1=i+2:=by rw[cM h1];exact la0
       refine w Z H3 _ (R'.mut ev (s2 _ _ h1) rfl la B ⟨.lst h3 (.inr la) ?_,λ _=>⟨a0,rfl,la⟩⟩);have ra:Rps C.K (λ p=>((eX H1 1 lab p).1=1\/(eX H1 1 lab p).1=i+2)/\p≠a0) H2 (eH xs n y) (eH ds n d):=by
        refine(r.mono (s1.trans s2) λ p o e z=>⟨by rw[cM (s1 _ _ e)];exact z.1,z.2⟩).eH (r'.wk λ p o e z=>⟨.inl z,λ q=>?_⟩) n;subst q;rw[la]at z;omega
       exact ra.but B (s2 _ _ h1) rfl λ z=>z.2 rfl
      .rw[if_neg hz]at w
       exact zAJ w
     |_=>exact zAJ w
  .exact zAJ W
end
def aLj:∀{us:List α},us.length=6->∃a0 a1 a2 a3 a4 a5,us=[a0,a1,a2,a3,a4,a5]
 |[a0,a1,a2,a3,a4,a5],_=>⟨a0,a1,a2,a3,a4,a5,rfl⟩
theorem aBt(f:α->β):∀(l:List α) (k:Nat),(l.map f).eraseIdx k=(l.eraseIdx k).map f
 |[],_=>rfl
 |_::_,0=>rfl
 |x::l,k+1=>by simp only[zAE,zFz,aBt f l k]
def aQH(Y:En)(i:Nat)(ds:List Int):D->Ou
 | .int z=>if ds.length<4000 then .nx (Y.set i (.ow (.set (step_dedup ds z))))else .st
 |_=>.st
section
theorem NoD.at{h:Heap}{a:Addr}{o:Obj}(e:h.get? a=some o)(hd:o.dict=none:=by rfl):L2.NoD h a:=λ u q=>by rw[e]at q;cases q;exact hd
end
def aJh{X:Cx}{kX:hZ}{Z:List (Option V)}{H:Hp}{s:zAD}{h':Heap}{ch:List Addr}{p t':Nat}{o:HO}(I:Inv X kX Z H s)(hf:∀b∈ch,wL X kX H b)(k:∀b u,b∉ch->s.heap.get? b=some u->h'.get? b=some u)
  (hp:s.heap.objs.size<=p)(new:cZ X.prog X.w (upd H p o) h' p o):Inv X kX Z (upd H p o) {s with heap:=h',toks:=t'}:=by
 have hn:=I.hok.fresh hp;have nch:∀b u,H b=some u->b∉ch:=λ b u e z=>by have:=(hf b z).1;rw[e]at this;cases this
 refine I.call (g':=s.gens) (d':=s.drawn) (ch:=ch) ⟨λ b u q _ _ hx=>k b u hx q,λ b u q _ _ hx=>⟨u.slots,k b u hx q⟩,λ b u q n _=>?_,λ b u q hx=>⟨u,k b u hx q⟩,λ b xs q=>?_,λ b u xs q=>?_,λ b ps q=>?_⟩ (λ b u e=>?_) I.bare
  λ b hb=>let⟨_,f1,_,f3,f4,f5⟩:=hf b hb;⟨f3,f1,f4,f5⟩
 .rw[aj (zA7 (zAX (zAW q) hp))];exact n
 .rw[aj (bf q hn)];exact q
 .rw[aj (bf q hn)];exact q
 .rw[aj (bf q hn)];exact q
 .by_cases hb:b=p
  .subst hb;rw[bN]at e;cases e;exact new
  .rw[aj hb]at e
   refine(I.hok b u e).stay (λ c v hc q=>k c v ?_ q) (λ c q=>by rw[aj (bf q hn)];exact q) (λ c xs q=>by rw[aj (bf q hn)];exact q) λ c o2 u2 q=>by rw[aj (bf q hn)];exact q
   rcases hc with rfl|hc
   .exact nch _ _ e
   .exact nch _ _ hc
def aKG(l:List D):List D:=l.zipIdx.map λ p=>.tup [.int (p.2:Int),p.1]
abbrev Ent:=List Int×Addr×V
def pairE(fk fv:En->Rs D):En->Rs D:=λ Y=>(fk Y).bd λ k=>(fv Y).bd λ v=>.ok (.tup [k,v])
section
variable{fk fv:En->Rs D}
def aJE(h:pairE fk fv Y= .ok y):∃k v,fk Y= .ok k/\fv Y= .ok v/\y= .tup [k,v]:=by
 obtain⟨k,h1,h2⟩:=fB h;obtain⟨v,h3,h4⟩:=fB h2;exact⟨k,v,h1,h3,by cases h4;rfl⟩
end
section
theorem ints_of:∀(tks:List (Int×Tok)),zBQ (tks.map λ p=>zE8 p.1 p.2) (tks.map (·.1))
 |[]=>.nil
 |p::r=>.cons _ _ (ints_of r)
end
def Rp.fn_inv{K:zAA}(r:Rp K A H v (.fn x)):∃a,v= .ref a/\zA4 K zAT x=some (some (.ref a)):=by cases r with|fn h=>exact⟨_,rfl,h⟩
structure FnAt(C:Ct)(n:Nat)(x:Str)(F:List D->Rs D):Prop where
 ex:∃(fn:Addr) (fd:zA5) (ps:List Str) (k:Nat),cB C.prog C.w C.K C.mg C.base (CX1 C.prog C.w) k fn fd ps (spF C.K C.G.cl n F)/\k<=C.k/\zA4 C.K zAT x=some (some (.ref fn))/\zBR C.K (.ref fn)=true/\Binds C.K fd ps []
abbrev aHt:=List (Str×(List D->Rs D))
def Tab(C:Ct)(n:Nat)(tab:aHt):Prop:=∀q∈tab,FnAt C n q.1 q.2
def aFy:Tab C n []:=λ q hq=>by cases hq
def oE(hF:cB C.prog C.w C.K C.mg C.base (CX1 C.prog C.w) k fn fd ps (spF C.K C.G.cl n F))(hr:k<=C.k)(hn:zA4 C.K zAT x=some (some (.ref fn)))
  (hk:zBR C.K (.ref fn)=true)(hb:Binds C.K fd ps [])(h:Tab C n tab):Tab C n ((x,F)::tab):=λ q hq=>by
 rcases zAO.mp hq with rfl|hq
 .exact⟨fn,fd,ps,k,hF,hr,hn,hk,hb⟩
 .exact h q hq
def fnOf(tab:aHt):Rs D->Option (List D->Rs D)
 | .ok (.fn x)=>tab.lookup x
 |_=>none
def rW(tab:aHt)(i:Nat)(ga:En->Rs (List D)):En->Rs D:=λ Y=>match fnOf tab (aD i Y)with
 |some F=>aK F ga Y
 |none=>.st
def aHg(h:fnOf tab r=some F):∃x,r= .ok (.fn x)/\tab.lookup x=some F:=by
 unfold fnOf at h;split at h
 .exact⟨_,rfl,h⟩
 .cases h
def aNS(K:zAA)(cl:Str->Addr)(n:Nat)(E:XK)(tab:aHt)(i:Nat)(t:TA):TE:=λ Z H Q=>∃f x F,Z[i]? =some (some (.ref f))/\(x,F)∈tab/\zA4 K zAT x=some (some (.ref f))/\zY (spF K cl n F) [] E t Z H Q
def lookup_mem{tab:aHt}(h:tab.lookup x=some F):(x,F)∈tab:=by
 induction tab with
 |nil=>cases h
 |cons q tab ih=>
  obtain⟨y,G⟩:=q;rw[zAe]at h;by_cases e:x==y
  .simp only[e]at h
   cases h;rw[zDG e];exact zAI
  .simp only[e]at h
   exact zAH _ (ih h)
section
variable{C:Ct}{m:Mode}{e:Expr}{es:List Expr}{ga:En->Rs (List D)}{pos p:Pos}{n i:Nat}{y:Str}{tab:aHt}
def aD2(hT:Tab C n tab)(ha:SA C m (e::es) ga)(hn:∀Y ds,ga Y= .ok ds->ds.length=n)(hN:∀j,(C.X j).N[i]? =some y:=by intro _;rfl)(hv:∀j,Vis (C.X j).env.scope y:=by intro _;first|exact zC7 rfl|exact zBj (zC7 rfl)|exact zBj (zBj rfl))
  (hd:Nd y:=by decide)(hcd:(y==("__classdict__":Str))=false:=by decide)(he:∀i,zAV (e::es) (C.X i).env=(false,eval e (C.X i).env)::zAV es (C.X i).env:=by intro _;rfl)
  (hpl:∀i,(zBw pos (zAV es (C.X i).env)).any (·.1)=false:=by intro _;rfl):SE C (some []) (.Call (.Name y p) (e::es) [] pos) (rW tab i ga):=by
 obtain⟨t,h1,h2⟩:=ha;refine⟨aNS C.K C.G.cl n C.G.E tab i t,λ j=>?_,λ U Z H Y lab Q R W=>?_⟩
 .obtain⟨e1,e2,e3,e4,e5⟩:=C.cx j
  intro kX s Z H Q I ⟨f,x,F,hs,hx,hf,h⟩;obtain⟨fn,fd,ps,k,hF,hr,hn',hk,hb⟩:=(hT _ hx).ex;rw[hf]at hn';cases hn';have fin:wpAny (model (C.X j).prog (C.X j).w) (C.X j).A (eval (.Name y p) (C.X j).env) (λ v s'=>v= .ref f/\s'=s) (C.X j).xe s:=by
   obtain⟨mm,hnn,hl⟩:=I.loc;obtain⟨u,ru,l⟩:=hl i y _ (hN j) hs (hv j);cases ru;rcases l with ⟨hk2,hm⟩|⟨hk2,c,hc,hcell⟩
   .exact zDU (zEn I.ok.kind hk2 hnn hm ⟨rfl,rfl⟩) hd
   .rcases hk2 with hk2|hk2
    .exact zDU (zFB I.ok.kind hk2 hc hcell ⟨rfl,rfl⟩) hd
    .exact zDU (zFC I.ok.kind hk2 hc hcell ⟨rfl,rfl⟩ hcd) hd
  refine zBk (thn fin λ v s' ⟨ev,es'⟩=>?_);subst ev es';refine zD4 (h₀:=(C.X j).base) I.ok.mod.kin (by rw[e3];exact hk) (thn (h1 j pos kX s' Z H _ I h) λ us s1 ⟨vs,H1,I1,r,q⟩=>⟨I1.kIn,?_⟩) (he j) (hpl j);exact aFA (CX:=CX1 (C.X j).prog (C.X j).w) (by rw[e1,e2,e3,e4,e5];exact hF) ((C.room j).mono hr) (by rw[e3];exact hb) .nil (C.pass j) I1 r q
 .unfold rW at W
  cases hf:fnOf tab (aD i Y)with
  |none=>rw[hf]at W;exact zAJ W
  |some F=>
   rw[hf]at W;obtain⟨x,hvd,hl⟩:=aHg hf;obtain⟨v,hsv,rv⟩:∃v,Z[i]? =some (some v)/\Rp C.K (λ _=>True) H v (.fn x):=by
    unfold aD at hvd;split at hvd
    .rename_i d' e'
     cases hvd;rcases R.sl i _ e' with z|⟨v,a,b⟩
     .cases z
     .exact⟨v,a,Rp.wk (λ _ _ _ _=>trivial) b⟩
    .rename_i d' e'
     cases hvd;rcases R.sl i _ e' with z|⟨v,a,b⟩
     .cases z
     .exact⟨v,a,Rp.wk (λ _ _ _ _=>trivial) b⟩
    .cases hvd
   obtain⟨a,rfl,hx⟩:=rv.fn_inv;exact⟨a,x,F,hsv,lookup_mem hl,hx,aDX (F:=F) hn h2 U Z H Y lab Q R W⟩
end
def aPF(K:zAA)(a:Addr):It:=
 ⟨λ i H=>∃xs x,SqL K H a xs/\xs[i]? =some x,λ i H x H'=>∃p y,x= .ref p/\H p=none/\H'=upd H p (.tup [.int i,y])/\∀xs,SqL K H a xs->xs[i]? =some y,λ i H=>∃xs,SqL K H a xs/\xs.length<=i⟩
def aEj{K:zAA}(a e it:Addr)(hei:e≠it)(hae:a≠e)(hai:a≠it):
  Turn P w K (.Tuple elts x1 ps) (aPF K a) [e,it] e (λ i h=>(∃old,IsEnum h e it i old)/\h.IsListIter it a i) where
 mem:=by simp
 obj:=λ i h st b hb=>by
  obtain⟨⟨old,he⟩,o,e2,c,d⟩:=st;rcases zAO.mp hb with rfl|hb
  .exact⟨_,he,λ v z=>by cases z⟩
  .have q:b=it:=by simpa using hb
   subst q;exact⟨o,e2,λ v z=>by rw[d]at z;cases z⟩
 keep:=λ i h h' st k=>⟨let⟨old,he⟩:=st.1;⟨old,k e (by simp) _ he⟩,st.2.at λ o q=>k it (by simp) o q⟩
 item:=by
  intro X hP hw hK hc i kX s Z H E I hf st hg;subst hP hw hK;obtain⟨xs,x,hq,hx⟩:=hg;obtain⟨its,rv,p,hz⟩:=I.list hq;obtain⟨u,hu,ru⟩:=rv.get hx;obtain⟨⟨old,he⟩,hit⟩:=st;refine wpAny_pyNext_enum_itemD (Draws.list (A:=X.A.in1) (show X.A.in1.handled=none from I.ok.hd hc) it a hai its.toArray) he ⟨hit,p.isList⟩ (by have:=(zAK.mp hu).1;simpa using this) hei (by simp[hei,zDL hae]) λ y h' tk hy ho st' hT hsz hk=>⟨_,rfl,?_⟩
  have ey:y=u:=by
   have:its.toArray[i]? =some u:=by simpa using hu
   rw[this]at hy;exact(zAc hy).symm
  subst ey;have hel:e<s.heap.objs.size:=zAW he;refine wpAny_letOwnedTupleGo_enum ho λ h2 he2 hs2=>⟨.ref s.heap.objs.size,upd H s.heap.objs.size (.tup [.int i,x]),?_,rfl,⟨_,x,rfl,I.hok.fresh (zAQ _),rfl,λ ys hy=>by rw[I.list_inj hy hq];exact hx⟩,⟨⟨_,by simpa using he2⟩,st'.1.at λ o q=>(hs2.2 it (zDL hei)).trans q⟩,λ b hb=>?_⟩
  .exact aJh (s:=s) (h':=h2) (t':=tk+1) I hf (λ b u hb q=>(hs2.2 b λ z=>hb (by simp[z])).trans (hk b u (λ z=>hb (by simp[z])) (λ z=>hb (by simp[z])) q)) (zAQ _) ⟨⟨by simp[zCe],NoD.at ((hs2.2 _ (zBz hel)).trans hT)⟩,[.int i tk,y],.cons ⟨_,rfl⟩ (.cons ru .nil),_,(hs2.2 _ (zBz hel)).trans hT,rfl,_,rfl⟩
  .have:=(hf b hb).1
   rw[aj]
   .exact this
   .rintro rfl
    rcases zAO.mp hb with q|q
    .exact absurd hel (by rw[<-q];exact zBT _)
    .obtain⟨o,ho2,_⟩:=hit
     have q2:s.heap.objs.size=it:=by simpa using q
     exact absurd (zAW ho2) (by rw[<-q2];exact zBT _)
 done:=by
  intro X hP hw hK hc i kX s Z H E I hf st hg;subst hP hw hK;obtain⟨xs,hq,hx⟩:=hg;obtain⟨its,rv,p,hz⟩:=I.list hq;obtain⟨⟨old,he⟩,hit⟩:=st;obtain⟨f0,f1,f2,f3,f4,f5⟩:=hf it (by simp);have hT:s.TypeIs (.ref e) "enumerate":=⟨_,he,rfl⟩;have hl:=rv.length;unfold zEu;refine zAC (zHN (zCU (name:=zES "__next__") hT zGw (zCF zGw hT F.entry_enumerate_next ?_ (F.args_enumerate_next_1 _))));show wpAny _ _ (field (.ref e) 2>>=_) _ _ _;refine zAC (zGV he rfl (x:=.ref it) rfl ?_);refine zAC (wpAny_nextOf_list_end (I.ok.hd hc) hit p.isList (by simp;lia) λ h' x he' hx'=>?_);obtain⟨o,ho,hc⟩:=hx';refine zAC (zFs (T:="StopIteration") (b:=true) ⟨o,ho,hc⟩ isSubtype_stop ?_);exact zAL ⟨rfl,I.turned (t':=s.toks) (λ b o hb q=>he' b o hb q) f0 f1 f3 f4 f5⟩
 self:=λ _ _ _ _ _ st h=>let⟨⟨_,he⟩,_⟩:=st;zIg he h
def aJp(K:zAA)(tl:TA):TI:=λ Z H R=>tl Z H λ xs H1=>∃a,xs=[.ref a]/\(∃ys,SqL K H1 a ys)/\R (aPF K a) H1
def aIt{x1:Nat}(hl:PA X [l] tl)(hg:Gl X "enumerate")(hm:X.mg "enumerate"=none)(hv:zBK "enumerate"=some (.type "enumerate"))
  (he:zAV [l] X.env=[(false,eval l X.env)]:=by rfl):PI X (.Tuple elts x1 ps) (.Call (.Name "enumerate" p) [l] [] pos) (aJp X.K tl):=by
 intro kX s Z H R I h;refine zBk (xG I hg hm hv ?_ (by decide) (by decide));refine zCM (thn (hl pos kX s Z H _ I h) λ us s1 ⟨vs,H1,I1,r1,a,e,⟨ys,hy⟩,q⟩=>?_) he rfl;subst e;obtain⟨u,rfl,ru⟩:=r1.one;cases ru;obtain⟨its,rv,pp,hz⟩:=I1.list hy;have ha:a<s1.heap.objs.size:=let⟨o,_,ho,_⟩:=pp;zAW ho
 refine call_enumerate_list pp.isList λ h' he hit _ hk=>zIg he ?_
 have n1:s1.heap.objs.size+1≠s1.heap.objs.size:=by lia
 refine⟨_,_,_,_,H1,rfl,I1.kept (t':=s1.toks) hk,aEj a _ _ n1 (zA7 (zC9 ha)) (zA7 ha),⟨⟨_,he⟩,hit⟩,λ b hb=>?_,q⟩;have hle:s1.heap.objs.size<=b:=by
  rcases zAO.mp hb with rfl|hb
  .exact zFZ _
  .have:b=s1.heap.objs.size:=by simpa using hb
   exact zFG this.symm
 exact I1.fpOk hle (I1.hok.fresh hle)
def aKH:List D->Rs (List D)
 |[.lst l]=>.ok (aKG l)
 |_=>.st
def aJc{K:zAA}(h:SqL K H a xs)(r:Rps K (λ p=>(lab p).1<=1) H xs ds):JL K lab (aPF K a) H (aKG ds):=by
 have hl:=r.length;have hle:(aKG ds).length=ds.length:=by simp[aKG]
 refine λ i=>⟨λ hi=>⟨xs,h,by lia⟩,λ hi=>⟨⟨xs,xs[i]'(by lia),h,by simp[hl,hle▸hi]⟩,λ x H' y=>?_⟩⟩
 obtain⟨p,y,rfl,hp,rfl,hy⟩:=y;obtain⟨d,h1,h2⟩:=r.get (hy xs h);refine⟨cu hp _,.tup [.int (i:Int),d],?_,.tup (.inl (.inl bN)) (.cons (.int _) (.cons (h2.up (cu hp _)) .nil))⟩;unfold aKG;rw[zAR,List.getElem?_zipIdx,h1];simp
section
variable{C:Ct}{m:Mode}{a:Expr}{ga:En->Rs (List D)}{elts:List Expr}{x1:Nat}{ps p pos:Pos}
def aIT(ha:SA C m [a] ga)(hm:C.mg "enumerate"=none)(ho:okS m=true:=by rfl)(hs:∀i,zAV [a] (C.X i).env=[(false,eval a (C.X i).env)]:=by intro _;rfl)(hg:∀i,Gl (C.X i) "enumerate":=by intro _;rfl)(hv:zBK "enumerate"=some (.type "enumerate"):=by decide+kernel):
  SI C (.Tuple elts x1 ps) (.Call (.Name "enumerate" p) [a] [] pos) (gB aKH ga):=by
 obtain⟨t,p1,p2⟩:=ha;refine⟨aJp C.K t,λ i=>by rw[<-C.hK i];exact aIt (p1 i) (hg i) (by rw[(C.cx i).2.2.2.1];exact hm) hv (hs i),λ U Z H Y lab Rr R W=>p2 U Z H Y lab _ R (W.bd.imp λ ds _ w vs H1 s r=>?_)⟩;cases ds with
 |nil=>exact zAJ w
 |cons d ds=>
  cases ds with
  |cons _ _=>cases d<;>exact zAJ w
  |nil=>
   obtain⟨v,rfl,rd⟩:=r.one_inv;cases d with
   |lst l=>
    obtain⟨R',r'⟩:=R.shared ho s rd;obtain⟨b,xs,rfl,h,mm,q⟩:=r'.lst_inv;refine⟨b,rfl,⟨xs,SqL.of h⟩,w _ H1 _ [(.ref b,.lst l)] s (λ p o e=>cM e) ⟨R'.len,R'.sl,R'.old,R'.new,λ z hz=>?_⟩ λ lab' H' hq=>?_⟩
    .rcases zAO.mp hz with rfl|hz
     .exact .lst h mm q
     .exact R'.tm z hz
    .have z:=hq _ (zAI ..)
     obtain⟨b',xs',e',h',_,q'⟩:=z.lst_inv;cases e';exact aJc (SqL.of h') (q'.wk λ _ _ _ z=>z.1)
   |_=>exact zAJ w
end
end VL
namespace HT
open PySem PySem.Spec PyProof.Rows
end HT
namespace VL
open PySem PySem.Spec PyProof.Rows L2
end VL
namespace PySem.AutoSeq1
end PySem.AutoSeq1
namespace VL
open PySem PySem.Spec PyProof.Rows L2
def Enr(K:zAA)(x:Str)(st:Stmt)(f:Addr)(fd:zA5):Prop:=L2.Fun K x x st f fd/\zA4 K zAT x=some (some (.ref f))
def enr{K:zAA}{st:Stmt}{oc kV dc pm cd ct:Value}(a:zA4 K zAT x=some (some (.ref f)))
  (l:K.lookup f=some ⟨oc,od,.func (zCH x x (sZ st) (fL st) (aJ st) .none kV dc pm an cd ct),sl⟩)(c:zD7 K cd x=true)(k:zBR K (.ref f)=true):∃f fd,Enr K x st f fd:=⟨f,_,aOc (st:=st) l c k,a⟩
structure Dnr(K:zAA)(mg:Str->Option Value)(x:Str)(st:Stmt)(ps:List Str)(f:Addr)(d:zA5):Prop where
 F:L2.Fun K x x st f d
 m:mg x=some (.ref f)
 b:L2.Binds K d ps []
section
variable{C:Ct}
def aV{st:Stmt}(hF:cB C.prog C.w C.K C.mg C.base (CX1 C.prog C.w) k fn fd ps (spF C.K C.G.cl n F))(D:Dnr C.K C.mg x st ps fn fd)(ha:SA C m (e::es) ga)(hr:k<=C.k:=by exact zBO rfl)(hg:∀i,Gl (C.X i) x:=by intro _;rfl)
  (hn:∀Y ds,ga Y= .ok ds->ds.length=n:=by repeat (first|exact λ _ _ h=>zL h|apply vU))(hdb:Nd x:=by decide)(he:∀i,zAV (e::es) (C.X i).env=(false,eval e (C.X i).env)::zAV es (C.X i).env:=by intro _;rfl)
  (hpl:∀i,(zBw pos (zAV es (C.X i).env)).any (·.1)=false:=by intro _;rfl):SE C (some []) (.Call (.Name x p) (e::es) [] pos) (aK F ga):=aKy hF hr D.m D.F.kp D.b ha hn hdb he hpl hg
end
def bM{P:zAS}{w:World}{K:zAA}{st:Stmt}(D:Dnr K mg q st ps fn fd)(S:aY N ps (aJ st))(hb:N.Nodup->∀cdv A outer s H E hr,SSs (ctD P w K mg base N q (aJ st) fn cdv A outer s H E k hr) (fL st) f)(hn:ps.length=n:=by rfl)(hF:dW N.length f=FF:=by rfl):
  cB P w K mg base (CX1 P w) (k+1) fn fd ps (spF K (au mg) n FF):=aMO D.F S (hb S.nd) hn hF
def aFs(items:Array Value)(nss:Nat->List Int)(h:Heap):Prop:=∀i v,items[i]? =some v->∃x its,v= .ref x/\IsTup h x its/\zBQ its.toList (nss i)
def aFF(items:Array Value):List Addr:=items.toList.filterMap λ v=>match v with| .ref x=>some x|_=>none
def aFE{items:Array Value}{i:Nat}(h:items[i]? =some (zBF x)):x∈aFF items:=by
 unfold aFF;rw[zBZ];exact⟨.ref x,by have:=zB1 (l:=items.toList) (i:=i) (by simpa using h);exact this,rfl⟩
def aFs.keep(T:aFs items nss h)(k:∀b∈aFF items,∀o,h.get? b=some o->h'.get? b=some o):aFs items nss h':=λ i v e=>by
 obtain⟨x,its,rfl,⟨o,h1,h2⟩,h3⟩:=T i v e;exact⟨x,its,rfl,⟨o,k x (aFE e) o h1,h2⟩,h3⟩
def putN(ds:List D):D->Option Nat
 | .int n=>ixN ds.length n
 |_=>none
def aLI(i:Nat)(fk fe:En->Rs D):En->Ou:=λ Y=>match Y[i]? with
 |some (.ow (.lst ds))=>(fe Y).bo λ d=>(fk Y).bo λ k=>match putN ds k with
  |some j=>.nx (Y.set i (.ow (.lst (ds.set j d))))
  |none=>.st
 |_=>.st
def wY(h:putN ds k=some j):∃n,k= .int n/\ixN ds.length n=some j:=by
 cases k with
 |int n=>exact⟨n,rfl,h⟩
 |_=>cases h
section
variable{C:Ct}{pos tpos p:Pos}{ek e:Expr}{fk fe:En->Rs D}{x:Str}{m m1:Mode}
def aKj(i:Nat)(hk:SE C m1 ek fk)(he:SE C m e fe)(hm:okN m=true:=by rfl)(hN:∀j,(C.X j).N[i]? =some x:=by intro _;rfl)(hv:∀j,Vis (C.X j).env.scope x:=by intro _;first|exact zC7 rfl|exact zBj (zC7 rfl)|exact zBj (zBj rfl))(hd:Nd x:=by decide)
  (hcd:(x==("__classdict__":Str))=false:=by decide)(ha:∀j v,zD0 (.Subscript (.Name x p) ek tpos) (C.X j).env v=(do
   let ov <-zCE [v] (eval (.Name x p) (C.X j).env);let iv <-zCE [v,ov] (eval ek (C.X j).env)
   zE9 tpos
   zCE [v,ov,iv] (zIH ov iv v)
   release [v,ov,iv] []):=by intro _ _;rfl)(hs:∀j,zHL [.Subscript (.Name x p) ek tpos] e pos.line (C.X j).env=pure false:=by intro _;rfl)(hw:∀j,zHK [.Subscript (.Name x p) ek tpos] e (C.X j).env=pure none:=by intro _;rfl)
  (h1:∀j,(zB6 [.Subscript (.Name x p) ek tpos] (C.X j).env).map (·.2)=[zD0 (.Subscript (.Name x p) ek tpos) (C.X j).env]:=by intro _;rfl):
  SS C (.Assign [.Subscript (.Name x p) ek tpos] e pos) (aLI i fk fe):=by
 obtain⟨tk,k1,k2⟩:=hk;obtain⟨te,e1,e2⟩:=he;refine⟨aCL te (aJz (pB i) tk aDh),λ j=>aIn (e1 j) (aFM (ie (hN j) (hv j) hd hcd) (k1 j) set_list (ha j)) (hs j) (hw j) (h1 j),λ U Z H Y lab De R W=>?_⟩;unfold aLI at W;cases es:Y[i]? with
 |none=>rw[es]at W;exact zAJ W
 |some s=>
  rw[es]at W;split at W
  .rename_i ds hs
   cases hs;rcases R.sl i _ es with z|⟨v,ev,hv'⟩
   .cases z
   .obtain⟨hv1,htop⟩:=hv'
    obtain⟨a0,ea0,la0⟩:=htop rfl;subst ea0;cases hv1 with
    |lst h mm r=>
     rename_i xs;refine e2 U Z H Y lab _ R (W.bo.imp λ d _ w y H2 s2 r2=>⟨.ref a0,ev,?_⟩);refine k2 U Z H2 Y lab _ (R.up s2) (w.bo.imp λ k _ w kv H3 s3 r3=>?_);cases hj:putN ds k with
     |none=>rw[hj]at w;exact zAJ w
     |some j=>
      rw[hj]at w;dsimp only at w;obtain⟨n,rfl,hj⟩:=wY hj;have ey:=r3.int_inv;subst ey;have h3:H3 a0=some (.lst xs):=(s2.trans s3) _ _ h;refine⟨a0,xs,n,j,rfl,rfl,h3,by rw[r.length];exact hj,?_⟩;obtain⟨R',r'⟩:=R.fresh (P:=λ k=>k=1) rfl (λ k hk=>beq_iff_eq.mp (pW hm k hk)) s2 r2;have la:(eX H 1 lab a0).1=i+2:=by rw[cM h];exact la0
      have B:oA a0 H3 (upd H3 a0 (.lst (xs.set j y))):=λ b' o ne hb=>by rw[aj ne];exact hb
      refine w Z _ _ ((R'.up s3).mut ev h3 rfl la B ⟨.lst bN (.inr la) ?_,λ _=>⟨a0,rfl,la⟩⟩);have ra:Rps C.K (λ p=>((eX H 1 lab p).1=1\/(eX H 1 lab p).1=i+2)/\p≠a0) H3 (xs.set j y) (ds.set j d):=by
       refine Rps.set ((r'.up s3).wk λ p o e z=>⟨.inl z,λ q=>?_⟩) j (r.mono (s2.trans s3) λ p o e z=>⟨by rw[cM e];exact z.1,z.2⟩);subst q;rw[la]at z;lia
      exact ra.but B h3 rfl λ z=>z.2 rfl
  .exact zAJ W
end
def aOx:aKa prog w newDict (λ ob=>ob={cls:=.type "dict",data:=.dict #[]}) (λ _=>.dK []) where
 make:=λ h=>zBX (h _ rfl)
 live:=by rintro ob rfl;rfl
 ok:=by
  rintro H h a ob rfl hg hb;exact⟨zAk _,beq_eq_false_iff_ne.mpr (zDL (zA7 hb)),[],.nil,_,#[],0,hg,⟨rfl,rfl,rfl⟩,rfl,λ _ he=>(by simp at he),Pairs.nil,zHz⟩
def isL:D->Option (List D)
 | .lst l=>some l
 |_=>none
def opL(fd:List D->D->Rs D)(fo fe:En->Rs D):En->Rs D:=λ Y=>(fo Y).bd λ d=>match isL d with
 |some l=>(fe Y).bd λ e=>okD (fd l e)
 |none=>.st
end VL
namespace PySem
open Sem(wp)
section
variable{prog:zAS}{w:World}
inductive aDJ{K:Type}[DecidableEq K](knd:KeyKind prog w K)(h:Heap):List Value->List (K×Value)->Prop where
 |nil:aDJ knd h [] []
 |cons {x:Addr} {o:Obj} {n:Nat} {kv v:Value} {k:K} {us:List Value} {ps:List (K×Value)} (ho:h.get? x=some o) (hc:o.cls= .type "tuple") (hd:o.data= .seq #[kv,v] n) (hk:knd.is k kv=true) (r:aDJ knd h us ps):aDJ knd h (.ref x::us) ((k,v)::ps)
end
end PySem
namespace VL
open PySem PySem.Spec PyProof.Rows L2
section
variable{K:Type}[DecidableEq K]
end
end VL
namespace L2
open PySem PySem.Spec PyProof.Rows
def aCC:Value->Bool
 | .bool b=>b
 |_=>false
theorem aCI:∀{bs:List Bool} {us:List Value},Vals (bs.map V.bl) us->us=bs.map zC2
 |[],_,.nil=>rfl
 |b::bs,_,.cons h t=>by rw[aCI t];cases h;rfl
def aGj{A:zA6}{s:zAD}{bs:List Bool}:∀y∈bs.map zC2,zC0 A s y (.bool true) (aCC y):=λ y hy=>by
 obtain⟨b,_,rfl⟩:=zAY.mp hy
 have:=zF4 (A:=A) (s:=s) b true
 cases b<;>exact this
def aLF:V->List V->Hp->VK->Prop:=λ x xs H Q=>∃(a:Addr) (bs:List Bool),x= .ref a/\xs=[.bl true]/\H a=some (.lst (bs.map V.bl))/\Q (.int (bs.count true:Nat)) H
def aLE:V->List V->Hp->VK->Prop:=λ x xs H Q=>∃(a:Addr) (bs:List Bool) (j:Nat),x= .ref a/\xs=[.bl true]/\H a=some (.lst (bs.map V.bl))/\bs[j]? =some true/\(∀m,m<j->bs[m]? =some false)/\Q (.int (j:Nat)) H
section
variable{X:Cx}
def aHV:MtR X "list.count" aLF:=by
 intro kX s Z H x xs v us Q I rx rxs h;obtain⟨a,bs,rfl,rfl,ha,q⟩:=h;cases rx;obtain⟨u,rfl,ru⟩:=vals1 rxs;cases ru;obtain⟨_,its,n,rv,e⟩:=I.hok a _ ha;have ei:=aCI rv;subst ei;refine zCm zF1 ⟨_,e,rfl⟩ PySem.F.entry_list_count (PySem.F.args_list_count_2 _ _) (SeqAt.list_countAt a _ n none #[] (.bool true) aCC) ⟨e,λ y hy=>aGj y (by simpa using hy),?_⟩
 have:(bs.map zC2).countP aCC=bs.count true:=by
  rw[List.countP_map];unfold List.count;congr 1;funext b;cases b<;>rfl
 rw[show(bs.map zC2).toArray.toList=bs.map zC2 from rfl,this];exact⟨.int _,H,I.tok _,⟨_,rfl⟩,q⟩
def aHU:MtR X "list.index" aLE:=by
 intro kX s Z H x xs v us Q I rx rxs h;obtain⟨a,bs,j,rfl,rfl,ha,hj,hm,q⟩:=h;cases rx;obtain⟨u,rfl,ru⟩:=vals1 rxs;cases ru;obtain⟨hz,its,n,rv,e⟩:=I.hok a _ ha;have ei:=aCI rv;subst ei;rw[zAF]at hz;have hl:=(zAK.mp hj).1;have h62:zAU<2^62:=by decide
 refine zCm zCn ⟨_,e,rfl⟩ zFU (zFM _ _) (zGp a _ n none #[] (.bool true) aCC j (by simpa using hl) (by lia) ?_ λ m hm1 hmj=>?_) ⟨e,λ y hy=>aGj y (by simpa using hy),⟨.int _,H,I.tok _,⟨_,rfl⟩,q⟩⟩
 .rw[zAB hl]at hj
  simpa[aCC]using hj
 .have h2:=hm m hmj
  rw[zAB (by lia)]at h2;simpa[aCC]using h2
end
section
variable{X:Cx}{n0 n1 n2 odd:Str}{c1 c2:V}{k1 k2 k3 k4:List V}{l1 l2:List Str}{a1 a2:Expr}{as1 as2 e1 e2 e3 e4 w1 w2:List Expr}{kw1 kw2:List zBv}{Q:VK}{H:Hp}{vs:List V}
 {p1 p2 p3 p4 p5 p6 p7 p8 p9 p10 p11 p12 p13 p14 p15 p16 p17 p18 p19 p20 p21 p22 p23 p24 p25 p26 p27 p28 p29 p30 p31 p32 p33 p34 p35 p36 p37 p38 p39 p40:Pos}{q1 q2 q3 q4 q5 q6 q7:Pos}{j1 j2 j3 j4 j5:Nat}{E0:XK}{wd:Addr->Option Str}
def aE3(hN:X.N=[n0,n1,n2])(nd:X.N.Nodup)(m0:X.env.scope.names.lookup n0=some .local)(m1:X.env.scope.names.lookup n1=some .local)(m2:X.env.scope.names.lookup n2=some .local)
  (h1:PE X (.Call a1 as1 kw1 p1) (aEn X.K c1))(h2:PE X (.Call a2 as2 kw2 p2) (aEn X.K c2))(g1:PA X e1 (qO X.K k1))(g2:PA X e2 (qO X.K k2))(g3:PA X e3 (qO X.K k3))(g4:PA X e4 (qO X.K k4))(g5:PA X w1 (aFz l1))
  (hl1:(p20.endLine==p21.line)=true)(hl2:(p30.endLine==p31.line)=true)(hz:l1.length<=100)(h:spW wd vs H Q E0)(hw:∀C w,wd C=some w->Wd X.K c1 c2 [k1,k2,k3,k4] l1 C w)
  (d0:Nd n0:=by decide)(d1:Nd n1:=by decide)(d2:Nd n2:=by decide)
  (f0:(n0==("__classdict__":Str))=false:=by decide)(f1:(n1==("__classdict__":Str))=false:=by decide)(f2:(n2==("__classdict__":Str))=false:=by decide):
  ∃t,PSs X [.If (.BoolOp .Or [.UnaryOp .Not (.Call a1 as1 kw1 p1) p3,.UnaryOp .Not (.Call a2 as2 kw2 p2) p4] p5) [.Return (some (.Constant (.str odd) j1 p6)) p7] [] p8,
   .Assign [.Name n1 p9] (.List e1 p10) p11,.Assign [.Name n1 p12] (.BinOp (.Name n1 p13) .Add (.List e2 p14) p15) p16,.Assign [.Name n1 p17] (.BinOp (.Name n1 p18) .Add (.List e3 p19) p22) p23,.Assign [.Name n1 p24] (.BinOp (.Name n1 p25) .Add (.List e4 p26) p27) p28,
   .If (.Compare (.Call (.Attribute (.Name n1 p29) "count" p20) [.Constant (.bool true) j2 p32] [] p21) [.NotEq] [.Constant (.int 1) j3 p33] p34) [.Return (some (.Constant (.str odd) j4 p35)) p36] [] p37,
   .Assign [.Name n2 p38] (.List w1 p39) p40,.Return (some (.Subscript (.Name n2 q1) (.Call (.Attribute (.Name n1 q4) "index" p30) [.Constant (.bool true) j5 q5] [] p31) q6)) q7] t/\
   t {nx:=λ _ H'=>Q .non H',rt:=Q} (start X.N vs) H:=by
 obtain⟨ea,C,w,rfl,hH,hwd,hq⟩:=h;obtain⟨hk,hq1,hq2,b1,b2,b3,b4,j,k1',k2',k3',k4',ek,r1,r2,r3,r4,kK,hcnt,hj,hjm,hjw⟩:=hw C w hwd;cases ek;have i0:X.N[0]? =some n0:=by rw[hN];rfl
 have i1:X.N[1]? =some n1:=by rw[hN];rfl
 have i2:X.N[2]? =some n2:=by rw[hN];rfl
 have v1:∀{pos:Pos},PE X (.Name n1 pos) (pB 1):=λ{pos}=>ie i1 (.inl m1) d1 f1
 have cat:∀{pp pq pr:Pos} {es:List Expr} {ks:List V},PA X es (qO X.K ks)->PE X (.BinOp (.Name n1 pp) .Add (.List es pq) pr) (tOp aIb (pB 1) (aMi (qO X.K ks))):=λ g=>aMt aGX v1 (vI g)
 refine⟨_,iI (aIm (aMr (aFI (aIg h1)) (aIe (aFI (aIg h2)))).pt (pQ (aAE iD)) aC3)
  (iI (pR nd i1 (.inl m1) (vI g1) (hf:=.inr m1)) (iI (pR nd i1 (.inl m1) (cat g2) (hf:=.inr m1)) (iI (pR nd i1 (.inl m1) (cat g3) (hf:=.inr m1)) (iI (pR nd i1 (.inl m1) (cat g4) (hf:=.inr m1))
  (iI (aIm (aNe (aNt (xq zBf zF1 PySem.F.type_list_count aHV v1 (az aJD fH) (hline:=hl1)) aIx)) (pQ (aAE iD)) aC3)
  (iI (pR nd i2 (.inl m2) (vI g5) (hf:=.inr m2)) (pQ (aAE (aIw aGa (ie i2 (.inl m2) d2 f2) (xq zBf zCn zF2 aHU v1 (az aJD fH) (hline:=hl2)) λ _ _=>rfl))))))))),?_⟩
 have hs:start X.N [.ref ea]=[some (.ref ea),none,none]:=by rw[hN];rfl
 rw[hs];have sz:∀{n:Nat},n<=100->n<=zAU:=λ h=>zAg h (by decide)
 simp only[zAp]at kK;refine aCK (ea:=ea) rfl hH hk hq1 ⟨true,rfl,aCK (ea:=ea) rfl hH hk hq2 ⟨true,rfl,?_⟩⟩;refine qd (ea:=ea) rfl hH hk r1 ⟨sz (by rw[zAF];lia),λ a1 H1 s1 ha1 _=>?_⟩;refine⟨.ref a1,rfl,qd (ea:=ea) rfl (s1 _ _ hH) hk r2 ⟨sz (by rw[zAF];lia),λ x2 G2 t2 hx2 _=>⟨a1,x2,_,_,rfl,rfl,t2 _ _ ha1,hx2,sz (by simp only[zAF];lia),λ a2 H2 s2 ha2 _=>?_⟩⟩⟩;have hH2:=s2 _ _ (t2 _ _ (s1 _ _ hH));refine⟨.ref a2,rfl,qd (ea:=ea) rfl hH2 hk r3 ⟨sz (by rw[zAF];lia),λ x3 G3 t3 hx3 _=>⟨a2,x3,_,_,rfl,rfl,t3 _ _ ha2,hx3,sz (by simp only[zAF,zAp];lia),λ a3 H3 s3 ha3 _=>?_⟩⟩⟩;have hH3:=s3 _ _ (t3 _ _ hH2);refine⟨.ref a3,rfl,qd (ea:=ea) rfl hH3 hk r4 ⟨sz (by rw[zAF];lia),λ x4 G4 t4 hx4 _=>⟨a3,x4,_,_,rfl,rfl,t4 _ _ ha3,hx4,sz (by simp only[zAF,zAp];lia),λ a4 H4 s4 ha4 _=>?_⟩⟩⟩;rw[<-zBA,<-zBA,<-zBA]at ha4;generalize hbs:b1++b2++b3++b4=bs at hcnt hj hjm ha4;refine⟨.ref a4,rfl,.inl ⟨rfl,_,.inl (.inl ha4)⟩,a4,bs,rfl,rfl,ha4,1,1,by rw[hcnt];rfl,rfl,false,rfl,?_⟩;refine aDR ⟨sz (by rw[zAF];lia),λ a5 H5 s5 ha5 _=>?_⟩;have ha4':=s5 _ _ ha4;refine⟨.ref a5,rfl,.ref a4,rfl,.inl ⟨rfl,_,.inl (.inl ha4')⟩,a4,bs,j,rfl,rfl,ha4',hj,hjm,a5,_,_,.str w,rfl,rfl,.inl (.inl ha5),?_,?_⟩
 .have hjl:j<l1.length:=(zAK.mp hjw).1
  unfold atI ixN;rw[if_pos (Int.natCast_nonneg j),zAF,if_pos (by lia),zC8]
  show(l1.map V.str)[j]? =_
  rw[zAR,hjw];rfl
 .exact hq _ λ b o e=>s5 _ _ (s4 _ _ (t4 _ _ (s3 _ _ (t3 _ _ (s2 _ _ (t2 _ _ (s1 _ _ e)))))))
end
section
variable{P:zAS}{w:World}{K:zAA}{mg:Str->Option Value}{base:Heap}{x q n0 n1 n2 odd:Str}{st:Stmt}{f:Addr}{fd:zA5}{k:Nat}{wd:Addr->Option Str}{c1 c2:V}{k1 k2 k3 k4:List V}{l1 l2:List Str}{a1 a2:Expr}{as1 as2 e1 e2 e3 e4 w1 w2:List Expr}{kw1 kw2:List zBv}
 {p1 p2 p3 p4 p5 p6 p7 p8 p9 p10 p11 p12 p13 p14 p15 p16 p17 p18 p19 p20 p21 p22 p23 p24 p25 p26 p27 p28 p29 p30 p31 p32 p33 p34 p35 p36 p37 p38 p39 p40:Pos}{q1 q2 q3 q4 q5 q6 q7:Pos}{j1 j2 j3 j4 j5:Nat}
def aHj(F:Fun K x q st f fd)(S:aY [n0,n1,n2] [n0] (aJ st))
  (hst:fL st=[.If (.BoolOp .Or [.UnaryOp .Not (.Call a1 as1 kw1 p1) p3,.UnaryOp .Not (.Call a2 as2 kw2 p2) p4] p5) [.Return (some (.Constant (.str odd) j1 p6)) p7] [] p8,
   .Assign [.Name n1 p9] (.List e1 p10) p11,.Assign [.Name n1 p12] (.BinOp (.Name n1 p13) .Add (.List e2 p14) p15) p16,.Assign [.Name n1 p17] (.BinOp (.Name n1 p18) .Add (.List e3 p19) p22) p23,.Assign [.Name n1 p24] (.BinOp (.Name n1 p25) .Add (.List e4 p26) p27) p28,
   .If (.Compare (.Call (.Attribute (.Name n1 p29) "count" p20) [.Constant (.bool true) j2 p32] [] p21) [.NotEq] [.Constant (.int 1) j3 p33] p34) [.Return (some (.Constant (.str odd) j4 p35)) p36] [] p37,
   .Assign [.Name n2 p38] (.List w1 p39) p40,.Return (some (.Subscript (.Name n2 q1) (.Call (.Attribute (.Name n1 q4) "index" p30) [.Constant (.bool true) j5 q5] [] p31) q6)) q7])
  (m0:(aJ st).names.lookup n0=some .local)(m1:(aJ st).names.lookup n1=some .local)(m2:(aJ st).names.lookup n2=some .local)
  (h:∀(cdv:Value) (A:zA6) (outer:List Env) (s:zAD) (H:Hp),PE (cxH P w K mg base [n0,n1,n2] q (aJ st) f cdv A outer s H) (.Call a1 as1 kw1 p1) (aEn K c1)/\PE (cxH P w K mg base [n0,n1,n2] q (aJ st) f cdv A outer s H) (.Call a2 as2 kw2 p2) (aEn K c2)/\
   PA (cxH P w K mg base [n0,n1,n2] q (aJ st) f cdv A outer s H) e1 (qO K k1)/\PA (cxH P w K mg base [n0,n1,n2] q (aJ st) f cdv A outer s H) e2 (qO K k2)/\PA (cxH P w K mg base [n0,n1,n2] q (aJ st) f cdv A outer s H) e3 (qO K k3)/\
   PA (cxH P w K mg base [n0,n1,n2] q (aJ st) f cdv A outer s H) e4 (qO K k4)/\PA (cxH P w K mg base [n0,n1,n2] q (aJ st) f cdv A outer s H) w1 (aFz l1))
  (hl1:(p20.endLine==p21.line)=true)(hl2:(p30.endLine==p31.line)=true)(hz:l1.length<=100)(hw:∀C w,wd C=some w->Wd K c1 c2 [k1,k2,k3,k4] l1 C w)
  (d0:Nd n0:=by decide)(d1:Nd n1:=by decide)(d2:Nd n2:=by decide)
  (f0:(n0==("__classdict__":Str))=false:=by decide)(f1:(n1==("__classdict__":Str))=false:=by decide)(f2:(n2==("__classdict__":Str))=false:=by decide):
  FnH P w K mg base 1 f fd [n0] (spW wd):=by
 refine F.okH (k:=0) S (λ vs H Q E ⟨_,_,_,e,_⟩=>by rw[e];rfl) λ cdv A outer s H vs Q E hr hsp=>?_
 obtain⟨g1,g2,g3,g4,g5,g6,g7⟩:=h cdv A outer s H;rw[hst];exact aE3 (X:=cxH P w K mg base [n0,n1,n2] q (aJ st) f cdv A outer s H) rfl S.nd m0 m1 m2 g1 g2 g3 g4 g5 g6 g7 hl1 hl2 hz hsp hw d0 d1 d2 f0 f1 f2
end
section
variable{X:Cx}{n0 n1 n2 odd:Str}{c1 c2:V}{k1 k2 k3 k4:List V}{l1 l2:List Str}{a1 a2:Expr}{as1 as2 e1 e2 e3 e4 w1 w2:List Expr}{kw1 kw2:List zBv}{Q:VK}{H:Hp}{vs:List V}
 {p1 p2 p3 p4 p5 p6 p7 p8 p9 p10 p11 p12 p13 p14 p15 p16 p17 p18 p19 p20 p21 p22 p23 p24 p25 p26 p27 p28 p29 p30 p31 p32 p33 p34 p35 p36 p37 p38 p39 p40:Pos}{q1 q2 q3 q4 q5 q6 q7:Pos}{j1 j2 j3 j4 j5:Nat}{E0:XK}{wd:Addr->Option Str}
end
section
variable{P:zAS}{w:World}{K:zAA}{mg:Str->Option Value}{base:Heap}{x q n0 n1 n2 odd:Str}{st:Stmt}{f:Addr}{fd:zA5}{k:Nat}{wd:Addr->Option Str}{c1 c2:V}{k1 k2 k3 k4:List V}{l1 l2:List Str}{a1 a2:Expr}{as1 as2 e1 e2 e3 e4 w1 w2:List Expr}{kw1 kw2:List zBv}
 {p1 p2 p3 p4 p5 p6 p7 p8 p9 p10 p11 p12 p13 p14 p15 p16 p17 p18 p19 p20 p21 p22 p23 p24 p25 p26 p27 p28 p29 p30 p31 p32 p33 p34 p35 p36 p37 p38 p39 p40:Pos}{q1 q2 q3 q4 q5 q6 q7:Pos}{j1 j2 j3 j4 j5:Nat}
end
end L2
namespace VL
open PySem PySem.Spec PyProof.Rows L2
def dnr{K:zAA}{h:Heap}{mg:Str->Option Value}{x:Str}{st:Stmt}(X:K.In h)(G:h.Ns zAT mg)(e:∃f d,Enr K x st f d)(ps:List Str)
  (hb:∀(kV doc pm:Value) (an:Option Addr) (cdv ct:Value) (us:List Value),us.length=ps.length->zIQ (zCH x x (sZ st) (fL st) (aJ st) .none kV doc pm an cdv ct) ⟨us,[]⟩=pure (ps.zip us):=by
   intro _ _ _ _ _ _ us hl;repeat' first|rfl|(simp at hl;done)|rcases us with _|⟨_,us⟩):∃f d,Dnr K mg x st ps f d/\zA4 K zAT x=some (some (.ref f)):=by
 obtain⟨f,d,F,a⟩:=e;exact⟨f,d,⟨F,zAa X G a,F.binds hb⟩,a⟩
end VL
namespace L2
open PySem PySem.Spec PyProof.Rows
end L2
namespace VL
open PySem PySem.Spec PyProof.Rows L2
def aQb(A:zA6)(s:zAD)(v u:Value)(b:Bool):Prop:=∀(prog:zAS) (w:World) (E:Value->zAD->Prop) (Q:Value->zAD->Prop),Q (.bool b) s->wpAny (model prog w) A (zGU .Gt v u) Q E s
inductive aHs(A:zA6)(s:zAD):List Value->List Value->Bool->Prop
 |nn:aHs A s [] [] false
 |nc:aHs A s [] (v::vs) false
 |cn:aHs A s (v::vs) [] true
 |eq:zC0 A s v u true->aHs A s vs us b->aHs A s (v::vs) (u::us) b
 |un:zC0 A s v u false->aQb A s v u b->aHs A s (v::vs) (u::us) b
section
open PySem.SeqAt
open PySem.AutoSeq1(wpAny_loadPart')
open PySem.MeetsSeq PySem.MeetsSeq2 PySem.MeetsSeq3
end
section
structure Cmp(f:D->D->Option Bool)(l:List D):Prop where
 n0:0<l.length
 im:oR l=true
 nd:bQ l=true
 dp:di l<=40
 cm:∀x∈l,∀y∈l,(f x y).isSome=true
instance:Decidable (Cmp f l):=if h:0<l.length/\oR l=true/\bQ l=true/\di l<=40/\∀x∈l,∀y∈l,(f x y).isSome=true then .isTrue ⟨h.1,h.2.1,h.2.2.1,h.2.2.2.1,h.2.2.2.2⟩else .isFalse λ z=>h ⟨z.n0,z.im,z.nd,z.dp,z.cm⟩
end
mutual
def lsD:D->D->Option Bool
 | .int a,.int b=>some (decide (a<b))
 | .tup l,.tup m=>aPu l m
 |_,_=>none
def aPu:List D->List D->Option Bool
 |[],[]=>some false
 |[],_::_=>some true
 |_::_,[]=>some false
 |x::xs,y::ys=>if eqD x y=true then aPu xs ys else lsD x y
end
def aQa(A:zA6)(s:zAD)(v u:Value)(b:Bool):Prop:=∀(prog:zAS) (w:World) (E:Value->zAD->Prop) (Q:Value->zAD->Prop),Q (.bool b) s->wpAny (model prog w) A (zGU .Lt v u) Q E s
inductive aHr(A:zA6)(s:zAD):List Value->List Value->Bool->Prop
 |nn:aHr A s [] [] false
 |nc:aHr A s [] (v::vs) true
 |cn:aHr A s (v::vs) [] false
 |eq:zC0 A s v u true->aHr A s vs us b->aHr A s (v::vs) (u::us) b
 |un:zC0 A s v u false->aQa A s v u b->aHr A s (v::vs) (u::us) b
section
open PySem.SeqAt
open PySem.AutoSeq1(wpAny_loadPart')
open PySem.MeetsSeq PySem.MeetsSeq2 PySem.MeetsSeq3
end
theorem intsAre_of:∀{vs:List Value} {ns:List Int},vs.length=ns.length->(∀(i:Nat) v,vs[i]? =some v->∃t,v= .int (ns.getD i 0) t)->zBQ vs ns
 |[],[],_,_=>.nil
 |[],_::_,h,_=>by cases h
 |_::_,[],h,_=>by cases h
 |v::vs,n::ns,h,hv=>by
  obtain⟨t,e⟩:=hv 0 v rfl;have e2:v= .int n t:=e;subst e2;exact .cons _ _ (intsAre_of (by simpa using h) λ i v e=>by
   obtain⟨t,e⟩:=hv (i+1) v (by simpa using e);exact⟨t,by simpa using e⟩)
end VL
namespace L2
open PySem PySem.Spec PyProof.Rows
section
variable{X:Cx}{kX:hZ}{Z:St}{H:Hp}{s:zAD}
structure aM9(X:Cx)(P:Addr):Prop where
 code:∃c,X.env.code= .ref c/\zFN X.base c P
 blt:X.base.BuiltinsAt X.mg P
 gne:zAT≠P
def aH2{P:Addr}{params:zCa}{body:Expr}{scope:Scope}{pos:Pos}{Q:Value->zAD->Prop}{E:Value->zAD->Prop}(Lx:aM9 X P)(I:Inv X kX Z H s)(hT:H P=some (.tbl (X.env.qual++"<lambda>")))(hdef:zIa params X.env=([],[]))
  (hfree:∀y∈scope.names,y.2= .free->X.env.kindOf y.1=some .cell\/X.env.kindOf y.1=some .free)
  (h:∀(f c':Addr) (ctv:Value) (H':Hp) (s':zAD),Inv X kX Z H' s'->aX H H'->aEb (X.env.qual++"<lambda>") params body scope (au scope X.env) ((X.mg "__name__").getD .none) H' f c' ctv->Q (.ref f) s'):
  wpAny (model X.prog X.w) X.A (eval (.Lambda params body scope pos) X.env) Q E s:=by
 obtain⟨q,eq⟩:∃q,q=X.env.qual++"<lambda>":=⟨_,rfl⟩
 rw[<-eq]at hT h;obtain⟨c,hcode,hC⟩:=Lx.code;obtain⟨ps,hP,ht⟩:=I.hok P _ hT;have hcl:zEh scope X.env=pure (au scope X.env):=jz λ y hy hk=>I.ok.has _ (hfree y hy hk)
 have hgs:s.heap.Ns zAT X.mg:=by
  obtain⟨o,es,ep,e,r⟩:=I.ok.mod.glob;exact⟨o,es,ep,I.bk _ _ e,r⟩
 have hC':zFN s.heap c P:=hC.keeps I.bk;have hb:s.heap.BuiltinsAt X.mg P:=by
  obtain⟨bm,ob,b1,b2,b3,b4,b5,b6⟩:=Lx.blt;exact⟨bm,ob,b1,b2,b3,b4,I.bk _ _ b5,b6⟩
 refine PySem.W.kla_eval hdef ?_;rw[<-eq];cases hf:zFP pos ps.toList with
 |some cv=>
  obtain⟨c',oc,rfl,hc',hco⟩:=ht.2 pos cv hf;refine PySem.W.kla_makeFunctionHit hcl I.ok.glob hgs hcode hC' hP ht.1 hf hb λ ctv h' tk k hsz=>?_
  have hfr:H h'.objs.size=none:=I.hok.fresh hsz;have sm:aX H (upd H h'.objs.size (.frz (zCT "<lambda>" q params body scope (au scope X.env) ((X.mg "__name__").getD .none) c' ctv) (.own h'.objs.size))):=λ b u e=>by rw[aj (bf e hfr)];exact e
  have I':=I.laid (h':=h'.push (zCT "<lambda>" q params body scope (au scope X.env) ((X.mg "__name__").getD .none) c' ctv)) (t':=tk) (a:=h'.objs.size) (o:=.frz (zCT "<lambda>" q params body scope (au scope X.env) ((X.mg "__name__").getD .none) c' ctv) (.own h'.objs.size)) (λ b u e=>zAG _ (k b u e)) hsz
   ⟨zAZ _ rfl,_,zAZ _ rfl⟩
  exact h _ c' ctv _ _ I' sm ⟨bN,oc,sm _ _ hc',hco⟩
 |none=>
  refine PySem.W.kla_makeFunction hcl I.ok.glob hgs hcode hC' hP ht.1 hf Lx.gne hb λ c' ctv h' tk hx hge hlt hrec htb=>?_
  obtain⟨c2,oc,vs,t,e2,hoc,hd,hv⟩:=hrec;cases e2;have hcn:H c'=none:=I.hok.fresh hge;have hfn:H h'.objs.size=none:=I.hok.fresh (zAg hge (zBl hlt));have neT:∀b u,H b=some u->b≠c':=λ b u e=>bf e hcn
  have sm:aX H (upd H c' (.frz oc (.own c'))):=λ b u e=>by rw[aj (neT b u e)];exact e
  have nP:∀b,H b=none->b≠P:=λ b n z=>by rw[z,hT]at n;cases n
  have J:Inv X kX Z (upd H c' (.frz oc (.own c'))) {s with heap:=h',toks:=tk}:=by
   refine I.step (g':=s.gens) (d':=s.drawn) (ch:=[]) (λ b hb'=>nomatch hb') (λ b o _ _ _ e n=>hx b o (nP b n) e) (λ b o _ _ _ e n=>⟨o.slots,hx b o (nP b n) e⟩)
    (λ b o _ e n=>by rw[aj (zA7 (zAX (zAW e) hge))];exact n) (λ b o _ e=>?_)
    (λ b xs e=>sm _ _ e) (λ b o u e=>sm _ _ e) (λ b r e=>sm _ _ e) (λ m hm=>hm.extBut hx (nP _ I.free)) (λ b u e=>?_) I.bare
   .by_cases z:b=P
    .exact⟨_,by rw[z];exact htb⟩
    .exact⟨o,hx b o z e⟩
   .by_cases hbc:b=c'
    .subst hbc
     rw[bN]at e;cases e;exact⟨hoc,oc,hoc⟩
    .rw[aj hbc]at e
     by_cases z:b=P
     .subst z
      rw[hT]at e;cases e;refine⟨_,htb,?_,λ pos2 cv e=>?_⟩
      .rw[zBM]
       exact TriplesOk_snoc _ _ _ _ ht.1
      .rw[zBM]at e
       rcases aBP _ ht.1 e with z|z
       .obtain⟨c2,oc2,z1,z2,z3⟩:=ht.2 pos2 cv z
        exact⟨c2,oc2,z1,sm _ _ z2,z3⟩
       .exact⟨c',oc,z,bN,vs,t,hd,hv⟩
     .refine(I.hok b u e).stay (λ d v hd' q=>hx d v ?_ q) (λ d q=>sm _ _ q) (λ d xs q=>sm _ _ q) λ d o2 u2 q=>sm _ _ q
      rcases hd' with z2|z2
      .rw[z2];exact z
      .exact λ z3=>by rw[z3,hT]at z2;cases z2
  have hfr:upd H c' (.frz oc (.own c')) h'.objs.size=none:=by rw[aj (zBz hlt)];exact hfn
  have sm2:aX (upd H c' (.frz oc (.own c'))) (upd (upd H c' (.frz oc (.own c'))) h'.objs.size (.frz (zCT "<lambda>" q params body scope (au scope X.env) ((X.mg "__name__").getD .none) c' ctv) (.own h'.objs.size))):=λ b u e=>by rw[aj (bf e hfr)];exact e
  have I2:=J.laid (h':=h'.push (zCT "<lambda>" q params body scope (au scope X.env) ((X.mg "__name__").getD .none) c' ctv)) (t':=tk) (a:=h'.objs.size) (o:=.frz (zCT "<lambda>" q params body scope (au scope X.env) ((X.mg "__name__").getD .none) c' ctv) (.own h'.objs.size)) (λ b u e=>zAG _ e) (zAQ _)
   ⟨zAZ _ rfl,_,zAZ _ rfl⟩
  exact h _ c' ctv _ _ I2 (sm.trans sm2) ⟨bN,oc,sm2 _ _ bN,vs,t,hd,hv⟩
end
end L2
namespace VL
open PySem PySem.Spec PyProof.Rows L2
structure aQc(ks:List D):Prop where
 nd:bQ ks=true
 dp:di ks<=40
 cm:∀x∈ks,∀y∈ks,(lsD x y).isSome=true
instance:Decidable (aQc ks):=if h:bQ ks=true/\di ks<=40/\∀x∈ks,∀y∈ks,(lsD x y).isSome=true then .isTrue ⟨h.1,h.2.1,h.2.2⟩else .isFalse λ z=>h ⟨z.nd,z.dp,z.cm⟩
def aF5(K:zAA)(x:Str)(Pt:Addr):Bool:=match zA4 K zAT x with
 |some (some (.ref f))=>(match K.lookup f with
  |some ⟨_,_,.func fd,_⟩=>(match fd.code with| .ref c=>zBr K c Pt|_=>false)
  |_=>false)&&(K.lookup Pt).isNone
 |_=>false
def aH1{K:zAA}{h:Heap}{mg:Str->Option Value}{fa Pt:Addr}{x:Str}(X:K.In h)(G:h.Ns zAT mg)(hm:mg x=some (.ref fa))(e:aF5 K x Pt=true)
  {o:Obj}{fd:zA5}(lk:K.lookup fa=some o)(hd:o.data= .func fd):K.lookup Pt=none/\∃c,fd.code= .ref c/\zBr K c Pt=true:=by
 unfold aF5 at e;split at e
 .rename_i f hf
  have e1:=(zAa X G hf).symm.trans hm;cases e1;rw[zAN]at e;refine⟨by simpa using e.2,?_⟩;have e2:=e.1;rw[lk]at e2;split at e2
  .rename_i fd' _ q
   have q2:=zAc q;rw[q2]at hd;have hd2:Data.func fd'=Data.func fd:=hd;cases hd2;split at e2
   .rename_i c hc
    exact⟨c,hc,e2⟩
   .cases e2
  .cases e2
 .cases e
def spT(K:zAA)(cl:Str->Addr)(n:Nat)(F:List D->Rs D)(Pt:Addr)(r:Str):Sp:=λ vs H Q E=>H Pt=some (.tbl r)/\spF K cl n F vs H Q E
def aK8(K:zAA)(fd:zA5)(Pt:Addr):Prop:=∃c,fd.code= .ref c/\zBr K c Pt=true
structure aQI(K:zAA)(base:Heap)(mg:Str->Option Value)(fd:zA5)(Pt:Addr):Prop where
 k:K.In base
 b:base.BuiltinsAt mg Pt
 g:zAT≠Pt
 d:aK8 K fd Pt
section
variable{P:zAS}{w:World}{K:zAA}{mg:Str->Option Value}{base:Heap}{q r:Str}{st:Stmt}{ps N:List Str}{fn Pt:Addr}{fd:zA5}{k n:Nat}{f:En->Ou}{FF:List D->Rs D}
def aDc{t:TS}{G:Gx}{H:Hp}{vs:List V}{ds:List D}{Q:VK}{E:XK}(h2:aOz K ⟨H,E,au mg⟩ t f)(rr:Rps K (λ _=>True) H vs ds)(W:WR ⟨H,E,au mg⟩ (dW N.length f ds) (λ d=>∀v H',aX H H'->Rp K (λ p=>H p=none) H' v d->Q v H')):t {nx:=λ _ H'=>Q .non H',rt:=Q} (start N vs) H:=by
 refine h2 [] _ H _ _ _ (RR.start rr) ?_;unfold dW at W;cases e:f (aa N.length ds)with
 |nx Y=>rw[e]at W;exact λ Z' H' lab R=>W .non H' R.old .non
 |rt d=>rw[e]at W;exact λ v H' s r=>W v H' s r
 |ex c=>rw[e]at W;exact W
 |bk Y=>rw[e]at W;exact zAJ W
 |ct Y=>rw[e]at W;exact zAJ W
 |st=>rw[e]at W;exact zAJ W
def aMM(D:Dnr K mg q st ps fn fd)(S:aY N ps (aJ st))(hb:N.Nodup->∀cdv A outer s H E hr,H Pt=some (.tbl r)->SSs (ctD P w K mg base N q (aJ st) fn cdv A outer s H E k hr) (fL st) f)(hn:ps.length=n:=by rfl)(hF:dW N.length f=FF:=by rfl):
  cB P w K mg base (CX1 P w) (k+1) fn fd ps (spT K (au mg) n FF Pt r):=by
 subst hn hF;refine D.F.okX S (λ vs H Q E ⟨_,ds,hl,_⟩=>hl) λ cdv A outer s H vs Q E hr ⟨hT,ds,hl,rr,W⟩=>?_
 obtain⟨t,h1,h2⟩:=hb S.nd cdv A outer s H E hr hT;exact⟨t,h1 (),aDc (G:=⟨H,E,au mg⟩) h2 rr W⟩
def aMN(D:Dnr K mg q st ps fn fd)(hD:aK8 K fd Pt)(hK:K.In base)(hB:base.BuiltinsAt mg Pt)(hg:zAT≠Pt)(S:aY N ps (aJ st))(hb:N.Nodup->∀c A outer s H E hr,H Pt=some (.tbl r)->(∀i,aM9 ((ctD P w K mg base N q (aJ st) fn (.ref c) A outer s H E k hr).X i) Pt)->SSs (ctD P w K mg base N q (aJ st) fn (.ref c) A outer s H E k hr) (fL st) f)(hn:ps.length=n:=by rfl)(hF:dW N.length f=FF:=by rfl):
  cB P w K mg base (CX1 P w) (k+1) fn fd ps (spT K (au mg) n FF Pt r):=by
 subst hn hF;obtain⟨oc,od,kV,doc,pm,an,cdv,ct,osl,rfl,lk,hcd⟩:=D.F.ex;obtain⟨c,hc,hC⟩:=hD;obtain rfl:cdv= .ref c:=hc;refine aNA lk hcd S (λ vs H Q E ⟨_,ds,hl,_⟩=>hl) λ A outer s H vs Q E hr ⟨hT,ds,hl,rr,W⟩=>?_
 obtain⟨t,h1,h2⟩:=hb S.nd c A outer s H E hr hT λ _=>⟨⟨c,rfl,zGM hK hC⟩,hB,hg⟩
 exact⟨t,h1 (),aDc (G:=⟨H,E,au mg⟩) h2 rr W⟩
end
section
variable{C:Ct}{x:Str}{e:Expr}{es:List Expr}{p pos:Pos}{ga:En->Rs (List D)}{F:List D->Rs D}{m:Mode}{k n:Nat}{fn Pt:Addr}{fd:zA5}{ps:List Str}{st:Stmt}{r:Str}
def sE(hT:C.G.H0 Pt=some (.tbl r))(hF:cB C.prog C.w C.K C.mg C.base (CX1 C.prog C.w) k fn fd ps (spT C.K C.G.cl n F Pt r))(D:Dnr C.K C.mg x st ps fn fd)(ha:SA C m (e::es) ga)(hr:k<=C.k:=by exact zBO rfl)(hg:∀i,Gl (C.X i) x:=by intro _;rfl)
  (hn:∀Y ds,ga Y= .ok ds->ds.length=n:=by repeat (first|exact λ _ _ h=>zL h|apply vU))(hdb:Nd x:=by decide)(he:∀i,zAV (e::es) (C.X i).env=(false,eval e (C.X i).env)::zAV es (C.X i).env:=by intro _;rfl)
  (hpl:∀i,(zBw pos (zAV es (C.X i).env)).any (·.1)=false:=by intro _;rfl):SE C (some []) (.Call (.Name x p) (e::es) [] pos) (aK F ga):=by
 obtain⟨t,h1,h2⟩:=ha;refine⟨zY (spT C.K C.G.cl n F Pt r) [] C.G.E t,λ i=>?_,λ U Z H Y lab Q R W=>?_⟩
 .obtain⟨e1,e2,e3,e4,e5⟩:=C.cx i
  exact aGS (CX:=CX1 (C.X i).prog (C.X i).w) (by rw[e1,e2,e3,e4,e5];exact hF) ((C.room i).mono hr) (hg i) (by rw[e4];exact D.m) (by rw[e3];exact D.F.kp) (by rw[e3];exact D.b) .nil (C.pass i) (h1 i) hdb (he i) (hpl i)
 .refine h2 U Z H Y lab _ R (W.bd.imp λ ds eds w vs H1 s r=>⟨s _ _ (R.old _ _ hT),ds,by rw[zAw,r.length];exact hn Y ds eds,by rw[zAw];exact r.wk λ _ _ _ _=>trivial,?_⟩)
  cases hF:F ds with
  |ok d=>
   rw[hF]at w;exact λ v H' s' r'=>w v H' (s.trans s') (r'.wk λ p o _ z=>.inl (s.free z))
  |ex c=>rw[hF]at w;exact λ H' s'=>w H' ((R.old.trans s).trans s')
  |st=>rw[hF]at w;exact w
end
def z9(K:zAA)(Pt:Addr)(r:Str):Sp:=λ vs H Q E=>H Pt=some (.tbl r)/\aMk K vs H Q E
def aJ2{K:zAA}{F:List D->Rs D}{cl:Str->Addr}{Pt:Addr}{r:Str}(h:∀ns:List Int,ns.length<=63->F [.scr ns]= .ok (.bl true)):∀vs H Q E,z9 K Pt r vs H Q E->spT K cl 1 F Pt r vs H Q E:=λ vs H Q E ⟨h1,h2⟩=>⟨h1,aLk h vs H Q E h2⟩
def aH0{P:zAS}{w:World}{K:zAA}{mg mb:Str->Option Value}{k:Nat}{fa a Pt c:Addr}{fd:zA5}{x r:Str}{zS:zAD}{vs:List Value}{ns:List Int}
  (KX:K.In zS.heap)(hns:zS.heap.Ns zAT mg)(hb:zS.heap.Ns zI9 mb)(hbb:∀x:Str,x≠"__name__"->mb x=zBK x)(eI:zS.heap.NoLimit)(hg:zS.gens=#[])
  (ha:zS.heap.get? a=some {cls:=.type "list",data:=.seq vs.toArray})(hi:zBQ vs ns)(hl:ns.length<=63)(hr:jX k zFA)
  (hP:zS.heap.get? Pt=some (zEO #[]))(hKP:K.lookup Pt=none)(hC:zBr K c Pt=true)(hbl:zS.heap.BuiltinsAt mg Pt)
  (F:∀base:Heap,K.In base->base.BuiltinsAt mg Pt->zAT≠Pt->cB P w K mg base (CX1 P w) k fa fd [x] (z9 K Pt r))(hbind:∀(s:zAD) (u:Value),zFW s fd ⟨[u],[]⟩ [(x,u)]):
  zCJ (model P w) zFA (.call (.ref fa) ⟨[.ref a],[]⟩) (λ r s'=>r= .ok (.ret (.bool true))/\OldK zS.heap s'.heap/\s'.os=zS.os/\zE5 s'.gens) zS:=by
 have rv:=aBW hi;have lenV:=hi.length;have hl2:ns.length<=zAU:=zAg hl (by decide);have aP:a≠Pt:=λ z=>by
  rw[z,hP]at ha;have e2:=congrArg Obj.cls (zAc ha);cases e2
 have core:∀H:Hp,H Pt=some (.tbl r)->rY K H a ns->HOk P w H zS.heap->(∀b,H b≠none->b=a\/b=Pt)->(∀u,H a=some u->∃o v,u= .frz o v)->(H a≠none->K.lookup a=none)->
   zCJ (model P w) zFA (.call (.ref fa) ⟨[.ref a],[]⟩) (λ r s'=>r= .ok (.ret (.bool true))/\OldK zS.heap s'.heap/\s'.os=zS.os/\zE5 s'.gens) zS:=by
  intro H hT hS hok hA hfz hK;have base_of:∀{b:Addr} {o:Obj},zS.heap.get? b=some o->H b=none->(aBN zS.heap H).get? b=some o:=λ e n=>aJr e n
  have noA:∀{b:Addr} {o:Obj} {es:Array DictEntry} {ep:Nat},zS.heap.get? b=some o->o.data= .dict es ep->H b=none:=λ{b o es ep} e d=>by
   cases q:H b with
   |none=>rfl
   |some u=>
    rcases hA b (by rw[q];simp)with e'|e'
    .subst e'
     rw[ha]at e;cases e;have d':Data.seq vs.toArray _=Data.dict es ep:=d;cases d'
    .rw[e',hP]at e
     cases e;cases d
  have nsK:∀{b:Addr} {m:Str->Option Value},zS.heap.Ns b m->(aBN zS.heap H).Ns b m:=λ{b m} ⟨o,es,ep,e,d,r⟩=>⟨o,es,ep,base_of e (noA e d),d,r⟩
  have hKb:K.In (aBN zS.heap H):=λ b o e=>base_of (KX b o e) (by
   cases q:H b with
   |none=>rfl
   |some u=>
    rcases hA b (by rw[q];simp)with e'|e'
    .subst e'
     rw[hK (by rw[q];simp)]at e;cases e
    .rw[e',hKP]at e;cases e)
  have hM:Mod K mg (aBN zS.heap H):=⟨hKb,nsK hns,⟨mb,nsK hb,hbb⟩,let⟨mc,h1,h2⟩:=eI;⟨mc,nsK h1,h2⟩⟩;have e0:aFt P w K mg (aBN zS.heap H) zFA [] zS H:=⟨rfl,hM,λ b o e=>aL5 e,zFG (aHd _ _),trivial,λ b hb=>absurd (show b∈([]:List Addr)from hb) (by simp),hok,.of_eq hg⟩;have gP:zAT≠Pt:=by
   obtain⟨o,es,ep,e,d,_⟩:=hns;intro z
   have:=noA e d
   rw[z,hT]at this;cases this
  have hbB:(aBN zS.heap H).BuiltinsAt mg Pt:=by
   obtain⟨bm,o,b1,b2,b3,b4,b5,b6,b7,b8⟩:=hbl;refine⟨bm,o,b1,b2,b3,b4,base_of b5 ?_,b6,b7,b8⟩;cases q:H bm with
   |none=>rfl
   |some u=>
    rcases hA bm (by rw[q];simp)with e'|e'
    .rw[e',ha]at b5
     cases b5;cases b8
    .exact absurd e' b4
  refine zDB ((F _ hKb hbB gP).run zFA [] zS H ⟨[.ref a],[]⟩ [.ref a] [.ref a] (λ v _=>v= .bl true) (λ _ _ _=>False) hr e0 (hbind zS (.ref a)) (.cons rfl .nil) ⟨hT,a,ns,rfl,hS,hl,λ _=>rfl⟩) λ r s' h=>?_
  cases r with
  |error e=>
   obtain⟨_,_,_,_,_,_,_,_,_,_,_,_,_,z⟩:=h;exact z.elim
  |ok fl=>
   cases fl with
   |next=>exact zAJ h
   |brk=>exact zAJ h
   |cont=>exact zAJ h
   |ret u=>
    obtain⟨v,H',os,bare,un,hok',r',q⟩:=h;have q':v= .bl true:=q;subst q';obtain rfl:u=zC2 true:=r';obtain⟨ps,hps,_⟩:=hok' Pt _ (un.tbls _ _ hT);have all:∀b o,zS.heap.get? b=some o->b≠Pt->s'.heap.get? b=some o:=λ b o e ne=>by
     cases q:H b with
     |none=>exact un.keep b o e q (by intro z;exact absurd (show b∈([]:List Addr)from z) (by simp)) (by simp)
     |some u=>
      rcases hA b (by rw[q];simp)with e'|e'
      .subst e'
       obtain⟨ob,v,rfl⟩:=hfz u q;have z2:=un.frzs b ob _ q;obtain⟨e1,_⟩:=hok b _ q;obtain⟨e2,_⟩:=hok' b _ z2;rw[e]at e1;cases e1;exact e2
      .exact absurd e' ne
    refine⟨rfl,⟨λ b o e=>?_,λ b o e=>?_⟩,os,bare⟩
    .by_cases hbP:b=Pt
     .subst hbP
      rw[hP]at e;cases e;obtain⟨⟨o1,vs1,f1,f2,f3,f4⟩,_⟩:=(zGM KX hC).tab hP;exact .inr (.inl ⟨⟨c,o1,vs1,f1,f2,f3,f4⟩,rfl,#[],ps,rfl,by simpa using hps⟩)
     .exact .inl (all b o e hbP)
    .by_cases hbP:b=Pt
     .subst hbP;exact⟨_,hps⟩
     .exact⟨o,all b o e hbP⟩
 have tOk:∀H:Hp,cZ P w H zS.heap Pt (.tbl r):=λ H=>⟨#[],hP,trivial,λ pos cv e=>nomatch e⟩
 cases hk:K.lookup a with
 |some o=>
  have e:=KX a o hk;rw[ha]at e;cases e;refine core (λ b=>if b=Pt then some (.tbl r)else none) (if_pos rfl) (.inr ⟨_,vs.toArray,_,hk,rfl,rfl,rfl,by rw[zAP,lenV];exact hl2,by simpa using rv⟩) (λ b u z=>?_) (λ b z=>?_) (λ u z=>?_) λ z=>absurd (if_neg aP) z
  .by_cases hb:b=Pt
   .have z':=(if_pos hb).symm.trans z
    cases z';rw[hb];exact tOk _
   .have z':=(if_neg hb).symm.trans z
    cases z'
  .by_cases hb:b=Pt
   .exact .inr hb
   .exact absurd (if_neg hb) z
  .have z':=(if_neg aP).symm.trans z
   cases z'
 |none=>
  refine core (λ b=>if b=a then some (.frz {cls:=.type "list",data:=.seq vs.toArray} (.lst (ns.map V.int)))else if b=Pt then some (.tbl r)else none) ?_ (.inl ⟨{cls:=.type "list",data:=.seq vs.toArray},if_pos rfl⟩) (λ b u z=>?_) (λ b z=>?_) (λ u z=>?_) λ _=>hk
  .rw[if_neg (zDL aP),if_pos rfl]
  .by_cases hb:b=a
   .have z':=(if_pos hb).symm.trans z
    cases z';subst hb;exact⟨ha,by rw[zAF];exact hl2,vs,_,rv,ha⟩
   .have z':=(if_neg hb).symm.trans z
    by_cases hp:b=Pt
    .have z2:=(if_pos hp).symm.trans z'
     cases z2;rw[hp];exact tOk _
    .have z2:=(if_neg hp).symm.trans z'
     cases z2
  .by_cases hb:b=a
   .exact .inl hb
   .by_cases hp:b=Pt
    .exact .inr hp
    .exact absurd ((if_neg hb).trans (if_neg hp)) z
  .have z':=(if_pos rfl).symm.trans z
   cases z';exact⟨_,_,rfl⟩
def aHz{l:zEy}{k:Nat}{q:zAS}{loose:List Str}{XP:(Str->Option Value)->Heap->Prop}{YP:World->Heap->Prop}{d:DefRec}{K:Params->zAA}{Pt:Addr}{x r:Str}
  (hn:l.most=some 63)(hdf:d.params.defaults=[])(hr:jX k zFA)
  (hY:∀(w:World) (h:Heap),YP w h->(K w.params).In h/\h.get? Pt=some (zEO #[]))
  (F:∀(w:World) (mg:Str->Option Value) (fa:Addr) (h:Heap),(K w.params).In h->h.Ns zAT mg->mg d.name=some (.ref fa)->
   ∃(fd:zA5) (c:Addr),(K w.params).lookup Pt=none/\zBr (K w.params) c Pt=true/\(∀(s:zAD) (u:Value),zFW s fd ⟨[u],[]⟩ [(x,u)])/\
    ∀base:Heap,(K w.params).In base->base.BuiltinsAt mg Pt->zAT≠Pt->cB l.prog w (K w.params) mg base (CX1 l.prog w) k fa fd [x] (z9 (K w.params) Pt r)):
  zHh q loose XP YP l.row.toRowW d [] (λ f vs=>zHE f vs):=by
 refine Att.aE6 hn hdf λ w z5 zS mg mb fa o pm cd doc a vs ns G Y ho hd hcd hmg hobj hints kK hg=>?_
 obtain⟨KX,hP⟩:=hY w _ Y;obtain⟨fd,c,hKP,hC,hb,hF⟩:=F w mg fa _ KX G.T.g hmg;have hbl:zS.heap.BuiltinsAt mg Pt:=by
  obtain⟨bm,ob,b1,b2,b3,b4,b5,b6⟩:=G.T.bmain;refine⟨bm,ob,b1,b2,λ z=>?_,λ z=>?_,b3,b4,b5,b6⟩
  .obtain⟨o,es,ep,e,hd,_⟩:=G.T.g
   rw[z,e]at b3;cases b3;rw[hd]at b6;cases b6
  .rw[z,hP]at b3;cases b3;cases b4
 exact aH0 KX G.T.g G.T.b G.T.builtins G.T.nolimit hg hobj hints kK hr hP hKP hC hbl hF hb
structure aQd(f:D->D->Option Bool)(l:List D):Prop where
 im:oR l=true
 nd:bQ l=true
 dp:di l<=40
 cm:∀x∈l,∀y∈l,(f x y).isSome=true
instance:Decidable (aQd f l):=if h:oR l=true/\bQ l=true/\di l<=40/\∀x∈l,∀y∈l,(f x y).isSome=true then .isTrue ⟨h.1,h.2.1,h.2.2.1,h.2.2.2⟩else .isFalse λ z=>h ⟨z.im,z.nd,z.dp,z.cm⟩
def aPf:R2:=λ x y H Q=>∃a b,x= .str a/\y= .str b/\a.length+b.length<=zAU/\Q (.str (a++b)) H
def aOP{X:Cx}:OpR X (zCG .Add) aPf:=by
 intro kX s Z H x y u v Q I rx ry ⟨a,b,ex,ey,hz,q⟩;subst ex ey;obtain⟨t,rfl⟩:=rx;obtain⟨t2,rfl⟩:=ry;exact add_str (λ t' tk=>⟨.str (a++b),H,I.tok tk,⟨t',rfl⟩,q⟩) hz
def jE:D->D->Rs D
 | .str a,.str b=>if a.length+b.length<=zAU then .ok (.str (a++b))else .st
 |_,_=>.st
def aGp(h:jE d e= .ok z):∃a b,d= .str a/\e= .str b/\a.length+b.length<=zAU/\z= .str (a++b):=by
 unfold jE at h;split at h
 .rename_i a b
  split at h
  .rename_i hz
   cases h;exact⟨a,b,rfl,rfl,hz,rfl⟩
  .cases h
 .cases h
def Rp.str_inv{K:zAA}(r:Rp K A H v (.str x)):v= .str x:=by cases r;rfl
def aNy{K:zAA}:OpS K aPf jE:=by
 intro A x y d e H Q z rx ry ez q;obtain⟨a,b,rfl,rfl,hz,rfl⟩:=aGp ez;have e1:=rx.str_inv;have e2:=ry.str_inv;subst e1 e2;exact⟨a,b,rfl,rfl,hz,q _ H (aX.refl H) (.str _)⟩
def strsOf:List D->Option (List Str)
 |[]=>some []
 | .str x::l=>(strsOf l).map (x::·)
 |_=>none
theorem mq:∀{l:List D} {ys:List Str},strsOf l=some ys->l=ys.map .str
 |[],ys,h=>by cases h;rfl
 |d::l,ys,h=>by
  cases d with
  |str x=>
   unfold strsOf at h;cases e:strsOf l with
   |none=>rw[e]at h;cases h
   |some zs=>
    rw[e]at h;cases h;rw[mq e];rfl
  |_=>cases h
theorem pF:∀ys:List Str,strsOf (ys.map .str)=some ys
 |[]=>rfl
 |y::ys=>by rw[zAE,strsOf,pF ys];rfl
theorem Rps.strs_inv{K:zAA}:∀{vs:List V} {ys:List Str},Rps K A H vs (ys.map .str)->vs=ys.map .str
 |[],[],_=>rfl
 |v::vs,[],h=>by cases h
 |[],y::ys,h=>by cases h
 |v::vs,y::ys,h=>by
  cases h with
  |cons a r=>
   have e:=a.str_inv;subst e;rw[Rps.strs_inv r];rfl
theorem aDT:∀{ys:List Str} {us:List Value},Vals (ys.map V.str) us->StrsAre us ys
 |[],_,.nil=>.nil
 |y::ys,_,.cons ⟨t,e⟩ r=>by subst e;exact .cons y t (aDT r)
def aBf(x:Str)(ys:List Str):Bool:=decide ((ys.map (·.length)).sum+ys.length*x.length<=16777216)
def rJoin(K:zAA):V->List V->Hp->VK->Prop:=λ x xs H Q=>∃a p ys,x= .str a/\xs=[.ref p]/\SqL K H p (ys.map V.str)/\aBf a ys=true/\Q (.str (zDZ a ys)) H
def aLb{X:Cx}:MtR X "str.join" (rJoin X.K):=by
 intro kX s Z H x xs v us Q I rx rxs ⟨a,p,ys,ex,exs,hp,hz,q⟩;subst ex exs;obtain⟨t,rfl⟩:=rx;obtain⟨u,rfl,ru⟩:=vals1 rxs;cases ru;obtain⟨its,rv,pl,_⟩:=I.list hp;exact join_list pl.isList (by simpa using aDT rv) (of_decide_eq_true hz) λ t' k=>⟨.str _,H,I.tok k,⟨t',rfl⟩,q⟩
def vW(fo fa:En->Rs D):En->Rs D:=λ Y=>(fo Y).bd λ d=>match d with
 | .str a=>(fa Y).bd λ e=>(match e with
  | .lst l=>(match strsOf l with
   |some ys=>if aBf a ys=true then .ok (.str (zDZ a ys))else .st
   |none=>.st)
  |_=>.st)
 |_=>.st
def aDU(a b:Str):Bool:=!(b.length==0)&&decide (a.length<=zAU)&&decide ((zC4 a (zCB a b 0 a.length (a.length+1)) b.length).length<=zAU)&&decide ((zAi a b).length<=zAU)
def aFl{prog:zAS}{w:World}{A:zA6}{E:Value->zAD->Prop}{s:zAD}{x y:Str}{t u:Tok}{Q:Value->zAD->Prop}(hz:aDU x y=true)
  (h:∀(l:List (Str×Tok)) tk,l.map (·.1)=zAi x y->Q (.ref s.heap.objs.size) {s with heap:=s.heap.push {cls:=.type "list",data:=.seq (strValues l).toArray},toks:=tk}):wpAny (model prog w) A (call (.builtin "str.split") [.str x t,.str y u]) Q E s:=by
 unfold aDU at hz;simp only[zAN,zDo,decide_eq_true_eq]at hz;obtain⟨⟨⟨hy,hx⟩,hn⟩,_⟩:=hz;cases h1:(decide (x.length<y.length)||decide (zFX x<zFX y))
 .cases hf:(zCB x y 0 x.length (x.length+1)).isEmpty
  .refine zCm zCw (zEi _ _ _) zDj (zDe _ _) (meets_str_split_sep x y t u h1 hy hf hx hn) ?_
   show wants Q E _ {s with toks:=_,heap:=s.heap.push {cls:=.type "list",data:=.seq (strsFrom s.toks (zC4 x (zCB x y 0 x.length (x.length+1)) y.length)).toArray}};rw[strsFrom_eq];exact h (numbered s.toks _) _ ((numbered_texts _ _).trans ((if_neg (ne_true_of_eq_false h1)).trans (if_neg (ne_true_of_eq_false hf))).symm)
  .exact zCm zCw (zEi _ _ _) zDj (zDe _ _) (meets_str_split_not_found x y t u h1 hy hf) (h [(x,t)] s.toks ((if_neg (ne_true_of_eq_false h1)).trans (if_pos hf)).symm)
 .exact zCm zCw (zEi _ _ _) zDj (zDe _ _) (meets_str_split_cannot_occur x y t u h1) (h [(x,t)] s.toks (if_pos h1).symm)
theorem aBU:∀(l:List (Str×Tok)),Vals ((l.map (·.1)).map V.str) (strValues l)
 |[]=>.nil
 |p::l=>.cons ⟨p.2,rfl⟩ (aBU l)
def aP7:V->List V->Hp->VK->Prop:=λ x xs H Q=>∃a b,x= .str a/\xs=[.str b]/\aDU a b=true/\∀L,H L=none->Q (.ref L) (upd H L (.lst ((zAi a b).map V.str)))
def aJR{X:Cx}:MtR X "str.split" aP7:=by
 intro kX s Z H x xs v us Q I rx rxs ⟨a,b,ex,exs,hz,q⟩;subst ex exs;obtain⟨t,rfl⟩:=rx;obtain⟨u,rfl,ru⟩:=vals1 rxs;obtain⟨t2,rfl⟩:=ru;have hfr:H s.heap.objs.size=none:=I.hok.fresh (zAQ _);have hz2:=hz;unfold aDU at hz2;simp only[zAN,decide_eq_true_eq]at hz2;refine aFl hz λ l tk hl=>⟨.ref s.heap.objs.size,_,I.laid (t':=tk) (a:=s.heap.objs.size) (o:=.lst ((zAi a b).map V.str)) (λ b o e=>zAG _ e) (zAQ _) ⟨by rw[zAF];exact hz2.2,strValues l,0,by rw[<-hl];exact aBU l,zAZ _ rfl⟩,rfl,q _ hfr⟩
def kj(fo fa:En->Rs D):En->Rs D:=λ Y=>(fo Y).bd λ d=>match d with
 | .str a=>(fa Y).bd λ e=>(match e with
  | .str b=>if aDU a b=true then .ok (.lst ((zAi a b).map .str))else .st
  |_=>.st)
 |_=>.st
theorem aDd{K:zAA}:∀ys:List Str,Rps K A H (ys.map V.str) (ys.map D.str)
 |[]=>.nil
 |y::ys=>.cons (.str y) (aDd ys)
section
variable{C:Ct}{m1 m2:Mode}{o e a b:Expr}{fo fe fa fb:En->Rs D}{apos cpos pos:Pos}
def nT(ha:SE C m1 a fa)(hb:SE C m2 b fb):SE C (some []) (.BinOp a .Add b pos) (op2 jE fa fb):=iC (zm (λ _=>aOP) aNy ha hb) λ _ _ h=>lJ (λ _ _ _ h=>by obtain⟨_,_,_,_,_,rfl⟩:=aGp h;rfl) h
def vD(ho:SE C m1 o fo)(he:SE C m2 e fe)(hbase:∀j,zCl o "join" (C.X j).env (eval o (C.X j).env)=eval o (C.X j).env:=by intro _;rfl)(hline:(apos.endLine==cpos.line)=true:=by rfl)
  (hfew:∀j,((zBw cpos (zAV [e] (C.X j).env)).all (λ x=>!x.1)&&(zDy cpos (zCd [] (C.X j).env)).all (λ x=>x.1.isSome)&&decide ([e].length+([]:List zBv).length+(if ([]:List zBv).isEmpty then 0 else 1)<30))=true:=by intro _;rfl)
  (hs:∀j,zAV [e] (C.X j).env=(false,eval e (C.X j).env)::zAV [] (C.X j).env:=by intro _;rfl):SE C (some []) (.Call (.Attribute o "join" apos) [e] [] cpos) (vW fo fe):=by
 obtain⟨t,h1,h2⟩:=ho;obtain⟨u,k1,k2⟩:=he;refine⟨tBM C.K "str" (rJoin C.K) t (kE u uw),λ i=>by rw[<-C.hK i];exact xq zFg PySem.F.slot_str_join PySem.F.type_str_join aLb (h1 i) (az (k1 i) fH (hs i)) (hbase i) (hfew i) hline (hs i) rfl,λ U Z H Y lab Q R W=>?_⟩;refine h2 U Z H Y lab _ R (W.bd.imp λ d hd w x H1 s1 r1=>?_);cases d with
 |str a=>
  have ex:=r1.str_inv;subst ex;refine⟨rfl,k2 U Z H1 Y lab _ (R.up s1) (w.bd.imp λ e he w y H2 s2 r2=>?_)⟩;cases e with
  |lst l=>
   dsimp only at w;cases hl:strsOf l with
   |none=>rw[hl]at w;exact zAJ w
   |some ys=>
    rw[hl]at w;dsimp only at w;by_cases hz:aBf a ys=true
    .rw[if_pos hz]at w
     rw[mq hl]at r2;obtain⟨p,vs,rfl,hp,mm,rs⟩:=r2.lst_inv;have ev:=rs.strs_inv;subst ev;exact⟨a,p,ys,rfl,rfl,SqL.of hp,hz,w _ H2 (s1.trans s2) (.str _)⟩
    .rw[if_neg hz]at w;exact zAJ w
  |_=>exact zAJ w
 |_=>exact zAJ w
def lu(ho:SE C m1 o fo)(he:SE C m2 e fe)(hbase:∀j,zCl o "split" (C.X j).env (eval o (C.X j).env)=eval o (C.X j).env:=by intro _;rfl)(hline:(apos.endLine==cpos.line)=true:=by rfl)
  (hfew:∀j,((zBw cpos (zAV [e] (C.X j).env)).all (λ x=>!x.1)&&(zDy cpos (zCd [] (C.X j).env)).all (λ x=>x.1.isSome)&&decide ([e].length+([]:List zBv).length+(if ([]:List zBv).isEmpty then 0 else 1)<30))=true:=by intro _;rfl)
  (hs:∀j,zAV [e] (C.X j).env=(false,eval e (C.X j).env)::zAV [] (C.X j).env:=by intro _;rfl):SE C (some []) (.Call (.Attribute o "split" apos) [e] [] cpos) (kj fo fe):=by
 obtain⟨t,h1,h2⟩:=ho;obtain⟨u,k1,k2⟩:=he;refine⟨tBM C.K "str" aP7 t (kE u uw),λ i=>by rw[<-C.hK i];exact xq zFg zCw PySem.F.type_str_split aJR (h1 i) (az (k1 i) fH (hs i)) (hbase i) (hfew i) hline (hs i) rfl,λ U Z H Y lab Q R W=>?_⟩;refine h2 U Z H Y lab _ R (W.bd.imp λ d hd w x H1 s1 r1=>?_);cases d with
 |str a=>
  have ex:=r1.str_inv;subst ex;refine⟨rfl,k2 U Z H1 Y lab _ (R.up s1) (w.bd.imp λ e he w y H2 s2 r2=>?_)⟩;cases e with
  |str b=>
   dsimp only at w;by_cases hz:aDU a b=true
   .rw[if_pos hz]at w
    have ey:=r2.str_inv;subst ey;refine⟨a,b,rfl,rfl,hz,λ L hL=>w _ _ ((s1.trans s2).trans (cu hL _)) (.lst bN (.inl ((s1.trans s2).free hL)) (aDd _))⟩
   .rw[if_neg hz]at w;exact zAJ w
  |_=>exact zAJ w
 |_=>exact zAJ w
end
def part_of{v:Value}{o:Option Int}(h:zFK v o):∃l:Option (Int×Tok),v=partValue l/\l.map (·.1)=o:=by
 cases h with
 |none=>exact⟨none,rfl,rfl⟩
 |int i t=>exact⟨some (i,t),rfl,rfl⟩
def aP9:V->Option Int->Option Int->Hp->VK->Prop:=λ x lo hi H Q=>∃a,x= .str a/\a.length<=zAU/\Q (.str (zDA a lo hi)) H
def aNV{X:Cx}:SlR X aP9:=by
 intro kX s Z H x v vl vu lo hi sl Q I rx hs pl pu ⟨a,ex,hz,q⟩;subst ex;obtain⟨t,rfl⟩:=rx;obtain⟨l,rfl,rfl⟩:=part_of pl;obtain⟨u,rfl,rfl⟩:=part_of pu;obtain⟨ob,h1,h2,h3⟩:=hs;exact⟨"str",_,PySem.F.slot_str_getitem.lookup,zEi _ _ _,wpAny_getItem_str_slice (l:=l) (u:=u) (st:=none) ⟨ob,h1,h2,h3⟩ rfl (post_val_or_str ⟨zAg (zET a _ _) hz,λ t' k=>⟨.str _,H,I.tok k,⟨t',rfl⟩,q⟩⟩)⟩
def zf(d:D)(lo hi:Option Int):Rs D:=match d with
 | .str a=>if a.length<=zAU then .ok (.str (zDA a lo hi))else .st
 |_=>.st
def cG(fa:En->Rs D)(fl fh:En->Rs (Option Int)):En->Rs D:=λ Y=>(fa Y).bd λ d=>(fl Y).bd λ l=>(fh Y).bd λ h=>okD (zf d l h)
section
variable{C:Ct}{pos p1 p2:Pos}{m:Mode}{a e:Expr}{fa fe:En->Rs D}{lo hi:Option Expr}
def gZ{fl fh:En->Rs (Option Int)}(ha:SE C m a fa)(hl:SO C lo fl)(hh:SO C hi fh):SE C (some []) (.Subscript a (.Slice lo hi none p2) pos) (cG fa fl fh):=by
 obtain⟨t,h1,h2⟩:=ha;obtain⟨tl,l1,l2⟩:=hl;obtain⟨th,k1,k2⟩:=hh;refine⟨tSl aP9 t tl th,λ i=>aDo aNV (h1 i) (l1 i) (k1 i),λ U Z H Y lab Q R W=>h2 U Z H Y lab _ R (W.bd.imp λ d _ w x H1 s1 r1=>?_)⟩;refine l2 U Z H1 Y lab _ (R.up s1) (w.bd.imp λ ol _ w H2 s2=>?_);refine k2 U Z H2 Y lab _ ((R.up s1).up s2) (w.bd.imp λ oh _ w H3 s3=>?_);obtain⟨z,ez,w⟩:=w.okD;cases d with
 |str b=>
  unfold zf at ez;dsimp only at ez;split at ez
  .rename_i hz
   cases ez;have ex:=r1.str_inv;subst ex;exact⟨b,rfl,hz,w _ H3 (s1.trans (s2.trans s3)) (.str _)⟩
  .cases ez
 |_=>cases ez
def aHh(c:Str):D->Rs D
 | .int i=>if i.natAbs.log2<1920/\(zEA i:Str).length+c.length<=zAU then .ok (.str ((zEA i:Str)++c))else .st
 |_=>.st
def aPV(c:Str)(te:TE):TE:=λ Z H Q=>te Z H λ x H1=>∃i:Int,x= .int i/\i.natAbs.log2<1920/\(zEA i:Str).length+c.length<=zAU/\Q (.str ((zEA i:Str)++c)) H1
def aNr{X:Cx}{te:TE}{c:Str}{j:Nat}(he:PE X e te):PE X (.JoinedStr [.FormattedValue e (-1) none p1,.Constant (.str c) j p2] pos) (aPV c te):=by
 intro kX s Z H Q I h;refine JoinedStr_many (joinParts_cons (FormattedValue_plain (thn (he kX s Z H _ I h) λ v s1 ⟨x,H1,I1,r1,i,ex,hl,hz,q⟩=>?_)));subst ex;obtain⟨t,rfl⟩:=r1;refine formatField_int_small hl ?_;have e0:Str.empty++(zEA i:Str)=(zEA i:Str):=PySem.Str.empty_append _;refine⟨by rw[e0];lia,?_⟩;rw[e0];refine joinParts_cons (zGi ?_);refine⟨by rw[zHJ];exact hz,joinParts_nil ⟨.str _,H1,I1.tok _,⟨_,rfl⟩,q⟩ (by rw[zHJ];exact hz)⟩
def aN2{c:Str}{j:Nat}(he:SE C m e fe):SE C (some []) (.JoinedStr [.FormattedValue e (-1) none p1,.Constant (.str c) j p2] pos) (λ Y=>(fe Y).bd λ d=>okD (aHh c d)):=by
 obtain⟨t,h1,h2⟩:=he;refine⟨aPV c t,λ i=>aNr (h1 i),λ U Z H Y lab Q R W=>h2 U Z H Y lab _ R (W.bd.imp λ d _ w x H1 s1 r1=>?_)⟩;obtain⟨z,ez,w⟩:=w.okD;unfold aHh at ez;split at ez
 .split at ez
  .rename_i hz
   cases ez;have ex:=r1.int_inv;subst ex;exact⟨_,rfl,hz.1,hz.2,w _ H1 s1 (.str _)⟩
  .cases ez
 .cases ez
end
def aFJ(ks vs:List D):Option (List (Str×D)):=match strsOf ks with
 |some js=>if js.length=vs.length then some (js.zip vs)else none
 |none=>none
def lL(ps:List (Str×D)):D:=.dct (ps.map λ p=>.str p.1) (ps.map (·.2))
def aHI(h:aFJ ks vs=some ps):ks=ps.map (λ p=>.str p.1)/\vs=ps.map (·.2):=by
 unfold aFJ at h;split at h
 .rename_i js hi
  split at h
  .rename_i hl
   cases h;refine⟨?_,?_⟩
   .rw[mq hi,show(λ p:Str×D=>D.str p.1)=(λ i=>D.str i)∘zGF from rfl,<-zAl,List.map_fst_zip (by lia)]
   .rw[zFF (by lia)]
  .cases h
 .cases h
theorem aHu:∀ps:List (Str×D),(ps.map (·.1)).zip (ps.map (·.2))=ps
 |[]=>rfl
 |p::ps=>by rw[zAE,zAE,zAv,aHu ps]
def aDm(ps:List (Str×D)):aFJ (ps.map λ p=>.str p.1) (ps.map (·.2))=some ps:=by
 unfold aFJ;have e:strsOf (ps.map λ p=>D.str p.1)=some (ps.map (·.1)):=by
  rw[show(ps.map λ p=>D.str p.1)=(ps.map (·.1)).map D.str by rw[zAl];rfl];exact pF _
 rw[e];dsimp only;rw[if_pos (by rw[zAF,zAF]),aHu]
def Rp.dctS_inv{K:zAA}(r:Rp K A H v (.dct ks vs))(h:aFJ ks vs=some ps):
  ∃a kvs,v= .ref a/\H a=some (.dK kvs)/\A a/\Rps K (λ p=>A p/\p≠a) H (kvs.map (·.2)) (ps.map (·.2))/\kvs.map (·.1)=ps.map λ p=>(zC1 p.1:Key):=by
 obtain⟨h1,h2⟩:=aHI h;generalize hd:D.dct ks vs=d at r;cases r with
 |dK hh m r=>
  rename_i kvs ds;injection hd with q1 q2
  subst q2;refine⟨_,kvs,rfl,hh,m,by rw[<-h2];exact r,?_⟩;rw[h1]at q1;clear r h h1 h2 hh;induction kvs generalizing ps with
  |nil=>cases ps with
   |nil=>rfl
   |cons _ _=>cases q1
  |cons p kvs ih=>cases ps with
   |nil=>cases q1
   |cons q ps=>
    obtain⟨p1,p2⟩:=p;rw[zAE,zAE]at q1;injection q1 with q3 q4
    rw[zAE,zAE,ih q4];cases p1 with
    |inl i=>cases q3
    |inr x=>injection q3 with q3;rw[q3]
 |dT hh m r=>
  injection hd with q1 q2
  rw[h1]at q1;cases ps<;>cases q1
 |_=>cases hd
theorem aIA{K:zAA}:∀{kvs:List (Key×V)} {ps:List (Str×D)},Rps K A H (kvs.map (·.2)) (ps.map (·.2))->(kvs.map (·.1)=ps.map λ p=>(zC1 p.1:Key))->∀i:Str,
  (∃d v,ps.lookup i=some d/\aCJ kvs (.inr i)=some v/\Rp K A H v d)\/(ps.lookup i=none/\aCJ kvs (.inr i)=none)
 |[],[],_,_,_=>.inr ⟨rfl,rfl⟩
 |[],_::_,_,e,_=>by cases e
 |_::_,[],_,e,_=>by cases e
 |p::kvs,q::ps,r,e,i=>by
  obtain⟨p1,p2⟩:=p;obtain⟨q1,q2⟩:=q;rw[zAE,zAE]at e;injection e with e1 e2
  replace e1:p1= .inr q1:=e1;subst e1;rw[zAE,zAE]at r;cases r with
  |cons h r=>
   by_cases c:q1=i
   .subst c
    exact .inl ⟨q2,p2,by simp[zAe],aDO rfl,h⟩
   .have c1:(i==q1)=false:=by simpa using λ z=>c z.symm
    rw[aDP (p:=(zC1 q1,p2)) (by simpa using c),zAe,c1];exact aIA r e2 i
def aDj(ps:List (Str×D))(i:Str)(d:D):List (Str×D):=if (ps.any λ p=>decide (p.1=i))=true then ps.map (λ p=>if p.1=i then(p.1,d)else p)else ps++[(i,d)]
theorem aKU:∀{kvs:List (Key×V)} {ps:List (Str×D)} {i:Str},(kvs.map (·.1)=ps.map λ p=>(zC1 p.1:Key))->(kvs.any λ kv=>decide (kv.1=(.inr i:Key)))=ps.any λ p=>decide (p.1=i)
 |[],[],_,_=>rfl
 |[],_::_,_,e=>by cases e
 |_::_,[],_,e=>by cases e
 |(p1,p2)::kvs,q::ps,i,e=>by
  rw[zAE,zAE]at e;injection e with e1 e2
  replace e1:p1= .inr q.1:=e1;subst e1;rw[zC5,zC5,aKU e2];simp
theorem aI1{K:zAA}{i:Str}{v:V}{d:D}(h:Rp K A H v d):∀{kvs:List (Key×V)} {ps:List (Str×D)},Rps K A H (kvs.map (·.2)) (ps.map (·.2))->(kvs.map (·.1)=ps.map λ p=>(zC1 p.1:Key))->
  Rps K A H ((kvs.map λ kv=>if kv.1= .inr i then(kv.1,v)else kv).map (·.2)) ((ps.map λ p=>if p.1=i then(p.1,d)else p).map (·.2))/\((kvs.map λ kv=>if kv.1= .inr i then(kv.1,v)else kv).map (·.1)=(ps.map λ p=>if p.1=i then(p.1,d)else p).map λ p=>(zC1 p.1:Key))
 |[],[],_,_=>⟨.nil,rfl⟩
 |[],_::_,_,e=>by cases e
 |_::_,[],_,e=>by cases e
 |(p1,p2)::kvs,(q1,q2)::ps,r,e=>by
  rw[zAE,zAE]at e;injection e with e1 e2
  replace e1:p1= .inr q1:=e1;subst e1;rw[zAE,zAE]at r;cases r with
  |cons h1 r1=>
   obtain⟨z1,z2⟩:=aI1 h r1 e2;rw[zAE,zAE,zAE,zAE,zAE,zAE,z2];by_cases c:q1=i
   .subst c
    rw[if_pos rfl,if_pos rfl];exact⟨.cons h z1,rfl⟩
   .rw[if_neg (show¬((zC1 q1:Key),p2).1=zC1 i by simpa using c),if_neg (show¬(q1,q2).1=i from c)]
    exact⟨.cons h1 z1,rfl⟩
def aNd{K:zAA}{kvs:List (Key×V)}{ps:List (Str×D)}{i:Str}{v:V}{d:D}(r:Rps K A H (kvs.map (·.2)) (ps.map (·.2)))(e:kvs.map (·.1)=ps.map λ p=>(zC1 p.1:Key))(h:Rp K A H v d):
  Rps K A H ((putK kvs (.inr i) v).map (·.2)) ((aDj ps i d).map (·.2))/\(putK kvs (.inr i) v).map (·.1)=(aDj ps i d).map λ p=>(zC1 p.1:Key):=by
 unfold putK aDj;rw[aKU e];split
 .exact aI1 h r e
 .rw[zBA,zBA,zBA,zBA,e]
  exact⟨r.append (.cons h .nil),rfl⟩
def aMV{K:zAA}{kvs:List (Key×V)}{ps:List (Str×D)}(h:H a=some (.dK kvs))(m:A a)(r:Rps K (λ p=>A p/\p≠a) H (kvs.map (·.2)) (ps.map (·.2)))(e:kvs.map (·.1)=ps.map λ p=>(zC1 p.1:Key)):Rp K A H (.ref a) (lL ps):=by
 have e1:(kvs.map λ p=>kD p.1)=ps.map λ p=>.str p.1:=by
  rw[show(kvs.map λ p=>kD p.1)=(kvs.map (·.1)).map kD by rw[zAl];rfl,e,zAl];rfl
 have:=Rp.dK h m r
 rw[e1]at this;exact this
def prZ:D->Option (Str×D)
 | .tup [.str i,v]=>some (i,v)
 |_=>none
def q9:List D->Option (List (Str×D))
 |[]=>some []
 |d::ds=>match prZ d,q9 ds with
  |some p,some ps=>some (p::ps)
  |_,_=>none
def aIp(h:prZ d=some p):d= .tup [.str p.1,p.2]:=by
 unfold prZ at h;split at h
 .cases h;rfl
 .cases h
def aAF(h:q9 (d::ds)=some ps):∃p qs,d= .tup [.str p.1,p.2]/\q9 ds=some qs/\ps=p::qs:=by
 unfold q9 at h;split at h
 .rename_i p qs h1 h2
  cases h;exact⟨p,qs,aIp h1,h2,rfl⟩
 .cases h
def foldZ(acc qs:List (Str×D)):List (Str×D):=qs.foldl (λ ps q=>aDj ps q.1 q.2) acc
def dcZ(fi:En->Rs (List D))(js:kQ)(fg:D->En->Rs En)(ft:En->Rs Bool)(fk fv:En->Rs D):En->Rs D:=λ Y=>(fi (shE Y)).bd λ ds=>
 if ds.length<zAU then(match lcL (stE js (shE Y)) fg ft (pairE fk fv) ds with
  | .ok l=>(match q9 l with
   |some qs=>.ok (lL (foldZ [] qs))
   |none=>.st)
  |_=>.st)else .st
def aPO(tk tv:TE):Addr->L2.St->Hp->(Hp->Prop)->Prop:=λ D Z H Q=>tk Z H λ y H1=>tv Z H1 λ v H2=>∃i kvs,y= .str i/\H2 D=some (.dK kvs)/\kvs.length<zAU/\Q (upd H2 D (.dK (putK kvs (.inr i) v)))
def aPk{X:Cx}{kx vx:Expr}{tk tv:TE}(hk:PE X kx tk)(hv:PE X vx tv):PB X (aAp kx vx) (aPO tk tv):=by
 intro D kX s Z H Q I h;unfold aAp;refine zAC (thn (hk kX s Z H _ I h) λ u s1 ⟨y,H1,I1,r1,q1⟩=>zAC (zB5 (thn (hv kX s1 Z H1 _ I1 q1) λ u2 s2 ⟨v,H2,I2,r2,i,kvs,ey,hD,hl,q⟩=>?_)));subst ey;refine zAC (zEV (zB5 ?_));obtain⟨z,hd,vs,rel,dd⟩:=aQG I2.hok hD;have hz:vs.length<=zAU:=by rw[<-rel.length];exact z
 have hl2:(putK kvs (.inr i) v).length<=zAU:=by have:=yD kvs (.inr i) v;lia
 refine wpAny_dictSet_pairs (knd:=fJ X.prog X.w) (k:=.inr i) (hsz:=hz) (aJa (k:=.inr i) r1) dd λ h' dd' hs=>⟨_,?_,q⟩
 have he:∃q,h'.get? D=some q:=let⟨q,_,_,hq,_⟩:=dd';⟨q,hq⟩
 exact aMW I2 (t':=s2.toks+1) (by rw[hD];exact zDE) hs he (aOh hl2 hd (rel.put (.inr i) r2) dd')
def aAa(acc qs:List (Str×D))(q:Str×D):foldZ acc (qs++[q])=aDj (foldZ acc qs) q.1 q.2:=by unfold foldZ;rw[zEq];rfl
theorem aDl:∀{l m:List D} {ps:List (Str×D)},q9 (l++m)=some ps->∃p1 p2,q9 l=some p1/\q9 m=some p2/\ps=p1++p2
 |[],m,ps,h=>⟨[],ps,rfl,h,rfl⟩
 |d::l,m,ps,h=>by
  obtain⟨p,qs,rfl,h2,rfl⟩:=aAF h;obtain⟨p1,p2,e1,e2,rfl⟩:=aDl h2;exact⟨p::p1,p2,by unfold q9;rw[e1];rfl,e2,rfl⟩
theorem aB5(p:Str×D):∀{l:List D} {ps:List (Str×D)},q9 l=some ps->q9 (l++[.tup [.str p.1,p.2]])=some (ps++[p])
 |[],ps,h=>by cases h;rfl
 |d::l,ps,h=>by
  obtain⟨q,qs,rfl,h2,rfl⟩:=aAF h;rw[zHa];unfold q9;rw[aB5 p h2];rfl
section
variable{K:zAA}{G:Gx}{wi:TI}{fi:En->Rs (List D)}{g:TG}{fg:D->En->Rs En}{tt:TT}{ft:En->Rs Bool}{tk tv:TE}{fk fv:En->Rs D}{js:kQ}
def aNW(hi:aPA K G wi fi)(hg:aPB K {G with E:=λ _ _ _=>False} g fg)(ht:aHq K {G with E:=λ _ _ _=>False} tt ft)(hk:kY K {G with E:=λ _ _ _=>False} (some []) tk fk)(hv:kY K {G with E:=λ _ _ _=>False} (some []) tv fv):
  kY K G (some []) (aPY (λ _=>.dK []) wi (stV js) g tt (aPO tk tv)) (dcZ fi js fg ft fk fv):=by
 intro U Z H Y lab Q R W;refine hi U Z H _ _ _ R.shE (W.bd.imp λ ds _ w J H1 lab1 U1 s1 _ R1 jl=>?_);intro l hl;obtain⟨kK,out,qs,qV,hqs,w⟩:ds.length<zAU/\∃out qs,lcL (stE js (VL.shE Y)) fg ft (pairE fk fv) ds= .ok out/\q9 out=some qs/\QE K (some []) lab H Q (lL (foldZ [] qs)):=by
  by_cases kK:ds.length<zAU
  .rw[if_pos kK]at w
   cases qV:lcL (stE js (VL.shE Y)) fg ft (pairE fk fv) ds with
   |ok out=>
    rw[qV]at w;dsimp only at w;cases hns:q9 out with
    |some ns=>rw[hns]at w;exact⟨kK,out,ns,rfl,hns,w⟩
    |none=>rw[hns]at w;exact zAJ w
   |ex c=>rw[qV]at w;exact zAJ w
   |st=>rw[qV]at w;exact zAJ w
  .rw[if_neg kK]at w
   exact zAJ w
 have R0:RR K {G with E:=λ _ _ _=>False} (U1++U) (VL.shE Y) Z H1 (λ _=>(0,0)):=R1.blk0 rfl;have RB:=R0.block (js:=js) (λ _=>zAk _) hl;have hHl:H l=none:=s1.free hl;have h0l:G.H0 l=none:=R1.old.free hl;refine⟨λ i n H2=>∃(kvs:List (Key×V)) (pre:List D) (qp:List (Str×D)),n=ds.length-i/\i<=ds.length/\H2 l=some (.dK kvs)/\kvs.length<=i/\q9 pre=some qp/\Rps K (λ p=>H p=none/\p≠l) H2 (kvs.map (·.2)) ((foldZ [] qp).map (·.2))/\(kvs.map (·.1)=(foldZ [] qp).map λ p=>(zC1 p.1:Key))/\
  RR K {G with E:=λ _ _ _=>False} (U1++U) (stE js (VL.shE Y)) (stV js Z) H2 (λ p=>if p=l then(2,0)else(0,0))/\aX H H2/\
  ∃post,lcL (stE js (VL.shE Y)) fg ft (pairE fk fv) (ds.drop i)= .ok post/\out=pre++post,⟨ds.length,[],[],[],by lia,by lia,bN,zAQ _,rfl,.nil,rfl,RB.up (cu hl _),s1.trans (cu hl _),out,qV,rfl⟩,?_⟩
 rintro i n H2 ⟨kvs,pre,qp,rfl,hi,hD,hei,hqp,rv,rk,R2,s2,post,hpost,eout⟩;have jj:=jl _ H2 λ q hq=>R2.tm q (zAr _ hq)
 by_cases hlt:i<ds.length
 .obtain⟨go,yl⟩:=(jj i).2 hlt
  refine .inr ⟨go,λ x H3 hy=>?_⟩;obtain⟨s3,d,ed,rx⟩:=yl x H3 hy;replace R2:=R2.up s3;replace hD:=s3 _ _ hD;replace s2:=s2.trans s3;replace rv:=rv.up s3;have ed2:ds.drop i=d::ds.drop (i+1):=by
   rw[zDg hlt]
   have:=zAB hlt
   rw[ed]at this;cases this;rfl
  rw[ed2]at hpost;obtain⟨Y1,k,e1,e2,e3⟩:=aEF hpost;refine hg (U1++U) x d _ H3 _ _ _ Y1 R2 rx e1 λ Z4 R4=>?_
  refine ht (U1++U) Z4 H3 Y1 _ _ R4 ?_;rw[e2];intro H5 s5;rcases e3 with ⟨rfl,y,ys,e3,e4,rfl⟩|⟨rfl,e4⟩
  .rw[if_pos rfl]
   obtain⟨kd,vd,e5,e6,rfl⟩:=aJE e3;obtain⟨p,k3,q3,q4⟩:∃(p:Str×D) (k3:List (Str×D)),D.tup [kd,vd]= .tup [.str p.1,p.2]/\q9 ys=some k3:=by
    rw[eout]at hqs;obtain⟨p1,p2,_,q2,_⟩:=aDl hqs;obtain⟨p,k3,a1,a2,_⟩:=aAF q2;exact⟨p,k3,a1,a2⟩
   injection q3 with q3
   injection q3 with q5 q6
   injection q6 with q6
   subst q5 q6;refine hk (U1++U) Z4 H5 Y1 _ _ (R4.up s5) ?_;rw[e5];intro v H6 s6 r6;refine hv (U1++U) Z4 H6 Y1 _ _ ((R4.up s5).up s6) ?_;rw[e6];intro v2 H7 s7 r7;have ey:=r6.str_inv;subst ey;have hD7:H7 l=some (.dK kvs):=((s5.trans s6).trans s7) _ _ hD;have B:oA l H7 (upd H7 l (.dK (putK kvs (.inr p.1) v2))):=λ b o ne hb=>by rw[aj ne];exact hb
   obtain⟨z1,z2⟩:=aNd (i:=p.1) (A:=λ q=>H q=none/\q≠l) (rv.up ((s5.trans s6).trans s7)) rk (r7.wk λ q o _ z=>by
    rcases z with z|z
    .exact⟨((s2.trans s5).trans s6).free z,λ e=>by subst e;rw[(s5.trans s6) _ _ hD]at z;cases z⟩
    .cases z)
   refine⟨p.1,kvs,rfl,hD7,by lia,ds.length-(i+1),by lia,putK kvs (.inr p.1) v2,pre++[.tup [.str p.1,p.2]],qp++[p],rfl,hlt,bN,by have:=yD kvs (.inr p.1) v2;lia,aB5 p hqp,?_,?_,(R2.up ((s5.trans s6).trans s7)).but_blk B hD7 rfl h0l,?_,ys,e4,by rw[eout];simp⟩
   .rw[aAa]
    exact z1.but B hD7 rfl λ z=>z.2 rfl
   .rw[aAa]
    exact z2
   .exact λ b o hb=>B b o (λ z=>by subst z;rw[hHl]at hb;cases hb) ((((s2.trans s5).trans s6).trans s7) b o hb)
  .rw[if_neg zAM]
   exact⟨ds.length-(i+1),by lia,kvs,pre,qp,rfl,hlt,s5 _ _ hD,by lia,hqp,rv.up s5,rk,R2.up s5,s2.trans s5,post,e4,eout⟩
 .have ei:i=ds.length:=by lia
  subst ei;rw[zFE]at hpost;cases hpost;rw[zAw]at eout;subst eout;rw[hqs]at hqp;cases hqp;exact .inl ⟨(jj _).1 (zAQ _),w _ H2 s2 (aMV hD (.inl hHl) (rv.wk λ p o _ z=>⟨.inl z.1,z.2⟩) rk)⟩
end
section
variable{C:Ct}{pos:Pos}{kx vx tg iter:Expr}{ifs:List Expr}{sc:Scope}{N:List Str}{js:kQ}{ks:List Nat}{fi:En->Rs (List D)}{fg:D->En->Rs En}{ft:En->Rs Bool}{fk fv:En->Rs D}
def aP6(hi:SI C tg iter fi)(hg:SG (C.blk sc N) tg ks fg)(ht:aK2 (C.blk sc N) ifs ft)(hk:SE (C.blk sc N) (some []) kx fk)(hv:SE (C.blk sc N) (some []) vx fv)(hs:∀i x,zBs iter (C.X i).env x=pure x:=by intro _ _;rfl)(hB:∀i,iQ (C.X i) sc N (stV js) ks:=by intro _;exact aFn rfl rfl rfl rfl rfl rfl):SE C (some []) (.DictComp kx vx [⟨tg,iter,ifs,0⟩] sc pos) (dcZ fi js fg ft fk fv):=by
 obtain⟨wi,i1,i2⟩:=hi;obtain⟨g,g1,g2,g3,g4⟩:=hg;obtain⟨tt,t1,t2⟩:=ht;obtain⟨tk,k1,k2⟩:=hk;obtain⟨tv,v1,v2⟩:=hv;exact⟨_,λ i=>aPj (pos:=pos) (hB i) (C.calm i) (i1 i) (λ c fp z5 z0=>g1 (i,c,fp,z5,z0)) g3 (λ c fp z5 z0=>t1 (i,c,fp,z5,z0)) (aGu kx vx tg iter ifs sc pos) (aEo kx vx tg iter ifs sc pos) aOx (λ c fp z5 z0=>aPk (X:=(C.X i).block sc c N fp z5 z0) (k1 (i,c,fp,z5,z0)) (v1 (i,c,fp,z5,z0))) rfl rfl (hs i),aNW i2 g2 t2 k2 v2⟩
end
def yr(fd fk:En->Rs D):En->Rs D:=λ Y=>(fd Y).bd λ d=>match d with
 | .dct ks vs=>(match aFJ ks vs with
  |some ps=>(fk Y).bd λ k=>(match k with
   | .str i=>.ok ((ps.lookup i).getD .non)
   |_=>.st)
  |none=>.st)
 |_=>.st
structure M1(X:Cx)(o:Expr)(m:Str)(apos:Pos)(e:Expr)(cpos:Pos):Prop where
 base:zCl o m X.env (eval o X.env)=eval o X.env
 few:((zBw cpos (zAV [e] X.env)).all (λ x=>!x.1)&&(zDy cpos (zCd [] X.env)).all (λ x=>x.1.isSome)
  &&decide (([e]:List Expr).length+([]:List zBv).length+(if ([]:List zBv).isEmpty then 0 else 1)<30))=true
 line:(apos.endLine==cpos.line)=true
 trees:zBw cpos (zAV [e] X.env)=[(false,eval e X.env)]
def aIF(td ty:TE):TE:=λ Z H Q=>td Z H λ x H1=>∃a,x= .ref a/\IsD H1 a/\ty Z H1 λ y H2=>∃kvs k,y=kV k/\Rd H2 a (.dK kvs)/\Q ((aCJ kvs k).getD .non) H2
def aJA{X:Cx}{o e:Expr}{apos cpos:Pos}{td ty:TE}(ho:PE X o td)(he:PE X e ty)(m:M1 X o "get" apos e cpos):PE X (.Call (.Attribute o "get" apos) [e] [] cpos) (aIF td ty):=by
 intro kX s Z H Q I h;refine wpAny_Call_method m.base m.few m.line PySem.F.plainAttrs_dict zFj PySem.F.type_dict_get (thn (ho kX s Z H _ I h) λ u s1 ⟨x,H1,I1,rx,a,ex,d,q1⟩=>?_);subst ex;obtain rfl:u=zBF a:=rx;obtain⟨t1,t2,_⟩:=aO6 I1 d;refine⟨t1,t2,?_⟩;rw[m.trees];refine zFx rfl (zER (zGj (thn (he kX s1 Z H1 _ I1 q1) λ iv s2 ⟨y,H2,I2,ry,kvs,k,ey,g,q2⟩=>zGu ?_)));subst ey;obtain⟨z,hd,vs,rel,dd⟩:=aKJ I2.hok g;refine call_meetsIn zFj dd.typeIs PySem.F.entry_dict_get (PySem.F.args_dict_get_2 _ _) (meets_dict_get (fJ X.prog X.w) a (aJa ry) hd) ⟨_,dd.mapOf,⟨_,H2,I2.tok _,(rel.val k).getD (d:=.non) rfl,q2⟩⟩
section
variable{C:Ct}{m1 m2:Mode}{a b:Expr}{fa fb:En->Rs D}{apos cpos:Pos}
def aN3(ha:SE C m1 a fa)(hb:SE C m2 b fb)(hm:∀j,M1 (C.X j) a "get" apos b cpos:=by intro _;exact⟨rfl,rfl,rfl,rfl⟩):SE C m1 (.Call (.Attribute a "get" apos) [b] [] cpos) (yr fa fb):=by
 obtain⟨t,h1,h2⟩:=ha;obtain⟨u,k1,k2⟩:=hb;refine⟨aIF t u,λ i=>aJA (h1 i) (k1 i) (hm i),λ U Z H Y lab Q R W=>?_⟩;refine h2 U Z H Y lab _ R (W.bd.imp λ d _ w x H1 s1 r1=>?_);cases d with
 |dct ks vs=>
  dsimp only at w;cases hp:aFJ ks vs with
  |none=>rw[hp]at w;exact zAJ w
  |some ps=>
   rw[hp]at w;dsimp only at w;obtain⟨a,kvs,rfl,g1,m,r,hk⟩:=r1.dctS_inv hp;refine⟨a,rfl,.inl ⟨_,.inl g1⟩,?_⟩;refine k2 U Z H1 Y lab _ (R.up s1) (w.bd.imp λ e _ w y H2 s2 r2=>?_);cases e with
   |str i=>
    dsimp only at w;have ey:=r2.str_inv;subst ey;have g3:H2 a=some (.dK kvs):=s2 _ _ g1;refine⟨kvs,.inr i,rfl,.inl g3,?_⟩;rcases aIA (r.up s2) hk i with ⟨d,v,e1,e2,e3⟩|⟨e1,e2⟩
    .rw[e1]at w
     rw[e2];exact w v H2 (s1.trans s2) (e3.wk λ p o _ q=>q.1)
    .rw[e1]at w
     rw[e2];exact w .non H2 (s1.trans s2) .non
   |_=>exact zAJ w
 |_=>exact zAJ w
end
def Rps.erase{K:zAA}{A:Addr->Prop}{H:Hp}{xs:List V}{ds:List D}(r:Rps K A H xs ds)(k:Nat):Rps K A H (xs.eraseIdx k) (ds.eraseIdx k):=by
 rw[zEp,zEp];exact(r.take _).append (r.drop _)
def popS(i:Nat)(fk:En->Rs D):En->Ou:=λ Y=>match Y[i]? with
 |some (.ow (.lst ds))=>(fk Y).bo λ k=>match putN ds k with
  |some j=>if ds.length<2^62 then .nx (Y.set i (.ow (.lst (ds.eraseIdx j))))else .st
  |none=>.st
 |_=>.st
section
variable{C:Ct}{pos apos cpos tpos tpos2 p p2:Pos}{e ek ek2:Expr}{fe fk fk2:En->Rs D}{x:Str}{m m1 m2:Mode}
def aIM(i:Nat)(hk:SE C m1 ek fk)(hN:∀j,(C.X j).N[i]? =some x:=by intro _;rfl)(hv:∀j,Vis (C.X j).env.scope x:=by intro _;first|exact zC7 rfl|exact zBj (zC7 rfl)|exact zBj (zBj rfl))(hd:Nd x:=by decide)
  (hcd:(x==("__classdict__":Str))=false:=by decide)(hs1:∀j,zAV [ek] (C.X j).env=[(false,eval ek (C.X j).env)]:=by intro _;rfl)
  (hbase:∀j,zCl (.Name x p) "pop" (C.X j).env (eval (.Name x p) (C.X j).env)=eval (.Name x p) (C.X j).env:=by intro _;rfl)
  (hfew:∀j,((zBw cpos (zAV [ek] (C.X j).env)).all (λ x=>!x.1)&&(zDy cpos (zCd [] (C.X j).env)).all (λ x=>x.1.isSome)&&decide ([ek].length+([]:List zBv).length+(if ([]:List zBv).isEmpty then 0 else 1)<30))=true:=by intro _;rfl)
  (hline:(apos.endLine==cpos.line)=true:=by rfl)
  (hsw:∀j,zD2 (.Call (.Attribute (.Name x p) "pop" apos) [ek] [] cpos) none pos.line (C.X j).env=pure false:=by intro _;rfl):
  SS C (.Expr (.Call (.Attribute (.Name x p) "pop" apos) [ek] [] cpos) pos) (popS i fk):=by
 obtain⟨tk,k1,k2⟩:=hk;refine⟨aBX (tBM C.K "list" aI8 (pB i) (kE tk uw)),λ j=>vH (by rw[<-C.hK j];exact xq zBf zGx PySem.F.type_list_pop aJS (ie (hN j) (hv j) hd hcd) (az (k1 j) fH (hs1 j)) (hbase j) (hfew j) hline (hs1 j) rfl) (hsw j),λ U Z H Y lab De R W=>?_⟩;unfold popS at W;cases es:Y[i]? with
 |none=>rw[es]at W;exact zAJ W
 |some s=>
  rw[es]at W;split at W
  .rename_i ds hs
   cases hs;rcases R.sl i _ es with z|⟨v,ev,hv'⟩
   .cases z
   .obtain⟨hv1,htop⟩:=hv'
    obtain⟨a0,ea0,la0⟩:=htop rfl;subst ea0;cases hv1 with
    |lst h mm r=>
     rename_i xs;refine⟨.ref a0,ev,.inl ⟨rfl,xs,SqL.of h⟩,k2 U Z H Y lab _ R (W.bo.imp λ k _ w kv H3 s3 r3=>?_)⟩;cases hj:putN ds k with
     |none=>rw[hj]at w;exact zAJ w
     |some j=>
      rw[hj]at w;dsimp only at w;obtain⟨n,rfl,hj⟩:=wY hj;have ey:=r3.int_inv;subst ey;have h3:H3 a0=some (.lst xs):=s3 _ _ h;by_cases hz:ds.length<2^62
      .rw[if_pos hz]at w
       obtain⟨q1,q2,q3,q4⟩:=aCk hj;have hl:=r.length;have hjl:j<xs.length:=by lia
       refine⟨a0,xs,n,j,xs[j],rfl,rfl,h3,by lia,by lia,by rw[hl];exact q1,zAB hjl,?_⟩;have B:oA a0 H3 (upd H3 a0 (.lst (xs.eraseIdx j))):=λ b' o ne hb=>by rw[aj ne];exact hb
       refine w Z _ _ ((R.up s3).mut ev h3 rfl la0 B ⟨.lst bN (.inr la0) ?_,λ _=>⟨a0,rfl,la0⟩⟩);exact((r.mono s3 λ p o e z=>z).erase j).but B h3 rfl λ z=>z.2 rfl
      .rw[if_neg hz]at w
       exact zAJ w
  .exact zAJ W
def aGN{K:zAA}{G:Gx}{Z:L2.St}{H:Hp}{Y:En}{lab:Lab}{i j:Nat}{ds:List D}{y:V}{d k:D}{tk:TE}{Q:L2.St->Hp->Prop}(R:RR K G U Y Z H lab)(es:Y[i]? =some (.ow (.lst ds)))(ry:Rp K (λ p=>(lab p).1=1) H y d)(k2:kY K G m1 tk fk)(hk:fk Y= .ok k)(hj:putN ds k=some j)
  (q:∀H',RR K G U (Y.set i (.ow (.lst (ds.set j d)))) Z H' lab->(∀y' d',Rp K (λ p=>(lab p).1=1) H y' d'->Rp K (λ p=>(lab p).1=1) H' y' d')->Q Z H'):aJz (pB i) tk aDh y Z H Q:=by
 rcases R.sl i _ es with z|⟨v,ev,hv'⟩
 .cases z
 .obtain⟨hv1,htop⟩:=hv'
  obtain⟨a0,ea0,la0⟩:=htop rfl;subst ea0;cases hv1 with
  |lst h mm r=>
   rename_i xs;refine⟨.ref a0,ev,k2 U Z H Y lab _ R ?_⟩;rw[hk];intro kv H3 s3 r3;obtain⟨n,rfl,hj⟩:=wY hj;have ey:=r3.int_inv;subst ey;have h3:H3 a0=some (.lst xs):=s3 _ _ h;refine⟨a0,xs,n,j,rfl,rfl,h3,by rw[r.length];exact hj,?_⟩;have B:oA a0 H3 (upd H3 a0 (.lst (xs.set j y))):=λ b' o ne hb=>by rw[aj ne];exact hb
   have no:∀p,(lab p).1=1->p≠a0:=λ p z e=>by subst e;rw[la0]at z;lia
   refine q _ ((R.up s3).mut ev h3 rfl la0 B ⟨.lst bN (.inr la0) ?_,λ _=>⟨a0,rfl,la0⟩⟩) λ y' d' r'=>?_
   .have ra:Rps K (λ p=>((lab p).1=1\/(lab p).1=i+2)/\p≠a0) H3 (xs.set j y) (ds.set j d):=Rps.set ((ry.up s3).wk λ p o e z=>⟨.inl z,no p z⟩) j (r.mono s3 λ p o e z=>z)
    exact ra.but B h3 rfl λ z=>z.2 rfl
   .have rb:Rp K (λ p=>(lab p).1=1/\p≠a0) H3 y' d':=(r'.up s3).wk λ p o e z=>⟨z,no p z⟩
    exact(rb.but B h3 rfl λ z=>z.2 rfl).wk λ p o e z=>z.1
def aKi(i:Nat)(fe fk fk2:En->Rs D):En->Ou:=λ Y=>match Y[i]? with
 |some (.ow (.lst ds))=>(fe Y).bo λ d=>match d with
  | .tup [d1,d2]=>match fk Y with
   | .ok k=>match putN ds k with
    |some j=>match fk2 (Y.set i (.ow (.lst (ds.set j d1))))with
     | .ok k'=>match putN (ds.set j d1) k' with
      |some j'=>.nx ((Y.set i (.ow (.lst (ds.set j d1)))).set i (.ow (.lst ((ds.set j d1).set j' d2))))
      |none=>.st
     |_=>.st
    |none=>.st
   |_=>.st
  |_=>.st
 |_=>.st
def aNU{kt:Nat}(i:Nat)(he:SE C m e fe)(hk:SE C m1 ek fk)(hk2:SE C m2 ek2 fk2)(hm:okN m=true:=by rfl)(hN:∀j,(C.X j).N[i]? =some x:=by intro _;rfl)(hv:∀j,Vis (C.X j).env.scope x:=by intro _;first|exact zC7 rfl|exact zBj (zC7 rfl)|exact zBj (zBj rfl))(hd:Nd x:=by decide)
  (hcd:(x==("__classdict__":Str))=false:=by decide)(ha:∀j v,zD0 (.Subscript (.Name x p) ek tpos) (C.X j).env v=(do
   let ov <-zCE [v] (eval (.Name x p) (C.X j).env);let iv <-zCE [v,ov] (eval ek (C.X j).env)
   zE9 tpos
   zCE [v,ov,iv] (zIH ov iv v)
   release [v,ov,iv] []):=by intro _ _;rfl)(ha2:∀j v,zD0 (.Subscript (.Name x p2) ek2 tpos2) (C.X j).env v=(do
   let ov <-zCE [v] (eval (.Name x p2) (C.X j).env);let iv <-zCE [v,ov] (eval ek2 (C.X j).env)
   zE9 tpos2
   zCE [v,ov,iv] (zIH ov iv v)
   release [v,ov,iv] []):=by intro _ _;rfl)
  (hn:∀j,(zB6 [.Subscript (.Name x p) ek tpos,.Subscript (.Name x p2) ek2 tpos2] (C.X j).env).length=2:=by intro _;rfl)(hst:∀j,(zB6 [.Subscript (.Name x p) ek tpos,.Subscript (.Name x p2) ek2 tpos2] (C.X j).env).findIdx? (·.1)=none:=by intro _;rfl)
  (hc1:∀j,(zB6 [.Subscript (.Name x p) ek tpos,.Subscript (.Name x p2) ek2 tpos2] (C.X j).env).map (·.2)=zD0 (.Subscript (.Name x p) ek tpos) (C.X j).env::(zB6 [.Subscript (.Name x p2) ek2 tpos2] (C.X j).env).map (·.2):=by intro _;rfl)
  (hc2:∀j,(zB6 [.Subscript (.Name x p2) ek2 tpos2] (C.X j).env).map (·.2)=zD0 (.Subscript (.Name x p2) ek2 tpos2) (C.X j).env::(zB6 [] (C.X j).env).map (·.2):=by intro _;rfl)
  (hs:∀j,zHL [.Tuple [.Subscript (.Name x p) ek tpos,.Subscript (.Name x p2) ek2 tpos2] kt cpos] e pos.line (C.X j).env=pure false:=by intro _;rfl)(hw:∀j,zHK [.Tuple [.Subscript (.Name x p) ek tpos,.Subscript (.Name x p2) ek2 tpos2] kt cpos] e (C.X j).env=pure none:=by intro _;rfl)
  (h1:∀j,(zB6 [.Tuple [.Subscript (.Name x p) ek tpos,.Subscript (.Name x p2) ek2 tpos2] kt cpos] (C.X j).env).map (·.2)=[zD0 (.Tuple [.Subscript (.Name x p) ek tpos,.Subscript (.Name x p2) ek2 tpos2] kt cpos) (C.X j).env]:=by intro _;rfl):
  SS C (.Assign [.Tuple [.Subscript (.Name x p) ek tpos,.Subscript (.Name x p2) ek2 tpos2] kt cpos] e pos) (aKi i fe fk fk2):=by
 obtain⟨tk,k1,k2⟩:=hk;obtain⟨tk2,l1,l2⟩:=hk2;obtain⟨te,e1,e2⟩:=he;refine⟨aCL te (aJy C.K 2 (aER (aJz (pB i) tk aDh) (aER (aJz (pB i) tk2 aDh) aML))),λ j=>aIn (e1 j) (by rw[<-C.hK j];exact aIu (C.calm j) (aAI (aFM (ie (hN j) (hv j) hd hcd) (k1 j) set_list (ha j)) (aAI (aFM (ie (hN j) (hv j) hd hcd) (l1 j) set_list (ha2 j)) aGR (hc2 j)) (hc1 j)) (hn j) (hst j)) (hs j) (hw j) (h1 j),λ U Z H Y lab De R W=>?_⟩;unfold aKi at W;cases es:Y[i]? with
 |none=>rw[es]at W;exact zAJ W
 |some s=>
  rw[es]at W;split at W
  .rename_i ds hs
   cases hs;refine e2 U Z H Y lab _ R (W.bo.imp λ d _ w y H2 s2 r2=>?_);split at w
   .rename_i d1 d2 _
    obtain⟨R',r'⟩:=R.fresh (P:=λ k=>k=1) rfl (λ k hk=>beq_iff_eq.mp (pW hm k hk)) s2 r2;cases r' with
    |tup ht rs=>
     cases rs with
     |cons ra rs=>
      cases rs with
      |cons rb rs=>
       cases rs;cases hf:fk Y with
       |ex c=>rw[hf]at w;exact zAJ w
       |st=>rw[hf]at w;exact zAJ w
       |ok k=>
        rw[hf]at w;dsimp only at w;cases hj:putN ds k with
        |none=>rw[hj]at w;exact zAJ w
        |some j=>
         rw[hj]at w;dsimp only at w;cases hf2:fk2 (Y.set i (.ow (.lst (ds.set j d1))))with
         |ex c=>rw[hf2]at w;exact zAJ w
         |st=>rw[hf2]at w;exact zAJ w
         |ok k'=>
          rw[hf2]at w;dsimp only at w;cases hj2:putN (ds.set j d1) k' with
          |none=>rw[hj2]at w;exact zAJ w
          |some j'=>
           rw[hj2]at w;have hi:i<Y.length:=(zAK.mp es).1;refine⟨_,_,rfl,ht,rfl,_,_,rfl,aGN R' es ra k2 hf hj λ H' R1 kp=>⟨_,_,rfl,aGN R1 (by rw[zBo hi]) (kp _ _ rb) l2 hf2 hj2 λ H'' R2 _=>⟨rfl,w Z H'' _ R2⟩⟩⟩
   .exact zAJ w
  .exact zAJ W
end
theorem aBY:∀{ns:List Str} {us:List Value},Vals (ns.map V.str) us->∃ts:List (Str×Tok),us=ts.map (λ q=>zEH q.1 q.2)/\ts.map zGF=ns
 |[],_,.nil=>⟨[],rfl,rfl⟩
 |n::ns,_,.cons r t=>by
  obtain⟨tk,e⟩:∃tk,_=zEH n tk:=r
  obtain⟨ts,e1,e2⟩:=aBY t;exact⟨(n,tk)::ts,by rw[e,e1];rfl,by rw[<-e2];rfl⟩
def yj(i:Str):List Str->Option Nat
 |[]=>none
 |a::l=>if a=i then some 0 else(yj i l).map (·+1)
theorem xK{i:Str}:∀{l:List Str} {j:Nat},yj i l=some j->(l.map λ a=>a==i)[j]? =some true/\∀m,m<j->(l.map λ a=>a==i)[m]? =some false
 |a::l,j,h=>by
  unfold yj at h;split at h
  .rename_i e
   cases h;exact⟨by simp[e],λ m hm=>absurd hm (zIB _)⟩
  .rename_i e
   obtain⟨k,h1,rfl⟩:=zDw.mp h;obtain⟨h2,h3⟩:=xK h1;refine⟨h2,λ m hm=>?_⟩;cases m with
   |zero=>simp[e]
   |succ m=>exact h3 m (by lia)
def aFe(l:List D):D->Rs D
 | .str i=>match strsOf l with
  |some is=>(match yj i is with
   |some j=>.ok (.int (j:Nat))
   |none=>.st)
  |none=>.st
 |_=>.st
def aJX{K:zAA}(r:Rp K A H x (.lst l))(h:strsOf l=some is):∃a,x= .ref a/\H a=some (.lst (is.map V.str)):=by
 rw[mq h]at r;obtain⟨a,xs,rfl,h1,_,r1⟩:=r.lst_inv;have e:=r1.strs_inv;subst e;exact⟨a,rfl,h1⟩
def aGM:V->List V->Hp->VK->Prop:=λ x xs H Q=>∃(a:Addr) (i:Str) (is:List Str) (j:Nat),x= .ref a/\xs=[.str i]/\H a=some (.lst (is.map V.str))/\(is.map λ e=>e==i)[j]? =some true/\(∀m,m<j->(is.map λ e=>e==i)[m]? =some false)/\Q (.int (j:Nat)) H
def eqW(i:Str):Value->Bool
 | .str n _=>n==i
 |_=>false
def aHT{X:Cx}:MtR X "list.index" aGM:=by
 intro kX s Z H x xs v us Q I rx rxs h;obtain⟨a,i,is,j,rfl,rfl,ha,e1,e2,q⟩:=h;cases rx;obtain⟨u,rfl,ru⟩:=vals1 rxs;obtain⟨t,rfl⟩:=ru;obtain⟨its,rv,pl,hz⟩:=I.list (SqL.of ha);obtain⟨ts,rfl,hts⟩:=aBY rv;subst hts;obtain⟨⟨cls,dd,data,sl⟩,ho,hc,n,hdd⟩:=id pl.isList;simp only at hc hdd;subst hc hdd;have em:(ts.map zGF).map (λ e=>e==i)=ts.map λ q=>q.1==i:=by rw[zAl];rfl
 rw[em]at e1 e2;have hj:j<ts.length:=by
  have:=(zAK.mp e1).1
  simpa using this
 have kK:ts.length<=zAU:=by simpa using hz
 have hz':zAU<2^62:=by decide
 refine zCm zCn ⟨_,ho,rfl⟩ zFU (zFM _ _) (zGp a _ n dd sl (.str i t) (eqW i) j (by simpa using hj) (by omega) ?_ λ m hm hmj=>?_)
  ⟨ho,λ w hw=>?_,⟨.int _,H,I.tok _,⟨_,rfl⟩,q⟩⟩
 .rw[zAR,zAB hj]at e1
  simpa[eqW]using e1
 .have h2:=e2 m hmj
  have hm':m<ts.length:=by simpa using hm
  rw[zAR,zAB hm']at h2;simpa[eqW]using h2
 .have hw':w∈ts.map λ q=>zEH q.1 q.2:=by simpa using hw
  obtain⟨q,_,rfl⟩:=zAY.mp hw';exact zFp q.1 q.2 i t
section
variable{C:Ct}{m m1:Mode}{o e:Expr}{fo fe:En->Rs D}{apos cpos:Pos}
def aKw(ho:SE C m o fo)(he:SE C m1 e fe)(hs1:∀j,zAV [e] (C.X j).env=[(false,eval e (C.X j).env)]:=by intro _;rfl)(hbase:∀j,zCl o "index" (C.X j).env (eval o (C.X j).env)=eval o (C.X j).env:=by intro _;rfl)
  (hfew:∀j,((zBw cpos (zAV [e] (C.X j).env)).all (λ x=>!x.1)&&(zDy cpos (zCd [] (C.X j).env)).all (λ x=>x.1.isSome)&&decide ([e].length+([]:List zBv).length+(if ([]:List zBv).isEmpty then 0 else 1)<30))=true:=by intro _;rfl)
  (hline:(apos.endLine==cpos.line)=true:=by rfl):SE C (some []) (.Call (.Attribute o "index" apos) [e] [] cpos) (opL aFe fo fe):=by
 obtain⟨t,h1,h2⟩:=ho;obtain⟨u,k1,k2⟩:=he;refine⟨tBM C.K "list" aGM t (kE u uw),λ j=>by rw[<-C.hK j];exact xq zBf zCn zF2 aHT (h1 j) (az (k1 j) fH (hs1 j)) (hbase j) (hfew j) hline (hs1 j) rfl,λ U Z H Y lab Q R W=>?_⟩;refine h2 U Z H Y lab _ R (W.bd.imp λ d _ w x H1 s1 r1=>?_);cases d with
 |lst l=>
  obtain⟨a,xs,rfl,ha,_⟩:=r1.lst_inv;replace w:WR C.G ((fe Y).bd λ e=>okD (aFe l e)) (QE C.K (some []) lab H Q):=w;refine⟨.inl ⟨rfl,xs,SqL.of ha⟩,k2 U Z H1 Y lab _ (R.up s1) (w.bd.imp λ e _ w y H2 s2 r2=>?_)⟩;obtain⟨z,ez,wz⟩:=w.okD;cases e with
  |str i=>
   unfold aFe at ez;dsimp only at ez;cases hi:strsOf l with
   |none=>rw[hi]at ez;cases ez
   |some is=>
    rw[hi]at ez;dsimp only at ez;have ey:=r2.str_inv;subst ey;obtain⟨a',ea,hl⟩:=aJX (r1.up s2) hi;cases ea;cases hj:yj i is with
    |none=>rw[hj]at ez;cases ez
    |some j=>
     rw[hj]at ez;cases ez;obtain⟨q1,q2⟩:=xK hj;exact⟨a,i,is,j,rfl,rfl,hl,q1,q2,wz _ H2 (s1.trans s2) (.int _)⟩
  |_=>cases ez
 |_=>exact zAJ w
end
def yg:List D->Rs D
 |[.str z]=>if z.length<=zAU then .ok (.int z.length)else .st
 |_=>.st
def aOk{K:zAA}:wM K (λ xs H Q=>∃z,xs=[.str z]/\z.length<=zAU/\Q (.int z.length) H) yg:=by
 intro A xs ds H Q z r ez q;unfold yg at ez;split at ez
 .split at ez
  .rename_i hz
   cases ez;obtain⟨_,rfl,h0⟩:=r.one_inv;have e:=h0.str_inv;subst e;exact⟨_,rfl,hz,q _ H (aX.refl H) (.int _)⟩
  .cases ez
 .cases ez
def aMC:∀x z,yg x= .ok z->imm z=true:=by
 intro x z e;unfold yg at e;split at e
 .split at e<;>first|(cases e;rfl)|cases e
 .cases e
def aEL:D->D->Rs D
 | .str z,.int i=>if z.length<=zAU then(match atI z.cps.toList i with
  |some c=>.ok (.str ⟨#[c]⟩)
  |none=>.st)else .st
 |_,_=>.st
def aNw{K:zAA}:OpS K aNa aEL:=by
 intro A x y d e H Q z rx ry ez q;unfold aEL at ez;split at ez
 .split at ez
  .rename_i hz
   split at ez
   .rename_i c hc
    cases ez;have e1:=rx.str_inv;subst e1;have e2:=ry.int_inv;subst e2;exact⟨_,_,c,rfl,rfl,hz,hc,q _ H (aX.refl H) (.str _)⟩
   .cases ez
  .cases ez
 .cases ez
section
variable{C:Ct}{m m1 m2:Mode}{a b:Expr}{fa fb:En->Rs D}{ga:En->Rs (List D)}{pos p:Pos}
def aN0(hm:C.mg "len"=none)(ha:SA C m [a] ga)(he:∀i,zAV [a] (C.X i).env=[(false,eval a (C.X i).env)]:=by intro _;rfl)(hg:∀i,Gl (C.X i) "len":=by intro _;rfl):SE C (some []) (.Call (.Name "len" p) [a] [] pos) (opA yg ga):=
 iC (qm (λ i=>aCz) aOk hg hm zHx ha (by decide) (by decide) he) λ _ _ h=>sV aMC h
def aN1(ha:SE C m1 a fa)(hb:SE C m2 b fb)(hp:zV b:=by exact λ _ _=>rfl):SE C (some []) (.Subscript a b pos) (op2 aEL fa fb):=
 iC (aP5 (λ i=>aJd) aNw ha hb hp) λ _ _ h=>lJ (λ _ _ _ h=>by
  unfold aEL at h;split at h
  .split at h
   .split at h<;>first|(cases h;rfl)|cases h
   .cases h
  .cases h) h
end
end VL
namespace L2
open PySem PySem.Spec PyProof.Rows
section
variable{X:Cx}{kX:hZ}{Z:St}{H:Hp}{s:zAD}
def aM2{scope:Scope}(I:Inv X kX Z H s)(hfn:∀x,X.fn x=true)(S:aAu scope)(hfree:∀y∈scope.names,y.2= .free->X.env.kindOf y.1=some .cell\/X.env.kindOf y.1=some .free):aK9 (bse X s H) X.N Z scope (au scope X.env):=by
 have cb:∀x c v,X.env.cells.lookup x=some c->s.heap.IsCell c v->(bse X s H).IsCell c v:=λ x c v e ⟨o,h1,h2⟩=>⟨o,aGo h1 (I.freeC x c e) λ hb=>by
  rcases zAO.mp (I.stkSub c hb)with z|z
  .exact I.cne x c e z
  .have z2:c∈frs X.outer:=z
   obtain⟨_,ob,hob,_⟩:=I.ok.funs.mem z2;have q1:=zAW hob;have q2:=I.ok.cab x c (hfn x) e;lia,h2⟩
 have hk:∀x,scope.names.lookup x=some .free->X.env.kindOf x=some .cell\/X.env.kindOf x=some .free:=λ x hx=>hfree (x,.free) (zAj hx) rfl
 refine⟨λ x y c e1 e2=>I.ok.inj x y c (jC e1) (jC e2),λ x hx=>?_,λ x c e=>?_,λ i x v e1 e2 hx=>?_,I.len⟩
 .obtain⟨c,hc⟩:=I.ok.has x (hk x hx)
  exact⟨c,vp hx hc⟩
 .obtain⟨v,z⟩:=I.cell x c (jC e)
  exact⟨v,cb x c v (jC e) z⟩
 .obtain⟨m,hn,hl⟩:=I.loc
  obtain⟨u,ru,hu⟩:=hl i x v e1 e2 ((hk x hx).elim (λ z=>.inr (.inl z)) λ z=>.inr (.inr z));rcases hu with ⟨k,_⟩|⟨_,c,ec,ic⟩
  .rcases hk x hx with z|z
   .exact absurd (k.symm.trans z) (by decide)
   .exact absurd (k.symm.trans z) (by decide)
  .exact⟨c,u,vp hx ec,ru,cb x c _ ec ic⟩
def aPU(P:Addr)(q:Str)(params:zCa)(body:Expr)(scope:Scope)(cl:List (Str×Addr))(pm:Value):TE:=λ Z H Q=>H P=some (.tbl q)/\∀f c' ctv H',aX H H'->aEb q params body scope cl pm H' f c' ctv->Q (.ref f) H'
def aLQ{P:Addr}{q:Str}{params:zCa}{body:Expr}{scope:Scope}{pos:Pos}(Lx:aM9 X P)(hq:X.env.qual++"<lambda>"=q)(hdef:zIa params X.env=([],[]))
  (hfree:∀y∈scope.names,y.2= .free->X.env.kindOf y.1=some .cell\/X.env.kindOf y.1=some .free):PE X (.Lambda params body scope pos) (aPU P q params body scope (au scope X.env) ((X.mg "__name__").getD .none)):=λ kX s Z H Q I h=>by
 subst hq;exact aH2 Lx I h.1 hdef hfree λ f c' ctv H' s' I' sm l=>⟨.ref f,H',I',rfl,h.2 f c' ctv H' sm l⟩
end
end L2
namespace VL
open PySem PySem.Spec PyProof.Rows L2
section
variable{C:Ct}{m:Mode}{x pc told q:Str}{p pos lpos:Pos}{k k0 kb:Nat}{fn Pt:Addr}{fd:zA5}{wd:Addr->Option Str}{wn:Str->Option Str}{params:zCa}{body:Expr}{scope:Scope}{N:List Str}{fe:En->Rs D}
def aKt(hT:C.G.H0 Pt=some (.tbl q))(hLT:∀i,aM9 (C.X i) Pt)(hF:∀base,cB C.prog C.w C.K C.mg base (CX1 C.prog C.w) k fn fd [pc] (spR C.prog C.w C.K C.mg base k0 told wd))(hr:k<=C.k)(hm:C.mg x=some (.ref fn))(hk:zBR C.K (.ref fn)=true)(hb:Binds C.K fd [pc] [])
  (S:aAu scope)(hcl:C.G.cl=au C.mg)(hwn:∀c w,wn c=some w->wd (au C.mg c)=some w)(hkb:kb+1<=k0)
  (hbody:∀base cl f cd A outer s H E hr,SE (ctL C.prog C.w C.K C.mg base N q scope cl f cd A outer s H E kb hr) m body fe)
  (eN:∀i,(C.X i).N=N:=by intro _;rfl)(hfn:∀i x,(C.X i).fn x=true:=by intro _ _;rfl)(hq:∀i,(C.X i).env.qual++"<lambda>"=q:=by intro _;rfl)
  (hbnd:∀cl pm c' ctv,zIQ (zFO "<lambda>" q params body scope cl pm (.ref c') ctv) ⟨[],[]⟩=pure []:=by intro _ _ _ _;rfl)(hdef:∀i,zIa params (C.X i).env=([],[]):=by intro _;rfl)
  (hfree:∀i,∀y∈scope.names,y.2= .free->(C.X i).env.kindOf y.1=some .cell\/(C.X i).env.kindOf y.1=some .free)(hdb:Nd x:=by decide)(hg:∀i,Gl (C.X i) x:=by intro _;rfl):
  SE C (some []) (.Call (.Name x p) [.Lambda params body scope lpos] [] pos) (aHH wn told fe):=by
 refine⟨λ Z H Q=>H Pt=some (.tbl q)/\aPQ C.prog C.w C.K C.mg N q params body scope k0 told wd C.G.E Z H Q,λ i=>?_,λ U Z H Y lab Q R W=>⟨R.old _ _ hT,?_⟩⟩
 .obtain⟨e1,e2,e3,e4,e5⟩:=C.cx i
  intro kX s Z H Q I ⟨hP,h⟩;refine zBk (sJ I (hg i) (by rw[e4];exact hm) ?_ hdb);have ha:PA (C.X i) [.Lambda params body scope lpos] _:=az (aLQ (hLT i) (hq i) (hdef i) (hfree i)) fH;refine zD4 (h₀:=(C.X i).base) I.ok.mod.kin (by rw[e3];exact hk) (thn (ha pos kX s Z H (λ vs H1=>aX H H1/\∃f c' ctv,vs=[.ref f]/\aEb q params body scope (L2.au scope (C.X i).env) (((C.X i).mg "__name__").getD .none) H1 f c' ctv) I
   ⟨hP,λ f c' ctv H' sm l=>⟨sm,f,c',ctv,rfl,l⟩⟩) λ us s1 ⟨vs,H1,I1,r,sm,f,c',ctv,ev,la⟩=>⟨I1.kIn,?_⟩)
  subst ev;have hz:=h (bse (C.X i) s1 H1) (L2.au scope (C.X i).env) f c' ctv _ H1 sm la (by rw[<-eN i];exact aM2 I1 (hfn i) S (hfree i));exact aKz (CX:=CX1 (C.X i).prog (C.X i).w) I1 (by rw[e1,e2,e3,e4];exact hF _) ((C.room i).mono hr) (by rw[e3];exact hb) (C.pass i) r (by rw[e1,e2,e3,e4]at*;exact hz)
 .intro base cl f c' ctv pm H1 sm la cp
  have R1:=R.up sm;have FL:cB C.prog C.w C.K C.mg base (CX1 C.prog C.w) (kb+1) f (zFO "<lambda>" q params body scope cl pm (.ref c') ctv) [] (aP1 (au C.mg) H1 (fe (Y.map shS))):=by
   refine aOV la S cp (λ vs H Q E h=>⟨h.1,h.2.1⟩) λ A outer s H2 Q2 E2 hr2 hsp=>?_
   obtain⟨t,h1,h2⟩:=hbody base cl f (.ref c') A outer s H2 E2 hr2;exact⟨t,h1 (),h2 [] Z H2 _ _ Q2 (R1.up hsp.2.1).shut (hsp.2.2.imp λ d _ z v H' s' _=>z v H' s')⟩
  refine⟨f,_,_,_,_,kb+1,_,rfl,la.1,FL,hkb,λ s us _ hl=>?_,rfl,aX.refl H1,?_⟩
  .have e:us=[]:=by
    rw[zAw]at hl;exact zGB.mp hl
   subst e;exact .of_eq (hbnd cl pm c' ctv)
  .unfold aHH at W
   cases he:fe (Y.map shS)with
   |ok d=>rw[he]at W;exact λ v H' s'=>W (.str told) H' (sm.trans s') (.str told)
   |ex c=>
    rw[he]at W;cases hw:wn c with
    |none=>simp only[hw]at W;exact W.elim
    |some w=>
     simp only[hw]at W;exact λ H' s'=>⟨_,w,rfl,hwn c w hw,λ H'' s''=>W (.str w) H'' (sm.trans (s'.trans s'')) (.str w)⟩
   |st=>rw[he]at W;exact W.elim
end
section
variable{Y:En}{i:Nat}{f g:En->Rs D}{fb gb:En->Rs Bool}{ga:En->Rs (List D)}{u v:En->Ou}{d:D}
@[simp] def varD_ap:eO i Y=match Y[i]? with
 |some (.sh d)=>.ok d
 |some (.nw d)=>.ok d
 |some (.ow d)=>.ok d
 |some (.oz d)=>.ok d
 |some (.o2 l)=>.ok (.lst (l.map .lst))
 |_=>.st:=aW rfl
@[simp] def rz:aD i Y=match Y[i]? with
 |some (.sh d)=>.ok d
 |some (.nw d)=>.ok d
 |_=>.st:=aW rfl
@[simp] def varN_ap:jZ i Y=match Y[i]? with
 |some (.nw d)=>.ok d
 |_=>.st:=aW rfl
@[simp] def varO_ap:aGs i Y=match Y[i]? with
 |some (.ow d)=>.ok d
 |some (.o2 l)=>.ok (.lst (l.map .lst))
 |_=>.st:=aW rfl
@[simp] def cD_ap:cD d Y= .ok d:=aW rfl
@[simp] def dD:aF Y= .ok []:=aW rfl
@[simp] def aU:aA f ga Y=(f Y).bd λ d=>(ga Y).bd λ ds=>.ok (d::ds):=aW rfl
@[simp] def szl:zAU=16777216:=zCe
@[simp] def uv:jD ga Y=(ga Y).bd λ ds=>if ds.length<=16777216 then .ok (.tup ds)else .st:=by unfold jD;rw[szl]
@[simp] def zK:iJ ga Y=(ga Y).bd λ ds=>if ds.length<=16777216 then .ok (.lst ds)else .st:=by unfold iJ;rw[szl]
@[simp] def j8:okD (.ok d)= .ok d:=aW rfl
@[simp] def bR:op2 fd f g Y=(f Y).bd λ x=>(g Y).bd λ y=>okD (fd x y):=aW rfl
@[simp] def wj:op1 fd f Y=(f Y).bd λ x=>okD (fd x):=aW rfl
@[simp] def gJ:opA fd ga Y=(ga Y).bd λ x=>okD (fd x):=aW rfl
@[simp] def bx:aK F ga Y=(ga Y).bd F:=aW rfl
def aOt(d:D)(r:Rs D):Rs D:=match d with
 | .bl true=>r
 | .bl false=>.ok (.bl false)
 |_=>.st
def orR(d:D)(r:Rs D):Rs D:=match d with
 | .bl false=>r
 | .bl true=>.ok (.bl true)
 |_=>.st
@[simp] def aDF:aOt (.bl b) r=if b=true then r else .ok (.bl false):=by cases b<;>rfl
@[simp] def orR_bl:orR (.bl b) r=if b=true then .ok (.bl true)else r:=by cases b<;>rfl
@[simp] def zT:xT f g Y=(f Y).bd λ d=>aOt d (g Y):=aW rfl
@[simp] def orD_ap:orD f g Y=(f Y).bd λ d=>orR d (g Y):=aW rfl
@[simp] def notD_bl:aOR (.bl b)= .ok (.bl (!b)):=aW rfl
@[simp] def ph:ifD fb f g Y=(fb Y).bd λ k=>if k=true then f Y else g Y:=aW rfl
def chR(d:D)(r:Rs D):Rs D:=match d with
 | .bl true=>r
 | .bl false=>.ok (.bl false)
 |_=>.st
@[simp] def chR_bl:chR (.bl b) r=if b=true then r else .ok (.bl false):=by cases b<;>rfl
@[simp] def chD_ap:chD fd fd' f g h Y=(f Y).bd λ x=>(g Y).bd λ y=>(okD (fd x y)).bd λ z=>chR z ((h Y).bd λ w=>okD (fd' y w)):=aW rfl
@[simp] def truD_bl:aNM (.bl b)= .ok b:=aW rfl
@[simp] def blD_bl:blD (.bl b)= .ok b:=aW rfl
@[simp] def iB:tst f Y=(f Y).bd aNM:=aW rfl
@[simp] def du:tsb f Y=(f Y).bd blD:=aW rfl
@[simp] def gF:o6 fb gb Y=(fb Y).bd λ k=>if k=true then gb Y else .ok false:=aW rfl
@[simp] def mK:orT fb gb Y=(fb Y).bd λ k=>if k=true then .ok true else gb Y:=aW rfl
@[simp] def notT_ap:nj fb Y=(fb Y).bd λ k=>.ok (!k):=aW rfl
@[simp] def aO:bI u v Y=(u Y).sq v:=aW rfl
@[simp] def bj:retS f Y=(f Y).bo .rt:=aW rfl
@[simp] def aEY:aGl f Y=(f Y).bo λ _=>.nx Y:=aW rfl
@[simp] def bU:ifS fb u v Y=(fb Y).bo λ k=>if k=true then u Y else v Y:=aW rfl
@[simp] def dB:bZ i f Y=(f Y).bo λ d=>.nx (Y.set i (.sh d)):=aW rfl
@[simp] def vB:sr i f Y=(f Y).bo λ d=>.nx (Y.set i (.nw d)):=aW rfl
@[simp] def aKr:yR i f Y=(f Y).bo λ d=>.nx (Y.set i (.ow d)):=aW rfl
@[simp] def aA9:gnm i d Y= .ok (Y.set i (.sh d)):=aW rfl
@[simp] def gnil_nil:yo [] Y= .ok Y:=aW rfl
@[simp] def gcons_cons:gw a b (d::ds) Y=(a d Y).bd (b ds):=aW rfl
@[simp] def gtup_tup:xM n b (.tup ds) Y=if ds.length=n then b ds Y else .st:=aW rfl
def nxO(r:Rs En):Ou:=match r with
 | .ok Y=>.nx Y
 |_=>.st
@[simp] def itD_tup:itD (.tup l)= .ok l:=aW rfl
@[simp] def itrD_ap:fC f Y=(f Y).bd itD:=aW rfl
@[simp] def qC:rN ga a u Y=(ga Y).bo λ ds=>forL a u ds Y:=aW rfl
@[simp] def forL_nil:forL a u [] Y= .nx Y:=aW rfl
noncomputable def Ou.tn(o:Ou)(k:En->Ou):Ou:=match o with
 | .nx Y2=>k Y2
 | .ct Y2=>k Y2
 | .bk Y2=>.nx Y2
 |o=>o
@[simp] def aMf:(Ou.nx Y).tn k=k Y:=aW rfl
def okE(r:Rs En)(k:En->Ou):Ou:=match r with
 | .ok Y=>k Y
 |_=>.st
@[simp] def wy:okE (.ok Y) k=k Y:=aW rfl
def sX:forL a u (d::ds) Y=okE (a d Y) λ Y1=>(u Y1).tn (forL a u ds):=by
 unfold forL;cases a d Y with
 |ok Y1=>simp only[wy];cases u Y1<;>rfl
 |ex c=>rfl
 |st=>rfl
@[simp] def aCo:cP f Y=(f Y).bd aBO:=aW rfl
@[simp] def rngA_ap:gB r ga Y=(ga Y).bd r:=aW rfl
@[simp] def raiseS_ap:qx x ga Y=(ga Y).bo λ ds=>if ds.length<=16777216 then .ex x else .st:=by unfold qx;rw[szl]
@[simp] def aKc:cj Y= .ok true:=aW rfl
end
section
variable{d e:D}{i j:Int}{l m:List D}
def v4(h:imm d=true):aBO d= .ok d:=by unfold aBO;rw[if_pos h]
@[simp] def gImm_int:aBO (.int i)= .ok (.int i):=aW rfl
@[simp] def addD_int:bY (.int i) (.int j)= .ok (.int (i+j)):=aW rfl
@[simp] def aK1:bY (.lst l) (.lst m)=if l.length+m.length<=16777216 then .ok (.lst (l++m))else .st:=by unfold bY;rw[szl]
@[simp] def subD_int:ux (.int i) (.int j)= .ok (.int (i-j)):=aW rfl
def aBo(h0:0<j)(h1:j<1073741824):aAb (.int i) (.int j)= .ok (.int (i / j)):=by unfold aAb i2;dsimp only;rw[if_pos (by simp[h0,h1])]
def oM(h0:0<j):uY (.int i) (.int j)= .ok (.int (i%j)):=by unfold uY i2;dsimp only;rw[if_pos (by simp[h0])]
def aFS(h0: -(2^64)<i)(h1:i<2^64):jb (.int i) (.int j)= .ok (.int (i*j)):=by unfold jb;dsimp only;rw[if_pos (by simp only[zFQ,zAN,decide_eq_true_eq];exact .inl ⟨h0,h1⟩)]
def aJQ(h0: -(2^64)<j)(h1:j<2^64):jb (.int i) (.int j)= .ok (.int (i*j)):=by unfold jb;dsimp only;rw[if_pos (by simp only[zFQ,zAN,decide_eq_true_eq];exact .inr ⟨h0,h1⟩)]
@[simp] def aCd:ltD (.int i) (.int j)= .ok (.bl (decide (i<j))):=aW rfl
@[simp] def leD_int:leD (.int i) (.int j)= .ok (.bl (decide (i<=j))):=aW rfl
@[simp] def gtD_int:gtD (.int i) (.int j)= .ok (.bl (decide (j<i))):=aW rfl
@[simp] def geD_int:geD (.int i) (.int j)= .ok (.bl (decide (j<=i))):=aW rfl
def aLi(ns ms:List Int):ltD (.tup (ns.map .int)) (.tup (ms.map .int))= .ok (.bl (HT.lexLt ns ms)):=by
 unfold ltD ltT i2;simp only[ue]
@[simp] def lenD_tup:gM [.tup l]= .ok (.int l.length):=aW rfl
@[simp] def lenD_lst:gM [.lst l]= .ok (.int l.length):=aW rfl
@[simp] def lenD_scr:gM [.scr x]= .ok (.int x.length):=aW rfl
@[simp] def lZ:fG [.lst l]= .ok (.tup l):=aW rfl
@[simp] def mmD_int:mmD f [.int i,.int j]= .ok (.int (f i j)):=aW rfl
@[simp] def ixD_tup:ixD (.tup l) (.int i)=atD l i:=aW rfl
@[simp] def ixD_lst:ixD (.lst l) (.int i)=atD l i:=aW rfl
@[simp] def ixD_scr:ixD (.scr x) (.int i)=atD (x.map .int) i:=aW rfl
def gD{k:Nat}(h:l[k]? =some d):atD l (k:Int)= .ok d:=by
 have hk:=(zAK.mp h).1;unfold atD atI ixN;rw[if_pos (by omega),if_pos (by omega)];simp[h]
def aOs(h0:0<=i)(h1:i<l.length):∃d,atD l i= .ok d/\d∈l/\l[i.toNat]? =some d:=by
 have hk:i.toNat<l.length:=by omega
 have e:=zAB hk;refine⟨_,?_,zCj hk,e⟩
 have:=gD e
 rwa [zAn h0]at this
@[simp] def atD_0{r:List D}:atD (d::r) 0= .ok d:=gD (k:=0) rfl
@[simp] def atD_1{r:List D}:atD (d::e::r) 1= .ok e:=gD (k:=1) rfl
@[simp] def aMR:eqR n (.int i) (.int j)= .ok (.bl (if n then !(i==j)else i==j)):=aW rfl
def knd:D->Bool
 | .set _=>false
 | .scr _=>false
 | .fn _=>false
 | .itm _ _=>false
 |_=>true
def aCl(hT:T∈["bool","int","str","list","tuple","dict"])(h:knd d=true):lD T d= .ok (.bl (aLq (tyD d) T)):=by
 have ht:tyD d∈["NoneType","bool","int","str","list","tuple","dict"]:=by cases d<;>simp_all [tyD,knd]
 unfold lD rG;cases e:aLq (tyD d) T<;>simp[ht,hT]
def aO5:D->Bool
 | .int _=>true
 | .bl _=>true
 |_=>false
def aPy:D->Bool
 | .bl _=>true
 |_=>false
def ud:D->Bool
 | .tup _=>true
 |_=>false
def aLp(h:knd d=true):lD "int" d= .ok (.bl (aO5 d)):=by
 rw[aCl (by simp) h];cases d<;>first|rfl|(simp[knd]at h)
def aJg(h:knd d=true):lD "bool" d= .ok (.bl (aPy d)):=by
 rw[aCl (by simp) h];cases d<;>first|rfl|(simp[knd]at h)
def sS(h:knd d=true):lD "tuple" d= .ok (.bl (ud d)):=by
 rw[aCl (by simp) h];cases d<;>first|rfl|(simp[knd]at h)
@[simp] def isi_tuple_tup:lD "tuple" (.tup l)= .ok (.bl true):=sS rfl
end
@[simp] def bC:dW n u ds=match u (aa n ds)with
 | .nx _=>.ok .non
 | .rt d=>.ok d
 | .ex c=>.ex c
 |_=>.st:=aW rfl
def ju(h0: -(2^62)<=j)(h1:j<2^62):j7 [.int j]= .ok (dO 0 j):=by unfold j7;dsimp only;rw[if_pos ⟨h0,h1⟩]
def aCX(h0: -(2^62)<=i)(h1:i<2^62)(h2: -(2^62)<=j)(h3:j<2^62):yX [.int i,.int j]= .ok (dO i j):=by unfold yX;dsimp only;rw[if_pos ⟨⟨h0,h1⟩,h2,h3⟩]
def mL{lo hi:Int}:d∈dO lo hi↔∃k:Int,d= .int k/\lo<=k/\k<hi:=by
 unfold dO;rw[zAY];constructor
 .rintro⟨n,hn,rfl⟩
  have:=zBC.mp hn
  exact⟨lo+n,rfl,by omega,by omega⟩
 .rintro⟨k,rfl,h1,h2⟩
  exact⟨(k-lo).toNat,zBC.mpr (by omega),by congr 1;omega⟩
end VL
namespace VL.My
open PySem L2
def wdN:Str->Option Str:=λ c=>((["NoWeb","NoPlace","NoWay","NoParting","TooMany","NoForest","NoPlan","NoOneWay","NoOrder","NoText","NoDeed","NoRow"]:List Str).zip (["web","place","way","parting","many","forest","plan","one way","order","text","deed","row"]:List Str)).lookup c
def jg:En->Ou:=
  (retS (xT (op1 (lD "int") (aD 0)) (op1 aOR (op1 (lD "bool") (aD 0)))))
def m8:List D->Rs D:=dW 1 jg
def gU:En->Ou:=
  (bI (rN (gB yX (aA (cD (.int 1)) (aA (opA gM (aA (aD 0) aF)) aF))) (gnm 1)
   (ifS (nj (tsb (op2 ltD (op2 ixD (aD 0) (op2 ux (aD 1) (cD (.int 1)))) (op2 ixD (aD 0) (aD 1)))))
    (retS (cD (.bl false)))
    Ou.nx))
  (retS (cD (.bl true))))
def fD:List D->Rs D:=dW 2 gU
def je:En->Ou:=
  (retS (vW (aD 1) (lcD (fC (aD 0)) [none] (gnm 0) cj (opA iH (aA (aD 0) aF)))))
def jq:List D->Rs D:=dW 2 je
def dN:En->Ou:=
  (bI (bZ 1 (dcZ (gB j7 (aA (op2 bY (cD (.int 60)) (cD (.int 1))) aF)) [none] (gnm 0) cj (opA iH (aA (aD 0) aF)) (cP (aD 0))))
  (retS (opA fG (aA (lcD (fC (aD 0)) [none,some 1] (gnm 0) cj (cP (yr (aD 1) (aD 0)))) aF))))
def bF:List D->Rs D:=dW 2 dN
def eF:En->Ou:=
  (bI (ifS (tsb (op2 ltD (aD 1) (opA gM (aA (aD 0) aF))))
   (retS (cP (op2 ixD (aD 0) (aD 1))))
   Ou.nx)
  (retS (cD (.int 0))))
def iM:List D->Rs D:=dW 2 eF
def iu:En->Ou:=
  (bI (ifS (tsb (op2 geD (aD 0) (op2 aNh (cD (.int 10)) (cD (.int 18)))))
   (bI (bZ 3 (aD 0))
   (bI (rN (gB j7 (aA (aD 1) aF)) (gnm 4)
    (bZ 3 (op2 aAb (aD 3) (aD 2))))
   (retS (op2 uY (aD 3) (aD 2)))))
   Ou.nx)
  (bI (bZ 5 (op2 uY (op2 jb (op2 bY (op2 bY (op2 uY (aD 0) (cD (.int 1000000007))) (op2 jb (cD (.int 1009)) (aD 1))) (cD (.int 17))) (cD (.int 69621))) (cD (.int 2147483647))))
  (bI (bZ 5 (op2 uY (op2 bY (op2 bY (op2 jb (aD 5) (aD 5)) (op2 jb (cD (.int 40503)) (aD 1))) (cD (.int 5))) (cD (.int 2147483629))))
  (retS (op2 uY (op2 aAb (op2 uY (op2 jb (aD 5) (cD (.int 48271))) (cD (.int 2147483647))) (cD (.int 32))) (aD 2))))))
def aR:List D->Rs D:=dW 6 iu
def lrE:En->Rs D:=op2 ltD (op2 ixD (aD 1) (op2 ux (aD 0) (cD (.int 1)))) (op2 ixD (aD 1) (aD 0))
def fO:En->Ou:=retS (opA (wI λ bs=>bs.all id) (aA (lcD (gB yX (aA (cD (.int 1)) (aA (opA gM (aA (aD 0) aF)) aF))) [none,some 0] (gnm 0) cj lrE) aF))
def cF:List D->Rs D:=dW 1 fO
def dX:En->Ou:=
  (retS (vW (cD (.str " ")) (op2 bY (iJ (aA (op2 jE (opA iH (aA (op2 ixD (aD 0) (cD (.int 0))) aF)) (cD (.str ":"))) aF)) (lcD (fC (op2 ixD (aD 0) (cD (.int 1)))) [none,none,some 1] (xM 2 (gw (gnm 0) (gw (gnm 1) yo))) cj (op2 jE (op2 jE (opA iH (aA (aD 0) aF)) (aD 2)) (opA iH (aA (aD 1) aF)))))))
def fV:List D->Rs D:=dW 2 dX
def cY:En->Ou:=
  (retS (ifD (tsb (op2 (eqR false) (aD 0) (jD aF))) (cD (.str "none")) (vW (cD (.str " ")) (lcD (fC (aD 0)) [none] (gnm 0) cj (opA iH (aA (aD 0) aF))))))
def gG:List D->Rs D:=dW 1 cY
def gr:En->Ou:=
  (bI (sr 2 (lcD (gB j7 (aA (op2 bY (aD 1) (cD (.int 1))) aF)) [none] (gnm 0) cj (opA iH (aA (aD 0) aF))))
  (retS (ifD (tsb (op2 (inR false) (aD 0) (jZ 2))) (opL aFe (jZ 2) (aD 0)) (cD .non))))
def dq:List D->Rs D:=dW 3 gr
def lR:En->Ou:=
  (retS (xT (aK m8 (aA (aD 0) aF)) (chD leD leD (cD (.int 0)) (aD 0) (cD (.int 60)))))
def ou:List D->Rs D:=dW 1 lR
def jh:En->Ou:=
  (retS (xT (aK m8 (aA (aD 1) aF)) (chD leD ltD (cD (.int 0)) (aD 1) (aD 0))))
def fQ:List D->Rs D:=dW 2 jh
def gn:En->Ou:=
  (retS (op2 jE (op1 (aHh ":") (aD 0)) (vW (cD (.str "")) (lcD (fC (aD 1)) [none,some 2] (gnm 0) cj (op2 jE (cD (.str " ")) (aK jq (aA (aD 0) (aA (aD 1) aF))))))))
def fP:List D->Rs D:=dW 3 gn
def fM:En->Ou:=
  (bI (bZ 2 (kj (aD 0) (cD (.str " "))))
  (bI (sr 3 (lcD (fC (pG (aD 2) (cT (cD (.int 1))) cU)) [none,some 1] (gnm 0) cj (kj (aD 0) (aD 1))))
  (retS (jD (aA (op2 ixD (aK bF (aA (iJ (aA (cG (op2 ixD (aD 2) (cD (.int 0))) cU (cT (op1 tD (cD (.int 1))))) aF)) aF)) (cD (.int 0))) (aA (opA fG (aA (lcD (fC (aD 3)) [none] (gnm 0) cj (aK bF (aA (aD 0) aF))) aF)) aF))))))
def bV:List D->Rs D:=dW 4 fM
def jf:En->Ou:=
  (bI (yR 2 (iJ aF))
  (bI (rN (gB j7 (aA (aD 1) aF)) (gnm 3)
   (aHa 2 (aK aR (aA (aD 0) (aA (op2 bY (cD (.int 100)) (aD 3)) (aA (op2 bY (aD 3) (cD (.int 1))) aF)))) (cP (aD 3))))
  (retS (aGs 2))))
def jA:List D->Rs D:=dW 4 jf
def gq:En->Ou:=
  (bI (bZ 3 (op2 bY (cD (.int 1)) (aK aR (aA (aD 0) (aA (aD 1) (aA (cD (.int 4)) aF))))))
  (retS (opA fG (aA (lcD (gB j7 (aA (aD 2) aF)) [none,some 0,some 1,some 3] (gnm 0) (tsb (op2 ltD (aK aR (aA (aD 1) (aA (op2 bY (op2 bY (aD 2) (cD (.int 1))) (aD 0)) (aA (cD (.int 5)) aF)))) (aD 3))) (cP (aD 0))) aF))))
def jY:List D->Rs D:=dW 4 gq
def uZ:En->Rs D:=op2 ixD (eO 4) (op1 tD (cD (.int 1)))
def rdA:En->Rs D:=opA fG (aA (lcD (fC (aD 6)) [none,some 3] (gnm 0) cj (aK dq (aA (aD 0) (aA (op2 ux (aD 1) (cD (.int 1))) aF)))) aF)
def aBI:En->Rs Bool:=orT (tsb (op2 (eqR true) (opA gM (aA (aD 6) aF)) (cD (.int 2)))) (orT (tsb (op2 (inR false) (cD .non) uZ)) (tsb (op2 (eqR false) (op2 ixD uZ (cD (.int 0))) (op2 ixD uZ (cD (.int 1))))))
def aLB:En->Rs Bool:=o6 (tsb (op2 (eqR false) (aD 1) (cD (.str "-")))) (tsb (op2 gtD (op2 ixD uZ (cD (.int 0))) (op2 ixD uZ (cD (.int 1)))))
def rdB:En->Ou:=bI (bZ 6 (kj (aD 5) (aD 1))) (bI (yt 4 rdA) (bI (ifS aBI (retS (cD .non)) Ou.nx) (ifS aLB (retS (cD .non)) Ou.nx)))
def rdM:En->Rs D:=aK dq (aA (cG (op2 ixD (aD 2) (cD (.int 0))) cU (cT (op1 tD (cD (.int 1))))) (aA (cD (.int 60)) aF))
def rdC:En->Rs Bool:=orT (tsb (op2 (eqR true) (cG (op2 ixD (aD 2) (cD (.int 0))) (cT (op1 tD (cD (.int 1)))) cU) (cD (.str ":")))) (tsb (op2 (isD false) (aD 3) (cD .non)))
def rdR:En->Rs D:=ifD (tst (aK cF (aA (eO 4) aF))) (jD (aA (cP (aD 3)) (aA (opA fG (aA (aGs 4) aF)) aF))) (cD .non)
def eZ:En->Ou:=bI (bZ 2 (kj (aD 0) (cD (.str " ")))) (bI (bZ 3 rdM) (bI (ifS rdC (retS (cD .non)) Ou.nx) (bI (yR 4 (iJ aF)) (bI (rN (fC (pG (aD 2) (cT (cD (.int 1))) cU)) (gnm 5) rdB) (retS rdR)))))
def bz:List D->Rs D:=dW 7 eZ
def pdL:En->Rs D:=opA fG (aA (lcD (fC (kj (aD 0) (cD (.str " ")))) [none] (gnm 0) cj (aK dq (aA (aD 0) (aA (cD (.int 59)) aF)))) aF)
def pdR:En->Rs D:=ifD (o6 (tsb (op2 (inR true) (cD .non) (aD 1))) (tst (aK cF (aA (aD 1) aF)))) (cP (aD 1)) (cD .non)
def cQ:En->Ou:=bI (ifS (tsb (op2 (eqR false) (aD 0) (cD (.str "none")))) (retS (jD aF)) Ou.nx) (bI (bZ 1 pdL) (retS pdR))
def cR:List D->Rs D:=dW 2 cQ
def chG:En->Rs D:=op2 aEL (cD (.str "0123456789 :->none,")) (aK aR (aA (aD 0) (aA (op2 bY (aD 1) (cD (.int 2))) (aA (cD (.int 19)) aF))))
def chL:En->Rs D:=op2 ixD (iJ (aA (op2 jE (cG (aD 2) cU (cT (aD 4))) (cG (aD 2) (cT (op2 bY (aD 4) (cD (.int 1)))) cU)) (aA (op2 jE (op2 jE (cG (aD 2) cU (cT (aD 4))) (aD 5)) (cG (aD 2) (cT (aD 4)) cU)) (aA (op2 jE (op2 jE (cG (aD 2) cU (cT (aD 4))) (aD 5)) (cG (aD 2) (cT (op2 bY (aD 4) (cD (.int 1)))) cU)) (aA (cP (aD 2)) aF))))) (aD 3)
def chN:En->Rs D:=iJ (aA (cD (.str "0")) (aA (cD (.str "00")) (aA (cD (.str "")) (aA (cD (.str "none")) (aA (cD (.str "60:")) (aA (cD (.str "61:")) (aA (cD (.str "0-1")) (aA (cD (.str "0>1")) (aA (cD (.str "1-0")) (aA (cD (.str "59")) (aA (cD (.str "60")) (aA (cD (.str "0-0")) (aA (cD (.str "-1")) (aA (cD (.str "01-2")) (aA (cD (.str ":")) aF)))))))))))))))
def chK:En->Ou:=ifS (tsb (op2 (eqR false) (aD 3) (cD (.int 4)))) (popS 6 (aD 7)) (ifS (tsb (op2 (eqR false) (aD 3) (cD (.int 5)))) (aHa 6 (aD 8) (cP (op2 ixD (eO 6) (aD 7)))) (ifS (tsb (op2 (eqR false) (aD 3) (cD (.int 6)))) (aKi 6 (jD (aA (cP (op2 ixD (eO 6) (aD 8))) (aA (cP (op2 ixD (eO 6) (aD 7))) aF))) (aD 7) (aD 8)) (bI (sr 9 chN) (aLI 6 (aD 7) (op2 ixD (jZ 9) (aK aR (aA (aD 0) (aA (op2 bY (aD 1) (cD (.int 5))) (aA (cD (.int 15)) aF)))))))))
def dz:En->Ou:=bI (bZ 3 (aK aR (aA (aD 0) (aA (aD 1) (aA (cD (.int 9)) aF))))) (bI (bZ 4 (aK aR (aA (aD 0) (aA (op2 bY (aD 1) (cD (.int 1))) (aA (op2 bY (opA yg (aA (aD 2) aF)) (cD (.int 1))) aF))))) (bI (bZ 5 chG) (bI (ifS (tsb (op2 ltD (aD 3) (cD (.int 4)))) (retS chL) Ou.nx) (bI (yR 6 (kj (aD 2) (cD (.str " ")))) (bI (bZ 7 (aK aR (aA (aD 0) (aA (op2 bY (aD 1) (cD (.int 3))) (aA (opA gM (aA (eO 6) aF)) aF))))) (bI (bZ 8 (aK aR (aA (aD 0) (aA (op2 bY (aD 1) (cD (.int 4))) (aA (opA gM (aA (eO 6) aF)) aF))))) (bI chK (retS (vW (cD (.str " ")) (eO 6))))))))))
def fu:List D->Rs D:=dW 10 dz
def ipE:En->Ou:=ifS (orT (nj (tst (op1 (lD "tuple") (aD 1)))) (tsb (op2 (eqR true) (opA gM (aA (aD 1) aF)) (cD (.int 2))))) (retS (cD (.bl false))) Ou.nx
def lQ:En->Ou:=bI ipE (retS (xT (aK fQ (aA (aD 0) (aA (op2 ixD (aD 1) (cD (.int 0))) aF))) (xT (aK fQ (aA (aD 0) (aA (op2 ixD (aD 1) (cD (.int 1))) aF))) (op2 (eqR true) (op2 ixD (aD 1) (cD (.int 0))) (op2 ixD (aD 1) (cD (.int 1)))))))
def o9:List D->Rs D:=dW 2 lQ
def dm:En->Ou:=
  (bI (ifS (nj (tst (op1 (lD "tuple") (aD 1))))
   (retS (cD (.bl false)))
   Ou.nx)
  (bI (rN (fC (aD 1)) (gnm 2)
   (ifS (nj (tst (aK fQ (aA (aD 0) (aA (aD 2) aF)))))
    (retS (cD (.bl false)))
    Ou.nx))
  (retS (aK fD (aA (aD 1) aF)))))
def dG:List D->Rs D:=dW 3 dm
def wA:En->Ou:=ifS (tsb (op2 (inR false) (aD 3) (jD (aA (cD (.int 5)) (aA (cD (.int 6)) aF)))))
     (bZ 10 (orD (op2 (eqR false) (aD 8) (op2 bY (aD 9) (cD (.int 1)))) (xT (op2 (eqR false) (aD 3) (cD (.int 6))) (op2 (eqR false) (jD (aA (aD 9) (aA (aD 8) aF))) (jD (aA (cD (.int 0)) (aA (op2 ux (aD 2) (cD (.int 1))) aF)))))))
     Ou.nx
def wB:En->Ou:=ifS (tsb (op2 (eqR false) (aD 3) (cD (.int 7))))
     (bZ 10 (op2 (eqR false) (aD 9) (cD (.int 0))))
     Ou.nx
def wC:En->Ou:=ifS (tsb (op2 (eqR false) (aD 3) (cD (.int 8))))
     (bZ 10 (xT (aD 10) (op2 (eqR false) (op2 uY (op2 bY (aD 9) (aD 8)) (cD (.int 2))) (cD (.int 1)))))
     Ou.nx
def wD:En->Ou:=ifS (tst (aD 10))
     (yt 6 (jD (aA (opA (mmD λ i j=>if j<i then j else i) (aA (op2 ixD (aD 5) (aD 9)) (aA (op2 ixD (aD 5) (aD 8)) aF))) (aA (opA (mmD λ i j=>if j>i then j else i) (aA (op2 ixD (aD 5) (aD 9)) (aA (op2 ixD (aD 5) (aD 8)) aF))) aF))))
     Ou.nx
def wIn:En->Ou:=bI (bZ 7 (op2 bY (aD 7) (cD (.int 1)))) (bI (bZ 10 (op2 ltD (aK aR (aA (aD 0) (aA (aD 7) (aA (cD (.int 8)) aF)))) (jZ 4))) (bI wA (bI wB (bI wC wD))))
def aKf:En->Ou:=rN (gB j7 (aA (aD 8) aF)) (gnm 9) wIn
def lO:En->Ou:=bI (bZ 2 (aK aR (aA (aD 0) (aA (cD (.int 0)) (aA (op2 bY (aD 1) (cD (.int 1))) aF)))))
  (bI (bZ 3 (aK aR (aA (aD 0) (aA (cD (.int 1)) (aA (cD (.int 9)) aF)))))
  (bI (sr 4 (op2 ixD (iJ (aA (cD (.int 1)) (aA (cD (.int 2)) (aA (cD (.int 3)) (aA (cD (.int 5)) (aA (cD (.int 7)) (aA (cD (.int 0)) (aA (cD (.int 0)) (aA (cD (.int 0)) (aA (cD (.int 4)) aF)))))))))) (aD 3)))
  (bI (bZ 5 (aK jA (aA (aD 0) (aA (aD 2) aF))))
  (bI (yR 6 (iJ aF))
  (bI (bZ 7 (cD (.int 2)))
  (bI (rN (gB j7 (aA (aD 2) aF)) (gnm 8) aKf)
  (retS (jD (aA (cP (aD 2)) (aA (opA fG (aA (opA dI (aA (eO 6) aF)) aF)) aF))))))))))
def o8:List D->Rs D:=dW 11 lO
def aLW:En->Ou:=ifS (orT (tsb (op2 ltD (aD 10) (jZ 4))) (o6 (tsb (op2 (eqR false) (aD 3) (cD (.int 6)))) (tsb (op2 (eqR false) (aD 8) (op2 bY (aD 9) (cD (.int 1)))))))
     (yt 6 (jD (aA (cP (op2 ixD (aD 5) (aD 9))) (aA (cP (op2 ixD (aD 5) (aD 8))) aF))))
     Ou.nx
def aLV:En->Ou:=ifS (orT (o6 (tsb (op2 gtD (aD 3) (cD (.int 2)))) (o6 (tsb (op2 (eqR true) (aD 3) (cD (.int 7)))) (tsb (op2 ltD (aK aR (aA (aD 0) (aA (op2 bY (aD 7) (cD (.int 50))) (aA (cD (.int 8)) aF)))) (op2 ux (jZ 4) (cD (.int 1))))))) (o6 (tsb (op2 (eqR false) (aD 3) (cD (.int 7)))) (tsb (op2 ltD (aD 10) (cD (.int 3))))))
     (yt 6 (jD (aA (cP (op2 ixD (aD 5) (aD 8))) (aA (cP (op2 ixD (aD 5) (aD 9))) aF))))
     Ou.nx
def aJI:En->Ou:=bI (bZ 7 (op2 bY (aD 7) (cD (.int 1)))) (bI (bZ 10 (aK aR (aA (aD 0) (aA (aD 7) (aA (cD (.int 8)) aF))))) (bI aLW aLV))
def aGU:En->Ou:=rN (gB j7 (aA (aD 8) aF)) (gnm 9) aJI
def aGV:En->Ou:=ifS (o6 (tsb (op2 (eqR false) (aD 3) (cD (.int 6)))) (tsb (op2 gtD (aD 2) (cD (.int 1)))))
   (yt 6 (jD (aA (cP (op2 ixD (aD 5) (op2 ux (aD 2) (cD (.int 1))))) (aA (cP (op2 ixD (aD 5) (cD (.int 0)))) aF))))
   Ou.nx
def fj:En->Ou:=bI (bZ 2 (aK aR (aA (aD 0) (aA (cD (.int 0)) (aA (op2 bY (aD 1) (cD (.int 1))) aF)))))
  (bI (bZ 3 (aK aR (aA (aD 0) (aA (cD (.int 1)) (aA (cD (.int 8)) aF)))))
  (bI (sr 4 (op2 ixD (iJ (aA (cD (.int 1)) (aA (cD (.int 2)) (aA (cD (.int 4)) (aA (cD (.int 2)) (aA (cD (.int 3)) (aA (cD (.int 6)) (aA (cD (.int 1)) (aA (cD (.int 3)) aF))))))))) (aD 3)))
  (bI (bZ 5 (aK jA (aA (aD 0) (aA (aD 2) aF))))
  (bI (yR 6 (iJ aF))
  (bI (bZ 7 (cD (.int 2)))
  (bI (rN (gB j7 (aA (aD 2) aF)) (gnm 8) aGU)
  (bI aGV
  (retS (jD (aA (cP (aD 2)) (aA (opA fG (aA (opA dI (aA (eO 6) aF)) aF)) aF)))))))))))
def iK:List D->Rs D:=dW 11 fj
def bw:En->Ou:=
  (bI (ifS (nj (tst (op1 (lD "tuple") (aD 1))))
   (retS (cD (.bl false)))
   Ou.nx)
  (bI (rN (fC (aD 1)) (gnm 2)
   (ifS (nj (tst (aK o9 (aA (aD 0) (aA (aD 2) aF)))))
    (retS (cD (.bl false)))
    Ou.nx))
  (retS (aK fD (aA (aD 1) aF)))))
def bW:List D->Rs D:=dW 3 bw
def dw:En->Ou:=
  (bI (ifS (tst (op1 (lD "str") (aD 0)))
   (bI (bZ 1 (ifD (tsb (op2 (eqR false) (aD 0) (cD (.str "none")))) (jD aF) (aK bF (aA (kj (aD 0) (cD (.str " "))) aF))))
   (ifS (tst (aK dG (aA (cD (.int 60)) (aA (aD 1) aF))))
    (retS (cP (aD 1)))
    Ou.nx))
   Ou.nx)
  (qx "NoText" (aA (cD (.str "no places are written so")) aF)))
def bB:List D->Rs D:=dW 2 dw
def iw:En->Ou:=
  (retS (xT (aK bW (aA (aD 0) (aA (aD 1) aF))) (opA (wI λ bs=>bs.all id) (aA (lcD (fC (aD 1)) [none,none] (xM 2 (gw (gnm 0) (gw (gnm 1) yo))) cj (op2 ltD (aD 0) (aD 1))) aF))))
def jr:List D->Rs D:=dW 2 iw
def dF:En->Ou:=
  (bI (ifS (orT (nj (tst (op1 (lD "tuple") (aD 0)))) (tsb (op2 (eqR true) (opA gM (aA (aD 0) aF)) (cD (.int 2)))))
   (retS (cD (.bl false)))
   Ou.nx)
  (retS (xT (aK ou (aA (op2 ixD (aD 0) (cD (.int 0))) aF)) (aK bW (aA (op2 ixD (aD 0) (cD (.int 0))) (aA (op2 ixD (aD 0) (cD (.int 1))) aF))))))
def bA:List D->Rs D:=dW 1 dF
def jW:En->Ou:=
  (bI (ifS (orT (nj (tst (op1 (lD "tuple") (aD 0)))) (tsb (op2 (eqR true) (opA gM (aA (aD 0) aF)) (cD (.int 2)))))
   (retS (cD (.bl false)))
   Ou.nx)
  (retS (xT (aK ou (aA (op2 ixD (aD 0) (cD (.int 0))) aF)) (aK jr (aA (op2 ixD (aD 0) (cD (.int 0))) (aA (op2 ixD (aD 0) (cD (.int 1))) aF))))))
def cI:List D->Rs D:=dW 1 jW
def dY:En->Ou:=
  (ifS (nj (tst (aK bA (aA (aD 0) aF))))
   (qx "NoOneWay" (aA (cD (.str "this is no one-way web")) aF))
   Ou.nx)
def fW:List D->Rs D:=dW 1 dY
def jB:En->Ou:=
  (ifS (nj (tst (aK cI (aA (aD 0) aF))))
   (qx "NoWeb" (aA (cD (.str "this is no web")) aF))
   Ou.nx)
def kZ:List D->Rs D:=dW 1 jB
def eY:En->Ou:=
  (bI (aGl (aK fW (aA (aD 0) aF)))
  (retS (aK fP (aA (op2 ixD (aD 0) (cD (.int 0))) (aA (op2 ixD (aD 0) (cD (.int 1))) (aA (cD (.str ">")) aF))))))
def cC:List D->Rs D:=dW 1 eY
def jd:En->Ou:=
  (bI (aGl (aK kZ (aA (aD 0) aF)))
  (retS (aK fP (aA (op2 ixD (aD 0) (cD (.int 0))) (aA (op2 ixD (aD 0) (cD (.int 1))) (aA (cD (.str "-")) aF))))))
def eG:List D->Rs D:=dW 1 jd
def dM:En->Ou:=
  (bI (ifS (tst (op1 (lD "str") (aD 0)))
   (bI (bZ 1 (aK bV (aA (aD 0) (aA (cD (.str ">")) aF))))
   (ifS (o6 (tst (aK bA (aA (aD 1) aF))) (tsb (op2 (eqR false) (aK cC (aA (aD 1) aF)) (aD 0))))
    (retS (cP (aD 1)))
    Ou.nx))
   Ou.nx)
  (qx "NoText" (aA (cD (.str "no one-way web is written so")) aF)))
def bL:List D->Rs D:=dW 2 dM
def il:En->Ou:=
  (bI (ifS (tst (op1 (lD "str") (aD 0)))
   (bI (bZ 1 (aK bV (aA (aD 0) (aA (cD (.str "-")) aF))))
   (ifS (o6 (tst (aK cI (aA (aD 1) aF))) (tsb (op2 (eqR false) (aK eG (aA (aD 1) aF)) (aD 0))))
    (retS (cP (aD 1)))
    Ou.nx))
   Ou.nx)
  (qx "NoText" (aA (cD (.str "no web is written so")) aF)))
def cN:List D->Rs D:=dW 2 il
def dj:En->Ou:=
  (bI (ifS (tsb (op2 (isD false) (aD 2) (cD .non)))
   (retS (op2 (eqR false) (aHH wdN "told" (rW [("web_read",cN),("places_read",bB),("one_way_read",bL)] 0 (aA (aD 1) aF))) (cD (.str "text"))))
   Ou.nx)
  (retS (op2 (eqR false) (rW [("web_read",cN),("places_read",bB),("one_way_read",bL)] 0 (aA (aD 1) aF)) (aD 2))))
def bH:List D->Rs D:=dW 3 dj
def lwR:En->Rs (List D):=(gB j7 (aA (opA (mmD λ i j=>if j>i then j else i) (aA (cD (.int 1)) (aA (opA (mmD λ i j=>if j<i then j else i) (aA (opA gM (aA (aD 0) aF)) (aA (cD (.int 10)) aF))) aF))) aF))
def lT0:En->Ou:=(ifS (nj (tst (aK bH (aA (cD (.fn "web_read")) (aA (op2 ixD (jZ 5) (cD (.int 0))) (aA (aK bz (aA (op2 ixD (jZ 5) (cD (.int 0))) (aA (cD (.str "-")) aF))) aF)))))) (retS (cD (.bl false))) Ou.nx)
def lT1:En->Ou:=(ifS (nj (tst (aK bH (aA (cD (.fn "one_way_read")) (aA (op2 ixD (jZ 5) (cD (.int 1))) (aA (aK bz (aA (op2 ixD (jZ 5) (cD (.int 1))) (aA (cD (.str ">")) aF))) aF)))))) (retS (cD (.bl false))) Ou.nx)
def lT2:En->Ou:=(ifS (nj (tst (aK bH (aA (cD (.fn "places_read")) (aA (op2 ixD (jZ 5) (cD (.int 2))) (aA (aK cR (aA (op2 ixD (jZ 5) (cD (.int 2))) aF)) aF)))))) (retS (cD (.bl false))) Ou.nx)
def lT3:En->Ou:=(sr 5 (lcD (gB aKH (aA (aD 5) aF)) [none,none,some 2,some 6] (xM 2 (gw (gnm 0) (gw (gnm 1) yo))) cj (aK fu (aA (aD 2) (aA (op2 bY (op2 bY (cD (.int 60)) (op2 jb (cD (.int 18)) (aD 3))) (op2 jb (cD (.int 6)) (aD 0))) (aA (aD 1) aF))))))
def lTT:En->Ou:=bI lT0 (bI lT1 (bI lT2 lT3))
def lTR:En->Rs (List D):=(gB j7 (aA (cD (.int 4)) aF))
def lB0:En->Ou:=(bZ 2 (aK iM (aA (aD 0) (aA (aD 1) aF))))
def lB1:En->Ou:=(bZ 3 (aK o8 (aA (aD 2) (aA (cD (.int 6)) aF))))
def lB2:En->Ou:=(bZ 4 (aK iK (aA (aD 2) (aA (cD (.int 5)) aF))))
def lB3:En->Ou:=(sr 5 (iJ (aA (aK fV (aA (aD 3) (aA (cD (.str "-")) aF))) (aA (aK fV (aA (aD 4) (aA (cD (.str ">")) aF))) (aA (aK gG (aA (aK jY (aA (aD 2) (aA (cD (.int 30)) (aA (op2 ixD (aD 3) (cD (.int 0))) aF)))) aF)) aF)))))
def lB5:En->Ou:=(sr 7 (op2 ixD (iJ (aA (cD .non) (aA (cD (.int 7)) (aA (jD (aA (cD (.int 0)) (aA (cD (.int 1)) aF))) (aA (iJ (aA (cD (.str "0:")) aF)) (aA (cD (.bl true)) (aA (cD (.dct [] [])) (aA (jD aF) aF)))))))) (aK aR (aA (aD 2) (aA (cD (.int 99)) (aA (cD (.int 7)) aF))))))
def lB6:En->Ou:=(ifS (nj (tst (opA (wI λ bs=>bs.all id) (aA (lcD (fC (iJ (aA (cD (.fn "web_read")) (aA (cD (.fn "one_way_read")) (aA (cD (.fn "places_read")) aF))))) [none,some 7] (gnm 0) cj (aK bH (aA (aD 0) (aA (aD 1) (aA (cD .non) aF))))) aF)))) (retS (cD (.bl false))) Ou.nx)
def lB4:En->Ou:=rN lTR (gnm 6) lTT
def lwK:En->Ou:=bI lB0 (bI lB1 (bI lB2 (bI lB3 (bI lB4 (bI lB5 (lB6))))))
def lwZ:En->Rs D:=(xT (aK bH (aA (cD (.fn "web_read")) (aA (cD (.str "4: 0-1  2-3")) (aA (cD .non) aF)))) (aK bH (aA (cD (.fn "places_read")) (aA (cD (.str "1 0")) (aA (cD .non) aF)))))
def aAq:En->Ou:=bI (rN lwR (gnm 1) lwK) (retS lwZ)
def aK5:List D->Rs D:=dW 8 aAq
theorem aBx(hb:0<b)(hb2:b<1073741824):∀(ds:List D) (x:Int) (s:Slot),(∀d∈ds,∃n:Int,d= .int n)->
  ∃y s',forL (gnm 4) (bZ 3 (op2 aAb (aD 3) (aD 2))) ds [.sh (.int c),.sh (.int k),.sh (.int b),.sh (.int x),s,.no]= .nx [.sh (.int c),.sh (.int k),.sh (.int b),.sh (.int y),s',.no]
 |[],x,s,_=>⟨x,s,rfl⟩
 |d::ds,x,s,h=>by
  have ih:=aBx hb hb2 (c:=c) (k:=k) ds (x / b) (.sh d) λ e he=>h e (zAH _ he)
  rw[sX];simp[aBo hb hb2];exact ih
def iV(hk0:0<=k)(hk1:k<2^40)(hb:0<b)(hb2:b<1073741824):∃r:Int,aR [.int c,.int k,.int b]= .ok (.int r)/\0<=r/\r<b:=by
 have hp:aNh (.int 10) (.int 18)= .ok (.int 1000000000000000000):=rfl;by_cases hc:(1000000000000000000:Int)<=c
 .have hr:=ju (j:=k) (by lia) (by lia)
  obtain⟨y,s',e⟩:=aBx hb hb2 (c:=c) (k:=k) (dO 0 k) c .no λ d hd=>let⟨n,e,_⟩:=mL.mp hd;⟨n,e⟩
  refine⟨y%b,?_,zD6 _ (by lia),zCx _ hb⟩;simp[aR,iu,aa,hp,hc,hr,e,oM hb]
 .have s1:∀z:Int,0<=z%2147483647/\z%2147483647<2147483647:=λ z=>⟨zD6 _ (by decide),zCx _ (by decide)⟩
  have s2:∀z:Int,0<=z%2147483629/\z%2147483629<2147483629:=λ z=>⟨zD6 _ (by decide),zCx _ (by decide)⟩
  have m1:∀z,jb (.int 1009) (.int z)= .ok (.int (1009*z)):=λ z=>aFS (by decide) (by decide)
  have m2:∀z,jb (.int z) (.int 69621)= .ok (.int (z*69621)):=λ z=>aJQ (by decide) (by decide)
  have m3:∀z,jb (.int 40503) (.int z)= .ok (.int (40503*z)):=λ z=>aFS (by decide) (by decide)
  have m4:∀z,jb (.int z) (.int 48271)= .ok (.int (z*48271)):=λ z=>aJQ (by decide) (by decide)
  have m5:∀z:Int,jb (.int (z%2147483647)) (.int (z%2147483647))= .ok (.int (z%2147483647*(z%2147483647))):=λ z=>aFS (by have:=s1 z;lia) (by have:=s1 z;lia)
  have d1:∀z,uY (.int z) (.int 1000000007)= .ok (.int (z%1000000007)):=λ z=>oM (by decide)
  have d2:∀z,uY (.int z) (.int 2147483647)= .ok (.int (z%2147483647)):=λ z=>oM (by decide)
  have d3:∀z,uY (.int z) (.int 2147483629)= .ok (.int (z%2147483629)):=λ z=>oM (by decide)
  have d4:∀z,aAb (.int z) (.int 32)= .ok (.int (z / 32)):=λ z=>aBo (by decide) (by decide)
  have d5:∀z,uY (.int z) (.int b)= .ok (.int (z%b)):=λ z=>oM hb
  simp[aR,iu,aa,hp,hc,m1,m2,m3,m4,m5,d1,d2,d3,d4,d5,-Int.emod_emod_of_dvd];exact⟨zD6 _ (by lia),zCx _ hb⟩
def sY(hk0:0<=k)(hk1:k<2^40)(hb:0<b)(hb2:b<1073741824):∃r:Nat,aR [.int c,.int k,.int b]= .ok (.int r)/\(r:Int)<b:=by
 obtain⟨r,e,h0,h1⟩:=iV (c:=c) hk0 hk1 hb hb2;exact⟨r.toNat,by rw[zAn h0];exact e,by lia⟩
def aM0(h:0<=k):∃c:Int,iM [.scr ns,.int k]= .ok (.int c):=by
 by_cases hk:k<ns.length
 .obtain⟨d,e,hm,_⟩:=aOs (l:=ns.map .int) (i:=k) h (by simpa using hk)
  obtain⟨c,_,rfl⟩:=zAY.mp hm;exact⟨c,by simp[iM,eF,aa,hk,e]⟩
 .exact⟨0,by simp[iM,eF,aa,hk]⟩
mutual
def pln:D->Bool
 | .tup l=>jP l
 | .lst l=>jP l
 | .set _=>false
 | .scr _=>false
 | .fn _=>false
 | .itm _ _=>false
 |_=>true
def jP:List D->Bool
 |[]=>true
 |d::r=>pln d&&jP r
end
def sG(h:pln d=true):knd d=true:=by cases d<;>first|rfl|(simp[pln]at h)
theorem aAG:∀{l:List D} {d:D},jP l=true->d∈l->pln d=true
 |x::r,d,h,hm=>by
  simp only[jP,zAN]at h;rcases zAO.mp hm with rfl|hm
  .exact h.1
  .exact aAG h.2 hm
theorem aGP:∀{l:List D},(∀d∈l,pln d=true)->jP l=true
 |[],_=>rfl
 |x::r,h=>by
  simp only[jP,zAN];exact⟨h x (zAI ..),aGP λ d hd=>h d (zAH _ hd)⟩
def aEf:D->Bool
 | .int _=>true
 |_=>false
def tU:D->Bool
 | .int i=>decide (0<=i)&&decide (i<=60)
 |_=>false
def cg(m:Int):D->Bool
 | .int i=>decide (0<=i)&&decide (i<m)
 |_=>false
def yF(h:knd d=true):m8 [d]= .ok (.bl (aEf d)):=by
 simp[m8,jg,aa,aLp h,aJg h];cases d<;>rfl
def pZ(h:knd d=true):ou [d]= .ok (.bl (tU d)):=by
 simp[ou,lR,aa,yF h];cases d<;>simp[aEf,tU]
 rename_i i;by_cases h0:0<=i<;>simp[h0]
def rJ(h:knd d=true):fQ [.int m,d]= .ok (.bl (cg m d)):=by
 simp[fQ,jh,aa,yF h];cases d<;>simp[aEf,cg]
 rename_i i;by_cases h0:0<=i<;>simp[h0]
def mJ(m:Int):D->Bool
 | .tup [.int a,.int b]=>decide (0<=a)&&decide (a<m)&&decide (0<=b)&&decide (b<m)&& !(a==b)
 |_=>false
def w5(h:cg m d=true):∃i:Int,d= .int i/\0<=i/\i<m:=by
 cases d with
 |int i=>simp[cg]at h;exact⟨i,rfl,h.1,h.2⟩
 |_=>simp[cg]at h
def aIC(h:ud d=true):∃l,d= .tup l:=by cases d<;>first|exact⟨_,rfl⟩|(cases h)
def aNK(h:l.length=2):∃x y,l=[x,y]:=by
 match l,h with
 |[x,y],_=>exact⟨x,y,rfl⟩
def aJG(h:ud d=false):mJ m d=false:=by cases d<;>first|rfl|(cases h)
def aHP(h:l.length≠2):mJ m (.tup l)=false:=by
 match l,h with
 |[],_=>rfl
 |[x],_=>cases x<;>rfl
 |[x,y],h=>exact absurd rfl h
 |x::y::z::r,_=>cases x<;>first|rfl|(cases y<;>rfl)
def aLU(h:cg m x=false):mJ m (.tup [x,y])=false:=by
 cases x with
 |int i=>
  cases y with
  |int j=>
   show((((decide (0<=i)&&decide (i<m))&&decide (0<=j))&&decide (j<m))&& !(i==j))=false
   rw[show(decide (0<=i)&&decide (i<m))=false from h];rfl
  |_=>rfl
 |_=>rfl
def aLT(h:cg m y=false):mJ m (.tup [.int i,y])=false:=by
 cases y with
 |int j=>
  show((((decide (0<=i)&&decide (i<m))&&decide (0<=j))&&decide (j<m))&& !(i==j))=false
  rw[zFb (decide (0<=i)&&decide (i<m)),show(decide (0<=j)&&decide (j<m))=false from h,zFc];rfl
 |_=>rfl
def aJF(h1:cg m (.int i)=true)(h2:cg m (.int j)=true):mJ m (.tup [.int i,.int j])= !(i==j):=by
 show((((decide (0<=i)&&decide (i<m))&&decide (0<=j))&&decide (j<m))&& !(i==j))= !(i==j)
 rw[zFb (decide (0<=i)&&decide (i<m)),show(decide (0<=j)&&decide (j<m))=true from h2,show(decide (0<=i)&&decide (i<m))=true from h1];rfl
def aO7(hk:knd d=true)(h:ud d=false):ipE [s,.sh d]= .rt (.bl false):=by simp[ipE,sS hk,h]
def aLs(h:l.length≠2):ipE [s,.sh (.tup l)]= .rt (.bl false):=by
 have:¬((l.length:Int)=2):=by omega
 simp[ipE,this]
def aLr:ipE [s,.sh (.tup [x,y])]= .nx [s,.sh (.tup [x,y])]:=by simp[ipE]
def aFb(h:pln d=true):o9 [.int m,d]= .ok (.bl (mJ m d)):=by
 have st:aa 2 [.int m,d]=[.sh (.int m),.sh d]:=rfl;simp only[o9,lQ,bC,st];cases ht:ud d with
 |false=>rw[aO,aO7 (sG h) ht,aJG ht];rfl
 |true=>
  obtain⟨l,rfl⟩:=aIC ht;by_cases hl:l.length=2
  .obtain⟨x,y,rfl⟩:=aNK hl
   simp only[pln,jP,zAN]at h;have hx:=rJ (m:=m) (sG h.1);have hy:=rJ (m:=m) (sG h.2.1);have ex:aK fQ (aA (aD 0) (aA (op2 ixD (aD 1) (cD (.int 0))) aF)) [.sh (.int m),.sh (.tup [x,y])]= .ok (.bl (cg m x)):=by simp[hx]
   have ey:aK fQ (aA (aD 0) (aA (op2 ixD (aD 1) (cD (.int 1))) aF)) [.sh (.int m),.sh (.tup [x,y])]= .ok (.bl (cg m y)):=by simp[hy]
   rw[aO,aLr,ak,bj,zT,ex,aM,aDF,zT,ey,aM,aDF];cases c1:cg m x with
   |false=>rw[aLU c1];rfl
   |true=>
    obtain⟨i,rfl,_,_⟩:=w5 c1;cases c2:cg m y with
    |false=>rw[aLT c2];rfl
    |true=>
     obtain⟨j,rfl,_,_⟩:=w5 c2;rw[aJF c1 c2];rfl
  .rw[aO,aLs hl,aHP hl];rfl
def pD(p:Int×Int):D:=.tup [.int p.1,.int p.2]
def ltP(p q:Int×Int):Bool:=HT.lexLt [p.1,p.2] [q.1,q.2]
def qY:gX->Bool
 |[]=>true
 |[_]=>true
 |p::q::r=>ltP p q&&qY (q::r)
def aJW(p q:Int×Int):ltD (pD p) (pD q)= .ok (.bl (ltP p q)):=aLi [p.1,p.2] [q.1,q.2]
theorem sW:∀(ds:List D) (ok:Nat->Bool) (I:En->Prop) (Y:En),I Y->(∀(i:Nat) d Y,ds[i]? =some d->I Y->okE (a d Y) u= .rt r/\ok i=false\/∃Y',okE (a d Y) u= .nx Y'/\I Y'/\ok i=true)->
  (forL a u ds Y= .rt r/\∃i,i<ds.length/\ok i=false)\/(∃Y',forL a u ds Y= .nx Y'/\I Y'/\∀i,i<ds.length->ok i=true)
 |[],ok,I,Y,h,_=>.inr ⟨Y,rfl,h,λ i hi=>absurd hi (zIB _)⟩
 |d::ds,ok,I,Y,h,hs=>by
  rw[sX];rcases hs 0 d Y rfl h with ⟨e,o⟩|⟨Y',e,h',o⟩
  .left
   refine⟨?_,0,by simp,o⟩;cases ea:a d Y with
   |ok Y1=>rw[ea]at e;simp at e ⊢;rw[e];rfl
   |ex c=>rw[ea]at e;cases e
   |st=>rw[ea]at e;cases e
  .have ih:=sW ds (λ i=>ok (i+1)) I Y' h' λ i d2 Y2 e2 h2=>hs (i+1) d2 Y2 (by simpa using e2) h2
   have e3:okE (a d Y) (λ Y1=>(u Y1).tn (forL a u ds))=forL a u ds Y':=by
    cases ea:a d Y with
    |ok Y1=>rw[ea]at e;simp at e ⊢;rw[e];rfl
    |ex c=>rw[ea]at e;cases e
    |st=>rw[ea]at e;cases e
   rw[e3];rcases ih with ⟨e4,i,hi,o4⟩|⟨Y4,e4,h4,o4⟩
   .exact .inl ⟨e4,i+1,by simpa using hi,o4⟩
   .refine .inr ⟨Y4,e4,h4,λ i hi=>?_⟩
    cases i with
    |zero=>exact o
    |succ i=>exact o4 i (by simpa using hi)
def kJ{i:Nat}(h:(dO lo hi)[i]? =some d):d= .int (lo+i)/\lo+i<hi:=by
 unfold dO at h;rw[zAR]at h;by_cases hi2:i<(hi-lo).toNat
 .rw[zGl hi2]at h
  cases h;exact⟨rfl,by omega⟩
 .rw[List.getElem?_eq_none (by simpa using hi2)]at h
  cases h
def jO:(dO lo hi).length=(hi-lo).toNat:=by unfold dO;simp
section
variable{α:Type}{f:α->D}{lt:α->α->Bool}
def mH(lt:α->α->Bool):List α->Bool
 |[]=>true
 |[_]=>true
 |p::q::r=>lt p q&&mH lt (q::r)
theorem oJ:∀{ps:List α},mH lt ps=true↔∀(i:Nat) (p q:α),ps[i]? =some p->ps[i+1]? =some q->lt p q=true
 |[]=>by simp[mH]
 |[x]=>by
  simp only[mH,true_iff];intro i p q _ h2;simp at h2
 |x::y::r=>by
  have ih:=oJ (ps:=y::r);unfold mH;rw[zAN,ih];constructor
  .rintro⟨h1,h2⟩ i p q e1 e2
   cases i with
   |zero=>simp at e1 e2;subst e1 e2;exact h1
   |succ i=>exact h2 i p q (by simpa using e1) (by simpa using e2)
  .intro h
   exact⟨h 0 x y rfl rfl,λ i p q e1 e2=>h (i+1) p q (by simpa using e1) (by simpa using e2)⟩
def yG(hlt:∀a b,ltD (f a) (f b)= .ok (.bl (lt a b)))(hl:ps.length<=100000):fD [.tup (ps.map f)]= .ok (.bl (mH lt ps)):=by
 have hr:=aCX (i:=1) (j:=(ps.length:Int)) (by decide) (by decide) (by omega) (by omega);have kK:(dO 1 (ps.length:Int)).length=ps.length-1:=by rw[jO];omega
 have L:=sW (a:=gnm 1) (u:=ifS (nj (tsb (op2 ltD (op2 ixD (aD 0) (op2 ux (aD 1) (cD (.int 1)))) (op2 ixD (aD 0) (aD 1))))) (retS (cD (.bl false))) Ou.nx) (r:=.bl false)
  (dO 1 (ps.length:Int)) (λ i=>match ps[i]?,ps[i+1]? with|some p,some q=>lt p q|_,_=>true) (λ Y=>∃s,Y=[.sh (.tup (ps.map f)),s]) [.sh (.tup (ps.map f)),.no] ⟨_,rfl⟩ (by
   rintro i d Y hd ⟨s,rfl⟩;obtain⟨rfl,h2⟩:=kJ hd;have e1:ps[i]? =some ps[i]:=zAB (by omega);have e2:ps[i+1]? =some ps[i+1]:=zAB (by omega);have a1:atD (ps.map f) (1+(i:Int)-1)= .ok (f ps[i]):=by
    rw[show(1+(i:Int)-1)=(i:Int)by omega];exact gD (by rw[zAR,e1];rfl)
   have a2:atD (ps.map f) (1+(i:Int))= .ok (f ps[i+1]):=by
    rw[show(1+(i:Int))=((i+1:Nat):Int)by omega];exact gD (by rw[zAR,e2];rfl)
   simp only[e1,e2];cases c:lt ps[i] ps[i+1]with
   |true=>right;exact⟨_,by simp[a1,a2,hlt,c];rfl,⟨_,rfl⟩,rfl⟩
   |false=>left;exact⟨by simp[a1,a2,hlt,c],rfl⟩)
 have st:aa 2 [.tup (ps.map f)]=[.sh (.tup (ps.map f)),.no]:=rfl;rcases L with ⟨e,i,hi,o⟩|⟨Y',e,⟨s,rfl⟩,o⟩
 .have:mH lt ps=false:=by
   cases c:mH lt ps with
   |false=>rfl
   |true=>
    rw[kK]at hi;have z:=oJ.mp c i ps[i] ps[i+1] (zAB (by omega)) (zAB (by omega));rw[zAB (by omega),zAB (by omega)]at o;simp only at o;rw[z]at o;cases o
  rw[this];simp only[fD,gU,bC,st];simp[hr,e]
 .have:mH lt ps=true:=oJ.mpr λ i p q e1 e2=>by
   have h2:=(zAK.mp e2).1
   have:=o i (by rw[kK];omega)
   rw[e1,e2]at this;exact this
  rw[this];simp only[fD,gU,bC,st];simp[hr,e]
end
theorem aCZ:∀ps:gX,qY ps=mH ltP ps
 |[]=>rfl
 |[_]=>rfl
 |p::q::r=>by unfold qY mH;rw[aCZ (q::r)]
def aCm(hl:ps.length<=100000):fD [.tup (ps.map pD)]= .ok (.bl (qY ps)):=by
 rw[aCZ];exact yG aJW hl
def ltI(a b:Int):Bool:=decide (a<b)
def aEM(hl:ps.length<=100000):fD [.tup (ps.map .int)]= .ok (.bl (mH ltI ps)):=yG (λ a b=>by rw[aCd];rfl) hl
def aCY:qY ps=true↔∀(i:Nat) (p q:Int×Int),ps[i]? =some p->ps[i+1]? =some q->ltP p q=true:=by rw[aCZ];exact oJ
def aIq:D->Int×Int
 | .tup [.int a,.int b]=>(a,b)
 |_=>(0,0)
def aAJ(h:mJ m d=true):∃a b:Int,d= .tup [.int a,.int b]/\0<=a/\a<m/\0<=b/\b<m/\a≠b:=by
 unfold mJ at h;split at h
 .rename_i a b
  simp at h;exact⟨a,b,rfl,h.1.1.1.1,h.1.1.1.2,h.1.1.2,h.1.2,h.2⟩
 .cases h
theorem aIo:∀{ts:List D},ts.all (mJ m)=true->(ts.map aIq).map pD=ts
 |[],_=>rfl
 |t::ts,h=>by
  rw[zFy,zAN]at h;obtain⟨a,b,rfl,_⟩:=aAJ h.1;simp only[zAE];rw[aIo h.2];rfl
def rpB(m:Int):D->Bool
 | .tup ts=>ts.all (mJ m)&&qY (ts.map aIq)
 |_=>false
def vA:D->Bool
 | .tup l=>decide (l.length<=100000)
 |_=>true
def eV(h:pln d=true)(hs:vA d=true):bW [.int m,d]= .ok (.bl (rpB m d)):=by
 cases d with
 |tup ts=>
  have hp:jP ts=true:=by simpa[pln]using h
  have hl:ts.length<=100000:=by simpa[vA]using hs
  have L:=sW (a:=gnm 2) (u:=ifS (nj (tst (aK o9 (aA (aD 0) (aA (aD 2) aF))))) (retS (cD (.bl false))) Ou.nx) (r:=.bl false)
   ts (λ i=>match ts[i]? with|some t=>mJ m t|none=>true) (λ Y=>∃s,Y=[.sh (.int m),.sh (.tup ts),s]) [.sh (.int m),.sh (.tup ts),.no] ⟨_,rfl⟩ (by
    rintro i d Y hd ⟨s,rfl⟩;have e:=aFb (m:=m) (aAG hp (zB1 hd));simp only[hd];cases c:mJ m d with
    |true=>right;exact⟨_,by simp[e,c];rfl,⟨_,rfl⟩,rfl⟩
    |false=>left;exact⟨by simp[e,c],rfl⟩)
  have st:aa 3 [.int m,.tup ts]=[.sh (.int m),.sh (.tup ts),.no]:=rfl;rcases L with ⟨e,i,hi,o⟩|⟨Y',e,⟨s,rfl⟩,o⟩
  .have:ts.all (mJ m)=false:=by
    rw[zEo];rw[zAB hi]at o;exact⟨ts[i],zCj hi,by simpa using o⟩
   simp only[bW,bw,bC,st];simp[e,rpB,this]
  .have:ts.all (mJ m)=true:=by
    rw[zA9];intro t ht;obtain⟨i,hi,rfl⟩:=zGm ht
    have:=o i hi
    rw[zAB hi]at this;exact this
   have er:=aCm (ps:=ts.map aIq) (by rw[zAF];exact hl);rw[aIo this]at er;simp only[bW,bw,bC,st];simp[e,rpB,this,er]
 |_=>simp[bW,bw,aa,sS (sG h),ud,rpB]
theorem kW:∀(ds:List D) (P:Nat->En->Prop) (Y:En),P 0 Y->(∀(i:Nat) d Y,ds[i]? =some d->P i Y->∃Y',okE (a d Y) u= .nx Y'/\P (i+1) Y')->∃Y',forL a u ds Y= .nx Y'/\P ds.length Y'
 |[],P,Y,h,_=>⟨Y,rfl,h⟩
 |d::ds,P,Y,h,hs=>by
  obtain⟨Y1,e,h1⟩:=hs 0 d Y rfl h;obtain⟨Y2,e2,h2⟩:=kW (a:=a) (u:=u) ds (λ i=>P (i+1)) Y1 h1 λ i d2 Y2 e2 h2=>hs (i+1) d2 Y2 (by simpa using e2) h2
  refine⟨Y2,?_,by simpa using h2⟩;rw[sX];cases ea:a d Y with
  |ok Y0=>rw[ea]at e;simp at e ⊢;rw[e];exact e2
  |ex c=>rw[ea]at e;cases e
  |st=>rw[ea]at e;cases e
def aA6(l:List α)(i:Int)(y:α):(eH l i y).Perm (y::l):=by
 unfold eH;generalize (if i<0 then(i+(l.length:Int)).toNat else min i.toNat l.length)=k
 have:(l.take k++y::l.drop k).Perm (y::(l.take k++l.drop k)):=zHd
 rwa [zBx]at this
def aHb(f:α->β)(l:List α)(i:Int)(y:α):eH (l.map f) i (f y)=(eH l i y).map f:=by
 unfold eH;rw[zAF,zBA,zAE,zGD,zGC]
structure aM6(n:Nat)(os:List Int):Prop where
 len:os.length=n
 nd:os.Nodup
 lo:∀x∈os,0<=x/\x<n
def yE{n:Nat}(h1:n<=60):∃os,jA [.int c,.int n]= .ok (.lst (os.map .int))/\aM6 n os:=by
 have hr:=ju (j:=(n:Int)) (by lia) (by lia);have kK:(dO 0 (n:Int)).length=n:=by rw[jO];lia
 obtain⟨Y',e,s,os,rfl,ho⟩:=kW (a:=gnm 3) (u:=aHa 2 (aK aR (aA (aD 0) (aA (op2 bY (cD (.int 100)) (aD 3)) (aA (op2 bY (aD 3) (cD (.int 1))) aF)))) (cP (aD 3))) (dO 0 (n:Int))
  (λ i Y=>∃s os,Y=[.sh (.int c),.sh (.int n),.ow (.lst (os.map .int)),s]/\aM6 i os) [.sh (.int c),.sh (.int n),.ow (.lst []),.no] ⟨.no,[],rfl,rfl,by simp,λ x hx=>by simp at hx⟩ (by
   rintro i d Y hd ⟨s,os,rfl,ho⟩;obtain⟨rfl,h2⟩:=kJ hd;obtain⟨r,er,r0,r1⟩:=iV (c:=c) (k:=100+(i:Int)) (b:=(i:Int)+1) (by lia) (by lia) (by lia) (by lia);have hz: -9223372036854775808<=r/\r<9223372036854775808/\os.length<16777216:=⟨by lia,by lia,by rw[ho.len];lia⟩;refine⟨[.sh (.int c),.sh (.int n),.ow (.lst ((eH os r (0+(i:Int))).map .int)),.sh (.int (0+(i:Int)))],?_,_,_,rfl,?_,?_,λ x hx=>?_⟩
   .rw[<-aHb]
    simp only[aA9,wy,aHa];simp[er,hz]
   .rw[sU,ho.len]
   .refine(aA6 os r _).nodup_iff.mpr (zBd.mpr ⟨λ hm=>?_,ho.nd⟩)
    have:=ho.lo _ hm
    lia
   .rcases zAO.mp ((aA6 os r _).mem_iff.mp hx)with q|q
    .lia
    .have:=ho.lo x q
     lia)
 rw[kK]at ho;refine⟨os,?_,ho⟩;simp[jA,jf,aa,hr,e]
def aHp:gX:=(zAh 8).flatMap λ(a:Nat)=>((zAh 8).filter λ b=>b !=a).map λ(b:Nat)=>((a:Int),(b:Int))
def aKZ(h0:0<=p.1)(h1:p.1<8)(h2:0<=p.2)(h3:p.2<8)(h4:p.1≠p.2):p∈aHp:=by
 unfold aHp;rw[zEB];refine⟨p.1.toNat,by simp;lia,?_⟩;rw[zAY];refine⟨p.2.toNat,?_,?_⟩
 .rw[zBY]
  refine⟨by simp;lia,?_⟩
  have:p.2.toNat≠p.1.toNat:=by lia
  simpa using this
 .have e1:((p.1.toNat:Nat):Int)=p.1:=zAn h0
  have e2:((p.2.toNat:Nat):Int)=p.2:=zAn h2;rw[e1,e2]
def pl(p:Int×Int):List Int:=[p.1,p.2]
def hp(p:Int×Int):Int:=hsh (pl p)
def aGf:List Int:=[(-1950498447580522560),7204814214171964562,(-4734289103435588629),1773351652666409796,(-3119722376306286570),(-1010439003188656273),(-5903513032161352639),(-5164621852614943976),(-3550055125485641917),(-1440771752368011620),(-6333845781340707986),173794974761290439,(-4719279054211405927),(-2609995681093775630),4685526799349444076,6794810172467074373,8409376899596376432,3516302870623680066,(-8422800446983873125),(-6313517073866242828),7240152970870612422,2248468952609198383,8756109708711196808,3863035679738500442,1079245023883434373,7586885779985432798,(-4352217537622120393),4803095124130366729,(-6348126469135965181),159514286966033244,(-9131917124991031250),(-2624276368889032825),(-1009709641759730766),1099573731357899531,(-3793500297614796835),(-3054609118068388172),3453031638033610253,(-5838399773923454241),669240982178544184,(-4223833046794152182),(-7007623702649218251),(-499982946547219826),(-5491666964808633865),8062003079928221385,(-3877100237679331806),2630540518422666619,(-6660890893534397875),(-153250137432399450),1461316589696902609,4358481687155754187,(-7580621630451799004),5973048414285056246,8082331787402686543,3189257758429990177,(-8749845559177563014),(-2242204803075564589)]
set_option maxRecDepth 1000000 in
def aE9:aHp.map hp=aGf:=by decide+kernel
set_option maxRecDepth 1000000 in
def aFg:aGf.Nodup:=by decide+kernel
def aCH:(aHp.map hp).Nodup/\aHp.length=56:=⟨by rw[aE9];exact aFg,by rw[<-zAF (f:=hp),aE9];rfl⟩
theorem aBa:∀{L:List α},(L.map f).Nodup->∀x∈L,∀y∈L,f x=f y->x=y
 |a::L,h,x,hx,y,hy,e=>by
  rw[zAE,zBd]at h;rcases zAO.mp hx with q|q
  .rcases zAO.mp hy with z|z
   .rw[q,z]
   .subst q
    exact absurd (zAY.mpr ⟨y,z,e.symm⟩) h.1
  .rcases zAO.mp hy with z|z
   .subst z
    exact absurd (zAY.mpr ⟨x,q,e⟩) h.1
   .exact aBa h.2 x q y z e
theorem sI:∀{l:List α},l.Nodup->(∀x∈l,∀y∈l,f x=f y->x=y)->(l.map f).Nodup
 |[],_,_=>by simp
 |a::l,h,hi=>by
  rw[zBd]at h;rw[zAE,zBd];refine⟨λ hm=>?_,sI h.2 λ x hx y hy e=>hi x (zAH _ hx) y (zAH _ hy) e⟩;obtain⟨x,hx,e⟩:=zAY.mp hm
  have:=hi x (zAH _ hx) a zAI e
  subst this;exact h.1 hx
structure Ow(n:Int)(ps:gX):Prop where
 n0:0<=n
 n1:n<=60
 len:ps.length<=3600
 pr:∀p∈ps,0<=p.1/\p.1<n/\0<=p.2/\p.2<n/\p.1≠p.2
 ris:qY ps=true
def owD(n:Int)(ps:gX):D:=.tup [.int n,.tup (ps.map pD)]
def aKg(p:Int×Int):tupI (pl p)=pD p:=rfl
def aIr(h:pl p=pl q):p=q:=by
 unfold pl at h;injection h with h1 h2
 injection h2 with h2 _
 exact zHD h1 h2
def aAz(nd:ps.Nodup):∃qs:gX,za (ps.map pl)=qs.map pl/\qs.Perm ps/\qY qs=true:=by
 obtain⟨qs,q1,q2⟩:=pU (f:=pl) (uJ (ps.map pl)) rfl;refine⟨qs,q2,q1,aCY.mpr λ i p q e1 e2=>?_⟩;have hr:=qj (ps.map pl);rw[q2]at hr;have hnd:qs.Nodup:=q1.nodup_iff.mpr nd;have h1:=(zAK.mp e1).1;have h2:=(zAK.mp e2).1;have f1:(qs.map pl)[i]'(by simpa using h1)=pl p:=by
  rw[zDP,(zAK.mp e1).2]
 have f2:(qs.map pl)[i+1]'(by simpa using h2)=pl q:=by
  rw[zDP,(zAK.mp e2).2]
 have z:=zCh.mp hr i (i+1) (by simpa using h1) (by simpa using h2) (by lia);rw[f1,f2]at z;have hne:p≠q:=λ e=>by
  subst e
  have:=(zDC h1 hnd).mp (e1.trans e2.symm)
  lia
 show HT.lexLt (pl p) (pl q)=true;cases c:HT.lexLt (pl p) (pl q)with
 |true=>rfl
 |false=>exact absurd (aIr (aAU _ _ c z)) hne
def aGv(ps:gX):uG (ps.map pD)=some (ps.map pl):=by
 have:=zX (nss:=ps.map pl) λ ns h=>by
  obtain⟨p,_,rfl⟩:=zAY.mp h;simp[pl]
 rw[zAl]at this;exact this
def ar(os:List Int)(q:Nat×Nat):Int×Int:=(os.getD q.1 0,os.getD q.2 0)
def aB7{os:List Int}{k:Nat}(h:k<os.length):atD (os.map D.int) (k:Int)= .ok (.int (os.getD k 0)):=gD (by rw[zAR,zAB h];simp[h])
def zU{n:Nat}(hn:n<=60){ip:List (Nat×Nat)}(nd:ip.Nodup)(h:∀q∈ip,q.1<n/\q.2<n):ip.length<=3600:=by
 have:=sub_len (l':=(zAh 60).flatMap λ a=>(zAh 60).map λ b=>(a,b)) nd λ q hq=>by
  rw[zEB]
  have:=h q hq
  exact⟨q.1,by simp;omega,zAY.mpr ⟨q.2,by simp;omega,rfl⟩⟩
 refine zAg this ?_;rw[List.length_flatMap];simp only[zAF,zDD];decide
def Ow.rp{n:Int}{ps:gX}(h:Ow n ps):rpB n (.tup (ps.map pD))=true:=by
 have e:(ps.map pD).map aIq=ps:=by rw[zAl];exact(zCL λ p _=>rfl).trans (List.map_id ps)
 unfold rpB;dsimp only;rw[e,h.ris,zDV,zA9];intro d hd;obtain⟨p,hp,rfl⟩:=zAY.mp hd;obtain⟨a,b,c,d,e⟩:=h.pr p hp;simp[pD,mJ,a,b,c,d,e]
theorem aC6:∀ps:gX,jP (ps.map pD)=true
 |[]=>rfl
 |p::ps=>by simp only[zAE,jP,aC6 ps,zDV];rfl
def tV{n:Int}{ps:gX}(h:Ow n ps):bA [owD n ps]= .ok (.bl true):=by
 have e1:=pZ (d:=.int n) rfl;have e2:=eV (m:=n) (d:=.tup (ps.map pD)) (by simpa[pln]using aC6 ps) (by have:=h.len;simp[vA];lia);rw[h.rp]at e2;have e3:tU (.int n)=true:=by simp[tU,h.n0,h.n1]
 rw[e3]at e1;simp[bA,dF,owD,aa,e1,e2]
def xR{n:Int}{ps:gX}(h:Ow n ps):fW [owD n ps]= .ok .non:=by
 have:=tV h
 simp[fW,dY,aa,this]
theorem aEZ:∀ns:List Int,di (ns.map .int)=0/\bQ (ns.map .int)=true
 |[]=>⟨rfl,rfl⟩
 |n::ns=>by
  obtain⟨h1,h2⟩:=aEZ ns;simp[di,oY,bQ,bO,h1,h2]
theorem aBy:∀ps:gX,di (ps.map pD)<=1/\bQ (ps.map pD)=true
 |[]=>⟨by simp[di],rfl⟩
 |p::ps=>by
  obtain⟨h1,h2⟩:=aBy ps;simp[di,oY,bQ,bO,h2,pD,h1]
theorem aCe{Y:En}{fg:D->En->Rs En}{fe:En->Rs D}{g:D->D}:∀(ds:List D),(∀d∈ds,∃Y1,fg d Y= .ok Y1/\fe Y1= .ok (g d))->lcL Y fg cj fe ds= .ok (ds.map g)
 |[],_=>rfl
 |d::ds,h=>by
  obtain⟨Y1,e1,e2⟩:=h d zAI;have ih:=aCe ds λ e he=>h e (zAH _ he)
  unfold lcL;rw[e1,aM,aKc,aM,if_pos rfl,e2,aM,ih,aM];rfl
def aDB{α:Type}(f:α->Bool)(l:List α):boolsOf (l.map λ x=>D.bl (f x))=some (l.map f):=by
 have:=yP (l.map f)
 rwa [zAl]at this
def wH{α:Type}(f:α->Bool)(l:List α):wI (λ bs=>bs.all id) [.lst (l.map λ x=>D.bl (f x))]= .ok (.bl (l.all f)):=by
 unfold wI;dsimp only;rw[aDB];dsimp only;rw[zI2];rfl
theorem aCf{α:Type}{Y:En}{fg:D->En->Rs En}{ft:En->Rs Bool}{fe:En->Rs D}{f g:α->D}{t:α->Bool}:∀(l:List α),(∀x∈l,∃Y1,fg (f x) Y= .ok Y1/\ft Y1= .ok (t x)/\fe Y1= .ok (g x))->lcL Y fg ft fe (l.map f)= .ok ((l.filter t).map g)
 |[],_=>rfl
 |x::l,h=>by
  obtain⟨Y1,e1,e2,e3⟩:=h x zAI;have ih:=aCf l λ y hy=>h y (zAH _ hy)
  rw[zAE];unfold lcL;rw[e1,aM,e2,aM,e3,aM,ih,aM,List.filter_cons];cases t x<;>rfl
def intOf:D->Int
 | .int i=>i
 |_=>0
def ig(h1:fi (shE Y)= .ok ds)(h2:ds.length<16777216)(h3:lcL (stE js (shE Y)) fg ft fe ds= .ok out):lcD fi js fg ft fe Y= .ok (.lst out):=by
 unfold lcD;rw[h1,aM,if_pos (by rw[szl];exact h2),h3]
def jT{α:Type}{f g:α->D}(l:List α)(h:∀x∈l,∃Y1,fg (f x) Y= .ok Y1/\fe Y1= .ok (g x)):lcL Y fg cj fe (l.map f)= .ok (l.map g):=by
 have:=aCf (Y:=Y) (fg:=fg) (ft:=cj) (fe:=fe) (f:=f) (g:=g) (t:=λ _=>true) l λ x hx=>by
  obtain⟨Y1,h1,h2⟩:=h x hx;exact⟨Y1,h1,rfl,h2⟩
 rwa [List.filter_eq_self.mpr λ _ _=>rfl]at this
def aKV{α:Type}{f:α->Bool}{l:List α}(h:fe Y= .ok (.lst (l.map λ x=>.bl (f x)))):opA (wI λ bs=>bs.all id) (aA fe aF) Y= .ok (.bl (l.all f)):=by
 rw[gJ,aU,h,aM,dD,aM,aM,wH,j8]
def aKY:gX:=(zAh 9).flatMap λ(a:Nat)=>((zAh 9).filter λ b=>b !=a).map λ(b:Nat)=>((a:Int),(b:Int))
def aKW(h0:0<=p.1)(h1:p.1<9)(h2:0<=p.2)(h3:p.2<9)(h4:p.1≠p.2):p∈aKY:=by
 unfold aKY;rw[zEB];refine⟨p.1.toNat,by simp;lia,?_⟩;rw[zAY];refine⟨p.2.toNat,?_,?_⟩
 .rw[zBY]
  refine⟨by simp;lia,?_⟩
  have:p.2.toNat≠p.1.toNat:=by lia
  simpa using this
 .have e1:((p.1.toNat:Nat):Int)=p.1:=zAn h0
  have e2:((p.2.toNat:Nat):Int)=p.2:=zAn h2;rw[e1,e2]
def aGe:List Int:=[(-1950498447580522560),7204814214171964562,(-4734289103435588629),1773351652666409796,(-3119722376306286570),(-1010439003188656273),(-5903513032161352639),604127723940645786,(-5164621852614943976),(-3550055125485641917),(-1440771752368011620),(-6333845781340707986),173794974761290439,(-4719279054211405927),(-2609995681093775630),3897645075008222795,4685526799349444076,6794810172467074373,8409376899596376432,3516302870623680066,(-8422800446983873125),(-6313517073866242828),7240152970870612422,(-4698950346736940769),2248468952609198383,8756109708711196808,3863035679738500442,1079245023883434373,7586885779985432798,(-4352217537622120393),4803095124130366729,(-7136008193477186462),(-6348126469135965181),159514286966033244,(-9131917124991031250),(-2624276368889032825),(-1009709641759730766),1099573731357899531,(-3793500297614796835),2714140458487201590,(-3054609118068388172),3453031638033610253,(-5838399773923454241),669240982178544184,(-4223833046794152182),(-7007623702649218251),(-499982946547219826),6007657809554778599,(-5491666964808633865),8062003079928221385,(-3877100237679331806),2630540518422666619,(-6660890893534397875),(-153250137432399450),1461316589696902609,3570599962814532906,4358481687155754187,(-7580621630451799004),5973048414285056246,8082331787402686543,3189257758429990177,(-8749845559177563014),(-2242204803075564589),(-5025995458930630658),1921423840415508494,8429064596517506919,3535990567544810553,(-8403112750062742638),752199911689744484,7259840667791742909,(-4679262649815810282),8874407394921044968]
set_option maxRecDepth 1000000 in
def aKX:aKY.map hp=aGe:=by decide+kernel
set_option maxRecDepth 1000000 in
def aFf:aGe.Nodup:=by decide+kernel
theorem aKO:∀(l acc:gV),(acc++l).Nodup->l.foldl (λ acc x=>if x∈acc then acc else acc++[x]) acc=acc++l
 |[],acc,_=>by simp
 |x::l,acc,nd=>by
  rw[zBn,if_neg λ h=>(zB9.mp nd).2.2 x h x zAI rfl,aKO l _ (by rw[zBU];exact nd),zBU];rfl
def xj{L ps:gX}(hL:(L.map hp).Nodup)(nd:ps.Nodup)(hin:∀p∈ps,p∈L)(kK:ps.length<64):∃qs:gX,dI [.lst (ps.map pD)]= .ok (.lst (qs.map pD))/\qs.Perm ps/\qY qs=true:=by
 obtain⟨qs,q1,q2,q3⟩:=aAz nd;have hb:aMG (ps.map pl)=true:=by
  unfold aMG;rw[zA9];intro a ha;rw[zA9];intro b hb;obtain⟨p,hp1,rfl⟩:=zAY.mp ha;obtain⟨q,hq1,rfl⟩:=zAY.mp hb;by_cases e:hsh (pl p)=hsh (pl q)
  .have:=aBa (f:=hp) hL p (hin p hp1) q (hin q hq1) e
   subst this;simp
  .have:(hsh (pl p)!=hsh (pl q))=true:=by simpa using e
   rw[this,zIT]
 have hdd:ddT (ps.map pl)=ps.map pl:=aKO _ [] (by rw[zD3];exact sI nd λ x _ y _ e=>aIr e);refine⟨qs,?_,q2,q3⟩;show lr 64 (ps.map pD)=_;unfold lr;rw[aGv];dsimp only;rw[hdd,if_pos ⟨by rw[zAF];exact kK,hb⟩,q1,zAl];exact congrArg (λ l=>Rs.ok (D.lst l)) (zCL λ p _=>aKg p)
def zb{ps:gX}(nd:ps.Nodup)(h8:∀p∈ps,0<=p.1/\p.1<8/\0<=p.2/\p.2<8/\p.1≠p.2):∃qs:gX,dI [.lst (ps.map pD)]= .ok (.lst (qs.map pD))/\qs.Perm ps/\qY qs=true:=by
 have hin:∀p∈ps,p∈aHp:=λ p hp=>by
  obtain⟨a,b,c,d,e⟩:=h8 p hp;exact aKZ a b c d e
 have kK:=sub_len nd hin;rw[aCH.2]at kK;exact xj aCH.1 nd hin (by lia)
def aPv:gX:=aKY.filter λ p=>decide (p.1<p.2)
def aJZ:aPv.length=36:=by decide+kernel
def aJY{ps:gX}(h:∀p∈ps,0<=p.1/\p.1<p.2/\p.2<9):∀p∈ps,p∈aPv:=λ p hp=>by
 obtain⟨a,b,c⟩:=h p hp;exact zBY.mpr ⟨aKW a (by lia) (by lia) c (by lia),decide_eq_true b⟩
def aCO{ps:gX}(nd:ps.Nodup)(h:∀p∈ps,0<=p.1/\p.1<p.2/\p.2<9):∃qs:gX,dI [.lst (ps.map pD)]= .ok (.lst (qs.map pD))/\qs.Perm ps/\qY qs=true/\ps.length<=36:=by
 have kK:=sub_len nd (aJY h);rw[aJZ]at kK;obtain⟨qs,a,b,c⟩:=xj (L:=aKY) (by rw[aKX];exact aFf) nd (λ p hp=>(zBY.mp (aJY h p hp)).1) (by lia);exact⟨qs,a,b,c,kK⟩
abbrev owE(c most:Int)(n kd:Nat)(t:Int)(os:List Int)(ip:List (Nat×Nat))(sp:Int)(s8 s9 s10:Slot):En:=
 [.sh (.int c),.sh (.int most),.sh (.int n),.sh (.int kd),.nw (.int t),.sh (.lst (os.map .int)),.ow (.lst ((ip.map (ar os)).map pD)),.sh (.int sp),s8,s9,s10]
def aFN{c most t sp:Int}{n kd a b:Nat}{os:List Int}{ip:List (Nat×Nat)}{s8 s9 s10:Slot}{f g:En->Rs D}(hz:ip.length<16777216)(ha:a<os.length)(hb:b<os.length)
  (h1:f (owE c most n kd t os ip sp s8 s9 s10)= .ok (.int a))(h2:g (owE c most n kd t os ip sp s8 s9 s10)= .ok (.int b)):
  yt 6 (jD (aA (cP (op2 ixD (aD 5) f)) (aA (cP (op2 ixD (aD 5) g)) aF))) (owE c most n kd t os ip sp s8 s9 s10)= .nx (owE c most n kd t os (ip++[(a,b)]) sp s8 s9 s10):=by
 simp[yt,h1,h2,aB7 ha,aB7 hb,hz,ar,pD]
structure Ips(n kd j i:Nat)(ip:List (Nat×Nat)):Prop where
 nd:ip.Nodup
 ok:∀q∈ip,q.1≠q.2/\q.1<n/\q.2<n/\((q.1<j/\q.2<j)\/(q.1=j/\q.2<i)\/(q.2=j/\q.1<i))/\(kd=6->q.1<q.2)
def aJH{c most t:Int}{n kd j:Nat}{os:List Int}(hn:n<=60)(hj:j<n)(ho:aM6 n os)(ht:kd=6->t=1){ip:List (Nat×Nat)}{sp:Int}{s9 s10:Slot}(h0:0<=sp)(h1:sp<=2+60*j)(hip:Ips n kd j 0 ip):
  ∃ip' sp' s9' s10',forL (gnm 9) aJI (dO 0 (j:Int)) (owE c most n kd t os ip sp (.sh (.int j)) s9 s10)= .nx (owE c most n kd t os ip' sp' (.sh (.int j)) s9' s10')/\0<=sp'/\sp'<=2+60*(j+1)/\Ips n kd (j+1) 0 ip':=by
 have kK:(dO 0 (j:Int)).length=j:=by rw[jO];omega
 obtain⟨Y',e,ip',sp',s9',s10',rfl,q0,q1,q2⟩:=kW (a:=gnm 9) (u:=aJI) (dO 0 (j:Int))
  (λ i Y=>∃ip sp s9 s10,Y=owE c most n kd t os ip sp (.sh (.int j)) s9 s10/\0<=sp/\sp<=2+60*j+i/\Ips n kd j i ip) (owE c most n kd t os ip sp (.sh (.int j)) s9 s10) ⟨ip,sp,s9,s10,rfl,h0,by omega,hip⟩ (by
   rintro i d Y hd ⟨ip,sp,s9,s10,rfl,p0,p1,p2⟩;obtain⟨rfl,hlt⟩:=kJ hd;have hij:i<j:=by omega
   obtain⟨h,eh,hh0,hh1⟩:=iV (c:=c) (k:=sp+1) (b:=8) (by omega) (by omega) (by decide) (by decide);obtain⟨g,eg,hg0,hg1⟩:=iV (c:=c) (k:=sp+1+50) (b:=8) (by omega) (by omega) (by decide) (by decide);have hzl:=zU hn p2.nd λ q hq=>⟨(p2.ok q hq).2.1,(p2.ok q hq).2.2.1⟩
   have hi':i<os.length:=by rw[ho.len];omega
   have hj':j<os.length:=by rw[ho.len];omega
   have st1:∃ip1,aLW (owE c most n kd t os ip (sp+1) (.sh (.int j)) (.sh (.int i)) (.sh (.int h)))= .nx (owE c most n kd t os ip1 (sp+1) (.sh (.int j)) (.sh (.int i)) (.sh (.int h)))/\(ip1=ip\/ip1=ip++[(i,j)]):=by
    have hc:(orT (tsb (op2 ltD (aD 10) (jZ 4))) (o6 (tsb (op2 (eqR false) (aD 3) (cD (.int 6)))) (tsb (op2 (eqR false) (aD 8) (op2 bY (aD 9) (cD (.int 1))))))) (owE c most n kd t os ip (sp+1) (.sh (.int j)) (.sh (.int i)) (.sh (.int h)))= .ok (decide (h<t)||((kd:Int)==6&&(j:Int)==(i:Int)+1)):=by
     have eA:tsb (op2 ltD (aD 10) (jZ 4)) (owE c most n kd t os ip (sp+1) (.sh (.int j)) (.sh (.int i)) (.sh (.int h)))= .ok (decide (h<t)):=rfl;have eB:tsb (op2 (eqR false) (aD 3) (cD (.int 6))) (owE c most n kd t os ip (sp+1) (.sh (.int j)) (.sh (.int i)) (.sh (.int h)))= .ok ((kd:Int)==6):=rfl;have eC:tsb (op2 (eqR false) (aD 8) (op2 bY (aD 9) (cD (.int 1)))) (owE c most n kd t os ip (sp+1) (.sh (.int j)) (.sh (.int i)) (.sh (.int h)))= .ok ((j:Int)==(i:Int)+1):=rfl;rw[mK,eA,gF,eB,eC];cases decide (h<t)<;>cases (kd:Int)==6<;>rfl
    cases hb:(decide (h<t)||((kd:Int)==6&&(j:Int)==(i:Int)+1))with
    |true=>
     refine⟨_,?_,.inr rfl⟩;rw[hb]at hc;simp only[aLW,bU,hc,bK,if_pos];exact aFN (by omega) hi' hj' (by simp) (by simp)
    |false=>
     refine⟨_,?_,.inl rfl⟩;rw[hb]at hc;simp only[aLW,bU,hc,bK];rfl
   obtain⟨ip1,e1,c1⟩:=st1;have st2:∃ip2,aLV (owE c most n kd t os ip1 (sp+1) (.sh (.int j)) (.sh (.int i)) (.sh (.int h)))= .nx (owE c most n kd t os ip2 (sp+1) (.sh (.int j)) (.sh (.int i)) (.sh (.int h)))/\(ip2=ip1\/(ip2=ip1++[(j,i)]/\kd≠6)):=by
    have hl1:ip1.length<16777216:=by rcases c1 with q|q<;>rw[q]<;>first|omega|(simp;omega)
    have hc:(orT (o6 (tsb (op2 gtD (aD 3) (cD (.int 2)))) (o6 (tsb (op2 (eqR true) (aD 3) (cD (.int 7)))) (tsb (op2 ltD (aK aR (aA (aD 0) (aA (op2 bY (aD 7) (cD (.int 50))) (aA (cD (.int 8)) aF)))) (op2 ux (jZ 4) (cD (.int 1))))))) (o6 (tsb (op2 (eqR false) (aD 3) (cD (.int 7)))) (tsb (op2 ltD (aD 10) (cD (.int 3)))))) (owE c most n kd t os ip1 (sp+1) (.sh (.int j)) (.sh (.int i)) (.sh (.int h)))
      = .ok (decide (2<(kd:Int))&& !((kd:Int)==7)&&decide (g<t-1)||((kd:Int)==7&&decide (h<3))):=by
     have eA:tsb (op2 gtD (aD 3) (cD (.int 2))) (owE c most n kd t os ip1 (sp+1) (.sh (.int j)) (.sh (.int i)) (.sh (.int h)))= .ok (decide (2<(kd:Int))):=rfl;have eB:tsb (op2 (eqR true) (aD 3) (cD (.int 7))) (owE c most n kd t os ip1 (sp+1) (.sh (.int j)) (.sh (.int i)) (.sh (.int h)))= .ok (!((kd:Int)==7)):=rfl;have eC:tsb (op2 ltD (aK aR (aA (aD 0) (aA (op2 bY (aD 7) (cD (.int 50))) (aA (cD (.int 8)) aF)))) (op2 ux (jZ 4) (cD (.int 1)))) (owE c most n kd t os ip1 (sp+1) (.sh (.int j)) (.sh (.int i)) (.sh (.int h)))= .ok (decide (g<t-1)):=by
      have e0:aA (aD 0) (aA (op2 bY (aD 7) (cD (.int 50))) (aA (cD (.int 8)) aF)) (owE c most n kd t os ip1 (sp+1) (.sh (.int j)) (.sh (.int i)) (.sh (.int h)))= .ok [.int c,.int (sp+1+50),.int 8]:=rfl;rw[du,bR,bx,e0,aM,eg];rfl
     have eD:tsb (op2 (eqR false) (aD 3) (cD (.int 7))) (owE c most n kd t os ip1 (sp+1) (.sh (.int j)) (.sh (.int i)) (.sh (.int h)))= .ok ((kd:Int)==7):=rfl;have eE:tsb (op2 ltD (aD 10) (cD (.int 3))) (owE c most n kd t os ip1 (sp+1) (.sh (.int j)) (.sh (.int i)) (.sh (.int h)))= .ok (decide (h<3)):=rfl;rw[mK,gF,eA,gF,eB,eC,gF,eD,eE];cases decide (2<(kd:Int))<;>cases (kd:Int)==7<;>cases decide (g<t-1)<;>rfl
    cases hb:(decide (2<(kd:Int))&& !((kd:Int)==7)&&decide (g<t-1)||((kd:Int)==7&&decide (h<3)))with
    |true=>
     refine⟨_,?_,.inr ⟨rfl,λ k6=>?_⟩⟩
     .rw[hb]at hc
      simp only[aLV,bU,hc,bK,if_pos];exact aFN hl1 hj' hi' (by simp) (by simp)
     .have:=ht k6
      subst k6;simp at hb;omega
    |false=>
     refine⟨_,?_,.inl rfl⟩;rw[hb]at hc;simp only[aLV,bU,hc,bK];rfl
   obtain⟨ip2,e2,c2⟩:=st2;refine⟨_,?_,ip2,sp+1,.sh (.int i),.sh (.int h),rfl,by omega,by omega,?_⟩
   .have s7:bZ 7 (op2 bY (aD 7) (cD (.int 1))) (owE c most n kd t os ip sp (.sh (.int j)) (.sh (.int i)) s10)= .nx (owE c most n kd t os ip (sp+1) (.sh (.int j)) (.sh (.int i)) s10):=by first|rfl|simp
    have s11:bZ 10 (aK aR (aA (aD 0) (aA (aD 7) (aA (cD (.int 8)) aF)))) (owE c most n kd t os ip (sp+1) (.sh (.int j)) (.sh (.int i)) s10)= .nx (owE c most n kd t os ip (sp+1) (.sh (.int j)) (.sh (.int i)) (.sh (.int h))):=by simp[eh]
    rw[zFD];show aJI (owE c most n kd t os ip sp (.sh (.int j)) (.sh (.int i)) s10)=_;unfold aJI;rw[aO,s7,ak,aO,s11,ak,aO,e1,ak,e2]
   .have b9:∀q∈ip,q.1≠q.2/\q.1<n/\q.2<n/\((q.1<j/\q.2<j)\/(q.1=j/\q.2<i+1)\/(q.2=j/\q.1<i+1))/\(kd=6->q.1<q.2):=λ q hq=>by
     obtain⟨a1,a2,a3,a4,a5⟩:=p2.ok q hq;exact⟨a1,a2,a3,a4.imp_right (Or.imp (λ z=>⟨z.1,zC9 z.2⟩) λ z=>⟨z.1,zC9 z.2⟩),a5⟩
    have n1:(i,j)∉ip:=λ hm=>by
     obtain⟨_,_,_,a4,_⟩:=p2.ok _ hm;simp only at a4;omega
    have n2:(j,i)∉ip:=λ hm=>by
     obtain⟨_,_,_,a4,_⟩:=p2.ok _ hm;simp only at a4;omega
    have bX:∀q:Nat×Nat,q=(i,j)->q.1≠q.2/\q.1<n/\q.2<n/\((q.1<j/\q.2<j)\/(q.1=j/\q.2<i+1)\/(q.2=j/\q.1<i+1))/\(kd=6->q.1<q.2):=λ q hq=>by
     subst hq;exact⟨zA7 hij,zDh hij hj,hj,.inr (.inr ⟨rfl,zCQ i⟩),λ _=>hij⟩
    have htwo:kd≠6->∀q:Nat×Nat,q=(j,i)->q.1≠q.2/\q.1<n/\q.2<n/\((q.1<j/\q.2<j)\/(q.1=j/\q.2<i+1)\/(q.2=j/\q.1<i+1))/\(kd=6->q.1<q.2):=λ hk q hq=>by
     subst hq;exact⟨zBz hij,hj,zDh hij hj,.inr (.inl ⟨rfl,zCQ i⟩),λ z=>absurd z hk⟩
    have hij2:((i,j):Nat×Nat)≠(j,i):=λ z=>by injection z with z1 z2;omega
    rcases c1 with rfl|rfl<;>rcases c2 with rfl|⟨rfl,hk⟩
    .exact⟨p2.nd,b9⟩
    .refine⟨zB9.mpr ⟨p2.nd,by simp,λ x hx y hy z=>?_⟩,λ q hq=>?_⟩
     .rw[zA8]at hy;subst hy;subst z;exact n2 hx
     .rcases zAx.mp hq with z|z
      .exact b9 q z
      .exact htwo hk q (zA8.mp z)
    .refine⟨zB9.mpr ⟨p2.nd,by simp,λ x hx y hy z=>?_⟩,λ q hq=>?_⟩
     .rw[zA8]at hy;subst hy;subst z;exact n1 hx
     .rcases zAx.mp hq with z|z
      .exact b9 q z
      .exact bX q (zA8.mp z)
    .refine⟨zB9.mpr ⟨zB9.mpr ⟨p2.nd,by simp,λ x hx y hy z=>?_⟩,by simp,λ x hx y hy z=>?_⟩,λ q hq=>?_⟩
     .rw[zA8]at hy;subst hy;subst z;exact n1 hx
     .rw[zA8]at hy
      subst hy;subst z;rcases zAx.mp hx with z|z
      .exact n2 z
      .exact hij2 (zA8.mp z).symm
     .rcases zAx.mp hq with z|z
      .rcases zAx.mp z with z|z
       .exact b9 q z
       .exact bX q (zA8.mp z)
      .exact htwo hk q (zA8.mp z))
 rw[kK]at q1 q2;refine⟨ip',sp',s9',s10',e,q0,by omega,q2.nd,λ q hq=>?_⟩;obtain⟨a1,a2,a3,a4,a5⟩:=q2.ok q hq;exact⟨a1,a2,a3,.inl (by omega),a5⟩
def aID{kd:Nat}(h:kd<8):∃t:Int,atD ([1,2,4,2,3,6,1,3].map D.int) (kd:Int)= .ok (.int t)/\(kd=6->t=1):=by
 have:=aB7 (os:=[1,2,4,2,3,6,1,3]) (k:=kd) (by simpa using h)
 refine⟨_,this,λ k6=>by subst k6;rfl⟩
def aA0{c:Int}{most:Nat}(h1:most<=8):∃n ps,iK [.int c,.int most]= .ok (owD n ps)/\Ow n ps/\n<=(most:Int):=by
 obtain⟨n,en,hn⟩:=sY (c:=c) (k:=0) (b:=(most:Int)+1) (by decide) (by decide) (by omega) (by omega);obtain⟨kd,ek,hk⟩:=sY (c:=c) (k:=1) (b:=8) (by decide) (by decide) (by decide) (by decide);have hn8:n<=8:=by omega
 obtain⟨t,et,ht⟩:=aID (kd:=kd) (by omega);obtain⟨os,eo,ho⟩:=yE (c:=c) (n:=n) (by omega);have hr1:=ju (j:=(n:Int)) (by omega) (by omega);have kK:(dO 0 (n:Int)).length=n:=by rw[jO];omega
 obtain⟨Y',e,ip,sp,s8,s9,s10,rfl,_,_,hip⟩:=kW (a:=gnm 8) (u:=aGU) (dO 0 (n:Int))
  (λ j Y=>∃ip sp s8 s9 s10,Y=owE c most n kd t os ip sp s8 s9 s10/\0<=sp/\sp<=2+60*j/\Ips n kd j 0 ip) (owE c most n kd t os [] 2 .no .no .no) ⟨[],2,.no,.no,.no,rfl,by omega,by omega,by simp,λ q hq=>by simp at hq⟩ (by
   rintro j d Y hd ⟨ip,sp,s8,s9,s10,rfl,p0,p1,p2⟩;obtain⟨rfl,hlt⟩:=kJ hd;have hr2:=ju (j:=(j:Int)) (by omega) (by omega);obtain⟨ip',sp',s9',s10',e,q0,q1,q2⟩:=aJH (c:=c) (most:=most) (t:=t) (n:=n) (kd:=kd) (j:=j) (os:=os) (by omega) (by omega) ho ht (s9:=s9) (s10:=s10) p0 p1 p2;refine⟨_,?_,ip',sp',.sh (.int j),s9',s10',rfl,q0,by omega,q2⟩;rw[zFD,aA9,wy,show(owE c most n kd t os ip sp s8 s9 s10).set 8 (.sh (.int j))=owE c most n kd t os ip sp (.sh (.int j)) s9 s10 from rfl];unfold aGU;have hi:(gB j7 (aA (aD 8) aF)) (owE c most n kd t os ip sp (.sh (.int j)) s9 s10)= .ok (dO 0 (j:Int)):=by simp[hr2]
   rw[qC,hi,bK,e])
 rw[kK]at hip;have hzl:=zU (by omega) hip.nd λ q hq=>⟨(hip.ok q hq).2.1,(hip.ok q hq).2.2.1⟩
 obtain⟨ip2,e2,hip2⟩:∃ip2,aGV (owE c most n kd t os ip sp s8 s9 s10)= .nx (owE c most n kd t os ip2 sp s8 s9 s10)/\ip2.Nodup/\∀q∈ip2,q.1≠q.2/\q.1<n/\q.2<n:=by
  have hc:(o6 (tsb (op2 (eqR false) (aD 3) (cD (.int 6)))) (tsb (op2 gtD (aD 2) (cD (.int 1))))) (owE c most n kd t os ip sp s8 s9 s10)= .ok ((kd:Int)==6&&decide (1<(n:Int))):=by
   by_cases k1:(kd:Int)=6<;>simp[k1]
  cases hb:((kd:Int)==6&&decide (1<(n:Int)))with
  |true=>
   simp only[zAN,beq_iff_eq,decide_eq_true_eq]at hb;have k6:kd=6:=by omega
   refine⟨ip++[(n-1,0)],?_,zB9.mpr ⟨hip.nd,by simp,λ x hx y hy z=>?_⟩,λ q hq=>?_⟩
   .unfold aGV
    rw[bU,hc,show((kd:Int)==6&&decide (1<(n:Int)))=true by simp[hb],bK,if_pos rfl];exact aFN (by omega) (by rw[ho.len];omega) (by rw[ho.len];omega) (by simp;omega) (by simp)
   .rw[zA8]at hy
    subst hy;subst z
    have:=(hip.ok _ hx).2.2.2.2 k6
    simp at this
   .rcases zAx.mp hq with z|z
    .exact⟨(hip.ok q z).1,(hip.ok q z).2.1,(hip.ok q z).2.2.1⟩
    .rw[zA8.mp z]
     exact⟨by simp;omega,by simp;omega,by simp;omega⟩
  |false=>
   refine⟨ip,?_,hip.nd,λ q z=>⟨(hip.ok q z).1,(hip.ok q z).2.1,(hip.ok q z).2.2.1⟩⟩;unfold aGV;rw[bU,hc,hb,bK];rfl
 have hin:∀p∈ip2.map (ar os),0<=p.1/\p.1<n/\0<=p.2/\p.2<n/\p.1≠p.2:=λ p hp=>by
  obtain⟨q,hq,rfl⟩:=zAY.mp hp;obtain⟨a1,a2,a3⟩:=hip2.2 q hq;have g:∀k,k<n->os.getD k 0∈os:=λ k hk=>by
   have:k<os.length:=by rw[ho.len];exact hk
   simp[this]
  have l1:=ho.lo _ (g q.1 a2);have l2:=ho.lo _ (g q.2 a3);refine⟨l1.1,l1.2,l2.1,l2.2,λ z=>a1 ?_⟩;have k1:q.1<os.length:=by rw[ho.len];exact a2
  have k2:q.2<os.length:=by rw[ho.len];exact a3
  have z':os.getD q.1 0=os.getD q.2 0:=z
  have:os[q.1]? =os[q.2]?:=by
   rw[zAB k1,zAB k2];simpa[k1,k2]using z'
  exact(zDC k1 ho.nd).mp this
 have hnd:(ip2.map (ar os)).Nodup:=sI hip2.1 λ x hx y hy e=>by
  have gi:∀k l,k<n->l<n->os.getD k 0=os.getD l 0->k=l:=λ k l hk hl z=>by
   have k1:k<os.length:=by rw[ho.len];exact hk
   have k2:l<os.length:=by rw[ho.len];exact hl
   have:os[k]? =os[l]?:=by
    rw[zAB k1,zAB k2];simpa[k1,k2]using z
   exact(zDC k1 ho.nd).mp this
  obtain⟨_,x1,x2⟩:=hip2.2 x hx;obtain⟨_,y1,y2⟩:=hip2.2 y hy;have e1:os.getD x.1 0=os.getD y.1 0:=congrArg zGF e;have e2:os.getD x.2 0=os.getD y.2 0:=congrArg zIM e;exact zHD (gi _ _ x1 y1 e1) (gi _ _ x2 y2 e2)
 obtain⟨qs,s1,s2,s3⟩:=zb hnd λ p hp=>by
  obtain⟨a,b,c',d,e⟩:=hin p hp;exact⟨a,by omega,c',by omega,e⟩
 have hl2:qs.length<=3600:=by
  rw[s2.length_eq,zAF];exact zU (n:=n) (by omega) hip2.1 λ q hq=>(hip2.2 q hq).2
 refine⟨n,qs,?_,⟨by omega,by omega,hl2,λ p hp=>hin p (s2.mem_iff.mp hp),s3⟩,by omega⟩;have st:aa 11 [.int c,.int most]=[.sh (.int c),.sh (.int most),.no,.no,.no,.no,.no,.no,.no,.no,.no]:=rfl;have et':atD [D.int 1,D.int 2,D.int 4,D.int 2,D.int 3,D.int 6,D.int 1,D.int 3] (kd:Int)= .ok (.int t):=et;have a1:bZ 2 (aK aR (aA (aD 0) (aA (cD (.int 0)) (aA (op2 bY (aD 1) (cD (.int 1))) aF)))) [.sh (.int c),.sh (.int most),.no,.no,.no,.no,.no,.no,.no,.no,.no]= .nx [.sh (.int c),.sh (.int most),.sh (.int n),.no,.no,.no,.no,.no,.no,.no,.no]:=by simp[en]
 have a2:bZ 3 (aK aR (aA (aD 0) (aA (cD (.int 1)) (aA (cD (.int 8)) aF)))) [.sh (.int c),.sh (.int most),.sh (.int n),.no,.no,.no,.no,.no,.no,.no,.no]= .nx [.sh (.int c),.sh (.int most),.sh (.int n),.sh (.int kd),.no,.no,.no,.no,.no,.no,.no]:=by simp[ek]
 have a3:sr 4 (op2 ixD (iJ (aA (cD (.int 1)) (aA (cD (.int 2)) (aA (cD (.int 4)) (aA (cD (.int 2)) (aA (cD (.int 3)) (aA (cD (.int 6)) (aA (cD (.int 1)) (aA (cD (.int 3)) aF))))))))) (aD 3)) [.sh (.int c),.sh (.int most),.sh (.int n),.sh (.int kd),.no,.no,.no,.no,.no,.no,.no]= .nx [.sh (.int c),.sh (.int most),.sh (.int n),.sh (.int kd),.nw (.int t),.no,.no,.no,.no,.no,.no]:=by simp[et']
 have a4:bZ 5 (aK jA (aA (aD 0) (aA (aD 2) aF))) [.sh (.int c),.sh (.int most),.sh (.int n),.sh (.int kd),.nw (.int t),.no,.no,.no,.no,.no,.no]= .nx [.sh (.int c),.sh (.int most),.sh (.int n),.sh (.int kd),.nw (.int t),.sh (.lst (os.map .int)),.no,.no,.no,.no,.no]:=by simp[eo]
 have a5:yR 6 (iJ aF) [.sh (.int c),.sh (.int most),.sh (.int n),.sh (.int kd),.nw (.int t),.sh (.lst (os.map .int)),.no,.no,.no,.no,.no]= .nx [.sh (.int c),.sh (.int most),.sh (.int n),.sh (.int kd),.nw (.int t),.sh (.lst (os.map .int)),.ow (.lst []),.no,.no,.no,.no]:=by first|rfl|simp
 have a6:bZ 7 (cD (.int 2)) [.sh (.int c),.sh (.int most),.sh (.int n),.sh (.int kd),.nw (.int t),.sh (.lst (os.map .int)),.ow (.lst []),.no,.no,.no,.no]= .nx (owE c most n kd t os [] 2 .no .no .no):=by first|rfl|simp
 have a7:rN (gB j7 (aA (aD 2) aF)) (gnm 8) aGU (owE c most n kd t os [] 2 .no .no .no)= .nx (owE c most n kd t os ip sp s8 s9 s10):=by
  have hi:(gB j7 (aA (aD 2) aF)) (owE c most n kd t os [] 2 .no .no .no)= .ok (dO 0 (n:Int)):=by simp[hr1]
  rw[qC,hi,bK];exact e
 have a8:opA dI (aA (eO 6) aF) (owE c most n kd t os ip2 sp s8 s9 s10)= .ok (.lst (qs.map pD)):=by
  have hv:(aA (eO 6) aF) (owE c most n kd t os ip2 sp s8 s9 s10)= .ok [.lst ((ip2.map (ar os)).map pD)]:=by first|rfl|simp
  rw[gJ,hv,aM,s1,j8]
 have a9:retS (jD (aA (cP (aD 2)) (aA (opA fG (aA (opA dI (aA (eO 6) aF)) aF)) aF))) (owE c most n kd t os ip2 sp s8 s9 s10)= .rt (owD n qs):=by
  have ha:aA (opA dI (aA (eO 6) aF)) aF (owE c most n kd t os ip2 sp s8 s9 s10)= .ok [.lst (qs.map pD)]:=by rw[aU,a8,aM,dD,aM]
  have hb:opA fG (aA (opA dI (aA (eO 6) aF)) aF) (owE c most n kd t os ip2 sp s8 s9 s10)= .ok (.tup (qs.map pD)):=by rw[gJ,ha,aM,lZ,j8]
  have hc:cP (aD 2) (owE c most n kd t os ip2 sp s8 s9 s10)= .ok (.int n):=by first|rfl|simp
  rw[bj,uv,aU,hc,aM,aU,hb,aM,dD,aM,aM,aM,if_pos (by simp),bK];rfl
 simp only[iK,bC,st,fj];rw[aO,a1,ak,aO,a2,ak,aO,a3,ak,aO,a4,ak,aO,a5,ak,aO,a6,ak,aO,a7,ak,aO,e2,ak,a9]
theorem aJ0{Y:En}:∀(ps:gX),lcL [.no,.no] (xM 2 (gw (gnm 0) (gw (gnm 1) yo))) cj (op2 ltD (aD 0) (aD 1)) (ps.map pD)= .ok (ps.map λ p=>.bl (decide (p.1<p.2)))
 |[]=>rfl
 |p::ps=>by
  unfold lcL;simp[pD,aJ0 (Y:=Y) ps]
def aE7{n:Int}(h:Ow n ps)(low:∀p∈ps,p.1<p.2):jr [.int n,.tup (ps.map pD)]= .ok (.bl true):=by
 have hl:=h.len;have e:=eV (m:=n) (d:=.tup (ps.map pD)) (by simpa[pln]using aC6 ps) (by simp[vA];lia);rw[h.rp]at e;have el:=aJ0 (Y:=[]) ps;have ei:lcD (fC (aD 1)) [none,none] (xM 2 (gw (gnm 0) (gw (gnm 1) yo))) cj (op2 ltD (aD 0) (aD 1)) [.sh (.int n),.sh (.tup (ps.map pD))]= .ok (.lst (ps.map λ p=>.bl (decide (p.1<p.2)))):=by
  have hi:fC (aD 1) (shE [.sh (.int n),.sh (.tup (ps.map pD))])= .ok (ps.map pD):=by simp[shE,aEk]
  unfold lcD;rw[hi,aM,if_pos (by rw[szl,zAF];lia)]
  show(match lcL [.no,.no] _ cj _ (ps.map pD)with| .ok l=>Rs.ok (D.lst l)|_=>Rs.st)=_
  rw[el]
 have ha:opA (wI λ bs=>bs.all id) (aA (lcD (fC (aD 1)) [none,none] (xM 2 (gw (gnm 0) (gw (gnm 1) yo))) cj (op2 ltD (aD 0) (aD 1))) aF) [.sh (.int n),.sh (.tup (ps.map pD))]= .ok (.bl true):=by
  rw[gJ,aU,ei,aM,dD,aM,aM,wH,j8];rw[zA9.mpr λ p hp=>decide_eq_true (low p hp)]
 have st:aa 2 [.int n,.tup (ps.map pD)]=[.sh (.int n),.sh (.tup (ps.map pD))]:=rfl;have ec:aK bW (aA (aD 0) (aA (aD 1) aF)) [.sh (.int n),.sh (.tup (ps.map pD))]= .ok (.bl true):=by rw[bx];exact e
 simp only[jr,iw,bC,st];rw[bj,zT,ec,ha];rfl
def aBi(h:Ow n ps)(low:∀p∈ps,p.1<p.2):cI [owD n ps]= .ok (.bl true):=by
 have e1:=pZ (d:=.int n) rfl;have e2:=aE7 h low;have e3:tU (.int n)=true:=by simp[tU,h.n0,h.n1]
 rw[e3]at e1;simp[cI,jW,owD,aa,e1,e2]
def mn(a b:Int):Int:=if b<a then b else a
def mx(a b:Int):Int:=if b>a then b else a
def aLd(h1:0<=a)(h2:a<n)(h3:0<=b)(h4:b<n)(ne:a≠b):0<=mn a b/\mn a b<mx a b/\mx a b<n:=by
 by_cases h:b<a
 .rw[mn,mx,if_pos h,if_neg (by lia)]
  exact⟨h3,h,h2⟩
 .rw[mn,mx,if_neg h,if_pos (by lia)]
  exact⟨h1,by lia,h4⟩
def aG3(a b:Int):(mn a b=a/\mx a b=b)\/(mn a b=b/\mx a b=a):=by
 by_cases h:b<a
 .rw[mn,mx,if_pos h,if_neg (by lia)]
  exact .inr ⟨rfl,rfl⟩
 .rw[mn,mx,if_neg h]
  by_cases h2:b>a
  .rw[if_pos h2];exact .inl ⟨rfl,rfl⟩
  .rw[if_neg h2];exact .inl ⟨rfl,by lia⟩
def aLe(e1:mn a b=mn c d)(e2:mx a b=mx c d):(a=c/\b=d)\/(a=d/\b=c):=by
 rcases aG3 a b with ⟨p,q⟩|⟨p,q⟩<;>rcases aG3 c d with ⟨r,s⟩|⟨r,s⟩<;>rw[p,r]at e1<;>rw[q,s]at e2
 .exact .inl ⟨e1,e2⟩
 .exact .inr ⟨e1,e2⟩
 .exact .inr ⟨e2,e1⟩
 .exact .inl ⟨e2,e1⟩
def ti(os:List Int)(q:Nat×Nat):Int×Int:=(mn (os.getD q.1 0) (os.getD q.2 0),mx (os.getD q.1 0) (os.getD q.2 0))
abbrev weE(c most:Int)(n kd:Nat)(t:Int)(os:List Int)(ip:List (Nat×Nat))(sp:Int)(s8 s9 s10:Slot):En:=
 [.sh (.int c),.sh (.int most),.sh (.int n),.sh (.int kd),.nw (.int t),.sh (.lst (os.map .int)),.ow (.lst ((ip.map (ti os)).map pD)),.sh (.int sp),s8,s9,s10]
def aQ4:inR false (.int k) (.tup [.int 5,.int 6])= .ok (.bl (inD (.int k) [.int 5,.int 6])):=rfl
def aOe:eqR false (.tup [.int a,.int b]) (.tup [.int c,.int d])= .ok (.bl (eqD (.tup [.int a,.int b]) (.tup [.int c,.int d]))):=rfl
section
variable{c most t sp:Int}{n kd i j:Nat}{os:List Int}{ip:List (Nat×Nat)}{b:Bool}
def aPM:∃b',wA (weE c most n kd t os ip sp (.sh (.int j)) (.sh (.int i)) (.sh (.bl b)))= .nx (weE c most n kd t os ip sp (.sh (.int j)) (.sh (.int i)) (.sh (.bl b'))):=by
 unfold wA;rw[bU];have hc:tsb (op2 (inR false) (aD 3) (jD (aA (cD (.int 5)) (aA (cD (.int 6)) aF)))) (weE c most n kd t os ip sp (.sh (.int j)) (.sh (.int i)) (.sh (.bl b)))= .ok (inD (.int kd) [.int 5,.int 6]):=by simp[aQ4]
 rw[hc,bK];cases inD (.int kd) [.int 5,.int 6]with
 |false=>exact⟨b,rfl⟩
 |true=>
  rw[if_pos rfl];by_cases k1:(j:Int)=(i:Int)+1
  .exact⟨true,by simp[k1]⟩
  .by_cases k2:(kd:Int)=6
   .exact⟨_,by simp[k1,k2,aOe];rfl⟩
   .exact⟨false,by simp[k1,k2]⟩
def aPL:∃b',wB (weE c most n kd t os ip sp (.sh (.int j)) (.sh (.int i)) (.sh (.bl b)))= .nx (weE c most n kd t os ip sp (.sh (.int j)) (.sh (.int i)) (.sh (.bl b'))):=by
 unfold wB;by_cases k2:(kd:Int)=7
 .exact⟨_,by simp[k2];rfl⟩
 .exact⟨b,by simp[k2]⟩
def aPK:∃b',wC (weE c most n kd t os ip sp (.sh (.int j)) (.sh (.int i)) (.sh (.bl b)))= .nx (weE c most n kd t os ip sp (.sh (.int j)) (.sh (.int i)) (.sh (.bl b'))):=by
 unfold wC;have hm:uY (.int ((i:Int)+j)) (.int 2)= .ok (.int (((i:Int)+j)%2)):=oM (by decide);by_cases k2:(kd:Int)=8
 .cases b with
  |true=>exact⟨_,by simp[k2,hm];rfl⟩
  |false=>exact⟨false,by simp[k2]⟩
 .exact⟨b,by simp[k2]⟩
def aPJ(hz:ip.length<16777216)(hi:i<os.length)(hj:j<os.length):∃ip',wD (weE c most n kd t os ip sp (.sh (.int j)) (.sh (.int i)) (.sh (.bl b)))= .nx (weE c most n kd t os ip' sp (.sh (.int j)) (.sh (.int i)) (.sh (.bl b)))/\(ip'=ip\/ip'=ip++[(i,j)]):=by
 unfold wD;cases b with
 |false=>exact⟨ip,by simp,.inl rfl⟩
 |true=>
  refine⟨ip++[(i,j)],?_,.inr rfl⟩;have e1:=aB7 hi;have e2:=aB7 hj;simp[yt,e1,e2,hz,ti,pD,mn,mx]
end
structure Tip(n j i:Nat)(ip:List (Nat×Nat)):Prop where
 nd:ip.Nodup
 ok:∀q∈ip,q.1<q.2/\q.2<n/\(q.2<j\/(q.2=j/\q.1<i))
def aHy{n kd j:Nat}{os:List Int}(hn:n<=60)(hj:j<n)(ho:aM6 n os){sp:Int}(h0:0<=sp)(h1:sp<=2+60*j)(hip:Tip n j 0 ip):
  ∃ip' sp' s9' s10',forL (gnm 9) wIn (dO 0 (j:Int)) (weE c most n kd t os ip sp (.sh (.int j)) s9 s10)= .nx (weE c most n kd t os ip' sp' (.sh (.int j)) s9' s10')/\0<=sp'/\sp'<=2+60*(j+1)/\Tip n (j+1) 0 ip':=by
 have kK:(dO 0 (j:Int)).length=j:=by rw[jO];lia
 obtain⟨Y',e,ip',sp',s9',s10',rfl,q0,q1,q2⟩:=kW (a:=gnm 9) (u:=wIn) (dO 0 (j:Int))
  (λ i Y=>∃ip sp s9 s10,Y=weE c most n kd t os ip sp (.sh (.int j)) s9 s10/\0<=sp/\sp<=2+60*j+i/\Tip n j i ip) (weE c most n kd t os ip sp (.sh (.int j)) s9 s10) ⟨ip,sp,s9,s10,rfl,h0,by lia,hip⟩ (by
   rintro i d Y hd ⟨ip,sp,s9,s10,rfl,p0,p1,p2⟩;obtain⟨rfl,hlt⟩:=kJ hd;have hij:i<j:=by lia
   obtain⟨h,eh,hh0,hh1⟩:=iV (c:=c) (k:=sp+1) (b:=8) (by lia) (by lia) (by decide) (by decide);have hzl:=zU hn p2.nd λ q hq=>by have:=p2.ok q hq;exact⟨by lia,by lia⟩
   have hi':i<os.length:=by rw[ho.len];lia
   have hj':j<os.length:=by rw[ho.len];lia
   obtain⟨b1,e1⟩:=aPM (c:=c) (most:=most) (n:=n) (kd:=kd) (t:=t) (os:=os) (ip:=ip) (sp:=sp+1) (i:=i) (j:=j) (b:=decide (h<t));obtain⟨b2,e2⟩:=aPL (c:=c) (most:=most) (n:=n) (kd:=kd) (t:=t) (os:=os) (ip:=ip) (sp:=sp+1) (i:=i) (j:=j) (b:=b1);obtain⟨b3,e3⟩:=aPK (c:=c) (most:=most) (n:=n) (kd:=kd) (t:=t) (os:=os) (ip:=ip) (sp:=sp+1) (i:=i) (j:=j) (b:=b2);obtain⟨ip2,e4,c2⟩:=aPJ (c:=c) (most:=most) (n:=n) (kd:=kd) (t:=t) (os:=os) (ip:=ip) (sp:=sp+1) (i:=i) (j:=j) (b:=b3) (by lia) hi' hj';refine⟨_,?_,ip2,sp+1,.sh (.int i),.sh (.bl b3),rfl,by lia,by lia,?_⟩
   .have s7:bZ 7 (op2 bY (aD 7) (cD (.int 1))) (weE c most n kd t os ip sp (.sh (.int j)) (.sh (.int i)) s10)= .nx (weE c most n kd t os ip (sp+1) (.sh (.int j)) (.sh (.int i)) s10):=by first|rfl|simp
    have s11:bZ 10 (op2 ltD (aK aR (aA (aD 0) (aA (aD 7) (aA (cD (.int 8)) aF)))) (jZ 4)) (weE c most n kd t os ip (sp+1) (.sh (.int j)) (.sh (.int i)) s10)= .nx (weE c most n kd t os ip (sp+1) (.sh (.int j)) (.sh (.int i)) (.sh (.bl (decide (h<t))))):=by simp[eh]
    rw[zFD];show wIn (weE c most n kd t os ip sp (.sh (.int j)) (.sh (.int i)) s10)=_;unfold wIn;rw[aO,s7,ak,aO,s11,ak,aO,e1,ak,aO,e2,ak,aO,e3,ak,e4]
   .have b9:∀q∈ip,q.1<q.2/\q.2<n/\(q.2<j\/(q.2=j/\q.1<i+1)):=λ q hq=>by
     obtain⟨a1,a2,a3⟩:=p2.ok q hq;exact⟨a1,a2,by lia⟩
    have n1:(i,j)∉ip:=λ hm=>by
     obtain⟨_,_,a4⟩:=p2.ok _ hm;simp only at a4;lia
    rcases c2 with rfl|rfl
    .exact⟨p2.nd,b9⟩
    .refine⟨zB9.mpr ⟨p2.nd,by simp,λ x hx y hy z=>?_⟩,λ q hq=>?_⟩
     .rw[zA8]at hy;subst hy;subst z;exact n1 hx
     .rcases zAx.mp hq with z|z
      .exact b9 q z
      .rw[zA8.mp z]
       exact⟨hij,hj,.inr ⟨rfl,by simp⟩⟩)
 rw[kK]at q1 q2;refine⟨ip',sp',s9',s10',e,q0,by lia,q2.nd,λ q hq=>?_⟩;obtain⟨a1,a2,a3⟩:=q2.ok q hq;exact⟨a1,a2,.inl (by lia)⟩
def aGw{kd:Nat}(h:kd<9):∃t:Int,atD ([1,2,3,5,7,0,0,0,4].map D.int) (kd:Int)= .ok (.int t):=by
 have:=aB7 (os:=[1,2,3,5,7,0,0,0,4]) (k:=kd) (by simpa using h)
 exact⟨_,this⟩
def aF4{most:Nat}(h1:most<=9):∃n ps,o8 [.int c,.int most]= .ok (owD n ps)/\Ow n ps/\(∀p∈ps,p.1<p.2)/\ps.length<=36/\n<=most:=by
 obtain⟨n,en,hn⟩:=sY (c:=c) (k:=0) (b:=(most:Int)+1) (by decide) (by decide) (by lia) (by lia);obtain⟨kd,ek,hk⟩:=sY (c:=c) (k:=1) (b:=9) (by decide) (by decide) (by decide) (by decide);have hn8:n<=9:=by lia
 obtain⟨t,et⟩:=aGw (kd:=kd) (by lia);obtain⟨os,eo,ho⟩:=yE (c:=c) (n:=n) (by lia);have hr1:=ju (j:=(n:Int)) (by lia) (by lia);have kK:(dO 0 (n:Int)).length=n:=by rw[jO];lia
 obtain⟨Y',e,ip,sp,s8,s9,s10,rfl,_,_,hip⟩:=kW (a:=gnm 8) (u:=aKf) (dO 0 (n:Int))
  (λ j Y=>∃ip sp s8 s9 s10,Y=weE c most n kd t os ip sp s8 s9 s10/\0<=sp/\sp<=2+60*j/\Tip n j 0 ip) (weE c most n kd t os [] 2 .no .no .no) ⟨[],2,.no,.no,.no,rfl,by lia,by lia,by simp,λ q hq=>by simp at hq⟩ (by
   rintro j d Y hd ⟨ip,sp,s8,s9,s10,rfl,p0,p1,p2⟩;obtain⟨rfl,hlt⟩:=kJ hd;have hr2:=ju (j:=(j:Int)) (by lia) (by lia);obtain⟨ip',sp',s9',s10',e,q0,q1,q2⟩:=aHy (c:=c) (most:=most) (t:=t) (n:=n) (kd:=kd) (j:=j) (os:=os) (by lia) (by lia) ho (s9:=s9) (s10:=s10) p0 p1 p2;refine⟨_,?_,ip',sp',.sh (.int j),s9',s10',rfl,q0,by lia,q2⟩;rw[zFD,aA9,wy,show(weE c most n kd t os ip sp s8 s9 s10).set 8 (.sh (.int j))=weE c most n kd t os ip sp (.sh (.int j)) s9 s10 from rfl];unfold aKf;have hi:(gB j7 (aA (aD 8) aF)) (weE c most n kd t os ip sp (.sh (.int j)) s9 s10)= .ok (dO 0 (j:Int)):=by simp[hr2]
   rw[qC,hi,bK,e])
 rw[kK]at hip;have gi:∀k l,k<n->l<n->os.getD k 0=os.getD l 0->k=l:=λ k l hk hl z=>by
  have k1:k<os.length:=by rw[ho.len];exact hk
  have k2:l<os.length:=by rw[ho.len];exact hl
  have:os[k]? =os[l]?:=by
   rw[zAB k1,zAB k2];simpa[k1,k2]using z
  exact(zDC k1 ho.nd).mp this
 have g:∀k,k<n->0<=os.getD k 0/\os.getD k 0<n:=λ k hk=>by
  have:k<os.length:=by rw[ho.len];exact hk
  exact ho.lo _ (by simp[this])
 have hin:∀p∈ip.map (ti os),0<=p.1/\p.1<p.2/\p.2<n:=λ p hp=>by
  obtain⟨q,hq,rfl⟩:=zAY.mp hp;obtain⟨a1,a2,_⟩:=hip.ok q hq;have l1:=g q.1 (by lia);have l2:=g q.2 a2;have ne:os.getD q.1 0≠os.getD q.2 0:=λ z=>by have:=gi _ _ (by lia) a2 z;lia
  exact aLd l1.1 l1.2 l2.1 l2.2 ne
 have hnd:(ip.map (ti os)).Nodup:=sI hip.nd λ x hx y hy e=>by
  obtain⟨x1,x2,_⟩:=hip.ok x hx;obtain⟨y1,y2,_⟩:=hip.ok y hy;have e1:mn (os.getD x.1 0) (os.getD x.2 0)=mn (os.getD y.1 0) (os.getD y.2 0):=congrArg zGF e;have e2:mx (os.getD x.1 0) (os.getD x.2 0)=mx (os.getD y.1 0) (os.getD y.2 0):=congrArg zIM e;have key:=aLe e1 e2;rcases key with ⟨k1,k2⟩|⟨k1,k2⟩
  .exact zHD (gi _ _ (by lia) (by lia) k1) (gi _ _ x2 y2 k2)
  .have:=gi _ _ (by lia) y2 k1
   have:=gi _ _ x2 (by lia) k2
   lia
 obtain⟨qs,s1,s2,s3,s4⟩:=aCO hnd λ p hp=>by
  obtain⟨a,b,c'⟩:=hin p hp;exact⟨a,b,by lia⟩
 have hl2:qs.length<=36:=by rw[s2.length_eq];exact s4
 refine⟨n,qs,?_,⟨by lia,by lia,by lia,λ p hp=>by
  have:=hin p (s2.mem_iff.mp hp)
  exact⟨this.1,by lia,by lia,this.2.2,by lia⟩,s3⟩,λ p hp=>(hin p (s2.mem_iff.mp hp)).2.1,hl2,by lia⟩
 have st:aa 11 [.int c,.int most]=[.sh (.int c),.sh (.int most),.no,.no,.no,.no,.no,.no,.no,.no,.no]:=rfl;have et':atD [D.int 1,D.int 2,D.int 3,D.int 5,D.int 7,D.int 0,D.int 0,D.int 0,D.int 4] (kd:Int)= .ok (.int t):=et;have a1:bZ 2 (aK aR (aA (aD 0) (aA (cD (.int 0)) (aA (op2 bY (aD 1) (cD (.int 1))) aF)))) [.sh (.int c),.sh (.int most),.no,.no,.no,.no,.no,.no,.no,.no,.no]= .nx [.sh (.int c),.sh (.int most),.sh (.int n),.no,.no,.no,.no,.no,.no,.no,.no]:=by simp[en]
 have a2:bZ 3 (aK aR (aA (aD 0) (aA (cD (.int 1)) (aA (cD (.int 9)) aF)))) [.sh (.int c),.sh (.int most),.sh (.int n),.no,.no,.no,.no,.no,.no,.no,.no]= .nx [.sh (.int c),.sh (.int most),.sh (.int n),.sh (.int kd),.no,.no,.no,.no,.no,.no,.no]:=by simp[ek]
 have a3:sr 4 (op2 ixD (iJ (aA (cD (.int 1)) (aA (cD (.int 2)) (aA (cD (.int 3)) (aA (cD (.int 5)) (aA (cD (.int 7)) (aA (cD (.int 0)) (aA (cD (.int 0)) (aA (cD (.int 0)) (aA (cD (.int 4)) aF)))))))))) (aD 3)) [.sh (.int c),.sh (.int most),.sh (.int n),.sh (.int kd),.no,.no,.no,.no,.no,.no,.no]= .nx [.sh (.int c),.sh (.int most),.sh (.int n),.sh (.int kd),.nw (.int t),.no,.no,.no,.no,.no,.no]:=by simp[et']
 have a4:bZ 5 (aK jA (aA (aD 0) (aA (aD 2) aF))) [.sh (.int c),.sh (.int most),.sh (.int n),.sh (.int kd),.nw (.int t),.no,.no,.no,.no,.no,.no]= .nx [.sh (.int c),.sh (.int most),.sh (.int n),.sh (.int kd),.nw (.int t),.sh (.lst (os.map .int)),.no,.no,.no,.no,.no]:=by simp[eo]
 have a5:yR 6 (iJ aF) [.sh (.int c),.sh (.int most),.sh (.int n),.sh (.int kd),.nw (.int t),.sh (.lst (os.map .int)),.no,.no,.no,.no,.no]= .nx [.sh (.int c),.sh (.int most),.sh (.int n),.sh (.int kd),.nw (.int t),.sh (.lst (os.map .int)),.ow (.lst []),.no,.no,.no,.no]:=by first|rfl|simp
 have a6:bZ 7 (cD (.int 2)) [.sh (.int c),.sh (.int most),.sh (.int n),.sh (.int kd),.nw (.int t),.sh (.lst (os.map .int)),.ow (.lst []),.no,.no,.no,.no]= .nx (weE c most n kd t os [] 2 .no .no .no):=by first|rfl|simp
 have a7:rN (gB j7 (aA (aD 2) aF)) (gnm 8) aKf (weE c most n kd t os [] 2 .no .no .no)= .nx (weE c most n kd t os ip sp s8 s9 s10):=by
  have hi:(gB j7 (aA (aD 2) aF)) (weE c most n kd t os [] 2 .no .no .no)= .ok (dO 0 (n:Int)):=by simp[hr1]
  rw[qC,hi,bK];exact e
 have a8:opA dI (aA (eO 6) aF) (weE c most n kd t os ip sp s8 s9 s10)= .ok (.lst (qs.map pD)):=by
  have hv:(aA (eO 6) aF) (weE c most n kd t os ip sp s8 s9 s10)= .ok [.lst ((ip.map (ti os)).map pD)]:=by first|rfl|simp
  rw[gJ,hv,aM,s1,j8]
 have a9:retS (jD (aA (cP (aD 2)) (aA (opA fG (aA (opA dI (aA (eO 6) aF)) aF)) aF))) (weE c most n kd t os ip sp s8 s9 s10)= .rt (owD n qs):=by
  have ha:aA (opA dI (aA (eO 6) aF)) aF (weE c most n kd t os ip sp s8 s9 s10)= .ok [.lst (qs.map pD)]:=by rw[aU,a8,aM,dD,aM]
  have hb:opA fG (aA (opA dI (aA (eO 6) aF)) aF) (weE c most n kd t os ip sp s8 s9 s10)= .ok (.tup (qs.map pD)):=by rw[gJ,ha,aM,lZ,j8]
  have hc:cP (aD 2) (weE c most n kd t os ip sp s8 s9 s10)= .ok (.int n):=by first|rfl|simp
  rw[bj,uv,aU,hc,aM,aU,hb,aM,dD,aM,aM,aM,if_pos (by simp),bK];rfl
 simp only[o8,lO,bC,st];rw[aO,a1,ak,aO,a2,ak,aO,a3,ak,aO,a4,ak,aO,a5,ak,aO,a6,ak,aO,a7,ak,a9]
def aHc(l:List Int):oR (l.map .int)=true:=by
 induction l with
 |nil=>rfl
 |cons a l ih=>simp[oR,imm,ih]
def aEN(l:List Int):imm (tupI l)=true:=by simp[tupI,imm,aHc]
theorem aGb:∀l:gX,oR (l.map pD)=true
 |[]=>rfl
 |p::l=>by simp[oR,imm,pD,aGb l]
def upI(n:Int):List Int:=(zAh n.toNat).map λ(k:Nat)=>(k:Int)
def aFB(n:Int):dO 0 n=(upI n).map .int:=by
 unfold dO upI;rw[zAl,show(n-0).toNat=n.toNat by lia];exact zCL λ k _=>by simp
def pX:x∈upI n↔0<=x/\x<n:=by
 unfold upI;rw[zAY];constructor
 .rintro⟨k,hk,rfl⟩
  have:=zBC.mp hk
  lia
 .rintro⟨h0,h1⟩
  exact⟨x.toNat,zBC.mpr (by lia),by lia⟩
def aEg(n:Int):(upI n).length=n.toNat:=by unfold upI;simp
def aG5{p q:Int×Int}:ltP p q=true↔p.1<q.1\/p.1=q.1/\p.2<q.2:=by
 unfold ltP;have e:HT.lexLt [p.1,p.2] [q.1,q.2]=true↔p.1<q.1\/p.1=q.1/\p.2<q.2:=by
  by_cases h1:p.1=q.1
  .by_cases h2:p.2=q.2
   .simp[HT.lexLt,h1,h2]
   .simp[HT.lexLt,h1,h2]
  .simp[HT.lexLt,h1]
 exact e
def aI0{ps:gX}:qY ps=true↔ps.Pairwise λ p q=>p.1<q.1\/p.1=q.1/\p.2<q.2:=by
 constructor
 .intro h
  have h':=aCY.mp h;clear h;induction ps with
  |nil=>exact .nil
  |cons p ps ih=>
   have hs:∀(i:Nat) (p q:Int×Int),ps[i]? =some p->ps[i+1]? =some q->ltP p q=true:=λ i a b e1 e2=>h' (i+1) a b e1 e2
   have hp:=ih hs;refine zBB.mpr ⟨λ q hq=>?_,hp⟩;cases ps with
   |nil=>cases hq
   |cons r rs=>
    have h1:=aG5.mp (h' 0 p r rfl rfl);rcases zAO.mp hq with rfl|hq
    .exact h1
    .have h2:=(zBB.mp hp).1 q hq
     lia
 .intro h
  rw[aCY];intro i p q e1 e2;rw[aG5];obtain⟨h1,rfl⟩:=zAK.mp e1;obtain⟨h2,rfl⟩:=zAK.mp e2;exact zCh.mp h i (i+1) h1 h2 (zCQ i)
def aB4{ps:gX}(h:qY ps=true):ps.Nodup:=by
 have:=aI0.mp h
 rw[List.nodup_iff_pairwise_ne];exact this.imp λ{a b} h e=>by subst e;lia
def dg(i:Int):Str:=zEA i
def fr(c:Nat)(x:Str):Prop:=c∉x.cps.toList
theorem aGm{c:Nat}:∀{a b x y:List Nat},c∉a->c∉b->a++c::x=b++c::y->a=b/\x=y
 |[],[],_,_,_,_,h=>by injection h with _ h;exact⟨rfl,h⟩
 |[],k::b,_,_,_,hb,h=>by injection h with h _;exact absurd (h▸zAI) hb
 |k::a,[],_,_,ha,_,h=>by injection h with h _;exact absurd (h▸zAI) ha
 |k::a,l::b,_,_,ha,hb,h=>by
  injection h with h1 h2
  obtain⟨e1,e2⟩:=aGm (λ z=>ha (zAH _ z)) (λ z=>hb (zAH _ z)) h2;exact⟨by rw[h1,e1],e2⟩
def zA{a b:Str}(h:a.cps.toList=b.cps.toList):a=b:=by
 obtain⟨⟨a⟩⟩:=a;obtain⟨⟨b⟩⟩:=b;rw[show a=b from h]
def mQ(c:Nat)(a b:Str)(r:List Str):(zCz ⟨#[c]⟩ (a::b::r)).cps.toList=a.cps.toList++c::(zCz ⟨#[c]⟩ (b::r)).cps.toList:=by
 show(a++⟨#[c]⟩++zCz ⟨#[c]⟩ (b::r)).cps.toList=_
 simp only[zBV,zBM];rw[zBU];rfl
theorem aEK{c:Nat}:∀{ws vs:List Str},ws≠[]->vs≠[]->(∀w∈ws,fr c w)->(∀w∈vs,fr c w)->zCz ⟨#[c]⟩ ws=zCz ⟨#[c]⟩ vs->ws=vs
 |[],_,h,_,_,_,_=>absurd rfl h
 |_,[],_,h,_,_,_=>absurd rfl h
 |[a],[b],_,_,_,_,h=>by rw[show a=b from h]
 |[a],b::d::r,_,_,h1,_,h=>by
  have:=mQ c b d r
  rw[<-h]at this;exact absurd (show c∈a.cps.toList by rw[show a.cps.toList=_ from this];simp) (h1 a zAI)
 |a::d::r,[b],_,_,_,h2,h=>by
  have:=mQ c a d r
  rw[h]at this;exact absurd (show c∈b.cps.toList by rw[show b.cps.toList=_ from this];simp) (h2 b zAI)
 |a::d::r,b::e::t,_,_,h1,h2,h=>by
  have q:=mQ c a d r;rw[h,mQ c b e t]at q;obtain⟨q1,q2⟩:=aGm (h2 b zAI) (h1 a zAI) q;rw[zA q1,aEK (ws:=d::r) (vs:=e::t) (zDO _ _) (zDO _ _) (λ w hw=>h1 w (zAH _ hw)) (λ w hw=>h2 w (zAH _ hw)) (zA q2.symm)]
def qi(x y:Str):zAi x y≠[]:=λ h=>by
 have:=PyProof.Rows.split_pos x y
 rw[h]at this;exact absurd this (by decide)
def lY(s:Str)(ws:List Str):zDZ s ws=zCz s ws:=StrLaws.glued_eq_join s ws
def lq{c:Nat}{ws:List Str}(h:ws≠[])(hf:∀w∈ws,fr c w):zAi (zDZ ⟨#[c]⟩ ws) ⟨#[c]⟩=ws:=by
 refine aEK (c:=c) (qi _ _) h (λ w hw=>StrLaws.split_free _ c w hw) hf ?_;rw[zCo,lY]
def aOi:∀k:Nat,k<61->(dg (k:Int)).cps.toList.all (λ c=>decide (48<=c/\c<=57))=true/\(dg (k:Int)).length<=2/\zDA (dg (k:Int)++(":":Str)) none (some (-1))=dg (k:Int)/\(dg (k:Int)++(":":Str)).length<=3:=by decide+kernel
structure Fg(i:Int):Prop where
 ch:∀c∈(dg i).cps.toList,48<=c/\c<=57
 len:(dg i).length<=2
 cut:zDA (dg i++(":":Str)) none (some (-1))=dg i
def fg{i:Int}(h0:0<=i)(h1:i<=60):Fg i:=by
 obtain⟨a,b,c,_⟩:=aOi i.toNat (by lia);rw[zAn h0]at a b c;rw[zA9]at a;exact⟨λ x hx=>of_decide_eq_true (a x hx),b,c⟩
theorem Fg.fr{i:Int}(h:Fg i){c:Nat}(hc:c<48\/57<c):fr c (dg i):=λ hm=>by
 have:=h.ch c hm
 lia
def aBc{i:Int}(h0:0<=i)(h1:i<=60):i.natAbs.log2<1920:=by
 have:i.natAbs.log2<=i.natAbs:=Nat.log2_le_self _
 lia
def zZ{i:Int}(h0:0<=i)(h1:i<=60):iH [.int i]= .ok (.str (dg i)):=by
 unfold iH;dsimp only;rw[if_pos (aBc h0 h1)];rfl
def len_app(a b:Str):(a++b).length=a.length+b.length:=zHJ a b
def rE{s:Str}{ws:List Str}(k:Nat)(h1:s.length<=1)(h2:∀w∈ws,w.length<=k)(h3:ws.length<=1000)(hk:k<=10000):aBf s ws=true:=by
 unfold aBf;rw[decide_eq_true_eq]
 have:(ws.map (·.length)).sum<=ws.length*k:=by
  clear h3;induction ws with
  |nil=>simp
  |cons w ws ih=>
   have:=h2 w zAI
   have:=ih λ v hv=>h2 v (zAH _ hv)
   simp only[zAE,zCv,zA0,Nat.add_mul];lia
 have h4:ws.length*k<=1000*10000:=zIL h3 hk;have h5:ws.length*s.length<=1000*1:=zIL h3 h1;lia
def rD{s:Str}{ws:List Str}(k:Nat)(h1:s.length<=1)(h2:∀w∈ws,w.length<=k):(zDZ s ws).length<=ws.length*(k+1):=by
 rw[lY];refine zAg (StrLaws.join_length_le s ws) ?_;induction ws with
 |nil=>simp
 |cons w ws ih=>
  have:=h2 w zAI
  have:=ih λ v hv=>h2 v (zAH _ hv)
  simp only[zAE,zCv,zA0,Nat.add_mul]at this ⊢;lia
def rwS(sg:Str)(w:List Int):Str:=zDZ sg (w.map dg)
def rF{f g:En->Rs D}{Y:En}{s:Str}{ws:List Str}(h1:f Y= .ok (.str s))(h2:g Y= .ok (.lst (ws.map .str)))(h3:aBf s ws=true):vW f g Y= .ok (.str (zDZ s ws)):=by
 unfold vW;rw[h1,aM];dsimp only;rw[h2,aM];dsimp only;rw[pF];dsimp only;rw[if_pos h3]
def xH{f:En->Rs (List D)}{Y:En}{js:kQ}{w:List Int}{x0:En}(hw:∀x∈w,0<=x/\x<=60)(hl:w.length<=1000)(hf:f (shE Y)= .ok (w.map .int))(hs:stE js (shE Y)= .no::x0):
  lcD f js (gnm 0) cj (opA iH (aA (aD 0) aF)) Y= .ok (.lst ((w.map dg).map .str)):=by
 rw[zAl];refine ig hf (by rw[zAF];lia) ?_;rw[hs];refine jT w λ x hx=>⟨.sh (.int x)::x0,rfl,?_⟩
 have hv:aD 0 (.sh (.int x)::x0)= .ok (.int x):=rfl;rw[gJ,aU,hv,aM,dD,aM,aM,zZ (hw x hx).1 (hw x hx).2];rfl
def zP{w:List Int}(hw:∀x∈w,0<=x/\x<=60):∀v∈w.map dg,v.length<=2:=λ v hv=>by
 obtain⟨x,hx,rfl⟩:=zAY.mp hv;exact(fg (hw x hx).1 (hw x hx).2).len
def aDe{w:List Int}{sg:Str}(hw:∀x∈w,0<=x/\x<=60)(hl:w.length<=1000)(hs:sg.length<=1):jq [tupI w,.str sg]= .ok (.str (rwS sg w)):=by
 have st:aa 2 [tupI w,.str sg]=[.sh (tupI w),.sh (.str sg)]:=rfl;simp only[jq,je,bC,st];have e:=xH (f:=fC (aD 0)) (Y:=[.sh (tupI w),.sh (.str sg)]) (js:=[none]) (x0:=[]) hw hl rfl rfl;have e2:=rF (f:=aD 1) (s:=sg) rfl e (rE 2 hs (zP hw) (by rw[zAF];exact hl) (by decide));rw[bj,e2];rfl
def xQ{l:List D}{k:Nat}(h:k<=l.length):cutD l (some (k:Int)) none=l.drop k:=by
 have e1:HT.sIx l.length 0 (some (k:Int))=k:=by simp[HT.sIx];lia
 have e2:HT.sIx l.length l.length none=l.length:=rfl;unfold cutD;rw[e1,e2,zEE (by rw[zDQ];exact zAQ _)]
def aEU{d:D}(neg:Bool)(h1:oY d<=60)(h2:bO d=true):eqR neg d d= .ok (.bl (if neg then false else true)):=by
 unfold eqR;rw[if_pos (by simp[h1,h2]),vh d h2];cases neg<;>rfl
def xg:(" ":Str)=⟨#[32]⟩:=by decide+kernel
def aAR:("-":Str)=⟨#[45]⟩:=by decide+kernel
def aBm:(">":Str)=⟨#[62]⟩:=by decide+kernel
def aQE:("":Str)=⟨#[]⟩:=by decide+kernel
def prS(sg:Str)(p:Int×Int):Str:=dg p.1++sg++dg p.2
def gA(sg:Str)(n:Int)(ps:gX):Str:=zDZ (" ":Str) ((dg n++(":":Str))::ps.map (prS sg))
def aCW(sg:Str)(p:Int×Int):rwS sg [p.1,p.2]=prS sg p:=by
 unfold rwS;rw[lY];rfl
def aHe(a:Str)(r:List Str):(zCz ⟨#[]⟩ (a::r)).cps.toList=a.cps.toList++(zCz ⟨#[]⟩ r).cps.toList:=by
 cases r with
 |nil=>exact(zAw _).symm
 |cons b r=>
  show(a++⟨#[]⟩++zCz ⟨#[]⟩ (b::r)).cps.toList=_
  simp only[zBV,zBM];rw[zBU];rfl
theorem yH:∀(ws:List Str) (a:Str),(a++zCz ⟨#[]⟩ (ws.map λ w=>(⟨#[32]⟩:Str)++w)).cps.toList=(zCz ⟨#[32]⟩ (a::ws)).cps.toList
 |[],a=>by
  rw[zBV,zBM];exact zAw _
 |w::ws,a=>by
  have ih:=yH ws w;rw[zBV,zBM]at ih;rw[zBV,zBM,zAE,aHe,mQ,<-ih,zBV,zBM,zBU];rfl
def aOw{a b:Str}(h:a.length+b.length<=100000):jE (.str a) (.str b)= .ok (.str (a++b)):=by
 unfold jE;dsimp only;rw[if_pos (by rw[szl];lia)]
def qN{f g:En->Rs D}{Y:En}{a b:Str}(h1:f Y= .ok (.str a))(h2:g Y= .ok (.str b))(h:a.length+b.length<=100000):op2 jE f g Y= .ok (.str (a++b)):=by
 rw[bR,h1,aM,h2,aM,aOw h];rfl
section
variable{n:Int}{ps:gX}{sg:Str}
def aC4{p:Int×Int}(h:0<=p.1/\p.1<=60/\0<=p.2/\p.2<=60)(hs:sg.length<=1):(prS sg p).length<=5:=by
 unfold prS;rw[len_app,len_app]
 have:=(fg h.1 h.2.1).len
 have:=(fg h.2.2.1 h.2.2.2).len
 lia
def bu:((":":Str)).length=1/\((" ":Str)).length=1/\(("-":Str)).length=1/\((">":Str)).length=1/\(("":Str)).length=0/\(("none":Str)).length=4:=by decide+kernel
def xF(h0:0<=n)(h1:n<=60):(dg n++(":":Str)).length<=3:=by
 rw[len_app,bu.1]
 have:=(fg h0 h1).len
 lia
def tH(h0:0<=n)(h1:n<=60)(hp:∀p∈ps,0<=p.1/\p.1<=60/\0<=p.2/\p.2<=60)(hl:ps.length<=900)(hs:sg.length<=1):fP [.int n,.tup (ps.map pD),.str sg]= .ok (.str (gA sg n ps)):=by
 have st:aa 3 [.int n,.tup (ps.map pD),.str sg]=[.sh (.int n),.sh (.tup (ps.map pD)),.sh (.str sg)]:=rfl;simp only[fP,gn,bC,st];have b1:∀p∈ps,((" ":Str)++prS sg p).length<=6:=λ p h=>by
  rw[len_app,bu.2.1]
  have:=aC4 (hp p h) hs
  lia
 have b2:∀w∈ps.map (λ p=>(" ":Str)++prS sg p),w.length<=6:=λ w hw=>by
  obtain⟨p,h,rfl⟩:=zAY.mp hw;exact b1 p h
 have e1:lcD (fC (aD 1)) [none,some 2] (gnm 0) cj (op2 jE (cD (.str " ")) (aK jq (aA (aD 0) (aA (aD 1) aF)))) [.sh (.int n),.sh (.tup (ps.map pD)),.sh (.str sg)]= .ok (.lst ((ps.map λ p=>(" ":Str)++prS sg p).map .str)):=by
  rw[zAl];refine ig (ds:=ps.map pD) rfl (by rw[zAF];lia) (jT ps λ p h=>⟨[.sh (pD p),.sh (.str sg)],rfl,?_⟩)
  have:=hp p h
  have e:=aDe (w:=[p.1,p.2]) (sg:=sg) (λ x hx=>by
   rcases zAO.mp hx with rfl|hx
   .exact⟨this.1,this.2.1⟩
   .rw[zA8.mp hx];exact this.2.2) (by simp) hs
  rw[aCW]at e;have ec:aK jq (aA (aD 0) (aA (aD 1) aF)) [.sh (pD p),.sh (.str sg)]= .ok (.str (prS sg p)):=by rw[bx];exact e
  refine qN rfl ec ?_
  have:=b1 p h
  rw[len_app]at this;lia
 have e2:=rF (f:=cD (.str "")) (s:="") rfl e1 (rE 6 (by rw[bu.2.2.2.2.1];decide) b2 (by rw[zAF];lia) (by decide));have e3:op1 (aHh ":") (aD 0) [.sh (.int n),.sh (.tup (ps.map pD)),.sh (.str sg)]= .ok (.str (dg n++(":":Str))):=by
  show okD (aHh ":" (.int n))=_;unfold aHh;dsimp only
  have:=xF h0 h1
  rw[len_app]at this;rw[if_pos ⟨aBc h0 h1,by rw[szl];show(dg n).length+_<=_;lia⟩];rfl
 have jl:=rD (s:=("":Str)) 6 (by rw[bu.2.2.2.2.1];decide) b2;rw[zAF]at jl;have e4:=qN e3 e2 (by have:=xF h0 h1;lia);rw[bj,e4];show Rs.ok _=_;unfold gA;rw[lY,lY,aQE,xg]
 have:=yH (ps.map (prS sg)) (dg n++(":":Str))
 rw[zAl]at this;exact congrArg (λ x=>Rs.ok (D.str x)) (zA this)
def oO(h0:0<=n)(h1:n<=60)(hp:∀p∈ps,0<=p.1/\p.1<=60/\0<=p.2/\p.2<=60)(hl:ps.length<=900)(hs:sg.length<=1):fV [owD n ps,.str sg]= .ok (.str (gA sg n ps)):=by
 have st:aa 2 [owD n ps,.str sg]=[.sh (owD n ps),.sh (.str sg)]:=rfl;simp only[fV,dX,bC,st];have e1:lcD (fC (op2 ixD (aD 0) (cD (.int 1)))) [none,none,some 1] (xM 2 (gw (gnm 0) (gw (gnm 1) yo))) cj (op2 jE (op2 jE (opA iH (aA (aD 0) aF)) (aD 2)) (opA iH (aA (aD 1) aF))) [.sh (owD n ps),.sh (.str sg)]= .ok (.lst ((ps.map (prS sg)).map .str)):=by
  rw[zAl];refine ig (ds:=ps.map pD) rfl (by rw[zAF];lia) (jT ps λ p h=>⟨[.sh (.int p.1),.sh (.int p.2),.sh (.str sg)],rfl,?_⟩);have q:=hp p h;have a1:opA iH (aA (aD 0) aF) [.sh (.int p.1),.sh (.int p.2),.sh (.str sg)]= .ok (.str (dg p.1)):=by
   show okD (iH [.int p.1])=_;rw[zZ q.1 q.2.1];rfl
  have a2:opA iH (aA (aD 1) aF) [.sh (.int p.1),.sh (.int p.2),.sh (.str sg)]= .ok (.str (dg p.2)):=by
   show okD (iH [.int p.2])=_;rw[zZ q.2.2.1 q.2.2.2];rfl
  have l1:=(fg q.1 q.2.1).len;have l2:=(fg q.2.2.1 q.2.2.2).len;have a3:=qN (g:=aD 2) a1 rfl (b:=sg) (by lia);exact qN a3 a2 (by rw[len_app];lia)
 have e2:op2 jE (opA iH (aA (op2 ixD (aD 0) (cD (.int 0))) aF)) (cD (.str ":")) [.sh (owD n ps),.sh (.str sg)]= .ok (.str (dg n++(":":Str))):=by
  refine qN (a:=dg n) ?_ rfl (by have:=(fg h0 h1).len;have:=bu.1;lia);show okD (iH [.int n])=_;rw[zZ h0 h1];rfl
 have e3:op2 bY (iJ (aA (op2 jE (opA iH (aA (op2 ixD (aD 0) (cD (.int 0))) aF)) (cD (.str ":"))) aF)) (lcD (fC (op2 ixD (aD 0) (cD (.int 1)))) [none,none,some 1] (xM 2 (gw (gnm 0) (gw (gnm 1) yo))) cj (op2 jE (op2 jE (opA iH (aA (aD 0) aF)) (aD 2)) (opA iH (aA (aD 1) aF)))) [.sh (owD n ps),.sh (.str sg)]= .ok (.lst ((((dg n++(":":Str)))::ps.map (prS sg)).map .str)):=by
  have el:iJ (aA (op2 jE (opA iH (aA (op2 ixD (aD 0) (cD (.int 0))) aF)) (cD (.str ":"))) aF) [.sh (owD n ps),.sh (.str sg)]= .ok (.lst [.str (dg n++(":":Str))]):=by
   rw[zK,aU,e2,aM,dD,aM,aM];rfl
  rw[bR,el,aM,e1,aM,aK1,if_pos (by rw[zAF,zAF,zCX];lia),j8];rfl
 have e4:=rF (f:=cD (.str " ")) (s:=" ") rfl e3 (rE 5 (by rw[bu.2.1];decide) (λ w hw=>by
  rcases zAO.mp hw with rfl|hw
  .have:=xF h0 h1;lia
  .obtain⟨p,h,rfl⟩:=zAY.mp hw
   exact aC4 (hp p h) hs) (by rw[zA0,zAF];lia) (by decide))
 rw[bj,e4];rfl
end
def Ow.s{n:Int}{ps:gX}(O:Ow n ps):∀p∈ps,0<=p.1/\p.1<=60/\0<=p.2/\p.2<=60:=λ p hp=>by
 have:=O.pr p hp
 have:=O.n1
 exact⟨by lia,by lia,by lia,by lia⟩
def qQ{n:Int}{ps:gX}(O:Ow n ps)(hl:ps.length<=900):cC [owD n ps]= .ok (.str (gA ">" n ps)):=by
 have e1:=xR O;have e2:=tH (sg:=">") O.n0 O.n1 O.s hl (by rw[bu.2.2.2.1];decide);have st:aa 1 [owD n ps]=[.sh (owD n ps)]:=rfl;have a1:aK fW (aA (aD 0) aF) [.sh (owD n ps)]= .ok .non:=e1;have a2:aK fP (aA (op2 ixD (aD 0) (cD (.int 0))) (aA (op2 ixD (aD 0) (cD (.int 1))) (aA (cD (.str ">")) aF))) [.sh (owD n ps)]= .ok (.str (gA ">" n ps)):=e2;simp only[cC,eY,bC,st];rw[aO,aEY,a1,bK,ak,bj,a2];rfl
def aCw{n:Int}{ps:gX}(O:Ow n ps)(low:∀p∈ps,p.1<p.2):kZ [owD n ps]= .ok .non:=by
 have:=aBi O low
 simp[kZ,jB,aa,this]
def xX{n:Int}{ps:gX}(O:Ow n ps)(low:∀p∈ps,p.1<p.2)(hl:ps.length<=900):eG [owD n ps]= .ok (.str (gA "-" n ps)):=by
 have e1:=aCw O low;have e2:=tH (sg:="-") O.n0 O.n1 O.s hl (by rw[bu.2.2.1];decide);have st:aa 1 [owD n ps]=[.sh (owD n ps)]:=rfl;have a1:aK kZ (aA (aD 0) aF) [.sh (owD n ps)]= .ok .non:=e1;have a2:aK fP (aA (op2 ixD (aD 0) (cD (.int 0))) (aA (op2 ixD (aD 0) (cD (.int 1))) (aA (cD (.str "-")) aF))) [.sh (owD n ps)]= .ok (.str (gA "-" n ps)):=e2;simp only[eG,jd,bC,st];rw[aO,aEY,a1,bK,ak,bj,a2];rfl
def knS:List (Str×Int):=(zAh 61).map λ(k:Nat)=>(dg (k:Int),(k:Int))
def knD:List (Str×D):=knS.map λ p=>(p.1,.int p.2)
theorem aFX(a:Str):∀qs:List (Str×Int),(qs.map λ q=>(q.1,D.int q.2)).lookup a=(qs.lookup a).map .int
 |[]=>rfl
 |q::qs=>by
  rw[zAE,zAe,zAe,aFX a qs];cases a==q.1<;>rfl
def aG8:∀k:Nat,k<61->knS.lookup (dg (k:Int))=some (k:Int):=by decide+kernel
def aPx{i:Int}(h0:0<=i)(h1:i<=60):knD.lookup (dg i)=some (.int i):=by
 have:=aG8 i.toNat (by lia)
 rw[zAn h0]at this;unfold knD;rw[aFX,this];rfl
def aPw:(knS.map (·.1)).Nodup:=by decide+kernel
def aIf{ps:List (Str×D)}{i:Str}{d:D}(h:i∉ps.map (·.1)):aDj ps i d=ps++[(i,d)]:=by
 unfold aDj;rw[if_neg];rw[zH9];rintro⟨p,hp,e⟩;exact h (zAY.mpr ⟨p,hp,of_decide_eq_true e⟩)
theorem aBn:∀{qs acc:List (Str×D)},(acc.map (·.1)++qs.map (·.1)).Nodup->foldZ acc qs=acc++qs
 |[],acc,_=>by simp[foldZ]
 |q::qs,acc,h=>by
  have hn:q.1∉acc.map (·.1):=λ hm=>by
   rw[zB9]at h;exact h.2.2 _ hm _ (by simp) rfl
  have e:foldZ acc (q::qs)=foldZ (aDj acc q.1 q.2) qs:=rfl;rw[e,aIf hn,aBn (by simpa using h)];simp
theorem aDk:∀l:List (Str×D),q9 (l.map λ p=>.tup [.str p.1,p.2])=some l
 |[]=>rfl
 |p::l=>by
  rw[zAE,q9,aDk l];rfl
def knE:En->Rs D:=dcZ (gB j7 (aA (op2 bY (cD (.int 60)) (cD (.int 1))) aF)) [none] (gnm 0) cj (opA iH (aA (aD 0) aF)) (cP (aD 0))
def aJ8(Y:En):knE Y= .ok (lL knD):=by
 unfold knE dcZ;have hr:=ju (j:=61) (by decide) (by decide);have hf:gB j7 (aA (op2 bY (cD (.int 60)) (cD (.int 1))) aF) (shE Y)= .ok (dO 0 61):=hr;have hs:stE [none] (shE Y)=[.no]:=rfl;have e:lcL [.no] (gnm 0) cj (pairE (opA iH (aA (aD 0) aF)) (cP (aD 0))) ((upI 61).map .int)= .ok ((upI 61).map λ x=>.tup [.str (dg x),.int x]):=by
  refine jT _ λ x hx=>⟨[.sh (.int x)],rfl,?_⟩
  have:=pX.mp hx
  have a:opA iH (aA (aD 0) aF) [.sh (.int x)]= .ok (.str (dg x)):=by
   show okD (iH [.int x])=_;rw[zZ this.1 (by lia)];rfl
  unfold pairE;rw[a,aM];rfl
 rw[hf,aM,if_pos (by rw[jO,szl];decide),hs,aFB,e];dsimp only;have e2:((upI 61).map λ x=>D.tup [.str (dg x),.int x])=knD.map λ p=>.tup [.str p.1,p.2]:=by
  unfold knD knS upI;rw[zAl,zAl,zAl];rfl
 rw[e2,aDk];dsimp only;rw[aBn (by
  rw[zEw,zD3];unfold knD;rw[zAl];exact aPw)]
 rfl
def lC{ks:List Int}(h:∀x∈ks,0<=x/\x<=60)(hl:ks.length<=1000):bF [.lst ((ks.map dg).map .str)]= .ok (tupI ks):=by
 have st:aa 2 [.lst ((ks.map dg).map .str)]=[.sh (.lst ((ks.map dg).map .str)),.no]:=rfl;have df:dN=bI (bZ 1 knE) (retS (opA fG (aA (lcD (fC (aD 0)) [none,some 1] (gnm 0) cj (cP (yr (aD 1) (aD 0)))) aF))):=rfl;have a1:bZ 1 knE [.sh (.lst ((ks.map dg).map .str)),.no]= .nx [.sh (.lst ((ks.map dg).map .str)),.sh (lL knD)]:=by
  rw[dB,aJ8];rfl
 have a2:lcD (fC (aD 0)) [none,some 1] (gnm 0) cj (cP (yr (aD 1) (aD 0))) [.sh (.lst ((ks.map dg).map .str)),.sh (lL knD)]= .ok (.lst (ks.map .int)):=by
  rw[zAl];refine ig (ds:=ks.map (D.str∘dg)) rfl (by rw[zAF];lia) (jT ks λ x hx=>⟨[.sh (.str (dg x)),.sh (lL knD)],rfl,?_⟩);have g:yr (aD 1) (aD 0) [.sh (.str (dg x)),.sh (lL knD)]= .ok (.int x):=by
   unfold yr;have v1:aD 1 [.sh (.str (dg x)),.sh (lL knD)]= .ok (lL knD):=rfl;have v0:aD 0 [.sh (.str (dg x)),.sh (lL knD)]= .ok (.str (dg x)):=rfl;rw[v1,aM];unfold lL;dsimp only;rw[aDm];dsimp only;unfold lL at v0;rw[v0,aM];dsimp only;rw[aPx (h x hx).1 (h x hx).2];rfl
  show(yr (aD 1) (aD 0) [.sh (.str (dg x)),.sh (lL knD)]).bd aBO=_
  rw[g,aM];rfl
 simp only[bF,df,bC,st];rw[aO,a1,ak,bj,gJ,aU,a2,aM,dD,aM,aM,lZ];rfl
def aHO(x y:Str)(hy:(y.length==0)=false):(zC4 x (zCB x y 0 x.length (x.length+1)) y.length).length=(zAi x y).length:=by
 have h:=PySem.W.m_split x y hy;have h2:(if (y.length==0)=true then zG1 else some (zI6 ((zC4 x (zCB x y 0 x.length (x.length+1)) y.length).map .str)))=some (.list ((zAi x y).map .str)):=h;rw[hy,if_neg zAM]at h2;injection h2 with h2
 injection h2 with h2
 have:=congrArg zDv h2
 rwa [zAF,zAF]at this
def aKl{a b:Str}(hb:b.length=1)(ha:a.length<=100000):aDU a b=true:=by
 unfold aDU;have hy:(b.length==0)=false:=by rw[hb];rfl
 have h1:=zAy a b;rw[aHO a b hy,hy,decide_eq_true (by rw[szl];lia),decide_eq_true (by rw[szl];lia)];rfl
def jt{f g:En->Rs D}{Y:En}{a b:Str}{ws:List Str}(h1:f Y= .ok (.str a))(h2:g Y= .ok (.str b))(hb:b.length=1)(ha:a.length<=100000)(hw:zAi a b=ws):kj f g Y= .ok (.lst (ws.map .str)):=by
 unfold kj;rw[h1,aM];dsimp only;rw[h2,aM];dsimp only;rw[if_pos (aKl hb ha),hw]
def aFi{c:Nat}{a b:Str}(h1:fr c a)(h2:fr c b):fr c (a++b):=λ h=>by
 rw[zBV,zBM]at h;rcases zAx.mp h with h|h
 .exact h1 h
 .exact h2 h
section
variable{n:Int}{ps:gX}{c:Nat}
def aLK{p:Int×Int}(h:0<=p.1/\p.1<=60/\0<=p.2/\p.2<=60)(hc:c≠32):fr 32 (prS ⟨#[c]⟩ p):=
 aFi (aFi ((fg h.1 h.2.1).fr (.inl (by decide))) (λ q=>hc (zA8.mp q).symm)) ((fg h.2.2.1 h.2.2.2).fr (.inl (by decide)))
def aMY:fr 32 (":":Str):=by unfold fr;decide+kernel
def wN(h0:0<=n)(h1:n<=60)(hp:∀p∈ps,0<=p.1/\p.1<=60/\0<=p.2/\p.2<=60)(hc:c≠32):zAi (gA ⟨#[c]⟩ n ps) (" ":Str)=(dg n++(":":Str))::ps.map (prS ⟨#[c]⟩):=by
 unfold gA;rw[xg];refine lq (zDO _ _) λ w hw=>?_
 rcases zAO.mp hw with rfl|hw
 .exact aFi ((fg h0 h1).fr (.inl (by decide))) aMY
 .obtain⟨p,h,rfl⟩:=zAY.mp hw
  exact aLK (hp p h) hc
def aKe(h0:0<=n)(h1:n<=60)(hp:∀p∈ps,0<=p.1/\p.1<=60/\0<=p.2/\p.2<=60)(hl:ps.length<=900){sg:Str}(hs:sg.length<=1):(gA sg n ps).length<=10000:=by
 have:=rD (s:=(" ":Str)) (ws:=(dg n++(":":Str))::ps.map (prS sg)) 5 (by rw[bu.2.1];decide) (λ w hw=>by
  rcases zAO.mp hw with rfl|hw
  .have:=xF h0 h1;lia
  .obtain⟨p,h,rfl⟩:=zAY.mp hw
   exact aC4 (hp p h) hs)
 rw[zA0,zAF]at this;unfold gA;lia
def tK(h0:0<=n)(h1:n<=60)(hp:∀p∈ps,0<=p.1/\p.1<=60/\0<=p.2/\p.2<=60)(hl:ps.length<=900)(hc:c<48\/57<c)(hc2:c≠32):bV [.str (gA ⟨#[c]⟩ n ps),.str ⟨#[c]⟩]= .ok (owD n ps):=by
 have l1:(⟨#[c]⟩:Str).length=1:=rfl;have wl:=aKe h0 h1 hp hl (sg:=⟨#[c]⟩) (zAQ 1);generalize hx:gA ⟨#[c]⟩ n ps=x at wl;have st:aa 4 [.str x,.str ⟨#[c]⟩]=[.sh (.str x),.sh (.str ⟨#[c]⟩),.no,.no]:=rfl;have e1:=jt (f:=aD 0) (g:=cD (.str " ")) (Y:=[.sh (.str x),.sh (.str ⟨#[c]⟩),.no,.no]) (a:=x) (b:=" ") (ws:=(dg n++(":":Str))::ps.map (prS ⟨#[c]⟩)) rfl rfl bu.2.1 (by lia) (hx▸wN h0 h1 hp hc2);generalize hw:(((dg n++(":":Str))::ps.map (prS ⟨#[c]⟩)).map D.str)=W at e1;have a1:bZ 2 (kj (aD 0) (cD (.str " "))) [.sh (.str x),.sh (.str ⟨#[c]⟩),.no,.no]= .nx [.sh (.str x),.sh (.str ⟨#[c]⟩),.sh (.lst W),.no]:=by
  rw[dB,e1];rfl
 have hW:W= .str (dg n++(":":Str))::(ps.map (prS ⟨#[c]⟩)).map D.str:=by rw[<-hw];rfl
 have dA:cutD W (some 1) none=(ps.map (prS ⟨#[c]⟩)).map D.str:=by
  have:=xQ (l:=W) (k:=1) (by rw[hW];simp)
  rw[hW]at this ⊢;exact this
 have e2:lcD (fC (pG (aD 2) (cT (cD (.int 1))) cU)) [none,some 1] (gnm 0) cj (kj (aD 0) (aD 1)) [.sh (.str x),.sh (.str ⟨#[c]⟩),.sh (.lst W),.no]= .ok (.lst (ps.map λ p=>.lst (([p.1,p.2].map dg).map .str))):=by
  refine ig (ds:=ps.map λ p=>.str (prS ⟨#[c]⟩ p)) ?_ (by rw[zAF];lia) (jT ps λ p h=>⟨[.sh (.str (prS ⟨#[c]⟩ p)),.sh (.str ⟨#[c]⟩)],rfl,?_⟩)
  .show(okD (.ok (.lst (cutD W (some 1) none)))).bd itD=_
   rw[dA,zAl];rfl
  .have q:=hp p h
   refine jt rfl rfl l1 (by have:=aC4 (sg:=⟨#[c]⟩) q (zAQ 1);lia) ?_;rw[<-aCW];exact lq (by simp) λ w hw=>by
    obtain⟨y,hy,rfl⟩:=zAY.mp hw;rcases zAO.mp hy with rfl|hy
    .exact(fg q.1 q.2.1).fr hc
    .rw[zA8.mp hy];exact(fg q.2.2.1 q.2.2.2).fr hc
 have a2:sr 3 (lcD (fC (pG (aD 2) (cT (cD (.int 1))) cU)) [none,some 1] (gnm 0) cj (kj (aD 0) (aD 1))) [.sh (.str x),.sh (.str ⟨#[c]⟩),.sh (.lst W),.no]= .nx [.sh (.str x),.sh (.str ⟨#[c]⟩),.sh (.lst W),.nw (.lst (ps.map λ p=>.lst (([p.1,p.2].map dg).map .str)))]:=by
  rw[vB,e2];rfl
 have e3:cG (op2 ixD (aD 2) (cD (.int 0))) cU (cT (op1 tD (cD (.int 1)))) [.sh (.str x),.sh (.str ⟨#[c]⟩),.sh (.lst W),.nw (.lst (ps.map λ p=>.lst (([p.1,p.2].map dg).map .str)))]= .ok (.str (dg n)):=by
  have ix:op2 ixD (aD 2) (cD (.int 0)) [.sh (.str x),.sh (.str ⟨#[c]⟩),.sh (.lst W),.nw (.lst (ps.map λ p=>.lst (([p.1,p.2].map dg).map .str)))]= .ok (.str (dg n++(":":Str))):=by
   have h0:atD W ((0:Nat):Int)= .ok (.str (dg n++(":":Str))):=gD (by rw[hW];rfl);show okD (atD W ((0:Nat):Int))=_;rw[h0];rfl
  unfold cG;rw[ix,aM];show okD (zf (.str (dg n++(":":Str))) none (some (-1)))=_;unfold zf;dsimp only;rw[if_pos (by have:=xF h0 h1;rw[szl];lia),(fg h0 h1).cut];rfl
 have e4:op2 ixD (aK bF (aA (iJ (aA (cG (op2 ixD (aD 2) (cD (.int 0))) cU (cT (op1 tD (cD (.int 1))))) aF)) aF)) (cD (.int 0)) [.sh (.str x),.sh (.str ⟨#[c]⟩),.sh (.lst W),.nw (.lst (ps.map λ p=>.lst (([p.1,p.2].map dg).map .str)))]= .ok (.int n):=by
  have nr:=lC (ks:=[n]) (λ y hy=>by rw[zA8.mp hy];exact⟨h0,h1⟩) (by simp);have hl:iJ (aA (cG (op2 ixD (aD 2) (cD (.int 0))) cU (cT (op1 tD (cD (.int 1))))) aF) [.sh (.str x),.sh (.str ⟨#[c]⟩),.sh (.lst W),.nw (.lst (ps.map λ p=>.lst (([p.1,p.2].map dg).map .str)))]= .ok (.lst (([n].map dg).map .str)):=by
   rw[zK,aU,e3,aM,dD,aM,aM];rfl
  rw[bR,bx,aU,hl,aM,dD,aM,aM,nr,aM];rfl
 have e5:lcD (fC (aD 3)) [none] (gnm 0) cj (aK bF (aA (aD 0) aF)) [.sh (.str x),.sh (.str ⟨#[c]⟩),.sh (.lst W),.nw (.lst (ps.map λ p=>.lst (([p.1,p.2].map dg).map .str)))]= .ok (.lst (ps.map pD)):=by
  refine ig (ds:=ps.map λ p=>.lst (([p.1,p.2].map dg).map .str)) rfl (by rw[zAF];lia) (jT ps λ p h=>⟨[.sh (.lst (([p.1,p.2].map dg).map .str))],rfl,?_⟩);have q:=hp p h;rw[bx];exact lC (ks:=[p.1,p.2]) (λ y hy=>by
   rcases zAO.mp hy with rfl|hy
   .exact⟨q.1,q.2.1⟩
   .rw[zA8.mp hy];exact q.2.2) (by simp)
 simp only[bV,fM,bC,st];rw[aO,a1,ak,aO,a2,ak,bj,uv,aU,e4,aM,aU,gJ,aU,e5,aM,dD,aM,aM,lZ,j8,aM,aM,aM,aM];rfl
end
def aBh(x:Str):lD "str" (.str x)= .ok (.bl true):=by rfl
def aKL(n:Int)(ps:gX):oY (owD n ps)<=60/\bO (owD n ps)=true:=by
 obtain⟨h1,h2⟩:=aBy ps;unfold owD;refine⟨?_,?_⟩
 .simp only[oY,di]
  have:max 0 (max (di (ps.map pD)+1) 0)<=2:=by lia
  lia
 .simp[bO,bQ,h2]
def aJk(n:Int)(ps:gX):aBO (owD n ps)= .ok (owD n ps):=v4 (by simp[owD,imm,oR,aGb])
def zN(a:Str):eqR false (.str a) (.str a)= .ok (.bl true):=by
 show Rs.ok (D.bl _)=_;simp[eqD]
section
variable{n:Int}{ps:gX}
def aDN(O:Ow n ps)(low:∀p∈ps,p.1<p.2)(hl:ps.length<=900):cN [.str (gA "-" n ps)]= .ok (owD n ps):=by
 have e1:=tK (c:=45) O.n0 O.n1 O.s hl (.inl (by decide)) (by decide);rw[<-aAR]at e1;have e2:=aBi O low;have e3:=xX O low hl;generalize gA "-" n ps=x at e1 e3 ⊢;have st:aa 2 [.str x]=[.sh (.str x),.no]:=rfl;have a0:tst (op1 (lD "str") (aD 0)) [.sh (.str x),.no]= .ok true:=by
  rw[iB,wj,show aD 0 [.sh (.str x),.no]= .ok (.str x)from rfl,aM,aBh];rfl
 have a1:bZ 1 (aK bV (aA (aD 0) (aA (cD (.str "-")) aF))) [.sh (.str x),.no]= .nx [.sh (.str x),.sh (owD n ps)]:=by
  have:aK bV (aA (aD 0) (aA (cD (.str "-")) aF)) [.sh (.str x),.no]= .ok (owD n ps):=e1
  rw[dB,this];rfl
 have a2:aK cI (aA (aD 1) aF) [.sh (.str x),.sh (owD n ps)]= .ok (.bl true):=e2;have a3:aK eG (aA (aD 1) aF) [.sh (.str x),.sh (owD n ps)]= .ok (.str x):=e3;have a4:o6 (tst (aK cI (aA (aD 1) aF))) (tsb (op2 (eqR false) (aK eG (aA (aD 1) aF)) (aD 0))) [.sh (.str x),.sh (owD n ps)]= .ok true:=by
  have t:tst (aK cI (aA (aD 1) aF)) [.sh (.str x),.sh (owD n ps)]= .ok true:=by rw[iB,a2];rfl
  have u:tsb (op2 (eqR false) (aK eG (aA (aD 1) aF)) (aD 0)) [.sh (.str x),.sh (owD n ps)]= .ok true:=by
   rw[du,bR,a3,aM]
   show(okD (eqR false (.str x) (.str x))).bd blD=_
   rw[zN];rfl
  rw[gF,t,u];rfl
 have a5:retS (cP (aD 1)) [.sh (.str x),.sh (owD n ps)]= .rt (owD n ps):=by
  have:cP (aD 1) [.sh (.str x),.sh (owD n ps)]= .ok (owD n ps):=aJk n ps
  rw[bj,this];rfl
 simp only[cN,il,bC,st];rw[aO,bU,a0,bK,if_pos rfl,aO,a1,ak,bU,a4,bK,if_pos rfl,a5];rfl
def ye(O:Ow n ps)(hl:ps.length<=900):bL [.str (gA ">" n ps)]= .ok (owD n ps):=by
 have e1:=tK (c:=62) O.n0 O.n1 O.s hl (.inr (by decide)) (by decide);rw[<-aBm]at e1;have e2:=tV O;have e3:=qQ O hl;generalize gA ">" n ps=x at e1 e3 ⊢;have st:aa 2 [.str x]=[.sh (.str x),.no]:=rfl;have a0:tst (op1 (lD "str") (aD 0)) [.sh (.str x),.no]= .ok true:=by
  rw[iB,wj,show aD 0 [.sh (.str x),.no]= .ok (.str x)from rfl,aM,aBh];rfl
 have a1:bZ 1 (aK bV (aA (aD 0) (aA (cD (.str ">")) aF))) [.sh (.str x),.no]= .nx [.sh (.str x),.sh (owD n ps)]:=by
  have:aK bV (aA (aD 0) (aA (cD (.str ">")) aF)) [.sh (.str x),.no]= .ok (owD n ps):=e1
  rw[dB,this];rfl
 have a2:aK bA (aA (aD 1) aF) [.sh (.str x),.sh (owD n ps)]= .ok (.bl true):=e2;have a3:aK cC (aA (aD 1) aF) [.sh (.str x),.sh (owD n ps)]= .ok (.str x):=e3;have a4:o6 (tst (aK bA (aA (aD 1) aF))) (tsb (op2 (eqR false) (aK cC (aA (aD 1) aF)) (aD 0))) [.sh (.str x),.sh (owD n ps)]= .ok true:=by
  have t:tst (aK bA (aA (aD 1) aF)) [.sh (.str x),.sh (owD n ps)]= .ok true:=by rw[iB,a2];rfl
  have u:tsb (op2 (eqR false) (aK cC (aA (aD 1) aF)) (aD 0)) [.sh (.str x),.sh (owD n ps)]= .ok true:=by
   rw[du,bR,a3,aM]
   show(okD (eqR false (.str x) (.str x))).bd blD=_
   rw[zN];rfl
  rw[gF,t,u];rfl
 have a5:retS (cP (aD 1)) [.sh (.str x),.sh (owD n ps)]= .rt (owD n ps):=by
  have:cP (aD 1) [.sh (.str x),.sh (owD n ps)]= .ok (owD n ps):=aJk n ps
  rw[bj,this];rfl
 simp only[bL,dM,bC,st];rw[aO,bU,a0,bK,if_pos rfl,aO,a1,ak,bU,a4,bK,if_pos rfl,a5];rfl
end
theorem xn:∀{ts:List D},ts.all (cg n)=true->(ts.map intOf).map D.int=ts
 |[],_=>rfl
 |t::ts,h=>by
  rw[zFy,zAN]at h;obtain⟨a,rfl,_⟩:=w5 h.1;rw[zAE,zAE,xn h.2];rfl
def wZ(m:Int):D->Bool
 | .tup ts=>ts.all (cg m)&&mH ltI (ts.map intOf)
 |_=>false
def uE(h:pln d=true)(hs:vA d=true):dG [.int m,d]= .ok (.bl (wZ m d)):=by
 cases d with
 |tup ts=>
  have hp:jP ts=true:=by simpa[pln]using h
  have hl:ts.length<=100000:=by simpa[vA]using hs
  have L:=sW (a:=gnm 2) (u:=ifS (nj (tst (aK fQ (aA (aD 0) (aA (aD 2) aF))))) (retS (cD (.bl false))) Ou.nx) (r:=.bl false)
   ts (λ i=>match ts[i]? with|some t=>cg m t|none=>true) (λ Y=>∃s,Y=[.sh (.int m),.sh (.tup ts),s]) [.sh (.int m),.sh (.tup ts),.no] ⟨_,rfl⟩ (by
    rintro i d Y hd ⟨s,rfl⟩;have e:=rJ (m:=m) (sG (aAG hp (zB1 hd)));simp only[hd];cases c:cg m d with
    |true=>right;exact⟨_,by simp[e,c];rfl,⟨_,rfl⟩,rfl⟩
    |false=>left;exact⟨by simp[e,c],rfl⟩)
  have st:aa 3 [.int m,.tup ts]=[.sh (.int m),.sh (.tup ts),.no]:=rfl;rcases L with ⟨e,i,hi,o⟩|⟨Y',e,⟨s,rfl⟩,o⟩
  .have:ts.all (cg m)=false:=by
    rw[zEo];rw[zAB hi]at o;exact⟨ts[i],zCj hi,by simpa using o⟩
   simp only[dG,dm,bC,st];simp[e,wZ,this]
  .have:ts.all (cg m)=true:=by
    rw[zA9];intro t ht;obtain⟨i,hi,rfl⟩:=zGm ht
    have:=o i hi
    rw[zAB hi]at this;exact this
   have er:=aEM (ps:=ts.map intOf) (by rw[zAF];exact hl);rw[xn this]at er;simp only[dG,dm,bC,st];simp[e,wZ,this,er]
 |_=>simp[dG,dm,aa,sS (sG h),ud,wZ]
theorem ints_of:∀ws:List Int,(ws.map D.int).map intOf=ws
 |[]=>rfl
 |w::ws=>by rw[zAE,zAE,ints_of ws];rfl
def aPN(n:Int):(upI n).Pairwise (·< ·):=by
 unfold upI;rw[List.pairwise_map];exact(List.pairwise_lt_range).imp λ h=>by lia
def aFC{l:List Int}(h:l.Pairwise (·< ·)):mH ltI l=true:=by
 induction l with
 |nil=>rfl
 |cons a l ih=>
  cases l with
  |nil=>rfl
  |cons b l=>
   have h1:=(zBB.mp h).1 b zAI;unfold mH;rw[ih (zBB.mp h).2,zDV];simpa[ltI]using h1
def aNi{n:Int}{l:List Int}(h:l.Sublist (upI n)):wZ n (tupI l)=true:=by
 have hi:(l.map D.int).map intOf=l:=ints_of l;unfold tupI wZ;dsimp only;rw[hi,aFC ((aPN n).sublist h),zDV,zA9];intro d hd;obtain⟨x,hx,rfl⟩:=zAY.mp hd;obtain⟨a,b⟩:=pX.mp (h.subset hx);simp[cg,a,b]
def lpT:En->Rs Bool:=tsb (op2 ltD (aK aR (aA (aD 1) (aA (op2 bY (op2 bY (aD 2) (cD (.int 1))) (aD 0)) (aA (cD (.int 5)) aF)))) (aD 3))
def aBM{c s n:Int}(s0:0<=s)(s1:s<=1000)(n0:0<=n)(n1:n<=60):∃xs:List Int,jY [.int c,.int s,.int n]= .ok (.tup (xs.map .int))/\xs.Sublist (upI n):=by
 obtain⟨r,e,b⟩:=sY (c:=c) (k:=s) (b:=4) (by lia) (by lia) (by decide) (by decide);have st:aa 4 [.int c,.int s,.int n]=[.sh (.int c),.sh (.int s),.sh (.int n),.no]:=rfl;have hr:=ju (j:=n) (by lia) (by lia);obtain⟨t,ht⟩:∃t:Int->Bool,∀x∈upI n,lpT [.sh (.int x),.sh (.int c),.sh (.int s),.sh (.int (1+(r:Int)))]= .ok (t x):=by
  refine⟨λ x=>match lpT [.sh (.int x),.sh (.int c),.sh (.int s),.sh (.int (1+(r:Int)))]with| .ok b=>b|_=>false,λ x hx=>?_⟩;obtain⟨x0,x1⟩:=pX.mp hx;obtain⟨r2,e2,_⟩:=sY (c:=c) (k:=s+1+x) (b:=5) (by lia) (by lia) (by decide) (by decide)
  have:lpT [.sh (.int x),.sh (.int c),.sh (.int s),.sh (.int (1+(r:Int)))]= .ok (decide ((r2:Int)<1+(r:Int))):=by
   unfold lpT;simp[e2]
  dsimp only;rw[this]
 refine⟨(upI n).filter t,?_,List.filter_sublist⟩;have hc:lcD (gB j7 (aA (aD 2) aF)) [none,some 0,some 1,some 3] (gnm 0) lpT (cP (aD 0)) [.sh (.int c),.sh (.int s),.sh (.int n),.sh (.int (1+(r:Int)))]= .ok (.lst (((upI n).filter t).map .int)):=by
  refine ig (ds:=(upI n).map .int) (by rw[<-aFB];simp[shE,aEk,hr]) (by rw[zAF,aEg];lia) ?_;exact aCf (fg:=gnm 0) (f:=D.int) (g:=D.int) (t:=t) (upI n) λ x hx=>⟨[.sh (.int x),.sh (.int c),.sh (.int s),.sh (.int (1+(r:Int)))],rfl,ht x hx,rfl⟩
 have e1:bZ 3 (op2 bY (cD (.int 1)) (aK aR (aA (aD 0) (aA (aD 1) (aA (cD (.int 4)) aF))))) [.sh (.int c),.sh (.int s),.sh (.int n),.no]= .nx [.sh (.int c),.sh (.int s),.sh (.int n),.sh (.int (1+(r:Int)))]:=by simp[e]
 have df:gq=bI (bZ 3 (op2 bY (cD (.int 1)) (aK aR (aA (aD 0) (aA (aD 1) (aA (cD (.int 4)) aF)))))) (retS (opA fG (aA (lcD (gB j7 (aA (aD 2) aF)) [none,some 0,some 1,some 3] (gnm 0) lpT (cP (aD 0))) aF))):=rfl;simp only[jY,df,bC,st];rw[aO,e1,ak,bj,gJ,aU,hc];rfl
def plS(ks:List Int):Str:=if ks=[]then "none" else rwS " " ks
def aMQ(ks:List Int):eqR false (tupI ks) (.tup [])= .ok (.bl (decide (ks=[]))):=by
 obtain⟨h1,h2⟩:=aEZ ks;unfold eqR;rw[if_pos (by simp[tupI,oY,bO,bQ,h1,h2])];cases ks<;>rfl
section
variable{ks:List Int}
def uc(h:∀x∈ks,0<=x/\x<=60)(hl:ks.length<=1000):gG [tupI ks]= .ok (.str (plS ks)):=by
 have st:aa 1 [tupI ks]=[.sh (tupI ks)]:=rfl;have e:=xH (f:=fC (aD 0)) (Y:=[.sh (tupI ks)]) (js:=[none]) (x0:=[]) h hl rfl rfl;have e2:=rF (f:=cD (.str " ")) (s:=" ") rfl e (rE 2 (by rw[bu.2.1];decide) (zP h) (by rw[zAF];exact hl) (by decide));have t:tsb (op2 (eqR false) (aD 0) (jD aF)) [.sh (tupI ks)]= .ok (decide (ks=[])):=by
  rw[du,bR]
  show(okD (eqR false (tupI ks) (.tup []))).bd blD=_
  rw[aMQ];rfl
 simp only[gG,cY,bC,st];rw[bj,ph,t,aM];unfold plS;by_cases c:ks=[]
 .rw[if_pos c,decide_eq_true c];rfl
 .rw[if_neg c,decide_eq_false c,if_neg zAM,e2]
  rfl
def aL8(h:∀x∈ks,0<=x/\x<=60)(c:ks≠[]):rwS " " ks≠("none":Str):=λ e=>by
 have e2:zAi (rwS " " ks) (" ":Str)=ks.map dg:=by
  unfold rwS;rw[xg];exact lq (by simpa using c) λ w hw=>by
   obtain⟨x,hx,rfl⟩:=zAY.mp hw;exact(fg (h x hx).1 (h x hx).2).fr (.inl (by decide))
 rw[e]at e2;have e3:zAi ("none":Str) (" ":Str)=[("none":Str)]:=by decide+kernel
 rw[e3]at e2;cases ks with
 |nil=>exact c rfl
 |cons k ks=>
  injection e2 with e4 _
  have:=(fg (h k zAI).1 (h k zAI).2).ch 110 (by rw[<-e4];decide+kernel)
  lia
def aCr(a b:Str):eqR false (.str a) (.str b)= .ok (.bl (a==b)):=rfl
def aAH(h:ks.Sublist (upI 60))(hl:ks.length<=60):bB [.str (plS ks)]= .ok (tupI ks):=by
 have hb:∀x∈ks,0<=x/\x<=60:=λ x hx=>by
  have:=pX.mp (h.subset hx)
  exact⟨this.1,by lia⟩
 have ea:=uE (m:=60) (d:=tupI ks) (by
  unfold tupI pln;exact aGP λ d hd=>by
   obtain⟨x,_,rfl⟩:=zAY.mp hd;rfl) (by unfold tupI vA;simp;lia)
 rw[aNi h]at ea;have el:(plS ks).length<=1000:=by
  unfold plS;split
  .rw[bu.2.2.2.2.2];decide
  .have:=rD (s:=(" ":Str)) (ws:=ks.map dg) 2 (by rw[bu.2.1];decide) (zP hb)
   rw[zAF]at this;unfold rwS;lia
 have e1:∀s1,ifD (tsb (op2 (eqR false) (aD 0) (cD (.str "none")))) (jD aF) (aK bF (aA (kj (aD 0) (cD (.str " "))) aF)) [.sh (.str (plS ks)),s1]= .ok (tupI ks):=λ s1=>by
  have t:tsb (op2 (eqR false) (aD 0) (cD (.str "none"))) [.sh (.str (plS ks)),s1]= .ok (plS ks==("none":Str)):=by
   rw[du,bR]
   show(okD (eqR false (.str (plS ks)) (.str "none"))).bd blD=_
   rw[aCr];rfl
  rw[ph,t,aM];by_cases c:ks=[]
  .subst c
   have:(plS []==("none":Str))=true:=beq_iff_eq.mpr rfl
   rw[this];rfl
  .have hne:=aL8 hb c
   have hp:plS ks=rwS " " ks:=if_neg c
   have:(plS ks==("none":Str))=false:=beq_eq_false_iff_ne.mpr (by rw[hp];exact hne)
   rw[this,if_neg zAM];have sp:=jt (f:=aD 0) (g:=cD (.str " ")) (Y:=[.sh (.str (plS ks)),s1]) (a:=plS ks) (b:=" ") (ws:=ks.map dg) rfl rfl bu.2.1 (by lia) (by
    rw[hp];unfold rwS;rw[xg];exact lq (by simpa using c) λ w hw=>by
     obtain⟨x,hx,rfl⟩:=zAY.mp hw;exact(fg (hb x hx).1 (hb x hx).2).fr (.inl (by decide)))
   rw[bx,aU,sp,aM,dD,aM,aM];exact lC hb (by lia)
 generalize plS ks=x at e1;have st:aa 2 [.str x]=[.sh (.str x),.no]:=rfl;have a0:tst (op1 (lD "str") (aD 0)) [.sh (.str x),.no]= .ok true:=by
  rw[iB,wj,show aD 0 [.sh (.str x),.no]= .ok (.str x)from rfl,aM,aBh];rfl
 have a1:bZ 1 (ifD (tsb (op2 (eqR false) (aD 0) (cD (.str "none")))) (jD aF) (aK bF (aA (kj (aD 0) (cD (.str " "))) aF))) [.sh (.str x),.no]= .nx [.sh (.str x),.sh (tupI ks)]:=by
  rw[dB,e1];rfl
 have a2:tst (aK dG (aA (cD (.int 60)) (aA (aD 1) aF))) [.sh (.str x),.sh (tupI ks)]= .ok true:=by
  have:aK dG (aA (cD (.int 60)) (aA (aD 1) aF)) [.sh (.str x),.sh (tupI ks)]= .ok (.bl true):=ea
  rw[iB,this];rfl
 have a3:retS (cP (aD 1)) [.sh (.str x),.sh (tupI ks)]= .rt (tupI ks):=by
  have:cP (aD 1) [.sh (.str x),.sh (tupI ks)]= .ok (tupI ks):=v4 (aEN ks)
  rw[bj,this];rfl
 simp only[bB,dw,bC,st];rw[aO,bU,a0,bK,if_pos rfl,aO,a1,ak,bU,a2,bK,if_pos rfl,a3];rfl
end
def eU(w:Str):D:=match knS.lookup w with
 |some k=>.int k
 |none=>.non
def aG1(w:Str):imm (eU w)=true:=by unfold eU;split<;>rfl
def aCa(w:Str):pln (eU w)=true:=by unfold eU;split<;>rfl
def aFR{i:Int}(h0:0<=i)(h1:i<=60):eU (dg i)= .int i:=by
 have:=aG8 i.toNat (by lia)
 rw[zAn h0]at this;unfold eU;rw[this]
theorem aJ7:∀{qs:List (Str×Int)} {w:Str} {k:Int},qs.lookup w=some k->(w,k)∈qs
 |(a,b)::qs,w,k,h=>by
  rw[zAe]at h;split at h
  .rename_i e
   cases h;rw[beq_iff_eq.mp e];exact zAI
  .exact zAH _ (aJ7 h)
def aL6{w:Str}{k:Int}(h:eU w= .int k):w=dg k/\0<=k/\k<=60:=by
 unfold eU at h;split at h
 .rename_i j hj
  cases h;obtain⟨i,hi,e⟩:=zAY.mp (aJ7 hj)
  have:=zBC.mp hi
  cases e;exact⟨rfl,by lia,by lia⟩
 .cases h
def j9{ws:List Str}(hl:ws.length<=10000):bF [.lst (ws.map .str)]= .ok (.tup (ws.map eU)):=by
 have st:aa 2 [.lst (ws.map .str)]=[.sh (.lst (ws.map .str)),.no]:=rfl;have df:dN=bI (bZ 1 knE) (retS (opA fG (aA (lcD (fC (aD 0)) [none,some 1] (gnm 0) cj (cP (yr (aD 1) (aD 0)))) aF))):=rfl;have a1:bZ 1 knE [.sh (.lst (ws.map .str)),.no]= .nx [.sh (.lst (ws.map .str)),.sh (lL knD)]:=by
  rw[dB,aJ8];rfl
 have a2:lcD (fC (aD 0)) [none,some 1] (gnm 0) cj (cP (yr (aD 1) (aD 0))) [.sh (.lst (ws.map .str)),.sh (lL knD)]= .ok (.lst (ws.map eU)):=by
  refine ig (ds:=ws.map .str) rfl (by rw[zAF];lia) (jT ws λ x hx=>⟨[.sh (.str x),.sh (lL knD)],rfl,?_⟩);have g:yr (aD 1) (aD 0) [.sh (.str x),.sh (lL knD)]= .ok (eU x):=by
   unfold yr;have v1:aD 1 [.sh (.str x),.sh (lL knD)]= .ok (lL knD):=rfl;have v0:aD 0 [.sh (.str x),.sh (lL knD)]= .ok (.str x):=rfl;rw[v1,aM];unfold lL;dsimp only;rw[aDm];dsimp only;unfold lL at v0;rw[v0,aM];dsimp only;unfold knD eU;rw[aFX];cases knS.lookup x<;>rfl
  show(yr (aD 1) (aD 0) [.sh (.str x),.sh (lL knD)]).bd aBO=_
  rw[g,aM];exact v4 (aG1 x)
 simp only[bF,df,bC,st];rw[aO,a1,ak,bj,gJ,aU,a2,aM,dD,aM,aM,lZ];rfl
theorem aFv{c:Nat}:∀{ws:List Str} {w:Str},w∈ws->w.length<=(zCz ⟨#[c]⟩ ws).length
 |[a],w,h=>by rw[zA8.mp h];exact zAQ _
 |a::b::r,w,h=>by
  have e:=congrArg zDv (mQ c a b r);rw[zAp,zA0]at e;have l:∀s:Str,s.cps.toList.length=s.length:=λ s=>by simp[zBb]
  rw[l,l,l]at e;rcases zAO.mp h with rfl|h
  .lia
  .have:=aFv (c:=c) h
   lia
def z8{c:Nat}{t w:Str}(h:w∈zAi t ⟨#[c]⟩):w.length<=t.length:=by
 have:=aFv (c:=c) h
 rwa [zCo]at this
def qJ(w:Str):Str:=zDA w none (some (-1))
def rdD(c:Nat)(t:Str):D:=.tup [eU (qJ ((zAi t (" ":Str)).headD "")),.tup ((zAi t (" ":Str)).tail.map λ w=>.tup ((zAi w ⟨#[c]⟩).map eU))]
def qy{c:Nat}{t:Str}(hl:t.length<=900):bV [.str t,.str ⟨#[c]⟩]= .ok (rdD c t):=by
 have l1:(⟨#[c]⟩:Str).length=1:=rfl;have sl:=zAy t (" ":Str);obtain⟨w0,rs,hws⟩:∃w0 rs,zAi t (" ":Str)=w0::rs:=by
  cases h:zAi t (" ":Str)with
  |nil=>exact absurd h (qi _ _)
  |cons a r=>exact⟨a,r,rfl⟩
 have wl:∀w∈w0::rs,w.length<=900:=λ w hw=>by
  rw[<-hws,xg]at hw
  have:=z8 hw
  lia
 unfold rdD;rw[hws]at sl ⊢;rw[zA0]at sl;rw[List.headD_cons,List.tail_cons];have st:aa 4 [.str t,.str ⟨#[c]⟩]=[.sh (.str t),.sh (.str ⟨#[c]⟩),.no,.no]:=rfl;have e1:=jt (f:=aD 0) (g:=cD (.str " ")) (Y:=[.sh (.str t),.sh (.str ⟨#[c]⟩),.no,.no]) (a:=t) (b:=" ") (ws:=w0::rs) rfl rfl bu.2.1 (by lia) hws;generalize hw:(w0::rs).map D.str=Wl at e1;have hW:Wl= .str w0::rs.map D.str:=by rw[<-hw];rfl
 have a1:bZ 2 (kj (aD 0) (cD (.str " "))) [.sh (.str t),.sh (.str ⟨#[c]⟩),.no,.no]= .nx [.sh (.str t),.sh (.str ⟨#[c]⟩),.sh (.lst Wl),.no]:=by
  rw[dB,e1];rfl
 have dA:cutD Wl (some 1) none=rs.map D.str:=by
  have:=xQ (l:=Wl) (k:=1) (by rw[hW];simp)
  rw[hW]at this ⊢;exact this
 have e2:lcD (fC (pG (aD 2) (cT (cD (.int 1))) cU)) [none,some 1] (gnm 0) cj (kj (aD 0) (aD 1)) [.sh (.str t),.sh (.str ⟨#[c]⟩),.sh (.lst Wl),.no]= .ok (.lst (rs.map λ w=>.lst ((zAi w ⟨#[c]⟩).map .str))):=by
  refine ig (ds:=rs.map D.str) ?_ (by rw[zAF];lia) (jT rs λ w h=>⟨[.sh (.str w),.sh (.str ⟨#[c]⟩)],rfl,?_⟩)
  .show(okD (.ok (.lst (cutD Wl (some 1) none)))).bd itD=_
   rw[dA];rfl
  .exact jt rfl rfl l1 (by have:=wl w (zAH _ h);lia) rfl
 have a2:sr 3 (lcD (fC (pG (aD 2) (cT (cD (.int 1))) cU)) [none,some 1] (gnm 0) cj (kj (aD 0) (aD 1))) [.sh (.str t),.sh (.str ⟨#[c]⟩),.sh (.lst Wl),.no]= .nx [.sh (.str t),.sh (.str ⟨#[c]⟩),.sh (.lst Wl),.nw (.lst (rs.map λ w=>.lst ((zAi w ⟨#[c]⟩).map .str)))]:=by
  rw[vB,e2];rfl
 generalize hR:(rs.map λ w=>D.lst ((zAi w ⟨#[c]⟩).map .str))=Rl at e2 a2;have e3:cG (op2 ixD (aD 2) (cD (.int 0))) cU (cT (op1 tD (cD (.int 1)))) [.sh (.str t),.sh (.str ⟨#[c]⟩),.sh (.lst Wl),.nw (.lst Rl)]= .ok (.str (qJ w0)):=by
  have ix:op2 ixD (aD 2) (cD (.int 0)) [.sh (.str t),.sh (.str ⟨#[c]⟩),.sh (.lst Wl),.nw (.lst Rl)]= .ok (.str w0):=by
   have h0:atD Wl ((0:Nat):Int)= .ok (.str w0):=gD (by rw[hW];rfl);show okD (atD Wl ((0:Nat):Int))=_;rw[h0];rfl
  unfold cG;rw[ix,aM];show okD (zf (.str w0) none (some (-1)))=_;unfold zf;dsimp only;rw[if_pos (by have:=wl w0 zAI;rw[szl];lia)];rfl
 have e4:op2 ixD (aK bF (aA (iJ (aA (cG (op2 ixD (aD 2) (cD (.int 0))) cU (cT (op1 tD (cD (.int 1))))) aF)) aF)) (cD (.int 0)) [.sh (.str t),.sh (.str ⟨#[c]⟩),.sh (.lst Wl),.nw (.lst Rl)]= .ok (eU (qJ w0)):=by
  have nr:=j9 (ws:=[qJ w0]) (by simp);have hl:iJ (aA (cG (op2 ixD (aD 2) (cD (.int 0))) cU (cT (op1 tD (cD (.int 1))))) aF) [.sh (.str t),.sh (.str ⟨#[c]⟩),.sh (.lst Wl),.nw (.lst Rl)]= .ok (.lst ([qJ w0].map .str)):=by
   rw[zK,aU,e3,aM,dD,aM,aM];rfl
  rw[bR,bx,aU,hl,aM,dD,aM,aM,nr,aM];rfl
 have e5:lcD (fC (aD 3)) [none] (gnm 0) cj (aK bF (aA (aD 0) aF)) [.sh (.str t),.sh (.str ⟨#[c]⟩),.sh (.lst Wl),.nw (.lst Rl)]= .ok (.lst (rs.map λ w=>.tup ((zAi w ⟨#[c]⟩).map eU))):=by
  rw[<-hR];refine ig (ds:=rs.map λ w=>.lst ((zAi w ⟨#[c]⟩).map .str)) rfl (by rw[zAF];lia) (jT rs λ w h=>⟨[.sh (.lst ((zAi w ⟨#[c]⟩).map .str))],rfl,?_⟩);rw[bx];exact j9 (by have:=zAy w (⟨#[c]⟩:Str);have:=wl w (zAH _ h);lia)
 simp only[bV,fM,bC,st];rw[aO,a1,ak,aO,a2,ak,bj,uv,aU,e4,aM,aU,gJ,aU,e5];rfl
section
variable{α:Type}{f:α->D}{lt:α->α->Bool}
def aCi(z:α){ps:List α}(hlt:∀a b,ltD (f a) (f b)= .ok (.bl (lt a b)))(hl:ps.length<=100000):cF [.tup (ps.map f)]= .ok (.bl (mH lt ps)):=by
 have st:aa 1 [.tup (ps.map f)]=[.sh (.tup (ps.map f))]:=rfl;have hr:=aCX (i:=1) (j:=(ps.length:Int)) (by decide) (by decide) (by lia) (by lia);have hc:lcD (gB yX (aA (cD (.int 1)) (aA (opA gM (aA (aD 0) aF)) aF))) [none,some 0] (gnm 0) cj lrE [.sh (.tup (ps.map f))]= .ok (.lst ((dO 1 (ps.length:Int)).map λ k=>.bl (lt (ps.getD ((intOf k).toNat-1) z) (ps.getD (intOf k).toNat z)))):=by
  have hi:gB yX (aA (cD (.int 1)) (aA (opA gM (aA (aD 0) aF)) aF)) (shE [.sh (.tup (ps.map f))])= .ok (dO 1 (ps.length:Int)):=by simp[shE,aEk,hr]
  have hm:=aCe (Y:=stE [none,some 0] (shE [.sh (.tup (ps.map f))])) (fg:=gnm 0) (fe:=lrE) (g:=λ k=>.bl (lt (ps.getD ((intOf k).toNat-1) z) (ps.getD (intOf k).toNat z))) (dO 1 (ps.length:Int)) λ d hd=>⟨_,rfl,by
   obtain⟨k,rfl,k0,k1⟩:=mL.mp hd;show lrE [.sh (.int k),.sh (.tup (ps.map f))]= .ok (.bl (lt (ps.getD (k.toNat-1) z) (ps.getD k.toNat z)));have l1:k.toNat-1<ps.length:=by lia
   have l2:k.toNat<ps.length:=by lia
   have e1:atD (ps.map f) (k-1)= .ok (f (ps.getD (k.toNat-1) z)):=by
    rw[show k-1=((k.toNat-1:Nat):Int)by lia];exact gD (by rw[zAR,zAB l1,zA3,zAB l1];rfl)
   have e2:atD (ps.map f) k= .ok (f (ps.getD k.toNat z)):=by
    have:=gD (l:=ps.map f) (k:=k.toNat) (d:=f (ps.getD k.toNat z)) (by rw[zAR,zAB l2,zA3,zAB l2];rfl)
    rwa [zAn (by lia)]at this
   unfold lrE;have v1:op2 ixD (aD 1) (op2 ux (aD 0) (cD (.int 1))) [.sh (.int k),.sh (.tup (ps.map f))]= .ok (f (ps.getD (k.toNat-1) z)):=by
    rw[bR,rz];show okD (atD (ps.map f) (k-1))=_;rw[e1];rfl
   have v2:op2 ixD (aD 1) (aD 0) [.sh (.int k),.sh (.tup (ps.map f))]= .ok (f (ps.getD k.toNat z)):=by
    rw[bR,rz,rz];show okD (atD (ps.map f) k)=_;rw[e2];rfl
   rw[bR,v1,aM,v2,aM,hlt,j8]⟩
  unfold lcD;rw[hi,aM,if_pos (by rw[jO,szl];lia),hm]
 have ha:opA (wI λ bs=>bs.all id) (aA (lcD (gB yX (aA (cD (.int 1)) (aA (opA gM (aA (aD 0) aF)) aF))) [none,some 0] (gnm 0) cj lrE) aF) [.sh (.tup (ps.map f))]= .ok (.bl (mH lt ps)):=by
  rw[gJ,aU,hc,aM,dD,aM,aM,wH,j8];refine congrArg (λ b=>Rs.ok (D.bl b)) ?_;rw[zHs,oJ,zA9];constructor
  .intro h i p q e1 e2
   have k2:=(zAK.mp e2).1
   have:=h (.int ((i+1:Nat):Int)) (mL.mpr ⟨_,rfl,by lia,by lia⟩)
   have z1:lt (ps.getD (((i+1:Nat):Int).toNat-1) z) (ps.getD ((i+1:Nat):Int).toNat z)=true:=this;rw[zC8,zHS,zA3,zA3,e1,e2]at z1;exact z1
  .intro h d hd
   obtain⟨k,rfl,k0,k1⟩:=mL.mp hd;have l1:k.toNat-1<ps.length:=by lia
   have l2:k.toNat-1+1<ps.length:=by lia
   show lt (ps.getD (k.toNat-1) z) (ps.getD k.toNat z)=true;have l3:k.toNat<ps.length:=by lia
   have:=h (k.toNat-1) ps[k.toNat-1] ps[k.toNat] (zAB l1) (by rw[show k.toNat-1+1=k.toNat by lia];exact zAB l3)
   rw[zA3,zA3,zAB l1,zAB l3];exact this
 simp only[cF,fO,bC,st];rw[bj,ha,bK]
def aCg(z:α){ps:List α}(hlt:∀a b,ltD (f a) (f b)= .ok (.bl (lt a b)))(hl:ps.length<=100000):cF [.lst (ps.map f)]= .ok (.bl (mH lt ps)):=by
 have st:aa 1 [.lst (ps.map f)]=[.sh (.lst (ps.map f))]:=rfl;have hr:=aCX (i:=1) (j:=(ps.length:Int)) (by decide) (by decide) (by lia) (by lia);have hc:lcD (gB yX (aA (cD (.int 1)) (aA (opA gM (aA (aD 0) aF)) aF))) [none,some 0] (gnm 0) cj lrE [.sh (.lst (ps.map f))]= .ok (.lst ((dO 1 (ps.length:Int)).map λ k=>.bl (lt (ps.getD ((intOf k).toNat-1) z) (ps.getD (intOf k).toNat z)))):=by
  have hi:gB yX (aA (cD (.int 1)) (aA (opA gM (aA (aD 0) aF)) aF)) (shE [.sh (.lst (ps.map f))])= .ok (dO 1 (ps.length:Int)):=by simp[shE,aEk,hr]
  have hm:=aCe (Y:=stE [none,some 0] (shE [.sh (.lst (ps.map f))])) (fg:=gnm 0) (fe:=lrE) (g:=λ k=>.bl (lt (ps.getD ((intOf k).toNat-1) z) (ps.getD (intOf k).toNat z))) (dO 1 (ps.length:Int)) λ d hd=>⟨_,rfl,by
   obtain⟨k,rfl,k0,k1⟩:=mL.mp hd;show lrE [.sh (.int k),.sh (.lst (ps.map f))]= .ok (.bl (lt (ps.getD (k.toNat-1) z) (ps.getD k.toNat z)));have l1:k.toNat-1<ps.length:=by lia
   have l2:k.toNat<ps.length:=by lia
   have e1:atD (ps.map f) (k-1)= .ok (f (ps.getD (k.toNat-1) z)):=by
    rw[show k-1=((k.toNat-1:Nat):Int)by lia];exact gD (by rw[zAR,zAB l1,zA3,zAB l1];rfl)
   have e2:atD (ps.map f) k= .ok (f (ps.getD k.toNat z)):=by
    have:=gD (l:=ps.map f) (k:=k.toNat) (d:=f (ps.getD k.toNat z)) (by rw[zAR,zAB l2,zA3,zAB l2];rfl)
    rwa [zAn (by lia)]at this
   unfold lrE;have v1:op2 ixD (aD 1) (op2 ux (aD 0) (cD (.int 1))) [.sh (.int k),.sh (.lst (ps.map f))]= .ok (f (ps.getD (k.toNat-1) z)):=by
    rw[bR,rz];show okD (atD (ps.map f) (k-1))=_;rw[e1];rfl
   have v2:op2 ixD (aD 1) (aD 0) [.sh (.int k),.sh (.lst (ps.map f))]= .ok (f (ps.getD k.toNat z)):=by
    rw[bR,rz,rz];show okD (atD (ps.map f) k)=_;rw[e2];rfl
   rw[bR,v1,aM,v2,aM,hlt,j8]⟩
  unfold lcD;rw[hi,aM,if_pos (by rw[jO,szl];lia),hm]
 have ha:opA (wI λ bs=>bs.all id) (aA (lcD (gB yX (aA (cD (.int 1)) (aA (opA gM (aA (aD 0) aF)) aF))) [none,some 0] (gnm 0) cj lrE) aF) [.sh (.lst (ps.map f))]= .ok (.bl (mH lt ps)):=by
  rw[gJ,aU,hc,aM,dD,aM,aM,wH,j8];refine congrArg (λ b=>Rs.ok (D.bl b)) ?_;rw[zHs,oJ,zA9];constructor
  .intro h i p q e1 e2
   have k2:=(zAK.mp e2).1
   have:=h (.int ((i+1:Nat):Int)) (mL.mpr ⟨_,rfl,by lia,by lia⟩)
   have z1:lt (ps.getD (((i+1:Nat):Int).toNat-1) z) (ps.getD ((i+1:Nat):Int).toNat z)=true:=this;rw[zC8,zHS,zA3,zA3,e1,e2]at z1;exact z1
  .intro h d hd
   obtain⟨k,rfl,k0,k1⟩:=mL.mp hd;have l1:k.toNat-1<ps.length:=by lia
   have l2:k.toNat-1+1<ps.length:=by lia
   show lt (ps.getD (k.toNat-1) z) (ps.getD k.toNat z)=true;have l3:k.toNat<ps.length:=by lia
   have:=h (k.toNat-1) ps[k.toNat-1] ps[k.toNat] (zAB l1) (by rw[show k.toNat-1+1=k.toNat by lia];exact zAB l3)
   rw[zA3,zA3,zAB l1,zAB l3];exact this
 simp only[cF,fO,bC,st];rw[bj,ha,bK]
end
def aCh{ps:List Int}(hl:ps.length<=100000):cF [.tup (ps.map .int)]= .ok (.bl (mH ltI ps)):=aCi 0 (λ a b=>by rw[aCd];rfl) hl
def prQ:D->List (Int×Int)
 | .tup ts=>ts.map aIq
 |_=>[]
def aAC(h:rpB n d=true):d= .tup ((prQ d).map pD)/\qY (prQ d)=true/\∀q∈prQ d,0<=q.1/\q.1<n/\0<=q.2/\q.2<n/\q.1≠q.2:=by
 cases d with
 |tup ts=>
  rw[rpB,zAN]at h;refine⟨by rw[prQ,aIo h.1],h.2,λ q hq=>?_⟩;obtain⟨t,ht,rfl⟩:=zAY.mp hq;obtain⟨a,b,rfl,z⟩:=aAJ (zA9.mp h.1 t ht);exact z
 |_=>cases h
def aE8(hp:pln d=true)(hs:vA d=true):jr [.int n,d]= .ok (.bl (rpB n d&&(prQ d).all λ q=>decide (q.1<q.2))):=by
 have e:=eV (m:=n) hp hs;have st:aa 2 [.int n,d]=[.sh (.int n),.sh d]:=rfl;have ec:aK bW (aA (aD 0) (aA (aD 1) aF)) [.sh (.int n),.sh d]= .ok (.bl (rpB n d)):=by rw[bx];exact e
 simp only[jr,iw,bC,st];rw[bj,zT,ec,aM,aDF];cases hr:rpB n d with
 |false=>rfl
 |true=>
  obtain⟨ed,_,_⟩:=aAC hr;rw[if_pos rfl,zFw];have hl:(prQ d).length<=100000:=by
   rw[ed]at hs;simpa[vA]using hs
  generalize hq:prQ d=qs at ed hl ⊢;subst ed;have ei:lcD (fC (aD 1)) [none,none] (xM 2 (gw (gnm 0) (gw (gnm 1) yo))) cj (op2 ltD (aD 0) (aD 1)) [.sh (.int n),.sh (.tup (qs.map pD))]= .ok (.lst (qs.map λ p=>.bl (decide (p.1<p.2)))):=ig (ds:=qs.map pD) (by simp[shE,aEk]) (by rw[zAF];lia) (aJ0 (Y:=[]) qs);rw[aKV ei,bK]
section
variable{n:Int}{ps:gX}{t:Str}
def aFw{c:Nat}(O:Ow n ps)(hc:c≠32)(h:(gA ⟨#[c]⟩ n ps).length<=800):ps.length<=900:=by
 have w:=wN O.n0 O.n1 O.s hc
 have:=zAy (gA ⟨#[c]⟩ n ps) (" ":Str)
 rw[w,zA0,zAF]at this;lia
def aI4(c:Nat)(t:Str):pln (rdD c t)=true:=by
 have p1:∀ws:List Str,jP (ws.map eU)=true:=λ ws=>by
  induction ws with
  |nil=>rfl
  |cons w ws ih=>rw[zAE,jP,aCa,ih];rfl
 have p2:∀ws:List Str,jP (ws.map λ w=>D.tup ((zAi w ⟨#[c]⟩).map eU))=true:=λ ws=>by
  induction ws with
  |nil=>rfl
  |cons w ws ih=>
   rw[zAE,jP,ih]
   show(jP ((zAi w ⟨#[c]⟩).map eU)&&true)=true
   rw[p1];rfl
 show jP [_,_]=true;rw[jP,jP,aCa]
 show(true&&(jP _&&true))=true
 rw[p2];rfl
def aG0(w:Str):knd (eU w)=true:=by unfold eU;split<;>rfl
def aFa{x y:D}(hx:knd x=true)(hy:pln y=true)(hs:vA y=true)(hl:∀l,y= .tup l->l.length<=900):cI [.tup [x,y]]= .ok (.bl false)\/∃n ps,D.tup [x,y]=owD n ps/\Ow n ps/\(∀p∈ps,p.1<p.2)/\ps.length<=900/\cI [.tup [x,y]]= .ok (.bl true):=by
 have e1:=pZ hx;cases hm:tU x with
 |false=>
  rw[hm]at e1;left;simp[cI,jW,aa,e1]
 |true=>
  obtain⟨n,rfl,h0,h1⟩:∃n,x= .int n/\0<=n/\n<=60:=by
   cases x with
   |int n=>simp[tU]at hm;exact⟨n,rfl,hm.1,hm.2⟩
   |_=>cases hm
  rw[hm]at e1;have e2:=aE8 (n:=n) hy hs;cases hr:rpB n y&&(prQ y).all λ q=>decide (q.1<q.2)with
  |false=>
   rw[hr]at e2;left;simp[cI,jW,aa,e1,e2]
  |true=>
   rw[hr]at e2;rw[zAN,zA9]at hr;obtain⟨s1,s2,s3⟩:=aAC hr.1;have hL:=hl _ s1;rw[zAF]at hL;exact .inr ⟨n,prQ y,by unfold owD;rw[<-s1],⟨h0,h1,by lia,s3,s2⟩,λ p hp=>of_decide_eq_true (hr.2 p hp),hL,by simp[cI,jW,aa,e1,e2]⟩
def aFc{x y:D}(hx:knd x=true)(hy:pln y=true)(hs:vA y=true)(hl:∀l,y= .tup l->l.length<=900):bA [.tup [x,y]]= .ok (.bl false)\/∃n ps,D.tup [x,y]=owD n ps/\Ow n ps/\ps.length<=900/\bA [.tup [x,y]]= .ok (.bl true):=by
 have e1:=pZ hx;cases hm:tU x with
 |false=>
  rw[hm]at e1;left;simp[bA,dF,aa,e1]
 |true=>
  obtain⟨n,rfl,h0,h1⟩:∃n,x= .int n/\0<=n/\n<=60:=by
   cases x with
   |int n=>simp[tU]at hm;exact⟨n,rfl,hm.1,hm.2⟩
   |_=>cases hm
  rw[hm]at e1;have e2:=eV (m:=n) hy hs;cases hr:rpB n y with
  |false=>
   rw[hr]at e2;left;simp[bA,dF,aa,e1,e2]
  |true=>
   rw[hr]at e2;obtain⟨s1,s2,s3⟩:=aAC hr;have hL:=hl _ s1;rw[zAF]at hL;exact .inr ⟨n,prQ y,by unfold owD;rw[<-s1],⟨h0,h1,by lia,s3,s2⟩,hL,by simp[bA,dF,aa,e1,e2]⟩
def zO{a b:Str}(h:a≠b):eqR false (.str a) (.str b)= .ok (.bl false):=by
 rw[aCr,beq_eq_false_iff_ne.mpr h]
def aDM(hl:t.length<=800)(h:∀n ps,Ow n ps->(∀p∈ps,p.1<p.2)->t≠gA "-" n ps):cN [.str t]= .ex "NoText":=by
 have e1:=qy (c:=45) (t:=t) (by lia);rw[<-aAR]at e1;have st:aa 2 [.str t]=[.sh (.str t),.no]:=rfl;have a0:tst (op1 (lD "str") (aD 0)) [.sh (.str t),.no]= .ok true:=by
  rw[iB,wj,show aD 0 [.sh (.str t),.no]= .ok (.str t)from rfl,aM,aBh];rfl
 have sl:=zAy t (" ":Str);have rp:=aI4 45 t;have G:=aFa (x:=eU (qJ ((zAi t (" ":Str)).headD ""))) (y:=.tup ((zAi t (" ":Str)).tail.map λ w=>.tup ((zAi w ⟨#[45]⟩).map eU))) (aG0 _) (by
  have:jP [_,_]=true:=rp
  rw[jP,jP,zAN,zAN]at this;exact this.2.1) (by simp[vA];lia) (λ l hl=>by cases hl;simp;lia)
 change cI [rdD 45 t]=_\/∃n ps,rdD 45 t=_/\_/\_/\_/\cI [rdD 45 t]=_ at G
 generalize rdD 45 t=x at e1 G;have a1:bZ 1 (aK bV (aA (aD 0) (aA (cD (.str "-")) aF))) [.sh (.str t),.no]= .nx [.sh (.str t),.sh x]:=by
  have:aK bV (aA (aD 0) (aA (cD (.str "-")) aF)) [.sh (.str t),.no]= .ok x:=e1
  rw[dB,this];rfl
 have a4:o6 (tst (aK cI (aA (aD 1) aF))) (tsb (op2 (eqR false) (aK eG (aA (aD 1) aF)) (aD 0))) [.sh (.str t),.sh x]= .ok false:=by
  rcases G with e2|⟨n,ps,rfl,O,low,hps,e2⟩
  .have a2:aK cI (aA (aD 1) aF) [.sh (.str t),.sh x]= .ok (.bl false):=e2
   have t':tst (aK cI (aA (aD 1) aF)) [.sh (.str t),.sh x]= .ok false:=by rw[iB,a2];rfl
   rw[gF,t'];rfl
  .have a2:aK cI (aA (aD 1) aF) [.sh (.str t),.sh (owD n ps)]= .ok (.bl true):=e2
   have a3:aK eG (aA (aD 1) aF) [.sh (.str t),.sh (owD n ps)]= .ok (.str (gA "-" n ps)):=xX O low hps;have t':tst (aK cI (aA (aD 1) aF)) [.sh (.str t),.sh (owD n ps)]= .ok true:=by rw[iB,a2];rfl
   have u:tsb (op2 (eqR false) (aK eG (aA (aD 1) aF)) (aD 0)) [.sh (.str t),.sh (owD n ps)]= .ok false:=by
    rw[du,bR,a3,aM]
    show(okD (eqR false (.str (gA "-" n ps)) (.str t))).bd blD=_
    rw[zO λ z=>h n ps O low z.symm];rfl
   rw[gF,t',u];rfl
 simp only[cN,il,bC,st];rw[aO,bU,a0,bK,if_pos rfl,aO,a1,ak,bU,a4,bK,if_neg zAM];rfl
def yd(hl:t.length<=800)(h:∀n ps,Ow n ps->t≠gA ">" n ps):bL [.str t]= .ex "NoText":=by
 have e1:=qy (c:=62) (t:=t) (by lia);rw[<-aBm]at e1;have st:aa 2 [.str t]=[.sh (.str t),.no]:=rfl;have a0:tst (op1 (lD "str") (aD 0)) [.sh (.str t),.no]= .ok true:=by
  rw[iB,wj,show aD 0 [.sh (.str t),.no]= .ok (.str t)from rfl,aM,aBh];rfl
 have sl:=zAy t (" ":Str);have rp:=aI4 62 t;have G:=aFc (x:=eU (qJ ((zAi t (" ":Str)).headD ""))) (y:=.tup ((zAi t (" ":Str)).tail.map λ w=>.tup ((zAi w ⟨#[62]⟩).map eU))) (aG0 _) (by
  have:jP [_,_]=true:=rp
  rw[jP,jP,zAN,zAN]at this;exact this.2.1) (by simp[vA];lia) (λ l hl=>by cases hl;simp;lia)
 change bA [rdD 62 t]=_\/∃n ps,rdD 62 t=_/\_/\_/\bA [rdD 62 t]=_ at G
 generalize rdD 62 t=x at e1 G;have a1:bZ 1 (aK bV (aA (aD 0) (aA (cD (.str ">")) aF))) [.sh (.str t),.no]= .nx [.sh (.str t),.sh x]:=by
  have:aK bV (aA (aD 0) (aA (cD (.str ">")) aF)) [.sh (.str t),.no]= .ok x:=e1
  rw[dB,this];rfl
 have a4:o6 (tst (aK bA (aA (aD 1) aF))) (tsb (op2 (eqR false) (aK cC (aA (aD 1) aF)) (aD 0))) [.sh (.str t),.sh x]= .ok false:=by
  rcases G with e2|⟨n,ps,rfl,O,hps,e2⟩
  .have a2:aK bA (aA (aD 1) aF) [.sh (.str t),.sh x]= .ok (.bl false):=e2
   have t':tst (aK bA (aA (aD 1) aF)) [.sh (.str t),.sh x]= .ok false:=by rw[iB,a2];rfl
   rw[gF,t'];rfl
  .have a2:aK bA (aA (aD 1) aF) [.sh (.str t),.sh (owD n ps)]= .ok (.bl true):=e2
   have a3:aK cC (aA (aD 1) aF) [.sh (.str t),.sh (owD n ps)]= .ok (.str (gA ">" n ps)):=qQ O hps;have t':tst (aK bA (aA (aD 1) aF)) [.sh (.str t),.sh (owD n ps)]= .ok true:=by rw[iB,a2];rfl
   have u:tsb (op2 (eqR false) (aK cC (aA (aD 1) aF)) (aD 0)) [.sh (.str t),.sh (owD n ps)]= .ok false:=by
    rw[du,bR,a3,aM]
    show(okD (eqR false (.str (gA ">" n ps)) (.str t))).bd blD=_
    rw[zO λ z=>h n ps O z.symm];rfl
   rw[gF,t',u];rfl
 simp only[bL,dM,bC,st];rw[aO,bU,a0,bK,if_pos rfl,aO,a1,ak,bU,a4,bK,if_neg zAM];rfl
end
def cV(m:Int)(w:Str):D:=match yj w ((upI (m+1)).map dg)with
 |some j=>.int (j:Nat)
 |none=>.non
theorem aCp{w:Str}:∀gs:List Str,gs.any (λ g=>g==w)=(yj w gs).isSome
 |[]=>rfl
 |g::gs=>by
  rw[zC5,aCp gs,yj];by_cases c:g=w
  .rw[if_pos c,beq_iff_eq.mpr c];rfl
  .rw[if_neg c,beq_eq_false_iff_ne.mpr c]
   cases yj w gs<;>rfl
def aLv(w:Str)(gs:List Str):inR false (.str w) (.lst (gs.map .str))= .ok (.bl (yj w gs).isSome):=by
 have d1:∀gs:List Str,di (gs.map .str)=0/\bQ (gs.map .str)=true:=λ gs=>by
  induction gs with
  |nil=>exact⟨rfl,rfl⟩
  |cons g gs ih=>simp[di,oY,bQ,bO,ih.1,ih.2]
 unfold inR;dsimp only;rw[(d1 gs).1,(d1 gs).2,if_pos (show(decide (0<=60)&&bO (D.str w)&&true)=true from rfl),if_neg zAM,<-aCp];unfold inD;rw[zGZ];rfl
def nq{m:Int}{w:Str}(h0: -1<=m)(h1:m<=60):dq [.str w,.int m]= .ok (cV m w):=by
 have st:aa 3 [.str w,.int m]=[.sh (.str w),.sh (.int m),.no]:=rfl;have hr:=ju (j:=m+1) (by lia) (by lia);have e1:=xH (f:=gB j7 (aA (op2 bY (aD 1) (cD (.int 1))) aF)) (Y:=[.sh (.str w),.sh (.int m),.no]) (js:=[none]) (w:=upI (m+1)) (x0:=[]) (λ x hx=>by have:=pX.mp hx;lia) (by rw[aEg];lia) (by
  rw[<-aFB,<-hr];rfl) rfl
 have a1:sr 2 (lcD (gB j7 (aA (op2 bY (aD 1) (cD (.int 1))) aF)) [none] (gnm 0) cj (opA iH (aA (aD 0) aF))) [.sh (.str w),.sh (.int m),.no]= .nx [.sh (.str w),.sh (.int m),.nw (.lst (((upI (m+1)).map dg).map .str))]:=by
  rw[vB,e1];rfl
 generalize hg:(upI (m+1)).map dg=gs at e1 a1;have t:tsb (op2 (inR false) (aD 0) (jZ 2)) [.sh (.str w),.sh (.int m),.nw (.lst (gs.map .str))]= .ok (yj w gs).isSome:=by
  rw[du,bR]
  show(okD (inR false (.str w) (.lst (gs.map .str)))).bd blD=_
  rw[aLv];rfl
 have i:opL aFe (jZ 2) (aD 0) [.sh (.str w),.sh (.int m),.nw (.lst (gs.map .str))]=okD (aFe (gs.map .str) (.str w)):=rfl;simp only[dq,gr,bC,st];rw[aO,a1,ak,bj,ph,t,aM,i];unfold cV aFe;dsimp only;rw[hg,pF];dsimp only;cases yj w gs<;>rfl
def rB{m k:Int}{w:Str}(h:cV m w= .int k):w=dg k/\0<=k/\k<=m:=by
 unfold cV at h;split at h
 .rename_i j hj
  cases h
  have:=(xK hj).1
  rw[zAR,zAR]at this;unfold upI at this;rw[zAR]at this;cases hr:(zAh (m+1).toNat)[j]? with
  |none=>rw[hr]at this;cases this
  |some i=>
   rw[hr]at this;obtain⟨hi,ei⟩:=zAK.mp hr;rw[zGz]at ei;rw[zDD]at hi;have t:(dg (i:Int)==w)=true:=zAc this;subst ei;exact⟨(beq_iff_eq.mp t).symm,by lia,by lia⟩
 .cases h
def jw(m:Int)(w:Str):cV m w= .non\/∃k,cV m w= .int k:=by
 unfold cV;split
 .exact .inr ⟨_,rfl⟩
 .exact .inl rfl
def aKK{i j:Int}(i0:0<=i)(i1:i<=60)(j0:0<=j)(j1:j<=60)(h:dg i=dg j):i=j:=by
 have a:=aFR i0 i1;rw[h,aFR j0 j1]at a;cases a;rfl
def zJ{m k:Int}(h0:0<=k)(h1:k<=m)(h2:m<=60):cV m (dg k)= .int k:=by
 rcases jw m (dg k)with z|⟨j,z⟩
 .exfalso
  unfold cV at z;split at z
  .cases z
  .rename_i hn
   have:=aCp (w:=dg k) ((upI (m+1)).map dg)
   rw[hn,zGZ]at this
   have:=zDp.mp this k (pX.mpr ⟨h0,by lia⟩)
   simp at this
 .obtain⟨e,j0,j1⟩:=rB z
  rw[z,aKK h0 (by lia) j0 (by lia) e]
def pq(n:Int)(c:Nat)(w:Str):Option (Int×Int):=match zAi w ⟨#[c]⟩with
 |[x,y]=>(match cV (n-1) x,cV (n-1) y with
  | .int a,.int b=>if a=b\/(c=45/\b<a)then none else some (a,b)
  |_,_=>none)
 |_=>none
def aC5{n:Int}{c:Nat}{w:Str}{p:Int×Int}(h:pq n c w=some p):w=prS ⟨#[c]⟩ p/\(0<=p.1/\p.1<n/\0<=p.2/\p.2<n/\p.1≠p.2)/\(c=45->p.1<p.2):=by
 unfold pq at h;split at h
 .rename_i x y hs
  split at h
  .rename_i a b ha hb
   split at h
   .cases h
   .rename_i hn
    cases h;obtain⟨e1,a0,a1⟩:=rB ha;obtain⟨e2,b0,b1⟩:=rB hb;rw[not_or]at hn;have j:=zCo w (⟨#[c]⟩:Str);rw[hs]at j;refine⟨?_,⟨a0,by show a<n;lia,b0,by show b<n;lia,hn.1⟩,λ hc=>?_⟩
    .rw[<-j,e1,e2]
     rfl
    .have:=hn.2
     show a<b;have h1:=hn.1
     have:¬b<a:=λ z=>hn.2 ⟨hc,z⟩
     lia
  .cases h
 .cases h
def aMs{n:Int}{c:Nat}{p:Int×Int}(hn:n<=60)(h:0<=p.1/\p.1<n/\0<=p.2/\p.2<n/\p.1≠p.2)(hc:c<48\/57<c)(hl:c=45->p.1<p.2):pq n c (prS ⟨#[c]⟩ p)=some p:=by
 have hs:zAi (prS ⟨#[c]⟩ p) ⟨#[c]⟩=[dg p.1,dg p.2]:=by
  rw[<-aCW];exact lq (by simp) λ w hw=>by
   obtain⟨y,hy,rfl⟩:=zAY.mp hw;rcases zAO.mp hy with rfl|hy
   .exact(fg h.1 (by lia)).fr hc
   .rw[zA8.mp hy];exact(fg h.2.2.1 (by lia)).fr hc
 unfold pq;rw[hs];dsimp only;rw[zJ h.1 (by lia) (by lia),zJ h.2.2.1 (by lia) (by lia)];dsimp only;rw[if_neg (by
  rintro(z|⟨z1,z2⟩)
  .exact h.2.2.2.2 z
  .have:=hl z1;lia)]
def aOr(l:List D)(d:D):atD (l++[d]) (-1)= .ok d:=by
 have hx:ixN (l++[d]).length (-1)=some l.length:=by
  unfold ixN;rw[zAp,zCX,if_neg (by lia),if_pos (by lia)];congr 1;lia
 unfold atD atI;rw[hx];simp
section
variable{t:Str}{c:Nat}{n:Int}{Wl:List D}
abbrev rdE(t:Str)(c:Nat)(Wl:List D)(n:Int)(fd:List D)(s5 s6:Slot):En:=[.sh (.str t),.sh (.str ⟨#[c]⟩),.sh (.lst Wl),.sh (.int n),.ow (.lst fd),s5,s6]
def aN8{fd:List D}{w:Str}{s6:Slot}(h0:0<=n)(h1:n<=60)(hw:w.length<=900)(hf:fd.length<=10000):(∃p s6',pq n c w=some p/\rdB (rdE t c Wl n fd (.sh (.str w)) s6)= .nx (rdE t c Wl n (fd++[pD p]) (.sh (.str w)) s6'))\/(pq n c w=none/\rdB (rdE t c Wl n fd (.sh (.str w)) s6)= .rt .non):=by
 have sl:=zAy w (⟨#[c]⟩:Str);have e1:=jt (f:=aD 5) (g:=aD 1) (Y:=rdE t c Wl n fd (.sh (.str w)) s6) (a:=w) (b:=⟨#[c]⟩) rfl rfl rfl (by lia) rfl;generalize hws:zAi w ⟨#[c]⟩=ws at e1 sl;have a1:bZ 6 (kj (aD 5) (aD 1)) (rdE t c Wl n fd (.sh (.str w)) s6)= .nx (rdE t c Wl n fd (.sh (.str w)) (.sh (.lst (ws.map .str)))):=by
  rw[dB,e1];rfl
 have e2:rdA (rdE t c Wl n fd (.sh (.str w)) (.sh (.lst (ws.map .str))))= .ok (.tup (ws.map (cV (n-1)))):=by
  have l:lcD (fC (aD 6)) [none,some 3] (gnm 0) cj (aK dq (aA (aD 0) (aA (op2 ux (aD 1) (cD (.int 1))) aF))) (rdE t c Wl n fd (.sh (.str w)) (.sh (.lst (ws.map .str))))= .ok (.lst (ws.map (cV (n-1)))):=
   ig (ds:=ws.map .str) rfl (by rw[zAF];lia) (jT ws λ x _=>⟨[.sh (.str x),.sh (.int n)],rfl,by
    have:=nq (m:=n-1) (w:=x) (by lia) (by lia)
    simp[this]⟩)
  unfold rdA;rw[gJ,aU,l];rfl
 have a2:yt 4 rdA (rdE t c Wl n fd (.sh (.str w)) (.sh (.lst (ws.map .str))))= .nx (rdE t c Wl n (fd++[.tup (ws.map (cV (n-1)))]) (.sh (.str w)) (.sh (.lst (ws.map .str)))):=by
  have hz:fd.length<16777216:=by lia
  simp[yt,e2,hz]
 have body:rdB (rdE t c Wl n fd (.sh (.str w)) s6)=(ifS aBI (retS (cD .non)) Ou.nx (rdE t c Wl n (fd++[.tup (ws.map (cV (n-1)))]) (.sh (.str w)) (.sh (.lst (ws.map .str))))).sq (ifS aLB (retS (cD .non)) Ou.nx):=by
  rw[rdB,aO,a1,ak,aO,a2,ak,aO]
 have l1:∀d:D,uZ (rdE t c Wl n (fd++[d]) (.sh (.str w)) (.sh (.lst (ws.map .str))))= .ok d:=λ d=>by
  unfold uZ;show okD (atD (fd++[d]) (-1))=_;rw[aOr];rfl
 rw[body];by_cases kK:ws.length=2
 .obtain⟨x,y,rfl⟩:∃x y,ws=[x,y]:=by
   match ws,kK with
   |[x,y],_=>exact⟨x,y,rfl⟩
  have hp:pq n c w=(match cV (n-1) x,cV (n-1) y with
   | .int a,.int b=>if a=b\/(c=45/\b<a)then none else some (a,b)
   |_,_=>none):=by unfold pq;rw[hws];try rfl
  have b1:∀d:D,tsb (op2 (eqR true) (opA gM (aA (aD 6) aF)) (cD (.int 2))) (rdE t c Wl n (fd++[d]) (.sh (.str w)) (.sh (.lst ([x,y].map .str))))= .ok false:=λ _=>rfl
  have b2:tsb (op2 (inR false) (cD .non) uZ) (rdE t c Wl n (fd++[.tup ([x,y].map (cV (n-1)))]) (.sh (.str w)) (.sh (.lst ([x,y].map .str))))=(okD (inR false .non (.tup [cV (n-1) x,cV (n-1) y]))).bd blD:=by
   rw[du,bR,l1];rfl
  rcases jw (n-1) x with zx|⟨a,zx⟩
  .right
   rw[zx]at hp;refine⟨hp,?_⟩;have t1:aBI (rdE t c Wl n (fd++[.tup ([x,y].map (cV (n-1)))]) (.sh (.str w)) (.sh (.lst ([x,y].map .str))))= .ok true:=by
    rw[aBI,mK,b1 _,aM,if_neg zAM,mK,b2,zx];rcases jw (n-1) y with zy|⟨b,zy⟩<;>rw[zy]<;>rfl
   rw[bU,t1,bK,if_pos rfl];rfl
  .rcases jw (n-1) y with zy|⟨b,zy⟩
   .right
    rw[zx,zy]at hp;refine⟨hp,?_⟩;have t1:aBI (rdE t c Wl n (fd++[.tup ([x,y].map (cV (n-1)))]) (.sh (.str w)) (.sh (.lst ([x,y].map .str))))= .ok true:=by
     rw[aBI,mK,b1 _,aM,if_neg zAM,mK,b2,zx,zy];rfl
    rw[bU,t1,bK,if_pos rfl];rfl
   .rw[zx,zy]at hp
    dsimp only at hp;have ed:(D.tup ([x,y].map (cV (n-1))))=pD (a,b):=by
     show D.tup [cV (n-1) x,cV (n-1) y]=_;rw[zx,zy];rfl
    rw[ed]at*;have x0:op2 ixD uZ (cD (.int 0)) (rdE t c Wl n (fd++[pD (a,b)]) (.sh (.str w)) (.sh (.lst ([x,y].map .str))))= .ok (.int a):=by
     rw[bR,l1];rfl
    have x1:op2 ixD uZ (cD (.int 1)) (rdE t c Wl n (fd++[pD (a,b)]) (.sh (.str w)) (.sh (.lst ([x,y].map .str))))= .ok (.int b):=by
     rw[bR,l1];rfl
    have b2':tsb (op2 (inR false) (cD .non) uZ) (rdE t c Wl n (fd++[pD (a,b)]) (.sh (.str w)) (.sh (.lst ([x,y].map .str))))= .ok false:=by
     rw[du,bR,l1];rfl
    have b3:tsb (op2 (eqR false) (op2 ixD uZ (cD (.int 0))) (op2 ixD uZ (cD (.int 1)))) (rdE t c Wl n (fd++[pD (a,b)]) (.sh (.str w)) (.sh (.lst ([x,y].map .str))))= .ok (a==b):=by
     rw[du,bR,x0,aM,x1,aM];rfl
    have t1:aBI (rdE t c Wl n (fd++[pD (a,b)]) (.sh (.str w)) (.sh (.lst ([x,y].map .str))))= .ok (a==b):=by
     rw[aBI,mK,b1 _,aM,if_neg zAM,mK,b2',aM,if_neg zAM,b3]
    have c1:tsb (op2 (eqR false) (aD 1) (cD (.str "-"))) (rdE t c Wl n (fd++[pD (a,b)]) (.sh (.str w)) (.sh (.lst ([x,y].map .str))))= .ok (decide (c=45)):=by
     rw[du,bR]
     show(okD (eqR false (.str ⟨#[c]⟩) (.str "-"))).bd blD=_
     rw[aCr,aAR];by_cases hc:c=45
     .rw[hc];rfl
     .have:((⟨#[c]⟩:Str)==⟨#[45]⟩)=false:=beq_eq_false_iff_ne.mpr λ z=>hc (by
       have:=congrArg (λ s:Str=>s.cps.toList) z
       simpa using this)
      rw[this,decide_eq_false hc];rfl
    have c2:tsb (op2 gtD (op2 ixD uZ (cD (.int 0))) (op2 ixD uZ (cD (.int 1)))) (rdE t c Wl n (fd++[pD (a,b)]) (.sh (.str w)) (.sh (.lst ([x,y].map .str))))= .ok (decide (a>b)):=by
     rw[du,bR,x0,aM,x1,aM];rfl
    have t2:aLB (rdE t c Wl n (fd++[pD (a,b)]) (.sh (.str w)) (.sh (.lst ([x,y].map .str))))= .ok (decide (c=45)&&decide (a>b)):=by
     rw[aLB,gF,c1,aM];by_cases hc:c=45
     .rw[decide_eq_true hc,if_pos rfl,c2];rfl
     .rw[decide_eq_false hc,if_neg zAM];rfl
    by_cases hab:a=b
    .right
     rw[if_pos (.inl hab)]at hp;refine⟨hp,?_⟩;rw[bU,t1,bK,if_pos (beq_iff_eq.mpr hab)];rfl
    .by_cases hcd:c=45/\b<a
     .right
      rw[if_pos (.inr hcd)]at hp;refine⟨hp,?_⟩;rw[bU,t1,bK,if_neg (by rw[beq_iff_eq];exact hab),ak,bU,t2,bK,if_pos (by rw[decide_eq_true hcd.1,decide_eq_true hcd.2];rfl)];rfl
     .left
      rw[if_neg (by rintro(z|z);exact hab z;exact hcd z)]at hp;refine⟨(a,b),.sh (.lst ([x,y].map .str)),hp,?_⟩;rw[bU,t1,bK,if_neg (by rw[beq_iff_eq];exact hab),ak,bU,t2,bK,if_neg (by
       rw[zAN,decide_eq_true_eq,decide_eq_true_eq];exact hcd)]
 .right
  refine⟨by
   unfold pq;rw[hws]
   match ws,kK with
   |[],_=>rfl
   |[_],_=>rfl
   |_::_::_::_,_=>rfl,?_⟩
  have b1:tsb (op2 (eqR true) (opA gM (aA (aD 6) aF)) (cD (.int 2))) (rdE t c Wl n (fd++[.tup (ws.map (cV (n-1)))]) (.sh (.str w)) (.sh (.lst (ws.map .str))))= .ok true:=by
   have hl:gM [.lst (ws.map D.str)]= .ok (.int (ws.length:Int)):=by simp
   have q:eqR true (.int (ws.length:Int)) (.int 2)= .ok (.bl true):=by
    rw[aMR,if_pos rfl,beq_eq_false_iff_ne.mpr (by lia)];rfl
   rw[du,bR,gJ]
   show(((okD (gM [.lst (ws.map D.str)])).bd λ x=>(Rs.ok (D.int 2)).bd λ y=>okD (eqR true x y))).bd blD=_
   rw[hl,j8,aM,aM,q];rfl
  have t1:aBI (rdE t c Wl n (fd++[.tup (ws.map (cV (n-1)))]) (.sh (.str w)) (.sh (.lst (ws.map .str))))= .ok true:=by
   rw[aBI,mK,b1,aM,if_pos rfl]
  rw[bU,t1,bK,if_pos rfl];rfl
end
section
variable{t:Str}{c:Nat}{n:Int}{Wl:List D}
theorem aGK(h0:0<=n)(h1:n<=60):∀(rs:List Str) (fd:List D) (s5 s6:Slot),(∀w∈rs,w.length<=900)->fd.length+rs.length<=10000->
  (∃(ps:gX) (s5' s6':Slot),rs.map (pq n c)=ps.map some/\forL (gnm 5) rdB (rs.map .str) (rdE t c Wl n fd s5 s6)= .nx (rdE t c Wl n (fd++ps.map pD) s5' s6'))\/(none∈rs.map (pq n c)/\forL (gnm 5) rdB (rs.map .str) (rdE t c Wl n fd s5 s6)= .rt .non)
 |[],fd,s5,s6,_,_=>.inl ⟨[],s5,s6,rfl,by simp⟩
 |w::rs,fd,s5,s6,hw,hf=>by
  rw[zA0]at hf;rw[zAE,zAE,sX,aA9,wy];have e0:(rdE t c Wl n fd s5 s6).set 5 (.sh (.str w))=rdE t c Wl n fd (.sh (.str w)) s6:=rfl;rcases aN8 (t:=t) (c:=c) (Wl:=Wl) (s6:=s6) h0 h1 (hw w zAI) (show fd.length<=10000 by lia)with ⟨p,s6',hp,e⟩|⟨hp,e⟩
  .rcases aGK h0 h1 rs (fd++[pD p]) (.sh (.str w)) s6' (λ v hv=>hw v (zAH _ hv)) (by rw[zAp,zCX];lia)with ⟨ps,t5,t6,q,e2⟩|⟨q,e2⟩
   .left
    refine⟨p::ps,t5,t6,by rw[hp,q];rfl,?_⟩
    show(rdB (rdE t c Wl n fd (.sh (.str w)) s6)).tn _=_
    rw[e,aMf,e2,zBU];rfl
   .right
    refine⟨zAH _ q,?_⟩
    show(rdB (rdE t c Wl n fd (.sh (.str w)) s6)).tn _=_
    rw[e,aMf,e2]
  .right
   refine⟨by rw[hp];exact zAI,?_⟩
   show(rdB (rdE t c Wl n fd (.sh (.str w)) s6)).tn _=_
   rw[e];rfl
end
def aEX(w:Str):Str:=zDA w (some (-1)) none
def aMX{w:Str}(h:1<=w.length):qJ w++aEX w=w:=by
 have a:=beq_iff_eq.mp (PyProof.Rows.slice_closes_to_neg (x:=w) (j:=-1) (k:=-1+w.length) (by decide) (by lia) rfl);have b:=beq_iff_eq.mp (PyProof.Rows.slice_closes_from_neg (x:=w) (i:=-1) (a:=-1+w.length) (b:=w.length) (by decide) (by lia) rfl rfl);have l:w.cps.toList.length=w.length:=by simp[zBb]
 refine zA ?_;unfold qJ aEX;rw[a,b,zBV,zBM];have e1:((-1+(w.length:Int))-0).toNat=w.length-1:=by lia
 have e2:(-1+(w.length:Int)).toNat=w.length-1:=by lia
 have e3:((w.length:Int)-(-1+w.length)).toNat=1:=by lia
 rw[e1,e2,e3]
 show(w.cps.toList.drop (0:Int).toNat).take (w.length-1)++(w.cps.toList.drop (w.length-1)).take 1=w.cps.toList
 rw[zEE (l:=w.cps.toList.drop (w.length-1)) (by rw[zDQ,l];lia)];exact zBx _ _
def aMS:∀k:Nat,k<61->aEX (dg (k:Int)++(":":Str))=(":":Str):=by decide+kernel
def aOg{n:Int}(h0:0<=n)(h1:n<=60):aEX (dg n++(":":Str))=(":":Str):=by
 have:=aMS n.toNat (by lia)
 rwa [zAn h0]at this
section
variable{t:Str}{c:Nat}
theorem vP{α:Type}:∀{a b:List α},a.map some=b.map some->a=b
 |[],[],_=>rfl
 |[],_::_,h=>by cases h
 |_::_,[],h=>by cases h
 |x::a,y::b,h=>by
  rw[zAE,zAE,zEk]at h;rw[zAc h.1,vP h.2]
def xm(hl:t.length<=800)(hc:c=45\/c=62):
  (∃n ps,Ow n ps/\(c=45->∀p∈ps,p.1<p.2)/\t=gA ⟨#[c]⟩ n ps/\bz [.str t,.str ⟨#[c]⟩]= .ok (owD n ps))\/
  (bz [.str t,.str ⟨#[c]⟩]= .ok .non/\∀n ps,Ow n ps->(c=45->∀p∈ps,p.1<p.2)->t≠gA ⟨#[c]⟩ n ps):=by
 have hc2:c≠32:=by lia
 have hc3:c<48\/57<c:=by lia
 have sl:=zAy t (" ":Str);obtain⟨w0,rs,hws⟩:∃w0 rs,zAi t (" ":Str)=w0::rs:=by
  cases h:zAi t (" ":Str)with
  |nil=>exact absurd h (qi _ _)
  |cons a r=>exact⟨a,r,rfl⟩
 have wl:∀w∈w0::rs,w.length<=900:=λ w hw=>by
  rw[<-hws,xg]at hw
  have:=z8 hw
  lia
 have ww:∀n ps,Ow n ps->t=gA ⟨#[c]⟩ n ps->w0=dg n++(":":Str)/\rs=ps.map (prS ⟨#[c]⟩):=λ n ps O e=>by
  have:=wN (c:=c) O.n0 O.n1 O.s hc2
  rw[<-e,hws,zEk]at this;exact this
 rw[hws,zA0]at sl;have st:aa 7 [.str t,.str ⟨#[c]⟩]=[.sh (.str t),.sh (.str ⟨#[c]⟩),.no,.no,.no,.no,.no]:=rfl;have e1:=jt (f:=aD 0) (g:=cD (.str " ")) (Y:=[.sh (.str t),.sh (.str ⟨#[c]⟩),.no,.no,.no,.no,.no]) (a:=t) (b:=" ") (ws:=w0::rs) rfl rfl bu.2.1 (by lia) hws;generalize hw:(w0::rs).map D.str=Wl at e1;have hW:Wl= .str w0::rs.map D.str:=by rw[<-hw];rfl
 have a1:bZ 2 (kj (aD 0) (cD (.str " "))) [.sh (.str t),.sh (.str ⟨#[c]⟩),.no,.no,.no,.no,.no]= .nx [.sh (.str t),.sh (.str ⟨#[c]⟩),.sh (.lst Wl),.no,.no,.no,.no]:=by
  rw[dB,e1];rfl
 have dA:cutD Wl (some 1) none=rs.map D.str:=by
  have:=xQ (l:=Wl) (k:=1) (by rw[hW];simp)
  rw[hW]at this ⊢;exact this
 have ix:∀s3:Slot,op2 ixD (aD 2) (cD (.int 0)) [.sh (.str t),.sh (.str ⟨#[c]⟩),.sh (.lst Wl),s3,.no,.no,.no]= .ok (.str w0):=λ s3=>by
  have h0:atD Wl ((0:Nat):Int)= .ok (.str w0):=gD (by rw[hW];rfl);show okD (atD Wl ((0:Nat):Int))=_;rw[h0];rfl
 have w9:=wl w0 zAI;have e3:cG (op2 ixD (aD 2) (cD (.int 0))) cU (cT (op1 tD (cD (.int 1)))) [.sh (.str t),.sh (.str ⟨#[c]⟩),.sh (.lst Wl),.no,.no,.no,.no]= .ok (.str (qJ w0)):=by
  unfold cG;rw[ix,aM];show okD (zf (.str w0) none (some (-1)))=_;unfold zf;dsimp only;rw[if_pos (by rw[szl];lia)];rfl
 have e3':∀s3:Slot,cG (op2 ixD (aD 2) (cD (.int 0))) (cT (op1 tD (cD (.int 1)))) cU [.sh (.str t),.sh (.str ⟨#[c]⟩),.sh (.lst Wl),s3,.no,.no,.no]= .ok (.str (aEX w0)):=λ s3=>by
  unfold cG;rw[ix,aM];show okD (zf (.str w0) (some (-1)) none)=_;unfold zf;dsimp only;rw[if_pos (by rw[szl];lia)];rfl
 have e4:rdM [.sh (.str t),.sh (.str ⟨#[c]⟩),.sh (.lst Wl),.no,.no,.no,.no]= .ok (cV 60 (qJ w0)):=by
  unfold rdM;rw[bx,aU,e3,aM];exact nq (by decide) (by decide)
 have a2:bZ 3 rdM [.sh (.str t),.sh (.str ⟨#[c]⟩),.sh (.lst Wl),.no,.no,.no,.no]= .nx [.sh (.str t),.sh (.str ⟨#[c]⟩),.sh (.lst Wl),.sh (cV 60 (qJ w0)),.no,.no,.no]:=by
  rw[dB,e4];rfl
 have q1:tsb (op2 (eqR true) (cG (op2 ixD (aD 2) (cD (.int 0))) (cT (op1 tD (cD (.int 1)))) cU) (cD (.str ":"))) [.sh (.str t),.sh (.str ⟨#[c]⟩),.sh (.lst Wl),.sh (cV 60 (qJ w0)),.no,.no,.no]= .ok (!(aEX w0==(":":Str))):=by
  rw[du,bR,e3',aM];rfl
 have start:bz [.str t,.str ⟨#[c]⟩]=match ((ifS rdC (retS (cD .non)) Ou.nx [.sh (.str t),.sh (.str ⟨#[c]⟩),.sh (.lst Wl),.sh (cV 60 (qJ w0)),.no,.no,.no]).sq (bI (yR 4 (iJ aF)) (bI (rN (fC (pG (aD 2) (cT (cD (.int 1))) cU)) (gnm 5) rdB) (retS rdR))))with
  | .nx _=>.ok .non
  | .rt d=>.ok d
  | .ex c=>.ex c
  |_=>.st:=by
  rw[bz,bC,st,eZ,aO,a1,ak,aO,a2,ak,aO];try rfl
 by_cases hb:aEX w0=(":":Str)/\∃n,cV 60 (qJ w0)= .int n
 .obtain⟨he,n,hn⟩:=hb
  obtain⟨hd,n0,n1⟩:=rB hn;have w0e:w0=dg n++(":":Str):=by
   have:1<=w0.length:=by
    have:=zET w0 (some (-1)) none
    have e:(zDA w0 (some (-1)) none).length=1:=by
     have:=congrArg zBb he
     rw[bu.1]at this;exact this
    lia
   rw[<-aMX this,hd,he]
  rw[hn]at start;have tc:rdC [.sh (.str t),.sh (.str ⟨#[c]⟩),.sh (.lst Wl),.sh (.int n),.no,.no,.no]= .ok false:=by
   rw[hn]at q1;rw[rdC,mK,q1,aM,he];rfl
  have hi:fC (pG (aD 2) (cT (cD (.int 1))) cU) (rdE t c Wl n [] .no .no)= .ok (rs.map D.str):=by
   show(okD (.ok (.lst (cutD Wl (some 1) none)))).bd itD=_
   rw[dA];rfl
  have a3:yR 4 (iJ aF) [.sh (.str t),.sh (.str ⟨#[c]⟩),.sh (.lst Wl),.sh (.int n),.no,.no,.no]= .nx (rdE t c Wl n [] .no .no):=rfl;rw[bU,tc,bK,if_neg zAM,ak,aO,a3,ak,aO,qC,hi,bK]at start;have dS:∀n' ps',Ow n' ps'->t=gA ⟨#[c]⟩ n' ps'->n'=n/\rs=ps'.map (prS ⟨#[c]⟩):=λ n' ps' O e=>by
   obtain⟨z1,z2⟩:=ww n' ps' O e;refine⟨?_,z2⟩;have z3:qJ w0=dg n':=by rw[z1];exact(fg O.n0 O.n1).cut
   exact aKK O.n0 O.n1 n0 n1 (z3.symm.trans hd)
  rcases aGK (t:=t) (c:=c) (Wl:=Wl) n0 n1 rs [] .no .no (λ w hw=>wl w (zAH _ hw)) (by simp;lia)with ⟨ps,s5,s6,q,el⟩|⟨q,el⟩
  .rw[el,ak,zD3,bj]at start
   have hg:∀p∈ps,∃w∈rs,pq n c w=some p:=λ p hp=>by
    have:some p∈rs.map (pq n c):=by rw[q];exact zAY.mpr ⟨p,hp,rfl⟩
    obtain⟨w,h1,h2⟩:=zAY.mp this;exact⟨w,h1,h2⟩
   have hrs:rs=ps.map (prS ⟨#[c]⟩):=by
    have:∀{rs:List Str} {ps:gX},rs.map (pq n c)=ps.map some->rs=ps.map (prS ⟨#[c]⟩):=by
     intro rs;induction rs with
     |nil=>intro ps h;cases ps with
      |nil=>rfl
      |cons _ _=>cases h
     |cons w rs ih=>
      intro ps h;cases ps with
      |nil=>cases h
      |cons p ps=>
       rw[zAE,zAE,zEk]at h;rw[zAE,<-ih h.2,<-(aC5 h.1).1]
    exact this q
   have hpl:ps.length<=900:=by
    have:=congrArg zDv hrs
    rw[zAF]at this;lia
   have er:cF [.lst (ps.map pD)]= .ok (.bl (qY ps)):=by
    rw[aCZ];exact aCg (f:=pD) (lt:=ltP) (0,0) aJW (by lia)
   have tr:tst (aK cF (aA (eO 4) aF)) (rdE t c Wl n (ps.map pD) s5 s6)= .ok (qY ps):=by
    have:aK cF (aA (eO 4) aF) (rdE t c Wl n (ps.map pD) s5 s6)= .ok (.bl (qY ps)):=by
     have hv:aA (eO 4) aF (rdE t c Wl n (ps.map pD) s5 s6)= .ok [.lst (ps.map pD)]:=rfl;rw[bx,hv,aM,er]
    rw[iB,this];rfl
   have te:t=gA ⟨#[c]⟩ n ps:=by
    have j:=zCo t (" ":Str);rw[hws,hrs,w0e]at j;unfold gA;rw[lY];exact j.symm
   cases hr:qY ps with
   |true=>
    left;refine⟨n,ps,⟨n0,n1,by lia,λ p hp=>?_,hr⟩,λ z p hp=>?_,te,?_⟩
    .obtain⟨w,_,h⟩:=hg p hp
     exact(aC5 h).2.1
    .obtain⟨w,_,h⟩:=hg p hp
     exact(aC5 h).2.2 z
    .rw[start,rdR,ph,tr,hr,aM,if_pos rfl]
     rfl
   |false=>
    right;refine⟨?_,λ n' ps' O low e=>?_⟩
    .rw[start,rdR,ph,tr,hr,aM,if_neg zAM]
     rfl
    .obtain⟨rfl,z⟩:=dS n' ps' O e
     have:ps=ps':=vP (by
      rw[<-q,z,zAl];exact zCL λ p hp=>aMs O.n1 (O.pr p hp) hc3 λ y=>low y p hp)
     rw[this,O.ris]at hr;cases hr
  .rw[el]at start
   right;refine⟨start,λ n' ps' O low e=>?_⟩;obtain⟨rfl,z⟩:=dS n' ps' O e;obtain⟨w,hw1,hw2⟩:=zAY.mp q;rw[z]at hw1;obtain⟨p,hp,rfl⟩:=zAY.mp hw1;rw[aMs O.n1 (O.pr p hp) hc3 λ y=>low y p hp]at hw2;cases hw2
 .right
  have tc:rdC [.sh (.str t),.sh (.str ⟨#[c]⟩),.sh (.lst Wl),.sh (cV 60 (qJ w0)),.no,.no,.no]= .ok true:=by
   rw[rdC,mK,q1,aM];by_cases he:aEX w0=(":":Str)
   .rw[he]
    rcases jw 60 (qJ w0)with z|⟨k,z⟩
    .rw[z];rfl
    .exact absurd ⟨he,k,z⟩ hb
   .rw[beq_eq_false_iff_ne.mpr he];rfl
  rw[bU,tc,bK,if_pos rfl]at start;refine⟨start,λ n ps O _ e=>hb ?_⟩;obtain⟨z1,_⟩:=ww n ps O e;have z3:qJ w0=dg n:=by rw[z1];exact(fg O.n0 O.n1).cut
  exact⟨by rw[z1];exact aOg O.n0 O.n1,n,by rw[z3];exact zJ O.n0 O.n1 (by decide)⟩
end
section
variable{t:Str}
def aLa:wdN ("NoText":Str)=some ("text":Str):=by decide+kernel
def iZ{f:Str}{F:List D->Rs D}{x:D}(hf:([("web_read",cN),("places_read",bB),("one_way_read",bL)]:List (Str×(List D->Rs D))).lookup f=some F)(h:F [x]= .ex "NoText"):bH [.fn f,x,.non]= .ok (.bl true):=by
 have st:aa 3 [.fn f,x,.non]=[.sh (.fn f),.sh x,.sh .non]:=rfl;have t1:tsb (op2 (isD false) (aD 2) (cD .non)) [.sh (.fn f),.sh x,.sh .non]= .ok true:=rfl;have cv:rW [("web_read",cN),("places_read",bB),("one_way_read",bL)] 0 (aA (aD 1) aF) [.sh (.fn f),.sh x,.sh .non]= .ex "NoText":=by
  unfold rW;rw[show aD 0 [.sh (.fn f),.sh x,.sh .non]= .ok (.fn f)from rfl];unfold fnOf;dsimp only;rw[hf];dsimp only;rw[<-h];rfl
 have r1:aHH wdN "told" (rW [("web_read",cN),("places_read",bB),("one_way_read",bL)] 0 (aA (aD 1) aF)) [.sh (.fn f),.sh x,.sh .non]= .ok (.str "text"):=by
  unfold aHH;rw[show([.sh (.fn f),.sh x,.sh .non]:En).map shS=[.sh (.fn f),.sh x,.sh .non]from rfl,cv];dsimp only;rw[aLa]
 have r2:op2 (eqR false) (aHH wdN "told" (rW [("web_read",cN),("places_read",bB),("one_way_read",bL)] 0 (aA (aD 1) aF))) (cD (.str "text")) [.sh (.fn f),.sh x,.sh .non]= .ok (.bl true):=by
  rw[bR,r1,aM];show okD (eqR false (.str "text") (.str "text"))=_;rw[zN];rfl
 simp only[bH,dj,bC,st];rw[aO,bU,t1,bK,if_pos rfl,bj,r2];rfl
def pP{f:Str}{F:List D->Rs D}{x y:D}(hf:([("web_read",cN),("places_read",bB),("one_way_read",bL)]:List (Str×(List D->Rs D))).lookup f=some F)(h:F [x]= .ok y)(hy:isD false y .non= .ok (.bl false))(he:eqR false y y= .ok (.bl true)):bH [.fn f,x,y]= .ok (.bl true):=by
 have st:aa 3 [.fn f,x,y]=[.sh (.fn f),.sh x,.sh y]:=rfl;have t1:tsb (op2 (isD false) (aD 2) (cD .non)) [.sh (.fn f),.sh x,.sh y]= .ok false:=by
  rw[du,bR]
  show(okD (isD false y .non)).bd blD=_
  rw[hy];rfl
 have cv:rW [("web_read",cN),("places_read",bB),("one_way_read",bL)] 0 (aA (aD 1) aF) [.sh (.fn f),.sh x,.sh y]= .ok y:=by
  unfold rW;rw[show aD 0 [.sh (.fn f),.sh x,.sh y]= .ok (.fn f)from rfl];unfold fnOf;dsimp only;rw[hf];dsimp only;rw[<-h];rfl
 have r2:op2 (eqR false) (rW [("web_read",cN),("places_read",bB),("one_way_read",bL)] 0 (aA (aD 1) aF)) (aD 2) [.sh (.fn f),.sh x,.sh y]= .ok (.bl true):=by
  rw[bR,cv,aM];show okD (eqR false y y)=_;rw[he];rfl
 simp only[bH,dj,bC,st];rw[aO,bU,t1,bK,if_neg zAM,ak,bj,r2];rfl
def aMv(n:Int)(ps:gX):eqR false (owD n ps) (owD n ps)= .ok (.bl true):=aEU false (aKL n ps).1 (aKL n ps).2
def aHD(hl:t.length<=800):∃u,bz [.str t,.str "-"]= .ok u/\bH [.fn "web_read",.str t,u]= .ok (.bl true):=by
 rcases xm (c:=45) hl (.inl rfl)with ⟨n,ps,O,low,e,h⟩|⟨h,no⟩
 .rw[<-aAR]at e h
  have hps:ps.length<=900:=aFw (c:=45) O (by decide) (by rw[<-aAR,<-e];exact hl);refine⟨_,h,pP rfl (by rw[e];exact aDN O (low rfl) hps) rfl (aMv n ps)⟩
 .rw[<-aAR]at h
  exact⟨_,h,iZ rfl (aDM hl λ n ps O low=>by rw[aAR];exact no n ps O λ _=>low)⟩
def aHE(hl:t.length<=800):∃u,bz [.str t,.str ">"]= .ok u/\bH [.fn "one_way_read",.str t,u]= .ok (.bl true):=by
 rcases xm (c:=62) hl (.inr rfl)with ⟨n,ps,O,low,e,h⟩|⟨h,no⟩
 .rw[<-aBm]at e h
  have hps:ps.length<=900:=aFw (c:=62) O (by decide) (by rw[<-aBm,<-e];exact hl);refine⟨_,h,pP rfl (by rw[e];exact ye O hps) rfl (aMv n ps)⟩
 .rw[<-aBm]at h
  exact⟨_,h,iZ rfl (yd hl λ n ps O=>by rw[aBm];exact no n ps O λ z=>absurd z (by decide))⟩
end
section
variable{t:Str}
theorem vO(m:Int):∀ws:List Str,di (ws.map (cV m))=0/\bQ (ws.map (cV m))=true
 |[]=>⟨rfl,rfl⟩
 |w::ws=>by
  obtain⟨h1,h2⟩:=vO m ws;rcases jw m w with z|⟨k,z⟩<;>simp[di,oY,bQ,bO,h1,h2,z]
def aL9(m:Int)(ws:List Str):inR true .non (.tup (ws.map (cV m)))= .ok (.bl (!(ws.any λ w=>eqD (cV m w) .non))):=by
 unfold inR;dsimp only;rw[(vO m ws).1,(vO m ws).2,if_pos (show(decide (0<=60)&&bO D.non&&true)=true from rfl),if_pos rfl];unfold inD;rw[zGZ];rfl
def aDs{w:Str}{k:Int}(h:cV 59 w= .int k):eU w= .int k/\cg 60 (.int k)=true:=by
 obtain⟨e,h0,h1⟩:=rB h;rw[e];exact⟨aFR h0 (by lia),by simp[cg];lia⟩
def aL7{w:Str}(h:cV 59 w= .non):cg 60 (eU w)=false:=by
 unfold eU;cases hk:knS.lookup w with
 |none=>rfl
 |some k=>
  have:eU w= .int k:=by unfold eU;rw[hk]
  obtain⟨e,h0,h1⟩:=aL6 this;by_cases c:k<=59
  .rw[e,zJ h0 c (by decide)]at h
   cases h
  .simp[cg];lia
def aLN(ws:List Str):aBO (.tup (ws.map eU))= .ok (.tup (ws.map eU)):=v4 (by
 have:∀ws:List Str,oR (ws.map eU)=true:=λ ws=>by
  induction ws with
  |nil=>rfl
  |cons w ws ih=>rw[zAE,oR,aG1,ih];rfl
 show oR _=true;exact this ws)
def yZ(hl:t.length<=800)(hn:t≠("none":Str)):bB [.str t]=if wZ 60 (.tup ((zAi t (" ":Str)).map eU))=true then .ok (.tup ((zAi t (" ":Str)).map eU))else .ex "NoText":=by
 have sl:=zAy t (" ":Str);have e1:=jt (f:=aD 0) (g:=cD (.str " ")) (Y:=[.sh (.str t),.no]) (a:=t) (b:=" ") rfl rfl bu.2.1 (by lia) rfl;generalize hws:zAi t (" ":Str)=ws at e1 sl ⊢;have st:aa 2 [.str t]=[.sh (.str t),.no]:=rfl;have a0:tst (op1 (lD "str") (aD 0)) [.sh (.str t),.no]= .ok true:=by
  rw[iB,wj,show aD 0 [.sh (.str t),.no]= .ok (.str t)from rfl,aM,aBh];rfl
 have e2:=j9 (ws:=ws) (by lia);have pl:pln (.tup (ws.map eU))=true:=by
  have p1:∀ws:List Str,jP (ws.map eU)=true:=λ ws=>by
   induction ws with
   |nil=>rfl
   |cons w ws ih=>rw[zAE,jP,aCa,ih];rfl
  exact p1 ws
 have e3:=uE (m:=60) pl (by simp[vA];lia);have im:=aLN ws;generalize D.tup (ws.map eU)=x at e2 e3 im ⊢;have c1:bZ 1 (ifD (tsb (op2 (eqR false) (aD 0) (cD (.str "none")))) (jD aF) (aK bF (aA (kj (aD 0) (cD (.str " "))) aF))) [.sh (.str t),.no]= .nx [.sh (.str t),.sh x]:=by
  have tt:tsb (op2 (eqR false) (aD 0) (cD (.str "none"))) [.sh (.str t),.no]= .ok false:=by
   rw[du,bR]
   show(okD (eqR false (.str t) (.str "none"))).bd blD=_
   rw[zO hn];rfl
  rw[dB,ph,tt,aM,if_neg zAM,bx,aU,e1,aM,dD,aM,aM,e2];rfl
 have c2:tst (aK dG (aA (cD (.int 60)) (aA (aD 1) aF))) [.sh (.str t),.sh x]= .ok (wZ 60 x):=by
  have hv:aA (cD (.int 60)) (aA (aD 1) aF) [.sh (.str t),.sh x]= .ok [.int 60,x]:=rfl;rw[iB,bx,hv,aM,e3];rfl
 have c3:retS (cP (aD 1)) [.sh (.str t),.sh x]= .rt x:=by
  have:cP (aD 1) [.sh (.str t),.sh x]= .ok x:=im
  rw[bj,this];rfl
 simp only[bB,dw,bC,st];rw[aO,bU,a0,bK,if_pos rfl,aO,c1,ak,bU,c2,bK];cases wZ 60 x
 .rw[if_neg zAM,if_neg zAM]
  rfl
 .rw[if_pos rfl,if_pos rfl,c3]
  rfl
def aC0(hl:t.length<=800):∃u,cR [.str t]= .ok u/\bH [.fn "places_read",.str t,u]= .ok (.bl true):=by
 have st:aa 2 [.str t]=[.sh (.str t),.no]:=rfl;by_cases hn:t=("none":Str)
 .subst hn
  refine⟨.tup [],?_,pP (F:=bB) rfl ?_ rfl rfl⟩
  .have tt:tsb (op2 (eqR false) (aD 0) (cD (.str "none"))) [.sh (.str "none"),.no]= .ok true:=by
    rw[du,bR]
    show(okD (eqR false (.str "none") (.str "none"))).bd blD=_
    rw[zN];rfl
   rw[cR,bC,st,cQ,aO,bU,tt,bK,if_pos rfl];rfl
  .exact aAH (ks:=[]) (List.nil_sublist _) (by decide)
 .have pr:=yZ hl hn
  have sl:=zAy t (" ":Str);have e1:=jt (f:=aD 0) (g:=cD (.str " ")) (Y:=[.sh (.str t),.no]) (a:=t) (b:=" ") rfl rfl bu.2.1 (by lia) rfl;have e1':kj (aD 0) (cD (.str " ")) (shE [.sh (.str t),.no])= .ok (.lst ((zAi t (" ":Str)).map .str)):=e1;generalize hws:zAi t (" ":Str)=ws at e1 e1' sl pr;have tt:tsb (op2 (eqR false) (aD 0) (cD (.str "none"))) [.sh (.str t),.no]= .ok false:=by
   rw[du,bR]
   show(okD (eqR false (.str t) (.str "none"))).bd blD=_
   rw[zO hn];rfl
  have l:lcD (fC (kj (aD 0) (cD (.str " ")))) [none] (gnm 0) cj (aK dq (aA (aD 0) (aA (cD (.int 59)) aF))) [.sh (.str t),.no]= .ok (.lst (ws.map (cV 59))):=by
   refine ig (ds:=ws.map .str) ?_ (by rw[zAF];lia) (jT ws λ x _=>⟨[.sh (.str x)],rfl,by
    have:=nq (m:=59) (w:=x) (by decide) (by decide)
    have hv:aA (aD 0) (aA (cD (.int 59)) aF) [.sh (.str x)]= .ok [.str x,.int 59]:=rfl;rw[bx,hv,aM,this]⟩)
   show(kj (aD 0) (cD (.str " ")) (shE [.sh (.str t),.no])).bd itD=_
   rw[e1'];rfl
  have a1:bZ 1 pdL [.sh (.str t),.no]= .nx [.sh (.str t),.sh (.tup (ws.map (cV 59)))]:=by
   rw[dB,pdL,gJ,aU,l];rfl
  have due:cR [.str t]=(pdR [.sh (.str t),.sh (.tup (ws.map (cV 59)))]).bd λ d=>.ok d:=by
   rw[cR,bC,st,cQ,aO,bU,tt,bK,if_neg zAM,ak,aO,a1,ak,bj];cases pdR [.sh (.str t),.sh (.tup (ws.map (cV 59)))]<;>rfl
  have b1:tsb (op2 (inR true) (cD .non) (aD 1)) [.sh (.str t),.sh (.tup (ws.map (cV 59)))]= .ok (!(ws.any λ w=>eqD (cV 59 w) .non)):=by
   rw[du,bR]
   show(okD (inR true .non (.tup (ws.map (cV 59))))).bd blD=_
   rw[aL9];rfl
  cases ha:ws.any λ w=>eqD (cV 59 w) .non with
  |true=>
   have bad:wZ 60 (.tup (ws.map eU))=false:=by
    obtain⟨w,h1,h2⟩:=zH9.mp ha;have hw:cV 59 w= .non:=by
     rcases jw 59 w with z|⟨k,z⟩
     .exact z
     .rw[z]at h2;cases h2
    unfold wZ;dsimp only;rw[Bool.and_eq_false_iff];left;refine zEo.mpr ⟨eU w,zAY.mpr ⟨w,h1,rfl⟩,?_⟩;rw[aL7 hw];decide
   rw[bad,if_neg zAM]at pr;refine⟨.non,?_,iZ (F:=bB) rfl pr⟩;rw[due,pdR,ph,gF,b1,ha];rfl
  |false=>
   obtain⟨ks,hks⟩:∃ks:List Int,ws.map (cV 59)=ks.map .int:=by
    have:∀ws:List Str,(ws.any λ w=>eqD (cV 59 w) .non)=false->∃ks:List Int,ws.map (cV 59)=ks.map .int:=λ ws=>by
     induction ws with
     |nil=>exact λ _=>⟨[],rfl⟩
     |cons w ws ih=>
      intro h;rw[zC5,Bool.or_eq_false_iff]at h;obtain⟨ks,e⟩:=ih h.2;rcases jw 59 w with z|⟨k,z⟩
      .rw[z]at h;cases h.1
      .exact⟨k::ks,by rw[zAE,z,e];rfl⟩
    exact this ws ha
   have hd:ws.map eU=ks.map .int:=by
    rw[<-hks];refine zCL λ w hw=>?_
    rcases jw 59 w with z|⟨k,z⟩
    .have:=zDp.mp ha w hw
     rw[z]at this;exact absurd rfl this
    .rw[z];exact(aDs z).1
   have pV:(ks.map D.int).all (cg 60)=true:=by
    rw[<-hks];refine zA9.mpr λ d hd=>?_
    obtain⟨w,hw,rfl⟩:=zAY.mp hd;rcases jw 59 w with z|⟨k,z⟩
    .have:=zDp.mp ha w hw
     rw[z]at this;exact absurd rfl this
    .rw[z];exact(aDs z).2
   have hp:wZ 60 (.tup (ws.map eU))=mH ltI ks:=by
    rw[hd];unfold wZ;dsimp only;rw[pV,zFw,ints_of]
   have kl:ks.length<=1000:=by
    have:=congrArg zDv hks
    rw[zAF,zAF]at this;lia
   have er:=aCh (ps:=ks) (by lia);have b2:tst (aK cF (aA (aD 1) aF)) [.sh (.str t),.sh (.tup (ws.map (cV 59)))]= .ok (mH ltI ks):=by
    have hv:aA (aD 1) aF [.sh (.str t),.sh (.tup (ws.map (cV 59)))]= .ok [.tup (ks.map .int)]:=by rw[hks];rfl
    rw[iB,bx,hv,aM,er];rfl
   rw[hp,hd]at pr;cases hr:mH ltI ks with
   |true=>
    rw[hr,if_pos rfl]at pr;refine⟨tupI ks,?_,pP (F:=bB) rfl pr rfl ?_⟩
    .have im:cP (aD 1) [.sh (.str t),.sh (.tup (ws.map (cV 59)))]= .ok (tupI ks):=by
      rw[hks];exact v4 (aEN ks)
     rw[due,pdR,ph,gF,b1,ha,aM,if_pos (show(!false)=true from rfl),b2,hr,aM,if_pos rfl,im];rfl
    .have d:=vO 59 ws
     rw[hks]at d;exact aEU false (by simp[tupI,oY,d.1]) (by simp[tupI,bO,d.2])
   |false=>
    rw[hr,if_neg zAM]at pr;refine⟨.non,?_,iZ (F:=bB) rfl pr⟩;rw[due,pdR,ph,gF,b1,ha,aM,if_pos (show(!false)=true from rfl),b2,hr];rfl
end
def tl(ws:List Str):Nat:=(ws.map zBb).sum+ws.length
theorem aCj{c:Nat}:∀{ws:List Str},ws≠[]->(zCz ⟨#[c]⟩ ws).length+1=tl ws
 |[a],_=>by show a.length+1=_;simp[tl]
 |a::b::r,_=>by
  have e:=congrArg zDv (mQ c a b r);rw[zAp,zA0]at e;have l:∀s:Str,s.cps.toList.length=s.length:=λ s=>by simp[zBb]
  rw[l,l,l]at e;have ih:=aCj (c:=c) (ws:=b::r) (zDO _ _);unfold tl at ih ⊢;simp only[zAE,zCv,zA0]at ih ⊢;lia
def aLo{c:Nat}(ws:List Str):(zDZ ⟨#[c]⟩ ws).length<=tl ws:=by
 rw[lY];cases ws with
 |nil=>exact zAk _
 |cons a r=>have:=aCj (c:=c) (zDO a r);lia
theorem zE:∀{l:List Str} {j:Nat} {x:Str} (h:j<l.length),((l.set j x).map zBb).sum+(l[j]).length=(l.map zBb).sum+x.length
 |a::l,0,x,_=>by simp;lia
 |a::l,j+1,x,h=>by
  have ih:=zE (l:=l) (j:=j) (x:=x) (by simpa using h);simp only[List.set_cons_succ,zAE,zCv,List.getElem_cons_succ];lia
theorem aBs:∀(l:List Str) (j:Nat),((l.eraseIdx j).map zBb).sum<=(l.map zBb).sum
 |[],_=>by simp
 |a::l,0=>by simp
 |a::l,j+1=>by
  have:=aBs l j
  simp only[zFz,zAE,zCv];lia
theorem uI:∀{l:List Str} {w:Str},w∈l->w.length<=(l.map zBb).sum
 |a::l,w,h=>by
  rw[zAE,zCv];rcases zAO.mp h with rfl|h
  .lia
  .have:=uI h;lia
def aO8(l:List Str)(i:Int)(w:Str):tl (eH l i w)=tl l+w.length+1:=by
 unfold tl;rw[sU];unfold eH;rw[zBA,zGo,zAE,zCv];generalize (if i<0 then(i+(l.length:Int)).toNat else min i.toNat l.length)=k
 have:(l.map zBb).sum=((l.take k).map zBb).sum+((l.drop k).map zBb).sum:=by
  rw[<-zGo,<-zBA,zBx]
 lia
section
variable{c s:Int}{t:Str}
def aIS:∀k:Nat,k<19->∃x:Str,aEL (.str "0123456789 :->none,") (.int (k:Int))= .ok (.str x)/\x.length=1:=by
 intro k hk;have l:("0123456789 :->none,":Str).length=19:=by decide+kernel
 have l2:("0123456789 :->none,":Str).cps.toList.length=19:=by decide+kernel
 have hx:ixN ("0123456789 :->none,":Str).cps.toList.length (k:Int)=some k:=by
  unfold ixN;rw[l2,if_pos (by lia),if_pos (by lia),zC8]
 have hg:("0123456789 :->none,":Str).cps.toList[k]? =some (("0123456789 :->none,":Str).cps.toList[k]'(by rw[l2];exact hk)):=zAB _;refine⟨⟨#[("0123456789 :->none,":Str).cps.toList[k]'(by rw[l2];exact hk)]⟩,?_,rfl⟩;unfold aEL;dsimp only;rw[if_pos (by rw[l,szl];decide)];unfold atI;rw[hx,zHB,hg]
def aEr{Y:En}{f:En->Rs D}{fl fh:En->Rs (Option Int)}{l h:Option Int}(e:f Y= .ok (.str t))(e1:fl Y= .ok l)(e2:fh Y= .ok h)(hl:t.length<=10000):cG f fl fh Y= .ok (.str (zDA t l h)):=by
 unfold cG;rw[e,aM,e1,aM,e2,aM];unfold zf;dsimp only;rw[if_pos (by rw[szl];lia)];rfl
abbrev chE(c s:Int)(t:Str)(k a:Int)(x:Str)(s6 s7 s8 s9:Slot):En:=[.sh (.int c),.sh (.int s),.sh (.str t),.sh (.int k),.sh (.int a),.sh (.str x),s6,s7,s8,s9]
def aOn{k a:Int}{x:Str}{s6 s7 s8 s9:Slot}(hl:t.length<=800)(hx:x.length=1)(k0:0<=k)(k1:k<4):∃t',chL (chE c s t k a x s6 s7 s8 s9)= .ok (.str t')/\t'.length<=2*t.length+6:=by
 have p1:=aEr (t:=t) (Y:=chE c s t k a x s6 s7 s8 s9) (f:=aD 2) (fl:=cU) (fh:=cT (aD 4)) (l:=none) (h:=some a) rfl rfl rfl (by lia);have p2:=aEr (t:=t) (Y:=chE c s t k a x s6 s7 s8 s9) (f:=aD 2) (fl:=cT (op2 bY (aD 4) (cD (.int 1)))) (fh:=cU) (l:=some (a+1)) (h:=none) rfl rfl rfl (by lia);have p3:=aEr (t:=t) (Y:=chE c s t k a x s6 s7 s8 s9) (f:=aD 2) (fl:=cT (aD 4)) (fh:=cU) (l:=some a) (h:=none) rfl rfl rfl (by lia);have l1:=zET t none (some a);have l2:=zET t (some (a+1)) none;have l3:=zET t (some a) none;generalize zDA t none (some a)=y1 at p1 l1;generalize zDA t (some (a+1)) none=y2 at p2 l2;generalize zDA t (some a) none=y3 at p3 l3;have q1:=qN p1 p2 (by lia);have q0:=qN (g:=aD 5) (b:=x) p1 rfl (by lia);have lx:=len_app y1 x;have q2:=qN q0 p3 (by lia);have q3:=qN q0 p2 (by lia);have hm:cP (aD 2) (chE c s t k a x s6 s7 s8 s9)= .ok (.str t):=rfl;have m1:=len_app y1 y2;have m2:=len_app (y1++x) y3;have m3:=len_app (y1++x) y2;have el:iJ (aA (op2 jE (cG (aD 2) cU (cT (aD 4))) (cG (aD 2) (cT (op2 bY (aD 4) (cD (.int 1)))) cU)) (aA (op2 jE (op2 jE (cG (aD 2) cU (cT (aD 4))) (aD 5)) (cG (aD 2) (cT (aD 4)) cU)) (aA (op2 jE (op2 jE (cG (aD 2) cU (cT (aD 4))) (aD 5)) (cG (aD 2) (cT (op2 bY (aD 4) (cD (.int 1)))) cU)) (aA (cP (aD 2)) aF)))) (chE c s t k a x s6 s7 s8 s9)= .ok (.lst [.str (y1++y2),.str (y1++x++y3),.str (y1++x++y2),.str t]):=by
  rw[zK,aU,q1,aM,aU,q2,aM,aU,q3,aM,aU,hm];rfl
 unfold chL;rw[bR,el,aM]
 rcases(by lia:k=0\/k=1\/k=2\/k=3)with rfl|rfl|rfl|rfl
 .exact⟨_,rfl,by lia⟩
 .exact⟨_,rfl,by lia⟩
 .exact⟨_,rfl,by lia⟩
 .exact⟨_,rfl,by lia⟩
def aFp{ws:List Str}{j:Int}(h0:0<=j)(h1:j<ws.length):atD (ws.map .str) j= .ok (.str (ws[j.toNat]'(by lia))):=by
 have:=gD (l:=ws.map D.str) (k:=j.toNat) (d:=.str (ws[j.toNat]'(by lia))) (by rw[zAR,zAB (by lia)];rfl)
 rwa [zAn h0]at this
def zF{ds:List D}{j:Int}(h0:0<=j)(h1:j<ds.length):putN ds (.int j)=some j.toNat:=by
 show ixN ds.length j=_;unfold ixN;rw[if_pos h0,if_pos h1]
def aOo{k a o p:Int}{x:Str}{ws:List Str}{s9:Slot}(s0:0<=s)(s1:s<=1000)(hw:ws.length<=900)(o0:0<=o)(o1:o<ws.length)(p0:0<=p)(p1:p<ws.length)(k4:4<=k):∃ws' s9',chK (chE c s t k a x (.ow (.lst (ws.map .str))) (.sh (.int o)) (.sh (.int p)) s9)= .nx (chE c s t k a x (.ow (.lst (ws'.map .str))) (.sh (.int o)) (.sh (.int p)) s9')/\tl ws'<=tl ws+(ws.map zBb).sum+5/\ws'.length<=ws.length+1:=by
 have ao:=aFp (ws:=ws) o0 o1;have ap:=aFp (ws:=ws) p0 p1;have mo:(ws[o.toNat]'(by lia)).length<=(ws.map zBb).sum:=uI (zCj _);have ho:op2 ixD (eO 6) (aD 7) (chE c s t k a x (.ow (.lst (ws.map .str))) (.sh (.int o)) (.sh (.int p)) s9)= .ok (.str (ws[o.toNat]'(by lia))):=by
  show okD (atD (ws.map .str) o)=_;rw[ao];rfl
 have hp:op2 ixD (eO 6) (aD 8) (chE c s t k a x (.ow (.lst (ws.map .str))) (.sh (.int o)) (.sh (.int p)) s9)= .ok (.str (ws[p.toNat]'(by lia))):=by
  show okD (atD (ws.map .str) p)=_;rw[ap];rfl
 have tk:∀i:Int,tsb (op2 (eqR false) (aD 3) (cD (.int i))) (chE c s t k a x (.ow (.lst (ws.map .str))) (.sh (.int o)) (.sh (.int p)) s9)= .ok (k==i):=λ i=>rfl
 have lm:(ws.map D.str).length=ws.length:=zAF _;unfold chK;rw[bU,tk,bK];by_cases c4:k=4
 .rw[if_pos (beq_iff_eq.mpr c4)]
  refine⟨ws.eraseIdx o.toNat,s9,?_,?_,?_⟩
  .show(Rs.ok (D.int o)).bo (λ k=>match putN (ws.map D.str) k with
    |some j=>if (ws.map D.str).length<2^62 then .nx ((chE c s t _ a x (.ow (.lst (ws.map .str))) (.sh (.int o)) (.sh (.int p)) s9).set 6 (.ow (.lst ((ws.map D.str).eraseIdx j))))else .st
    |none=>.st)=_
   rw[bK,zF o0 (by rw[lm];exact o1)];dsimp only;rw[if_pos (by rw[lm];lia),VL.aBt];rfl
  .have:=aBs ws o.toNat
   unfold tl;rw[zEW];split<;>lia
  .rw[zEW]
   split<;>lia
 .rw[if_neg (by rw[beq_iff_eq];exact c4),bU,tk,bK]
  by_cases c5:k=5
  .rw[if_pos (beq_iff_eq.mpr c5)]
   refine⟨eH ws p (ws[o.toNat]'(by lia)),s9,?_,?_,?_⟩
   .have hi:cP (op2 ixD (eO 6) (aD 7)) (chE c s t k a x (.ow (.lst (ws.map .str))) (.sh (.int o)) (.sh (.int p)) s9)= .ok (.str (ws[o.toNat]'(by lia))):=by
     rw[aCo,ho];rfl
    show(Rs.ok (D.int p)).bo (λ k'=>match k' with
     | .int n=>(cP (op2 ixD (eO 6) (aD 7)) (chE c s t k a x (.ow (.lst (ws.map .str))) (.sh (.int o)) (.sh (.int p)) s9)).bo λ d=>if -(2^63)<=n/\n<2^63/\(ws.map D.str).length<zAU then .nx ((chE c s t k a x (.ow (.lst (ws.map .str))) (.sh (.int o)) (.sh (.int p)) s9).set 6 (.ow (.lst (eH (ws.map D.str) n d))))else .st
     |_=>.st)=_
    rw[bK];dsimp only;rw[hi,bK,if_pos ⟨by lia,by lia,by rw[lm,szl];lia⟩]
    have:eH (ws.map D.str) p (.str (ws[o.toNat]'(by lia)))=(eH ws p (ws[o.toNat]'(by lia))).map D.str:=by
     unfold eH;rw[lm,zBA,zAE,zGD,zGC]
    rw[this];rfl
   .rw[aO8];lia
   .rw[sU];exact zAQ _
  .rw[if_neg (by rw[beq_iff_eq];exact c5),bU,tk,bK]
   by_cases c6:k=6
   .rw[if_pos (beq_iff_eq.mpr c6)]
    refine⟨(ws.set o.toNat (ws[p.toNat]'(by lia))).set p.toNat (ws[o.toNat]'(by lia)),s9,?_,?_,?_⟩
    .have hi:jD (aA (cP (op2 ixD (eO 6) (aD 8))) (aA (cP (op2 ixD (eO 6) (aD 7))) aF)) (chE c s t k a x (.ow (.lst (ws.map .str))) (.sh (.int o)) (.sh (.int p)) s9)= .ok (.tup [.str (ws[p.toNat]'(by lia)),.str (ws[o.toNat]'(by lia))]):=by
      rw[uv,aU,aCo,hp]
      show((Rs.ok (D.str _)).bd λ a'=>(aA (cP (op2 ixD (eO 6) (aD 7))) aF (chE c s t k a x (.ow (.lst (ws.map .str))) (.sh (.int o)) (.sh (.int p)) s9)).bd _).bd _=_
      rw[aM,aU,aCo,ho];rfl
     unfold aKi
     show((jD (aA (cP (op2 ixD (eO 6) (aD 8))) (aA (cP (op2 ixD (eO 6) (aD 7))) aF)) (chE c s t k a x (.ow (.lst (ws.map .str))) (.sh (.int o)) (.sh (.int p)) s9)).bo _)=_
     rw[hi,bK];dsimp only;rw[show aD 7 (chE c s t k a x (.ow (.lst (ws.map .str))) (.sh (.int o)) (.sh (.int p)) s9)= .ok (.int o)from rfl];dsimp only;rw[zF o0 (by rw[lm];exact o1)];dsimp only;rw[<-zG0];rw[show aD 8 ((chE c s t k a x (.ow (.lst (ws.map .str))) (.sh (.int o)) (.sh (.int p)) s9).set 6 (.ow (.lst ((ws.set o.toNat (ws[p.toNat]'(by lia))).map .str))))= .ok (.int p)from rfl];dsimp only;rw[zF p0 (by rw[zAF,zAz];exact p1)];dsimp only;rw[<-zG0];rfl
    .have e1:=zE (l:=ws) (j:=o.toNat) (x:=ws[p.toNat]'(by lia)) (by lia)
     have e2:=zE (l:=ws.set o.toNat (ws[p.toNat]'(by lia))) (j:=p.toNat) (x:=ws[o.toNat]'(by lia)) (by rw[zAz];lia);have e3:((ws.set o.toNat (ws[p.toNat]'(by lia)))[p.toNat]'(by rw[zAz];lia)).length=(ws[p.toNat]'(by lia)).length:=by
      rw[List.getElem_set];split<;>rfl
     unfold tl;rw[zAz,zAz];lia
    .rw[zAz,zAz];lia
   .rw[if_neg (by rw[beq_iff_eq];exact c6)]
    obtain⟨r,er,r0,r1⟩:=iV (c:=c) (k:=s+5) (b:=15) (by lia) (by lia) (by decide) (by decide);obtain⟨nw,hnw⟩:∃nw:List Str,nw=(["0","00","","none","60:","61:","0-1","0>1","1-0","59","60","0-0","-1","01-2",":"]:List Str):=⟨_,rfl⟩
    have nl:nw.length=15:=by rw[hnw];rfl
    have nall:∀w∈nw,w.length<=4:=by rw[hnw];decide+kernel
    have a1:sr 9 chN (chE c s t k a x (.ow (.lst (ws.map .str))) (.sh (.int o)) (.sh (.int p)) s9)= .nx (chE c s t k a x (.ow (.lst (ws.map .str))) (.sh (.int o)) (.sh (.int p)) (.nw (.lst (nw.map .str)))):=by rw[hnw];rfl
    have hd:op2 ixD (jZ 9) (aK aR (aA (aD 0) (aA (op2 bY (aD 1) (cD (.int 5))) (aA (cD (.int 15)) aF)))) (chE c s t k a x (.ow (.lst (ws.map .str))) (.sh (.int o)) (.sh (.int p)) (.nw (.lst (nw.map .str))))= .ok (.str (nw[r.toNat]'(by lia))):=by
     have hv:aK aR (aA (aD 0) (aA (op2 bY (aD 1) (cD (.int 5))) (aA (cD (.int 15)) aF))) (chE c s t k a x (.ow (.lst (ws.map .str))) (.sh (.int o)) (.sh (.int p)) (.nw (.lst (nw.map .str))))= .ok (.int r):=er;rw[bR,hv];show okD (atD (nw.map .str) r)=_;rw[aFp r0 (by lia)];rfl
    have hln:(nw[r.toNat]'(by lia)).length<=4:=nall _ (zCj _);refine⟨ws.set o.toNat (nw[r.toNat]'(by lia)),.nw (.lst (nw.map .str)),?_,?_,?_⟩
    .rw[aO,a1,ak]
     unfold aLI
     show((op2 ixD (jZ 9) (aK aR (aA (aD 0) (aA (op2 bY (aD 1) (cD (.int 5))) (aA (cD (.int 15)) aF)))) (chE c s t k a x (.ow (.lst (ws.map .str))) (.sh (.int o)) (.sh (.int p)) (.nw (.lst (nw.map .str))))).bo _)=_
     rw[hd,bK,show aD 7 (chE c s t k a x (.ow (.lst (ws.map .str))) (.sh (.int o)) (.sh (.int p)) (.nw (.lst (nw.map .str))))= .ok (.int o)from rfl,bK,zF o0 (by rw[lm];exact o1)];dsimp only;rw[<-zG0];rfl
    .have e1:=zE (l:=ws) (j:=o.toNat) (x:=nw[r.toNat]'(by lia)) (by lia)
     unfold tl;rw[zAz];lia
    .rw[zAz];lia
end
section
variable{c s:Int}{t:Str}
def ul(s0:0<=s)(s1:s<=1000)(hl:t.length<=800):∃t',fu [.int c,.int s,.str t]= .ok (.str t')/\t'.length<=2*t.length+8:=by
 obtain⟨k,ek,k0,k1⟩:=iV (c:=c) (k:=s) (b:=9) (by lia) (by lia) (by decide) (by decide);obtain⟨a,ea,a0,a1⟩:=iV (c:=c) (k:=s+1) (b:=(t.length:Int)+1) (by lia) (by lia) (by lia) (by lia);obtain⟨g,eg,g0,g1⟩:=iV (c:=c) (k:=s+2) (b:=19) (by lia) (by lia) (by decide) (by decide);obtain⟨x,ex,hx⟩:=aIS g.toNat (by lia);rw[zAn g0]at ex;have sl:=zAy t (" ":Str);have st:aa 10 [.int c,.int s,.str t]=[.sh (.int c),.sh (.int s),.sh (.str t),.no,.no,.no,.no,.no,.no,.no]:=rfl;have b1:bZ 3 (aK aR (aA (aD 0) (aA (aD 1) (aA (cD (.int 9)) aF)))) [.sh (.int c),.sh (.int s),.sh (.str t),.no,.no,.no,.no,.no,.no,.no]= .nx [.sh (.int c),.sh (.int s),.sh (.str t),.sh (.int k),.no,.no,.no,.no,.no,.no]:=by
  have:aK aR (aA (aD 0) (aA (aD 1) (aA (cD (.int 9)) aF))) [.sh (.int c),.sh (.int s),.sh (.str t),.no,.no,.no,.no,.no,.no,.no]= .ok (.int k):=ek
  rw[dB,this];rfl
 have ln:yg [.str t]= .ok (.int (t.length:Int)):=by
  unfold yg;dsimp only;rw[if_pos (by rw[szl];lia)]
 have b2:bZ 4 (aK aR (aA (aD 0) (aA (op2 bY (aD 1) (cD (.int 1))) (aA (op2 bY (opA yg (aA (aD 2) aF)) (cD (.int 1))) aF)))) [.sh (.int c),.sh (.int s),.sh (.str t),.sh (.int k),.no,.no,.no,.no,.no,.no]= .nx [.sh (.int c),.sh (.int s),.sh (.str t),.sh (.int k),.sh (.int a),.no,.no,.no,.no,.no]:=by
  have v:op2 bY (opA yg (aA (aD 2) aF)) (cD (.int 1)) [.sh (.int c),.sh (.int s),.sh (.str t),.sh (.int k),.no,.no,.no,.no,.no,.no]= .ok (.int ((t.length:Int)+1)):=by
   rw[bR]
   show((okD (yg [.str t])).bd _)=_
   rw[ln];rfl
  have v2:aA (aD 0) (aA (op2 bY (aD 1) (cD (.int 1))) (aA (op2 bY (opA yg (aA (aD 2) aF)) (cD (.int 1))) aF)) [.sh (.int c),.sh (.int s),.sh (.str t),.sh (.int k),.no,.no,.no,.no,.no,.no]= .ok [.int c,.int (s+1),.int ((t.length:Int)+1)]:=by
   rw[aU,aU,aU,v];rfl
  rw[dB,bx,v2,aM,ea];rfl
 have b3:bZ 5 chG [.sh (.int c),.sh (.int s),.sh (.str t),.sh (.int k),.sh (.int a),.no,.no,.no,.no,.no]= .nx (chE c s t k a x .no .no .no .no):=by
  have v:aK aR (aA (aD 0) (aA (op2 bY (aD 1) (cD (.int 2))) (aA (cD (.int 19)) aF))) [.sh (.int c),.sh (.int s),.sh (.str t),.sh (.int k),.sh (.int a),.no,.no,.no,.no,.no]= .ok (.int g):=eg;have v2:chG [.sh (.int c),.sh (.int s),.sh (.str t),.sh (.int k),.sh (.int a),.no,.no,.no,.no,.no]= .ok (.str x):=by
   unfold chG;rw[bR,v];show okD (aEL (.str "0123456789 :->none,") (.int g))=_;rw[ex];rfl
  rw[dB,v2];rfl
 have t0:tsb (op2 ltD (aD 3) (cD (.int 4))) (chE c s t k a x .no .no .no .no)= .ok (decide (k<4)):=by
  rw[du,bR]
  show(okD (ltD (.int k) (.int 4))).bd blD=_
  rw[aCd];rfl
 by_cases h4:k<4
 .obtain⟨t',e,h⟩:=aOn (c:=c) (s:=s) (t:=t) (a:=a) (x:=x) (s6:=.no) (s7:=.no) (s8:=.no) (s9:=.no) hl hx k0 h4
  refine⟨t',?_,by lia⟩;rw[fu,bC,st,dz,aO,b1,ak,aO,b2,ak,aO,b3,ak,aO,bU,t0,bK,decide_eq_true h4,if_pos rfl,bj,e];rfl
 .have e1:=jt (f:=aD 2) (g:=cD (.str " ")) (Y:=chE c s t k a x .no .no .no .no) (a:=t) (b:=" ") rfl rfl bu.2.1 (by lia) rfl
  have hj:tl (zAi t (" ":Str))=t.length+1:=by
   rw[xg,<-aCj (c:=32) (qi _ _),zCo]
  have hne:=qi t (" ":Str);generalize zAi t (" ":Str)=ws at e1 sl hj hne;have wp:0<ws.length:=List.length_pos_iff.mpr hne;obtain⟨o,eo,o0,o1⟩:=iV (c:=c) (k:=s+3) (b:=(ws.length:Int)) (by lia) (by lia) (by lia) (by lia);obtain⟨p,ep,p0,p1⟩:=iV (c:=c) (k:=s+4) (b:=(ws.length:Int)) (by lia) (by lia) (by lia) (by lia);have b4:yR 6 (kj (aD 2) (cD (.str " "))) (chE c s t k a x .no .no .no .no)= .nx (chE c s t k a x (.ow (.lst (ws.map .str))) .no .no .no):=by
   rw[aKr,e1];rfl
  have ll:∀s7 s8:Slot,opA gM (aA (eO 6) aF) (chE c s t k a x (.ow (.lst (ws.map .str))) s7 s8 .no)= .ok (.int (ws.length:Int)):=λ s7 s8=>by
   have kK:gM [.lst (ws.map D.str)]= .ok (.int (ws.length:Int)):=by simp
   show okD (gM [.lst (ws.map D.str)])=_;rw[kK];rfl
  have b5:bZ 7 (aK aR (aA (aD 0) (aA (op2 bY (aD 1) (cD (.int 3))) (aA (opA gM (aA (eO 6) aF)) aF)))) (chE c s t k a x (.ow (.lst (ws.map .str))) .no .no .no)= .nx (chE c s t k a x (.ow (.lst (ws.map .str))) (.sh (.int o)) .no .no):=by
   have v2:aA (aD 0) (aA (op2 bY (aD 1) (cD (.int 3))) (aA (opA gM (aA (eO 6) aF)) aF)) (chE c s t k a x (.ow (.lst (ws.map .str))) .no .no .no)= .ok [.int c,.int (s+3),.int (ws.length:Int)]:=by
    rw[aU,aU,aU,ll];rfl
   rw[dB,bx,v2,aM,eo];rfl
  have b6:bZ 8 (aK aR (aA (aD 0) (aA (op2 bY (aD 1) (cD (.int 4))) (aA (opA gM (aA (eO 6) aF)) aF)))) (chE c s t k a x (.ow (.lst (ws.map .str))) (.sh (.int o)) .no .no)= .nx (chE c s t k a x (.ow (.lst (ws.map .str))) (.sh (.int o)) (.sh (.int p)) .no):=by
   have v2:aA (aD 0) (aA (op2 bY (aD 1) (cD (.int 4))) (aA (opA gM (aA (eO 6) aF)) aF)) (chE c s t k a x (.ow (.lst (ws.map .str))) (.sh (.int o)) .no .no)= .ok [.int c,.int (s+4),.int (ws.length:Int)]:=by
    rw[aU,aU,aU,ll];rfl
   rw[dB,bx,v2,aM,ep];rfl
  obtain⟨ws',s9,e7,h7,h8⟩:=aOo (c:=c) (t:=t) (a:=a) (x:=x) (s9:=.no) s0 s1 (show ws.length<=900 by lia) o0 o1 p0 p1 (show 4<=k by lia);have hs:(ws.map zBb).sum<=t.length:=by unfold tl at hj;lia
  have e8:vW (cD (.str " ")) (eO 6) (chE c s t k a x (.ow (.lst (ws'.map .str))) (.sh (.int o)) (.sh (.int p)) s9)= .ok (.str (zDZ (" ":Str) ws')):=rF rfl rfl (rE 10000 (by rw[bu.2.1];decide) (λ w hw=>by
   have:=uI hw
   unfold tl at h7 hj;lia) (by lia) (by decide))
  refine⟨zDZ (" ":Str) ws',?_,?_⟩
  .rw[fu,bC,st,dz,aO,b1,ak,aO,b2,ak,aO,b3,ak,aO,bU,t0,bK,decide_eq_false h4,if_neg zAM,ak,aO,b4,ak,aO,b5,ak,aO,b6,ak,aO,e7,ak,bj,e8]
   rfl
  .have:=aLo (c:=32) ws'
   rw[<-xg]at this;lia
end
abbrev lV(ns:List Int)(k c:Int)(w l:D)(t0 t1 t2:Str)(s6 s7:Slot):En:=[.sh (.scr ns),.sh (.int k),.sh (.int c),.sh w,.sh l,.nw (.lst [.str t0,.str t1,.str t2]),s6,s7]
section
variable{ns:List Int}{k c:Int}{w l:D}{t0 t1 t2:Str}{s6 s7:Slot}
def vX{Y:En}{f:En->Rs D}(h:f Y= .ok (.bl true)):ifS (nj (tst f)) (retS (cD (.bl false))) Ou.nx Y= .nx Y:=by
 have:nj (tst f) Y= .ok false:=by
  simp[h]
 rw[bU,this,bK,if_neg zAM]
def aOW{i:Int}(i0:0<=i)(i1:i<4)(h0:t0.length<=800)(h1:t1.length<=800)(h2:t2.length<=800):∃u0 u1 u2,lTT (lV ns k c w l t0 t1 t2 (.sh (.int i)) s7)= .nx (lV ns k c w l u0 u1 u2 (.sh (.int i)) s7)/\u0.length<=2*t0.length+8/\u1.length<=2*t1.length+8/\u2.length<=2*t2.length+8:=by
 obtain⟨d0,e0,r0⟩:=aHD h0;obtain⟨d1,e1,r1⟩:=aHE h1;obtain⟨d2,e2,r2⟩:=aC0 h2;obtain⟨u0,c0,q0⟩:=ul (c:=c) (s:=60+18*i+6*0) (t:=t0) (by lia) (by lia) h0;obtain⟨u1,c1,q1⟩:=ul (c:=c) (s:=60+18*i+6*1) (t:=t1) (by lia) (by lia) h1;obtain⟨u2,c2,q2⟩:=ul (c:=c) (s:=60+18*i+6*2) (t:=t2) (by lia) (by lia) h2;refine⟨u0,u1,u2,?_,q0,q1,q2⟩;have b0:lT0 (lV ns k c w l t0 t1 t2 (.sh (.int i)) s7)= .nx (lV ns k c w l t0 t1 t2 (.sh (.int i)) s7):=by
  unfold lT0;refine vX ?_;have hd:aK bz (aA (op2 ixD (jZ 5) (cD (.int 0))) (aA (cD (.str "-")) aF)) (lV ns k c w l t0 t1 t2 (.sh (.int i)) s7)= .ok d0:=e0;rw[bx,aU,aU,aU,hd];exact r0
 have b1:lT1 (lV ns k c w l t0 t1 t2 (.sh (.int i)) s7)= .nx (lV ns k c w l t0 t1 t2 (.sh (.int i)) s7):=by
  unfold lT1;refine vX ?_;have hd:aK bz (aA (op2 ixD (jZ 5) (cD (.int 1))) (aA (cD (.str ">")) aF)) (lV ns k c w l t0 t1 t2 (.sh (.int i)) s7)= .ok d1:=e1;rw[bx,aU,aU,aU,hd];exact r1
 have b2:lT2 (lV ns k c w l t0 t1 t2 (.sh (.int i)) s7)= .nx (lV ns k c w l t0 t1 t2 (.sh (.int i)) s7):=by
  unfold lT2;refine vX ?_;have hd:aK cR (aA (op2 ixD (jZ 5) (cD (.int 2))) aF) (lV ns k c w l t0 t1 t2 (.sh (.int i)) s7)= .ok d2:=e2;rw[bx,aU,aU,aU,hd];exact r2
 have b3:lT3 (lV ns k c w l t0 t1 t2 (.sh (.int i)) s7)= .nx (lV ns k c w l u0 u1 u2 (.sh (.int i)) s7):=by
  have m1:jb (.int 18) (.int i)= .ok (.int (18*i)):=by
   unfold jb;dsimp only;rw[if_pos (by rfl)]
  have m2:∀j:Int,jb (.int 6) (.int j)= .ok (.int (6*j)):=λ j=>by
   unfold jb;dsimp only;rw[if_pos (by rfl)]
  have ll:lcD (gB aKH (aA (aD 5) aF)) [none,none,some 2,some 6] (xM 2 (gw (gnm 0) (gw (gnm 1) yo))) cj (aK fu (aA (aD 2) (aA (op2 bY (op2 bY (cD (.int 60)) (op2 jb (cD (.int 18)) (aD 3))) (op2 jb (cD (.int 6)) (aD 0))) (aA (aD 1) aF)))) (lV ns k c w l t0 t1 t2 (.sh (.int i)) s7)= .ok (.lst ([((0:Int),t0,u0),(1,t1,u1),(2,t2,u2)].map λ z=>.str z.2.2)):=by
   refine ig (ds:=[((0:Int),t0,u0),(1,t1,u1),(2,t2,u2)].map λ z=>.tup [.int z.1,.str z.2.1]) rfl (by show 3<_;decide) (jT _ λ z hz=>⟨[.sh (.int z.1),.sh (.str z.2.1),.sh (.int c),.sh (.int i)],rfl,?_⟩);have hv:aA (aD 2) (aA (op2 bY (op2 bY (cD (.int 60)) (op2 jb (cD (.int 18)) (aD 3))) (op2 jb (cD (.int 6)) (aD 0))) (aA (aD 1) aF)) [.sh (.int z.1),.sh (.str z.2.1),.sh (.int c),.sh (.int i)]= .ok [.int c,.int (60+18*i+6*z.1),.str z.2.1]:=by
    simp[m1,m2]
   rw[bx,hv,aM];simp only[zAO,zCk,or_false]at hz;rcases hz with rfl|rfl|rfl
   .exact c0
   .exact c1
   .exact c2
  unfold lT3;rw[vB,ll];rfl
 rw[lTT,aO,b0,ak,aO,b1,ak,aO,b2,ak,b3]
def aNg{p:Int×Int}{sg:Str}(h:0<=p.1/\p.1<=9/\0<=p.2/\p.2<=9)(hs:sg.length=1):(prS sg p).length<=3:=by
 have d:∀k:Nat,k<10->(dg (k:Int)).length=1:=by decide+kernel
 have a:=d p.1.toNat (by lia);have b:=d p.2.toNat (by lia);rw[zAn h.1]at a;rw[zAn h.2.2.1]at b;unfold prS;rw[len_app,len_app];lia
def aBT{n:Int}{ps:gX}{sg:Str}(O:Ow n ps)(hn:n<=6)(hs:sg.length=1)(hl:ps.length<=20):(gA sg n ps).length<=84:=by
 have:=rD (s:=(" ":Str)) (ws:=(dg n++(":":Str))::ps.map (prS sg)) 3 (by rw[bu.2.1];decide) (λ w hw=>by
  rcases zAO.mp hw with rfl|hw
  .exact xF O.n0 O.n1
  .obtain⟨p,h,rfl⟩:=zAY.mp hw
   have:=O.pr p h
   exact aNg (by lia) hs)
 rw[zA0,zAF]at this;unfold gA;lia
def aOv(m:Int):gX:=(upI m).flatMap λ a=>(upI m).map λ b=>(a,b)
def aJj{m a b:Int}(h:0<=a/\a<m/\0<=b/\b<m):(a,b)∈aOv m:=zEB.mpr ⟨a,pX.mpr ⟨h.1,h.2.1⟩,zAY.mpr ⟨b,pX.mpr h.2.2,rfl⟩⟩
def aKE{n:Int}{ps:gX}(O:Ow n ps)(low:∀p∈ps,p.1<p.2)(hn:n<=6):ps.length<=20:=by
 have h:ps.length<=((aOv 6).filter λ p=>decide (p.1<p.2)).length:=sub_len (aB4 O.ris) λ p hp=>zBY.mpr ⟨aJj (by have:=O.pr p hp;lia),decide_eq_true (low p hp)⟩
 exact zAg h (by decide+kernel)
def aFj{n:Int}{ps:gX}(O:Ow n ps)(hn:n<=5):ps.length<=20:=by
 have h:ps.length<=((aOv 5).filter λ p=>!decide (p.1=p.2)).length:=sub_len (aB4 O.ris) λ p hp=>zBY.mpr ⟨aJj (by have:=O.pr p hp;lia),by have:=O.pr p hp;simp[this.2.2.2.2]⟩
 exact zAg h (by decide+kernel)
def aOU{ns:List Int}{k:Int}{s2 s3 s4 s5 s6 s7:Slot}(hk:0<=k):∃u2 u3 u4 u5 u6 u7,lwK [.sh (.scr ns),.sh (.int k),s2,s3,s4,s5,s6,s7]= .nx [.sh (.scr ns),.sh (.int k),u2,u3,u4,u5,u6,u7]:=by
 obtain⟨c,ec⟩:=aM0 (ns:=ns) hk;obtain⟨n,ps,ew,O,low,_,hn⟩:=aF4 (c:=c) (most:=6) (by decide);obtain⟨m,qs,el,O2,hm⟩:=aA0 (c:=c) (most:=5) (by decide);have l1:=aKE O low (by lia);have l2:=aFj O2 (by lia);obtain⟨xs,ex,hx⟩:=aBM (c:=c) (s:=30) (n:=n) (by decide) (by decide) O.n0 O.n1;have x9:∀x∈xs,0<=x/\x<6:=λ x h=>by have:=pX.mp (hx.subset h);lia
 have xl:xs.length<=6:=by
  have:=hx.length_le
  rw[aEg]at this;lia
 have w1:=oO (sg:="-") O.n0 O.n1 O.s (by lia) (by rw[bu.2.2.1];decide);have w2:=oO (sg:=">") O2.n0 O2.n1 O2.s (by lia) (by rw[bu.2.2.2.1];decide);have w3:=uc (ks:=xs) (λ x h=>by have:=x9 x h;lia) (by lia);have z1:(gA "-" n ps).length<=84:=aBT O (by lia) bu.2.2.1 l1;have z2:(gA ">" m qs).length<=84:=aBT O2 (by lia) bu.2.2.2.1 l2;have z3:(plS xs).length<=84:=by
  unfold plS;split
  .rw[bu.2.2.2.2.2];decide
  .have:=rD (s:=(" ":Str)) (ws:=xs.map dg) 2 (by rw[bu.2.1];decide) (zP λ x h=>by have:=x9 x h;lia)
   rw[zAF]at this;unfold rwS;lia
 generalize gA "-" n ps=t0 at w1 z1;generalize gA ">" m qs=t1 at w2 z2;generalize plS xs=t2 at w3 z3;have b0:lB0 [.sh (.scr ns),.sh (.int k),s2,s3,s4,s5,s6,s7]= .nx [.sh (.scr ns),.sh (.int k),.sh (.int c),s3,s4,s5,s6,s7]:=by simp[lB0,ec]
 have b1:lB1 [.sh (.scr ns),.sh (.int k),.sh (.int c),s3,s4,s5,s6,s7]= .nx [.sh (.scr ns),.sh (.int k),.sh (.int c),.sh (owD n ps),s4,s5,s6,s7]:=by
  have:o8 [.int c,.int 6]= .ok (owD n ps):=ew
  simp[lB1,this]
 have b2:lB2 [.sh (.scr ns),.sh (.int k),.sh (.int c),.sh (owD n ps),s4,s5,s6,s7]= .nx [.sh (.scr ns),.sh (.int k),.sh (.int c),.sh (owD n ps),.sh (owD m qs),s5,s6,s7]:=by
  have:iK [.int c,.int 5]= .ok (owD m qs):=el
  simp[lB2,this]
 have hx0:ixD (owD n ps) (.int 0)= .ok (.int n):=by simp[owD]
 have ex':jY [.int c,.int 30,.int n]= .ok (tupI xs):=ex;have b3:lB3 [.sh (.scr ns),.sh (.int k),.sh (.int c),.sh (owD n ps),.sh (owD m qs),s5,s6,s7]= .nx (lV ns k c (owD n ps) (owD m qs) t0 t1 t2 s6 s7):=by
  simp[lB3,w1,w2,w3,ex',hx0]
 obtain⟨Y',e4,u0,u1,u2,s6',rfl,_⟩:=kW (a:=gnm 6) (u:=lTT) (dO 0 4) (λ i Y=>∃(u0 u1 u2:Str) (s6:Slot),Y=lV ns k c (owD n ps) (owD m qs) u0 u1 u2 s6 s7/\(i<=4->u0.length+8<=92*2^i/\u1.length+8<=92*2^i/\u2.length+8<=92*2^i)) (lV ns k c (owD n ps) (owD m qs) t0 t1 t2 s6 s7) ⟨t0,t1,t2,s6,rfl,λ _=>by lia⟩ (by
  rintro i d Y hd ⟨u0,u1,u2,s6,rfl,h⟩;obtain⟨rfl,hlt⟩:=kJ hd;have hi:i<4:=by lia
  obtain⟨h0,h1,h2⟩:=h (by lia);have p8:92*2^i<=736:=by
   rcases(by lia:i=0\/i=1\/i=2\/i=3)with rfl|rfl|rfl|rfl<;>decide
  obtain⟨v0,v1,v2,e,q0,q1,q2⟩:=aOW (ns:=ns) (k:=k) (c:=c) (w:=owD n ps) (l:=owD m qs) (s7:=s7) (i:=0+(i:Int)) (t0:=u0) (t1:=u1) (t2:=u2) (by lia) (by lia) (by lia) (by lia) (by lia);rw[aA9,wy];refine⟨_,e,v0,v1,v2,.sh (.int (0+(i:Int))),rfl,λ _=>?_⟩;rw[Nat.pow_succ];lia)
 have b4:lB4 (lV ns k c (owD n ps) (owD m qs) t0 t1 t2 s6 s7)= .nx (lV ns k c (owD n ps) (owD m qs) u0 u1 u2 s6' s7):=by
  have hi:lTR (lV ns k c (owD n ps) (owD m qs) t0 t1 t2 s6 s7)= .ok (dO 0 4):=rfl;rw[lB4,qC,hi,bK,e4]
 obtain⟨j,ej,j0,j1⟩:=iV (c:=c) (k:=99) (b:=7) (by decide) (by decide) (by decide) (by decide);obtain⟨d,ed,r1,r2,r3⟩:∃d:D,ixD (.lst [.non,.int 7,.tup [.int 0,.int 1],.lst [.str "0:"],.bl true,.dct [] [],.tup []]) (.int j)= .ok d/\bH [.fn "web_read",d,.non]= .ok (.bl true)/\bH [.fn "one_way_read",d,.non]= .ok (.bl true)/\bH [.fn "places_read",d,.non]= .ok (.bl true):=by
  rcases(by lia:j=0\/j=1\/j=2\/j=3\/j=4\/j=5\/j=6)with rfl|rfl|rfl|rfl|rfl|rfl|rfl<;>exact⟨_,rfl,iZ rfl rfl,iZ rfl rfl,iZ rfl rfl⟩
 have b5:lB5 (lV ns k c (owD n ps) (owD m qs) u0 u1 u2 s6' s7)= .nx (lV ns k c (owD n ps) (owD m qs) u0 u1 u2 s6' (.nw d)):=by
  have hv:aK aR (aA (aD 2) (aA (cD (.int 99)) (aA (cD (.int 7)) aF))) (lV ns k c (owD n ps) (owD m qs) u0 u1 u2 s6' s7)= .ok (.int j):=ej;unfold lB5;rw[vB,bR,hv]
  show(okD (ixD (.lst [.non,.int 7,.tup [.int 0,.int 1],.lst [.str "0:"],.bl true,.dct [] [],.tup []]) (.int j))).bo _=_
  rw[ed];rfl
 have b6:lB6 (lV ns k c (owD n ps) (owD m qs) u0 u1 u2 s6' (.nw d))= .nx (lV ns k c (owD n ps) (owD m qs) u0 u1 u2 s6' (.nw d)):=by
  unfold lB6;refine vX ?_;have ll:lcD (fC (iJ (aA (cD (.fn "web_read")) (aA (cD (.fn "one_way_read")) (aA (cD (.fn "places_read")) aF))))) [none,some 7] (gnm 0) cj (aK bH (aA (aD 0) (aA (aD 1) (aA (cD .non) aF)))) (lV ns k c (owD n ps) (owD m qs) u0 u1 u2 s6' (.nw d))= .ok (.lst ((["web_read","one_way_read","places_read"]:List Str).map λ _=>.bl ((λ _=>true) ()))):=by
   refine ig (ds:=(["web_read","one_way_read","places_read"]:List Str).map .fn) rfl (by show 3<_;decide) (jT _ λ z hz=>⟨[.sh (.fn z),.sh d],rfl,?_⟩);have hv:aA (aD 0) (aA (aD 1) (aA (cD .non) aF)) [.sh (.fn z),.sh d]= .ok [.fn z,d,.non]:=rfl;rw[bx,hv,aM];simp only[zAO,zCk,or_false]at hz;rcases hz with rfl|rfl|rfl
   .exact r1
   .exact r2
   .exact r3
  rw[aKV ll];rfl
 refine⟨.sh (.int c),.sh (owD n ps),.sh (owD m qs),.nw (.lst [.str u0,.str u1,.str u2]),s6',.nw d,?_⟩;rw[lwK,aO,b0,ak,aO,b1,ak,aO,b2,ak,aO,b3,ak,aO,b4,ak,aO,b5,ak,b6]
end
def aJ1(ns:List Int)(hl:ns.length<=63):aK5 [.scr ns]= .ok (.bl true):=by
 have st:aa 8 [.scr ns]=[.sh (.scr ns),.no,.no,.no,.no,.no,.no,.no]:=rfl;let m:Int:=if (if (10:Int)<ns.length then(10:Int)else ns.length)>1 then(if (10:Int)<ns.length then(10:Int)else ns.length)else 1
 have hm:1<=m/\m<=10:=by
  show 1<=(if (if (10:Int)<ns.length then(10:Int)else ns.length)>1 then(if (10:Int)<ns.length then(10:Int)else ns.length)else 1)/\(if (if (10:Int)<ns.length then(10:Int)else ns.length)>1 then(if (10:Int)<ns.length then(10:Int)else ns.length)else 1)<=10;split<;>split<;>lia
 have hr:=ju (j:=m) (by lia) (by lia);have hR:lwR [.sh (.scr ns),.no,.no,.no,.no,.no,.no,.no]= .ok (dO 0 m):=by
  rw[<-hr];unfold lwR;simp[m]
 obtain⟨Y',el,t1,t2,t3,t4,t5,t6,t7,rfl⟩:=kW (a:=gnm 1) (u:=lwK) (dO 0 m) (λ _ Y=>∃t1 t2 t3 t4 t5 t6 t7,Y=[.sh (.scr ns),t1,t2,t3,t4,t5,t6,t7]) [.sh (.scr ns),.no,.no,.no,.no,.no,.no,.no] ⟨.no,.no,.no,.no,.no,.no,.no,rfl⟩ (by
  rintro i d Y hd ⟨t1,t2,t3,t4,t5,t6,t7,rfl⟩;obtain⟨rfl,hlt⟩:=kJ hd;obtain⟨u2,u3,u4,u5,u6,u7,e⟩:=aOU (ns:=ns) (k:=0+(i:Int)) (s2:=t2) (s3:=t3) (s4:=t4) (s5:=t5) (s6:=t6) (s7:=t7) (by lia);exact⟨_,e,_,_,_,_,_,_,_,rfl⟩)
 have z1:bH [.fn "web_read",.str "4: 0-1  2-3",.non]= .ok (.bl true):=by kernel_rfl
 have z2:bH [.fn "places_read",.str "1 0",.non]= .ok (.bl true):=by kernel_rfl
 simp only[aK5,aAq,bC,st];rw[aO,qC,hR,bK,el,ak];unfold lwZ;simp[z1,z2,aOt]
local macro_rules|`(tactic|walk_at "sc")=>`(tactic|exact⟨rfl,rfl,rfl,by decide+kernel,rfl,by decide+kernel,by decide+kernel⟩)
def top(i:Nat):Stmt:=PySem.Challenge.pw_fewways_k82_texts_that_write_none.main.body.getD i (.Pass ⟨0,0,0,0⟩)
abbrev uT:Stmt:=top 16
abbrev wW:Stmt:=top 17
abbrev uU:Stmt:=top 18
abbrev wV:Stmt:=top 19
abbrev qu:Stmt:=top 20
abbrev iY:Stmt:=top 21
abbrev uV:Stmt:=top 22
abbrev pO:Stmt:=top 23
abbrev aAB:Stmt:=top 24
abbrev qw:Stmt:=top 25
abbrev pN:Stmt:=top 27
abbrev lA:Stmt:=top 28
abbrev uP:Stmt:=top 31
abbrev pI:Stmt:=top 32
abbrev uN:Stmt:=top 33
abbrev mC:Stmt:=top 34
abbrev mF:Stmt:=top 35
abbrev pJ:Stmt:=top 36
abbrev uO:Stmt:=top 37
abbrev mD:Stmt:=top 38
abbrev nU:Stmt:=top 39
abbrev n6:Stmt:=top 41
abbrev uR:Stmt:=top 42
abbrev qt:Stmt:=top 43
abbrev nW:Stmt:=top 44
abbrev uQ:Stmt:=top 45
abbrev wU:Stmt:=top 46
abbrev nY:Stmt:=top 47
abbrev pK:Stmt:=top 48
abbrev pL:Stmt:=top 49
abbrev km:Stmt:=top 50
abbrev jN:Stmt:=top 51
abbrev pM:Stmt:=top 52
abbrev mG:Stmt:=top 53
abbrev j6:Stmt:=top 54
abbrev nZ:Stmt:=top 55
abbrev nC:Stmt:=top 56
abbrev aIX:Stmt:=top 57
def aD9:aY ["thing"] ["thing"] (aJ uT):=by walk_at "sc"
def aEz:aY ["thing"] ["thing"] (aJ wW):=by walk_at "sc"
def aDa:aY ["many","thing"] ["many","thing"] (aJ uU):=by walk_at "sc"
def aEy:aY ["many","thing"] ["many","thing"] (aJ wV):=by walk_at "sc"
def aCU:aY ["things","at"] ["things"] (aJ qu):=by walk_at "sc"
def su:aY ["many","thing","pair"] ["many","thing"] (aJ iY):=by walk_at "sc"
def aDb:aY ["many","thing"] ["many","thing"] (aJ uV):=by walk_at "sc"
def aBH:aY ["many","thing","place"] ["many","thing"] (aJ pO):=by walk_at "sc"
def aHB:aY ["thing"] ["thing"] (aJ aAB):=by walk_at "sc"
def aCV:aY ["thing"] ["thing"] (aJ qw):=by walk_at "sc"
def aBG:aY ["thing"] ["thing"] (aJ pN):=by walk_at "sc"
def wR:aY ["thing"] ["thing"] (aJ lA):=by walk_at "sc"
def aD6:aY ["places","sign"] ["places","sign"] (aJ uP):=by walk_at "sc"
def aBB:aY ["many","pairs","sign"] ["many","pairs","sign"] (aJ pI):=by walk_at "sc"
def aD4:aY ["web"] ["web"] (aJ uN):=by walk_at "sc"
def yS:aY ["web"] ["web"] (aJ mC):=by walk_at "sc"
def yV:aY ["words","known"] ["words"] (aJ mF):=by walk_at "sc"
def aBC:aY ["text","sign","words","pairs"] ["text","sign"] (aJ pJ):=by walk_at "sc"
def aD5:aY ["text","web"] ["text"] (aJ uO):=by walk_at "sc"
def yU:aY ["text","web"] ["text"] (aJ mD):=by walk_at "sc"
def zq:aY ["text","places"] ["text"] (aJ nU):=by walk_at "sc"
def aAA:aY ["_law_script","_law_k"] ["_law_script","_law_k"] (aJ n6):=by walk_at "sc"
def aD8:aY ["_law_cell","_law_k","_law_bound","_law_left","_law_j","_law_stir"] ["_law_cell","_law_k","_law_bound"] (aJ uR):=by walk_at "sc"
def aCT:aY ["_law_error","_law_kinds","_law_words"] ["_law_error"] (aJ qt):=by walk_at "sc"
def zr:aY ["_law_call","_law_told","_law_error"] ["_law_call"] (aJ nW):=by walk_at "sc"
def aD7:aY ["_law_cell","_law_many","_law_found","_law_place"] ["_law_cell","_law_many"] (aJ uQ):=by walk_at "sc"
def aEx:aY ["_law_cell","_law_most","_law_many","_law_kind","_law_thick","_law_order","_law_ties","_law_spot","_law_j","_law_i","_law_here"] ["_law_cell","_law_most"] (aJ wU):=by walk_at "sc"
def zu:aY ["_law_cell","_law_most","_law_many","_law_kind","_law_thick","_law_order","_law_arrows","_law_spot","_law_j","_law_i","_law_here"] ["_law_cell","_law_most"] (aJ nY):=by walk_at "sc"
def aBD:aY ["_law_row"] ["_law_row"] (aJ pK):=by walk_at "sc"
def aBE:aY ["_law_cell","_law_spot","_law_many","_law_thick"] ["_law_cell","_law_spot","_law_many"] (aJ pL):=by walk_at "sc"
def wQ:aY ["_law_web_here","_law_sign"] ["_law_web_here","_law_sign"] (aJ km):=by walk_at "sc"
def uM:aY ["_law_places_here"] ["_law_places_here"] (aJ jN):=by walk_at "sc"
def aBF:aY ["_law_word","_law_most","_law_good"] ["_law_word","_law_most"] (aJ pM):=by walk_at "sc"
def yW:aY ["_law_text","_law_sign","_law_words","_law_many","_law_found","_law_word","_law_two"] ["_law_text","_law_sign"] (aJ mG):=by walk_at "sc"
def vG:aY ["_law_text","_law_found"] ["_law_text"] (aJ j6):=by walk_at "sc"
def zz:aY ["_law_cell","_law_spot","_law_text","_law_kind","_law_at","_law_sign","_law_words","_law_one","_law_other","_law_some"] ["_law_cell","_law_spot","_law_text"] (aJ nZ):=by walk_at "sc"
def aCS:aY ["_law_read","_law_text","_law_due"] ["_law_read","_law_text","_law_due"] (aJ nC):=by walk_at "sc"
def aN4:aY ["_law_script","_law_k","_law_cell","_law_web_here","_law_led","_law_texts","_law_turn_here","_law_odd"] ["_law_script"] (aJ aIX):=by walk_at "sc"
set_option genInjectivity false in
set_option genSizeOf false in
structure Adr where
 aAg:Addr
 jg:zA5
 aBr:Addr
 lR:zA5
 aAh:Addr
 jh:zA5
 aBq:Addr
 lQ:zA5
 yK:Addr
 gU:zA5
 mU:Addr
 bw:zA5
 aAi:Addr
 iw:zA5
 vg:Addr
 dm:zA5
 aET:Addr
 jW:zA5
 yL:Addr
 jB:zA5
 vf:Addr
 dF:zA5
 qW:Addr
 dY:zA5
 aAd:Addr
 je:zA5
 v5:Addr
 gn:zA5
 aAc:Addr
 jd:zA5
 rO:Addr
 eY:zA5
 rP:Addr
 dN:zA5
 v6:Addr
 fM:zA5
 jc:Addr
 il:zA5
 gO:Addr
 dM:zA5
 fZ:Addr
 dw:zA5
 t8:Addr
 eF:zA5
 aAf:Addr
 iu:zA5
 yJ:Addr
 yN:zA5
 tX:Addr
 uD:zA5
 aAe:Addr
 jf:zA5
 aBp:Addr
 lO:zA5
 tY:Addr
 fj:zA5
 v7:Addr
 fO:zA5
 v8:Addr
 gq:zA5
 qU:Addr
 dX:zA5
 nF:Addr
 cY:zA5
 v9:Addr
 gr:zA5
 rQ:Addr
 eZ:zA5
 oW:Addr
 cQ:zA5
 tZ:Addr
 dz:zA5
 yI:Addr
 dj:zA5
 aNB:Addr
 aAq:zA5
 tG:Value
 aIB:Value
 jo:Addr
 qK:Addr
 jk:Addr
 qL:Addr
 gW:Addr
 ji:Addr
 iz:Addr
 mZ:Addr
 iy:Addr
 jm:Addr
 mY:Addr
 m6:Addr
 qM:Addr
def wdA(t:Adr):Addr->Option Str:=λ C=>(([t.qK,t.jk,t.qL,t.gW,t.ji,t.iz,t.mZ,t.iy,t.jm,t.mY,t.m6,t.qM]:List Addr).zip (["web","place","way","parting","many","forest","plan","one way","order","text","deed","row"]:List Str)).lookup C
structure Txt(K:zAA)(mg:Str->Option Value)(t:Adr):Prop where
 uh:Dnr K mg "is_whole" uT ["thing"] t.aAg t.jg
 xP:Dnr K mg "is_many" wW ["thing"] t.aBr t.lR
 qH:Dnr K mg "is_place" uU ["many","thing"] t.aAh t.jh
 aBw:Dnr K mg "is_pair" wV ["many","thing"] t.aBq t.lQ
 rT:Dnr K mg "is_rising" qu ["things"] t.yK t.gU
 ik:Dnr K mg "are_rising_pairs" iY ["many","thing"] t.mU t.bw
 aAo:Dnr K mg "are_ties" uV ["many","thing"] t.aAi t.iw
 vo:Dnr K mg "are_places" pO ["many","thing"] t.vg t.dm
 aAn:Dnr K mg "is_web" aAB ["thing"] t.aET t.jW
 yM:Dnr K mg "check_web" qw ["thing"] t.yL t.jB
 qI:Dnr K mg "is_one_way" pN ["thing"] t.vf t.dF
 qX:Dnr K mg "check_one_way" lA ["thing"] t.qW t.dY
 aAm:Dnr K mg "row_text" uP ["places","sign"] t.aAd t.je
 qD:Dnr K mg "pairs_text" pI ["many","pairs","sign"] t.v5 t.gn
 aAl:Dnr K mg "web_text" uN ["web"] t.aAc t.jd
 rR:Dnr K mg "one_way_text" mC ["web"] t.rO t.eY
 jV:Dnr K mg "numbers_read" mF ["words"] t.rP t.dN
 qF:Dnr K mg "pairs_read" pJ ["text","sign"] t.v6 t.fM
 gQ:Dnr K mg "web_read" uO ["text"] t.jc t.il
 kO:zA4 K zAT "web_read"=some (some (.ref t.jc))
 dJ:Dnr K mg "one_way_read" mD ["text"] t.gO t.dM
 iU:zA4 K zAT "one_way_read"=some (some (.ref t.gO))
 dH:Dnr K mg "places_read" nU ["text"] t.fZ t.dw
 gK:zA4 K zAT "places_read"=some (some (.ref t.fZ))
 uC:Dnr K mg "_law_cell_at" n6 ["_law_script","_law_k"] t.t8 t.eF
 bh:Dnr K mg "_law_draw" uR ["_law_cell","_law_k","_law_bound"] t.aAf t.iu
 nH:Dnr K mg "_law_class" qt ["_law_error"] t.yJ t.yN
 jy:Dnr K mg "_law_refused" nW ["_law_call"] t.tX t.uD
 ug:Dnr K mg "_law_turn" uQ ["_law_cell","_law_many"] t.aAe t.jf
 aBv:Dnr K mg "_law_web" wU ["_law_cell","_law_most"] t.aBp t.lO
 uA:Dnr K mg "_law_one_way" nY ["_law_cell","_law_most"] t.tY t.fj
 qG:Dnr K mg "_law_rising" pK ["_law_row"] t.v7 t.fO
 vm:Dnr K mg "_law_places" pL ["_law_cell","_law_spot","_law_many"] t.v8 t.gq
 lE:Dnr K mg "_law_rows_text" km ["_law_web_here","_law_sign"] t.qU t.dX
 nG:Dnr K mg "_law_places_text" jN ["_law_places_here"] t.nF t.cY
 lK:Dnr K mg "_law_number" pM ["_law_word","_law_most"] t.v9 t.gr
 mX:Dnr K mg "_law_rows_due" mG ["_law_text","_law_sign"] t.rQ t.eZ
 oX:Dnr K mg "_law_places_due" j6 ["_law_text"] t.oW t.cQ
 uB:Dnr K mg "_law_changed" nZ ["_law_cell","_law_spot","_law_text"] t.tZ t.dz
 dh:Dnr K mg "_law_right" nC ["_law_read","_law_text","_law_due"] t.yI t.dj
 aKI:Dnr K mg "law" aIX ["_law_script"] t.aNB t.aAq
 fY:mg "MOST_PLACES"=some t.tG
 n8:RelV (.int 60) t.tG
 aCq:mg "NONE"=some t.aIB
 aN9:RelV (.str "none") t.aIB
 aAT:mg "FewError"=some (.ref t.jo)
 l_FewError:au mg "FewError"=t.jo
 lX:cW K t.jo
 aG4:mg "NoWeb"=some (.ref t.qK)
 aG7:au mg "NoWeb"=t.qK
 uq:cW K t.qK
 aHX:mg "NoPlace"=some (.ref t.jk)
 aH4:au mg "NoPlace"=t.jk
 rm:cW K t.jk
 aLf:mg "NoWay"=some (.ref t.qL)
 aLl:au mg "NoWay"=t.qL
 yw:cW K t.qL
 aDx:mg "NoParting"=some (.ref t.gW)
 aEH:au mg "NoParting"=t.gW
 m9:cW K t.gW
 aHW:mg "TooMany"=some (.ref t.ji)
 aH3:au mg "TooMany"=t.ji
 rZ:cW K t.ji
 aFV:mg "NoForest"=some (.ref t.iz)
 aF6:au mg "NoForest"=t.iz
 pA:cW K t.iz
 aJT:mg "NoPlan"=some (.ref t.mZ)
 aJ4:au mg "NoPlan"=t.mZ
 ur:cW K t.mZ
 aAS:mg "NoOneWay"=some (.ref t.iy)
 aA1:au mg "NoOneWay"=t.iy
 lW:cW K t.iy
 aHY:mg "NoOrder"=some (.ref t.jm)
 aH5:au mg "NoOrder"=t.jm
 rn:cW K t.jm
 vQ:mg "NoText"=some (.ref t.mY)
 vV:au mg "NoText"=t.mY
 lU:cW K t.mY
 aJU:mg "NoDeed"=some (.ref t.m6)
 aJ5:au mg "NoDeed"=t.m6
 ut:cW K t.m6
 aLg:mg "NoRow"=some (.ref t.qM)
 aLm:au mg "NoRow"=t.qM
 yx:cW K t.qM
 aCb:mg "ValueError"=none
 aJP:mg "all"=none
 aOS:mg "bool"=none
 aDu:mg "enumerate"=none
 aPt:mg "int"=none
 aZ:mg "isinstance"=none
 rC:mg "len"=none
 aMz:mg "max"=none
 aMy:mg "min"=none
 gm:mg "range"=none
 aMx:mg "set"=none
 aDt:mg "sorted"=none
 tR:mg "str"=none
 gk:mg "tuple"=none
 cb:aFk K t.jo [t.qK,t.jk,t.qL,t.gW,t.ji,t.iz,t.mZ,t.iy,t.jm,t.mY,t.m6,t.qM]=true
open PySem.Spec PyProof.Rows
section
variable{P:zAS}{w:World}{K:zAA}{mg:Str->Option Value}{base:Heap}{t:Adr}{Pt:Addr}
def xx(T:Txt K mg t):cB P w K mg base (CX1 P w) 1 t.aAg t.jg ["thing"] (spF K (au mg) 1 m8):=
 bM (k:=0) (f:=jg) T.uh aD9 λ n _ _ _ _ _ _ _=>
  (aN (aq (lz (nR (aB 0) T.aZ T.aPt) (lw (aNZ (nR (aB 0) T.aZ T.aOS))))))
def vM(T:Txt K mg t):cB P w K mg base (CX1 P w) 1 t.yK t.gU ["things"] (spF K (au mg) 1 fD):=
 bM (k:=0) (f:=gU) T.rT aCU λ n _ _ _ _ _ _ _=>
  (aL (kh (aGC (aC aG (aC (nQ T.rC (aC (aB 0) aH)) aH)) T.gm) (gY (ks:=[1]))
   (aN (cO (jF (z7 (aQ (aB 0) (wO (aB 1) aG)) (aQ (aB 0) (aB 1))))
    (aN (aq nA))
    bJ)))
  (aN (aq nA)))
def aDq(T:Txt K mg t):cB P w K mg base (CX1 P w) 1 t.aAd t.je ["places","sign"] (spF K (au mg) 2 jq):=
 bM (k:=0) (f:=je) T.aAm aD6 λ n _ _ _ _ _ _ _=>
  (aN (aq (vD (aB 1) (qP (N:=["place"]) (js:=[none]) (ks:=[0]) (jJ (aB 0)) cL iW (pH T.tR (aC (aB 0) aH))))))
def lB(T:Txt K mg t):cB P w K mg base (CX1 P w) 1 t.rP t.dN ["words"] (spF K (au mg) 1 bF):=
 bM (k:=0) (f:=dN) T.jV yV λ n _ _ _ _ _ _ _=>
  (aL (bG (i:=1) (eQ (aP6 (N:=["number"]) (js:=[none]) (ks:=[0]) (jK (aC (cJ (iT T.fY T.n8 (λ _ _=>.int _)) aG) aH) T.gm) cL iW (pH T.tR (aC (aB 0) aH)) (dU (aB 0)))))
  (aN (aq (kI T.gk (aC (qP (N:=["word","known"]) (js:=[none,some 1]) (ks:=[0]) (jJ (aB 0)) cL iW (dU (aN3 (aB 1) (aB 0)))) aH)))))
def aAN(T:Txt K mg t):cB P w K mg base (CX1 P w) 1 t.t8 t.eF ["_law_script","_law_k"] (spF K (au mg) 2 iM):=
 bM (k:=0) (f:=eF) T.uC aAA λ n _ _ _ _ _ _ _=>
  (aL (cO (z7 (aB 1) (nQ T.rC (aC (aB 0) aH)))
   (aN (aq (dU (aQ (aB 0) (aB 1)))))
   bJ)
  (aN (aq aG)))
def bT(T:Txt K mg t):cB P w K mg base (CX1 P w) 1 t.aAf t.iu ["_law_cell","_law_k","_law_bound"] (spF K (au mg) 3 aR):=
 bM (k:=0) (f:=iu) T.bh aD8 λ n _ _ _ _ _ _ _=>
  (aL (cO (aP0 (aB 0) (aNY aG aG))
   (aL (bG (i:=3) (eQ (aB 0)))
   (aL (kh (jK (aC (aB 1) aH) T.gm) (gY (ks:=[4]))
    (aN (bG (i:=3) (eQ (aGG (aB 3) (aB 2))))))
   (aN (aq (uL (aB 3) (aB 2))))))
   bJ)
  (aL (bG (i:=5) (eQ (uL (uK (cJ (cJ (uL (aB 0) aG) (uK aG (aB 1))) aG) aG) aG)))
  (aL (bG (i:=5) (eQ (uL (cJ (cJ (uK (aB 5) (aB 5)) (uK aG (aB 1))) aG) aG)))
  (aN (aq (uL (aGG (uL (uK (aB 5) aG) aG) aG) (aB 2)))))))
def aC8(T:Txt K mg t):FnH P w K mg base 1 t.yJ t.yN ["_law_error"] (spW (wdA t)):=
 aHj (c1:=.ref t.jo) (c2:=.ty "ValueError") (k1:=[.ref t.qK,.ref t.jk,.ref t.qL]) (k2:=[.ref t.gW,.ref t.ji,.ref t.iz]) (k3:=[.ref t.mZ,.ref t.iy,.ref t.jm]) (k4:=[.ref t.mY,.ref t.m6,.ref t.qM]) (l1:=["web","place","way","parting","many","forest","plan","one way","order","text","deed","row"]) T.nH.F aCT rfl rfl rfl rfl (λ cdv A outer s H=>⟨(jQ rfl rfl rfl T.aZ (gC (v:=.ref t.jo) rfl T.aAT rfl)),(jQ rfl rfl rfl T.aZ (aGT (v:=.ty "ValueError") (u:=.type "ValueError") rfl T.aCb rfl rfl)),(az (jQ rfl rfl rfl T.aZ (gC (v:=.ref t.qK) rfl T.aG4 rfl)) (az (jQ rfl rfl rfl T.aZ (gC (v:=.ref t.jk) rfl T.aHX rfl)) (az (jQ rfl rfl rfl T.aZ (gC (v:=.ref t.qL) rfl T.aLf rfl)) fH))),(az (jQ rfl rfl rfl T.aZ (gC (v:=.ref t.gW) rfl T.aDx rfl)) (az (jQ rfl rfl rfl T.aZ (gC (v:=.ref t.ji) rfl T.aHW rfl)) (az (jQ rfl rfl rfl T.aZ (gC (v:=.ref t.iz) rfl T.aFV rfl)) fH))),(az (jQ rfl rfl rfl T.aZ (gC (v:=.ref t.mZ) rfl T.aJT rfl)) (az (jQ rfl rfl rfl T.aZ (gC (v:=.ref t.iy) rfl T.aAS rfl)) (az (jQ rfl rfl rfl T.aZ (gC (v:=.ref t.jm) rfl T.aHY rfl)) fH))),(az (jQ rfl rfl rfl T.aZ (gC (v:=.ref t.mY) rfl T.vQ rfl)) (az (jQ rfl rfl rfl T.aZ (gC (v:=.ref t.m6) rfl T.aJU rfl)) (az (jQ rfl rfl rfl T.aZ (gC (v:=.ref t.qM) rfl T.aLg rfl)) fH))),(az iD (az iD (az iD (az iD (az iD (az iD (az iD (az iD (az iD (az iD (az iD (az iD fH))))))))))))⟩) rfl rfl (by decide) λ C w h=>(aMe T.cb h).1
def tO(T:Txt K mg t):cB P w K mg base (CX1 P w) 1 t.v7 t.fO ["_law_row"] (spF K (au mg) 1 cF):=
 bM (k:=0) (f:=fO) T.qG aBD λ n _ _ _ _ _ _ _=>
  (aN (aq (aEw T.aJP (aC (qP (N:=["_law_k","_law_row"]) (js:=[none,some 0]) (ks:=[0]) (aGC (aC aG (aC (nQ T.rC (aC (aB 0) aH)) aH)) T.gm) cL iW (aIW (aQ (aB 1) (wO (aB 0) aG)) (aQ (aB 1) (aB 0)))) aH))))
def oK(T:Txt K mg t):cB P w K mg base (CX1 P w) 1 t.qU t.dX ["_law_web_here","_law_sign"] (spF K (au mg) 2 fV):=
 bM (k:=0) (f:=dX) T.lE wQ λ n _ _ _ _ _ _ _=>
  (aN (aq (vD bD (cJ (nO (aC (nT (pH T.tR (aC (aQ (aB 0) aG) aH)) bD) aH)) (qP (N:=["_law_one","_law_other","_law_sign"]) (js:=[none,none,some 1]) (ks:=[0,1]) (jJ (aQ (aB 0) aG)) (aEs (n:=2) (oH cL (oH cL aCQ))) iW (nT (nT (pH T.tR (aC (aB 0) aH)) (aB 2)) (pH T.tR (aC (aB 1) aH))))))))
def uW(T:Txt K mg t):cB P w K mg base (CX1 P w) 1 t.nF t.cY ["_law_places_here"] (spF K (au mg) 1 gG):=
 bM (k:=0) (f:=cY) T.nG uM λ n _ _ _ _ _ _ _=>
  (aN (aq (aD0 (lF (aB 0) (gH aH)) bD (vD bD (qP (N:=["_law_place"]) (js:=[none]) (ks:=[0]) (jJ (aB 0)) cL iW (pH T.tR (aC (aB 0) aH)))))))
def ni(T:Txt K mg t):cB P w K mg base (CX1 P w) 1 t.v9 t.gr ["_law_word","_law_most"] (spF K (au mg) 2 dq):=
 bM (k:=0) (f:=gr) T.lK aBF λ n _ _ _ _ _ _ _=>
  (aL (my (i:=2) (aIH (N:=["_law_number_here"]) (js:=[none]) (ks:=[0]) (jK (aC (cJ (aB 1) aG) aH) T.gm) cL iW (pH T.tR (aC (aB 0) aH))))
  (aN (aq (aD0 (aIJ (aB 0) (iR 2)) (aKw (iR 2) (aB 0)) jM))))
def aAO(T:Txt K mg t):cB P w K mg base (CX1 P w) 2 t.aBr t.lR ["thing"] (spF K (au mg) 1 ou):=
 bM (k:=1) (f:=lR) T.xP aEz λ n _ _ _ _ _ _ _=>
  (aN (aq (lz (aV (xx T) T.uh (aC (aB 0) aH)) (lw (aKv aG (aB 0) (iT T.fY T.n8 (λ _ _=>.int _)))))))
def rA(T:Txt K mg t):cB P w K mg base (CX1 P w) 2 t.aAh t.jh ["many","thing"] (spF K (au mg) 2 fQ):=
 bM (k:=1) (f:=jh) T.qH aDa λ n _ _ _ _ _ _ _=>
  (aN (aq (lz (aV (xx T) T.uh (aC (aB 1) aH)) (lw (aKu aG (aB 1) (aB 0))))))
def tL(T:Txt K mg t):cB P w K mg base (CX1 P w) 2 t.v5 t.gn ["many","pairs","sign"] (spF K (au mg) 3 fP):=
 bM (k:=1) (f:=gn) T.qD aBB λ n _ _ _ _ _ _ _=>
  (aN (aq (nT (aN2 (aB 0)) (vD bD (qP (N:=["pair","sign"]) (js:=[none,some 2]) (ks:=[0]) (jJ (aB 1)) cL iW (nT bD (aV (aDq T) T.aAm (aC (aB 0) (aC (aB 1) aH)))))))))
def tM(T:Txt K mg t):cB P w K mg base (CX1 P w) 2 t.v6 t.fM ["text","sign"] (spF K (au mg) 2 bV):=
 bM (k:=1) (f:=fM) T.qF aBC λ n _ _ _ _ _ _ _=>
  (aL (bG (i:=2) (eQ (lu (aB 0) bD)))
  (aL (my (i:=3) (aIH (N:=["word","sign"]) (js:=[none,some 1]) (ks:=[0]) (jJ (aDZ (aB 2) (jG aG) jH)) cL iW (lu (aB 0) (aB 1))))
  (aN (aq (gH (aC (aQ (aV (lB T) T.jV (aC (nO (aC (gZ (aQ (aB 2) aG) jH (jG (ql aG))) aH)) aH)) aG) (aC (kI T.gk (aC (qP (N:=["pair"]) (js:=[none]) (ks:=[0]) (jJ (aB 3)) cL iW (aV (lB T) T.jV (aC (aB 0) aH))) aH)) aH)))))))
def xu(T:Txt K mg t):cB P w K mg base (CX1 P w) 2 t.aAe t.jf ["_law_cell","_law_many"] (spF K (au mg) 2 jA):=
 bM (k:=1) (f:=jf) T.ug aD7 λ n _ _ _ _ _ _ _=>
  (aL (uy (i:=2) (aDS (aCR aH)))
  (aL (kh (jK (aC (aB 1) aH) T.gm) (gY (ks:=[3]))
   (aN (aB1 2 (aV (bT T) T.bh (aC (aB 0) (aC (cJ aG (aB 3)) (aC (cJ (aB 3) aG) aH)))) (dU (aB 3)))))
  (aN (aq (aGD 2)))))
def aBJ(T:Txt K mg t):cB P w K mg base (CX1 P w) 2 t.v8 t.gq ["_law_cell","_law_spot","_law_many"] (spF K (au mg) 3 jY):=
 bM (k:=1) (f:=gq) T.vm aBE λ n _ _ _ _ _ _ _=>
  (aL (bG (i:=3) (eQ (cJ aG (aV (bT T) T.bh (aC (aB 0) (aC (aB 1) (aC aG aH)))))))
  (aN (aq (kI T.gk (aC (qP (N:=["_law_place","_law_cell","_law_spot","_law_thick"]) (js:=[none,some 0,some 1,some 3]) (ks:=[0]) (jK (aC (aB 2) aH) T.gm) cL (aNX (z7 (aV (bT T) T.bh (aC (aB 1) (aC (cJ (cJ (aB 2) aG) (aB 0)) (aC aG aH)))) (aB 3))) (dU (aB 0))) aH)))))
def qT(T:Txt K mg t):cB P w K mg base (CX1 P w) 2 t.rQ t.eZ ["_law_text","_law_sign"] (spF K (au mg) 2 bz):=
 bM (k:=1) (f:=eZ) T.mX yW λ n _ _ _ _ _ _ _=>
  (aL (bG (i:=2) (eQ (lu (aB 0) bD)))
  (aL (bG (i:=3) (eQ (aV (ni T) T.lK (aC (gZ (aQ (aB 2) aG) jH (jG (ql aG))) (aC aG aH)))))
  (aL (cO (SW.st (xf (aB0 (gZ (aQ (aB 2) aG) (jG (ql aG)) jH) bD) (uH (aMj (aB 3) jM))))
   (aN (aq jM))
   bJ)
  (aL (uy (i:=4) (aDS (aCR aH)))
  (aL (kh (jJ (aDZ (aB 2) (jG aG) jH)) (gY (ks:=[5]))
   (aL (bG (i:=6) (eQ (lu (aB 5) (aB 1))))
   (aL (oF 4 (kI T.gk (aC (qP (N:=["_law_part","_law_many"]) (js:=[none,some 3]) (ks:=[0]) (jJ (aB 6)) cL iW (aV (ni T) T.lK (aC (aB 0) (aC (wO (aB 1) aG) aH)))) aH)))
   (aL (cO (SW.st (xf (aB0 (nQ T.rC (aC (aB 6) aH)) aG) (xf (aIJ jM (aQ (jL 4) (ql aG))) (uH (lF (aQ (aQ (jL 4) (ql aG)) aG) (aQ (aQ (jL 4) (ql aG)) aG))))))
    (aN (aq jM))
    bJ)
   (aN (cO (SW.st (pC (lF (aB 1) bD) (mj (aIK (aQ (aQ (jL 4) (ql aG)) aG) (aQ (aQ (jL 4) (ql aG)) aG)))))
    (aN (aq jM))
    bJ))))))
  (aN (aq (aD0 (dR (aV (tO T) T.qG (aC (jL 4) aH))) (gH (aC (dU (aB 3)) (aC (kI T.gk (aC (aGD 4) aH)) aH))) jM))))))))
def vL(T:Txt K mg t):cB P w K mg base (CX1 P w) 2 t.oW t.cQ ["_law_text"] (spF K (au mg) 1 cR):=
 bM (k:=1) (f:=cQ) T.oX vG λ n _ _ _ _ _ _ _=>
  (aL (cO (lF (aB 0) bD)
   (aN (aq (gH aH)))
   bJ)
  (aL (bG (i:=1) (eQ (kI T.gk (aC (qP (N:=["_law_word"]) (js:=[none]) (ks:=[0]) (jJ (lu (aB 0) bD)) cL iW (aV (ni T) T.lK (aC (aB 0) (aC aG aH)))) aH))))
  (aN (aq (aD0 (SW.st (pC (aNT jM (aB 1)) (mj (dR (aV (tO T) T.qG (aC (aB 1) aH)))))) (dU (aB 1)) jM)))))
def aAM(T:Txt K mg t):cB P w K mg base (CX1 P w) 2 t.tZ t.dz ["_law_cell","_law_spot","_law_text"] (spF K (au mg) 3 fu):=
 bM (k:=1) (f:=dz) T.uB zz λ n _ _ _ _ _ _ _=>
  (aL (bG (i:=3) (eQ (aV (bT T) T.bh (aC (aB 0) (aC (aB 1) (aC aG aH))))))
  (aL (bG (i:=4) (eQ (aV (bT T) T.bh (aC (aB 0) (aC (cJ (aB 1) aG) (aC (cJ (aN0 T.rC (aC (aB 2) aH)) aG) aH))))))
  (aL (bG (i:=5) (eQ (aN1 bD (aV (bT T) T.bh (aC (aB 0) (aC (cJ (aB 1) aG) (aC aG aH)))))))
  (aL (cO (z7 (aB 3) aG)
   (aN (aq (aQ (nO (aC (nT (gZ (aB 2) jH (jG (aB 4))) (gZ (aB 2) (jG (cJ (aB 4) aG)) jH)) (aC (nT (nT (gZ (aB 2) jH (jG (aB 4))) (aB 5)) (gZ (aB 2) (jG (aB 4)) jH)) (aC (nT (nT (gZ (aB 2) jH (jG (aB 4))) (aB 5)) (gZ (aB 2) (jG (cJ (aB 4) aG)) jH)) (aC (dU (aB 2)) aH))))) (aB 3))))
   bJ)
  (aL (uy (i:=6) (aDS (aQ0 (lu (aB 2) bD))))
  (aL (bG (i:=7) (eQ (aV (bT T) T.bh (aC (aB 0) (aC (cJ (aB 1) aG) (aC (nQ T.rC (aC (jL 6) aH)) aH))))))
  (aL (bG (i:=8) (eQ (aV (bT T) T.bh (aC (aB 0) (aC (cJ (aB 1) aG) (aC (nQ T.rC (aC (jL 6) aH)) aH))))))
  (aL (cO (lF (aB 3) aG)
   (aN (aIM 6 (aB 7)))
   (aN (cO (lF (aB 3) aG)
    (aN (aB1 6 (aB 8) (dU (aQ (jL 6) (aB 7)))))
    (aN (cO (lF (aB 3) aG)
     (aN (aNU 6 (gH (aC (dU (aQ (jL 6) (aB 8))) (aC (dU (aQ (jL 6) (aB 7))) aH))) (aB 7) (aB 8)))
     (aL (my (i:=9) (eQ (nO (aC bD (aC bD (aC bD (aC bD (aC bD (aC bD (aC bD (aC bD (aC bD (aC bD (aC bD (aC bD (aC bD (aC bD (aC bD aH))))))))))))))))))
     (aN (aKj 6 (aB 7) (aQ (iR 9) (aV (bT T) T.bh (aC (aB 0) (aC (cJ (aB 1) aG) (aC aG aH)))))))))))))
  (aN (aq (vD bD (jL 6))))))))))))
def aFQ(T:Txt K mg t):cB P w K mg base (CX1 P w) 3 t.aBq t.lQ ["many","thing"] (spF K (au mg) 2 o9):=
 bM (k:=2) (f:=lQ) T.aBw aEy λ n _ _ _ _ _ _ _=>
  (aL (cO (SW.st (xf (jF (dR (nR (aB 1) T.aZ T.gk))) (uH (aB0 (nQ T.rC (aC (aB 1) aH)) aG))))
   (aN (aq nA))
   bJ)
  (aN (aq (lz (aV (rA T) T.qH (aC (aB 0) (aC (aQ (aB 1) aG) aH))) (lz (aV (rA T) T.qH (aC (aB 0) (aC (aQ (aB 1) aG) aH))) (lw (aP4 (aQ (aB 1) aG) (aQ (aB 1) aG))))))))
def aBK(T:Txt K mg t):cB P w K mg base (CX1 P w) 3 t.vg t.dm ["many","thing"] (spF K (au mg) 2 dG):=
 bM (k:=2) (f:=dm) T.vo aBH λ n _ _ _ _ _ _ _=>
  (aL (cO (jF (dR (nR (aB 1) T.aZ T.gk)))
   (aN (aq nA))
   bJ)
  (aL (kh (jJ (aB 1)) (gY (ks:=[2]))
   (aN (cO (jF (dR (aV (rA T) T.qH (aC (aB 0) (aC (aB 2) aH)))))
    (aN (aq nA))
    bJ)))
  (aN (aq (aV (vM T) T.rT (aC (aB 1) aH))))))
def aFP(T:Txt K mg t):cB P w K mg base (CX1 P w) 3 t.aBp t.lO ["_law_cell","_law_most"] (spF K (au mg) 2 o8):=
 bM (k:=2) (f:=lO) T.aBv aEx λ n _ _ _ _ _ _ _=>
  (aL (bG (i:=2) (eQ (aV (bT T) T.bh (aC (aB 0) (aC aG (aC (cJ (aB 1) aG) aH))))))
  (aL (bG (i:=3) (eQ (aV (bT T) T.bh (aC (aB 0) (aC aG (aC aG aH))))))
  (aL (my (i:=4) (eQ (aQ (nO (aC aG (aC aG (aC aG (aC aG (aC aG (aC aG (aC aG (aC aG (aC aG aH)))))))))) (aB 3))))
  (aL (bG (i:=5) (eQ (aV (xu T) T.ug (aC (aB 0) (aC (aB 2) aH)))))
  (aL (uy (i:=6) (aDS (aCR aH)))
  (aL (bG (i:=7) (eQ aG))
  (aL (kh (jK (aC (aB 2) aH) T.gm) (gY (ks:=[8]))
   (aN (kh (jK (aC (aB 8) aH) T.gm) (gY (ks:=[9]))
    (aL (bG (i:=7) (eQ (cJ (aB 7) aG)))
    (aL (bG (i:=10) (eQ (aIW (aV (bT T) T.bh (aC (aB 0) (aC (aB 7) (aC aG aH)))) (iR 4))))
    (aL (cO (aIJ (aB 3) (gH (aC aG (aC aG aH))))
     (aN (bG (i:=10) (eQ (aP3 (zp (aB 8) (cJ (aB 9) aG)) (lw (lz (zp (aB 3) aG) (lw (zp (gH (aC (aB 9) (aC (aB 8) aH))) (gH (aC aG (aC (wO (aB 2) aG) aH)))))))))))
     bJ)
    (aL (cO (lF (aB 3) aG)
     (aN (bG (i:=10) (eQ (zp (aB 9) aG))))
     bJ)
    (aL (cO (lF (aB 3) aG)
     (aN (bG (i:=10) (eQ (lz (aB 10) (lw (zp (uL (cJ (aB 9) (aB 8)) aG) aG))))))
     bJ)
    (aN (cO (dR (aB 10))
     (aN (oF 6 (gH (aC (aGE T.aMy (aC (aQ (aB 5) (aB 9)) (aC (aQ (aB 5) (aB 8)) aH))) (aC (aGF T.aMz (aC (aQ (aB 5) (aB 9)) (aC (aQ (aB 5) (aB 8)) aH))) aH)))))
     bJ))))))))))
  (aN (aq (gH (aC (dU (aB 2)) (aC (kI T.gk (aC (vC T.aDt T.aMx (aC (jL 6) aH)) aH)) aH))))))))))))
def aAL(T:Txt K mg t):cB P w K mg base (CX1 P w) 3 t.tY t.fj ["_law_cell","_law_most"] (spF K (au mg) 2 iK):=
 bM (k:=2) (f:=fj) T.uA zu λ n _ _ _ _ _ _ _=>
  (aL (bG (i:=2) (eQ (aV (bT T) T.bh (aC (aB 0) (aC aG (aC (cJ (aB 1) aG) aH))))))
  (aL (bG (i:=3) (eQ (aV (bT T) T.bh (aC (aB 0) (aC aG (aC aG aH))))))
  (aL (my (i:=4) (eQ (aQ (nO (aC aG (aC aG (aC aG (aC aG (aC aG (aC aG (aC aG (aC aG aH))))))))) (aB 3))))
  (aL (bG (i:=5) (eQ (aV (xu T) T.ug (aC (aB 0) (aC (aB 2) aH)))))
  (aL (uy (i:=6) (aDS (aCR aH)))
  (aL (bG (i:=7) (eQ aG))
  (aL (kh (jK (aC (aB 2) aH) T.gm) (gY (ks:=[8]))
   (aN (kh (jK (aC (aB 8) aH) T.gm) (gY (ks:=[9]))
    (aL (bG (i:=7) (eQ (cJ (aB 7) aG)))
    (aL (bG (i:=10) (eQ (aV (bT T) T.bh (aC (aB 0) (aC (aB 7) (aC aG aH))))))
    (aL (cO (SW.st (xf (z7 (aB 10) (iR 4)) (uH (SW.st (pC (lF (aB 3) aG) (mj (lF (aB 8) (cJ (aB 9) aG))))))))
     (aN (oF 6 (gH (aC (dU (aQ (aB 5) (aB 9))) (aC (dU (aQ (aB 5) (aB 8))) aH)))))
     bJ)
    (aN (cO (SW.st (xf (SW.st (pC (aIK (aB 3) aG) (pC (aB0 (aB 3) aG) (mj (z7 (aV (bT T) T.bh (aC (aB 0) (aC (cJ (aB 7) aG) (aC aG aH)))) (wO (iR 4) aG)))))) (uH (SW.st (pC (lF (aB 3) aG) (mj (z7 (aB 10) aG)))))))
     (aN (oF 6 (gH (aC (dU (aQ (aB 5) (aB 8))) (aC (dU (aQ (aB 5) (aB 9))) aH)))))
     bJ))))))))
  (aL (cO (SW.st (pC (lF (aB 3) aG) (mj (aIK (aB 2) aG))))
   (aN (oF 6 (gH (aC (dU (aQ (aB 5) (wO (aB 2) aG))) (aC (dU (aQ (aB 5) aG)) aH)))))
   bJ)
  (aN (aq (gH (aC (dU (aB 2)) (aC (kI T.gk (aC (vC T.aDt T.aMx (aC (jL 6) aH)) aH)) aH)))))))))))))
def lG(T:Txt K mg t):cB P w K mg base (CX1 P w) 4 t.mU t.bw ["many","thing"] (spF K (au mg) 2 bW):=
 bM (k:=3) (f:=bw) T.ik su λ n _ _ _ _ _ _ _=>
  (aL (cO (jF (dR (nR (aB 1) T.aZ T.gk)))
   (aN (aq nA))
   bJ)
  (aL (kh (jJ (aB 1)) (gY (ks:=[2]))
   (aN (cO (jF (dR (aV (aFQ T) T.aBw (aC (aB 0) (aC (aB 2) aH)))))
    (aN (aq nA))
    bJ)))
  (aN (aq (aV (vM T) T.rT (aC (aB 1) aH))))))
def qz(T:Txt K mg t):cB P w K mg base (CX1 P w) 4 t.fZ t.dw ["text"] (spF K (au mg) 1 bB):=
 bM (k:=3) (f:=dw) T.dH zq λ n _ _ _ _ _ _ _=>
  (aL (cO (dR (nR (aB 0) T.aZ T.tR))
   (aL (bG (i:=1) (eQ (aD0 (lF (aB 0) (iT T.aCq T.aN9 (λ _ _=>.str _))) (gH aH) (aV (lB T) T.jV (aC (lu (aB 0) bD) aH)))))
   (aN (cO (dR (aV (aBK T) T.vo (aC (iT T.fY T.n8 (λ _ _=>.int _)) (aC (aB 1) aH))))
    (aN (aq (dU (aB 1))))
    bJ)))
   bJ)
  (aN (qg rfl T.vQ T.vV T.lU (aC bD aH))))
def aDr(T:Txt K mg t):cB P w K mg base (CX1 P w) 5 t.aAi t.iw ["many","thing"] (spF K (au mg) 2 jr):=
 bM (k:=4) (f:=iw) T.aAo aDb λ n _ _ _ _ _ _ _=>
  (aN (aq (lz (aV (lG T) T.ik (aC (aB 0) (aC (aB 1) aH))) (lw (aEw T.aJP (aC (qP (N:=["low","high"]) (js:=[none,none]) (ks:=[0,1]) (jJ (aB 1)) (aEs (n:=2) (oH cL (oH cL aCQ))) iW (aIW (aB 0) (aB 1))) aH))))))
def tQ(T:Txt K mg t):cB P w K mg base (CX1 P w) 5 t.vf t.dF ["thing"] (spF K (au mg) 1 bA):=
 bM (k:=4) (f:=dF) T.qI aBG λ n _ _ _ _ _ _ _=>
  (aL (cO (SW.st (xf (jF (dR (nR (aB 0) T.aZ T.gk))) (uH (aB0 (nQ T.rC (aC (aB 0) aH)) aG))))
   (aN (aq nA))
   bJ)
  (aN (aq (lz (aV (aAO T) T.xP (aC (aQ (aB 0) aG) aH)) (lw (aV (lG T) T.ik (aC (aQ (aB 0) aG) (aC (aQ (aB 0) aG) aH))))))))
def aB8(T:Txt K mg t):cB P w K mg base (CX1 P w) 6 t.aET t.jW ["thing"] (spF K (au mg) 1 cI):=
 bM (k:=5) (f:=jW) T.aAn aHB λ n _ _ _ _ _ _ _=>
  (aL (cO (SW.st (xf (jF (dR (nR (aB 0) T.aZ T.gk))) (uH (aB0 (nQ T.rC (aC (aB 0) aH)) aG))))
   (aN (aq nA))
   bJ)
  (aN (aq (lz (aV (aAO T) T.xP (aC (aQ (aB 0) aG) aH)) (lw (aV (aDr T) T.aAo (aC (aQ (aB 0) aG) (aC (aQ (aB 0) aG) aH))))))))
def wu(T:Txt K mg t):cB P w K mg base (CX1 P w) 6 t.qW t.dY ["thing"] (spF K (au mg) 1 fW):=
 bM (k:=5) (f:=dY) T.qX wR λ n _ _ _ _ _ _ _=>
  (aN (cO (jF (dR (aV (tQ T) T.qI (aC (aB 0) aH))))
   (aN (qg rfl T.aAS T.aA1 T.lW (aC bD aH)))
   bJ))
def aC9(T:Txt K mg t):cB P w K mg base (CX1 P w) 7 t.yL t.jB ["thing"] (spF K (au mg) 1 kZ):=
 bM (k:=6) (f:=jB) T.yM aCV λ n _ _ _ _ _ _ _=>
  (aN (cO (jF (dR (aV (aB8 T) T.aAn (aC (aB 0) aH))))
   (aN (qg rfl T.aG4 T.aG7 T.uq (aC bD aH)))
   bJ))
def yf(T:Txt K mg t):cB P w K mg base (CX1 P w) 7 t.rO t.eY ["web"] (spF K (au mg) 1 cC):=
 bM (k:=6) (f:=eY) T.rR yS λ n _ _ _ _ _ _ _=>
  (aL (aGA (aV (wu T) T.qX (aC (aB 0) aH)))
  (aN (aq (aV (tL T) T.qD (aC (aQ (aB 0) aG) (aC (aQ (aB 0) aG) (aC bD aH)))))))
def aDp(T:Txt K mg t):cB P w K mg base (CX1 P w) 8 t.aAc t.jd ["web"] (spF K (au mg) 1 eG):=
 bM (k:=7) (f:=jd) T.aAl aD4 λ n _ _ _ _ _ _ _=>
  (aL (aGA (aV (aC9 T) T.yM (aC (aB 0) aH)))
  (aN (aq (aV (tL T) T.qD (aC (aQ (aB 0) aG) (aC (aQ (aB 0) aG) (aC bD aH)))))))
def qR(T:Txt K mg t):cB P w K mg base (CX1 P w) 8 t.gO t.dM ["text"] (spF K (au mg) 1 bL):=
 bM (k:=7) (f:=dM) T.dJ yU λ n _ _ _ _ _ _ _=>
  (aL (cO (dR (nR (aB 0) T.aZ T.tR))
   (aL (bG (i:=1) (eQ (aV (tM T) T.qF (aC (aB 0) (aC bD aH)))))
   (aN (cO (SW.st (pC (dR (aV (tQ T) T.qI (aC (aB 1) aH))) (mj (lF (aV (yf T) T.rR (aC (aB 1) aH)) (aB 0)))))
    (aN (aq (dU (aB 1))))
    bJ)))
   bJ)
  (aN (qg rfl T.vQ T.vV T.lU (aC bD aH))))
def xr(T:Txt K mg t):cB P w K mg base (CX1 P w) 9 t.jc t.il ["text"] (spF K (au mg) 1 cN):=
 bM (k:=8) (f:=il) T.gQ aD5 λ n _ _ _ _ _ _ _=>
  (aL (cO (dR (nR (aB 0) T.aZ T.tR))
   (aL (bG (i:=1) (eQ (aV (tM T) T.qF (aC (aB 0) (aC bD aH)))))
   (aN (cO (SW.st (pC (dR (aV (aB8 T) T.aAn (aC (aB 1) aH))) (mj (lF (aV (aDp T) T.aAl (aC (aB 1) aH)) (aB 0)))))
    (aN (aq (dU (aB 1))))
    bJ)))
   bJ)
  (aN (qg rfl T.vQ T.vV T.lU (aC bD aH))))
def aAK(T:Txt K mg t):cB P w K mg base (CX1 P w) 11 t.tX t.uD ["_law_call"] (spR P w K mg base 10 "told" (wdA t)):=
 aFD T.jy.F zr rfl rfl rfl rfl rfl rfl T.aAT T.lX (aC8 T) T.nH.m T.nH.F.kp T.nH.b (by decide) λ C w h=>(aMe T.cb h).2
def aPG(T:Txt K mg t):∀c w,wdN c=some w->wdA t (au mg c)=some w:=aPH (ns:=["NoWeb","NoPlace","NoWay","NoParting","TooMany","NoForest","NoPlan","NoOneWay","NoOrder","NoText","NoDeed","NoRow"]) T.cb (by simp only[List.map,T.aG7,T.aH4,T.aLl,T.aEH,T.aH3,T.aF6,T.aJ4,T.aA1,T.aH5,T.vV,T.aJ5,T.aLm])
def g8(T:Txt K mg t)(B:aQI K base mg t.dj Pt):cB P w K mg base (CX1 P w) 12 t.yI t.dj ["_law_read","_law_text","_law_due"] (spT K (au mg) 3 bH Pt "_law_right.<locals>.<lambda>"):=
 aMN (k:=11) (f:=dj) T.dh B.d B.k B.b B.g aCS λ n _ _ _ _ _ _ _ hT hL=>
  (aL (cO (aMj (aB 2) jM)
   (aN (aq (zp (aKt hT hL (N:=["_law_read","_law_text","_law_due"]) (k:=11) (k0:=10) (kb:=9) (wn:=wdN) (wd:=wdA t) (λ _=>aAK T) (zBO rfl) T.jy.m T.jy.F.kp T.jy.b ⟨rfl,rfl,rfl,by decide+kernel,by decide+kernel⟩ rfl (aPG T) (by decide) (λ _ _ _ _ _ _ _ _ _ _=>(aD2 (i:=0) (oE (xr T) (zBO rfl) T.kO T.gQ.F.kp T.gQ.b (oE (qz T) (zBO rfl) T.gK T.dH.F.kp T.dH.b (oE (qR T) (zBO rfl) T.iU T.dJ.F.kp T.dJ.b aFy))) (aC (aB 1) aH) (vU (λ _ _ h=>zL h)))) (hfree:=λ _=>aJ3 (sc:=aJ nC) (by decide+kernel))) bD)))
   bJ)
  (aN (aq (zp (aD2 (i:=0) (oE (xr T) (zBO rfl) T.kO T.gQ.F.kp T.gQ.b (oE (qz T) (zBO rfl) T.gK T.dH.F.kp T.dH.b (oE (qR T) (zBO rfl) T.iU T.dJ.F.kp T.dJ.b aFy))) (aC (aB 1) aH) (vU (λ _ _ h=>zL h))) (aB 2)))))
def aOQ(T:Txt K mg t)(B:aQI K base mg t.dj Pt):cB P w K mg base (CX1 P w) 13 t.aNB t.aAq ["_law_script"] (spT K (au mg) 1 aK5 Pt "_law_right.<locals>.<lambda>"):=
 aMM (k:=12) (f:=aAq) T.aKI aN4 λ n _ _ _ _ _ _ _ hT=>
  (aL (kh (jK (aC (aGF T.aMz (aC aG (aC (aGE T.aMy (aC (nQ T.rC (aC (aB 0) aH)) (aC aG aH))) aH))) aH) T.gm) (gY (ks:=[1]))
   (aL (bG (i:=2) (eQ (aV (aAN T) T.uC (aC (aB 0) (aC (aB 1) aH)))))
   (aL (bG (i:=3) (eQ (aV (aFP T) T.aBv (aC (aB 2) (aC aG aH)))))
   (aL (bG (i:=4) (eQ (aV (aAL T) T.uA (aC (aB 2) (aC aG aH)))))
   (aL (my (i:=5) (eQ (nO (aC (aV (oK T) T.lE (aC (aB 3) (aC bD aH))) (aC (aV (oK T) T.lE (aC (aB 4) (aC bD aH))) (aC (aV (uW T) T.nG (aC (aV (aBJ T) T.vm (aC (aB 2) (aC aG (aC (aQ (aB 3) aG) aH)))) aH)) aH))))))
   (aL (kh (jK (aC aG aH) T.gm) (gY (ks:=[6]))
    (aL (cO (jF (dR (sE hT (g8 T B) T.dh (aC (iT (v:=.ref t.jc) T.gQ.m rfl (λ _ _=>.fn T.kO)) (aC (aQ (iR 5) aG) (aC (aV (qT T) T.mX (aC (aQ (iR 5) aG) (aC bD aH))) aH))))))
     (aN (aq nA))
     bJ)
    (aL (cO (jF (dR (sE hT (g8 T B) T.dh (aC (iT (v:=.ref t.gO) T.dJ.m rfl (λ _ _=>.fn T.iU)) (aC (aQ (iR 5) aG) (aC (aV (qT T) T.mX (aC (aQ (iR 5) aG) (aC bD aH))) aH))))))
     (aN (aq nA))
     bJ)
    (aL (cO (jF (dR (sE hT (g8 T B) T.dh (aC (iT (v:=.ref t.fZ) T.dH.m rfl (λ _ _=>.fn T.gK)) (aC (aQ (iR 5) aG) (aC (aV (vL T) T.oX (aC (aQ (iR 5) aG) aH)) aH))))))
     (aN (aq nA))
     bJ)
    (aN (my (i:=5) (aIH (N:=["_law_j","_law_text","_law_cell","_law_turn_here"]) (js:=[none,none,some 2,some 6]) (ks:=[0,1]) (aIT (aC (aB 5) aH) T.aDu) (aEs (n:=2) (oH cL (oH cL aCQ))) iW (aV (aAM T) T.uB (aC (aB 2) (aC (cJ (cJ aG (uK aG (aB 3))) (uK aG (aB 0))) (aC (aB 1) aH)))))))))))
   (aL (my (i:=7) (eQ (aQ (nO (aC jM (aC aG (aC (gH (aC aG (aC aG aH))) (aC (nO (aC bD aH)) (aC nA (aC aKx (aC (gH aH) aH)))))))) (aV (bT T) T.bh (aC (aB 2) (aC aG (aC aG aH)))))))
   (aN (cO (jF (dR (aEw T.aJP (aC (qP (N:=["_law_read","_law_odd"]) (js:=[none,some 7]) (ks:=[0]) (jJ (nO (aC (iT (v:=.ref t.jc) T.gQ.m rfl (λ _ _=>.fn T.kO)) (aC (iT (v:=.ref t.gO) T.dJ.m rfl (λ _ _=>.fn T.iU)) (aC (iT (v:=.ref t.fZ) T.dH.m rfl (λ _ _=>.fn T.gK)) aH))))) cL iW (sE hT (g8 T B) T.dh (aC (aB 0) (aC (aB 1) (aC jM aH))))) aH))))
    (aN (aq nA))
    bJ)))))))))
  (aN (aq (lz (sE hT (g8 T B) T.dh (aC (iT (v:=.ref t.jc) T.gQ.m rfl (λ _ _=>.fn T.kO)) (aC bD (aC jM aH)))) (lw (sE hT (g8 T B) T.dh (aC (iT (v:=.ref t.fZ) T.dH.m rfl (λ _ _=>.fn T.gK)) (aC bD (aC jM aH)))))))))
end
def aNJ{K:zAA}{h:Heap}{mg:Str->Option Value}{tk_MOST_PLACES:Tok}{tk_NONE:Tok}{q_FewError:Addr}{q_NoWeb:Addr}{q_NoPlace:Addr}{q_NoWay:Addr}{q_NoParting:Addr}{q_TooMany:Addr}{q_NoForest:Addr}{q_NoPlan:Addr}{q_NoOneWay:Addr}{q_NoOrder:Addr}{q_NoText:Addr}{q_NoDeed:Addr}{q_NoRow:Addr}(X:K.In h)(G:h.Ns zAT mg)
  (h0:∃f d,Enr K "is_whole" uT f d)
  (h1:∃f d,Enr K "is_many" wW f d)
  (h2:∃f d,Enr K "is_place" uU f d)
  (h3:∃f d,Enr K "is_pair" wV f d)
  (h4:∃f d,Enr K "is_rising" qu f d)
  (h5:∃f d,Enr K "are_rising_pairs" iY f d)
  (h6:∃f d,Enr K "are_ties" uV f d)
  (h7:∃f d,Enr K "are_places" pO f d)
  (h8:∃f d,Enr K "is_web" aAB f d)
  (h9:∃f d,Enr K "check_web" qw f d)
  (h10:∃f d,Enr K "is_one_way" pN f d)
  (h11:∃f d,Enr K "check_one_way" lA f d)
  (h12:∃f d,Enr K "row_text" uP f d)
  (h13:∃f d,Enr K "pairs_text" pI f d)
  (h14:∃f d,Enr K "web_text" uN f d)
  (h15:∃f d,Enr K "one_way_text" mC f d)
  (h16:∃f d,Enr K "numbers_read" mF f d)
  (h17:∃f d,Enr K "pairs_read" pJ f d)
  (h18:∃f d,Enr K "web_read" uO f d)
  (h19:∃f d,Enr K "one_way_read" mD f d)
  (h20:∃f d,Enr K "places_read" nU f d)
  (h21:∃f d,Enr K "_law_cell_at" n6 f d)
  (h22:∃f d,Enr K "_law_draw" uR f d)
  (h23:∃f d,Enr K "_law_class" qt f d)
  (h24:∃f d,Enr K "_law_refused" nW f d)
  (h25:∃f d,Enr K "_law_turn" uQ f d)
  (h26:∃f d,Enr K "_law_web" wU f d)
  (h27:∃f d,Enr K "_law_one_way" nY f d)
  (h28:∃f d,Enr K "_law_rising" pK f d)
  (h29:∃f d,Enr K "_law_places" pL f d)
  (h30:∃f d,Enr K "_law_rows_text" km f d)
  (h31:∃f d,Enr K "_law_places_text" jN f d)
  (h32:∃f d,Enr K "_law_number" pM f d)
  (h33:∃f d,Enr K "_law_rows_due" mG f d)
  (h34:∃f d,Enr K "_law_places_due" j6 f d)
  (h35:∃f d,Enr K "_law_changed" nZ f d)
  (h36:∃f d,Enr K "_law_right" nC f d)
  (h37:∃f d,Enr K "law" aIX f d)
  (fY:zA4 K zAT "MOST_PLACES"=some (some (.int 60 tk_MOST_PLACES)))
  (aCq:zA4 K zAT "NONE"=some (some (.str "none" tk_NONE)))
  (y_FewError:zA4 K zAT "FewError"=some (some (.ref q_FewError)))
  (lX:cW K q_FewError)
  (y_NoWeb:zA4 K zAT "NoWeb"=some (some (.ref q_NoWeb)))
  (uq:cW K q_NoWeb)
  (y_NoPlace:zA4 K zAT "NoPlace"=some (some (.ref q_NoPlace)))
  (rm:cW K q_NoPlace)
  (y_NoWay:zA4 K zAT "NoWay"=some (some (.ref q_NoWay)))
  (yw:cW K q_NoWay)
  (y_NoParting:zA4 K zAT "NoParting"=some (some (.ref q_NoParting)))
  (m9:cW K q_NoParting)
  (y_TooMany:zA4 K zAT "TooMany"=some (some (.ref q_TooMany)))
  (rZ:cW K q_TooMany)
  (y_NoForest:zA4 K zAT "NoForest"=some (some (.ref q_NoForest)))
  (pA:cW K q_NoForest)
  (y_NoPlan:zA4 K zAT "NoPlan"=some (some (.ref q_NoPlan)))
  (ur:cW K q_NoPlan)
  (y_NoOneWay:zA4 K zAT "NoOneWay"=some (some (.ref q_NoOneWay)))
  (lW:cW K q_NoOneWay)
  (y_NoOrder:zA4 K zAT "NoOrder"=some (some (.ref q_NoOrder)))
  (rn:cW K q_NoOrder)
  (y_NoText:zA4 K zAT "NoText"=some (some (.ref q_NoText)))
  (lU:cW K q_NoText)
  (y_NoDeed:zA4 K zAT "NoDeed"=some (some (.ref q_NoDeed)))
  (ut:cW K q_NoDeed)
  (y_NoRow:zA4 K zAT "NoRow"=some (some (.ref q_NoRow)))
  (yx:cW K q_NoRow)
  (cb:L2.aFk K q_FewError [q_NoWeb,q_NoPlace,q_NoWay,q_NoParting,q_TooMany,q_NoForest,q_NoPlan,q_NoOneWay,q_NoOrder,q_NoText,q_NoDeed,q_NoRow]=true)
  (z_ValueError:zA4 K zAT "ValueError"=some none)
  (z_all:zA4 K zAT "all"=some none)
  (z_bool:zA4 K zAT "bool"=some none)
  (z_enumerate:zA4 K zAT "enumerate"=some none)
  (z_int:zA4 K zAT "int"=some none)
  (z_isinstance:zA4 K zAT "isinstance"=some none)
  (z_len:zA4 K zAT "len"=some none)
  (z_max:zA4 K zAT "max"=some none)
  (z_min:zA4 K zAT "min"=some none)
  (z_range:zA4 K zAT "range"=some none)
  (z_set:zA4 K zAT "set"=some none)
  (z_sorted:zA4 K zAT "sorted"=some none)
  (z_str:zA4 K zAT "str"=some none)
  (z_tuple:zA4 K zAT "tuple"=some none):
  ∃t,Txt K mg t:=by
 obtain⟨f0,d0,F0,a0⟩:=dnr X G h0 ["thing"];obtain⟨f1,d1,F1,a1⟩:=dnr X G h1 ["thing"];obtain⟨f2,d2,F2,a2⟩:=dnr X G h2 ["many","thing"];obtain⟨f3,d3,F3,a3⟩:=dnr X G h3 ["many","thing"];obtain⟨f4,d4,F4,a4⟩:=dnr X G h4 ["things"];obtain⟨f5,d5,F5,a5⟩:=dnr X G h5 ["many","thing"];obtain⟨f6,d6,F6,a6⟩:=dnr X G h6 ["many","thing"];obtain⟨f7,d7,F7,a7⟩:=dnr X G h7 ["many","thing"];obtain⟨f8,d8,F8,a8⟩:=dnr X G h8 ["thing"];obtain⟨f9,d9,F9,a9⟩:=dnr X G h9 ["thing"];obtain⟨f10,d10,F10,a10⟩:=dnr X G h10 ["thing"];obtain⟨f11,d11,F11,a11⟩:=dnr X G h11 ["thing"];obtain⟨f12,d12,F12,a12⟩:=dnr X G h12 ["places","sign"];obtain⟨f13,d13,F13,a13⟩:=dnr X G h13 ["many","pairs","sign"];obtain⟨f14,d14,F14,a14⟩:=dnr X G h14 ["web"];obtain⟨f15,d15,F15,a15⟩:=dnr X G h15 ["web"];obtain⟨f16,d16,F16,a16⟩:=dnr X G h16 ["words"];obtain⟨f17,d17,F17,a17⟩:=dnr X G h17 ["text","sign"];obtain⟨f18,d18,F18,a18⟩:=dnr X G h18 ["text"];obtain⟨f19,d19,F19,a19⟩:=dnr X G h19 ["text"];obtain⟨f20,d20,F20,a20⟩:=dnr X G h20 ["text"];obtain⟨f21,d21,F21,a21⟩:=dnr X G h21 ["_law_script","_law_k"];obtain⟨f22,d22,F22,a22⟩:=dnr X G h22 ["_law_cell","_law_k","_law_bound"];obtain⟨f23,d23,F23,a23⟩:=dnr X G h23 ["_law_error"];obtain⟨f24,d24,F24,a24⟩:=dnr X G h24 ["_law_call"];obtain⟨f25,d25,F25,a25⟩:=dnr X G h25 ["_law_cell","_law_many"];obtain⟨f26,d26,F26,a26⟩:=dnr X G h26 ["_law_cell","_law_most"];obtain⟨f27,d27,F27,a27⟩:=dnr X G h27 ["_law_cell","_law_most"];obtain⟨f28,d28,F28,a28⟩:=dnr X G h28 ["_law_row"];obtain⟨f29,d29,F29,a29⟩:=dnr X G h29 ["_law_cell","_law_spot","_law_many"];obtain⟨f30,d30,F30,a30⟩:=dnr X G h30 ["_law_web_here","_law_sign"];obtain⟨f31,d31,F31,a31⟩:=dnr X G h31 ["_law_places_here"];obtain⟨f32,d32,F32,a32⟩:=dnr X G h32 ["_law_word","_law_most"];obtain⟨f33,d33,F33,a33⟩:=dnr X G h33 ["_law_text","_law_sign"];obtain⟨f34,d34,F34,a34⟩:=dnr X G h34 ["_law_text"];obtain⟨f35,d35,F35,a35⟩:=dnr X G h35 ["_law_cell","_law_spot","_law_text"];obtain⟨f36,d36,F36,a36⟩:=dnr X G h36 ["_law_read","_law_text","_law_due"];obtain⟨f37,d37,F37,a37⟩:=dnr X G h37 ["_law_script"]
 exact⟨⟨f0,_,f1,_,f2,_,f3,_,f4,_,f5,_,f6,_,f7,_,f8,_,f9,_,f10,_,f11,_,f12,_,f13,_,f14,_,f15,_,f16,_,f17,_,f18,_,f19,_,f20,_,f21,_,f22,_,f23,_,f24,_,f25,_,f26,_,f27,_,f28,_,f29,_,f30,_,f31,_,f32,_,f33,_,f34,_,f35,_,f36,_,f37,_,_,_,q_FewError,q_NoWeb,q_NoPlace,q_NoWay,q_NoParting,q_TooMany,q_NoForest,q_NoPlan,q_NoOneWay,q_NoOrder,q_NoText,q_NoDeed,q_NoRow⟩,⟨F0,F1,F2,F3,F4,F5,F6,F7,F8,F9,F10,F11,F12,F13,F14,F15,F16,F17,F18,a18,F19,a19,F20,a20,F21,F22,F23,F24,F25,F26,F27,F28,F29,F30,F31,F32,F33,F34,F35,F36,F37,zAa X G fY,⟨_,rfl⟩,zAa X G aCq,⟨_,rfl⟩,zAa X G y_FewError,(by unfold au;rw[zAa X G y_FewError]),lX,zAa X G y_NoWeb,(by unfold au;rw[zAa X G y_NoWeb]),uq,zAa X G y_NoPlace,(by unfold au;rw[zAa X G y_NoPlace]),rm,zAa X G y_NoWay,(by unfold au;rw[zAa X G y_NoWay]),yw,zAa X G y_NoParting,(by unfold au;rw[zAa X G y_NoParting]),m9,zAa X G y_TooMany,(by unfold au;rw[zAa X G y_TooMany]),rZ,zAa X G y_NoForest,(by unfold au;rw[zAa X G y_NoForest]),pA,zAa X G y_NoPlan,(by unfold au;rw[zAa X G y_NoPlan]),ur,zAa X G y_NoOneWay,(by unfold au;rw[zAa X G y_NoOneWay]),lW,zAa X G y_NoOrder,(by unfold au;rw[zAa X G y_NoOrder]),rn,zAa X G y_NoText,(by unfold au;rw[zAa X G y_NoText]),lU,zAa X G y_NoDeed,(by unfold au;rw[zAa X G y_NoDeed]),ut,zAa X G y_NoRow,(by unfold au;rw[zAa X G y_NoRow]),yx,zAu X G z_ValueError,zAu X G z_all,zAu X G z_bool,zAu X G z_enumerate,zAu X G z_int,zAu X G z_isinstance,zAu X G z_len,zAu X G z_max,zAu X G z_min,zAu X G z_range,zAu X G z_set,zAu X G z_sorted,zAu X G z_str,zAu X G z_tuple,cb⟩⟩
def aOu{l:zEy}{w:World}{K:zAA}{h:Heap}{mg:Str->Option Value}{fa Pt:Addr}(X:K.In h)(G:h.Ns zAT mg)(hfa:mg "law"=some (.ref fa))(hB:aF5 K "_law_right" Pt=true)(ht:∃t,Txt K mg t):
  ∃(fd:zA5) (c:Addr),K.lookup Pt=none/\zBr K c Pt=true/\(∀(s:zAD) (v:Value),zFW s fd ⟨[v],[]⟩ [("_law_script",v)])/\∀base:Heap,K.In base->base.BuiltinsAt mg Pt->zAT≠Pt->cB l.prog w K mg base (CX1 l.prog w) 13 fa fd ["_law_script"] (z9 K Pt "_law_right.<locals>.<lambda>"):=by
 obtain⟨t,T⟩:=ht;have e:=hfa.symm.trans T.aKI.m;cases e;obtain⟨oc,od,kV,doc,pm,an,cdv,ct,osl,e1,lk,hcd⟩:=T.dh.F.ex;obtain⟨h1,c,h2,h3⟩:=aH1 X G T.dh.m hB lk rfl;refine⟨t.aAq,c,h1,h3,λ s v=>?_,λ base k1 k2 k3=>(aOQ T ⟨k1,k2,k3,c,h2,h3⟩).imp (aJ2 aJ1)⟩;obtain⟨oc,od,kV,doc,pm,an,cdv,ct,osl,e,lk,hcd⟩:=T.aKI.F.ex;rw[e];exact .of_eq rfl
def walk{l:zEy}{q:zAS}{loose:List Str}{XP:(Str->Option Value)->Heap->Prop}{YP:World->Heap->Prop}{d:DefRec}{K:Params->zAA}{Pt:Addr}(hn:l.most=some 63)(hdf:d.params.defaults=[])
  (hY:∀(w:World) (h:Heap),YP w h->(K w.params).In h/\h.get? Pt=some (zEO #[]))
  (F:∀(w:World) (mg:Str->Option Value) (fa:Addr) (h:Heap),(K w.params).In h->h.Ns zAT mg->mg d.name=some (.ref fa)->
   ∃(fd:zA5) (c:Addr),(K w.params).lookup Pt=none/\zBr (K w.params) c Pt=true/\(∀(s:zAD) (u:Value),zFW s fd ⟨[u],[]⟩ [("_law_script",u)])/\∀base:Heap,(K w.params).In base->base.BuiltinsAt mg Pt->zAT≠Pt->cB l.prog w (K w.params) mg base (CX1 l.prog w) 13 fa fd ["_law_script"] (z9 (K w.params) Pt "_law_right.<locals>.<lambda>")):
  zHh q loose XP YP l.row.toRowW d [] (λ f vs=>zHE f vs):=
 aHz hn hdf ⟨rfl,by decide,by decide⟩ hY F
end VL.My
open PySem PySem.W PyProof.Rows
set_option maxRecDepth 100000 in
set_option maxHeartbeats 0 in
theorem PySem.Challenge.cw_fewways_k82_texts_that_write_none_holds : PySem.Challenge.rw_fewways_k82_texts_that_write_none.Holds := by
 w_on; o_law; k_head; (case hw=>w_witness2)
 k_fill
 refine VL.My.walk (l:=PySem.Challenge.rw_fewways_k82_texts_that_write_none) rfl rfl (fun w h Y=>⟨PySem.W.km_in_of Y,PySem.W.km_tabs_of Y _ zAI⟩) ?F
 case F =>
  intro w mg fa h KX G hmg
  refine VL.My.aOu KX G hmg ?B ?T
  (case B=>kernel_rfl)
  case T =>
   refine' VL.My.aNJ KX G (VL.enr ?a0 ?l0 ?c0 ?k0) (VL.enr ?a1 ?l1 ?c1 ?k1) (VL.enr ?a2 ?l2 ?c2 ?k2) (VL.enr ?a3 ?l3 ?c3 ?k3) (VL.enr ?a4 ?l4 ?c4 ?k4) (VL.enr ?a5 ?l5 ?c5 ?k5) (VL.enr ?a6 ?l6 ?c6 ?k6) (VL.enr ?a7 ?l7 ?c7 ?k7) (VL.enr ?a8 ?l8 ?c8 ?k8) (VL.enr ?a9 ?l9 ?c9 ?k9) (VL.enr ?a10 ?l10 ?c10 ?k10) (VL.enr ?a11 ?l11 ?c11 ?k11) (VL.enr ?a12 ?l12 ?c12 ?k12) (VL.enr ?a13 ?l13 ?c13 ?k13) (VL.enr ?a14 ?l14 ?c14 ?k14) (VL.enr ?a15 ?l15 ?c15 ?k15) (VL.enr ?a16 ?l16 ?c16 ?k16) (VL.enr ?a17 ?l17 ?c17 ?k17) (VL.enr ?a18 ?l18 ?c18 ?k18) (VL.enr ?a19 ?l19 ?c19 ?k19) (VL.enr ?a20 ?l20 ?c20 ?k20) (VL.enr ?a21 ?l21 ?c21 ?k21) (VL.enr ?a22 ?l22 ?c22 ?k22) (VL.enr ?a23 ?l23 ?c23 ?k23) (VL.enr ?a24 ?l24 ?c24 ?k24) (VL.enr ?a25 ?l25 ?c25 ?k25) (VL.enr ?a26 ?l26 ?c26 ?k26) (VL.enr ?a27 ?l27 ?c27 ?k27) (VL.enr ?a28 ?l28 ?c28 ?k28) (VL.enr ?a29 ?l29 ?c29 ?k29) (VL.enr ?a30 ?l30 ?c30 ?k30) (VL.enr ?a31 ?l31 ?c31 ?k31) (VL.enr ?a32 ?l32 ?c32 ?k32) (VL.enr ?a33 ?l33 ?c33 ?k33) (VL.enr ?a34 ?l34 ?c34 ?k34) (VL.enr ?a35 ?l35 ?c35 ?k35) (VL.enr ?a36 ?l36 ?c36 ?k36) (VL.enr ?a37 ?l37 ?c37 ?k37) ?fY ?aCq ?y_FewError ?lX ?y_NoWeb ?uq ?y_NoPlace ?rm ?y_NoWay ?yw ?y_NoParting ?m9 ?y_TooMany ?rZ ?y_NoForest ?pA ?y_NoPlan ?ur ?y_NoOneWay ?lW ?y_NoOrder ?rn ?y_NoText ?lU ?y_NoDeed ?ut ?y_NoRow ?yx ?cb ?z_ValueError ?z_all ?z_bool ?z_enumerate ?z_int ?z_isinstance ?z_len ?z_max ?z_min ?z_range ?z_set ?z_sorted ?z_str ?z_tuple
   (case y_FewError=>k_is); (case lX=>unfold L2.cW; k_exc)
   (case y_NoWeb=>k_is); (case uq=>unfold L2.cW; k_exc)
   (case y_NoPlace=>k_is); (case rm=>unfold L2.cW; k_exc)
   (case y_NoWay=>k_is); (case yw=>unfold L2.cW; k_exc)
   (case y_NoParting=>k_is); (case m9=>unfold L2.cW; k_exc)
   (case y_TooMany=>k_is); (case rZ=>unfold L2.cW; k_exc)
   (case y_NoForest=>k_is); (case pA=>unfold L2.cW; k_exc)
   (case y_NoPlan=>k_is); (case ur=>unfold L2.cW; k_exc)
   (case y_NoOneWay=>k_is); (case lW=>unfold L2.cW; k_exc)
   (case y_NoOrder=>k_is); (case rn=>unfold L2.cW; k_exc)
   (case y_NoText=>k_is); (case lU=>unfold L2.cW; k_exc)
   (case y_NoDeed=>k_is); (case ut=>unfold L2.cW; k_exc)
   (case y_NoRow=>k_is); (case yx=>unfold L2.cW; k_exc)
   (case cb=>kernel_rfl)
   any_goals k_is
